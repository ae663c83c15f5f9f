/- The walks of chapter 20's laws: from the contracts, and these from the program's own (gen_srvown.py). -/
import Derived.Test.YtpiohedfhhkkhaaSrvLaws1
import Derived.Test.YtpiohedfhhkkhaaSrvLaws2
import Derived.Test.YtpiohedfhhkkhaaSrvLaws3
import Derived.Test.YtpiohedfhhkkhaaSrvLaws4
import Derived.Test.YtpiohedfhhkkhaaSrvLaws5
import Derived.Test.YtpiohedfhhkkhaaSrvOwn
namespace Go.Proofs.Ytpiohedfhhkkhaa
open Go.RowKit Go.Proofs
set_option maxRecDepth 50000
set_option linter.unusedVariables false
set_option linter.unusedSimpArgs false

theorem servoBounds_walk {w : World} (kp : Int) (h0 : (Lit.int .i64 kp).wf = true) (ki : Int) (h1 : (Lit.int .i64 ki).wf = true) (sp : Int) (h2 : (Lit.int .i64 sp).wf = true) (v : Value) (l : List Int) (hI3 : Ints w v l) (hz3 : l.length * 8 ≤ 140737488351232) :
    Calls Try.prog 3 #[.int .i64 kp, .int .i64 ki, .int .i64 sp, v] w fun e w' => e = .returned (.bool true) ∧ Below w.heap.size w w' :=
  servoBounds_from ownNewV ownSamp ownStaV ownFreV ownDriV kp ki sp v l w hI3

theorem servoSigns_walk {w : World} (kp : Int) (h0 : (Lit.int .i64 kp).wf = true) (ki : Int) (h1 : (Lit.int .i64 ki).wf = true) (v : Value) (l : List Int) (hI2 : Ints w v l) (hz2 : l.length * 8 ≤ 140737488351232) :
    Calls Try.prog 4 #[.int .i64 kp, .int .i64 ki, v] w fun e w' => e = .returned (.bool true) ∧ Below w.heap.size w w' :=
  servoSigns_from ownNewV ownSamp ownStaV ownDriV kp ki v l w hI2

theorem servoSettles_walk (rate : Int) (h0 : (Lit.int .i64 rate).wf = true) (first : Int) (h1 : (Lit.int .i64 first).wf = true) (w : World) :
    Calls Try.prog 5 #[.int .i64 rate, .int .i64 first] w fun e w' => e = .returned (.bool true) ∧ Below w.heap.size w w' :=
  servoSettles_from ownNewV ownSamp ownStaV rate first w 

theorem servoResets_walk {w : World} (kp : Int) (h0 : (Lit.int .i64 kp).wf = true) (ki : Int) (h1 : (Lit.int .i64 ki).wf = true) (sp : Int) (h2 : (Lit.int .i64 sp).wf = true) (v : Value) (l : List Int) (hI3 : Ints w v l) (hz3 : l.length * 8 ≤ 140737488351232) (v2 : Value) (l2 : List Int) (hI4 : Ints w v2 l2) (hz4 : l2.length * 8 ≤ 140737488351232) :
    Calls Try.prog 6 #[.int .i64 kp, .int .i64 ki, .int .i64 sp, v, v2] w fun e w' => e = .returned (.bool true) ∧ Below w.heap.size w w' :=
  servoResets_from ownNewV samp_any ownStaV ownFreV ownDriV ownRstV kp ki sp v l v2 l2 w hI3 hI4

theorem servoClamps_walk (kp : Int) (h0 : (Lit.int .i64 kp).wf = true) (n : Int) (h1 : (Lit.int .i64 n).wf = true) (w : World) :
    Calls Try.prog 7 #[.int .i64 kp, .int .i64 n] w fun e w' => e = .returned (.bool true) ∧ Below w.heap.size w w' :=
  servoClamps_from ownNewV ownSamp ownStaV ownDriV kp n w 

theorem servoFirst_walk {w : World} (kp : Int) (h0 : (Lit.int .i64 kp).wf = true) (ki : Int) (h1 : (Lit.int .i64 ki).wf = true) (sp : Int) (h2 : (Lit.int .i64 sp).wf = true) (first : Int) (h3 : (Lit.int .i64 first).wf = true) (v : Value) (l : List Int) (hI4 : Ints w v l) (hz4 : l.length * 8 ≤ 140737488351232) :
    Calls Try.prog 8 #[.int .i64 kp, .int .i64 ki, .int .i64 sp, .int .i64 first, v] w fun e w' => e = .returned (.bool true) ∧ Below w.heap.size w w' :=
  servoFirst_from ownNewV ownSamp ownStaV ownDriV kp ki sp first v l w hI4

end Go.Proofs.Ytpiohedfhhkkhaa
