/- Rows of vectors: carillonlaw00.Vectors (a copy). -/
import Derived.Test.YtdknecekebmkmaaRowG
import Derived.Test.YtdknecekebmkmaaVecVal
namespace Go.Proofs.Ytdknecekebmkmaa
open Go.RowKit Go.Proofs
set_option maxRecDepth 50000
set_option linter.unusedVariables false
set_option linter.unusedSimpArgs false

def vecK : RowK Vc := ⟨vcL, 11, by decide, vcL_length, vcL_one⟩
theorem vec_info : (Try.prog.info? 32).map (fun i => (i.zero, i.size, i.bytes)) = some (some (.agg (vcL zeroV).toArray), vecK.n, 88) := by kernel_rfl

end Go.Proofs.Ytdknecekebmkmaa
