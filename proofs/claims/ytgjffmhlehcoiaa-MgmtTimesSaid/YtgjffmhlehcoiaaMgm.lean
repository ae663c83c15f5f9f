/- What a clock answers, plainly (chapter 22), and the contract of the program's own (gen_mgmlaws.py). -/
import Derived.Test.YtgjffmhlehcoiaaPar
import Derived.Test.YtgjffmhlehcoiaaStamp
import Derived.Test.YtgjffmhlehcoiaaIdentb
import Derived.Test.YtgjffmhlehcoiaaQualc
import Derived.Test.YtgjffmhlehcoiaaNum
import Derived.Test.YtgjffmhlehcoiaaConfVal
namespace Go.Proofs.Ytgjffmhlehcoiaa
open Go.RowKit Go.Proofs
set_option maxRecDepth 50000
set_option linter.unusedVariables false
set_option linter.unusedSimpArgs false

structure Vw where
  c : Cf
  p : Pa
  off : Int
  dl : Int
  nw : Int
  st : Int
  pe : Int
  po : Int
def vwL (v : Vw) : List Value := cfL v.c ++ paL v.p ++ [.int .i64 v.off, .int .i64 v.dl, .int .i64 v.nw, .int .i64 v.st, .int .i64 v.pe, .int .i64 v.po]
def zeroP : Pa := ⟨0, 0, 0, 0, 0, 0, 0, 0, 0, 0, 0, 0⟩
def vw0 (c : Cf) : Vw := ⟨c, zeroP, 0, 0, 0, 0, 0, 0⟩
def satI (x : Int) : Int := if 140737488355327 < x then 9223372036854775807 else if x < -140737488355328 then -9223372036854775808 else x * 65536
def bitI (b : Bool) : Int := if b then 1 else 0
def twoS (x : Int) : List UInt8 := putS x 1 ++ putS 0 1
def sizeI (id : Int) : Int :=
  if id = 0 ∨ id = 8205 ∨ id = 8206 then 0 else if id = 5 then 2 else if id = 8192 then 20 else if id = 8193 then 18 else if id = 8194 then 32 else if id = 8195 then 4
  else if id = 8196 then 26 else if id = 8207 then 10 else if 8197 ≤ id ∧ id ≤ 8208 then 2 else -1
def cmdB (id : Int) : Bool := decide (id = 5 ∨ id = 8205 ∨ id = 8206)
def fixB (id : Int) : Bool := decide ((8192 ≤ id ∧ id ≤ 8196) ∨ id = 8204 ∨ id = 8207)
def defS (c : Cf) : List UInt8 := putS (bitI (!c.os) + 2 * bitI c.so) 1 ++ putS 0 1 ++ putS c.po 2 ++ putS c.p1 1 ++ qualS c.qc c.qa c.qv ++ putS c.p2 1 ++ putN c.cl.toNat 8 ++ putS c.dm 1 ++ putS 0 1
def curS (v : Vw) : List UInt8 := putS v.p.st 2 ++ putS (satI v.off) 8 ++ putS (satI v.dl) 8
def parS (p : Pa) : List UInt8 := portS p.pc p.pp ++ [0, 0, 255, 255, 127, 255, 255, 255] ++ putS p.p1 1 ++ qualS p.qc p.qa p.qv ++ putS p.p2 1 ++ putN p.gr.toNat 8
def timS (p : Pa) : List UInt8 := putS p.ut 2 ++ putS (p.fl % 64) 1 ++ putS p.og 1
def porS (v : Vw) : List UInt8 := portS v.c.cl v.po ++ putS v.st 1 ++ putS v.c.ld 1 ++ putS (satI v.pe) 8 ++ putS v.c.la 1 ++ putS v.c.tm 1 ++ putS v.c.ls 1 ++ putS (1 + bitI v.c.pe) 1 ++ putS v.c.ld 1 ++ putS 2 1
def toldS (v : Vw) (id : Int) : List UInt8 :=
  if id = 8192 then defS v.c else if id = 8193 then curS v else if id = 8194 then parS v.p else if id = 8195 then timS v.p else if id = 8196 then porS v
  else if id = 8197 then twoS v.c.p1 else if id = 8198 then twoS v.c.p2 else if id = 8199 then twoS v.c.dm else if id = 8200 then twoS (bitI v.c.so) else if id = 8201 then twoS v.c.la
  else if id = 8202 then twoS v.c.tm else if id = 8203 then twoS v.c.ls else if id = 8204 then twoS 2 else if id = 8207 then stampS v.nw else if id = 8208 then twoS v.c.qa else []
def setM (c : Cf) (id : Int) (data : List UInt8) : Cf :=
  if id = 8197 then { c with p1 := numAt data 0 1 } else if id = 8198 then { c with p2 := numAt data 0 1 } else if id = 8199 then { c with dm := numAt data 0 1 }
  else if id = 8200 then { c with so := decide (numAt data 0 1 % 2 = 1) } else if id = 8201 then { c with la := signedAt data 0 1 } else if id = 8202 then { c with tm := numAt data 0 1 }
  else if id = 8203 then { c with ls := signedAt data 0 1 } else if id = 8208 then { c with qa := numAt data 0 1 } else c
structure An where
  s : List UInt8
  c : Cf
  e : Int
def setA (v : Vw) (id : Int) (d : Cf) : An := if CfOk d then ⟨toldS { v with c := d } id, d, 0⟩ else ⟨[], v.c, 4⟩
def ansP (v : Vw) (a id : Int) (data : List UInt8) : An :=
  if sizeI id < 0 then ⟨[], v.c, 2⟩ else if a ≠ 0 ∧ a ≠ 1 ∧ a ≠ 3 then ⟨[], v.c, 6⟩ else if a = 3 ∧ id ≠ 0 ∧ cmdB id = false then ⟨[], v.c, 6⟩
  else if a ≠ 3 ∧ cmdB id = true then ⟨[], v.c, 6⟩ else if a = 0 then ⟨toldS v id, v.c, 0⟩ else if a = 1 ∧ fixB id = true then ⟨[], v.c, 5⟩
  else if (data.length : Int) ≠ sizeI id then ⟨[], v.c, 3⟩ else if a = 3 then ⟨data, v.c, 0⟩ else setA v id (setM v.c id data)
def knownI (id : Int) : Bool := decide (0 ≤ sizeI id)
def perB (id : Int) : Bool := decide (id = 8196 ∨ id = 8205 ∨ id = 8206)
def VwIn (v : Vw) : Prop := CfOk v.c ∧ U64 v.c.cl ∧ PaIn v.p ∧ I64 v.off ∧ I64 v.dl ∧ I64 v.nw ∧ I64 v.st ∧ I64 v.pe ∧ I64 v.po

def CAnsM : Prop := ∀ (v : Vw) (a id : Int) (data : List UInt8) (w : World), VwIn v → data.length ≤ 300 →
  Calls Try.prog 12 #[.agg (vwL v).toArray, .int .i64 a, .int .i64 id, .string ⟨data.toArray⟩] w fun e w' =>
    e = .returned (.tuple #[.string ⟨(ansP v a id data).s.toArray⟩, .agg (cfL (ansP v a id data).c).toArray, .int .i64 (ansP v a id data).e]) ∧ Below w.heap.size w w'
def CKnoM : Prop := ∀ (id : Int) (w : World), Calls Try.prog 13 #[.int .i64 id] w fun e w' => e = .returned (.bool (knownI id)) ∧ Below w.heap.size w w'
def CPerM : Prop := ∀ (id : Int) (w : World), Calls Try.prog 18 #[.int .i64 id] w fun e w' => e = .returned (.bool (perB id)) ∧ Below w.heap.size w w'
end Go.Proofs.Ytgjffmhlehcoiaa
