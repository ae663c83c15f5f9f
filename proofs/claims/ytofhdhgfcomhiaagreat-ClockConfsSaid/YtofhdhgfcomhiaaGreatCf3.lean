/- Of what laws of the clock want, part 3: Msg MsgB Str MsK Par Build ParRef Row Qual MgmChk (mini.py). -/
import Derived.Test.YtofhdhgfcomhiaaGreatCf2
namespace Go.Proofs.YtofhdhgfcomhiaaGreat
open Go.RowKit Go.Proofs
set_option maxRecDepth 100000
set_option maxHeartbeats 100000000
set_option linter.unusedVariables false
set_option linter.unusedSimpArgs false
open Tryz
variable {B:Nat} {P:Program} {Q:Exit→Act→World→Prop} {S:World→Prop} {a:Act} {b:Nat} {base:Nat} {cap:Nat} {fuel:Nat} {g:Nat} {h:Nat} {i:Nat} {l:List UInt8} {listed:Array Bool} {n:Nat} {now:Int} {o:Oper} {oi:Oper} {op:Oper} {ops:Array Oper} {p:Prop} {rest:List Oper} {t:TypeId} {v:Value} {w:World} {w':World} {xs:List Value} {α:Type}
structure Hd where
 ty:Int
 dm:Int
 fl:Int
 co:Int
 sc:Int
 sp:Int
 sq:Int
 lg:Int
def dn (h:Hd) (r:List Value):List Value:=.int .i64 h.ty::.int .i64 h.dm::.int .i64 h.fl::.int .i64 h.co::.int .u64 h.sc::.int .i64 h.sp::.int .i64 h.sq::.int .i64 h.lg::r
theorem eT (h:Hd) (r:List Value) (hr:r.length=15):(dn h r).length=23:=by simp [dn,hr]
def HdAt (W:World) (g:Nat) (h:Hd):Prop:=
 ∀wx,Below W.heap.size W wx→wx.cell? ⟨g,0,none⟩=some (.int .i64 h.ty)∧wx.cell? ⟨g,1,none⟩=some (.int .i64 h.dm)∧wx.cell? ⟨g,2,none⟩=some (.int .i64 h.fl)∧wx.cell? ⟨g,3,none⟩=some (.int .i64 h.co) ∧
  wx.cell? ⟨g,4,none⟩=some (.int .u64 h.sc)∧wx.cell? ⟨g,5,none⟩=some (.int .i64 h.sp)∧wx.cell? ⟨g,6,none⟩=some (.int .i64 h.sq)∧wx.cell? ⟨g,7,none⟩=some (.int .i64 h.lg)
theorem ak.hd {h:Hd} {r:List Value} (hB:ak w g (dn h r) t):HdAt w g h:=fun wx hb=>
 ⟨(hB.below hb).cell 0 _ rfl,(hB.below hb).cell 1 _ rfl,(hB.below hb).cell 2 _ rfl,(hB.below hb).cell 3 _ rfl,(hB.below hb).cell 4 _ rfl,(hB.below hb).cell 5 _ rfl,(hB.below hb).cell 6 _ rfl,(hB.below hb).cell 7 _ rfl⟩
theorem iM:(prog.info? 56).map (·.size)=some 23:=by kernel_rfl
theorem ak.range (h:ak w g xs t):w.rangeAt g 0 xs:=fun j v hj=>by rw [Nat.zero_add];exact h.cell j v hj
def CU (h:Hd):Prop:=0≤h.sc∧h.sc<18446744073709551616∧(-9223372036854775808≤h.co∧h.co≤9223372036854775807)
theorem bU (hgd:op.guard=none) (x:Operand) (ho:op.op=.load 56 x)
  (g:Nat) (hx:a.eval x=.pointer (some ⟨g,0,none⟩)) (xs:List Value) (t:TypeId) (hB:ak w g xs t) (hl:xs.length=23)
  (h:wpList prog ops Q rest (a.put op.dst (.agg xs.toArray)) w):wpList prog ops Q (op::rest) a w:=
 wpList_load_mid hgd _ x ho g 0 hx xs _ hB.range underlying56 rfl (by rw [iM,hl]) h
theorem dA (hgd:op.guard=none) (x y:Operand) (ho:op.op=.store 56 x y)
  (g:Nat) (xs old:List Value) (t:TypeId) (hx:a.eval x=.pointer (some ⟨g,0,none⟩)) (hy:a.eval y=.agg xs.toArray) (hB:ak w g old t) (hl:xs.length=23) (hol:old.length=23) (h1:∀v ∈ xs,v.oneCell'=true)
  (h:wpList prog ops Q rest (a.put op.dst undef) (w.setRow g xs.toArray)):wpList prog ops Q (op::rest) a w:=
 wpList_store_row hgd _ x y ho g xs.toArray hx hy t old.toArray hB (by rw [iM];simp [hl]) (by simp [hl,hol]) (all_oneCell_toArray h1) h
theorem ak.row (h:ak w g xs t) (ys:List Value):ak (w.setRow g ys.toArray) g ys t:=by exact IX
def zr:List Value:=[.int .i64 0,.int .u64 0,.int .i64 0,.int .i64 0,.int .i64 0,.int .i64 0,.int .i64 0,.int .i64 0,.int .i64 0,.int .u64 0,.int .i64 0,.int .i64 0,.int .i64 0,.int .i64 0,.int .i64 0]
theorem jT:zr.length=15:=rfl
theorem ko (h:Hd) (r:List Value) (hr:∀v ∈ r,v.oneCell'=true):∀v ∈ dn h r,v.oneCell'=true:=by intro v hv;simp only [dn,List.mem_cons] at hv;rcases hv with rfl | rfl | rfl | rfl | rfl | rfl | rfl | rfl | hv;all_goals first | rfl | exact hr v hv
def hd0:Hd:=⟨0,0,0,0,0,0,0,0⟩
theorem eY (w:World) (xs:List Value):∃W,W=w.alloc (Obj.cells xs.toArray 56)∧Below w.heap.size w W∧ak W w.heap.size xs 56:=
 ⟨_,rfl,aA _ _,ak.new _ _ _⟩
def je (h:Hd):Bool:=dW h.ty && fV h.dm 0 255 && fV h.fl 0 65535 && tH h.sp && fV h.sq 0 65535 && fV h.lg (-128) 127
theorem Le {h:Hd} (hc:je h=true):dW h.ty=true∧(0≤h.dm∧h.dm≤255)∧(0≤h.fl∧h.fl≤65535)∧(0≤h.sp∧h.sp≤65535)∧(0≤h.sq∧h.sq≤65535)∧(-128≤h.lg∧h.lg≤127):=by unfold je fV tH at hc;simp only [Bool.and_eq_true,decide_eq_true_eq] at hc;obtain ⟨⟨⟨⟨⟨h1,h2⟩,h3⟩,h4⟩,h5⟩,h6⟩:=hc;exact ⟨h1,h2,h3,h4,h5,h6⟩
theorem tN (h:Hd) (r:List Value) (w:World):Calls prog 147 #[.agg (dn h r).toArray] w fun e w'=>e=.returned (.bool (je h))∧Below w.heap.size w w':=by
 have HC:Hid (je h=(dW h.ty && fV h.dm 0 255 && fV h.fl 0 65535 && tH h.sp && fV h.sq 0 65535 && fV h.lg (-128) 127)):=hid rfl;generalize je h=cb at *;go_enter func147,ntmps147;go_upto_region 1 with fail;obtain ⟨W,iX,hbw,iq⟩:=eY w (dn h r);rw [←iX];have HH:=hid iq.hd;clear iX;obtain ⟨c0,c1,c2,c3,c4,c5,c6,c7⟩:=HH.out W (Below.refl _ _);clear iq;cases h0:dW h.ty
 ·rw [h0] at HC;go_wp2_with fail;refine (jd _ _).mono ?_;rintro e w' ⟨rfl,rfl⟩;rw [h0];exact KT
 rw [h0] at HC;cases h1:fV h.dm 0 255
 ·rw [h1] at HC;go_wp2_with fail;refine (jd _ _).mono ?_;rintro e w' ⟨rfl,rfl⟩;rw [h0];go_wp2_with fail;refine (fF _ _).mono ?_;rintro e w' ⟨rfl,rfl⟩;rw [h1];exact KT
 rw [h1] at HC;cases h2:fV h.fl 0 65535
 ·rw [h2] at HC;go_wp2_with fail;refine (jd _ _).mono ?_;rintro e w' ⟨rfl,rfl⟩;rw [h0];go_wp2_with fail;refine (fF _ _).mono ?_;rintro e w' ⟨rfl,rfl⟩;rw [h1];go_wp2_with fail;refine (dO _ _).mono ?_;rintro e w' ⟨rfl,rfl⟩;rw [h2];exact KT
 rw [h2] at HC;cases h3:tH h.sp
 ·rw [h3] at HC;go_wp2_with fail;refine (jd _ _).mono ?_;rintro e w' ⟨rfl,rfl⟩;rw [h0];go_wp2_with fail;refine (fF _ _).mono ?_;rintro e w' ⟨rfl,rfl⟩;rw [h1];go_wp2_with fail;refine (dO _ _).mono ?_;rintro e w' ⟨rfl,rfl⟩;rw [h2];go_wp2_with fail;refine (iL _ _ _).mono ?_;rintro e w1 ⟨rfl,hb1⟩;rw [h3];obtain ⟨_,_,_,_,_,_,d6,d7⟩:=HH.out w1 hb1;go_wp2_with fail;go_ret;exact ⟨by rw [HC.out];rfl,ah hbw hb1⟩
 rw [h3] at HC;cases h4:fV h.sq 0 65535
 ·rw [h4] at HC;go_wp2_with fail;refine (jd _ _).mono ?_;rintro e w' ⟨rfl,rfl⟩;rw [h0];go_wp2_with fail;refine (fF _ _).mono ?_;rintro e w' ⟨rfl,rfl⟩;rw [h1];go_wp2_with fail;refine (dO _ _).mono ?_;rintro e w' ⟨rfl,rfl⟩;rw [h2];go_wp2_with fail;refine (iL _ _ _).mono ?_;rintro e w1 ⟨rfl,hb1⟩;rw [h3];obtain ⟨_,_,_,_,_,_,d6,d7⟩:=HH.out w1 hb1;go_wp2_with fail;refine (dO _ _).mono ?_;rintro e w' ⟨rfl,rfl⟩;rw [h4];go_wp2_with fail;go_ret;exact ⟨by rw [HC.out];rfl,ah hbw hb1⟩
 rw [h4] at HC;cases h5:fV h.lg (-128) 127
 ·rw [h5] at HC;go_wp2_with fail;refine (jd _ _).mono ?_;rintro e w' ⟨rfl,rfl⟩;rw [h0];go_wp2_with fail;refine (fF _ _).mono ?_;rintro e w' ⟨rfl,rfl⟩;rw [h1];go_wp2_with fail;refine (dO _ _).mono ?_;rintro e w' ⟨rfl,rfl⟩;rw [h2];go_wp2_with fail;refine (iL _ _ _).mono ?_;rintro e w1 ⟨rfl,hb1⟩;rw [h3];obtain ⟨_,_,_,_,_,_,d6,d7⟩:=HH.out w1 hb1;go_wp2_with fail;refine (dO _ _).mono ?_;rintro e w' ⟨rfl,rfl⟩;rw [h4];unfold fV at h5;rw [decide_eq_false_iff_not] at h5;by_cases h6 : -128≤h.lg
  ·have h7:¬h.lg≤127:=by omega
   go_wp2_with fail;go_ret;exact ⟨by rw [HC.out];simp [h7],ah hbw hb1⟩
  ·go_wp2_with fail;go_ret;exact ⟨by rw [HC.out];simp [h6],ah hbw hb1⟩
 rw [h5] at HC;go_wp2_with fail;refine (jd _ _).mono ?_;rintro e w' ⟨rfl,rfl⟩;rw [h0];go_wp2_with fail;refine (fF _ _).mono ?_;rintro e w' ⟨rfl,rfl⟩;rw [h1];go_wp2_with fail;refine (dO _ _).mono ?_;rintro e w' ⟨rfl,rfl⟩;rw [h2];go_wp2_with fail;refine (iL _ _ _).mono ?_;rintro e w1 ⟨rfl,hb1⟩;rw [h3];obtain ⟨_,_,_,_,_,_,d6,d7⟩:=HH.out w1 hb1;go_wp2_with fail;refine (dO _ _).mono ?_;rintro e w' ⟨rfl,rfl⟩;rw [h4];unfold fV at h5;rw [decide_eq_true_eq] at h5;obtain ⟨h6,h7⟩:=h5;go_wp2_with fail;go_ret;exact ⟨by rw [HC.out];simp [h6,h7],ah hbw hb1⟩
theorem Ud (g:Nat) (xs:List Value) {t:TypeId} (hB:ak w g xs t) (hl:xs.length=23) (h:wpList prog ops Q rest (a.put op.dst (.agg xs.toArray)) w) {x:Operand} (hgd:op.guard=none:=by rfl) (ho:op.op=.load 56 x:=by rfl) (hx:a.eval x=.pointer (some ⟨g,0,none⟩):=by rfl):wpList prog ops Q (op::rest) a w:=bU hgd x ho g hx xs t hB hl h
theorem aSm (g:Nat) (xs old:List Value) {t:TypeId} (hB:ak w g old t) (hl:xs.length=23) (hol:old.length=23) (h1:∀v ∈ xs,v.oneCell'=true) (h:wpList prog ops Q rest (a.put op.dst undef) (w.setRow g xs.toArray)) {x y:Operand} (hgd:op.guard=none:=by rfl) (ho:op.op=.store 56 x y:=by rfl) (hx:a.eval x=.pointer (some ⟨g,0,none⟩):=by rfl) (hy:a.eval y=.agg xs.toArray:=by rfl):wpList prog ops Q (op::rest) a w:=dA hgd x y ho g xs old t hx hy hB hl hol h1 h

structure Bd where
 st:Int
 tc:Int
 tp:Int
 ut:Int
 p1:Int
 qc:Int
 qa:Int
 qv:Int
 p2:Int
 gr:Int
 sr:Int
 og:Int
 sh:Int
 hp:Int
 ac:Int
def Wn (d:Bd):List Value:=[.int .i64 d.st,.int .u64 d.tc,.int .i64 d.tp,.int .i64 d.ut,.int .i64 d.p1,.int .i64 d.qc,.int .i64 d.qa,.int .i64 d.qv,.int .i64 d.p2,.int .u64 d.gr,.int .i64 d.sr,.int .i64 d.og,.int .i64 d.sh,.int .i64 d.hp,.int .i64 d.ac]
def vC:Bd:=⟨0,0,0,0,0,0,0,0,0,0,0,0,0,0,0⟩
theorem mW (d:Bd):∀v ∈ Wn d,v.oneCell'=true:=by intro v hv;simp only [Wn,List.mem_cons,List.not_mem_nil,or_false] at hv;rcases hv with rfl | rfl | rfl | rfl | rfl | rfl | rfl | rfl | rfl | rfl | rfl | rfl | rfl | rfl | rfl <;> rfl
abbrev aH (h:Hd) (d:Bd):List Value:=dn h (Wn d)
theorem aU (h:Hd) (d:Bd):(aH h d).length=23:=rfl
def BdAt (W:World) (g:Nat) (d:Bd):Prop:=
 ∀wx,Below W.heap.size W wx→wx.cell? ⟨g,8,none⟩=some (.int .i64 d.st)∧wx.cell? ⟨g,9,none⟩=some (.int .u64 d.tc)∧wx.cell? ⟨g,10,none⟩=some (.int .i64 d.tp)∧wx.cell? ⟨g,11,none⟩=some (.int .i64 d.ut)∧wx.cell? ⟨g,12,none⟩=some (.int .i64 d.p1)∧wx.cell? ⟨g,13,none⟩=some (.int .i64 d.qc)∧wx.cell? ⟨g,14,none⟩=some (.int .i64 d.qa)∧wx.cell? ⟨g,15,none⟩=some (.int .i64 d.qv)∧wx.cell? ⟨g,16,none⟩=some (.int .i64 d.p2)∧wx.cell? ⟨g,17,none⟩=some (.int .u64 d.gr)∧wx.cell? ⟨g,18,none⟩=some (.int .i64 d.sr)∧wx.cell? ⟨g,19,none⟩=some (.int .i64 d.og)∧wx.cell? ⟨g,20,none⟩=some (.int .i64 d.sh)∧wx.cell? ⟨g,21,none⟩=some (.int .i64 d.hp)∧wx.cell? ⟨g,22,none⟩=some (.int .i64 d.ac)
theorem ak.bd {h:Hd} {d:Bd} (hB:ak w g (aH h d) t):BdAt w g d:=fun wx hb=>
 ⟨(hB.below hb).cell 8 _ rfl,(hB.below hb).cell 9 _ rfl,(hB.below hb).cell 10 _ rfl,(hB.below hb).cell 11 _ rfl,(hB.below hb).cell 12 _ rfl,(hB.below hb).cell 13 _ rfl,(hB.below hb).cell 14 _ rfl,(hB.below hb).cell 15 _ rfl,(hB.below hb).cell 16 _ rfl,(hB.below hb).cell 17 _ rfl,(hB.below hb).cell 18 _ rfl,(hB.below hb).cell 19 _ rfl,(hB.below hb).cell 20 _ rfl,(hB.below hb).cell 21 _ rfl,(hB.below hb).cell 22 _ rfl⟩
def wQ (h:Hd) (d:Bd) (h':Hd) (d':Bd):Bool:=(h.ty == h'.ty) && (h.dm == h'.dm) && (h.fl == h'.fl) && (h.co == h'.co) && (h.sc == h'.sc) && (h.sp == h'.sp) && (h.sq == h'.sq) && (h.lg == h'.lg) && (d.st == d'.st) && (d.tc == d'.tc) && (d.tp == d'.tp) && (d.ut == d'.ut) && (d.p1 == d'.p1) && (d.qc == d'.qc) && (d.qa == d'.qa) && (d.qv == d'.qv) && (d.p2 == d'.p2) && (d.gr == d'.gr) && (d.sr == d'.sr) && (d.og == d'.og) && (d.sh == d'.sh) && (d.hp == d'.hp) && (d.ac == d'.ac)
section
structure dB {α:Type} (K:RowK α) (T:TypeId):Prop where
 row:∃d,prog.underlying T=some d∧d.isRow=true
 size:(prog.info? T).map (·.size)=some K.n
variable {α:Type} {K:RowK α} {T:TypeId}
theorem ak.b_ (h:ak w g xs t):w.rangeAt g 0 xs:=fun j v hj=>by rw [Nat.zero_add];exact h.cell j v hj
theorem ak.fB (h:ak w g xs t) (ys:List Value):ak (w.setRow g ys.toArray) g ys t:=by exact IX
theorem ak.gu (h:ak w g xs t) {k:Nat} (hk:g≠k) (ys:Array Value):ak (w.setRow k ys) g xs t:=by unfold ak at h ⊢;rw [setRow_other w k g ys hk];exact h
theorem dB.Py (hT:dB K T) (w:World) (b o:Nat) (c:α) (hR:w.rangeAt b o (K.enc c)):(Instr.loadAt T (.pointer (some ⟨b,o,none⟩))).run prog w=.ok (.agg (K.enc c).toArray) w:=by obtain ⟨d,hu,hd⟩:=hT.row;exact run_loadAt_mid w b o T (K.enc c) d hR hu hd TY
theorem dB.exec (hT:dB K T) {op:Oper} {a:Act} {w:World} (x:Operand) (ho:op.op=.load T x) (b o:Nat) (hx:a.eval x=.pointer (some ⟨b,o,none⟩)) (c:α) (hR:w.rangeAt b o (K.enc c)):(execOp a.eval op).run prog w=.ok (.value (.agg (K.enc c).toArray)) w:=by unfold execOp;simp only [ho,hx,Sem.run_bind,hT.Py w b o c hR,Result.andThen_ok,Sem.run_pure]
theorem dB.load (hT:dB K T) {ops:Array Oper} {rest:List Oper} {op:Oper} {a:Act} {w:World} {Q:Exit→Act→World→Prop} (hgd:op.guard=none) (x:Operand) (ho:op.op=.load T x) (b o:Nat) (hx:a.eval x=.pointer (some ⟨b,o,none⟩)) (c:α) (hR:w.rangeAt b o (K.enc c)) (h:wpList prog ops Q rest (a.put op.dst (.agg (K.enc c).toArray)) w):wpList prog ops Q (op::rest) a w:=by obtain ⟨d,hu,hd⟩:=hT.row;exact wpList_load_mid hgd _ x ho b o hx (K.enc c) d hR hu hd TY h
theorem dB.Ue (hT:dB K T) {ops:Array Oper} {rest:List Oper} {op:Oper} {a:Act} {w:World} {Q:Exit→Act→World→Prop} (hw:Region.wanted op (yielded ops a.tmps)=true) (x:Operand) (ho:op.op=.load T x) (b o:Nat) (hx:a.eval x=.pointer (some ⟨b,o,none⟩)) (c:α) (hR:w.rangeAt b o (K.enc c)) (h:wpList prog ops Q rest (a.put op.dst (.agg (K.enc c).toArray)) w):wpList prog ops Q (op::rest) a w:=by obtain ⟨d,hu,hd⟩:=hT.row;exact wpList_step fun K' hK=>by rw [if_pos hw];exact wp_load_mid _ x ho b o hx (K.enc c) d hR hu hd TY (hK _ _ h)
theorem dB.store (hT:dB K T) {ops:Array Oper} {rest:List Oper} {op:Oper} {a:Act} {w:World} {Q:Exit→Act→World→Prop} (hgd:op.guard=none) (x y:Operand) (ho:op.op=.store T x y)
  (g:Nat) (c old:α) (t:TypeId) (hx:a.eval x=.pointer (some ⟨g,0,none⟩)) (hy:a.eval y=.agg (K.enc c).toArray) (hB:ak w g (K.enc old) t)
  (h:wpList prog ops Q rest (a.put op.dst undef) (w.setRow g (K.enc c).toArray)):wpList prog ops Q (op::rest) a w:=
 wpList_store_row hgd _ x y ho g (K.enc c).toArray hx hy t (K.enc old).toArray hB TQ (by simp [K.len]) (all_oneCell_toArray (K.one c)) h
theorem dB.dS (hT:dB K T) {op:Oper} {a:Act} {w:World} {K':Act→World→Prop} {Q:Exit→Act→World→Prop} (x y:Operand) (ho:op.op=.store T x y)
  (g:Nat) (c old:α) (t:TypeId) (hx:a.eval x=.pointer (some ⟨g,0,none⟩)) (hy:a.eval y=.agg (K.enc c).toArray) (hB:ak w g (K.enc old) t)
  (h:K' (a.put op.dst undef) (w.setRow g (K.enc c).toArray)):op.wp prog a w K' Q:=
 wp_store_row _ x y ho g (K.enc c).toArray hx hy t (K.enc old).toArray hB TQ (by simp [K.len]) (all_oneCell_toArray (K.one c)) h
theorem dB.result (hT:dB K T) {fn:Func} {p:Tmp} (h:fn.results=#[.cell p T]) (tmps:Array Value) (w:World) (g:Nat) (t:TypeId) (c:α) (hp:tmps.getD p undef=.pointer (some ⟨g,0,none⟩)) (hB:ak w g (K.enc c) t):(results fn tmps).run prog w=.ok (.agg (K.enc c).toArray) w:=by obtain ⟨d,hu,hd⟩:=hT.row;refine results_cell_row h tmps w g t _ (0,0) d hp hB hu ?_ TQ;cases d <;> first | rfl | exact hd
theorem dB.G7 (hT:dB K T) {fn:Func} {p u:Tmp} (h:fn.results=#[.cell p T,.tmp u]) (tmps:Array Value) (w:World) (g:Nat) (t:TypeId) (c:α) (x:Value) (hp:tmps.getD p undef=.pointer (some ⟨g,0,none⟩)) (hx:tmps.getD u undef=x) (hB:ak w g (K.enc c) t):(results fn tmps).run prog w=.ok (.tuple #[.agg (K.enc c).toArray,x]) w:=by
 obtain ⟨d,hu,hd⟩:=hT.row;have hp':tmps[p]?.getD undef=.pointer (some ⟨g,0,none⟩):=by simpa using hp
 have hx':tmps[u]?.getD undef=x:=by simpa using hx
 have hl:=run_loadVar_row (P:=prog) w g t T (K.enc c).toArray (0,0) d hB hu (by cases d <;> first | rfl | exact hd) TQ;simp [results,h,hp',hx',asAddr,Sem.run_bind,hl]
theorem ak.bB (pre ys post:List Value) (h:ak w g (pre++ys++post) t):w.rangeAt g pre.length ys:=fun j v hj=>by have hjl:=(List.getElem?_eq_some_iff.1 hj).1;refine h.cell (pre.length+j) v ?_;rw [List.append_assoc,List.getElem?_append_right aJ,List.getElem?_append_left aJ];rw [show pre.length+j - pre.length=j by omega];exact hj
theorem ak.there {w:World} {g:Nat} {xs:List Value} {t:TypeId} (h:ak w g xs t) (o n:Nat) (hn:o+n≤xs.length):w.there g o n:=fun j hj=>
 ⟨by rw [h.cell (o+j) _ (List.getElem?_eq_getElem aJ)];rfl,h.free (o+j)⟩
theorem ak.mid {g:Nat} {t:TypeId}:∀(ys old pre post:List Value) (w:World),ys.length=old.length→ak w g (pre++old++post) t→ak (w.setCells g pre.length ys) g (pre++ys++post) t
 | [],old,pre,post,w,hl,h=>by
  obtain rfl:old=[]:=List.eq_nil_of_length_eq_zero hl.symm
  exact h
 | v::r,[],pre,post,w,hl,h=>by simp at hl
 | v::r,v0::r0,pre,post,w,hl,h=>by
  have h1:=h.set pre.length v
  have e:(pre++v0::r0++post).set pre.length v=(pre++[v])++r0++post:=by simp
  rw [e] at h1
  have h2:=ak.mid r r0 (pre++[v]) post _ (by simpa using hl) h1
  have e2:(pre++[v])++r++post=pre++v::r++post:=by simp
  rw [e2,List.length_append] at h2
  exact h2
theorem ak.gD {g k:Nat} {xs:List Value} {t:TypeId} (hk:g≠k):∀(ys:List Value) (o:Nat) (w:World),ak w g xs t→ak (w.setCells k o ys) g xs t
 | [],_,_,h=>h
 | v::r,o,w,h=>ak.gD hk r (o+1) _ (h.other hk o v)
theorem kP {B b:Nat} {a:World} (hb:B≤b):∀(vs:List Value) (o:Nat) (w:World),Below B a w→Below B a (w.setCells b o vs)
 | [],_,_,h=>h
 | v::r,o,w,h=>kP hb r (o+1) _ (h.setCell (p:=⟨b,o,none⟩) hb v)
theorem dB.Jd (hT:dB K T) {ops:Array Oper} {rest:List Oper} {op:Oper} {a:Act} {w:World} {Q:Exit→Act→World→Prop} (hgd:op.guard=none) (x y:Operand) (ho:op.op=.store T x y)
  (g o:Nat) (c:α) (xs:List Value) (t:TypeId) (hx:a.eval x=.pointer (some ⟨g,o,none⟩)) (hy:a.eval y=.agg (K.enc c).toArray) (hB:ak w g xs t) (hn:o+K.n≤xs.length)
  (h:wpList prog ops Q rest (a.put op.dst undef) (w.setCells g o (K.enc c))):wpList prog ops Q (op::rest) a w:=
 wpList_store_mid hgd _ x y ho g o (K.enc c).toArray hx hy (hB.there o _ TW) TQ (all_oneCell_toArray (K.one c)) h
theorem dB.aL (hT:dB K T) {ops:Array Oper} {rest:List Oper} {op:Oper} {a:Act} {w:World} {Q:Exit→Act→World→Prop} (b o:Nat) (c:α) (hR:w.rangeAt b o (K.enc c)) (h:wpList prog ops Q rest (a.put op.dst (.agg (K.enc c).toArray)) w) {x:Operand} (hgd:op.guard=none:=by rfl) (ho:op.op=.load T x:=by rfl) (hx:a.eval x=.pointer (some ⟨b,o,none⟩):=by rfl):wpList prog ops Q (op::rest) a w:=hT.load hgd x ho b o hx c hR h
theorem dB.aG (hT:dB K T) {ops:Array Oper} {rest:List Oper} {op:Oper} {a:Act} {w:World} {Q:Exit→Act→World→Prop} (b o:Nat) (c:α) (hR:w.rangeAt b o (K.enc c)) (h:wpList prog ops Q rest (a.put op.dst (.agg (K.enc c).toArray)) w) {x:Operand} (hw:Region.wanted op (yielded ops a.tmps)=true:=by rfl) (ho:op.op=.load T x:=by rfl) (hx:a.eval x=.pointer (some ⟨b,o,none⟩):=by rfl):wpList prog ops Q (op::rest) a w:=hT.Ue hw x ho b o hx c hR h
theorem dB.aS (hT:dB K T) {ops:Array Oper} {rest:List Oper} {op:Oper} {a:Act} {w:World} {Q:Exit→Act→World→Prop} (g:Nat) (c old:α) {t:TypeId} (hB:ak w g (K.enc old) t) (h:wpList prog ops Q rest (a.put op.dst undef) (w.setRow g (K.enc c).toArray)) {x y:Operand} (hgd:op.guard=none:=by rfl) (ho:op.op=.store T x y:=by rfl) (hx:a.eval x=.pointer (some ⟨g,0,none⟩):=by rfl) (hy:a.eval y=.agg (K.enc c).toArray:=by rfl):wpList prog ops Q (op::rest) a w:=hT.store hgd x y ho g c old t hx hy hB h
theorem dB.aM (hT:dB K T) {ops:Array Oper} {rest:List Oper} {op:Oper} {a:Act} {w:World} {Q:Exit→Act→World→Prop} (g o:Nat) (c:α) {xs:List Value} {t:TypeId} (hB:ak w g xs t) (hn:o+K.n≤xs.length) (h:wpList prog ops Q rest (a.put op.dst undef) (w.setCells g o (K.enc c))) {x y:Operand} (hgd:op.guard=none:=by rfl) (ho:op.op=.store T x y:=by rfl) (hx:a.eval x=.pointer (some ⟨g,o,none⟩):=by rfl) (hy:a.eval y=.agg (K.enc c).toArray:=by rfl):wpList prog ops Q (op::rest) a w:=hT.Jd hgd x y ho g o c xs t hx hy hB hn h
end
def eu:RowK (Hd×Bd):=⟨fun m=>aH m.1 m.2,23,by decide,fun _=>rfl,fun m=>ko _ _ (mW _)⟩
theorem zi:dB eu 56:=⟨⟨_,underlying56,rfl⟩,by kernel_rfl⟩
def bO:Hd×Bd:=(hd0,vC)
structure Pa where
 pc:Int
 pp:Int
 gr:Int
 qc:Int
 qa:Int
 qv:Int
 p1:Int
 p2:Int
 st:Int
 ut:Int
 fl:Int
 og:Int
def rz (a:Pa):List Value:=[.int .u64 a.pc,.int .i64 a.pp,.int .u64 a.gr,.int .i64 a.qc,.int .i64 a.qa,.int .i64 a.qv,.int .i64 a.p1,.int .i64 a.p2,.int .i64 a.st,.int .i64 a.ut,.int .i64 a.fl,.int .i64 a.og]
def j4:RowK Pa:=⟨rz,12,by decide,fun _=>rfl,by
 intro a v hv
 unfold rz at hv
 simp only [List.mem_cons,List.not_mem_nil,or_false] at hv
 rcases hv with rfl | rfl | rfl | rfl | rfl | rfl | rfl | rfl | rfl | rfl | rfl | rfl <;> rfl⟩
def bT:RowK Cf:=⟨cfL,23,by decide,mU,Al⟩
structure Tm where
 ut:Int
 fl:Int
 og:Int
def Pz (t:Tm):List Value:=[.int .i64 t.ut,.int .i64 t.fl,.int .i64 t.og]
def tmK:RowK Tm:=⟨Pz,3,by decide,fun _=>rfl,by
 intro a v hv
 unfold Pz at hv
 simp only [List.mem_cons,List.not_mem_nil,or_false] at hv
 rcases hv with rfl | rfl | rfl <;> rfl⟩
theorem vecT:dB kg 148:=⟨⟨_,underlying148,rfl⟩,by kernel_rfl⟩
theorem Z9:dB j4 69:=⟨⟨_,underlying69,rfl⟩,by kernel_rfl⟩
theorem tmT:dB tmK 26:=⟨⟨_,underlying26,rfl⟩,by kernel_rfl⟩
def dK:Pa:=⟨0,0,0,0,0,0,0,0,0,0,0,0⟩
def eH (c:Cf):Pa:=⟨c.cl,0,c.cl,c.qc,c.qa,c.qv,c.p1,c.p2,0,c.ut,c.fl,c.og⟩
def vD (v:Vc) (t:Tm):Pa:=⟨v.sc,v.sp,v.gr,v.qc,v.qa,v.qv,v.p1,v.p2,wrap64 (v.st+1),t.ut,t.fl,t.og⟩
def wR (c:Cf) (p:Pa) (port seq:Int):Hd×Bd:=(⟨11,c.dm,p.fl,0,c.cl,port,seq,c.la⟩,⟨0,0,0,p.ut,p.p1,p.qc,p.qa,p.qv,p.p2,p.gr,p.st,p.og,0,0,0⟩)
def G8 (a b:Pa):Bool:=(a.pc == b.pc) && (a.pp == b.pp) && (a.gr == b.gr) && (a.qc == b.qc) && (a.qa == b.qa) && (a.qv == b.qv) && (a.p1 == b.p1) && (a.p2 == b.p2) && (a.st == b.st) && (a.ut == b.ut) && (a.fl == b.fl) && (a.og == b.og)
def Yg:Prop:=∀(c:Cf) (w:World),Calls prog 56 #[.agg (bT.enc c).toArray] w fun e w'=>e=.returned (.agg (j4.enc (eH c)).toArray)∧Below w.heap.size w w'
def CFol:Prop:=∀(v:Vc) (t:Tm) (w:World),Calls prog 115 #[.agg (kg.enc v).toArray,.agg (tmK.enc t).toArray] w fun e w'=>e=.returned (.agg (j4.enc (vD v t)).toArray)∧Below w.heap.size w w'
def CSay:Prop:=∀(c:Cf) (p:Pa) (port seq:Int) (w:World),Calls prog 172 #[.agg (bT.enc c).toArray,.agg (j4.enc p).toArray,.int .i64 port,.int .i64 seq] w fun e w'=>e=.returned (.agg (eu.enc (wR c p port seq)).toArray)∧Below w.heap.size w w'
theorem Lf (a b:Pa) (w:World):(Op.equalIn 10000 69 (.agg (j4.enc a).toArray) (.agg (j4.enc b).toArray)).run prog w=.ok (G8 a b) w:=by
 unfold G8;obtain ⟨a0,a1,a2,a3,a4,a5,a6,a7,a8,a9,O8,O9⟩:=a;obtain ⟨b0,b1,b2,b3,b4,b5,b6,b7,b8,b9,b10,b11⟩:=b;unfold j4 rz;simp only [];by_cases k0:a0=b0;case neg=>(have q:(a0 == b0)=false:=nq k0;go_simp)
 subst k0;by_cases k1:a1=b1;case neg=>(have q:(a1 == b1)=false:=nq k1;go_simp)
 subst k1;by_cases k2:a2=b2;case neg=>(have q:(a2 == b2)=false:=nq k2;go_simp)
 subst k2;by_cases k3:a3=b3;case neg=>(have q:(a3 == b3)=false:=nq k3;go_simp)
 subst k3;by_cases k4:a4=b4;case neg=>(have q:(a4 == b4)=false:=nq k4;go_simp)
 subst k4;by_cases k5:a5=b5;case neg=>(have q:(a5 == b5)=false:=nq k5;go_simp)
 subst k5;by_cases k6:a6=b6;case neg=>(have q:(a6 == b6)=false:=nq k6;go_simp)
 subst k6;by_cases k7:a7=b7;case neg=>(have q:(a7 == b7)=false:=nq k7;go_simp)
 subst k7;by_cases k8:a8=b8;case neg=>(have q:(a8 == b8)=false:=nq k8;go_simp)
 subst k8;by_cases k9:a9=b9;case neg=>(have q:(a9 == b9)=false:=nq k9;go_simp)
 subst k9;by_cases k10:O8=b10;case neg=>(have q:(O8 == b10)=false:=nq k10;go_simp)
 subst k10;by_cases k11:O9=b11;case neg=>(have q:(O9 == b11)=false:=nq k11;go_simp)
 subst k11;go_simp
theorem iZ (hgd:op.guard=none) (ty:TypeId) (parts:Array (Nat×Operand)) (ho:op.op=.build ty parts) (pv:Array (Nat×Value)) (hp:(parts.map fun (i,x)=>(i,a.eval x))=pv) (cs:Array Value) (hb:prog.built ty pv.toList=some cs) (h:wpList prog ops Q rest (a.put op.dst (.agg cs)) w):wpList prog ops Q (op::rest) a w:=wpList_plain hgd fun K hK=>by unfold Oper.wp execOp;simp only [ho];rw [hp];simp only [Sem.run_bind,run_build w ty pv cs hb,Result.andThen_ok,Sem.run_pure];exact hK _ _ h
theorem bg {ev:Operand→Value} (ty:TypeId) (parts:Array (Nat×Operand)) (ho:op.op=.build ty parts) (pv:Array (Nat×Value)) (hp:(parts.map fun (i,x)=>(i,ev x))=pv) (cs:Array Value) (hb:prog.built ty pv.toList=some cs):(execOp ev op).run prog w=.ok (.value (.agg cs)) w:=by unfold execOp;simp only [ho];rw [hp];simp only [Sem.run_bind,run_build w ty pv cs hb,Result.andThen_ok,Sem.run_pure]
theorem aB (cs:Array Value) (h:wpList prog ops Q rest (a.put op.dst (.agg cs)) w) {ty:TypeId} {parts:Array (Nat×Operand)} {pv:Array (Nat×Value)} (hgd:op.guard=none:=by rfl) (ho:op.op=.build ty parts:=by rfl) (hp:(parts.map fun (i,x)=>(i,a.eval x))=pv:=by rfl) (hb:prog.built ty pv.toList=some cs:=by kernel_rfl):wpList prog ops Q (op::rest) a w:=iZ hgd ty parts ho pv hp cs hb h
theorem CV (c:Cf) (w:World):Calls prog 60 #[.agg (bT.enc c).toArray] w fun e w'=>e=.returned (.agg (j4.enc (eH c)).toArray)∧Below w.heap.size w w':=by
 have z0:=aA w (Obj.cells (cfL c).toArray 28);have hC:=ak.new w (cfL c) 28;have z1:=aA (w.alloc (Obj.cells (cfL c).toArray 28)) (Obj.cells (rz dK).toArray 69);have hN:=ak.new (w.alloc (Obj.cells (cfL c).toArray 28)) (rz dK) 69;replace hC:=hC.below z1;have hb:=z0;replace hb:=ah hb z1;clear z0;clear z1;have s1:(w.alloc (Obj.cells (cfL c).toArray 28)).heap.size=w.heap.size+1:=by simp
 rw [s1] at hN;go_enter func60,ntmps60;exact Xe
def zk (w:World) (p:Option Addr) (xs:List Value):Prop:=
 xs=[]∨∃b off,p=some ⟨b,off,none⟩∧b<w.heap.size∧∀i (h:i<xs.length),w.cell? ⟨b,off+i,none⟩=some xs[i]
def wT (w:World) (v:Value) (xs:List Value):Prop:=
 ∃p cap,v=.slice p xs.length cap∧xs.length≤cap∧cap≤maxLen∧zk w p xs
theorem wT.nil (w:World):wT w (.slice none 0 0) []:=⟨none,0,rfl,Nat.le_refl _,Nat.zero_le _,.inl rfl⟩
theorem zk.pos {p:Option Addr} (h:zk w p xs) (hl:0<xs.length):∃b off,p=some ⟨b,off,none⟩∧b<w.heap.size∧∀i (h:i<xs.length),w.cell? ⟨b,off+i,none⟩=some xs[i]:=by exact IZ
theorem zk.below {p:Option Addr} (h:zk w p xs) (hb:Below w.heap.size w w'):zk w' p xs:=by exact Tq
theorem wT.below (h:wT w v xs) (hb:Below w.heap.size w w'):wT w' v xs:=by exact KR
def jE (e:TypeId) (w:World) (base:Nat) (v:Value) (xs:List Value):Prop:=w.ownsRow base e 1 v xs.length xs
theorem jE.nil (e:TypeId) (w:World) (base:Nat):jE e w base (.slice none 0 0) []:=World.ownsRow_nil w base _ _
theorem jE.row {e:TypeId} (h:jE e w base v xs):wT w v xs:=by
 have hlt:=World.ownsRow.lt h;rcases id h with ⟨_,⟨rfl,hn⟩ | ⟨g,cap,cur,rfl,_,_,h3,h4,_⟩⟩
 ·obtain rfl:xs=[]:=List.eq_nil_of_length_eq_zero hn;exact wT.nil w
 ·refine ⟨_,_,rfl,h3,h4,.inr ⟨g,0,rfl,(hlt g rfl).2,fun i hi=>?_⟩⟩;rw [Nat.zero_add,World.ownsRow.cellAt h i aJ];exact List.getElem?_eq_getElem hi
theorem jE.mono {e:TypeId} {base':Nat} (h:jE e w base v xs) (hb:base'≤base):jE e w base' v xs:=by exact O7
theorem jE.below {e:TypeId} (h:jE e w base v xs) (hb:Below w.heap.size w w'):jE e w' base v xs:=by exact O6
theorem jE.lit (e:TypeId) (w:World) (xs:List Value) (hl:xs.length≤maxLen):jE e (w.alloc (.cells xs.toArray e)) w.heap.size (.slice (some ⟨w.heap.size,0,none⟩) xs.length xs.length) xs:=
 jD _ (Nat.le_refl _) (heap_alloc_new w _) rfl hl
abbrev zl (c a v:Int):Value:=.agg #[.int .i64 c,.int .i64 a,.int .i64 v]
def KE:List Int→Int
 | []=>0
 | z::zs=>if z=0 then KE zs else z
theorem Lg (zs:List Int):∀(k:Nat) (h:k<zs.length),KE (zs.drop k)=if zs[k]=0 then KE (zs.drop (k+1)) else zs[k]:=by intro k h;rw [List.drop_eq_getElem_cons h];rfl
def vY (c a v c' a' v':Int):Int:=if c=c' then (if a=a' then bQ v v' else bQ a a') else bQ c c'
theorem zm {a b:Int} :bQ a b=0↔a=b:=by
 unfold bQ;split
 ·omega
 ·split <;> omega
theorem zo (c a v c' a' v':Int):KE [bQ c c',bQ a a',bQ v v']=vY c a v c' a' v':=by
 unfold vY;simp only [KE,zm];by_cases h1:c=c'
 ·rw [if_pos h1,if_pos h1];by_cases h2:a=a'
  ·rw [if_pos h2,if_pos h2];by_cases h3:v=v'
   ·rw [if_pos h3,zm.2 h3]
   ·rw [if_neg h3]
  ·rw [if_neg h2,if_neg h2]
 ·rw [if_neg h1,if_neg h1]
def CW (x:Int):Bool:=decide (0≤x∧x<256)
def KF (x:Int):Bool:=decide (0≤x∧x<65536)
def mX (c a v:Int):Bool:=CW c && CW a && KF v
theorem lW (x:Int) (w:World):Calls prog 158 #[.int .i64 x,.int .i64 1] w fun e w'=>e=.returned (.bool (CW x))∧w=w':=by
 by_cases h:0≤x
 ·go_enter func158,ntmps158;go_wp2;go_ret;exact ⟨dH (by unfold CW;first | (simp [h];done) | (symm;rw [decide_eq_false_iff_not];omega)),rfl⟩
 ·go_enter func158,ntmps158;go_wp2;go_ret;exact ⟨dH (by unfold CW;symm;rw [decide_eq_false_iff_not];omega),rfl⟩
theorem Je (x:Int) (w:World):Calls prog 158 #[.int .i64 x,.int .i64 2] w fun e w'=>e=.returned (.bool (KF x))∧w=w':=by
 by_cases h:0≤x
 ·go_enter func158,ntmps158;go_wp2;go_ret;exact ⟨dH (by unfold KF;first | (simp [h];done) | (symm;rw [decide_eq_false_iff_not];omega)),rfl⟩
 ·go_enter func158,ntmps158;go_wp2;go_ret;exact ⟨dH (by unfold KF;symm;rw [decide_eq_false_iff_not];omega),rfl⟩
theorem CX (c a v:Int) (w:World):Calls prog 96 #[zl c a v] w fun e w'=>e=.returned (.bool (mX c a v))∧Below w.heap.size w w':=by
 unfold mX;cases h1:CW c
 ·have H1:=hid h1;clear h1;go_enter func96,ntmps96;go_wp2_with fail;refine (lW _ _).mono ?_;rintro e w' ⟨rfl,rfl⟩;rw [H1.out];exact IY
 cases h2:CW a
 ·have H1:=hid h1;have H2:=hid h2;clear h1 h2;go_enter func96,ntmps96;go_wp2_with fail;refine (lW _ _).mono ?_;rintro e w' ⟨rfl,rfl⟩;rw [H1.out];go_wp2_with fail;refine (lW _ _).mono ?_;rintro e w' ⟨rfl,rfl⟩;rw [H2.out];exact IY
 have H1:=hid h1;have H2:=hid h2;clear h1 h2;go_enter func96,ntmps96;go_wp2_with fail;refine (lW _ _).mono ?_;rintro e w' ⟨rfl,rfl⟩;rw [H1.out];go_wp2_with fail;refine (lW _ _).mono ?_;rintro e w' ⟨rfl,rfl⟩;rw [H2.out];go_wp2_with fail;refine (Je _ _).mono ?_;rintro e w' ⟨rfl,rfl⟩;exact IY
theorem bK (x f t:Int) (w:World):Calls prog 35 #[.int .i64 x,.int .i64 f,.int .i64 t] w fun e w'=>e=.returned (.bool (decide (f≤x∧x≤t)))∧w=w':=by
 by_cases h:f≤x
 ·go_enter func35,ntmps35;go_wp2;go_ret;exact ⟨dH (by simp [h]),rfl⟩
 ·go_enter func35,ntmps35;go_wp2;go_ret;exact ⟨dH (by simp;omega),rfl⟩
theorem wU (x:Int):decide (0≤x∧x≤255)=CW x:=by unfold CW;rw [decide_eq_decide];omega
theorem Uf (x:Int):decide (0≤x∧x≤65535)=KF x:=by unfold KF;rw [decide_eq_decide];omega
theorem CY (c a v:Int) (w:World):Calls prog 36 #[zl c a v] w fun e w'=>e=.returned (.bool (mX c a v))∧Below w.heap.size w w':=by
 unfold mX;cases h1:CW c
 ·have H1:=hid h1;clear h1;go_enter func36,ntmps36;go_wp2_with fail;refine (bK _ _ _ _).mono ?_;rintro e w' ⟨rfl,rfl⟩;rw [wU,H1.out];exact IY
 cases h2:CW a
 ·have H1:=hid h1;have H2:=hid h2;clear h1 h2;go_enter func36,ntmps36;go_wp2_with fail;refine (bK _ _ _ _).mono ?_;rintro e w' ⟨rfl,rfl⟩;rw [wU,H1.out];go_wp2_with fail;refine (bK _ _ _ _).mono ?_;rintro e w' ⟨rfl,rfl⟩;rw [wU,H2.out];exact IY
 have H1:=hid h1;have H2:=hid h2;clear h1 h2;go_enter func36,ntmps36;go_wp2_with fail;refine (bK _ _ _ _).mono ?_;rintro e w' ⟨rfl,rfl⟩;rw [wU,H1.out];go_wp2_with fail;refine (bK _ _ _ _).mono ?_;rintro e w' ⟨rfl,rfl⟩;rw [wU,H2.out];go_wp2_with fail;refine (bK _ _ _ _).mono ?_;rintro e w' ⟨rfl,rfl⟩;rw [Uf];exact IY
theorem rO (c:Cf) (w:World):Calls prog 12 #[.agg (cfL c).toArray] w fun e w'=>e=.returned (.int .i64 (bP c))∧Below w.heap.size w w':=by
 have B:=ak.new w (cfL c) 28;have hb:=aA w (Obj.cells (cfL c).toArray 28);go_enter func12,ntmps12;go_upto_region 1 with fail;change Code.wp prog _ _ _ (w.alloc (Obj.cells (cfL c).toArray 28));generalize w.alloc (Obj.cells (cfL c).toArray 28)=W at *;generalize hG:w.heap.size=G at *;have k0:=B.cell 0 _ rfl;have k1:=B.cell 1 _ rfl;have k2:=B.cell 2 _ rfl;have k3:=B.cell 3 _ rfl;have k4:=B.cell 4 _ rfl;have k5:=B.cell 5 _ rfl;have k6:=B.cell 6 _ rfl;have k7:=B.cell 7 _ rfl;have k8:=B.cell 8 _ rfl;have k9:=B.cell 9 _ rfl;have k10:=B.cell 10 _ rfl;have k11:=B.cell 11 _ rfl;have k12:=B.cell 12 _ rfl;have k15:=B.cell 15 _ rfl;have k16:=B.cell 16 _ rfl;have k17:=B.cell 17 _ rfl;have k18:=B.cell 18 _ rfl;have k19:=B.cell 19 _ rfl;have k20:=B.cell 20 _ rfl;have k21:=B.cell 21 _ rfl;go_wp2_with fail;refine (bK c.po (1) (8) _).mono ?_;rintro e W1 ⟨rfl,rfl⟩;by_cases hN:1≤c.po∧c.po≤8;case neg =>have hE:=hid (show bP c=15 from if_neg fun h=>hN h.2.2.1);exact Ey
 rw [decide_eq_true hN];have Hpo:=hid hN;clear hN;go_wp2_with fail;refine (bK c.dm (0) (127) _).mono ?_;rintro e W1 ⟨rfl,rfl⟩;by_cases hN:0≤c.dm∧c.dm≤127;case neg =>have hE:=hid (show bP c=15 from if_neg fun h=>hN h.2.2.2.1);exact Ey
 rw [decide_eq_true hN];have Hdm:=hid hN;clear hN;go_wp2_with fail;refine (bK c.p1 (0) (255) _).mono ?_;rintro e W1 ⟨rfl,rfl⟩;by_cases hN:0≤c.p1∧c.p1≤255;case neg =>have hE:=hid (show bP c=15 from if_neg fun h=>hN h.2.2.2.2.1);exact Ey
 rw [decide_eq_true hN];have Hp1:=hid hN;clear hN;go_wp2_with fail;refine (bK c.p2 (0) (255) _).mono ?_;rintro e W1 ⟨rfl,rfl⟩;by_cases hN:0≤c.p2∧c.p2≤255;case neg =>have hE:=hid (show bP c=15 from if_neg fun h=>hN h.2.2.2.2.2.1);exact Ey
 rw [decide_eq_true hN];have Hp2:=hid hN;clear hN;go_wp2_with fail;refine (CY c.qc c.qa c.qv _).mono ?_;rintro e W1 ⟨rfl,b1⟩;replace B:=B.below b1;replace hb:=hb.trans (b1.mono (by have:=B.lt;have:=hb.size;omega));clear k0 k1 k2 k3 k4 k5 k6 k7 k8 k9 k10 k11 k12 k15 k16 k17 k18 k19 k20 k21;clear b1;have k0:=B.cell 0 _ rfl;have k1:=B.cell 1 _ rfl;have k2:=B.cell 2 _ rfl;have k3:=B.cell 3 _ rfl;have k4:=B.cell 4 _ rfl;have k5:=B.cell 5 _ rfl;have k6:=B.cell 6 _ rfl;have k7:=B.cell 7 _ rfl;have k8:=B.cell 8 _ rfl;have k9:=B.cell 9 _ rfl;have k10:=B.cell 10 _ rfl;have k11:=B.cell 11 _ rfl;have k12:=B.cell 12 _ rfl;have k15:=B.cell 15 _ rfl;have k16:=B.cell 16 _ rfl;have k17:=B.cell 17 _ rfl;have k18:=B.cell 18 _ rfl;have k19:=B.cell 19 _ rfl;have k20:=B.cell 20 _ rfl;have k21:=B.cell 21 _ rfl;by_cases hN:(0≤c.qc∧c.qc≤255)∧(0≤c.qa∧c.qa≤255)∧(0≤c.qv∧c.qv≤65535);case neg=>
  have hE:=hid (show bP c=15 from if_neg fun h=>hN ⟨h.2.2.2.2.2.2.1,h.2.2.2.2.2.2.2.1,h.2.2.2.2.2.2.2.2.1⟩);have hQ:mX c.qc c.qa c.qv=false:=by unfold mX CW KF;rw [Bool.eq_false_iff];intro hh;simp only [Bool.and_eq_true,decide_eq_true_eq] at hh;exact hN aJ
  rw [hQ];clear hN hQ;exact CF
 have hQ:mX c.qc c.qa c.qv=true:=by unfold mX CW KF;simp only [Bool.and_eq_true,decide_eq_true_eq];omega
 rw [hQ];have Hqc:=hid hN.1;have Hqa:=hid hN.2.1;have Hqv:=hid hN.2.2;clear hN hQ;go_wp2_with fail;refine (bK c.la (-3) (4) _).mono ?_;rintro e W1 ⟨rfl,rfl⟩;by_cases hN : -3≤c.la∧c.la≤4;case neg =>have hE:=hid (show bP c=15 from if_neg fun h=>hN h.2.2.2.2.2.2.2.2.2.1);exact Ey
 rw [decide_eq_true hN];have Hla:=hid hN;clear hN;go_wp2_with fail;refine (bK c.ls (-3) (4) _).mono ?_;rintro e W1 ⟨rfl,rfl⟩;by_cases hN : -3≤c.ls∧c.ls≤4;case neg =>have hE:=hid (show bP c=15 from if_neg fun h=>hN h.2.2.2.2.2.2.2.2.2.2.1);exact Ey
 rw [decide_eq_true hN];have Hls:=hid hN;clear hN;go_wp2_with fail;refine (bK c.ld (-3) (4) _).mono ?_;rintro e W1 ⟨rfl,rfl⟩;by_cases hN : -3≤c.ld∧c.ld≤4;case neg =>have hE:=hid (show bP c=15 from if_neg fun h=>hN h.2.2.2.2.2.2.2.2.2.2.2.1);exact Ey
 rw [decide_eq_true hN];have Hld:=hid hN;clear hN;go_wp2_with fail;refine (bK c.tm (2) (10) _).mono ?_;rintro e W1 ⟨rfl,rfl⟩;by_cases hN:2≤c.tm∧c.tm≤10;case neg =>have hE:=hid (show bP c=15 from if_neg fun h=>hN h.2.2.2.2.2.2.2.2.2.2.2.2.1);exact Ey
 rw [decide_eq_true hN];have Htm:=hid hN;clear hN;go_wp2_with fail;refine (bK c.md (1) (15) _).mono ?_;rintro e W1 ⟨rfl,rfl⟩;by_cases hN:1≤c.md∧c.md≤15;case neg =>have hE:=hid (show bP c=15 from if_neg fun h=>hN h.2.2.2.2.2.2.2.2.2.2.2.2.2.1);exact Ey
 rw [decide_eq_true hN];have Hmd:=hid hN;clear hN;go_wp2_with fail;refine (bK c.kp (0) (2000) _).mono ?_;rintro e W1 ⟨rfl,rfl⟩;by_cases hN:0≤c.kp∧c.kp≤2000;case neg =>have hE:=hid (show bP c=15 from if_neg fun h=>hN h.2.2.2.2.2.2.2.2.2.2.2.2.2.2.1);exact Ey
 rw [decide_eq_true hN];have Hkp:=hid hN;clear hN;go_wp2_with fail;refine (bK c.ki (0) (2000) _).mono ?_;rintro e W1 ⟨rfl,rfl⟩;by_cases hN:0≤c.ki∧c.ki≤2000;case neg =>have hE:=hid (show bP c=15 from if_neg fun h=>hN h.2.2.2.2.2.2.2.2.2.2.2.2.2.2.2.1);exact Ey
 rw [decide_eq_true hN];have Hki:=hid hN;clear hN;go_wp2_with fail;refine (bK c.st (0) (1000000000) _).mono ?_;rintro e W1 ⟨rfl,rfl⟩;by_cases hN:0≤c.st∧c.st≤1000000000;case neg =>have hE:=hid (show bP c=15 from if_neg fun h=>hN h.2.2.2.2.2.2.2.2.2.2.2.2.2.2.2.2.1);exact Ey
 rw [decide_eq_true hN];have Hst:=hid hN;clear hN;go_wp2_with fail;refine (bK c.ut (-32768) (32767) _).mono ?_;rintro e W1 ⟨rfl,rfl⟩;by_cases hN : -32768≤c.ut∧c.ut≤32767;case neg =>have hE:=hid (show bP c=15 from if_neg fun h=>hN h.2.2.2.2.2.2.2.2.2.2.2.2.2.2.2.2.2.1);exact Ey
 rw [decide_eq_true hN];have Hut:=hid hN;clear hN;go_wp2_with fail;refine (bK c.fl (0) (63) _).mono ?_;rintro e W1 ⟨rfl,rfl⟩;by_cases hN:0≤c.fl∧c.fl≤63;case neg =>have hE:=hid (show bP c=15 from if_neg fun h=>hN h.2.2.2.2.2.2.2.2.2.2.2.2.2.2.2.2.2.2.1);exact Ey
 rw [decide_eq_true hN];have Hfl:=hid hN;clear hN;go_wp2_with fail;refine (bK c.og (0) (255) _).mono ?_;rintro e W1 ⟨rfl,rfl⟩;by_cases hN:0≤c.og∧c.og≤255;case neg =>have hE:=hid (show bP c=15 from if_neg fun h=>hN h.2.2.2.2.2.2.2.2.2.2.2.2.2.2.2.2.2.2.2.1);exact Ey
 rw [decide_eq_true hN];have Hog:=hid hN;clear hN;by_cases hN:c.cl≠0;case neg =>have hE:=hid (show bP c=15 from if_neg fun h=>hN h.1);have hz:(c.cl == 0)=true:=beq_iff_eq.2 (Decidable.not_not.1 hN);clear hN;exact CF
 have hz0:(c.cl == 0)=false:=nq hN;have Hcl0:=hid hN;clear hN;by_cases hN:c.cl≠18446744073709551615;case neg =>have hE:=hid (show bP c=15 from if_neg fun h=>hN h.2.1);have hz:(c.cl == 18446744073709551615)=true:=beq_iff_eq.2 (Decidable.not_not.1 hN);clear hN;exact CF
 have hz1:(c.cl == 18446744073709551615)=false:=nq hN;have Hclm:=hid hN;clear hN;have R9:(c.so=true→c.po=1∧c.qc=255)→bP c=0:=fun hs=>if_pos ⟨Hcl0.out,Hclm.out,Hpo.out,Hdm.out,Hp1.out,Hp2.out,Hqc.out,Hqa.out,Hqv.out,Hla.out,Hls.out,Hld.out,Htm.out,Hmd.out,Hkp.out,Hki.out,Hst.out,Hut.out,Hfl.out,Hog.out,hs⟩;replace R9:=hid R9;cases hso:c.so;case false =>rw [hso] at k8;have hE:=hid (R9.out (by rw [hso];intro h;cases h));clear R9 hso;exact CF
 case true=>
  rw [hso] at k8;by_cases h1:c.po=1;case neg =>have hE:=hid (show bP c=15 from if_neg fun h=>h1 (h.2.2.2.2.2.2.2.2.2.2.2.2.2.2.2.2.2.2.2.2 hso).1);have hn:(c.po != 1)=true:=bne_iff_ne.2 h1;clear h1 R9 hso;exact CF
  have hn1:(c.po != 1)=false:=by rw [h1];rfl
  by_cases h2:c.qc=255;case neg =>have hE:=hid (show bP c=15 from if_neg fun h=>h2 (h.2.2.2.2.2.2.2.2.2.2.2.2.2.2.2.2.2.2.2.2 hso).2);have hn:(c.qc != 255)=true:=bne_iff_ne.2 h2;clear h1 h2 R9 hso;exact CF
  have hn2:(c.qc != 255)=false:=by rw [h2];rfl
  have hE:=hid (R9.out fun _=>⟨h1,h2⟩);clear h1 h2 R9 hso;exact CF
end Go.Proofs.YtofhdhgfcomhiaaGreat
