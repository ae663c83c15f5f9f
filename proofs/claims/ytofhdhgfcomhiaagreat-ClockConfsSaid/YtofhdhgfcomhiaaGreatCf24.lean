/- Of what laws of the clock want, part 24: ConfOwn ClkNew (mini.py). -/
import Derived.Test.YtofhdhgfcomhiaaGreatCf23
namespace Go.Proofs.YtofhdhgfcomhiaaGreat
open Go.RowKit Go.Proofs
set_option maxRecDepth 100000
set_option maxHeartbeats 100000000
set_option linter.unusedVariables false
set_option linter.unusedSimpArgs false
open Tryz
variable {B:Nat} {P:Program} {Q:Exit→Act→World→Prop} {S:World→Prop} {a:Act} {b:Nat} {base:Nat} {cap:Nat} {fuel:Nat} {g:Nat} {h:Nat} {i:Nat} {l:List UInt8} {listed:Array Bool} {n:Nat} {now:Int} {o:Oper} {oi:Oper} {op:Oper} {ops:Array Oper} {p:Prop} {rest:List Oper} {t:TypeId} {v:Value} {w:World} {w':World} {xs:List Value} {α:Type}
def jW (lo hi:Int) (zs:List Int):Bool:=zs.all (fun z=>decide (lo≤z∧z≤hi))
theorem II (lo hi x:Int):jW lo hi [x]=decide (lo≤x∧x≤hi):=by simp [jW]
theorem IJ (lo hi x y:Int):jW lo hi [x,y]=(decide (lo≤x∧x≤hi) && decide (lo≤y∧y≤hi)):=by simp [jW]
theorem Ab (lo hi x y z:Int):jW lo hi [x,y,z]=(decide (lo≤x∧x≤hi) && (decide (lo≤y∧y≤hi) && decide (lo≤z∧z≤hi))):=by simp [jW]
theorem Oh (lo hi:Int) (zs:List Int):∀(k:Nat) (h:k<zs.length),jW lo hi (zs.drop k)=(decide (lo≤zs[k]∧zs[k]≤hi) && jW lo hi (zs.drop (k+1))):=by intro k h;rw [List.drop_eq_getElem_cons h];rfl
theorem pG (lo hi:Int) (v:Value) (zs:List Int) (w:World) (hI:Ints w v zs):Calls prog 95 #[.int .i64 lo,.int .i64 hi,v] w fun e w'=>e=.returned (.bool (jW lo hi zs))∧w=w':=by
 obtain ⟨p,cap,rfl,hcap,hmax,hat⟩:=hI;have HAT:=hid fun h=>hat.pos h;have HO:=hid (Oh lo hi zs);have HE:=hid (show jW lo hi (zs.drop zs.length)=true by rw [List.drop_length];rfl);have h0:jW lo hi zs=jW lo hi (zs.drop 0):=rfl;have H0:=hid h0;unfold maxLen at hmax;clear hat h0;go_enter func95,ntmps95;go_wp2_with fail;go_loop [11] (fun i=>∃k:Nat,k≤zs.length∧i=.int .i64 k∧Hid (jW lo hi zs=jW lo hi (zs.drop k))) (fun i=>zs.length - (intOf i).toNat);case atStart=>exact ⟨0,Nat.zero_le _,rfl,H0⟩
 case round=>
  obtain ⟨k,hk,rfl,hX⟩:=hrel;by_cases hlt:k<zs.length
  ·obtain ⟨b,off,rfl,hbl,hc⟩:=HAT.out aJ;have hcell:=hc k hlt;have hO:=HO.out k hlt;clear hc;generalize zs[k]=z at *;by_cases h1:lo≤z
   ·by_cases h2:z≤hi
    ·have HN:=hid (hX.out.trans (by rw [hO,decide_eq_true ⟨h1,h2⟩,Bool.true_and]));clear hO;exact XJ
    ·have HN:=hid (hX.out.trans (by rw [hO,decide_eq_false (fun h=>h2 h.2),Bool.false_and]));clear hO;go_wp2_with fail;go_ret;exact ⟨dH HN.out.symm,rfl⟩
   ·have HN:=hid (hX.out.trans (by rw [hO,decide_eq_false (fun h=>h1 h.1),Bool.false_and]));clear hO;go_wp2_with fail;go_ret;exact ⟨dH HN.out.symm,rfl⟩
  ·obtain rfl:k=zs.length:=by omega
   go_wp2_with fail;go_ret;exact ⟨dH (by rw [hX.out,HE.out]),rfl⟩
theorem Kl (w:World) (cs:Array Value) (t:TypeId) (i:Nat) (v:Value) (h:cs[i]? = some v):(w.alloc (Obj.cells cs t)).cell? ⟨w.heap.size,i,none⟩=some v:=by simp only [World.cell?];rw [heap_alloc_new];exact h
theorem jB (lo hi x:Int) (w:World):Calls prog 95 #[.int .i64 lo,.int .i64 hi,.slice (some ⟨w.heap.size,0,none⟩) 1 1] (w.alloc (Obj.cells #[.int .i64 x] 3)) fun e w'=>e=.returned (.bool (jW lo hi [x]))∧Below w.heap.size w w':=by
 refine (pG lo hi _ [x] _ ⟨_,1,rfl,Nat.le_refl _,by simp [maxLen],.inr ⟨w.heap.size,0,rfl,by simp,fun i hi=>?_⟩⟩).mono ?_
 ·rw [Nat.zero_add];match i,hi with
  | 0,_=>exact Kl w _ _ 0 _ rfl
 ·rintro e w' ⟨rfl,rfl⟩;exact ⟨rfl,aA _ _⟩
theorem Em (lo hi x y:Int) (w:World):Calls prog 95 #[.int .i64 lo,.int .i64 hi,.slice (some ⟨w.heap.size,0,none⟩) 2 2] (w.alloc (Obj.cells #[.int .i64 x,.int .i64 y] 3)) fun e w'=>e=.returned (.bool (jW lo hi [x,y]))∧Below w.heap.size w w':=by
 refine (pG lo hi _ [x,y] _ ⟨_,2,rfl,Nat.le_refl _,by simp [maxLen],.inr ⟨w.heap.size,0,rfl,by simp,fun i hi=>?_⟩⟩).mono ?_
 ·rw [Nat.zero_add];match i,hi with
  | 0,_=>exact Kl w _ _ 0 _ rfl
  | 1,_=>exact Kl w _ _ 1 _ rfl
 ·rintro e w' ⟨rfl,rfl⟩;exact ⟨rfl,aA _ _⟩
theorem Oi (lo hi x y z:Int) (w:World):Calls prog 95 #[.int .i64 lo,.int .i64 hi,.slice (some ⟨w.heap.size,0,none⟩) 3 3] (w.alloc (Obj.cells #[.int .i64 x,.int .i64 y,.int .i64 z] 3)) fun e w'=>e=.returned (.bool (jW lo hi [x,y,z]))∧Below w.heap.size w w':=by
 refine (pG lo hi _ [x,y,z] _ ⟨_,3,rfl,Nat.le_refl _,by simp [maxLen],.inr ⟨w.heap.size,0,rfl,by simp,fun i hi=>?_⟩⟩).mono ?_
 ·rw [Nat.zero_add];match i,hi with
  | 0,_=>exact Kl w _ _ 0 _ rfl
  | 1,_=>exact Kl w _ _ 1 _ rfl
  | 2,_=>exact Kl w _ _ 2 _ rfl
 ·rintro e w' ⟨rfl,rfl⟩;exact ⟨rfl,aA _ _⟩
theorem Km:(prog.info? 24).map (·.size)=some 3:=by kernel_rfl
theorem GI:(prog.info? 26).map (·.size)=some 3:=by kernel_rfl
theorem sW (hw:Region.wanted op (yielded ops a.tmps)=true) (x:Operand) (ho:op.op=.load 24 x) (g:Nat) (hx:a.eval x=.pointer (some ⟨g,5,none⟩)) (c:Cf) (t:TypeId) (hB:ak w g (cfL c) t) (h:wpList prog ops Q rest (a.put op.dst (zl c.qc c.qa c.qv)) w):wpList prog ops Q (op::rest) a w:=wpList_step fun K hK=>by rw [if_pos hw];exact wp_load_mid _ x ho g 5 hx [.int .i64 c.qc,.int .i64 c.qa,.int .i64 c.qv] _ (fun j v hj=>hB.cell (5+j) v XQ) underlying24 rfl (by rw [Km];rfl) (hK _ _ h)
theorem ru (hw:Region.wanted op (yielded ops a.tmps)=true) (x:Operand) (ho:op.op=.load 26 x) (g:Nat) (hx:a.eval x=.pointer (some ⟨g,19,none⟩)) (c:Cf) (t:TypeId) (hB:ak w g (cfL c) t) (h:wpList prog ops Q rest (a.put op.dst (.agg #[.int .i64 c.ut,.int .i64 c.fl,.int .i64 c.og])) w):wpList prog ops Q (op::rest) a w:=wpList_step fun K hK=>by rw [if_pos hw];exact wp_load_mid _ x ho g 19 hx [.int .i64 c.ut,.int .i64 c.fl,.int .i64 c.og] _ (fun j v hj=>hB.cell (19+j) v XQ) underlying26 rfl (by rw [GI];rfl) (hK _ _ h)
def uJ (c:Cf):Bool:=(decide (c.cl≠0) && (decide (c.cl≠18446744073709551615) && (jW 1 8 [c.po] && (jW 0 127 [c.dm] && (jW 0 255 [c.p1,c.p2] && mX c.qc c.qa c.qv)))))
theorem Kn (c:Cf) (w:World):Calls prog 52 #[(.agg (cfL c).toArray)] w fun e w'=>e=.returned (.bool (uJ c))∧Below w.heap.size w w':=by
 have HC:=hid (show uJ c=(decide (c.cl≠0) && (decide (c.cl≠18446744073709551615) && (jW 1 8 [c.po] && (jW 0 127 [c.dm] && (jW 0 255 [c.p1,c.p2] && mX c.qc c.qa c.qv))))) from rfl);have B:=ak.new w (cfL c) 28;have hb:=aA w (Obj.cells (cfL c).toArray 28);go_enter func52,ntmps52;go_upto_region 1 with fail;change Code.wp prog _ _ _ (w.alloc (Obj.cells (cfL c).toArray 28));generalize w.alloc (Obj.cells (cfL c).toArray 28)=W at *;generalize hG:w.heap.size=G at *;have WJ:G<W.heap.size:=B.lt;have VX:=B.cell 0 _ rfl;have VY:=B.cell 1 _ rfl;have VZ:=B.cell 2 _ rfl;have Oj:=B.cell 3 _ rfl;have Ol:=B.cell 4 _ rfl;have En:=B.cell 5 _ rfl;have GJ:=B.cell 6 _ rfl;have GK:=B.cell 7 _ rfl;by_cases h0:c.cl=0
 ·rw [show decide (c.cl≠0)=false from decide_eq_false (fun h=>h h0)] at HC;rw [h0] at VX;exact wh
 rw [show decide (c.cl≠0)=true from decide_eq_true h0] at HC;by_cases h1:c.cl=18446744073709551615
 ·rw [show decide (c.cl≠18446744073709551615)=false from decide_eq_false (fun h=>h h1)] at HC;rw [h1] at VX;exact wh
 rw [show decide (c.cl≠18446744073709551615)=true from decide_eq_true h1] at HC;go_wp2_with fail;refine (jB 1 8 c.po _).mono ?_;rintro e w2 ⟨rfl,b2⟩;replace B:=B.below b2;replace hb:=hb.trans (b2.mono aJ);have V3:G<w2.heap.size:=B.lt;clear b2;clear VX VY VZ Oj Ol En GJ GK;have VZ:=B.cell 2 _ rfl;have Oj:=B.cell 3 _ rfl;have Ol:=B.cell 4 _ rfl;have En:=B.cell 5 _ rfl;have GJ:=B.cell 6 _ rfl;have GK:=B.cell 7 _ rfl;cases h2:jW 1 8 [c.po]
 ·rw [h2] at HC;exact wh
 rw [h2] at HC;go_wp2_with fail;refine (jB 0 127 c.dm _).mono ?_;rintro e w3 ⟨rfl,b3⟩;replace B:=B.below b3;replace hb:=hb.trans (b3.mono aJ);have ZX:G<w3.heap.size:=B.lt;clear b3;clear VZ Oj Ol En GJ GK;have Oj:=B.cell 3 _ rfl;have Ol:=B.cell 4 _ rfl;have En:=B.cell 5 _ rfl;have GJ:=B.cell 6 _ rfl;have GK:=B.cell 7 _ rfl;cases h3:jW 0 127 [c.dm]
 ·rw [h3] at HC;exact wh
 rw [h3] at HC;go_wp2_with fail;refine (Em 0 255 c.p1 c.p2 _).mono ?_;rintro e w4 ⟨rfl,b4⟩;replace B:=B.below b4;replace hb:=hb.trans (b4.mono aJ);have hGW4:G<w4.heap.size:=B.lt;clear b4;clear Oj Ol En GJ GK;have En:=B.cell 5 _ rfl;have GJ:=B.cell 6 _ rfl;have GK:=B.cell 7 _ rfl;cases h4:jW 0 255 [c.p1,c.p2]
 ·rw [h4] at HC;exact wh
 rw [h4] at HC;go_wp2_with (refine aD 33 ?_;refine sW (op:=⟨some 33,.load _ _,_,_,_,_⟩) bn _ bn G bn c _ B ?_);refine (CX c.qc c.qa c.qv _).mono ?_;rintro e w5 ⟨rfl,b5⟩;replace B:=B.below b5;replace hb:=hb.trans (b5.mono aJ);have hGW5:G<w5.heap.size:=B.lt;clear b5;clear En GJ GK;exact TF
def qd (c:Cf):Bool:=(jW (-3) 4 [c.la,c.ls,c.ld] && (jW 2 10 [c.tm] && (jW 1 15 [c.md] && (jW 0 2000 [c.kp,c.ki] && jW 0 1000000000 [c.st]))))
theorem GL (c:Cf) (w:World):Calls prog 53 #[(.agg (cfL c).toArray)] w fun e w'=>e=.returned (.bool (qd c))∧Below w.heap.size w w':=by
 have HC:=hid (show qd c=(jW (-3) 4 [c.la,c.ls,c.ld] && (jW 2 10 [c.tm] && (jW 1 15 [c.md] && (jW 0 2000 [c.kp,c.ki] && jW 0 1000000000 [c.st])))) from rfl);have B:=ak.new w (cfL c) 28;have hb:=aA w (Obj.cells (cfL c).toArray 28);go_enter func53,ntmps53;go_upto_region 1 with fail;change Code.wp prog _ _ _ (w.alloc (Obj.cells (cfL c).toArray 28));generalize w.alloc (Obj.cells (cfL c).toArray 28)=W at *;generalize hG:w.heap.size=G at *;have WJ:G<W.heap.size:=B.lt;have c_la:=B.cell 9 _ rfl;have c_ls:=B.cell 10 _ rfl;have c_ld:=B.cell 11 _ rfl;have V5:=B.cell 12 _ rfl;have Om:=B.cell 15 _ rfl;have GN:=B.cell 16 _ rfl;have GQ:=B.cell 17 _ rfl;have Cr:=B.cell 18 _ rfl;go_wp2_with fail;refine (Oi (-3) 4 c.la c.ls c.ld _).mono ?_;rintro e w0 ⟨rfl,b0⟩;replace B:=B.below b0;replace hb:=hb.trans (b0.mono aJ);have ZY:G<w0.heap.size:=B.lt;clear b0;clear c_la c_ls c_ld V5 Om GN GQ Cr;have V5:=B.cell 12 _ rfl;have Om:=B.cell 15 _ rfl;have GN:=B.cell 16 _ rfl;have GQ:=B.cell 17 _ rfl;have Cr:=B.cell 18 _ rfl;cases h0:jW (-3) 4 [c.la,c.ls,c.ld]
 ·rw [h0] at HC;exact wh
 rw [h0] at HC;go_wp2_with fail;refine (jB 2 10 c.tm _).mono ?_;rintro e w1 ⟨rfl,b1⟩;replace B:=B.below b1;replace hb:=hb.trans (b1.mono aJ);have Z0:G<w1.heap.size:=B.lt;clear b1;clear V5 Om GN GQ Cr;have Om:=B.cell 15 _ rfl;have GN:=B.cell 16 _ rfl;have GQ:=B.cell 17 _ rfl;have Cr:=B.cell 18 _ rfl;cases h1:jW 2 10 [c.tm]
 ·rw [h1] at HC;exact wh
 rw [h1] at HC;go_wp2_with fail;refine (jB 1 15 c.md _).mono ?_;rintro e w2 ⟨rfl,b2⟩;replace B:=B.below b2;replace hb:=hb.trans (b2.mono aJ);have V3:G<w2.heap.size:=B.lt;clear b2;clear Om GN GQ Cr;have GN:=B.cell 16 _ rfl;have GQ:=B.cell 17 _ rfl;have Cr:=B.cell 18 _ rfl;cases h2:jW 1 15 [c.md]
 ·rw [h2] at HC;exact wh
 rw [h2] at HC;go_wp2_with fail;refine (Em 0 2000 c.kp c.ki _).mono ?_;rintro e w3 ⟨rfl,b3⟩;replace B:=B.below b3;replace hb:=hb.trans (b3.mono aJ);have ZX:G<w3.heap.size:=B.lt;clear b3;clear GN GQ Cr;have Cr:=B.cell 18 _ rfl;cases h3:jW 0 2000 [c.kp,c.ki]
 ·rw [h3] at HC;exact wh
 rw [h3] at HC;go_wp2_with fail;refine (jB 0 1000000000 c.st _).mono ?_;rintro e w4 ⟨rfl,b4⟩;replace B:=B.below b4;replace hb:=hb.trans (b4.mono aJ);have hGW4:G<w4.heap.size:=B.lt;clear b4;clear Cr;exact TF
def mJ (c:Cf):Bool:=(jW (-32768) 32767 [c.ut] && (jW 0 63 [c.fl] && jW 0 255 [c.og]))
theorem Eo (c:Cf) (w:World):Calls prog 54 #[(.agg #[.int .i64 c.ut,.int .i64 c.fl,.int .i64 c.og])] w fun e w'=>e=.returned (.bool (mJ c))∧Below w.heap.size w w':=by
 have HC:=hid (show mJ c=(jW (-32768) 32767 [c.ut] && (jW 0 63 [c.fl] && jW 0 255 [c.og])) from rfl);have B:=ak.new w [.int .i64 c.ut,.int .i64 c.fl,.int .i64 c.og] 26;have hb:=aA w (Obj.cells #[.int .i64 c.ut,.int .i64 c.fl,.int .i64 c.og] 26);go_enter func54,ntmps54;go_upto_region 1 with fail;change Code.wp prog _ _ _ (w.alloc (Obj.cells #[.int .i64 c.ut,.int .i64 c.fl,.int .i64 c.og] 26));generalize w.alloc (Obj.cells #[.int .i64 c.ut,.int .i64 c.fl,.int .i64 c.og] 26)=W at *;generalize hG:w.heap.size=G at *;have WJ:G<W.heap.size:=B.lt;have c_ut:=B.cell 0 _ rfl;have V6:=B.cell 1 _ rfl;have Oo:=B.cell 2 _ rfl;go_wp2_with fail;refine (jB (-32768) 32767 c.ut _).mono ?_;rintro e w0 ⟨rfl,b0⟩;replace B:=B.below b0;replace hb:=hb.trans (b0.mono aJ);have ZY:G<w0.heap.size:=B.lt;clear b0;clear c_ut V6 Oo;have V6:=B.cell 1 _ rfl;have Oo:=B.cell 2 _ rfl;cases h0:jW (-32768) 32767 [c.ut]
 ·rw [h0] at HC;exact wh
 rw [h0] at HC;go_wp2_with fail;refine (jB 0 63 c.fl _).mono ?_;rintro e w1 ⟨rfl,b1⟩;replace B:=B.below b1;replace hb:=hb.trans (b1.mono aJ);have Z0:G<w1.heap.size:=B.lt;clear b1;clear V6 Oo;have Oo:=B.cell 2 _ rfl;cases h1:jW 0 63 [c.fl]
 ·rw [h1] at HC;exact wh
 rw [h1] at HC;go_wp2_with fail;refine (jB 0 255 c.og _).mono ?_;rintro e w2 ⟨rfl,b2⟩;replace B:=B.below b2;replace hb:=hb.trans (b2.mono aJ);have V3:G<w2.heap.size:=B.lt;clear b2;clear Oo;exact TF
def ji (c:Cf):Bool:=!c.so || (decide (c.po=1) && decide (c.qc=255))
theorem yX (c:Cf) (w:World):Calls prog 55 #[.agg (cfL c).toArray] w fun e w'=>e=.returned (.bool (ji c))∧Below w.heap.size w w':=by
 have HC:=hid (show ji c=(!c.so || (decide (c.po=1) && decide (c.qc=255))) from rfl);have B:=ak.new w (cfL c) 28;have hb:=aA w (Obj.cells (cfL c).toArray 28);go_enter func55,ntmps55;go_upto_region 1 with fail;change Code.wp prog _ _ _ (w.alloc (Obj.cells (cfL c).toArray 28));generalize w.alloc (Obj.cells (cfL c).toArray 28)=W at *;generalize hG:w.heap.size=G at *;have Z4:=B.cell 8 _ rfl;have VY:=B.cell 1 _ rfl;have En:=B.cell 5 _ rfl;cases h0:c.so
 ·rw [h0] at Z4 HC;exact EB
 rw [h0] at Z4 HC;by_cases h1:c.po=1
 ·rw [decide_eq_true h1] at HC;rw [h1] at VY;go_wp2_with fail;go_ret;exact ⟨by rw [HC.out];by_cases h2:c.qc=255 <;> simp [h2],by rw [hG];exact hb⟩
 ·rw [decide_eq_false h1] at HC;have hn:(c.po == 1)=false:=nq h1;exact EB
theorem Ct (c:Cf):bP c=if (uJ c && (qd c && (mJ c && ji c)))=true then 0 else 15:=by
 unfold bP;by_cases h:gJ c
 ·rw [if_pos h,if_pos];unfold gJ at h;obtain ⟨h1,h2,h3,h4,h5,h6,h7,h8,h9,h10,h11,h12,iW,Ql,MZ,h16,Ww,h18,h19,h20,h21⟩:=h;simp only [uJ,qd,mJ,ji,II,IJ,Ab,mX,CW,KF,Bool.and_eq_true,decide_eq_true_eq,Bool.or_eq_true,Bool.not_eq_true'];refine ⟨⟨h1,h2,h3,h4,⟨h5,h6⟩,⟨⟨by omega,by omega⟩,by omega⟩⟩,⟨⟨h10,h11,h12⟩,iW,Ql,⟨MZ,h16⟩,Ww⟩,⟨h18,h19,h20⟩,?_⟩;cases hs:c.so
  ·exact .inl rfl
  ·exact .inr (h21 hs)
 ·rw [if_neg h,if_neg];intro hx;apply h;simp only [uJ,qd,mJ,ji,II,IJ,Ab,mX,CW,KF,Bool.and_eq_true,decide_eq_true_eq,Bool.or_eq_true,Bool.not_eq_true'] at hx;obtain ⟨⟨h1,h2,h3,h4,⟨h5,h6⟩,⟨⟨h7,h8⟩,h9⟩⟩,⟨⟨h10,h11,h12⟩,iW,Ql,⟨MZ,h16⟩,Ww⟩,⟨h18,h19,h20⟩,h21⟩:=hx;refine ⟨h1,h2,h3,h4,h5,h6,by omega,by omega,by omega,h10,h11,h12,iW,Ql,MZ,h16,Ww,h18,h19,h20,fun hs=>?_⟩;rcases h21 with h | h
  ·rw [hs] at h;cases h
  ·exact h
theorem Oq:CChk:=by
 intro c w hc;have HC:=hid (Ct c);have B:=ak.new w (cfL c) 28;have hb:=aA w (Obj.cells (cfL c).toArray 28);go_enter func28,ntmps28;go_upto_region 1 with fail;change Code.wp prog _ _ _ (w.alloc (Obj.cells (cfL c).toArray 28));generalize w.alloc (Obj.cells (cfL c).toArray 28)=W at *;generalize hG:w.heap.size=G at *;have WJ:G<W.heap.size:=B.lt;go_wp2_with (refine aD 3 ?_;refine tJ (op:=⟨some 3,.load _ _,_,_,_,_⟩) bn _ bn G bn (c) _ B ?_);refine (Kn c _).mono ?_;rintro e w0 ⟨rfl,b0⟩;replace B:=B.below b0;replace hb:=hb.trans (b0.mono aJ);have ZY:G<w0.heap.size:=B.lt;clear b0;cases h0:uJ c
 ·rw [h0] at HC;exact EB
 rw [h0] at HC;go_wp2_with (refine aD 7 ?_;refine j_ (op:=⟨some 7,.load _ _,_,_,_,_⟩) bn _ bn G bn c _ B ?_);refine (GL c _).mono ?_;rintro e w1 ⟨rfl,b1⟩;replace B:=B.below b1;replace hb:=hb.trans (b1.mono aJ);have Z0:G<w1.heap.size:=B.lt;clear b1;cases h1:qd c
 ·rw [h1] at HC;exact EB
 rw [h1] at HC;go_wp2_with (refine aD 13 ?_;refine ru (op:=⟨some 13,.load _ _,_,_,_,_⟩) bn _ bn G bn c _ B ?_);refine (Eo c _).mono ?_;rintro e w2 ⟨rfl,b2⟩;replace B:=B.below b2;replace hb:=hb.trans (b2.mono aJ);have V3:G<w2.heap.size:=B.lt;clear b2;cases h2:mJ c
 ·rw [h2] at HC;exact EB
 rw [h2] at HC;go_wp2_with (refine aD 18 ?_;refine j_ (op:=⟨some 18,.load _ _,_,_,_,_⟩) bn _ bn G bn c _ B ?_);refine (yX c _).mono ?_;rintro e w3 ⟨rfl,b3⟩;replace B:=B.below b3;replace hb:=hb.trans (b3.mono aJ);have ZX:G<w3.heap.size:=B.lt;clear b3;cases h3:ji c
 ·rw [h3] at HC;exact EB
 rw [h3] at HC;exact EB
theorem V7:CDef:=by intro cl w hcl;have hA:=ak.new w (cfL zeroC) 28;have hb:=aA w (Obj.cells (cfL zeroC).toArray 28);go_enter func34,ntmps34;go_upto_region 1 with fail;change Code.wp prog _ _ _ (w.alloc (Obj.cells (cfL zeroC).toArray 28));generalize w.alloc (Obj.cells (cfL zeroC).toArray 28)=W at *;generalize hG:w.heap.size=G at *;go_wp2_with (guard_target =~ wpList _ _ _ (⟨none,.store _ _ _,_,_,_,_⟩::_) _ _;refine rM (op:=⟨none,.store _ _ _,_,_,_,_⟩) bn _ _ bn G (CQ cl) (zeroC) _ bn bn hA ?_);exact bodyPost_ret (v:=.agg (cfL (CQ cl)).toArray) (results_cell_row rfl _ _ G _ _ (0,0) _ rfl (hA.rowC _) underlying28 rfl (by rw [pJ];rfl)) rfl ⟨rfl,by rw [hG];exact below_setRow hb (Nat.le_refl _) _⟩
section
variable {w:World} {g:Nat} {hs:List Nat} {sv fl:Nat} {bs:List PL} {F:Nat→Prop} {k:Kz} {i h:Nat} {b:PL} {p:Pt}
def WT (t m x y:Nat):PL:=⟨t,m,x,y,fun _=>False⟩
theorem Ep (c:Cf) (hcl:0≤c.cl∧c.cl<18446744073709551616) (i:Nat) (w:World):Calls prog 59 #[.agg (bT.enc c).toArray,.int .i64 ((i:Int)+1)] w fun e w'=>∃h b,e=.returned (.pointer (some ⟨h,0,none⟩))∧o8 w' h (nu c i) b (gK c i)∧(∀n,OF h b n→w.heap.size≤n∧n<w'.heap.size)∧(∀n,b.G n→False)∧Below w.heap.size w w':=by
 obtain ⟨self,hself⟩:∃self,nu c i=self:=⟨_,rfl⟩;have hs1:0≤self.1∧self.1<18446744073709551616:=by rw [←hself];exact hcl
 have Yt:=lZ c.la;have hw:=wrap_small (x:=4*bF c.la) aJ;have z:=aA w (Obj.cells (bT.enc c).toArray 28);have X:=ak.new w (bT.enc c) 28;go_enter func59,ntmps59;go_upto_region 1 with fail;change Code.wp prog _ _ _ (w.alloc (Obj.cells (bT.enc c).toArray 28));obtain ⟨gc,hgc⟩:∃gc,w.heap.size=gc:=⟨_,rfl⟩;rw [hgc] at X;rw [show (Value.pointer (some ⟨w.heap.size,0,none⟩))=Value.pointer (some ⟨gc,0,none⟩) by rw [hgc]];generalize w.alloc (Obj.cells (bT.enc c).toArray 28)=W at *;have x0:=X.cell 0 (.int .u64 c.cl) rfl;have z2:=aA W (Obj.cells (iw.enc ((0:Int),(0:Int))).toArray 54);have hN:=ak.new W (iw.enc ((0:Int),(0:Int))) 54;go_upto_region 2 with (first | (refine aD 9 ?_;refine iZ bn _ _ bn _ bn (iw.enc self).toArray (by rw [←hself];kernel_rfl) ?_) | (refine aN ?_;refine Dc.aS (W.heap.size) (self) (((0:Int),(0:Int))) hN ?_));have qb:=below_setRow z2 (Nat.le_refl _) (iw.enc self).toArray;have XS:=hN.fB (iw.enc self);change Code.wp prog _ _ _ ((W.alloc (Obj.cells (iw.enc ((0:Int),(0:Int))).toArray 54)).setRow W.heap.size (iw.enc self).toArray);replace X:=X.below qb;replace z:=ah z qb;clear x0 z2 qb hN hgc;generalize (W.alloc (Obj.cells (iw.enc ((0:Int),(0:Int))).toArray 54)).setRow W.heap.size (iw.enc self).toArray=W1 at *;generalize W.heap.size=gs at *;have hbd:=Below.drew (Below.refl W1.heap.size W1);replace X:=X.below hbd;replace XS:=XS.below hbd;replace z:=ah z hbd;refine eU (S:=fun w'=>Below W1.drew.heap.size W1.drew w') (z:=20) aW ?_;have hHeld:=Below.refl W1.drew.heap.size W1.drew;generalize W1.drew=wd at *;clear hbd;have hzs:=z.size;have d0:∀wx,Below wd.heap.size wd wx→wx.rangeAt gs 0 (iw.enc self):=fun wx hx=>(XS.below hx).b_;have d1:∀wx,Below wd.heap.size wd wx→wx.cell? ⟨gc,0,none⟩=some (.int .u64 c.cl):=fun wx hx=>(X.below hx).cell 0 _ rfl;have d2:∀wx,Below wd.heap.size wd wx→wx.cell? ⟨gc,9,none⟩=some (.int .i64 c.la):=fun wx hx=>(X.below hx).cell 9 _ rfl;have d3:∀wx,Below wd.heap.size wd wx→wx.cell? ⟨gc,2,none⟩=some (.int .i64 c.dm):=fun wx hx=>(X.below hx).cell 2 _ rfl;refine zt 0 hHeld ?_ (hy:=fun wx hwx=>Dc.exec (.tmp 5) rfl gs 0 rfl self (d0 wx hwx));refine tz [1,2,3,4,5] hHeld ?_;refine zt 10 hHeld ?_ (hy:=fun wx hwx=>Dc.exec (.tmp 5) rfl gs 0 rfl self (d0 wx hwx));refine tz [11,12] hHeld ?_;refine zt 14 hHeld ?_ (hy:=fun wx hwx=>Dc.exec (.tmp 5) rfl gs 0 rfl self (d0 wx hwx));refine tz [15,16] hHeld ?_;refine aZ 6 fun K' hK=>?_;go_simp;refine (iF c.la wd).mono ?_;rintro e wz ⟨rfl,hz⟩;obtain rfl:=hz;refine hK _ _ hHeld ?_;clear hK K';try simp only [Act.put,zI,bG,zS]
 refine tz [7] hHeld ?_;refine aZ 8 fun K' hK=>?_;go_simp;refine (QY c.cl ((i:Int)+1) (4*bF c.la) wd hcl).mono ?_;rintro e w1 ⟨gT,rfl,lT,oT,b1⟩;refine hK _ _ b1 ?_;clear hK K' hHeld;have hHeld:=b1;clear b1;try simp only [Act.put,zI,bG,zS]
 refine aZ 9 fun K' hK=>?_;go_simp;refine (QJ w1).mono ?_;rintro e w2 ⟨gM,rfl,lM,oM,b2⟩;replace oT:=oT.below b2;have hs2:=hHeld.size;have hs3:=b2.size;replace hHeld:=hHeld.trans (b2.mono hHeld.size);refine hK _ _ hHeld ?_;clear hK K' b2;try simp only [Act.put,zI,bG,zS]
 refine aZ 13 fun K' hK=>?_;go_simp;refine (QM self c.dm w2 hs1).mono ?_;rintro e w3 ⟨gX,rfl,lX,oX,b3⟩;replace oT:=oT.below b3;replace oM:=bY.below oM b3;have hs4:=b3.size;replace hHeld:=hHeld.trans (b3.mono hHeld.size);refine hK _ _ hHeld ?_;clear hK K' b3;try simp only [Act.put,zI,bG,zS]
 refine aZ 17 fun K' hK=>?_;go_simp;refine (QT self c.dm w3 hs1).mono ?_;rintro e w4 ⟨gY,rfl,lY,oY,b4⟩;replace oT:=oT.below b4;replace oM:=bY.below oM b4;replace oX:=bY.below oX b4;have hs5:=b4.size;replace hHeld:=hHeld.trans (b4.mono hHeld.size);refine hK _ _ hHeld ?_;clear hK K' b4;try simp only [Act.put,zI,bG,zS]
 refine zt 18 hHeld ?_ (hy:=fun wx hwx=>bg _ _ rfl _ rfl (Cx self (WT gT gM gX gY) (.slice none 0 0) (gK c i)).toArray (by rw [←hself];kernel_rfl));refine aZ 19 fun K' hK=>?_;go_simp;have b5:=aA w4 (Obj.cells (Cx self (WT gT gM gX gY) (.slice none 0 0) (gK c i)).toArray SC);have BP:=ak.new w4 (Cx self (WT gT gM gX gY) (.slice none 0 0) (gK c i)) SC;have lP:w4.heap.size<(w4.alloc (Obj.cells (Cx self (WT gT gM gX gY) (.slice none 0 0) (gK c i)).toArray SC)).heap.size:=BP.lt;replace oT:=oT.below b5;replace oM:=bY.below oM b5;replace oX:=bY.below oX b5;replace oY:=bY.below oY b5;replace hHeld:=hHeld.trans (b5.mono hHeld.size);refine hK _ (w4.alloc (Obj.cells (Cx self (WT gT gM gX gY) (.slice none 0 0) (gK c i)).toArray SC)) hHeld ?_;clear hK K' b5;try simp only [Act.put,zI,bG,zS]
 refine aE 20 fun K' hK=>?_;go_simp;refine hK _ _ ?_;clear hK K' d0 d1 d2 d3;go_wp2_with fail;go_ret;have hall:=ah z hHeld;subst hself;refine ⟨w4.heap.size,WT gT gM gX gY,rfl,?_,fun n hn=>?_,fun n hn=>hn,hall⟩
 ·exact ⟨⟨_,BP,jK.nil _ _ (fun n hn=>absurd hn id) rfl⟩,oT,oM,⟨c.dm,oX⟩,⟨c.dm,oY⟩⟩
 ·have h4:=oY.ty.lt;have h5:=oX.ty.lt;have h6:=oM.ty.lt;have h7:=oT.ty.lt;have hN0:w.heap.size≤wd.heap.size:=hzs;rcases hn with e | e | e | e | e
  ·rw [e];exact ⟨by omega,lP⟩
  ·rw [show n=gT from e];exact ⟨by omega,h7⟩
  ·rw [show n=gM from e];exact ⟨by omega,h6⟩
  ·rw [show n=gX from e];exact ⟨by omega,h5⟩
  ·rw [show n=gY from e];exact ⟨by omega,h4⟩
end
end Go.Proofs.YtofhdhgfcomhiaaGreat
