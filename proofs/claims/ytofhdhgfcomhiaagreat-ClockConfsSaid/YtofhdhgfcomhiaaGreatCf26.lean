/- Of what laws of the clock want, part 26: ClkOb ClkEvtT ClkTk ClkConfsWalk OpenC (mini.py). -/
import Derived.Test.YtofhdhgfcomhiaaGreatCf25
namespace Go.Proofs.YtofhdhgfcomhiaaGreat
open Go.RowKit Go.Proofs
set_option maxRecDepth 100000
set_option maxHeartbeats 100000000
set_option linter.unusedVariables false
set_option linter.unusedSimpArgs false
open Tryz
variable {B:Nat} {P:Program} {Q:Exit→Act→World→Prop} {S:World→Prop} {a:Act} {b:Nat} {base:Nat} {cap:Nat} {fuel:Nat} {g:Nat} {h:Nat} {i:Nat} {l:List UInt8} {listed:Array Bool} {n:Nat} {now:Int} {o:Oper} {oi:Oper} {op:Oper} {ops:Array Oper} {p:Prop} {rest:List Oper} {t:TypeId} {v:Value} {w:World} {w':World} {xs:List Value} {α:Type}
def obK:Ob (Kz×Nat) where
 rel:=fun w g F s=>∃hs sv fl bs F0,Lay w g hs sv fl bs F0 s.1∧eD s.1 s.2∧F=aK g F0
 lt:=by
  rintro w g F s ⟨hs,sv,fl,bs,F0,L,-,rfl⟩ k hk
  exact L.lt k hk
 keep:=by
  rintro w w' g F s ⟨hs,sv,fl,bs,F0,L,hI,rfl⟩ e
  exact ⟨hs,sv,fl,bs,F0,L.same e,hI,rfl⟩
theorem IU:MN obK:=by intro c w hin hc;refine (Ow c hin hc w).mono ?_;rintro e w' ⟨g,rfl,hs,sv,fl,bs,F,L,hF,hb⟩;exact ⟨g,rfl,⟨aK g F,hF,hs,sv,fl,bs,F,L,sw hc hin.1,rfl⟩,hb⟩
theorem Wh:Y9:=fun c w hin hc=>RQ c hin hc w
theorem OG {hs:List Nat} {sv fl:Nat} {bs:List PL} {F:Nat→Prop} {k:Kz} {os:List Ot} (L:Lay w g hs sv fl bs F k) (h:BI.Own Ce w B v os):zM v (aK g F):=by
 rintro a n c rfl hF;rcases id h with ⟨h0,⟨he,-⟩ | ⟨b,cap,cur,he,-⟩⟩
 ·cases he
 ·cases he;exact L.no (RowK.Own.ty h rfl).1 aX hF
theorem OH:MP obK where
 DJ:=by rintro g F k n w ⟨hs,sv,fl,bs,F0,L,hI,rfl⟩;exact NA L
 MQ:=by rintro g F k n w ⟨hs,sv,fl,bs,F0,L,hI,rfl⟩;exact Gg L
 MR:=by rintro g F k n w ⟨hs,sv,fl,bs,F0,L,hI,rfl⟩;exact Gd L
 MS:=by rintro g F k n w ⟨hs,sv,fl,bs,F0,L,hI,rfl⟩;exact JX L
 DK:=by rintro g F k n w ⟨hs,sv,fl,bs,F0,L,hI,rfl⟩;exact Nz L
 MU:=by rintro g F k n w ⟨hs,sv,fl,bs,F0,L,hI,rfl⟩;exact Gf L
 Zd:=by rintro g F k n w ⟨hs,sv,fl,bs,F0,L,hI,rfl⟩;exact JZ L
 Ez:=by rintro g F k n po w ⟨hs,sv,fl,bs,F0,L,hI,rfl⟩;exact zQ L hI.len po
 Td:=by rintro g F k n po w ⟨hs,sv,fl,bs,F0,L,hI,rfl⟩;exact J2 L hI.len po
 Te:=by rintro g F k n po w ⟨hs,sv,fl,bs,F0,L,hI,rfl⟩;exact Ch L hI.len po
section
variable {w:World} {g:Nat} {hs:List Nat} {sv fl:Nat} {bs:List PL} {F:Nat→Prop} {k:Kz} {i h:Nat} {b:PL} {p:Pt}
theorem GV (L:Lay w g hs sv fl bs F k) {n0:Nat} (hI:eD k n0) (hn:n0<jQ) (e:Ev) (he:ML e) (hk:e.kd=1):Calls prog 15 #[.pointer (some ⟨g,0,none⟩),.agg (Y8.enc e).toArray] w fun r w'=>∃v hs' KJ Ox bs' F',r=.returned v∧Lay w' g hs' KJ Ox bs' F' (r9 k e).1∧(∀n,F' n→F n∨w.heap.size≤n)∧BI.Own Ce w' w.heap.size v (r9 k e).2∧dx w.heap.size (aK g F) w w':=by
 obtain ⟨R,hR⟩:∃R,r9 k e=R:=⟨_,rfl⟩;rw [hR];replace hR:=hid hR;replace hk:=hid hk;have vv:Hid (w.heap.size≤w.heap.size):=hid (Nat.le_refl _);have Q:dx w.heap.size (aK g F) w w:=dx.refl _ _ w;have z:=aA w (Obj.cells (Y8.enc e).toArray 48);have X:=ak.new w (Y8.enc e) 48;replace L:=L.below z;replace Q:=Q.bel z;go_enter func15,ntmps15;go_upto_region 1 with fail;change Code.wp prog _ _ _ (w.alloc (Obj.cells (Y8.enc e).toArray 48));obtain ⟨ge,hge⟩:∃ge,w.heap.size=ge:=⟨_,rfl⟩;rw [hge] at X;have hgew:w.heap.size≤ge:=Nat.le_of_eq hge;try rw [show (Value.pointer (some ⟨w.heap.size,0,none⟩))=Value.pointer (some ⟨ge,0,none⟩) by rw [hge]]
 generalize w.alloc (Obj.cells (Y8.enc e).toArray 48)=W at *;clear z hge;have x2:=X.cell 2 (.int .i64 e.nw) rfl;have x0:=X.cell 0 (.int .i64 e.kd) rfl;go_cut [5] (fun v w'=>v=.pointer (some ⟨W.heap.size,0,none⟩)∧ak w' W.heap.size [.pointer (some ⟨g,0,none⟩),.int .i64 (nR e.nw),.slice none 0 0] OL∧Below W.heap.size W w');case first=>
  have z:=aA W (Obj.cells (KO.enc Ae).toArray 115);have hN:=ak.new W (KO.enc Ae) 115;by_cases h1:e.nw<0
  ·have hv:nR e.nw=0:=by unfold nR ng;omega
   exact Ti
  ·by_cases h2:4000000000000000<e.nw
   ·have hv:nR e.nw=4000000000000000:=by unfold nR ng;omega
    exact Ti
   ·have hv:nR e.nw=e.nw:=by unfold nR ng;omega
    exact Ti
 case rest=>
 obtain ⟨rfl,hS,bq⟩:=hcut;have hWs:w.heap.size≤W.heap.size:=Q.size;replace L:=L.below bq;replace Q:=Q.bel bq;replace X:=X.below bq;have A:aY wc W.heap.size w.heap.size g (nR e.nw) []:=⟨hWs,_,hS,by unfold RowK.Own;exact World.ownsRow_nil _ _ _ _⟩;clear x0 x2 bq hWs;generalize W.heap.size=s at *;have x0:=X.cell 0 (.int .i64 e.kd) rfl;have nN:=fO.cut e.nw;have hlen:=hid hI.len;replace he:=hid he;have hv:=hk.out;clear hk;have b1:(e.kd == 1)=true:=by rw [hv];rfl
 have e1:xI k (nR e.nw)=R:=by rw [←hR.out];unfold r9;rw [if_pos hv]
 replace e1:=hid e1;clear hv;go_wp2_with fail;refine (Kw L A (Nat.le_trans vv.out Q.size) hI nN (Nat.zero_le _)).mono ?_;rintro e' w6 ⟨rfl,L6,A6,Q6⟩;replace Q6:=Q.next Q6;clear L A X x0 Q hS;obtain ⟨hBs6,ov6,hS6,oA6⟩:=A6;have s2:=hS6.cell 2 _ rfl;go_wp2_with fail;go_ret;rw [←e1.out];exact ⟨ov6,hs,sv,fl,bs,F,rfl,L6,fun n hn=>.inl hn,oA6,Q6⟩
end
def OI (O:Ob (Kz×Nat)):Prop:=∀(g:Nat) (F:Nat→Prop) (k:Kz) (n:Nat) (e:Ev) (w:World),O.rel w g F (k,n)→n<budget→ML e→e.kd=1 →
 Calls prog 15 #[.pointer (some ⟨g,0,none⟩),.agg (Y7 e).toArray] w fun r w'=>∃v F',r=.returned v∧BI.Own 73 w' w.heap.size v (r9 k e).2∧zM v F'∧(∀i,F' i→F i∨w.heap.size≤i)∧O.rel w' g F' ((r9 k e).1,n+1)∧bW F w w'
theorem OJ:OI obK:=by
 rintro g F k n e w ⟨hs,sv,fl,bs,F0,L,hI,rfl⟩ hn he hk;refine (GV L hI hn e he hk).mono ?_;rintro r w' ⟨v,hs',KJ,Ox,bs',F',rfl,L',hF,hO,Q⟩;refine ⟨v,aK g F',rfl,hO,OG L' hO,fun i hi=>?_,⟨hs',KJ,Ox,bs',F',L',QI hI hn e he,rfl⟩,Q.end⟩;rcases hi with rfl | hi
 ·exact .inl (.inl rfl)
 ·exact (hF i hi).imp .inr id
theorem KA:BM obK:=by rintro g F k n po w ⟨hs,sv,fl,bs,F0,L,hI,rfl⟩;exact zQ L hI.len po
theorem Cu {O:Ob (Kz×Nat)} (HDef:Wd) (Vf:MN O) (SV:OI O) (Ez:BM O):FQ:=by
 intro w;go_enter func10,ntmps10;go_wp2_with fail;refine (HDef 1 _ aX).mono ?_;rintro e w1 ⟨rfl,hb⟩;go_wp2_with fail;refine (Vf (CQ 1) _ (Qg aX aX) aX).mono ?_;rintro e w2 ⟨g,rfl,hO,bq⟩;replace hO:O.At w.heap.size w2 g (uL 0):=hO.low hb.size;replace hb:=ah hb bq;clear bq;go_wp2_with fail;obtain ⟨F,hF,r⟩:=hO;refine (Ez g F (uL 0).1 (uL 0).2 1 _ r).mono ?_;rintro e wq ⟨rfl,bq⟩;replace hO:O.At w.heap.size wq g (uL 0):=⟨F,hF,Ob.below r bq⟩;replace hb:=ah hb bq;clear bq r hF F;rw [Ky];go_wp2_with (refine aD 22 ?_;refine nJ (op:=⟨some 22,.build _ _,_,_,_,_⟩) bn _ _ bn _ bn (Y7 tu).toArray aW ?_);refine (Ob.SS hO hb fun F r=>SV g F (uL 0).1 (uL 0).2 tu _ r (by rw [show (uL 0).2=0 from IQ 0];unfold budget;omega) Et rfl).mono ?_;rintro e wq ⟨v,rfl,hO2,hb2⟩;clear hO hb;have hO:=hO2;have hb:=hb2;clear hO2 hb2;replace hO:O.At w.heap.size wq g (uL 1):=hO;go_wp2_with fail;obtain ⟨F,hF,r⟩:=hO;refine (Ez g F (uL 1).1 (uL 1).2 1 _ r).mono ?_;rintro e wq ⟨rfl,bq⟩;replace hO:O.At w.heap.size wq g (uL 1):=⟨F,hF,Ob.below r bq⟩;replace hb:=ah hb bq;clear bq r hF F;rw [GR];go_wp2_with fail;go_loopw [4] (fun iv wr=>∃i:Nat,i≤48∧iv=.int .i64 (i:Int)∧O.At w.heap.size wr g (uL (i+1))∧Below w.heap.size w wr) (fun iv _=>48 - (intOf iv).toNat);case atStart=>exact ⟨0,by omega,rfl,hO,hb⟩
 case round=>
  clear hO hb;obtain ⟨i,hi,rfl,hO,hb⟩:=hrel;by_cases hlt:i<48
  ·have PD:(i:Int)<48:=by omega
   have hii:=hid hlt;clear hlt hi;go_wp2_with (refine aD 31 ?_;refine nJ (op:=⟨some 31,.build _ _,_,_,_,_⟩) bn _ _ bn _ bn (Y7 tu).toArray aW ?_);refine (Ob.SS hO hb fun F r=>SV g F (uL (i+1)).1 (uL (i+1)).2 tu _ r (by rw [IQ];have:=hii.out;unfold budget;omega) Et rfl).mono ?_;rintro e wq ⟨v,rfl,hO2,hb2⟩;clear hO hb;have hO:=hO2;have hb:=hb2;clear hO2 hb2;replace hO:O.At w.heap.size wq g (stK (uL (i+1)) tu):=hO;rw [OE] at hO;go_wp2_with fail;go_roundw;case rel=>exact ⟨i+1,by have:=hii.out;omega,by go_num,hO,hb⟩
   case measure=>(have:=hii.out;simp [intOf] <;> omega)
  ·have PD:¬(i:Int)<48:=by omega
   obtain rfl:i=48:=by omega
   replace hO:O.At w.heap.size wr g (uL 49):=hO;go_wp2_with fail;obtain ⟨F,hF,r⟩:=hO;refine (Ez g F (uL 49).1 (uL 49).2 1 _ r).mono ?_;rintro e wq ⟨rfl,bq⟩;replace hO:O.At w.heap.size wq g (uL 49):=⟨F,hF,Ob.below r bq⟩;replace hb:=ah hb bq;clear bq r hF F;rw [GU];exact I4
theorem R3:FQ:=Cu (fun cl w h=>V7 cl w h) IU OJ KA
theorem clockConfs_walk (c:Cf) (hin:oJ c) (w:World):Calls prog 3 #[.agg (cfL c).toArray] w fun e w'=>e=.returned (.bool true)∧Below w.heap.size w w':=
 vF OH IU Wh R3 c hin w
section
open Go.ChangeShapes Go.WideShapes Go.ChangeAt Go.RowKit
theorem vJ {cs:List Value} (h:cs.length=23):∃c0 c1 c2 c3 c4 c5 c6 c7 c8 c9 c10 c11 c12 c13 c14 c15 c16 c17 c18 c19 c20 c21 nO,cs=[c0,c1,c2,c3,c4,c5,c6,c7,c8,c9,c10,c11,c12,c13,c14,c15,c16,c17,c18,c19,c20,c21,nO]:=by
 match cs,h with
 | [c0,c1,c2,c3,c4,c5,c6,c7,c8,c9,c10,c11,c12,c13,c14,c15,c16,c17,c18,c19,c20,c21,nO],_=>exact ⟨c0,c1,c2,c3,c4,c5,c6,c7,c8,c9,c10,c11,c12,c13,c14,c15,c16,c17,c18,c19,c20,c21,nO,rfl⟩
theorem yA {H:Type} {enc:TypeId×Value→H} {spare:Nat→Bool} {held:Bool} {cs:List Value} {y:DataW H×List MemPlace} (hsz:cs.length=23) (hf:DataW.trod enc prog w base spare held fuel 28 cs=some y):∃a:Cf,cs=cfL a∧((0≤a.cl∧a.cl<18446744073709551616)∧∀x ∈ [a.po,a.dm,a.p1,a.p2,a.qc,a.qa,a.qv,a.la,a.ls,a.ld,a.tm,a.md,a.kp,a.ki,a.st,a.ut,a.fl,a.og],-9223372036854775808≤x∧x≤9223372036854775807):=by
 obtain ⟨c0,c1,c2,c3,c4,c5,c6,c7,c8,c9,c10,c11,c12,c13,c14,c15,c16,c17,c18,c19,c20,c21,nO,rfl⟩:=vJ hsz;obtain ⟨xs,n,_,_,_,hx,hat⟩:=DataW.trod_struct underlying28 hf;have kb:prog.cellsOf 4=1:=by kernel_rfl
 have ki:prog.cellsOf 3=1:=by kernel_rfl
 have ku:prog.cellsOf 22=1:=by kernel_rfl
 have kQ:prog.cellsOf 24=3:=by kernel_rfl
 have kT:prog.cellsOf 26=3:=by kernel_rfl
 have hx':xs.length=19:=hx;have dM:∀i,i<19→∃y,xs[i]? = some y:=fun i hi=>⟨xs[i]'aJ,List.getElem?_eq_getElem aJ⟩;obtain ⟨y0,g0⟩:=dM 0 aX;have t0:=(hat 0 ⟨_,_,_,_,_,_,_⟩ rfl).trans g0;simp only [ku,Value.cells,List.drop_succ_cons,List.drop_zero,List.take_succ_cons,List.take_zero] at t0;obtain ⟨zcl,ecl,_,wcl⟩:=DataW.trod_int underlying22 t0;obtain ⟨y1,g1⟩:=dM 1 aX;have t1:=(hat 1 ⟨_,_,_,_,_,_,_⟩ rfl).trans g1;simp only [ki,Value.cells,List.drop_succ_cons,List.drop_zero,List.take_succ_cons,List.take_zero] at t1;obtain ⟨zpo,epo,_,wpo⟩:=DataW.trod_int underlying3 t1;obtain ⟨y2,g2⟩:=dM 2 aX;have t2:=(hat 2 ⟨_,_,_,_,_,_,_⟩ rfl).trans g2;simp only [ki,Value.cells,List.drop_succ_cons,List.drop_zero,List.take_succ_cons,List.take_zero] at t2;obtain ⟨zdm,edm,_,wdm⟩:=DataW.trod_int underlying3 t2;obtain ⟨y3,g3⟩:=dM 3 aX;have t3:=(hat 3 ⟨_,_,_,_,_,_,_⟩ rfl).trans g3;simp only [ki,Value.cells,List.drop_succ_cons,List.drop_zero,List.take_succ_cons,List.take_zero] at t3;obtain ⟨zp1,WR,_,wp1⟩:=DataW.trod_int underlying3 t3;obtain ⟨y4,g4⟩:=dM 4 aX;have t4:=(hat 4 ⟨_,_,_,_,_,_,_⟩ rfl).trans g4;simp only [ki,Value.cells,List.drop_succ_cons,List.drop_zero,List.take_succ_cons,List.take_zero] at t4;obtain ⟨zp2,RN,_,wp2⟩:=DataW.trod_int underlying3 t4;obtain ⟨y5,g5⟩:=dM 5 aX;have t5:=(hat 5 ⟨_,_,_,_,_,_,_⟩ rfl).trans g5;simp only [kQ,Value.cells,List.drop_succ_cons,List.drop_zero,List.take_succ_cons,List.take_zero] at t5;obtain ⟨u5_0,u5_1,u5_2,m5,_,_,Z6,Z7,Z8⟩:=Go.Deep.trod_struct3 underlying24 t5;simp [kb,ki,ku] at Z6;obtain ⟨zqc,eqc,_,wqc⟩:=DataW.trod_int underlying3 Z6;simp [kb,ki,ku] at Z7;obtain ⟨zqa,eqa,_,wqa⟩:=DataW.trod_int underlying3 Z7;simp [kb,ki,ku] at Z8;obtain ⟨zqv,eqv,_,wqv⟩:=DataW.trod_int underlying3 Z8;obtain ⟨y6,g6⟩:=dM 6 aX;have t6:=(hat 6 ⟨_,_,_,_,_,_,_⟩ rfl).trans g6;simp only [kb,Value.cells,List.drop_succ_cons,List.drop_zero,List.take_succ_cons,List.take_zero] at t6;obtain ⟨zso,eso,_⟩:=DataW.trod_bool underlying4 t6;obtain ⟨y7,g7⟩:=dM 7 aX;have t7:=(hat 7 ⟨_,_,_,_,_,_,_⟩ rfl).trans g7;simp only [ki,Value.cells,List.drop_succ_cons,List.drop_zero,List.take_succ_cons,List.take_zero] at t7;obtain ⟨zla,ela,_,wla⟩:=DataW.trod_int underlying3 t7;obtain ⟨y8,g8⟩:=dM 8 aX;have t8:=(hat 8 ⟨_,_,_,_,_,_,_⟩ rfl).trans g8;simp only [ki,Value.cells,List.drop_succ_cons,List.drop_zero,List.take_succ_cons,List.take_zero] at t8;obtain ⟨zls,els,_,wls⟩:=DataW.trod_int underlying3 t8;obtain ⟨y9,g9⟩:=dM 9 aX;have t9:=(hat 9 ⟨_,_,_,_,_,_,_⟩ rfl).trans g9;simp only [ki,Value.cells,List.drop_succ_cons,List.drop_zero,List.take_succ_cons,List.take_zero] at t9;obtain ⟨zld,eld,_,wld⟩:=DataW.trod_int underlying3 t9;obtain ⟨y10,g10⟩:=dM 10 aX;have t10:=(hat 10 ⟨_,_,_,_,_,_,_⟩ rfl).trans g10;simp only [ki,Value.cells,List.drop_succ_cons,List.drop_zero,List.take_succ_cons,List.take_zero] at t10;obtain ⟨ztm,etm,_,wtm⟩:=DataW.trod_int underlying3 t10;obtain ⟨y11,g11⟩:=dM 11 aX;have t11:=(hat 11 ⟨_,_,_,_,_,_,_⟩ rfl).trans g11;simp only [kb,Value.cells,List.drop_succ_cons,List.drop_zero,List.take_succ_cons,List.take_zero] at t11;obtain ⟨zpe,epe,_⟩:=DataW.trod_bool underlying4 t11;obtain ⟨y12,g12⟩:=dM 12 aX;have t12:=(hat 12 ⟨_,_,_,_,_,_,_⟩ rfl).trans g12;simp only [kb,Value.cells,List.drop_succ_cons,List.drop_zero,List.take_succ_cons,List.take_zero] at t12;obtain ⟨zos,eos,_⟩:=DataW.trod_bool underlying4 t12;obtain ⟨y13,g13⟩:=dM 13 aX;have t13:=(hat 13 ⟨_,_,_,_,_,_,_⟩ rfl).trans g13;simp only [ki,Value.cells,List.drop_succ_cons,List.drop_zero,List.take_succ_cons,List.take_zero] at t13;obtain ⟨zmd,emd,_,wmd⟩:=DataW.trod_int underlying3 t13;obtain ⟨y14,g14⟩:=dM 14 aX;have t14:=(hat 14 ⟨_,_,_,_,_,_,_⟩ rfl).trans g14;simp only [ki,Value.cells,List.drop_succ_cons,List.drop_zero,List.take_succ_cons,List.take_zero] at t14;obtain ⟨zkp,ekp,_,wkp⟩:=DataW.trod_int underlying3 t14;obtain ⟨y15,g15⟩:=dM 15 aX;have t15:=(hat 15 ⟨_,_,_,_,_,_,_⟩ rfl).trans g15;simp only [ki,Value.cells,List.drop_succ_cons,List.drop_zero,List.take_succ_cons,List.take_zero] at t15;obtain ⟨zki,eki,_,wki⟩:=DataW.trod_int underlying3 t15;obtain ⟨y16,g16⟩:=dM 16 aX;have t16:=(hat 16 ⟨_,_,_,_,_,_,_⟩ rfl).trans g16;simp only [ki,Value.cells,List.drop_succ_cons,List.drop_zero,List.take_succ_cons,List.take_zero] at t16;obtain ⟨zst,est,_,wst⟩:=DataW.trod_int underlying3 t16;obtain ⟨y17,g17⟩:=dM 17 aX;have t17:=(hat 17 ⟨_,_,_,_,_,_,_⟩ rfl).trans g17;simp only [kT,Value.cells,List.drop_succ_cons,List.drop_zero,List.take_succ_cons,List.take_zero] at t17;obtain ⟨u17_0,u17_1,u17_2,m17,_,_,SX,SY,S9⟩:=Go.Deep.trod_struct3 underlying26 t17;simp [kb,ki,ku] at SX;obtain ⟨Wx,eut,_,wut⟩:=DataW.trod_int underlying3 SX;simp [kb,ki,ku] at SY;obtain ⟨zfl,efl,_,wfl⟩:=DataW.trod_int underlying3 SY;simp [kb,ki,ku] at S9;obtain ⟨zog,eog,_,wog⟩:=DataW.trod_int underlying3 S9;obtain ⟨y18,g18⟩:=dM 18 aX;have t18:=(hat 18 ⟨_,_,_,_,_,_,_⟩ rfl).trans g18;simp only [kb,Value.cells,List.drop_succ_cons,List.drop_zero,List.take_succ_cons,List.take_zero] at t18;obtain ⟨ztr,etr,_⟩:=DataW.trod_bool underlying4 t18;simp only [List.cons.injEq,and_true] at ecl epo edm WR RN eqc eqa eqv eso ela els eld etm epe eos emd ekp eki est eut efl eog etr;subst ecl epo edm WR RN eqc eqa eqv eso ela els eld etm epe eos emd ekp eki est eut efl eog etr
 exact ⟨⟨zcl,zpo,zdm,zp1,zp2,zqc,zqa,zqv,zso,zla,zls,zld,ztm,zpe,zos,zmd,zkp,zki,zst,Wx,zfl,zog,ztr⟩,rfl,⟨I6 wcl,fun x hx=>by
  simp only [List.mem_cons,List.not_mem_nil,or_false] at hx
  rcases hx with rfl | rfl | rfl | rfl | rfl | rfl | rfl | rfl | rfl | rfl | rfl | rfl | rfl | rfl | rfl | rfl | rfl | rfl
  ·exact bS wpo
  ·exact bS wdm
  ·exact bS wp1
  ·exact bS wp2
  ·exact bS wqc
  ·exact bS wqa
  ·exact bS wqv
  ·exact bS wla
  ·exact bS wls
  ·exact bS wld
  ·exact bS wtm
  ·exact bS wmd
  ·exact bS wkp
  ·exact bS wki
  ·exact bS wst
  ·exact bS wut
  ·exact bS wfl
  ·exact bS wog⟩⟩
theorem open_conf {H:Type} {enc:TypeId×Value→H} {b0:Nat} {spare:Nat→Bool} {held:Bool} {rr:Reach} {d:DataW H} {p:List MemPlace} (hv:Value.okWide prog w rr b0 28 v) (h:DataW.Trod enc prog w base spare held 28 v d p):∃a:Cf,v=.agg (cfL a).toArray∧((0≤a.cl∧a.cl<18446744073709551616)∧∀x ∈ [a.po,a.dm,a.p1,a.p2,a.qc,a.qa,a.qv,a.la,a.ls,a.ld,a.tm,a.md,a.kp,a.ki,a.st,a.ut,a.fl,a.og],-9223372036854775808≤x∧x≤9223372036854775807):=by
 obtain ⟨cs,rfl,hsz⟩:=okWide_struct underlying28 hv;have hC:prog.cellsOf 28=23:=by kernel_rfl
 rw [hC] at hsz;obtain ⟨cs⟩:=cs;obtain ⟨fuel,hf⟩:=h;obtain ⟨a,ha,hp⟩:=yA (cs:=cs) hsz hf;exact ⟨a,by rw [ha],hp⟩
end
end Go.Proofs.YtofhdhgfcomhiaaGreat
