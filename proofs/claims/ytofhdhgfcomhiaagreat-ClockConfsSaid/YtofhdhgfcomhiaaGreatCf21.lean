/- Of what laws of the clock want, part 21: DecOwn1 DecOwn2 DecOwn3 (mini.py). -/
import Derived.Test.YtofhdhgfcomhiaaGreatCf14
import Derived.Test.YtofhdhgfcomhiaaGreatCf15
namespace Go.Proofs.YtofhdhgfcomhiaaGreat
open Go.RowKit Go.Proofs
set_option maxRecDepth 100000
set_option maxHeartbeats 100000000
set_option linter.unusedVariables false
set_option linter.unusedSimpArgs false
open Tryz
variable {B:Nat} {P:Program} {Q:Exit→Act→World→Prop} {S:World→Prop} {a:Act} {b:Nat} {base:Nat} {cap:Nat} {fuel:Nat} {g:Nat} {h:Nat} {i:Nat} {l:List UInt8} {listed:Array Bool} {n:Nat} {now:Int} {o:Oper} {oi:Oper} {op:Oper} {ops:Array Oper} {p:Prop} {rest:List Oper} {t:TypeId} {v:Value} {w:World} {w':World} {xs:List Value} {α:Type}
def bD (os:List (Option Vc)):Nat→List Vc
 | 0=>[]
 | n+1=>match jU os n with
  | none=>bD os n
  | some v=>bD os n++[v]
def eP (os:List (Option Vc)):Nat→List Int
 | 0=>[]
 | n+1=>match jU os n with
  | none=>eP os n
  | some _=>eP os n++[(n:Int)]
theorem jy {os:List (Option Vc)} (h:jU os n=none):bD os (n+1)=bD os n:=by show (match jU os n with | none=>bD os n | some v=>bD os n++[v])=_;rw [h]
theorem jA {os:List (Option Vc)} {v:Vc} (h:jU os n=some v):bD os (n+1)=bD os n++[v]:=by show (match jU os n with | none=>bD os n | some v=>bD os n++[v])=_;rw [h]
theorem pE {os:List (Option Vc)} (h:jU os n=none):eP os (n+1)=eP os n:=by show (match jU os n with | none=>eP os n | some _=>eP os n++[(n:Int)])=_;rw [h]
theorem pF {os:List (Option Vc)} {v:Vc} (h:jU os n=some v):eP os (n+1)=eP os n++[(n:Int)]:=by show (match jU os n with | none=>eP os n | some _=>eP os n++[(n:Int)])=_;rw [h]
theorem lK (os:List (Option Vc)):∀n,(eP os n).length=(bD os n).length
 | 0=>rfl
 | n+1=>by
  have ih:=lK os n
  cases h:jU os n with
  | none=>rw [jy h,pE h];exact ih
  | some v=>rw [jA h,pF h,List.length_append,List.length_append,ih];rfl
theorem uH (os:List (Option Vc)):∀n,(bD os n).length≤n
 | 0=>Nat.le_refl _
 | n+1=>by
  have ih:=uH os n
  cases h:jU os n with
  | none=>rw [jy h];omega
  | some v=>rw [jA h,List.length_append,List.length_singleton];omega
theorem q9 {os:List (Option Vc)}:∀{n:Nat} {a:Vc},a ∈ bD os n→some a ∈ os
 | 0,a,h=>by cases h
 | n+1,a,h=>by
  cases hv:jU os n with
  | none=>rw [jy hv] at h;exact q9 h
  | some v=>
   rw [jA hv] at h
   rcases List.mem_append.1 h with h | h
   ·exact q9 h
   ·obtain rfl:=List.mem_singleton.1 h
    have hn:n<os.length:=Decidable.byContradiction fun hn=>by rw [Lm os n aJ] at hv;cases hv
    rw [pO os n hn] at hv
    rw [←hv]
    exact List.getElem_mem hn
theorem zZ (l m:List Vc):∀n,n≤l.length→cO (l++m) n=cO l n
 | 0,_=>rfl
 | n+1,h=>by
  have ih:=zZ l m n aJ
  have hv:∀i:Nat,i<l.length→yC (l++m) (i:Int)=yC l (i:Int):=fun i hi=>by
   rw [pK _ i (by rw [List.length_append];omega),pK l i hi,List.getElem_append_left hi]
  rcases jo l n with ⟨h0,h1⟩ | ⟨h0,h1⟩
  ·rw [nX l n aJ,nX (l++m) n (by rw [ih];omega)]
  ·obtain ⟨K,hK⟩:=Int.eq_ofNat_of_zero_le h0
   have e1:yC (l++m) (cO (l++m) n)=yC l (cO l n):=by rw [ih,hK];exact hv K aJ
   have e2:=hv n aJ
   by_cases hc:0<cB (yC l (cO l n)) (yC l n)
   ·rw [kR l n aJ hc,kR (l++m) n (by rw [ih];omega) Pp]
   ·rw [kS l n aJ hc,kS (l++m) n (by rw [ih];omega) Pp,ih]
theorem vk (os:List (Option Vc)):∀n,((bD os n=[]∧bE os n = -1)∨∃K:Nat,∃h:K<(bD os n).length,∃hp:K<(eP os n).length,cO (bD os n) (bD os n).length=(K:Int)∧(eP os n)[K]=bE os n∧0≤bE os n∧jU os (bE os n)=some (bD os n)[K])
 | 0=>.inl ⟨rfl,rfl⟩
 | n+1=>by
  have ih:=vk os n
  have hpl:=lK os n
  cases hv:jU os n with
  | none=>rw [jy hv,pE hv,wX hv];exact ih
  | some v=>
   rw [jA hv,pF hv]
   right
   rcases ih with ⟨h1,h2⟩ | ⟨K,hK,KI,h1,h2,h3,h4⟩
   ·rw [uR hv aJ]
    have hp0:eP os n=[]:=List.eq_nil_of_length_eq_zero (by rw [hpl,h1];rfl)
    rw [h1,hp0]
    exact ⟨0,by simp,by simp,rfl,rfl,by omega,hv⟩
   ·have hlen:(bD os n++[v]).length=(bD os n).length+1:=by simp
    have hg:=zZ (bD os n) [v] (bD os n).length (Nat.le_refl _)
    have e1:yC (bD os n++[v]) (cO (bD os n++[v]) (bD os n).length)=(bD os n)[K]:=by rw [hg,h1,pK _ K aJ,List.getElem_append_left hK]
    have e2:yC (bD os n++[v]) (((bD os n).length:Nat):Int)=v:=by rw [pK _ _ aJ,List.getElem_append_right (Nat.le_refl _)];simp
    have hge:¬cO (bD os n++[v]) (bD os n).length<0:=by rw [hg,h1];omega
    by_cases hc:0<cB (bD os n)[K] v
    ·rw [uS hv aJ h4 hc]
     refine ⟨(bD os n).length,by omega,by rw [List.length_append,hpl];simp,by rw [hlen];exact kR _ _ hge Pp,?_,by omega,?_⟩
     ·rw [List.getElem_append_right aJ];simp
     ·rw [hv,List.getElem_append_right (Nat.le_refl _)];simp
    ·rw [uT hv aJ h4 hc]
     refine ⟨K,by omega,by rw [List.length_append];omega,by rw [hlen,kS _ _ hge Pp,hg,h1],?_,h3,?_⟩
     ·rw [List.getElem_append_left KI];exact h2
     ·rw [h4,List.getElem_append_left hK]
theorem nD {off:Nat} (h:w.rangeAt b off xs) (hlt:b<w.heap.size) (hb:Below w.heap.size w w'):w'.rangeAt b off xs:=fun j v hj=>by rw [hb.cell (p:=⟨b,off+j,none⟩) hlt];exact h j v hj
theorem x9 (d:Vc) (o:Option Vc) (p:Option Addr) (w:World) (hd:qK d.st) (hP:rQ w p o) (ho:∀a,o=some a→qK a.st):Calls prog 211 #[.agg (dF d).toArray,.pointer p] w fun e w'=>e=.returned (.bool (gU d o))∧Below w.heap.size w w':=by
 have hB:=ak.new w (dF d) 148;have hb:=aA w (Obj.cells (dF d).toArray 148);replace hP:=hP.below hb;go_enter func211,ntmps211;go_upto_region 1 with fail;change Code.wp prog _ _ _ (w.alloc (Obj.cells (dF d).toArray 148));generalize w.alloc (Obj.cells (dF d).toArray 148)=W at *;generalize hG:w.heap.size=G at *;rw [←hG] at hb;cases o with
 | none=>
  cases p with
  | some x=>exact hP.elim
  | none=>refine wp_region_held_drew (S:=fun w'=>Below W.drew.heap.size W.drew w') aW (Below.refl _ _) ?_;intro hHeld;have hbd:=Below.drew (Below.refl W.heap.size W);replace hb:=ah hb hbd;clear hbd;generalize W.drew=wd at *;refine tk [0,1,2] hHeld ?_;refine aP 3 hHeld ?_;refine aP 4 hHeld ?_;refine aP 5 hHeld ?_;refine aP 6 hHeld ?_;refine aP 7 hHeld ?_;refine aP 8 hHeld ?_;refine tk [9,10] hHeld ?_;refine wpAnyH_done aW ?_ _;clear hHeld;exact I4
 | some a=>
  cases p with
  | none=>exact hP.elim
  | some x=>
   obtain ⟨b,off,rfl,hbl,hR⟩:=hP;have HC:=hid fun (wx:World) (h:Below W.heap.size W wx)=>nD hR hbl h;have hX0:=fun w=>xU d a w hd (ho a rfl);have hBV:=hid (show gU d (some a)=decide (cB d a<0) from rfl);clear hR hbl hd ho;generalize cB d a=X at *;have hbW:=Below.refl W.heap.size W;refine wp_region_held_drew (S:=fun w'=>Below W.drew.heap.size W.drew w') aW (Below.refl _ _) ?_;intro hHeld;have hbd:=Below.drew (Below.refl W.heap.size W);replace hb:=ah hb hbd;replace hB:=hB.below hbd;replace hbW:=ah hbW hbd;clear hbd;generalize W.drew=wd at *;refine tk [0,1,2] hHeld ?_;refine rt 3 hHeld ?_ (hy:=fun wx hwx=>kY _ rfl G rfl d _ (hB.below hwx));refine tk [4,5] hHeld ?_;refine rt 6 hHeld ?_ (hy:=fun wx hwx=>eO _ rfl b off rfl a (HC.out _ (ah hbW hwx)));refine aR 7 fun K' hK=>?_;go_simp;refine (hX0 _).mono ?_;rintro e wq ⟨rfl,bq⟩;refine hK.out _ _ bq ?_;clear hK K';refine f_ (S':=fun w'=>Below wq.heap.size wq w') (fun w' h=>ah bq h) _ _ _ _ ?_;replace hb:=ah hb bq;clear hHeld bq;have hHeld:=Below.refl wq.heap.size wq;try simp only [Act.put,zI,bG,zS]
   refine tk [8,9,10] hHeld ?_;refine wpAnyH_done aW ?_ _;clear hHeld;go_wp2_with fail;go_ret;exact ⟨dH hBV.out.symm,hb⟩
theorem Gw (d:Vc) (o:Option Vc) (p:Option Addr) (w:World) (hd:qK d.st) (hP:rQ w p o) (ho:∀a,o=some a→qK a.st):Calls prog 210 #[.agg (dF d).toArray,.pointer p] w fun e w'=>e=.returned (.int .i64 (if gU d o then 1 else 4))∧Below w.heap.size w w':=by
 obtain ⟨Y,hY⟩:∃Y:Int,Y=(if gU d o then 1 else 4):=⟨_,rfl⟩;rw [←hY];have HY:=hid hY;clear hY;have hB:=ak.new w (dF d) 148;have hb:=aA w (Obj.cells (dF d).toArray 148);replace hP:=hP.below hb;have HL:=hid fun (wx:World) (h:rQ wx p o)=>x9 d o p wx hd h ho;clear hd ho;go_enter func210,ntmps210;go_upto_region 1 with fail;change Code.wp prog _ _ _ (w.alloc (Obj.cells (dF d).toArray 148));generalize w.alloc (Obj.cells (dF d).toArray 148)=W at *;generalize hG:w.heap.size=G at *;rw [←hG] at hb;go_wp2_with (refine aD 5 ?_;refine bA (op:=⟨some 5,.load _ _,_,_,_,_⟩) bn _ bn G bn (d) _ hB ?_);refine (HL.out _ hP).mono ?_;rintro e w1 ⟨rfl,b1⟩;replace hb:=ah hb b1;clear HL hP hB b1;cases hbe:gU d o
 ·have HZ:=hid (show Y=4 from HY.out.trans (by rw [hbe];rfl));clear HY hbe;go_wp2_with fail;go_ret;subst hG;exact ⟨bC HZ.out.symm,hb⟩
 ·have HZ:=hid (show Y=1 from HY.out.trans (by rw [hbe];rfl));clear HY hbe;go_wp2_with fail;go_ret;subst hG;exact ⟨bC HZ.out.symm,hb⟩
theorem vT (d:Vc) (C8 here:Bool) (ob op:Option Vc) (pb pp:Option Addr) (w:World) (hd:qK d.st) (hPb:rQ w pb ob) (IB:rQ w pp op) (hob:∀a,ob=some a→qK a.st) (hop:∀a,op=some a→qK a.st):Calls prog 168 #[.agg (dF d).toArray,.bool C8,.pointer pb,.pointer pp,.bool here] w fun e w'=>e=.returned (.int .i64 (qL d C8 ob op here))∧Below w.heap.size w w':=by
 have hB:=ak.new w (dF d) 148;have hb:=aA w (Obj.cells (dF d).toArray 148);replace hPb:=hPb.below hb;replace IB:=IB.below hb;have HL:=hid fun (wx:World) (h:rQ wx pp op)=>Gw d op pp wx hd h hop;have VK:=hid fun (wx:World) (h:rQ wx pb ob)=>x9 d ob pb wx hd h hob;go_enter func168,ntmps168;go_upto_region 1 with fail;change Code.wp prog _ _ _ (w.alloc (Obj.cells (dF d).toArray 148));generalize w.alloc (Obj.cells (dF d).toArray 148)=W at *;generalize hG:w.heap.size=G at *;rw [←hG] at hb;clear hd;have c1:=hB.cell 1 _ rfl;refine yM (fun _ _ d _ _ h=>by cases d <;> exact h) ?_;intro Q' hret hgo nL;cases op with
 | none=>
  cases pp with
  | some x=>exact IB.elim
  | none=>
   cases C8
   ·have OY:=hid (show qL d false ob none here=_ from if_neg aX);by_cases hq:d.qc≤127
    ·have hV:=hid (OY.out.trans (if_pos hq));go_wp2_with (refine aD 21 ?_;refine bA (op:=⟨some 21,.load _ _,_,_,_,_⟩) bn _ bn G bn (d) _ hB ?_);refine (HL.out _ IB).mono ?_;rintro e w1 ⟨rfl,b1⟩;generalize (if gU d none=true then (1:Int) else 4)=Y at *;replace hb:=ah hb b1;clear c1 hB IB hPb HL VK b1;exact Tw
    ·have hV1:=hid (OY.out.trans (if_neg hq));go_wp2_with (refine aD 24 ?_;refine bA (op:=⟨some 24,.load _ _,_,_,_,_⟩) bn _ bn G bn (d) _ hB ?_);refine (VK.out _ hPb).mono ?_;rintro e w1 ⟨rfl,b1⟩;replace hb:=ah hb b1;replace IB:=IB.below b1;replace hPb:=hPb.below b1;have Z_:=hid (show gU d ob=gU d ob from rfl);clear c1 hB HL VK b1 hq;cases hbe:gU d ob
     ·have hV2:=hid (hV1.out.trans (if_neg (fun h=>Bool.false_ne_true (hbe.symm.trans h))));have SL:=hid hbe;clear Z_ hbe;cases here
      ·have zf:=hid hV2.out;go_upto_region 10 with fail;refine wp_region_held_drew (S:=fun w'=>Below w1.drew.heap.size w1.drew w') aW (Below.refl _ _) ?_;intro hHeld;have hbd:=Below.drew (Below.refl w1.heap.size w1);replace hb:=ah hb hbd;clear hbd;generalize w1.drew=wd at *;refine tk [0,1,2] hHeld ?_;refine aP 3 hHeld ?_ (hQ:=fun c a w h=>nL c a _ _ w h);refine aP 4 hHeld ?_ (hQ:=fun c a w h=>nL c a _ _ w h);refine aP 5 hHeld ?_ (hQ:=fun c a w h=>nL c a _ _ w h);refine aP 6 hHeld ?_ (hQ:=fun c a w h=>nL c a _ _ w h);refine aP 7 hHeld ?_ (hQ:=fun c a w h=>nL c a _ _ w h);refine aP 8 hHeld ?_ (hQ:=fun c a w h=>nL c a _ _ w h);refine aP 9 hHeld ?_ (hQ:=fun c a w h=>nL c a _ _ w h);refine aP 10 hHeld ?_ (hQ:=fun c a w h=>nL c a _ _ w h);refine tk [11] hHeld ?_;refine wpAnyH_done aW ?_ _;clear hHeld;go_wp2_with fail;refine wp_label ?_;go_wp2_with fail;refine hret _ _ ?_;go_ret;subst hG;exact ⟨bC (zf.out.trans (by cases ob <;> rfl)).symm,hb⟩
      ·exact XD
     ·exact Xu
   ·have hV:=hid (show qL d true ob none here=7 from if_pos rfl);clear c1 hB IB hPb HL VK;exact Tw
 | some a=>
  cases pp with
  | none=>exact IB.elim
  | some x=>
   have OY:=hid (show qL d C8 ob (some a) here=_ from if_neg (by cases C8 <;> simp));by_cases hq:d.qc≤127
   ·have hV:=hid (OY.out.trans (if_pos hq));go_wp2_with (refine aD 21 ?_;refine bA (op:=⟨some 21,.load _ _,_,_,_,_⟩) bn _ bn G bn (d) _ hB ?_);refine (HL.out _ IB).mono ?_;rintro e w1 ⟨rfl,b1⟩;generalize (if gU d (some a)=true then (1:Int) else 4)=Y at *;replace hb:=ah hb b1;clear c1 hB IB hPb HL VK b1;exact Tw
   ·have hV1:=hid (OY.out.trans (if_neg hq));go_wp2_with (refine aD 24 ?_;refine bA (op:=⟨some 24,.load _ _,_,_,_,_⟩) bn _ bn G bn (d) _ hB ?_);refine (VK.out _ hPb).mono ?_;rintro e w1 ⟨rfl,b1⟩;replace hb:=ah hb b1;replace IB:=IB.below b1;replace hPb:=hPb.below b1;have Z_:=hid (show gU d ob=gU d ob from rfl);clear c1 hB HL VK b1 hq;cases hbe:gU d ob
    ·have hV2:=hid (hV1.out.trans (if_neg (fun h=>Bool.false_ne_true (hbe.symm.trans h))));have SL:=hid hbe;clear Z_ hbe;cases here
     ·have zf:=hid hV2.out;obtain ⟨v,hv⟩:∃v,ob=some v:=by
       cases ob with
       | none=>exact absurd SL.out.symm Bool.false_ne_true
       | some v=>exact ⟨v,rfl⟩
      subst hv;cases pb with
      | none=>exact hPb.elim
      | some xb=>
       obtain ⟨b2,off2,rfl,Dt,hR2⟩:=hPb;obtain ⟨b3,off3,rfl,P7,ZF⟩:=IB;have Ws:=hid fun (wx:World) (h:Below w1.heap.size w1 wx)=>nD hR2 Dt h;have HC3:=hid fun (wx:World) (h:Below w1.heap.size w1 wx)=>nD ZF P7 h;have hX0:=fun w=>xU v a w (hob v rfl) (hop a rfl);have hNV:=hid (show Ll (some v) (some a)=decide (cB v a = -1) from rfl);clear hR2 ZF Dt P7 hob hop;generalize cB v a=X at *;generalize Ll (some v) (some a)=NV at *;go_upto_region 10 with fail;have hbW:=Below.refl w1.heap.size w1;refine wp_region_held_drew (S:=fun w'=>Below w1.drew.heap.size w1.drew w') aW (Below.refl _ _) ?_;intro hHeld;have hbd:=Below.drew (Below.refl w1.heap.size w1);replace hb:=ah hb hbd;replace hbW:=ah hbW hbd;clear hbd;generalize w1.drew=wd at *;refine tk [0,1,2,3,4] hHeld ?_;refine rp 5 nL hHeld ?_ (hy:=fun wx hwx=>eO _ rfl b2 off2 rfl v (Ws.out _ (ah hbW hwx)));refine tk [6,7] hHeld ?_;refine rp 8 nL hHeld ?_ (hy:=fun wx hwx=>eO _ rfl b3 off3 rfl a (HC3.out _ (ah hbW hwx)));refine aR 9 fun K' hK=>?_;go_simp;refine (hX0 _).mono ?_;rintro e wq ⟨rfl,bq⟩;refine hK.out _ _ bq ?_;clear hK K';refine f_ (S':=fun w'=>Below wq.heap.size wq w') (fun w' h=>ah bq h) _ _ _ _ ?_;replace hb:=ah hb bq;clear hHeld bq;have hHeld:=Below.refl wq.heap.size wq;try simp only [Act.put,zI,bG,zS]
       by_cases hx:X = -1
       ·have WK:=hid (show qL d C8 (some v) (some a) false=5 from zf.out.trans (by rw [hNV.out,decide_eq_true hx];rfl));subst hx;clear Ws HC3 OY hV1 hV2 zf hNV;refine tk [10,11] hHeld ?_;refine wpAnyH_done aW ?_ _;clear hHeld;go_wp2_with fail;go_step3;refine hgo 0 _ _ _ rfl ?_;go_wp2_with fail;rw [Exit.noGoto_ret];go_ret;subst hG;exact ⟨bC WK.out.symm,hb⟩
       ·have WK:=hid (show qL d C8 (some v) (some a) false=3 from zf.out.trans (by rw [hNV.out,decide_eq_false hx];rfl));have hxb:(X == -1)=false:=beq_eq_false_iff_ne.2 hx;clear Ws HC3 OY hV1 hV2 zf hNV;refine tk [10,11] hHeld ?_;refine wpAnyH_done aW ?_ _;clear hHeld;go_wp2_with fail;refine wp_label ?_;go_wp2_with fail;refine hret _ _ ?_;go_ret;subst hG;exact ⟨bC WK.out.symm,hb⟩
     ·exact XD
    ·exact Xu
theorem Ei:148≠3:=by decide
theorem ZG:3≠148:=by decide
theorem yc (v:Value) (ps:List (Option Addr)) (os:List (Option Vc)) (w:World) (hR:rA.Reads w v ps) (hP:Ji w ps os) (h8:os.length≤8) (hin:∀a,some a ∈ os→tK a):Calls prog 167 #[v] w fun e w'=>e=.returned (.int .i64 (bE os os.length))∧Below w.heap.size w w':=by
 obtain ⟨p,cap,rfl,hcap,hmax,hat⟩:=hR;have HL:=hid fun h=>RowK.At.pos (K:=rA) hat h;have HP:=hid hP;have hlen:=hid hP.1;have yI:=hid hin;have H8:=hid h8;unfold maxLen at hmax;clear hat hP hin h8;obtain ⟨B0,hB0⟩:∃B0,B0=w.heap.size:=⟨_,rfl⟩;have ZH:B0≤w.heap.size:=Nat.le_of_eq hB0;have hb0:Below B0 w w:=Below.refl _ _;rw [←hB0];have HB0:=hid hB0;clear hB0;have OY:=RowK.Own.nil kg 148 w B0;have hI0:=RowK.Own.nil jV 3 w B0;go_enter func167,ntmps167;go_wp2_with fail;go_loopw [3,4,10] (fun hv pv iv wr=>∃n:Nat,n≤ps.length∧iv=.int .i64 (n:Int)∧kg.Own 148 wr B0 hv (bD os n)∧jV.Own 3 wr B0 pv (eP os n)∧Below B0 w wr∧B0≤wr.heap.size) (fun _ _ iv _=>ps.length - (intOf iv).toNat);case atStart=>exact ⟨0,Nat.zero_le _,rfl,OY,hI0,hb0,ZH⟩
 case round=>
  obtain ⟨n,hn,rfl,oV,oI,hb,hbs⟩:=hrel;clear OY hI0;by_cases hlt:n<ps.length
  ·have hnI:(n:Int)<(ps.length:Int):=by omega
   have hno:n<os.length:=by have:=hlen.out;omega
   obtain ⟨b,off,rfl,hbl,hrow⟩:=HL.out aJ;have hcell:wr.cell? ⟨b,off+n,none⟩=some (.pointer ps[n]):=by rw [hb.cell (p:=⟨b,off+n,none⟩) (by show b<B0;have:=HB0.out;omega)];exact rP rfl hrow n hlt _ rfl
   have hpt:rQ w ps[n] os[n]:=HP.out.2 n hlt hno;have ho:jU os (n:Int)=os[n]:=pO os n hno;have hmem:os[n] ∈ os:=List.getElem_mem hno;have hhl:=uH os n;have hpl:=lK os n;have hlv:((bD os n).length+1)*88≤140737488355328:=by have:=H8.out;omega
   have hlw:(bD os n).length+1≤140737488355328:=by have:=H8.out;omega
   have hli:((eP os n).length+1)*8≤140737488355328:=by have:=H8.out;omega
   have hlj:(eP os n).length+1≤140737488355328:=by have:=H8.out;omega
   have hnn:=hid (And.intro hlt hn);have Ug:n<8:=by have:=H8.out;omega
   obtain ⟨q,hq⟩:∃q,ps[n]=q:=⟨_,rfl⟩;obtain ⟨o,hoe⟩:∃o,os[n]=o:=⟨_,rfl⟩;rw [hq] at hcell hpt;rw [hoe] at hpt ho hmem;clear hrow hhl hpl hq hoe hn hlt hcap hmax;cases o with
   | none=>
    cases q with
    | some x=>exact hpt.elim
    | none=>
     have HH:=hid (jy ho);have HQ:=hid (pE ho);clear ho hmem hpt hlv hlw hli hlj;go_wp2_with fail;go_roundw;case rel=>exact ⟨n+1,hnn.out.1,by go_num,by rw [HH.out];exact oV,by rw [HQ.out];exact oI,hb,hbs⟩
     case measure=>(have:=hnn.out;simp [intOf] <;> omega)
   | some a=>
    cases q with
    | none=>exact hpt.elim
    | some x=>
     obtain ⟨b2,off2,rfl,Dt,hR2⟩:=hpt;have HH:=hid (jA ho);have HQ:=hid (pF ho);have ZF:wr.rangeAt b2 off2 (dF a):=fun j u hj=>by rw [hb.cell (p:=⟨b2,off2+j,none⟩) (by show b2<B0;have:=HB0.out;omega)];exact hR2 j u hj
     clear ho hmem hR2;have z1:=aA wr (Obj.cells (dF a).toArray 148);have hlit:=Io a wr;have r1:kg.Reads (wr.alloc (Obj.cells (dF a).toArray 148)) (.slice (some ⟨wr.heap.size,0,none⟩) 1 1) [a]:=kg.kU wr a 148;generalize wr.alloc (Obj.cells (dF a).toArray 148)=W2 at *;have oV1:=oV.below z1;have oI1:=oI.below z1;have ER:=Nat.le_trans hbs z1.size;go_upto_region 8 with (first | (refine aD 20 ?_;refine wpList_load_mid (op:=⟨some 20,.load _ _,_,_,_,_⟩) bn _ _ bn b2 off2 bn (dF a) _ ZF underlying148 rfl K5 ?_) | (refine aD 21 ?_;refine aI #[(0,.agg (dF a).toArray)] hlit ?_) | (refine aD 22 ?_;refine kg.bX underlying258 CR rfl (o:=⟨some 22,_,_,_,_,_⟩) rfl _ _ rfl rfl B0 _ _ (bD os n) [a] rfl rfl oV1 r1 hlv hlw ER ?_;intro vV w3 oV3 b3 k3));have oI3:=oI1.kept k3 ZG;have hb3:=(hb.trans (z1.mono hbs)).trans b3;have sP:=Nat.le_trans ER b3.size;clear z1 hlit r1 oV1 oI1 ER b3 k3 ZF oV oI hb hbs hcell;have z4:=aA w3 (Obj.cells (jV.enc (n:Int)).toArray 3);have sQ:=sD (n:Int) w3;have r5:jV.Reads (w3.alloc (Obj.cells (jV.enc (n:Int)).toArray 3)) (.slice (some ⟨w3.heap.size,0,none⟩) 1 1) [(n:Int)]:=jV.kU w3 (n:Int) 3;generalize w3.alloc (Obj.cells (jV.enc (n:Int)).toArray 3)=W4 at *;have oV5:=oV3.below z4;have oI5:=oI3.below z4;have sS:=Nat.le_trans sP z4.size;go_wp2_with (first | (refine aD 25 ?_;refine aI #[(0,.int .i64 (n:Int))] sQ ?_) | (refine aD 26 ?_;refine jV.bX underlying39 oW rfl (o:=⟨some 26,_,_,_,_,_⟩) rfl _ _ rfl rfl B0 _ _ (eP os n) [(n:Int)] rfl rfl oI5 r5 hli hlj sS ?_;intro vI w6 oI6 b6 k6));have oV6:=oV5.kept k6 Ei;have hb6:=(hb3.trans (z4.mono sP)).trans b6;have Cn:=Nat.le_trans sS b6.size;go_roundw;case rel=>exact ⟨n+1,hnn.out.1,by go_num,by rw [HH.out];exact oV6,by rw [HQ.out];exact oI6,hb6,Cn⟩
     case measure=>(have:=hnn.out;simp [intOf] <;> omega)
  ·obtain rfl:n=ps.length:=by omega
   rw [hlen.out] at oV oI;have HBH:=hid (vk os os.length);have WL:=oV.reads;have HM:=hid (fun a (ha:a ∈ bD os os.length)=>yI.out a (q9 ha));have hHl:(bD os os.length).length≤40:=by have:=uH os os.length;have:=H8.out;omega
   have HF:=hid fun (wx:World) (v9:Value) (h:kg.Reads wx v9 (bD os os.length))=>D8 v9 (bD os os.length) wx h hHl (fun a ha=>(HM.out a ha).2.2.2.2.2.2.1);clear hlt hn hHl HL hcap hmax;go_wp2_with fail;refine (HF.out _ _ WL).mono ?_;rintro e w2 ⟨rfl,b2⟩;have hb2:=hb.trans (b2.mono hbs);have oI2:=oI.below b2;clear HF WL oV oI b2 hb;obtain ⟨BO,IC⟩:∃BO,BO=bE os os.length:=⟨_,rfl⟩;rcases HBH.out with ⟨h1,h2⟩ | ⟨K,hK,KI,h1,h2,h3,h4⟩
   ·have hg:cO (bD os os.length) (bD os os.length).length = -1:=by rw [h1];rfl
    have HX:=hid h2;rw [hg];clear hg h1 h2 HBH oI2 IC;go_wp2_with fail;go_ret;exact ⟨bC HX.out.symm,hb2⟩
   ·rw [h1];obtain ⟨g,c1,hv1,hg0,hg1,hc1,hm1⟩:=oI2.form aJ;obtain rfl:=hv1;have hcK:=oI2.cell K 0 KI aX _ rfl;rw [show K*jV.n+0=K by show K*1+0=K;omega,h2] at hcK;have hKI:(K:Int)<((eP os os.length).length:Int):=by omega
    have hK0:¬(K:Int)<0:=by omega
    clear h1 h2 h3 h4 HBH oI2 IC hK KI hc1 hm1;generalize (eP os os.length).length=N1 at *;go_wp2_with fail;go_ret;exact ⟨rfl,hb2⟩
theorem NU {os:List (Option Vc)} {i:Int} {a:Vc} (h:jU os i=some a):some a ∈ os:=by
 unfold jU at h;rw [List.getD_eq_getElem?_getD] at h;cases hg:os[i.toNat]? with
 | none=>rw [hg] at h;cases h
 | some x=>rw [hg] at h;obtain rfl:x=some a:=h;exact List.mem_of_getElem? hg
theorem vU (a b:Int):(a == b)=decide (a=b):=rfl
theorem z8 (d:Vc) (bs:List Bool) (os:List (Option Vc)) (j:Nat) (h:j<os.length):(l5 d bs os).take (j+1)=(l5 d bs os).take j++[qL d (bs.getD j false) (Ap os) (jU os (j:Int)) (decide ((j:Int)=bE os os.length))]:=by rw [fE _ j (by rw [nU];exact h),C9]
theorem Ji.take {w:World} {ps:List (Option Addr)} {os:List (Option Vc)} (h:Ji w ps os) (n:Nat):Ji w (ps.take n) (os.take n):=by have h1:=h.1;refine ⟨by rw [List.length_take,List.length_take,h1],fun i hi hi'=>?_⟩;rw [List.getElem_take,List.getElem_take];exact h.2 i _ _
theorem RowK.Reads.cut {K:RowK α} {p:Option Addr} {l:List α} (h:K.Reads w (.slice p l.length cap) l) (n:Nat) (hn:n≤l.length):K.Reads w (.slice p n cap) (l.take n):=by obtain ⟨p',cap',he,h1,h2,h3⟩:=h;cases he;exact ⟨p,cap,by rw [List.length_take,Nat.min_eq_left hn],by rw [List.length_take];omega,h2,h3.take n⟩
end Go.Proofs.YtofhdhgfcomhiaaGreat
