/- Of what laws of the clock want, part 18: ClkOwn8 FrameOwn2 ClkStp (mini.py). -/
import Derived.Test.YtofhdhgfcomhiaaGreatCf17
namespace Go.Proofs.YtofhdhgfcomhiaaGreat
open Go.RowKit Go.Proofs
set_option maxRecDepth 100000
set_option maxHeartbeats 100000000
set_option linter.unusedVariables false
set_option linter.unusedSimpArgs false
open Tryz
variable {B:Nat} {P:Program} {Q:Exit→Act→World→Prop} {S:World→Prop} {a:Act} {b:Nat} {base:Nat} {cap:Nat} {fuel:Nat} {g:Nat} {h:Nat} {i:Nat} {l:List UInt8} {listed:Array Bool} {n:Nat} {now:Int} {o:Oper} {oi:Oper} {op:Oper} {ops:Array Oper} {p:Prop} {rest:List Oper} {t:TypeId} {v:Value} {w:World} {w':World} {xs:List Value} {α:Type}
section
variable {w:World} {g:Nat} {hs:List Nat} {sv fl:Nat} {bs:List PL} {F:Nat→Prop} {k:Kz} {i h:Nat} {b:PL} {p:Pt}
section
variable {c:Cf} {now:Int}
theorem kJ (h:dD p.st=true):gN now p={ p with tab:=jq p.tab now }:=by unfold gN;rw [if_pos h]
theorem J4 (h:dD p.st=false):gN now p=p:=by unfold gN;rw [if_neg (by rw [h];decide)]
theorem count_one (h:p.st=1):countP c now p=({ mo c p with st:=4,tk:=if c.pe then 1 else p.tk },false):=by unfold countP;rw [if_pos h]
theorem kV (h:dL p.st=true):dD p.st=true∧p.st≠1∧p.st≠5:=by unfold dL at h;unfold dD;simp only [Bool.or_eq_true,Bool.and_eq_true,beq_iff_eq,decide_eq_true_eq] at h ⊢;omega
theorem Gp (h1:p.st≠1) (h:dD p.st=false):countP c now p=(p,false):=by
 unfold countP;have h2:dL p.st=false:=by
  cases hh:dL p.st
  ·rfl
  ·rw [(kV hh).1] at h;cases h
 have h5:p.st≠5:=fun e=>by rw [e] at h;revert h;decide
 rw [if_neg h1,if_neg (by rw [h2];decide),if_neg h5,J4 h]
theorem Gq (h:dL p.st=true) (ht:p.tr=1):countP c now p=(zJ c { p with tab:=jq p.tab now },oh p.st):=by obtain ⟨a,h1,-⟩:=kV h;unfold countP;rw [if_neg h1,if_pos h,if_pos ht,kJ a]
theorem Gr (h:dL p.st=true) (ht:p.tr≠1):countP c now p=({ p with tab:=jq p.tab now,tr:=dw p.tr },false):=by obtain ⟨a,h1,-⟩:=kV h;unfold countP;rw [if_neg h1,if_pos h,if_neg ht,kJ a]
theorem xZ (h:p.st=5) (ht:p.tq=1):countP c now p=(qV c { p with tab:=jq p.tab now,tq:=0,st:=6 },false):=by unfold countP;rw [if_neg aJ,if_neg (by rw [h];decide),if_pos h,if_pos ht,kJ (by rw [h];rfl)]
theorem J5 (h:p.st=5) (ht:p.tq≠1):countP c now p=({ p with tab:=jq p.tab now,tq:=dw p.tq },false):=by unfold countP;rw [if_neg aJ,if_neg (by rw [h];decide),if_pos h,if_neg ht,kJ (by rw [h];rfl)]
theorem Gs (h1:p.st≠1) (h2:dL p.st=false) (h5:p.st≠5) (ha:dD p.st=true):countP c now p=({ p with tab:=jq p.tab now },false):=by unfold countP;rw [if_neg h1,if_neg (by rw [h2];decide),if_neg h5,kJ ha]
theorem pz (a:Int×Int):iQ a { p with tab:=jq p.tab now }=true→iQ a p=true:=fun h=>by unfold iQ at h ⊢;obtain ⟨r,hr,h2⟩:=List.any_eq_true.1 h;exact List.any_eq_true.2 ⟨r,(List.mem_filter.1 hr).1,h2⟩
theorem Ir (h:p.tr=0):{ p with tr:=dw p.tr }=p:=by exact KQ
theorem Iu (h:p.tq=0):{ p with tq:=dw p.tq }=p:=by exact KQ
theorem Rj (h:p.ta=0):{ p with ta:=dw p.ta }=p:=by exact KQ
theorem Rl (h:p.ts=0):{ p with ts:=dw p.ts }=p:=by exact KQ
theorem O1 (h:p.tk=0):{ p with tk:=dw p.tk }=p:=by exact KQ
end
theorem Lay.qG {q:Pt} {n:Int} (L:Lay w g hs sv fl bs F (aO k i p)) (H:Hand k hs bs i h b) (j:Nat) (hw:w'=w.setCell ⟨h,j,none⟩ (.int .i64 (dw n))∨(n=0∧w'=w)) (hset:∀pv,(Cx (nu k.c i) b pv p).set j (.int .i64 (dw n))=Cx (nu k.c i) b pv q) (e1:q.tab=p.tab) (e2:q.m=p.m) (e3:q.x=p.x) (e4:q.y=p.y) (e5:q.kK=p.kK) (h0:n=0→q=p):Lay w' g hs sv fl bs F (aO k i q)∧bW (aK g F) w w':=by
 rcases hw with rfl | ⟨hn,rfl⟩
 ·exact L.cell H j _ hset e1 e2 e3 e4 e5
 ·rw [h0 hn];exact ⟨L,bW.refl _ _⟩
theorem J6 (L:Lay w g hs sv fl bs F (aO k i p)) (H:Hand k hs bs i h b) (hc:gJ k.c) (hin:bN p):Calls prog 67 #[.pointer (some ⟨g,0,none⟩),.pointer (some ⟨h,0,none⟩)] w fun e w'=>e=.returned (.tuple #[])∧Lay w' g hs sv fl bs F (aO { k with pa:=if (countP k.c k.tk p).2 then eH k.c else k.pa } i (countP k.c k.tk p).1)∧bW (aK g F) w w':=by
 have Q:bW (aK g F) w w:=bW.refl _ w;have c2:=L.pc H 2 (.int .i64 p.st) (fun _=>rfl);have hal:∀wx,Lay wx g hs sv fl bs F (aO k i p)→Calls prog 71 #[.pointer (some ⟨h,0,none⟩)] wx fun e w'=>e=.returned (.bool (dD p.st))∧w'=wx:=fun wx Lx=>qX Lx H;obtain ⟨R,HR⟩:∃R,(countP k.c k.tk p).1=R:=⟨_,rfl⟩;obtain ⟨A,HA⟩:∃A,(if (countP k.c k.tk p).2=true then eH k.c else k.pa)=A:=⟨_,rfl⟩;rw [HR,HA];by_cases h1:p.st=1
 ·rw [count_one (c:=k.c) (now:=k.tk) h1] at HR HA;replace HR:=hid HR;replace HA:=hid HA;have b1:(p.st == 1)=true:=by rw [h1];rfl
  have e1:=hid h1;clear h1 hal;go_enter func67,ntmps67;go_wp2_with fail;refine (Gn L H hc).mono ?_;rintro e w1 ⟨rfl,L2,q2⟩;replace L:=L2;replace Q:=Q.next q2;clear L2 q2;go_wp2_with fail;try simp only [Exit.inBlock,Exit.then]
  refine bodyPost_ret (results_none rfl _ _ _) rfl ?_;refine ⟨rfl,?_,Q⟩;have e2:dR p.st 1 k.c.so=4:=by rw [e1.out];rfl
  rw [e2] at L;rw [←HR.out,←HA.out];exact L
 have b1:(p.st == 1)=false:=nq h1;cases ha:dD p.st
 ·rw [Gp (c:=k.c) (now:=k.tk) h1 ha] at HR HA;replace HR:=hid HR;replace HA:=hid HA;replace hal:=hal w L;rw [ha] at hal;clear h1 ha;go_enter func67,ntmps67;go_wp2_with fail;refine (hal).mono ?_;rintro e wz ⟨rfl,hz⟩;obtain rfl:=hz.symm;go_wp2_with fail;try simp only [Exit.inBlock,Exit.then]
  refine bodyPost_ret (results_none rfl _ _ _) rfl ?_;exact ⟨rfl,by rw [←HR.out,←HA.out];exact L,Q⟩
 replace hal:=hal w L;rw [ha] at hal;cases hh:dL p.st
 ·by_cases h5:p.st=5
  ·have b5:(p.st == 5)=true:=by rw [h5];rfl
   have Jf:=hid hh;have hst:=hid h5;by_cases hq:p.tq=1
   ·rw [xZ (c:=k.c) (now:=k.tk) h5 hq] at HR HA;replace HR:=hid HR;replace HA:=hid HA;have bq:(p.tq == 1)=true:=by rw [hq];rfl
    have hq2:=hid hq;clear h5 hh ha h1 hq;go_enter func67,ntmps67;go_wp2_with fail;refine (hal).mono ?_;rintro e wz ⟨rfl,hz⟩;obtain rfl:=hz.symm;go_upto_region 3 with fail;have hbd:=Below.drew (Below.refl w.heap.size w);replace L:=L.below hbd;replace Q:=Q.bel hbd;refine d_ 8 aW aW ?_;generalize w.drew=wd at *;clear hbd;have c3:=L.pc H 3 (.pointer (some ⟨b.t,0,none⟩)) (fun _=>rfl);have JY:=L.kc 31 (.int .i64 k.tk) rfl;simp only [List.take_succ_cons,List.take_zero,List.drop_succ_cons,List.drop_zero];iterate 8 refine so ?_
    refine bM ?_;go_wp2_with fail;refine (sF b.t p.tab k.tk wd (L.hand H).tab).mono ?_;rintro e w1 ⟨rfl,S2,o2⟩;obtain ⟨L2,q2⟩:=L.tab H o2 S2 (fun a=>pz a);replace L:=L2;replace Q:=Q.next q2;clear c3 JY;clear L2 q2 S2 o2;have Cj:=kI L H;rw [show dL ({ p with tab:=jq p.tab k.tk }:Pt).st=false from Jf.out] at Cj;go_wp2_with fail;refine (Cj).mono ?_;rintro e wz ⟨rfl,hz⟩;obtain rfl:=hz.symm;clear Cj c2;have c2:=L.pc H 2 (.int .i64 (p.st)) (fun _=>rfl);have c6:=L.pc H 6 (.int .i64 p.tq) (fun _=>rfl);have f6:=L.pf H 6;go_wp2_with fail;refine (mM h 6 p.tq _ c6 f6 (hin.tq)).mono ?_;rintro e w2 ⟨rfl,hw⟩;obtain ⟨L2,q2⟩:=L.qG H 6 hw (q:={ { p with tab:=jq p.tab k.tk } with tq:=dw p.tq }) (fun _=>rfl) rfl rfl rfl rfl rfl (fun e=>Iu (p:={ p with tab:=jq p.tab k.tk }) e);replace L:=L2;replace Q:=Q.next q2;clear L2 q2 hw c6 f6;clear c2;go_upto_region 7 with fail;have hbd:=Below.drew (Below.refl w2.heap.size w2);replace L:=L.below hbd;replace Q:=Q.bel hbd;refine d_ 13 aW aW ?_;generalize w2.drew=w3 at *;clear hbd;have c2:=L.pc H 2 (.int .i64 (p.st)) (fun _=>rfl);have f2:=L.pf H 2;have k8:=L.kc 8 (.bool k.c.so) rfl;simp only [List.take_succ_cons,List.take_zero,List.drop_succ_cons,List.drop_zero];iterate 10 refine so ?_
    refine fu bn KC (vX (p.st) 5 k.c.so w3) ?_;try simp only [Act.put,zI,bG,zS]
    refine so ?_;refine so ?_;refine bM ?_;go_upto_region 8 with fail;obtain ⟨L2,q2⟩:=L.cell H 2 (.int .i64 (dR p.st 5 k.c.so)) (q:={ { { p with tab:=jq p.tab k.tk } with tq:=dw p.tq } with st:=dR p.st 5 k.c.so }) (fun _=>rfl) rfl rfl rfl rfl rfl;replace L:=L2;replace Q:=Q.next q2;clear L2 q2 c2 f2 k8;generalize World.setCell _ _ _=w4 at *;go_wp2_with fail;refine (qJ L H).mono ?_;rintro e w5 ⟨rfl,L2,q2⟩;replace L:=L2;replace Q:=Q.next q2;clear L2 q2;go_wp2_with fail;go_end0;refine ⟨rfl,?_,Q⟩;have e2:dR p.st 5 k.c.so=6:=by rw [hst.out];rfl
    have e3:dw p.tq=0:=by rw [hq2.out];rfl
    rw [e2,e3] at L;rw [←HR.out,←HA.out];exact L
   ·rw [J5 (c:=k.c) (now:=k.tk) h5 hq] at HR HA;replace HR:=hid HR;replace HA:=hid HA;have bq:(p.tq == 1)=false:=nq hq;clear h5 hh ha h1 hq;go_enter func67,ntmps67;go_wp2_with fail;refine (hal).mono ?_;rintro e wz ⟨rfl,hz⟩;obtain rfl:=hz.symm;go_upto_region 3 with fail;have hbd:=Below.drew (Below.refl w.heap.size w);replace L:=L.below hbd;replace Q:=Q.bel hbd;refine d_ 8 aW aW ?_;generalize w.drew=wd at *;clear hbd;have c3:=L.pc H 3 (.pointer (some ⟨b.t,0,none⟩)) (fun _=>rfl);have JY:=L.kc 31 (.int .i64 k.tk) rfl;simp only [List.take_succ_cons,List.take_zero,List.drop_succ_cons,List.drop_zero];iterate 8 refine so ?_
    refine bM ?_;go_wp2_with fail;refine (sF b.t p.tab k.tk wd (L.hand H).tab).mono ?_;rintro e w1 ⟨rfl,S2,o2⟩;obtain ⟨L2,q2⟩:=L.tab H o2 S2 (fun a=>pz a);replace L:=L2;replace Q:=Q.next q2;clear c3 JY;clear L2 q2 S2 o2;have Cj:=kI L H;rw [show dL ({ p with tab:=jq p.tab k.tk }:Pt).st=false from Jf.out] at Cj;go_wp2_with fail;refine (Cj).mono ?_;rintro e wz ⟨rfl,hz⟩;obtain rfl:=hz.symm;clear Cj c2;have c2:=L.pc H 2 (.int .i64 (p.st)) (fun _=>rfl);have c6:=L.pc H 6 (.int .i64 p.tq) (fun _=>rfl);have f6:=L.pf H 6;go_wp2_with fail;refine (mM h 6 p.tq _ c6 f6 (hin.tq)).mono ?_;rintro e w2 ⟨rfl,hw⟩;obtain ⟨L2,q2⟩:=L.qG H 6 hw (q:={ { p with tab:=jq p.tab k.tk } with tq:=dw p.tq }) (fun _=>rfl) rfl rfl rfl rfl rfl (fun e=>Iu (p:={ p with tab:=jq p.tab k.tk }) e);replace L:=L2;replace Q:=Q.next q2;clear L2 q2 hw c6 f6;exact TJ
  ·have b5:(p.st == 5)=false:=nq h5;have Jf:=hid hh;rw [Gs (c:=k.c) (now:=k.tk) h1 hh h5 ha] at HR HA;replace HR:=hid HR;replace HA:=hid HA;clear h5 hh ha h1;go_enter func67,ntmps67;go_wp2_with fail;refine (hal).mono ?_;rintro e wz ⟨rfl,hz⟩;obtain rfl:=hz.symm;go_upto_region 3 with fail;have hbd:=Below.drew (Below.refl w.heap.size w);replace L:=L.below hbd;replace Q:=Q.bel hbd;refine d_ 8 aW aW ?_;generalize w.drew=wd at *;clear hbd;have c3:=L.pc H 3 (.pointer (some ⟨b.t,0,none⟩)) (fun _=>rfl);have JY:=L.kc 31 (.int .i64 k.tk) rfl;simp only [List.take_succ_cons,List.take_zero,List.drop_succ_cons,List.drop_zero];iterate 8 refine so ?_
   refine bM ?_;go_wp2_with fail;refine (sF b.t p.tab k.tk wd (L.hand H).tab).mono ?_;rintro e w1 ⟨rfl,S2,o2⟩;obtain ⟨L2,q2⟩:=L.tab H o2 S2 (fun a=>pz a);replace L:=L2;replace Q:=Q.next q2;clear c3 JY;clear L2 q2 S2 o2;have Cj:=kI L H;rw [show dL ({ p with tab:=jq p.tab k.tk }:Pt).st=false from Jf.out] at Cj;go_wp2_with fail;refine (Cj).mono ?_;rintro e wz ⟨rfl,hz⟩;obtain rfl:=hz.symm;clear Cj c2;have c2:=L.pc H 2 (.int .i64 (p.st)) (fun _=>rfl);exact TJ
 ·have h5:=(kV hh).2.2;have b5:(p.st == 5)=false:=nq h5;have Jf:=hid hh;by_cases hq:p.tr=1
  ·rw [Gq (c:=k.c) (now:=k.tk) hh hq] at HR HA;replace HR:=hid HR;replace HA:=hid HA;have bq:(p.tr == 1)=true:=by rw [hq];rfl
   have hq2:=hid hq;obtain ⟨s,hs⟩:∃s,dR p.st 4 k.c.so=s:=⟨_,rfl⟩;have s5:(s == 5)=false:=nq (by rw [←hs];unfold dR;rw [if_neg aX,if_neg aX,if_neg aX,if_pos rfl,if_pos hh];split <;> decide);have hs2:=hid hs;clear h5 hh ha h1 hq hs;go_enter func67,ntmps67;go_wp2_with fail;refine (hal).mono ?_;rintro e wz ⟨rfl,hz⟩;obtain rfl:=hz.symm;go_upto_region 3 with fail;have hbd:=Below.drew (Below.refl w.heap.size w);replace L:=L.below hbd;replace Q:=Q.bel hbd;refine d_ 8 aW aW ?_;generalize w.drew=wd at *;clear hbd;have c3:=L.pc H 3 (.pointer (some ⟨b.t,0,none⟩)) (fun _=>rfl);have JY:=L.kc 31 (.int .i64 k.tk) rfl;simp only [List.take_succ_cons,List.take_zero,List.drop_succ_cons,List.drop_zero];iterate 8 refine so ?_
   refine bM ?_;go_wp2_with fail;refine (sF b.t p.tab k.tk wd (L.hand H).tab).mono ?_;rintro e w1 ⟨rfl,S2,o2⟩;obtain ⟨L2,q2⟩:=L.tab H o2 S2 (fun a=>pz a);replace L:=L2;replace Q:=Q.next q2;clear c3 JY;clear L2 q2 S2 o2;have Cj:=kI L H;rw [show dL ({ p with tab:=jq p.tab k.tk }:Pt).st=true from Jf.out] at Cj;go_wp2_with fail;refine (Cj).mono ?_;rintro e wz ⟨rfl,hz⟩;obtain rfl:=hz.symm;clear Cj c2;have c5:=L.pc H 5 (.int .i64 p.tr) (fun _=>rfl);have f5:=L.pf H 5;go_wp2_with fail;refine (mM h 5 p.tr _ c5 f5 (hin.tr)).mono ?_;rintro e w2 ⟨rfl,hw⟩;obtain ⟨L2,q2⟩:=L.qG H 5 hw (q:={ { p with tab:=jq p.tab k.tk } with tr:=dw p.tr }) (fun _=>rfl) rfl rfl rfl rfl rfl (fun e=>Ir (p:={ p with tab:=jq p.tab k.tk }) e);replace L:=L2;replace Q:=Q.next q2;clear L2 q2 hw c5 f5;go_wp2_with fail;refine (Ec L H hc).mono ?_;rintro e w3 ⟨rfl,L2,q2⟩;replace Q:=Q.next q2;clear L;replace H:Hand { k with pa:=if oh p.st then eH k.c else k.pa } hs bs i h b:=⟨H.hi,H.hh,H.hb⟩;have L:Lay w3 g hs sv fl bs F (aO { k with pa:=if oh p.st then eH k.c else k.pa } i (za k.c { { p with tab:=jq p.tab k.tk } with tr:=dw p.tr })):=L2;clear L2 q2;have hls:(za k.c { { p with tab:=jq p.tab k.tk } with tr:=dw p.tr }).st=s:=by rw [←hs2.out];unfold za;split <;> rfl
   have c2:w3.cell? ⟨h,2,none⟩=some (.int .i64 s):=by rw [←hls];exact L.pc H 2 _ (fun pv=>rfl)
   clear hls;go_wp2_with fail;go_end0;refine ⟨rfl,?_,Q⟩;have e3:dw p.tr=0:=by rw [hq2.out];rfl
   rw [e3] at L;rw [←HR.out,←HA.out];exact L
  ·rw [Gr (c:=k.c) (now:=k.tk) hh hq] at HR HA;replace HR:=hid HR;replace HA:=hid HA;have bq:(p.tr == 1)=false:=nq hq;clear h5 hh ha h1 hq;go_enter func67,ntmps67;go_wp2_with fail;refine (hal).mono ?_;rintro e wz ⟨rfl,hz⟩;obtain rfl:=hz.symm;go_upto_region 3 with fail;have hbd:=Below.drew (Below.refl w.heap.size w);replace L:=L.below hbd;replace Q:=Q.bel hbd;refine d_ 8 aW aW ?_;generalize w.drew=wd at *;clear hbd;have c3:=L.pc H 3 (.pointer (some ⟨b.t,0,none⟩)) (fun _=>rfl);have JY:=L.kc 31 (.int .i64 k.tk) rfl;simp only [List.take_succ_cons,List.take_zero,List.drop_succ_cons,List.drop_zero];iterate 8 refine so ?_
   refine bM ?_;go_wp2_with fail;refine (sF b.t p.tab k.tk wd (L.hand H).tab).mono ?_;rintro e w1 ⟨rfl,S2,o2⟩;obtain ⟨L2,q2⟩:=L.tab H o2 S2 (fun a=>pz a);replace L:=L2;replace Q:=Q.next q2;clear c3 JY;clear L2 q2 S2 o2;have Cj:=kI L H;rw [show dL ({ p with tab:=jq p.tab k.tk }:Pt).st=true from Jf.out] at Cj;go_wp2_with fail;refine (Cj).mono ?_;rintro e wz ⟨rfl,hz⟩;obtain rfl:=hz.symm;clear Cj c2;have c5:=L.pc H 5 (.int .i64 p.tr) (fun _=>rfl);have f5:=L.pf H 5;go_wp2_with fail;refine (mM h 5 p.tr _ c5 f5 (hin.tr)).mono ?_;rintro e w2 ⟨rfl,hw⟩;obtain ⟨L2,q2⟩:=L.qG H 5 hw (q:={ { p with tab:=jq p.tab k.tk } with tr:=dw p.tr }) (fun _=>rfl) rfl rfl rfl rfl rfl (fun e=>Ir (p:={ p with tab:=jq p.tab k.tk }) e);replace L:=L2;replace Q:=Q.next q2;clear L2 q2 hw c5 f5;have c2:=L.pc H 2 (.int .i64 (p.st)) (fun _=>rfl);exact TJ
end
theorem Rm (l:List T2):(jf l).1.length≤3232:=by
 unfold jf;split
 ·rename_i h;obtain ⟨h8,hall⟩:=h;have:∀(l:List T2),l.all gZ=true→(iA l).length≤404*l.length:=by
   intro l;induction l with
   | nil=>intro _;simp [iA]
   | cons q l ih=>intro h;simp only [List.all_cons,Bool.and_eq_true] at h;have h1:=ih h.2;obtain ⟨c,s⟩:=q;obtain ⟨h2,h3,h4,h5⟩:=zF h.1;have h6:(aj c 2).length=2:=aC _ 2 aX aX;have h7:(aj s.length 2).length=2:=aC _ 2 aX aX;simp only [iA,List.flatMap_cons,List.length_append,Mr,List.length_cons] at h1 ⊢;omega
  have:=this l hall;show (iA l).length≤_;omega
 ·simp
theorem sN (h:Hd) (d:Bd) (v:Value) (l:List T2) (w:World) (hok:H6 h d) (hT:kD w v l) (hl:l.length≤140737488355328) (hz:∀q ∈ l,q.2.length≤140737488355328):Calls prog 47 #[.agg (aH h d).toArray,v] w fun e w'=>e=.returned (.tuple #[sv (kE h d l).1,.bool (kE h d l).2])∧Below w.heap.size w w':=by
 obtain ⟨⟨hsc,hsc2,-⟩,⟨htc,htc2⟩,⟨hgr,hgr2⟩,-⟩:=hok;have HP:=hid fun (wx:World) (h:Below w.heap.size w wx) (p:Option Addr) (b:List UInt8) (cap:Nat) (hB:Bytes wx (.slice p b.length cap) b) (hb:b.length≤140737488351232)=>Mx p b cap v l wx hB hb (hT.below h) hl hz;obtain ⟨p,cap,rfl,-,-,-⟩:=hT;have HS:=hid (show qU h d l=(xD h (lC h l)++dZ h.ty d)++(jf l).1 from rfl);have HN:=hid (show lC h l=34+xq h.ty+((jf l).1.length:Int) from rfl);have HB:=hid (show jg h d l=((jf l).2 && (iE h d && decide (lC h l≤400))) from rfl);have Ze:=hid (@Jw h d l);have HYes:=hid (@Fv h d l);have hshort:(jf l).1.length≤3232:=Rm l;have HSH:=hid hshort;clear hz hl hshort;generalize kE h d l=FP at *;generalize jg h d l=FB at *;generalize hFN:lC h l=FN at *;generalize qU h d l=FSS at *;generalize jf l=F at *;obtain ⟨FS,PB⟩:=F;clear hFN;have hlen:=vN h.ty;obtain ⟨hlen0,hlen1⟩:=hlen;go_enter func47,ntmps47;go_wp2_with fail;obtain ⟨W,iX,hb,hM⟩:=eY w (aH h d);rw [←iX];clear iX;refine jO ?_;intro Q' hret hgo;go_wp2_with (refine aD 10 ?_;refine Ud w.heap.size (aH h d) hM (aU _ _) ?_);cases hm:iE h d with
 | false=>have hF:=Ze.out (by rw [HB.out,hm,Bool.false_and,Bool.and_false]);subst hF;refine (Fe (.slice none 0 0) [] h d W (Bytes.nil _) aX hm).mono ?_;rintro e w2 ⟨v2,rfl,o2,b2⟩;replace hb:=ah hb b2;clear o2 hM;exact TB
 | true=>
  obtain ⟨hcB,hk⟩:=uW hm;refine (Dp (.slice none 0 0) [] h d W (Bytes.nil _) aX hgr htc hm).mono ?_;rintro e w2 ⟨v2,rfl,o2,b2⟩;replace hb:=ah hb b2;replace hM:=hM.below b2;rw [List.nil_append] at o2;have hbl:=rR h.ty d;have HSo:=HS.out;generalize dZ h.ty d=BS at *;have hBl:BS.length≤40:=by omega
  obtain ⟨p2,c2,rfl,-,-,-⟩:=id o2.bytes;have Dt:(BS.length:Int)=xq h.ty:=hbl;have HBL:=hid Dt;have HSo2:=hid HSo;clear hbl Dt HS HSo;go_wp2_with fail;refine (HP.out w2 hb p2 BS c2 o2.bytes aJ).mono ?_;rintro e w3 ⟨v3,rfl,o3,b3⟩;replace hb:=ah hb b3;replace hM:=hM.below b3;clear o2;cases PB with
  | false=>have hF:=Ze.out (by rw [HB.out];rfl);subst hF;clear o3 hM;exact TB
  | true=>
   have hRl0:(BS++FS).length=BS.length+FS.length:=List.length_append;have NH:FSS=(xD h FN++BS)++FS:=HSo2.out;rw [List.append_assoc] at NH;generalize BS++FS=R at *;have hsh:FS.length≤3232:=HSH.out;have hRl:R.length≤3300:=by omega
   have hNe:FN=34+(R.length:Int):=by have h1:FN=34+xq h.ty+(FS.length:Int):=HN.out;have h2:=HBL.out;omega
   have HNe:=hid hNe;have HC0:=hid NH;obtain ⟨p3,c3,rfl,-,-,-⟩:=id o3.bytes;have O3:=hid fun (wx:World) (h:Below w3.heap.size w3 wx)=>(o3.bytes).below h;clear hNe NH hRl0 hsh o3 hBl;go_wp2_with (refine aD 25 ?_;refine Ud w.heap.size (aH h d) hM (aU _ _) ?_);rw [←HNe.out];by_cases hn:FN≤400
   ·have hF:=HYes.out (by rw [HB.out,hm,decide_eq_true hn];rfl);subst hF;have hp:Dq h FN=true:=by unfold Dq fV;rw [hcB,Bool.true_and,decide_eq_true_eq];have:=HNe.out;omega
    clear hn;refine (Dr h (Wn d) FN w3 rfl hsc hp).mono ?_;rintro e w4 ⟨v4,rfl,o4,b4⟩;replace hb:=ah hb b4;have o3:=O3.out _ b4;have hhl:=Bn h FN;generalize xD h FN=HS' at *;have hcat:=I9 HS' R;have hst3:=o3.str;have hst4:=o4.bytes.str;obtain ⟨p4,c4,rfl,-,-,-⟩:=id o4.bytes;have hs1:¬9223372036854775807<HS'.length+R.length:=by omega
    clear hhl hM;go_wp2_with fail;refine hret _ _ ?_;go_ret2;exact ⟨by rw [HC0.out];rfl,hb⟩
   ·have hF:=Ze.out (by rw [HB.out,hm,decide_eq_false hn];rfl);subst hF;have hp:Dq h FN=false:=by unfold Dq fV;rw [hcB,Bool.true_and,decide_eq_false_iff_not];omega
    clear hn;refine (Fg h (Wn d) FN w3 rfl hp).mono ?_;rintro e w4 ⟨rfl,b4⟩;replace hb:=ah hb b4;clear hM;exact TB
section
variable {w:World} {g:Nat} {hs:List Nat} {sv fl:Nat} {bs:List PL} {F:Nat→Prop} {k:Kz} {i h:Nat} {b:PL} {p:Pt}
def aY (w:World) (s B g:Nat) (now:Int) (os:List Ot):Prop:=B≤s∧∃v,ak w s [.pointer (some ⟨g,0,none⟩),.int .i64 now,v] OL∧BI.Own Ce w B v os
structure dx (B:Nat) (G:Nat→Prop) (w w':World):Prop where
 os:w'.os=w.os
 tape:w'.tape=w.tape
 output:w'.output=w.output
 size:w.heap.size≤w'.heap.size
 block:∀n,n<w.heap.size→¬G n→(n<B∨¬(Ty w n OL∨Ty w n Ce))→w'.heap[n]? = w.heap[n]?
section
variable {B s x:Nat} {G:Nat→Prop} {a c:World} {now:Int} {os:List Ot}
theorem dx.refl (B:Nat) (G:Nat→Prop) (w:World):dx B G w w:=⟨rfl,rfl,rfl,Nat.le_refl _,fun _ _ _ _=>rfl⟩
theorem dx.wB (h:bW G a c):dx B G a c:=⟨h.os,h.tape,h.output,h.size,fun n hn hG _=>h.block n hn hG⟩
theorem dx.of_below (h:Below a.heap.size a c):dx B G a c:=dx.wB (bW.of_below h)
theorem dx.next {d:World} (h:dx B G a c) (k:dx B G c d):dx B G a d:=by
 refine ⟨k.os.trans h.os,k.tape.trans h.tape,k.output.trans h.output,Nat.le_trans h.size k.size,fun n hn hG hb=>?_⟩;have e:=h.block n hn hG hb;refine (k.block n (Nat.lt_of_lt_of_le hn h.size) hG ?_).trans e;rcases hb with hb | hb
 ·exact .inl hb
 ·refine .inr fun h2=>hb ?_;rcases h2 with ⟨xs,fr,h2⟩ | ⟨xs,fr,h2⟩
  ·exact .inl ⟨xs,fr,e.symm.trans h2⟩
  ·exact .inr ⟨xs,fr,e.symm.trans h2⟩
theorem dx.qH {d:World} (h:dx B G a c) (k:bW G c d):dx B G a d:=h.next (dx.wB k)
theorem dx.bel {d:World} (h:dx B G a c) (k:Below c.heap.size c d):dx B G a d:=h.next (dx.of_below k)
theorem dx.end (h:dx a.heap.size G a c):bW G a c:=⟨h.os,h.tape,h.output,h.size,fun n hn hG=>h.block n hn hG (.inl hn)⟩
theorem ak.KM (X:ak w x xs t) (L:Lay w g hs sv fl bs F k) (ht:vG t=false) (h1:t≠OL) (h2:t≠Ce) {w':World} (h:dx B (aK g F) w w'):ak w' x xs t:=X.same (h.block x X.lt (L.no X.ty ht) (.inr fun h3=>by
 rcases h3 with h3 | h3
 ·exact h1 (X.ty.one h3)
 ·exact h2 (X.ty.one h3)))
theorem aY.below {w':World} (h:aY w s B g now os) (hb:Below w.heap.size w w'):aY w' s B g now os:=by obtain ⟨hb0,v,h1,h2⟩:=h;exact ⟨hb0,v,h1.below hb,h2.below hb⟩
theorem aY.only {w':World} {n:Nat} {t:TypeId} (h:aY w s B g now os) (ho:Only n w w') (hn:Ty w n t) (h1:t≠OL) (h2:t≠Ce):aY w' s B g now os:=by obtain ⟨hb0,v,hB,hO⟩:=h;refine ⟨hb0,v,hB.only ho (fun e=>h1 (hn.one (e▸hB.ty))),hO.same fun m hm=>?_⟩;have ht:=(RowK.Own.ty hO hm).1;exact ho.block m ht.lt fun e=>h2 (hn.one (e▸ht))
theorem aY.qH (h:aY w s B g now os) (L:Lay w g hs sv fl bs F k) (hc:bW (aK g F) w w'):aY w' s B g now os:=by obtain ⟨hb0,v,hB,hO⟩:=h;refine ⟨hb0,v,hB.Cy L aX hc,hO.same fun m hm=>?_⟩;have ht:=(RowK.Own.ty hO hm).1;exact hc.block m ht.lt (L.no ht aX)
theorem aY.setCell {w':World} {n:Nat} {t:TypeId} (h:aY w s B g now os) (hn:Ty w n t) (h1:t≠OL) (h2:t≠Ce) (i:Nat) (v:Value):aY (w.setCell ⟨n,i,none⟩ v) s B g now os:=h.only ((Only.refl n w).cell i v) hn h1 h2
theorem aY.setRow {w':World} {n:Nat} {t:TypeId} (h:aY w s B g now os) (hn:Ty w n t) (h1:t≠OL) (h2:t≠Ce) (ys:Array Value):aY (w.setRow n ys) s B g now os:=h.only ((Only.refl n w).row ys) hn h1 h2
end
theorem wm {K':Act→World→Prop} (ty:TypeId) (n:Nat) (parts:Array (Nat×Operand)) (ho:op.op=.buildSlice ty n parts) (pv:Array (Nat×Value)) (hp:(parts.map fun (i,x)=>(i,a.eval x))=pv) (v:Value) (w':World) (hr:(Instr.buildSlice ty n pv).run prog w=.ok v w') (h:K' (a.put op.dst v) w'):op.wp prog a w K' Q:=by unfold Oper.wp execOp;simp only [ho];rw [hp];simp only [Sem.run_bind,hr,Result.andThen_ok,Sem.run_pure];exact h
theorem RowK.Ed (K:RowK α) {tS tE:TypeId} {z:Value} {B:Nat} (hu:prog.underlying tS=some (.slice tE)) (hinfo:(prog.info? tE).map (fun i=>(i.zero,i.size,i.bytes))=some (some z,K.n,B)) (hzl:z.cells.size=K.n) (w:World) (base:Nat) (v x:Value) (l m:List α) (hv:K.Own tE w base v l) (hx:K.Reads w x m) (hbytes:(l.length+m.length)*B≤140737488355328) (qy:l.length+m.length≤140737488355328) (hbase:base≤w.heap.size):∃v' w',(Builtin.append_ #[tS,tS] tS #[v,x]).run prog w=.ok v' w'∧K.Own tE w' base v' (l++m)∧bW (fun n=>v.ownBlock=some n) w w':=by
 obtain ⟨p,cap,rfl,_,_,hat⟩:=hx;obtain ⟨i0,hi,hz0,hz1,hz2⟩:=info_parts hinfo;have hlen:(l++m).length=l.length+m.length:=List.length_append;cases p with
 | none=>
  obtain rfl:m=[]:=by exact Ag
  refine ⟨v,w,?_,by simpa using hv,bW.refl _ _⟩;exact Tg
 | some a=>
  have hnews:∀j u,(K.cells m)[j]? = some u→w.cell? (a.add j)=some u:=by exact Tn
  obtain ⟨v',w',hr,hown,hg,_⟩:=run_append_own (P:=prog) w base tS tS tE i0 _ K.n B hu hi hz0 hz1 hz2 hzl K.pos v l.length (K.cells l) hv a m.length cap (K.cells m) (K.aQ m) hnews (K.cells_one m) KZ hbytes hbase;refine ⟨v',w',hr,?_,?_⟩
  ·unfold RowK.Own;rw [hlen,K.dY];exact hown
  ·have hb:=(Below.refl 0 w).grown hg (Nat.zero_le _) (fun k hk=>Nat.zero_le _);exact ⟨hb.os,hb.tape,hb.output,hg.size,fun k hk hn=>hg.block k hk fun e=>hn e.symm⟩
theorem RowK.jY (K:RowK α) {tS tE:TypeId} {z:Value} {B:Nat} (hu:prog.underlying tS=some (.slice tE)) (hinfo:(prog.info? tE).map (fun i=>(i.zero,i.size,i.bytes))=some (some z,K.n,B)) (hzl:z.cells.size=K.n) {w:World} {o:Oper} {a:Act} {K':Act→World→Prop} {Q:Exit→Act→World→Prop} (s x:Operand) (ho:o.op=.call { callee:=.builtin .append,args:=#[s,x],argTypes:=#[tS,tS] }) (hty:o.type=tS) (base:Nat) (v x':Value) (l m:List α) (hs:a.eval s=v) (hx:a.eval x=x') (hv:K.Own tE w base v l) (hX:K.Reads w x' m) (hbytes:(l.length+m.length)*B≤140737488355328) (qy:l.length+m.length≤140737488355328) (hbase:base≤w.heap.size) (h:∀v' w',K.Own tE w' base v' (l++m)→bW (fun n=>v.ownBlock=some n) w w'→K' (a.put o.dst v') w'):o.wp prog a w K' Q:=by obtain ⟨v',w',hr,h1,h2⟩:=K.Ed hu hinfo hzl w base v x' l m hv hX hbytes qy hbase;unfold Oper.wp execOp;simp only [ho,resolve,invoke,builtin,Sem.run_bind,Sem.run_pure,Result.andThen_ok,List.map_toArray,List.map_cons,List.map_nil,hs,hx,hty];simp only [hr];exact h v' w' h1 h2
section
variable {B s x:Nat} {G:Nat→Prop} {w':World}
theorem Lay.outs (L:Lay w g hs sv fl bs F k) (hc:bW G w w') (hG:∀n,G n→Ty w n Ce):Lay w' g hs sv fl bs F k:=L.same fun n hn=>hc.block n (L.lt n hn) fun hg=>L.no (hG n hg) aX hn
theorem ak.outs (X:ak w x xs t) (hc:bW G w w') (hG:∀n,G n→Ty w n Ce) (ht:t≠Ce):ak w' x xs t:=X.same (hc.block x X.lt fun hg=>ht (X.ty.one (hG x hg)))
theorem dx.outs {G':Nat→Prop} (hc:bW G w w') (hG:∀n,G n→Ty w n Ce∧B≤n):dx B G' w w':=⟨hc.os,hc.tape,hc.output,hc.size,fun n hn _ hb=>hc.block n hn fun hg=>by
 obtain ⟨h1,h2⟩:=hG n hg;rcases hb with hb | hb
 ·omega
 ·exact hb (.inr h1)⟩
theorem dx.step {G':Nat→Prop} (ho:Only s w w') (h1:Ty w s OL) (h2:B≤s):dx B G' w w':=⟨ho.os,ho.tape,ho.output,ho.size,fun n hn _ hb=>ho.block n hn fun e=>by
 subst e;rcases hb with hb | hb
 ·omega
 ·exact hb (.inl h1)⟩
theorem Ee {W:World} {os:List Ot} (h:BI.Own Ce W B v os):∀n,v.ownBlock=some n→Ty W n Ce∧B≤n:=fun n hn=>RowK.Own.ty h hn
end
theorem VF (o:Ot) (w:World):(Instr.buildSlice 45 1 #[(0,.agg (BI.enc o).toArray)]).run prog w=.ok (.slice (some ⟨w.heap.size,0,none⟩) 1 1) (w.alloc (Obj.cells (BI.enc o).toArray 73)):=by kernel_rfl
theorem Rn (W:World) (e:Ot) {B:Nat} (hB:B≤W.heap.size):BI.Own Ce (W.alloc (Obj.cells (BI.enc e).toArray Ce)) B (.slice (some ⟨W.heap.size,0,none⟩) 1 1) [e]:=by
 refine ⟨by rfl,.inr ⟨W.heap.size,1,(BI.enc e).toArray,rfl,hB,heap_alloc_new W _,Nat.le_refl _,by unfold maxLen;omega,by rfl,?_⟩⟩;have h:BI.cells [e]=BI.enc e:=by exact tF
 rw [h];exact List.take_of_length_le (by rw [BI.len];exact Nat.le_refl _)
def jv (t:Int) (p:Pt):Pt:=if t=11 then { p with na:=bR p.na } else if t=0 then { p with ns:=bR p.ns } else if t=1∨t=2 then { p with nk:=bR p.nk } else p
theorem nC (L:Lay w g hs sv fl bs F (aO k i p)) (H:Hand k hs bs i h b) {s B:Nat} {now:Int} {os:List Ot} (A:aY w s B g now os) (hBw:B≤w.heap.size) (hin:bN p) (m:Hd×Bd) (l:List T2) (v:Value) (want:Bool) (hok:H6 m.1 m.2) (hT:kD w v l) (hl:l.length≤140737488355328) (hz:∀q ∈ l,q.2.length≤140737488355328) (hos:os.length≤1000):Calls prog 74 #[.pointer (some ⟨s,0,none⟩),.pointer (some ⟨h,0,none⟩),.agg (eu.enc m).toArray,v,.bool want] w fun e w'=>e=.returned (.tuple #[])∧Lay w' g hs sv fl bs F (aO k i (if jg m.1 m.2 l=true then jv m.1.ty p else p))∧aY w' s B g now (os++iY i m l want)∧dx B (aK g F) w w':=by
 obtain ⟨FB,hf⟩:∃FB,jg m.1 m.2 l=FB:=⟨_,rfl⟩;rw [hf];have z:=aA w (Obj.cells (eu.enc m).toArray 56);have X:=ak.new w (eu.enc m) 56;replace L:=L.below z;replace A:=A.below z;have Q:dx B (aK g F) w (w.alloc (Obj.cells (eu.enc m).toArray 56)):=dx.of_below z;replace hBw:=Nat.le_trans hBw z.size;replace hT:=hT.below z;have hX0:w.heap.size<(w.alloc (Obj.cells (eu.enc m).toArray 56)).heap.size:=X.lt;cases FB
 ·have e1:kE m.1 m.2 l=([],false):=by unfold kE;rw [if_neg (by rw [hf];decide)]
  have e3:os++iY i m l want=os:=by unfold iY;rw [if_neg (by rw [hf];decide),List.append_nil]
  rw [e3];clear e3;go_enter func74,ntmps74;go_upto_region 1 with fail;change Code.wp prog _ _ _ (w.alloc (Obj.cells (eu.enc m).toArray 56));generalize w.alloc (Obj.cells (eu.enc m).toArray 56)=W at *;have RX:=X.b_;go_wp2_with (refine aD 15 ?_;refine zi.aL w.heap.size 0 m RX ?_);refine (sN m.1 m.2 v l W hok hT hl hz).mono ?_;rintro e w1 ⟨rfl,bq⟩;rw [e1];clear e1 hf;replace L:=L.below bq;replace A:=A.below bq;replace X:=X.below bq;replace Q:=Q.bel bq;replace hBw:=Nat.le_trans hBw bq.size;clear bq RX hT z hz hl;go_wp2_with fail;try simp only [Exit.inBlock,Exit.then]
  refine bodyPost_ret (results_none rfl _ _ _) rfl ?_;exact ⟨rfl,by first | exact L | (rw [if_neg aX];exact L),A,Q⟩
 ·have e1:kE m.1 m.2 l=(qU m.1 m.2 l,true):=by unfold kE;rw [if_pos hf]
  go_enter func74,ntmps74;go_upto_region 1 with fail;change Code.wp prog _ _ _ (w.alloc (Obj.cells (eu.enc m).toArray 56));generalize w.alloc (Obj.cells (eu.enc m).toArray 56)=W at *;have RX:=X.b_;go_wp2_with (refine aD 15 ?_;refine zi.aL w.heap.size 0 m RX ?_);refine (sN m.1 m.2 v l W hok hT hl hz).mono ?_;rintro e w1 ⟨rfl,bq⟩;rw [e1];clear e1;replace L:=L.below bq;replace A:=A.below bq;replace X:=X.below bq;replace Q:=Q.bel bq;replace hBw:=Nat.le_trans hBw bq.size;clear bq RX hT z hz hl;obtain ⟨o,ho⟩:∃o:Ot,o=⟨1,(i:Int)+1,0,want,m.1.ty,m.1.sq,qU m.1 m.2 l⟩:=⟨_,rfl⟩;replace ho:=hid ho;obtain ⟨Cv,ov,hB,oA⟩:=A;go_upto_region 3 with fail;have hbd:=Below.drew (Below.refl w1.heap.size w1);replace L:=L.below hbd;replace hB:=hB.below hbd;replace oA:=oA.below hbd;replace X:=X.below hbd;replace Q:=Q.bel hbd;have hBd:B≤w1.drew.heap.size:=Nat.le_trans hBw hbd.size;refine eU (S:=fun w'=>bW (fun n=>ov.ownBlock=some n) w1.drew w') (z:=21) aW ?_;have hHeld:bW (fun n=>ov.ownBlock=some n) w1.drew w1.drew:=bW.refl _ _;generalize w1.drew=wd at *;clear hbd;have Gt:∀n,ov.ownBlock=some n→Ty wd n Ce:=fun n hn=>(Ee oA n hn).1;have d0:∀wx,bW (fun n=>ov.ownBlock=some n) wd wx→wx.cell? ⟨s,2,none⟩=some ov:=fun wx hx=>(hB.outs hx Gt aX).cell 2 _ rfl;have d1:∀wx,bW (fun n=>ov.ownBlock=some n) wd wx→wx.cell? ⟨h,1,none⟩=some (.int .i64 ((i:Int)+1)):=fun wx hx=>(L.outs hx Gt).pc H 1 _ (fun _=>rfl);have d2:∀wx,bW (fun n=>ov.ownBlock=some n) wd wx→wx.cell? ⟨w.heap.size,0,none⟩=some (.int .i64 m.1.ty):=fun wx hx=>(X.outs hx Gt aX).cell 0 _ rfl;have d3:∀wx,bW (fun n=>ov.ownBlock=some n) wd wx→wx.cell? ⟨w.heap.size,6,none⟩=some (.int .i64 m.1.sq):=fun wx hx=>(X.outs hx Gt aX).cell 6 _ rfl;refine tz [0,1,2,3,4,5,6,7,8,9,10,11,12,13,14,15] hHeld ?_;refine zt 16 hHeld ?_ (hy:=fun wx hwx=>bg _ _ rfl _ rfl (BI.enc o).toArray (by rw [ho.out];kernel_rfl));refine aZ 17 fun K' hK=>?_;have z1:=aA wd (Obj.cells (BI.enc o).toArray Ce);have oA1:=oA.below z1;have rA1:=(Rn wd o (Nat.le_refl _)).reads;have hs1:=Nat.le_trans hBd z1.size;refine wm 45 1 #[(0,.tmp 38)] rfl #[(0,.agg (BI.enc o).toArray)] aW _ _ (VF o wd) ?_;refine hK _ _ (hHeld.next (bW.of_below z1)) ?_;clear hK K';try simp only [Act.put,zI,bG,zS]
  refine aZ 18 fun K' hK=>?_;clear d0 d1 d2 d3;refine BI.jY underlying45 Qb rfl (.tmp 26) (.tmp 39) rfl rfl B _ _ os [o] rfl rfl oA1 rA1 Wi Wi hs1 ?_;intro v2 w3 oA2 k2;have hO:=fun n hn=>(Ee oA n hn);have hc2:=bW.next (bW.of_below z1) k2;replace hB:=hB.outs hc2 (fun n hn=>(hO n hn).1) aX;replace hHeld:=hHeld.next hc2;replace L:=L.outs hc2 (fun n hn=>(hO n hn).1);replace X:=X.outs hc2 (fun n hn=>(hO n hn).1) aX;have hQ2:=hid (dx.outs (G':=aK g F) hc2 hO);refine hK _ _ hHeld ?_;clear hK K' oA1 rA1 z1 k2;try simp only [Act.put,zI,bG,zS]
  refine aZ 19 fun K' hK=>?_;go_simp;refine hK _ _ hHeld ?_;clear hK K';try simp only [Act.put,zI,bG,zS]
  refine tz [20] hHeld ?_;refine aE 21 fun K' hK=>?_;obtain ⟨p2,n2,c2c,rfl⟩:∃p n c,v2=.slice p n c:=by obtain ⟨p,c,e,_⟩:=oA2.reads;exact ⟨p,_,c,e⟩
  have c2:=hB.cell 2 _ rfl;have f2:=hB.free 2;go_simp;clear c2 f2;refine hK _ _ ?_;clear hK K' hHeld;have hB4:=hB.set 2 (.slice p2 n2 c2c);have o4:=(Only.refl s w3).cell 2 (.slice p2 n2 c2c);have oA4:=RowK.Own.only oA2 o4 hB aX;replace L:=L.set hB.ty aX 2 (.slice p2 n2 c2c);replace X:=X.only o4 (fun e=>by have:=X.ty.one (e▸hB.ty);revert this;decide);replace Q:dx B (aK g F) w (w3.setCell ⟨s,2,none⟩ (.slice p2 n2 c2c)):=(Q.next hQ2.out).next (dx.step o4 hB.ty Cv);generalize World.setCell _ _ _=w4 at *;have A4:aY w4 s B g now (os++[o]):=⟨Cv,_,hB4,oA4⟩;clear hB hB4 o4 oA4 oA2 hQ2 Gt hO hc2 hBd;have e2:os++[o]=os++iY i m l want:=by unfold iY;rw [if_pos hf,ho.out]
  rw [e2] at A4;have cX:=X.cell 0 (.int .i64 m.1.ty) rfl;by_cases h11:m.1.ty=11
  ·have hn:vH m.1.ty=some 10:=by unfold vH;rw [if_pos h11]
   have EF:jv m.1.ty p={ p with na:=bR p.na }:=by unfold jv;rw [if_pos h11]
   replace EF:=hid EF;have hcall:=pY h m.1.ty w4;rw [hn] at hcall;clear hn;try replace h11:=hid h11
   try replace h0:=hid h0
   try replace h12:=hid h12
   go_wp2_with fail;refine (hcall).mono ?_;rintro e wz ⟨rfl,hz⟩;obtain rfl:=hz.symm;clear hcall;have cn:=L.pc H 10 (.int .i64 p.na) (fun _=>rfl);go_wp2_with fail;refine (BZ p.na w4 (by have:=hin.na;unfold qg at this;omega)).mono ?_;rintro e w5 ⟨rfl,bq⟩;replace L:=L.below bq;replace A4:=A4.below bq;replace Q:=Q.bel bq;clear bq cn;have cn:=L.pc H 10 (.int .i64 p.na) (fun _=>rfl);have fn:=L.pf H 10;go_wp2_with fail;go_end0;obtain ⟨L6,q6⟩:=L.cell H 10 (.int .i64 (bR p.na)) (q:={ p with na:=bR p.na }) (fun _=>rfl) rfl rfl rfl rfl rfl;exact TD
  by_cases h0:m.1.ty=0
  ·have hn:vH m.1.ty=some 11:=by unfold vH;rw [if_neg h11,if_pos h0]
   have EF:jv m.1.ty p={ p with ns:=bR p.ns }:=by unfold jv;rw [if_neg h11,if_pos h0]
   replace EF:=hid EF;have hcall:=pY h m.1.ty w4;rw [hn] at hcall;clear hn;try replace h11:=hid h11
   try replace h0:=hid h0
   try replace h12:=hid h12
   go_wp2_with fail;refine (hcall).mono ?_;rintro e wz ⟨rfl,hz⟩;obtain rfl:=hz.symm;clear hcall;have cn:=L.pc H 11 (.int .i64 p.ns) (fun _=>rfl);go_wp2_with fail;refine (BZ p.ns w4 (by have:=hin.ns;unfold qg at this;omega)).mono ?_;rintro e w5 ⟨rfl,bq⟩;replace L:=L.below bq;replace A4:=A4.below bq;replace Q:=Q.bel bq;clear bq cn;have cn:=L.pc H 11 (.int .i64 p.ns) (fun _=>rfl);have fn:=L.pf H 11;go_wp2_with fail;go_end0;obtain ⟨L6,q6⟩:=L.cell H 11 (.int .i64 (bR p.ns)) (q:={ p with ns:=bR p.ns }) (fun _=>rfl) rfl rfl rfl rfl rfl;exact TD
  by_cases h12:m.1.ty=1∨m.1.ty=2
  ·have hn:vH m.1.ty=some 12:=by unfold vH;rw [if_neg h11,if_neg h0,if_pos h12]
   have EF:jv m.1.ty p={ p with nk:=bR p.nk }:=by unfold jv;rw [if_neg h11,if_neg h0,if_pos h12]
   replace EF:=hid EF;have hcall:=pY h m.1.ty w4;rw [hn] at hcall;clear hn;try replace h11:=hid h11
   try replace h0:=hid h0
   try replace h12:=hid h12
   go_wp2_with fail;refine (hcall).mono ?_;rintro e wz ⟨rfl,hz⟩;obtain rfl:=hz.symm;clear hcall;have cn:=L.pc H 12 (.int .i64 p.nk) (fun _=>rfl);go_wp2_with fail;refine (BZ p.nk w4 TT).mono ?_;rintro e w5 ⟨rfl,bq⟩;replace L:=L.below bq;replace A4:=A4.below bq;replace Q:=Q.bel bq;clear bq cn;have cn:=L.pc H 12 (.int .i64 p.nk) (fun _=>rfl);have fn:=L.pf H 12;go_wp2_with fail;go_end0;obtain ⟨L6,q6⟩:=L.cell H 12 (.int .i64 (bR p.nk)) (q:={ p with nk:=bR p.nk }) (fun _=>rfl) rfl rfl rfl rfl rfl;exact TD
  have hn:vH m.1.ty=none:=by unfold vH;rw [if_neg h11,if_neg h0,if_neg h12]
  have EF:jv m.1.ty p=p:=by unfold jv;rw [if_neg h11,if_neg h0,if_neg h12]
  replace EF:=hid EF;have hcall:=pY h m.1.ty w4;rw [hn] at hcall;clear hn;try replace h11:=hid h11
  try replace h0:=hid h0
  try replace h12:=hid h12
  go_wp2_with fail;refine (hcall).mono ?_;rintro e wz ⟨rfl,hz⟩;obtain rfl:=hz.symm;clear hcall;go_wp2_with fail;go_end0;exact ⟨rfl,by first | (rw [EF.out];exact L) | (rw [if_pos rfl,EF.out];exact L),A4,Q⟩
end
end Go.Proofs.YtofhdhgfcomhiaaGreat
