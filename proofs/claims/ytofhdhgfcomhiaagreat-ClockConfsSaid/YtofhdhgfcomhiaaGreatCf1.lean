/- Of what laws of the clock want, part 1: Base (mini.py). -/
import Derived.Test.YtofhdhgfcomhiaaGreatProg
import Derived.WalkKit
import Derived.WalkLawsBesides
import Derived.WalkSpells
import Derived.Laws.CopyOwn
import Derived.Deep.RegionHeld3
import Derived.Deep.DeepCutAuto
import Derived.OwnWalk
import Derived.Deep.MidRow
import Derived.StillTailTactics
import Derived.OrdersHeld
import Derived.Lib.AppendZerosOnto
import Derived.LoopN
import Derived.Test.YtofhdhgfcomhiaaGreatRows
import Derived.ProofKit
import Derived.OpenShut
import Derived.ShutString
import Derived.ChangeOld
import Derived.SizedLaws
import Derived.Deep.Slices
import Derived.Deep.Strs
import Derived.Lib.SmallJoins
import Derived.Lib.AppendStr
import Derived.ArgAppend
import Derived.BigQuiet
import Derived.LaidEqlPtr
namespace Go.Proofs.YtofhdhgfcomhiaaGreat
open Go.RowKit Go.Proofs
set_option maxRecDepth 100000
set_option maxHeartbeats 100000000
set_option linter.unusedVariables false
set_option linter.unusedSimpArgs false
open Tryz
variable {B:Nat} {P:Program} {Q:Exit→Act→World→Prop} {S:World→Prop} {a:Act} {b:Nat} {base:Nat} {cap:Nat} {fuel:Nat} {g:Nat} {h:Nat} {i:Nat} {l:List UInt8} {listed:Array Bool} {n:Nat} {now:Int} {o:Oper} {oi:Oper} {op:Oper} {ops:Array Oper} {p:Prop} {rest:List Oper} {t:TypeId} {v:Value} {w:World} {w':World} {xs:List Value} {α:Type}
theorem mq1 (h:p:=by
 subst hW3;obtain ⟨V,hV⟩:∃V,uM k.c p2=V:=⟨_,rfl⟩;replace hV:=hid hV;have cs:∃ov,ak W3 s [.pointer (some ⟨g,0,none⟩),.int .i64 now,ov] OL:=by obtain ⟨Cv,ov,hS,-⟩:=A;exact ⟨ov,hS⟩
 obtain ⟨ov3,hS3⟩:=cs;have cs:=hS3.cell 0 _ rfl;go_wp2_with fail;refine (KL L H).mono ?_;rintro e wz ⟨rfl,rfl⟩;rw [hV.out];clear cs hS3;cases V
 ·have er:jk K i p2=(p2,[]):=by unfold jk;rw [if_neg mb17]
  replace er:=hid er;exact WU
 have cT:=L.pc H 9 (.int .i64 p2.tk) (fun _=>rfl);have fT:=L.pf H 9;go_wp2_with fail;refine (mM h 9 p2.tk _ cT fT (hin2.tk)).mono ?_;rintro e W4 ⟨rfl,hw⟩;have WV:=hN.lt;obtain ⟨L2,q2⟩:=L.qG H 9 hw (q:={ p2 with tk:=dw p2.tk }) (fun _=>rfl) rfl rfl rfl rfl rfl (fun e=>O1 (p:=p2) e);replace A:=A.qH L q2;replace Q:=Q.qH q2;replace hN:=hN.Cy L aX q2;replace L:=L2;clear L2 q2 hw cT fT WV;obtain ⟨V,hV2⟩:∃V,(p2.tk == 1)=V:=⟨_,rfl⟩;rw [hV2];replace hV2:=hid hV2;cases V
 ·have h1:¬p2.tk=1:=fun e=>by have h2:=hV2.out;rw [e] at h2;cases h2
  have er:jk K i p2=({ p2 with tk:=dw p2.tk },[]):=by unfold jk;rw [if_pos mb40,if_neg h1]
  replace er:=hid er;replace h1:=hid h1;exact WU
 have h1:p2.tk=1:=by have h2:=hV2.out;simpa using h2
 have et:dw p2.tk=0:=by rw [h1];rfl
 rw [et] at L;clear et;obtain ⟨E,hE⟩:∃E,k.c.pe=E:=⟨_,rfl⟩;replace hE:=hid hE;replace h1:=hid h1;cases E
 ·have er:jk K i p2=({ p2 with y:={ p2.y with dm:=k.c.dm },x:=Cz { p2.x with dm:=k.c.dm } p2.nk,nk:=bR p2.nk,tk:=bH (bF k.c.ld) },iY i (yD { p2.x with dm:=k.c.dm } p2.nk) [] true):=by exact WW
  replace er:=hid er;go_wp2_with fail;have S_:=hN;refine (yE L H A (Nat.le_trans vv.out (Nat.le_of_lt hN.lt)) { hin2 with tk:=InT.zero } hI.out.cf hI.out.cl hi (by show p2.x.me=_;exact hme.out.1) hE.out O4).mono ?_;rintro e W2 ⟨rfl,L2,A2,Q2⟩;replace hN:=hN.KM L aX aX aX Q2;replace Q:=Q.next Q2;replace L:=L2;replace A:=A2;clear L2 A2 Q2 S_;go_upto_region 9 with fail;have hbd:=Below.drew (Below.refl W2.heap.size W2);replace L:=L.below hbd;replace A:=A.below hbd;replace Q:=Q.bel hbd;replace hN:=hN.below hbd;refine eU (S:=fun w'=>w'=W2.drew) (z:=6) aW ?_;have hHeld:W2.drew=W2.drew:=rfl;generalize W2.drew=wd at *;clear hbd;have d0:∀wx,wx=wd→wx.cell? ⟨gc,11,none⟩=some (.int .i64 k.c.ld):=fun wx hx=>by subst hx;exact hN.cell 11 _ rfl
  have cT:=L.pc H 9 _ (fun _=>rfl);have fT:=L.pf H 9;refine jX 0 [2,1] rfl bn aW aW aW aW (fun _ _ _ h=>h) hHeld (fun wx hwx=>by go_simp;try with_reducible rfl) ?_;try simp only [Act.put,zI,bG,zS]
  refine jX 1 [2] rfl bn aW aW aW aW (fun _ _ _ h=>h) hHeld (fun wx hwx=>by go_simp;try with_reducible rfl) ?_;try simp only [Act.put,zI,bG,zS]
  refine tz [2] hHeld ?_;refine aZ 3 fun K' hK=>?_;go_simp;refine hK _ _ hHeld ?_;clear hK K';try simp only [Act.put,zI,bG,zS]
  refine aZ 4 fun K' hK=>?_;go_simp;refine hK _ _ hHeld ?_;clear hK K';try simp only [Act.put,zI,bG,zS]
  refine aZ 5 fun K' hK=>?_;go_simp;refine (iF k.c.ld wd).mono ?_;rintro e wz ⟨rfl,hz⟩;obtain rfl:=hz;refine hK _ _ hHeld ?_;clear hK K';try simp only [Act.put,zI,bG,zS]
  refine aE 6 fun K' hK=>?_;go_simp;refine (g_ h 9 _ _ wd cT fT).mono ?_;rintro e wS ⟨rfl,hwS⟩;refine hK _ _ ?_;clear hK K' d0;obtain ⟨L3,q3⟩:=L.cell H 9 (.int .i64 (bH (bF k.c.ld))) (q:={ p2 with y:={ p2.y with dm:=k.c.dm },x:=Cz { p2.x with dm:=k.c.dm } p2.nk,nk:=bR p2.nk,tk:=bH (bF k.c.ld) }) (fun _=>rfl) rfl rfl rfl rfl rfl;exact WX
 ·have er:jk K i p2=({ p2 with x:={ p2.x with dm:=k.c.dm },y:=uN { p2.y with dm:=k.c.dm } p2.nk,nk:=bR p2.nk,tk:=bH (bF k.c.ld) },iY i (qo { p2.y with dm:=k.c.dm } p2.nk) [] true):=by exact WW
  replace er:=hid er;go_wp2_with fail;have S_:=hN;refine (CB L H A (Nat.le_trans vv.out (Nat.le_of_lt hN.lt)) { hin2 with tk:=InT.zero } hI.out.cf hI.out.cl hi (by show p2.y.me=_;exact hme.out.2) hE.out O4).mono ?_;rintro e W2 ⟨rfl,L2,A2,Q2⟩;replace hN:=hN.KM L aX aX aX Q2;replace Q:=Q.next Q2;replace L:=L2;replace A:=A2;clear L2 A2 Q2 S_;go_upto_region 9 with fail;have hbd:=Below.drew (Below.refl W2.heap.size W2);replace L:=L.below hbd;replace A:=A.below hbd;replace Q:=Q.bel hbd;replace hN:=hN.below hbd;refine eU (S:=fun w'=>w'=W2.drew) (z:=6) aW ?_;have hHeld:W2.drew=W2.drew:=rfl;generalize W2.drew=wd at *;clear hbd;have d0:∀wx,wx=wd→wx.cell? ⟨gc,11,none⟩=some (.int .i64 k.c.ld):=fun wx hx=>by subst hx;exact hN.cell 11 _ rfl
  have cT:=L.pc H 9 _ (fun _=>rfl);have fT:=L.pf H 9;refine jX 0 [2,1] rfl bn aW aW aW aW (fun _ _ _ h=>h) hHeld (fun wx hwx=>by go_simp;try with_reducible rfl) ?_;try simp only [Act.put,zI,bG,zS]
  refine jX 1 [2] rfl bn aW aW aW aW (fun _ _ _ h=>h) hHeld (fun wx hwx=>by go_simp;try with_reducible rfl) ?_;try simp only [Act.put,zI,bG,zS]
  refine tz [2] hHeld ?_;refine aZ 3 fun K' hK=>?_;go_simp;refine hK _ _ hHeld ?_;clear hK K';try simp only [Act.put,zI,bG,zS]
  refine aZ 4 fun K' hK=>?_;go_simp;refine hK _ _ hHeld ?_;clear hK K';try simp only [Act.put,zI,bG,zS]
  refine aZ 5 fun K' hK=>?_;go_simp;refine (iF k.c.ld wd).mono ?_;rintro e wz ⟨rfl,hz⟩;obtain rfl:=hz;refine hK _ _ hHeld ?_;clear hK K';try simp only [Act.put,zI,bG,zS]
  refine aE 6 fun K' hK=>?_;go_simp;refine (g_ h 9 _ _ wd cT fT).mono ?_;rintro e wS ⟨rfl,hwS⟩;refine hK _ _ ?_;clear hK K' d0;obtain ⟨L3,q3⟩:=L.cell H 9 (.int .i64 (bH (bF k.c.ld))) (q:={ p2 with x:={ p2.x with dm:=k.c.dm },y:=uN { p2.y with dm:=k.c.dm } p2.nk,nk:=bR p2.nk,tk:=bH (bF k.c.ld) }) (fun _=>rfl) rfl rfl rfl rfl rfl;exact WX):p:=h
theorem mq2 (h:p:=by
 refine aZ 8 fun K' hK=>?_;refine yB.jY underlying151 KN rfl (.tmp 39) (.tmp 45) rfl rfl wd.heap.size _ _ TR [k.c.cl] rfl rfl oP qI.reads Wi Wi hHeld.size ?_;intro v8 u4 oA k8;have hO:∀n,Wj.ownBlock=some n→Ty u3 n 22∧wd.heap.size≤n:=fun n hn=>RowK.Own.ty oP hn;replace eF:=eF.rows k8 (fun n hn=>(hO n hn).1) aX;replace hHeld:=bW.below hHeld k8 (fun n hn=>(hO n hn).2) hHeld.size;clear hO k8 oP qI;refine hK _ _ hHeld ?_;clear hK K';try simp only [Act.put,zI,bG,zS]
 exact WY):p:=h
theorem mq3 (h:p:=by
 rw [jZ hmv,hS] at HR;clear hmv;have HR2:=hid HR;have OM:=hid hv;clear hS HR hv h8 hp h6;go_enter func116,ntmps116;go_upto_region 0 with fail;have hbd:=Below.drew (Below.refl w.heap.size w);replace L:=L.below hbd;replace Q:=Q.bel hbd;refine fD aW aW ?_;generalize w.drew=wd at *;clear hbd;have c2:=L.pc H 2 (.int .i64 p.st) (fun _=>rfl);have k8:=L.kc 8 (.bool k.c.so) rfl;iterate 11 refine so ?_
 refine fu bn KC (hcall wd) ?_;try simp only [Act.put,zI,bG,zS]
 refine so ?_;refine bM ?_;have f2:=L.pf H 2;go_upto_region 4 with fail;obtain ⟨L2,q2⟩:=L.cell H 2 (.int .i64 S) (q:={ p with st:=S }) (fun _=>rfl) rfl rfl rfl rfl rfl;replace L:=L2;replace Q:=Q.next q2;clear L2 q2 c2 f2 k8;generalize World.setCell _ _ _=w2 at *;go_wp2_with fail;refine (iK L H).mono ?_;rintro e w3 ⟨rfl,L2,q2⟩;replace L:=L2;replace Q:=Q.next q2;clear L2 q2;go_wp2_with fail;refine (nQ L H).mono ?_;rintro e w4 ⟨rfl,L2,q2⟩;replace L:=L2;replace Q:=Q.next q2;clear L2 q2;go_wp2_with fail;refine (jS L H).mono ?_;rintro e w5 ⟨rfl,L2,q2⟩;replace L:=L2;replace Q:=Q.next q2;clear L2 q2;have s6:(S == 6)=false:=by exact jC
 have s5:(S == 5)=false:=by exact jC
 have s8:(S == 8)=true:=by exact jC
 have s7:(S == 7)=false:=by exact jC
 have s4:(S == 4)=false:=by exact jC
 obtain ⟨E,hE⟩:∃E,k.c.pe=E:=⟨_,rfl⟩;have k13:w5.cell? ⟨g,13,none⟩=some (.bool E):=by rw [←hE];exact L.kc 13 _ rfl
 cases E
 ·have c9:=L.pc H 9 _ (fun _=>rfl);have f9:=L.pf H 9;go_wp2_with fail;refine (g_ h 9 _ _ _ c9 f9).mono ?_;rintro e w6 ⟨rfl,hw⟩;obtain ⟨L2,q2⟩:=L.cell H 9 (.int .i64 (bH (1))) (q:={ { { p with st:=S,m:=j3,x:={ p.x with out:=none },df:=none,tr:=0,tq:=0,ta:=0,ts:=0 } with tk:=if k.c.pe then p.tk else 0 } with tk:=bH (1) }) (fun _=>rfl) rfl rfl rfl rfl rfl;replace L:=L2;replace Q:=Q.next q2;clear L2 q2;rw [←hw] at L Q;clear hw c9 f9;go_wp2_with fail;try rw [hE] at L
  refine (jl L H hc).mono ?_;rintro e w7 ⟨rfl,L2,q2⟩;replace L:=L2;replace Q:=Q.next q2;clear L2 q2;go_wp2_with fail;go_end0;refine ⟨rfl,?_,Q⟩;rw [OM.out] at L HR2;rw [←HR2.out];rw [Ta hE];exact L
 ·go_wp2_with fail;try rw [hE] at L
  refine (jl L H hc).mono ?_;rintro e w7 ⟨rfl,L2,q2⟩;replace L:=L2;replace Q:=Q.next q2;clear L2 q2;go_wp2_with fail;go_end0;refine ⟨rfl,?_,Q⟩;rw [OM.out] at L HR2;rw [←HR2.out];rw [Tc hE];exact L):p:=h
theorem mq4 (h:p:=by
 refine yF 8 13 rfl  rfl aW bn bn  (fun K' hK=>?_) (fun K' hK=>?_)
 ·refine yB.jY underlying151 KN rfl (.tmp 39) (.tmp 45) rfl rfl wd.heap.size _ _ TR [k.c.cl] rfl rfl oP qI.reads Wi Wi hHeld.size ?_;intro v8 u3 oA k8;have hO:∀n,Wj.ownBlock=some n→Ty u2 n 22∧wd.heap.size≤n:=fun n hn=>RowK.Own.ty oP hn;replace hHeld:=bW.below hHeld k8 (fun n hn=>(hO n hn).2) hHeld.size;clear hO k8 oP qI;refine hK _ _ hHeld ?_;clear hK K';try simp only [Act.put,zI,bG,zS]
  refine yF 9 13 rfl  rfl aW bn bn  (fun K' hK=>?_) (fun K' hK=>?_)
  ·go_simp;refine (yZ v8 (TR++[k.c.cl]) u3 (GX oA).ids mb6 hzs).mono ?_;rintro e u4 ⟨rfl,b1⟩;rw [hT.out];replace hHeld:=hHeld.trans (b1.mono hHeld.size);clear b1 oA;refine hK _ _ hHeld ?_;clear hK K';try simp only [Act.put,zI,bG,zS]
   refine tz [10,11,12] hHeld ?_;refine aZ 13 fun K' hK=>?_;go_simp;have b1:=aA u4 (Obj.cells (pI.enc fA).toArray 187);have eF:=ak.new u4 (pI.enc fA) 187;have hge:=hHeld.size;replace hHeld:=hHeld.trans (b1.mono hHeld.size);clear b1;refine hK _ (u4.alloc (Obj.cells (pI.enc fA).toArray 187)) hHeld ?_;clear hK K';try simp only [Act.put,zI,bG,zS]
   obtain ⟨gy,kW⟩:∃gy,u4.heap.size=gy:=⟨_,rfl⟩;rw [show (Value.pointer (some ⟨u4.heap.size,0,none⟩))=Value.pointer (some ⟨gy,0,none⟩) by rw [kW]];rw [kW] at eF;replace hge:wd.heap.size≤gy:=by omega
   clear kW;generalize u4.alloc (Obj.cells (pI.enc fA).toArray 187)=u5 at *;exact WZ
  ·go_simp;have b1:=aA u3 (Obj.cells (pI.enc fA).toArray 187);have eF:=ak.new u3 (pI.enc fA) 187;have hge:=hHeld.size;replace oA:=oA.below b1;replace hHeld:=hHeld.trans (b1.mono hHeld.size);clear b1;refine hK _ (u3.alloc (Obj.cells (pI.enc fA).toArray 187)) hHeld ?_;clear hK K';try simp only [Act.put,zI,bG,zS]
   obtain ⟨gy,kW⟩:∃gy,u3.heap.size=gy:=⟨_,rfl⟩;rw [show (Value.pointer (some ⟨u3.heap.size,0,none⟩))=Value.pointer (some ⟨gy,0,none⟩) by rw [kW]];rw [kW] at eF;replace hge:wd.heap.size≤gy:=by omega
   clear kW;generalize u3.alloc (Obj.cells (pI.enc fA).toArray 187)=u4 at *;exact WY
 ·go_simp;have b1:=aA u2 (Obj.cells (pI.enc fA).toArray 187);have eF:=ak.new u2 (pI.enc fA) 187;have hge:=hHeld.size;replace oP:=oP.below b1;replace qI:=qI.below b1;replace hHeld:=hHeld.trans (b1.mono hHeld.size);clear b1;refine hK _ (u2.alloc (Obj.cells (pI.enc fA).toArray 187)) hHeld ?_;clear hK K';try simp only [Act.put,zI,bG,zS]
  obtain ⟨gy,kW⟩:∃gy,u2.heap.size=gy:=⟨_,rfl⟩;rw [show (Value.pointer (some ⟨u2.heap.size,0,none⟩))=Value.pointer (some ⟨gy,0,none⟩) by rw [kW]];rw [kW] at eF;replace hge:wd.heap.size≤gy:=by omega
  clear kW;generalize u2.alloc (Obj.cells (pI.enc fA).toArray 187)=u3 at *;exact mq2):p:=h
theorem mq5 (h:p:=by
 obtain ⟨e,a₁,w₁,hq,harr⟩:=h1 b (.inScope c::k) cs;cases e with
 | normal=>exact ⟨.normal,a₁,w₁,hq,.head step_scope (Steps.trans harr (.one step_inScope))⟩
 | exit id=>exact ⟨.exit id,a₁,w₁,hq,fun k' hk=>.head step_scope (harr k' W9)⟩
 | goto l=>
  obtain ⟨rest,hf,hr⟩:=hq;have hg:gotoIn l (.inScope c::k)=some (.code rest::.inScope c::k):=by simp [gotoIn,hf]
  obtain ⟨e₂,a₂,w₂,hq₂,harr₂⟩:=hr b (.inScope c::k) cs;have key:∃e a' w',Q e a' w'∧Arrives P (lone (b.at a₁ (.code rest::.inScope c::k)) cs w₁) b k cs e a' w':=by
   cases e₂ with
   | normal=>exact ⟨.normal,a₂,w₂,hq₂,Steps.trans harr₂ (.one step_inScope)⟩
   | exit id=>exact ⟨.exit id,a₂,w₂,hq₂,fun k' hk=>harr₂ k' W9⟩
   | goto l=>exact hq₂.elim
   | ret=>exact ⟨_,a₂,w₂,hq₂,harr₂⟩
   | panic ch=>exact ⟨_,a₂,w₂,hq₂,harr₂⟩
   | outgrown=>exact ⟨_,a₂,w₂,hq₂,harr₂⟩
  obtain ⟨e₃,a₃,w₃,W_,O5⟩:=key;exact ⟨e₃,a₃,w₃,W_,.of_steps (.head step_scope (harr _ hg)) O5⟩
 | ret=>exact ⟨_,a₁,w₁,hq,.of_steps (.one step_scope) harr⟩
 | panic ch=>exact ⟨_,a₁,w₁,hq,.of_steps (.one step_scope) harr⟩
 | outgrown=>exact ⟨_,a₁,w₁,hq,.of_steps (.one step_scope) harr⟩):p:=h
theorem Eu (h:p:=by go_wp2_with fail;go_ret;exact ⟨rfl,rfl⟩):p:=h
theorem mq7 (h:p:=by
 go_wp2_with fail;refine (Ew L H).mono ?_;rintro e v1 ⟨rfl,L2,q2⟩;replace L:=L2;replace Q:=Q.next q2;clear L2 q2;go_upto_region 3 with fail;have hbd:=Below.drew (Below.refl v1.heap.size v1);replace L:=L.below hbd;replace Q:=Q.bel hbd;refine d_ 13 aW aW ?_;generalize v1.drew=vd at *;clear hbd;have c2:=L.pc H 2 (.int .i64 (p.st)) (fun _=>rfl);have f2:=L.pf H 2;have k8:=L.kc 8 (.bool k.c.so) rfl;simp only [List.take_succ_cons,List.take_zero,List.drop_succ_cons,List.drop_zero];iterate 10 refine so ?_
 refine fu bn KC (vX (p.st) 4 k.c.so vd) ?_;try simp only [Act.put,zI,bG,zS]
 refine so ?_;refine so ?_;refine bM ?_;go_upto_region 4 with fail;obtain ⟨L2,q2⟩:=L.cell H 2 (.int .i64 (dR p.st 4 k.c.so)) (q:={ { p with tab:={ p.tab with l:=[] },kK:=[] } with st:=dR p.st 4 k.c.so }) (fun _=>rfl) rfl rfl rfl rfl rfl;replace L:=L2;replace Q:=Q.next q2;clear L2 q2 c2 f2 k8;generalize World.setCell _ _ _=v2 at *;obtain ⟨s,hs⟩:∃s,dR p.st 4 k.c.so=s:=⟨_,rfl⟩;rw [hs] at L;have c2:=L.pc H 2 (.int .i64 s) (fun _=>rfl);unfold za at HP;rw [hs] at HP;clear hs;by_cases h6:s=6
 ·rw [if_pos h6] at HP;have b6:(s == 6)=true:=by rw [h6];rfl
  subst h6;go_wp2_with fail;refine (qJ L H).mono ?_;exact Xa
 ·rw [if_neg h6] at HP;have b6:(s == 6)=false:=nq h6;go_wp2_with fail;refine (jl L H hc).mono ?_;exact Xa):p:=h
theorem Ey (h:p:=by rw [decide_eq_false hN];clear hN;exact CF):p:=h
theorem mq9 (h:p:=by refine aR 22 fun K hK=>?_;refine ze (op:=⟨none,.store _ _ _,_,_,_,_⟩) _ _ rfl wq.heap.size _ _ _ _ _ rfl rfl hA ?_;replace hA:=hA.Xb (bQ a.p1 b.p1) (vY a.qc a.qa a.qv b.qc b.qa b.qv) (bQ a.p2 b.p2) (bQ a.gr b.gr);replace hHeld:=below_setRow hHeld hgs ([.int .i64 (bQ a.p1 b.p1),.int .i64 (vY a.qc a.qa a.qv b.qc b.qa b.qv),.int .i64 (bQ a.p2 b.p2),.int .i64 (bQ a.gr b.gr)]:List Value).toArray;refine hK.out _ _ hHeld ?_;clear hK K;generalize World.setRow _ _ _=WS at *;refine wpAnyH_done aW ?_ _;have hZ:=ah hbw (ah hbW hHeld);clear hHeld hgs;generalize wq.heap.size=g8 at hA ⊢;exact tail g8 WS ⟨hZ,hA⟩):p:=h
theorem Xc (h:p:=by
 try simp only [Act.put,zI,bG,zS]
 refine aR 9 fun K hK=>?_;go_simp;refine (rC _ _ _ _ _ _ _).mono ?_;rintro e wq ⟨rfl,hbq⟩;replace hHeld:=ah hHeld hbq;replace hA:=hA.below hbq;refine hK.out _ _ hHeld ?_;clear hK K hbq;try simp only [Act.put,zI,bG,zS]
 refine aR 14 fun K hK=>?_;go_simp;refine (h_ _ _ _).mono ?_;rintro e wy ⟨rfl,rfl⟩;refine hK.out _ _ hHeld ?_;clear hK K;try simp only [Act.put,zI,bG,zS]
 refine aR 19 fun K hK=>?_;go_simp;refine (rD _ _ _).mono ?_;rintro e wy ⟨rfl,rfl⟩;refine hK.out _ _ hHeld ?_;clear hK K;try simp only [Act.put,zI,bG,zS]
 refine tk [20] hHeld ?_;refine aR 22 fun K hK=>?_;refine ze (op:=⟨none,.store _ _ _,_,_,_,_⟩) _ _ rfl wd.heap.size _ _ _ _ _ rfl rfl hA ?_;replace hA:=hA.Xb (bQ a.p1 b.p1) (vY a.qc a.qa a.qv b.qc b.qa b.qv) (bQ a.p2 b.p2) (bQ a.gr b.gr);replace hHeld:=below_setRow hHeld hgs ([.int .i64 (bQ a.p1 b.p1),.int .i64 (vY a.qc a.qa a.qv b.qc b.qa b.qv),.int .i64 (bQ a.p2 b.p2),.int .i64 (bQ a.gr b.gr)]:List Value).toArray;refine hK.out _ _ hHeld ?_;clear hK K;generalize World.setRow _ _ _=WS at *;refine wpAnyH_done aW ?_ _;have hZ:=ah hbw (ah hbW hHeld);clear hHeld hgs;generalize wd.heap.size=g8 at hA ⊢;exact tail g8 WS ⟨hZ,hA⟩):p:=h
theorem Xd (h:p:=by
 go_wp2_with fail;refine (T.Ez gk F (ay c) m (i:Int) _ hO).mono ?_;rintro e wa ⟨rfl,bq⟩;rw [es];replace hO:=Ob.below hO bq;replace B:=B.below bq;replace BS:=BS.below bq;replace hR:=hR.below bq;replace hP:nK wa l:=fun q h=>by obtain ⟨k,e,H⟩:=hP q h;exact ⟨k,e,H.below bq⟩
 replace hb:=ah hb bq;clear bq;go_wp2_with fail;refine (T.Td gk F (ay c) m (i:Int) _ hO).mono ?_;rintro e wb ⟨rfl,bq⟩;rw [ep];replace hO:=Ob.below hO bq;replace B:=B.below bq;replace BS:=BS.below bq;replace hR:=hR.below bq;replace hP:nK wb l:=fun q h=>by obtain ⟨k,e,H⟩:=hP q h;exact ⟨k,e,H.below bq⟩
 replace hb:=ah hb bq;clear bq;go_wp2_with fail;refine (T.Te gk F (ay c) m (i:Int) _ hO).mono ?_;rintro e wc ⟨vf,rfl,hvf,bq⟩;rw [ef] at hvf;replace hO:=Ob.below hO bq;replace B:=B.below bq;replace BS:=BS.below bq;replace hR:=hR.below bq;replace hP:nK wc l:=fun q h=>by obtain ⟨k,e,H⟩:=hP q h;exact ⟨k,e,H.below bq⟩
 replace hb:=ah hb bq;clear bq;go_wp2_with fail;refine (rE vf _ hvf).mono ?_;rintro e wz ⟨rfl,hz⟩;obtain rfl:=hz.symm;go_wp2_with fail;go_roundw;case rel=>exact ⟨i+1,by omega,by go_num,hO,B,BS,hR,hP,hb⟩
 case measure=>exact vZ):p:=h
theorem Tf (h:p:=by
 go_enter func116,ntmps116;go_upto_region 0 with fail;have hbd:=Below.drew (Below.refl w.heap.size w);replace L:=L.below hbd;replace Q:=Q.bel hbd;refine fD aW aW ?_;generalize w.drew=wd at *;clear hbd;have c2:=L.pc H 2 (.int .i64 p.st) (fun _=>rfl);have k8:=L.kc 8 (.bool k.c.so) rfl;iterate 11 refine so ?_
 refine fu bn KC (hcall wd) ?_;try simp only [Act.put,zI,bG,zS]
 refine so ?_;refine bM ?_;go_wp2_with fail;try simp only [Exit.inBlock,Exit.then]
 refine bodyPost_ret (results_none rfl _ _ _) rfl ?_;exact ⟨rfl,by rw [←HR2.out];exact L,Q⟩):p:=h
theorem Tg (h:p:=by
 rcases World.ownsRow.elim hv with ⟨rfl,hn⟩ | ⟨g,cap',cur,rfl,hnc,_⟩
 ·simp [Builtin.append_,run_underlying hu,sizeOf,typeInfo,hi,Builtin.lenOf,Builtin.firstCells]
 ·simp [Builtin.append_,run_underlying hu,sizeOf,typeInfo,hi,Builtin.lenOf,Builtin.firstCells,hnc,storeCells]):p:=h
theorem wh (h:p:=by go_wp2_with fail;go_ret;exact ⟨by rw [HC.out];first | rfl | simp [h0] | simp [h0,h1],by rw [hG];exact hb⟩):p:=h
theorem Ti (h:p:=by
 replace hv:=hid hv;go_wp2_with (first | (refine aD 11 ?_;refine iZ bn _ _ bn _ bn (KO.enc (some ⟨g,0,none⟩,nR e.nw,.slice none 0 0)).toArray mb48 ?_) | (refine aN ?_;refine stT3.aS (W.heap.size) ((some ⟨g,0,none⟩,nR e.nw,.slice none 0 0)) (Ae) hN ?_));all_goals try (exfalso;omega)
 all_goals
  go_meet
  exact ⟨rfl,hN.fB (KO.enc (some ⟨g,0,none⟩,nR e.nw,.slice none 0 0)),below_setRow z (Nat.le_refl _) _⟩):p:=h
theorem yG (h:p:=by rintro e w' ⟨rfl,rfl⟩;exact Eu):p:=h
theorem WZ (h:p:=by
 refine aZ 14 fun K' hK=>?_;refine tvT.dS (.tmp 7) (.tmp 48) rfl gy T fA _ rfl rfl eF ?_;have h3:=below_setRow hHeld hge (pI.enc T).toArray;refine hK _ _ h3 ?_;clear hK K';try simp only [Act.put,zI,bG,zS]
 refine aE 15 fun K' hK=>?_;go_simp;refine hK _ _ ?_;clear hK K';have h4:=eF.fB (pI.enc T);generalize World.setRow _ _ _=wz at h3 h4 ⊢;exact hrest gy wz Wj lv v8 ⟨hge,h3,h4⟩):p:=h
theorem Tj (h:p:=by rintro e w3 ⟨x2,rfl,mO,hb2⟩;replace hM:=hM.below hb2;replace hP:=hP.below hb2;have hbs:=hb.size;replace hb:=ah hb hb2;have mO:=(mO.mono hbs);clear c0 p0 p1 m8 m9 m10 hbs;have c0:=hM.cell 0 _ rfl;have p0:=hP.cell 0 _ rfl;have p1:=hP.cell 1 _ rfl;have m8:=hM.cell 8 _ rfl;have m9:=hM.cell 9 _ rfl;have m10:=hM.cell 10 _ rfl;clear hb2;go_wp2_with fail;go_ret;exact ⟨x2,rfl,mO,hb⟩):p:=h
theorem Xe (h:p:=by go_upto_region 1 with fail;change Code.wp prog _ _ _ ((w.alloc (Obj.cells (cfL c).toArray 28)).alloc (Obj.cells (rz dK).toArray 69));generalize ((w.alloc (Obj.cells (cfL c).toArray 28)).alloc (Obj.cells (rz dK).toArray 69))=W at *;clear s1;have c0:=hC.cell 0 _ rfl;have c3:=hC.cell 3 _ rfl;have c4:=hC.cell 4 _ rfl;have c5:=hC.cell 5 _ rfl;have c6:=hC.cell 6 _ rfl;have c7:=hC.cell 7 _ rfl;have c19:=hC.cell 19 _ rfl;have c20:=hC.cell 20 _ rfl;have c21:=hC.cell 21 _ rfl;clear hC;generalize hG:w.heap.size=G at *;rw [←hG] at hb;go_wp2_with (refine aN ?_;refine Z9.aS (G+1) (eH c) (dK) hN ?_);exact bodyPost_ret (v:=.agg (j4.enc (eH c)).toArray) (Z9.result rfl _ _ (G+1) _ _ rfl (hN.fB _)) rfl ⟨rfl,below_setRow hb aJ _⟩):p:=h
theorem O6 (h:p:=by
 obtain ⟨h1,h2⟩:=h;refine ⟨h1,?_⟩;rcases h2 with h2 | ⟨g,cap,cur,hv,hg,hh,r⟩
 ·exact .inl h2
 ·exact .inr ⟨g,cap,cur,hv,hg,by rw [hb.block g (Array.getElem?_eq_some_iff.1 hh).1];exact hh,r⟩):p:=h
theorem EA (h:p:=by rw [e1];clear e1 ha HF;go_enter func169,ntmps169;go_wp2_with fail;refine (HA.out _).mono ?_;exact yG):p:=h
theorem KP (h:p:=by go_enter func169,ntmps169;go_wp2_with fail;refine (HA.out _).mono ?_;rintro e w' ⟨rfl,rfl⟩;go_wp2_with fail;refine (HU.out _).mono ?_;exact yG):p:=h
theorem Tn (h:p:=by
 intro j u hu;have hj:=(List.getElem?_eq_some_iff.1 hu).1;rw [K.aQ] at hj;have hm0:0<m.length:=by
  rcases Nat.eq_zero_or_pos m.length with h | h
  ·rw [h,Nat.zero_mul] at hj;omega
  ·exact h
 obtain ⟨b,off,he,_,hc⟩:=hat.pos hm0;cases he;rw [Addr.add_plain];exact hc j u hu):p:=h
theorem Xf (h:p:=by
 refine aZ 7 fun K' hK=>?_;have b1:=aA u2 (Obj.cells (yB.enc k.c.cl).toArray 22);have qI:=vK u2 k.c.cl hHeld.size;refine wm 151 1 #[(0,.tmp 44)] rfl #[(0,.int .u64 k.c.cl)] aW _ _ (Af k.c.cl u2) ?_;replace oP:=oP.below b1;replace eF:=eF.below b1;replace hHeld:=hHeld.trans (b1.mono hHeld.size);clear b1;refine hK _ _ hHeld ?_;clear hK K';try simp only [Act.put,zI,bG,zS]
 generalize Value.slice (some ⟨u2.heap.size,0,none⟩) 1 1=lv at *;generalize u2.alloc (Obj.cells (yB.enc k.c.cl).toArray 22)=u3 at *;exact mq2):p:=h
theorem jm (h:p:=by rw [beq_eq_false_iff_ne];omega):p:=h
theorem yH (h:p:=by go_wp2_with fail;go_ret;exact ⟨by rw [ht,HC.out];rfl,hbw⟩):p:=h
theorem CF (h:p:=by go_wp2_with fail;go_ret;exact ⟨by rw [hE.out];rfl,by rw [hG];exact hb⟩):p:=h
theorem O7 (h:p:=by
 obtain ⟨h1,h2⟩:=h;refine ⟨h1,?_⟩;rcases h2 with h2 | ⟨g,cap,cur,hv,hg,r⟩
 ·exact .inl h2
 ·exact .inr ⟨g,cap,cur,hv,Nat.le_trans hb hg,r⟩):p:=h
theorem EB (h:p:=by go_wp2_with fail;go_ret;exact ⟨by rw [HC.out];rfl,by rw [hG];exact hb⟩):p:=h
theorem Xg (h:p:=by rintro e w2 ⟨x1,rfl,iI,hb1⟩;replace hM:=hM.below hb1;replace hP:=hP.below hb1;have hbs:=hb.size;replace hb:=ah hb hb1;have iI:=(iI.mono hbs);clear c0 p0 p1 m8 m9 m10 hbs;have c0:=hM.cell 0 _ rfl;have p0:=hP.cell 0 _ rfl;have p1:=hP.cell 1 _ rfl;have m8:=hM.cell 8 _ rfl;have m9:=hM.cell 9 _ rfl;have m10:=hM.cell 10 _ rfl;clear hb1;go_wp2_with fail;go_ret;exact ⟨x1,rfl,iI,hb⟩):p:=h
theorem Ag (h:p:=by
 rcases hat with h | ⟨b,off,h,_⟩
 ·exact h
 ·cases h):p:=h
theorem IV (h:p:=by exact (Below.refl base w).grown hg hbase (fun k hk=>(World.ownsRow.lt hv k hk).1)):p:=h
theorem Tp (h:p:=by
 rcases h with h | ⟨b,off,rfl,hlt,hc⟩
 ·exact .inl h
 ·exact .inr ⟨b,off,rfl,Nat.lt_of_lt_of_le hlt hb.size,fun j v hj=>by rw [hb.cell (p:=⟨b,off+j,none⟩) hlt];exact hc j v hj⟩):p:=h
theorem Xh (h:p:=by
 refine aZ 1 fun K' hK=>?_;go_simp;refine (rF (L.below hHeld) hlen).mono ?_;rintro e u3 ⟨Wj,rfl,oP,b1⟩;rw [hTR.out] at oP;replace oP:=vL (oP.mono hHeld.size);replace qI:=qI.below b1;replace eF:=eF.below b1;replace hHeld:=hHeld.trans (b1.mono hHeld.size);clear b1;refine hK _ _ hHeld ?_;clear hK K';try simp only [Act.put,zI,bG,zS]
 exact mq2):p:=h
theorem Tq (h:p:=by
 rcases h with h | ⟨b,off,rfl,hlt,hc⟩
 ·exact .inl h
 ·exact .inr ⟨b,off,rfl,Nat.lt_of_lt_of_le hlt hb.size,fun i hi=>by rw [hb.cell (p:=⟨b,off+i,none⟩) hlt];exact hc i hi⟩):p:=h
theorem IW (h:p:=by go_enter func78,ntmps78;go_wp2_with fail;refine (HC.out _).mono ?_;exact yG):p:=h
theorem WY (h:p:=by
 refine aZ 9 fun K' hK=>?_;go_simp;refine (yZ v8 (TR++[k.c.cl]) u4 (GX oA).ids mb6 hzs).mono ?_;rintro e u5 ⟨rfl,b1⟩;rw [hT.out];replace eF:=eF.below b1;replace hHeld:=hHeld.trans (b1.mono hHeld.size);clear b1 oA;refine hK _ _ hHeld ?_;clear hK K';try simp only [Act.put,zI,bG,zS]
 refine tz [10,11,12] hHeld ?_;exact WZ):p:=h
theorem WU (h:p:=by
 go_wp2_with fail;go_end0;have eo:os++(dI K i now p).2=(os++(eX K i p).2++(ig K i now p1).2)++(jk K i p2).2:=by unfold dI;rw [hp1.out,hp2.out];simp only [List.append_assoc]
 have ep:(dI K i now p).1=(jk K i p2).1:=by unfold dI;rw [hp1.out,hp2.out]
 rw [eo,ep,er.out];exact ⟨rfl,L,by rw [List.append_nil];exact A,Q⟩):p:=h
theorem WX (h:p:=by
 go_wp2_with fail;go_end0;have eo:os++(dI K i now p).2=(os++(eX K i p).2++(ig K i now p1).2)++(jk K i p2).2:=by unfold dI;rw [hp1.out,hp2.out];simp only [List.append_assoc]
 have ep:(dI K i now p).1=(jk K i p2).1:=by unfold dI;rw [hp1.out,hp2.out]
 rw [eo,ep,er.out];exact ⟨rfl,L3,A.qH L q3,Q.qH q3⟩):p:=h
theorem Xi (h:p:=by
 refine hK.out _ _ trivial ?_;clear hK K;try simp only [Act.put,zI,bG,zS]
 refine aR 5 fun K hK=>?_;go_simp;refine (wu h d _).mono ?_;rintro e w2 ⟨rfl,hb2⟩;exact Xj):p:=h
theorem KQ (h:p:=by obtain ⟨a1,a2,a3,a4,a5,a6,a7,a8,a9,O8,O9,a12,Wl,Xk,Xl,a16,a17⟩:=p;cases h;rfl):p:=h
theorem Xm (h:p:=by
 rcases World.ownsRow.elim hv with ⟨rfl,hn⟩ | ⟨g,cap',cur,rfl,hnc,_⟩
 ·simp [Builtin.append_,run_underlying underlying132,sizeOf,typeInfo,hi,Builtin.lenOf,Builtin.firstCells]
 ·simp [Builtin.append_,run_underlying underlying132,sizeOf,typeInfo,hi,Builtin.lenOf,Builtin.firstCells,hnc,storeCells]):p:=h
theorem Tt (h:p:=by go_enter func263,ntmps263;go_wp2_with fail;refine (CG _ _).mono ?_;rintro e w' ⟨rfl,rfl⟩;go_wp2_with fail;refine (CG _ _).mono ?_;exact yG):p:=h
theorem Tv (h:p:=by go_enter func244,ntmps244;go_wp2_with fail;refine (CJ _ _).mono ?_;rintro e w' ⟨rfl,rfl⟩;go_wp2_with fail;refine (CJ _ _).mono ?_;exact yG):p:=h
theorem EC (h:p:=by go_wp2_with fail;go_ret;exact ⟨rfl,Below.refl _ _⟩):p:=h
theorem vw (h:p:=by go_wp2;go_ret;exact ⟨rfl,rfl⟩):p:=h
theorem Tw (h:p:=by go_wp2_with fail;go_step3;refine hgo 0 _ _ _ rfl ?_;go_wp2_with fail;rw [Exit.noGoto_ret];go_ret;subst hG;exact ⟨bC hV.out.symm,hb⟩):p:=h
theorem KR (h:p:=by obtain ⟨p,cap,rfl,h1,h2,h3⟩:=h;exact ⟨p,cap,rfl,h1,h2,h3.below hb⟩):p:=h
theorem KS (h:p:=by unfold fV;rw [Bool.eq_iff_iff,decide_eq_true_eq,decide_eq_true_eq];omega):p:=h
theorem Xn (h:p:=by
 intro j u hu;have hj:j<m.length:=by
  rcases Nat.lt_or_ge j m.length with h | h
  ·exact h
  ·rw [List.getElem?_eq_none Xo] at hu;cases hu
 obtain ⟨b,off,he,_,hc⟩:=hat.pos aJ;cases he;rw [fZ m j hj] at hu;rw [Addr.add_plain,hc j hj];exact hu):p:=h
theorem O_ (h:p:=by go_wp2_with fail;go_ret2;exact ⟨rfl,rfl⟩):p:=h
theorem Tx (h:p:=by go_end0;rw [e0] at L5 A5;replace L5:=vM hfit.out L5;rw [hty,TA] at L5;exact ⟨rfl,L5,A5,(dx.wB Q).next Q5⟩):p:=h
theorem Xp (h:p:=by
 try simp only [Act.put,zI,bG,zS]
 refine aR 19 fun K hK=>?_;go_simp;refine (rD _ _ _).mono ?_;rintro e wy ⟨rfl,rfl⟩;refine hK.out _ _ hHeld ?_;clear hK K;try simp only [Act.put,zI,bG,zS]
 refine tk [20] hHeld ?_;exact mq9):p:=h
theorem Xr (h:p:=by go_wp2_with fail;refine (jl L H hc).mono ?_;rintro e w6 ⟨rfl,L2,q2⟩;replace L:=L2;replace Q:=Q.next q2;clear L2 q2;exact Xt):p:=h
theorem TB (h:p:=by go_wp2_with fail;go_step3;refine hgo 0 _ _ _ rfl ?_;go_wp2_with fail;rw [Exit.noGoto_ret];go_ret2;exact ⟨rfl,hb⟩):p:=h
theorem ED (h:p:=by go_wp2_with fail;go_end0;exact ⟨rfl,L,Q⟩):p:=h
theorem IX (h:p:=by unfold ak at h ⊢;rw [setRow_heap w g _ _ t _ h]):p:=h
theorem TD (h:p:=by exact ⟨rfl,by first | (rw [EF.out];exact L6) | (rw [if_pos rfl,EF.out];exact L6),A4.qH L q6,Q.qH q6⟩):p:=h
theorem KT (h:p:=by go_wp2_with fail;go_ret;exact ⟨by rw [HC.out];rfl,hbw⟩):p:=h
theorem IY (h:p:=by go_wp2_with fail;go_ret;exact ⟨rfl,aA _ _⟩):p:=h
theorem Xu (h:p:=by have hV2:=hid (hV1.out.trans (if_pos hbe));clear Z_ hbe;go_wp2_with fail;go_step3;refine hgo 0 _ _ _ rfl ?_;go_wp2_with fail;rw [Exit.noGoto_ret];go_ret;subst hG;exact ⟨bC hV2.out.symm,hb⟩):p:=h
theorem IZ (h:p:=by
 rcases h with rfl | h
 ·simp at hl
 ·exact h):p:=h
theorem KU (h:p:=by rintro e wz ⟨rfl,hz⟩;obtain rfl:=hz.symm;exact Eu):p:=h
theorem Xv (h:p:=by rintro e w5 ⟨rfl,L5,A5,Q5⟩;replace L5:=vM (rG hmd) L5;rw [hty,Xw] at L5;go_wp2_with fail;go_end0;refine ⟨rfl,L5,?_,(dx.of_below R4).next Q5⟩;rw [hE.out];exact A5):p:=h
theorem TF (h:p:=by go_wp2_with fail;go_ret;exact ⟨by rw [HC.out];first | rfl | simp [h0,h1],by rw [hG];exact hb⟩):p:=h
theorem jC (h:p:=by rw [OM.out];rfl):p:=h
theorem Xx (h:p:=by exact ⟨rfl,wC (rs:=ss.set m au) TG (by dsimp only;omega) (by dsimp only;rw [hle];exact Wm) mb58 hw.out (fun r hr=>yI.out r (List.mem_of_mem_eraseIdx hr)),Xy⟩):p:=h
theorem I4 (h:p:=by go_wp2_with fail;go_ret;exact ⟨rfl,hb⟩):p:=h
theorem yJ (h:p:=by rw [IntKind.wrap_i64];omega):p:=h
theorem Xz (h:p:=by rw [e1];clear e1 ha hf;go_enter func169,ntmps169;go_wp2_with fail;refine (HA.out _).mono ?_;rintro e w' ⟨rfl,rfl⟩;go_wp2_with fail;refine (HF.out _).mono ?_;exact yG):p:=h
theorem XA (h:p:=by
 unfold wpOp;have hi':ops[n]? = some oi:=by exact KV
 simp only [hi',hwi,if_true];exact .inl (h1 _ (fun a w hS hA=>⟨.inr hS,hA.out⟩))):p:=h
theorem XB (h:p:=by
 unfold wpOp;have hj':ops[n]? = some oj:=by rw [←Array.getElem?_toList];exact hj
 simp only [hj',XC,if_true];exact .inl (h2 _ (fun a w hS hA=>⟨.inr hS,hA.out⟩))):p:=h
theorem EG (h:p:=by go_enter func140,ntmps140;exact Eu):p:=h
theorem XD (h:p:=by have zf:=hid hV2.out;go_wp2_with fail;go_step3;refine hgo 0 _ _ _ rfl ?_;go_wp2_with fail;rw [Exit.noGoto_ret];go_ret;subst hG;exact ⟨bC zf.out.symm,hb⟩):p:=h
theorem Xj (h:p:=by
 refine hK.out _ _ trivial ?_;clear hK K;try simp only [Act.put,zI,bG,zS]
 refine Pb (upto 6 68) aW ?_;exact tail w2 ⟨ah hbw hb2,iq.below hb2⟩):p:=h
theorem Xa (h:p:=by rintro e v3 ⟨rfl,L2,q2⟩;replace L:=L2;replace Q:=Q.next q2;clear L2 q2;go_wp2_with fail;go_end0;exact ⟨rfl,by first | exact L | (rw [HP];exact L),Q⟩):p:=h
theorem TI (h:p:=by go_enter func135,ntmps135;go_wp2_with fail;refine (HH.out _).mono ?_;exact yG):p:=h
theorem TJ (h:p:=by go_wp2_with fail;go_end0;exact ⟨rfl,by rw [←HR.out,←HA.out];exact L,Q⟩):p:=h
theorem XE (h:p:=by go_wp2_with fail;go_ret;exact ⟨by rw [HC.out,show fV d.ut (-32768) 32767=false by unfold fV;rw [decide_eq_false_iff_not];omega];rfl,hbw⟩):p:=h
theorem XF (h:p:=by
 go_wp2_with fail;go_roundw;case rel=>exact ⟨k+1,k,by omega,by go_num,rfl,hid HN.out.symm,hb⟩
 case measure=>exact vZ):p:=h
theorem I5 (h:p:=by go_enter func212,ntmps212;exact Eu):p:=h
theorem wD (h:p:=by unfold dz;simp [ha]):p:=h
theorem XG (h:p:=by rw [Nat.zero_add];simp only [World.cell?,hg];rw [←h6,List.getElem?_take_of_lt hjl,Array.getElem?_toList] at hj;simpa using hj):p:=h
theorem XH (h:p:=by go_wp2_with fail;refine (HA _).mono ?_;rintro e w4 ⟨rfl,b4⟩;replace z:=ah z b4;go_wp2_with fail;go_ret;exact ⟨rfl,z⟩):p:=h
theorem TK (h:p:=by simp only [Option.some.injEq,Obj.cells.injEq] at h1;exact ht h1.2.1):p:=h
theorem KV (h:p:=by rw [←Array.getElem?_toList];exact hi):p:=h
theorem TL (h:p:=by refine ⟨v,w,?_,by simpa using hv,Below.refl _ _⟩;exact Tg):p:=h
theorem tC (h:p:=by revert this;decide):p:=h
theorem TM (h:p:=by
 rw [Bool.eq_iff_iff];repeat' split
 all_goals (simp;try omega)):p:=h
theorem KW (h:p:=by go_enter func131,ntmps131;exact O_):p:=h
theorem XI (h:p:=by exact ⟨fun e=>by have:=h1.one (e▸a2);revert this;decide,fun e=>by have:=h1.one (e▸a3);revert this;decide⟩):p:=h
theorem XJ (h:p:=by
 go_wp2_with fail;go_round;case rel=>exact ⟨k+1,by omega,by go_num,HN⟩
 case measure=>simp [intOf];omega):p:=h
theorem WW (h:p:=by rw [←R5.out];unfold jk;rw [if_pos mb13,if_pos h1.out];show (if k.c.pe=true then _ else _)=_;rw [hE.out];rfl):p:=h
theorem wE (h:p:=by unfold wrap64;omega):p:=h
theorem XK (h:p:=by obtain ⟨c0,c1,c2,c3,c4,c5,c6,c7,c8,c9,c10,c11,c12,c13,c14,c15,c16,c17,c18,c19,c20,c21,nO⟩:=c;cases h;rfl):p:=h
theorem TN (h:p:=by obtain ⟨xs,hB,hR⟩:=h;exact ⟨xs,hB.other hk i v,hR⟩):p:=h
theorem tF (h:p:=by simp [RowK.cells]):p:=h
theorem TP (h:p:=by go_wp2_with fail;refine (KX s _).mono ?_;exact yG):p:=h
theorem Xt (h:p:=by go_wp2_with fail;go_end0;refine ⟨rfl,?_,Q⟩;rw [OM.out] at L HR2;rw [←HR2.out];unfold qw;exact L):p:=h
theorem CK (h:p:=by exact ⟨h0,.inl ⟨rfl,hn⟩⟩):p:=h
theorem R6 (h:p:=by
 rcases h2.1 n hn with ht | ht
 ·exact ho.block n ht.lt (hr n hn)
 ·exact ho.block n ht.lt (hr n hn)):p:=h
theorem KY (h:p:=by obtain ⟨xs,hB,hR⟩:=h;exact ⟨xs,hB.below hb,hR⟩):p:=h
theorem vZ (h:p:=by (simp [intOf] <;> omega)):p:=h
theorem aW (h:p:=by kernel_rfl):p:=h
theorem aJ (h:p:=by omega):p:=h
theorem aX (h:p:=by decide):p:=h
theorem bn (h:p:=by rfl):p:=h
theorem Wi (h:p:=by simp only [List.length_singleton];omega):p:=h
theorem KC (h:p:=by go_simp;try with_reducible rfl):p:=h
theorem mb6 (h:p:=by rw [List.length_append,List.length_singleton];omega):p:=h
theorem qx (h:p:=by cases h):p:=h
theorem KZ (h:p:=by unfold maxLen;omega):p:=h
theorem TQ (h:p:=by rw [hT.size];simp [K.len]):p:=h
theorem Pd (h:p:=by rw [←Array.getElem?_toList];exact hi):p:=h
theorem wF (h:p:=by assumption):p:=h
theorem K4 (h:p:=by rw [List.append_nil];exact h):p:=h
theorem mb13 (h:p:=by show uM k.c p2=true;exact hV.out):p:=h
theorem TG (h:p:=by rw [List.length_set];exact TS.out):p:=h
theorem K5 (h:p:=by rw [wG,wH]):p:=h
theorem W9 (h:p:=by simp [exitTo,hk]):p:=h
theorem mb17 (h:p:=by show ¬uM K.c p2=true;rw [←R5.out];show ¬uM k.c p2=true;rw [hV.out];decide):p:=h
theorem Pf (h:p:=by rw [dG];exact Cw):p:=h
theorem Pg (h:p:=by rw [aT];omega):p:=h
theorem XL (h:p:=by unfold tH;first | (simp [h];done) | (symm;rw [decide_eq_false_iff_not];omega)):p:=h
theorem TT (h:p:=by have:=hin.nk;unfold qg at this;omega):p:=h
theorem XM (h:p:=by rw [List.length_append,aC _ _ (by decide) (by decide)];simp;omega):p:=h
theorem XO (h:p:=by have:=Hl.out;rw [List.length_append,List.length_append,fP,fP];omega):p:=h
theorem Ph (h:p:=by rw [wI];exact eF):p:=h
theorem Pj (h:p:=by rw [hr] at h0;cases h0):p:=h
theorem Pk (h:p:=by rw [wJ];decide):p:=h
theorem Pm (h:p:=by rw [dG];omega):p:=h
theorem K6 (h:p:=by rw [hS];exact hp):p:=h
theorem TU (h:p:=by simp only [List.length_nil];omega):p:=h
theorem Pn (h:p:=by rw [h] at hr;cases hr):p:=h
theorem Po (h:p:=by rw [←ha];exact hmem):p:=h
theorem XP (h:p:=by first | exact fun _ _ _ h=>h | exact fun c a w h=>nL c a _ _ w h):p:=h
theorem XQ (h:p:=by rcases j with _ | _ | _ | j <;> first | exact hj | (simp at hj)):p:=h
theorem K7 (h:p:=by rw [hz2];omega):p:=h
theorem Pp (h:p:=by rw [e1,e2];exact hc):p:=h
theorem TV (h:p:=by rw [K.len,Nat.succ_mul];omega):p:=h
theorem Pq (h:p:=by rw [←hE.out];rfl):p:=h
theorem XR (h:p:=by have h4:=hcf.2.2.2.1;show 0≤k.c.dm∧k.c.dm≤255;omega):p:=h
theorem Xo (h:p:=by rw [aT];exact h):p:=h
theorem mb40 (h:p:=by show uM K.c p2=true;rw [←R5.out];exact hV.out):p:=h
theorem XT (h:p:=by rw [kM TS.out];show 3+m*17+17≤89;omega):p:=h
theorem XU (h:p:=by first | (simp only [Act.put,zI,bG,zS];rfl) | rfl):p:=h
theorem XV (h:p:=by rw [List.length_drop,H5.out];show _=min _ _;omega):p:=h
theorem Pv (h:p:=by rw [mP];rfl):p:=h
theorem XW (h:p:=by have:=Hl.out;rw [List.length_append,fP];omega):p:=h
theorem XY (h:p:=by rw [nU,rH.out.1];exact Nat.le_refl _):p:=h
theorem TW (h:p:=by simpa [K.len] using hn):p:=h
theorem mb48 (h:p:=by rw [hv.out];kernel_rfl):p:=h
theorem XZ (h:p:=by rw [List.length_append,kX];decide):p:=h
theorem X0 (h:p:=by intro wx hwx;go_simp;try with_reducible rfl):p:=h
theorem Pw (h:p:=by simpa using h):p:=h
theorem X3 (h:p:=by first | exact Nat.le_refl _ | exact HSZ.out):p:=h
theorem X7 (h:p:=by simp only [List.length_nil] at hbytes;omega):p:=h
theorem X8 (h:p:=by rw [j5 Cw,if_neg (Nat.lt_irrefl _)]):p:=h
theorem X9 (h:p:=by split;exact Ah h.cf h.cl;exact h.pa):p:=h
theorem TY (h:p:=by rw [hT.size,K.len]):p:=h
theorem T9 (h:p:=by have:=Hl.out;omega):p:=h
theorem mb58 (h:p:=by dsimp only;rw [hle];exact hfin.out):p:=h
theorem T_ (h:p:=by rw [HC.out];rfl):p:=h
theorem X_ (h:p:=by show b<B0;rw [HB0.out];exact hbl):p:=h
theorem Ya (h:p:=by rw [Yb.out];exact Nat.le_refl _):p:=h
theorem nq [BEq α] [LawfulBEq α] {a b:α} (h:¬a=b):(a == b)=false:=beq_false_of_ne h
theorem hid (h:p):Hid p:=h
theorem yK {c X:Code} (l:Nat) (J:Act→World→Prop) (μ:Act→World→Nat) (hf:findLabel c l=some (.seq .skip X)) (pass:∀a w,J a w→X.wp P (Exit.jump l (fun a' w'=>J a' w'∧μ a' w'<μ a w) Q) a w) (first:∀Q',Hid (Q'=Exit.jump l J Q)→(∀a w,J a w→X.wp P Q' a w)→c.wp P Q' a w):(Code.scope c).wp P Q a w:=by
 have hm:∀a w,J a w→X.wp P (Exit.jump l J Q) a w:=by intro a w hJ;refine wp_mono (pass a w hJ) ?_;intro e a' w' h;cases e <;> first | exact h | exact ⟨h.1,h.2.1⟩
 exact wp_scope_jumps l J μ hf (first _ rfl hm) fun a w hJ=>wp_seq (wp_skip (pass a w hJ))
theorem K8 {l:Nat} {X:Code} {K:Act→World→Prop} {Q':Exit→Act→World→Prop} {J:Act→World→Prop} 
  (K9:∀a w,J a w→X.wp P Q' a w) (hK:∀a w,X.wp P Q' a w→K a w) (hJ:J a w):(Code.label l).wp P (Exit.then K Q') a w:=
 wp_label (hK _ _ (K9 _ _ hJ))
theorem bC {k:IntKind} {a b:Int} (h:a=b):Ending.returned (.int k a)=.returned (.int k b):=by rw [h]
theorem dH {a b:Bool} (h:a=b):Ending.returned (.bool a)=.returned (.bool b):=by rw [h]
theorem ah {w1 w2:World} (h:Below w.heap.size w w1) (k:Below w1.heap.size w1 w2):Below w.heap.size w w2:=h.trans (k.mono h.size)
theorem aA (w:World) (o:Obj):Below w.heap.size w (w.alloc o):=(Below.refl _ _).alloc (Nat.le_refl _) _
theorem R7 {w1:World} (h:Below w.drew.heap.size w.drew w1):Below w.heap.size w w1:=(Below.drew (Below.refl _ _)).trans h
def j6 (w:World) (p:Option Addr) (zs:List Int):Prop:=
 zs=[]∨∃b off,p=some ⟨b,off,none⟩∧b<w.heap.size∧∀i (h:i<zs.length),w.cell? ⟨b,off+i,none⟩=some (.int .i64 zs[i])
def Ints (w:World) (v:Value) (zs:List Int):Prop:=
 ∃p cap,v=.slice p zs.length cap∧zs.length≤cap∧cap≤maxLen∧j6 w p zs
theorem j6.pos {p:Option Addr} {zs:List Int} (h:j6 w p zs) (hl:0<zs.length):∃b off,p=some ⟨b,off,none⟩∧b<w.heap.size∧∀i (h:i<zs.length),w.cell? ⟨b,off+i,none⟩=some (.int .i64 zs[i]):=by exact IZ
theorem j6.below {p:Option Addr} {zs:List Int} (h:j6 w p zs) (hb:Below w.heap.size w w'):j6 w' p zs:=by exact Tq
theorem j6.take {w:World} {p:Option Addr} {zs:List Int} (h:j6 w p zs) (n:Nat):j6 w p (zs.take n):=by
 rcases h with rfl | ⟨b,off,rfl,hlt,hc⟩
 ·exact .inl (by simp)
 ·exact .inr ⟨b,off,rfl,hlt,fun i hi=>by rw [List.getElem_take];exact hc i (by rw [List.length_take] at hi;omega)⟩
theorem f_ {P:Program} {ops:Array Oper} {Q:Exit→Act→World→Prop} {md:Region.Mode} {S S':World→Prop} (hS:∀w,S' w→S w) :
  ∀(fuel:Nat) (listed:Array Bool) (a:Act) (w:World),wpAnyH P md ops Q S' fuel listed a w→wpAnyH P md ops Q S fuel listed a w
 | 0,_,_,_,h=>h
 | fuel+1,listed,a,w,h=>⟨h.1,fun i hi=>wpOp_mono (fun a' w' hh=>⟨hS w' hh.1,f_ hS fuel _ a' w' hh.2⟩) (h.2 i hi)⟩
theorem K_ {md:Region.Mode} (i:Nat) {oi:Oper} {v:Value} {fuel:Nat} {listed:Array Bool} {a:Act} {w:World}
  (hi:ops.toList[i]? = some oi) (hw:Region.wanted oi (yielded ops a.tmps)=true)
  (hs:Region.noSelect ops=true) (hf:Region.free md ops listed i=true) (hr:(Region.ready md ops listed).contains i=true)
  (hQ:∀c a w,Q (.panic c) (a.put oi.dst v) w→Q (.panic c) a w) (hS:S w)
  (hy:∀w,S w→(execOp a.eval oi).run P w=.ok (.value v) w)
  (h:wpAnyH P md ops Q S fuel (listed.setIfInBounds i true) (a.put oi.dst v) w):wpAnyH P md ops Q S (fuel+1) listed a w:=
 wpAnyH_take Pd hs hf hr hQ (.inl ⟨hw,hy⟩) hS h
theorem Yc {md:Region.Mode} (i:Nat) {oi:Oper} {fuel:Nat} {listed:Array Bool} {a:Act} {w:World}
  (hi:ops.toList[i]? = some oi) (hw:Region.wanted oi (yielded ops a.tmps)=false)
  (hs:Region.noSelect ops=true) (hf:Region.free md ops listed i=true) (hr:(Region.ready md ops listed).contains i=true)
  (hQ:∀c a w,Q (.panic c) (a.put oi.dst undef) w→Q (.panic c) a w) (hS:S w)
  (h:wpAnyH P md ops Q S fuel (listed.setIfInBounds i true) (a.put oi.dst undef) w):wpAnyH P md ops Q S (fuel+1) listed a w:=
 wpAnyH_take Pd hs hf hr hQ (.inr ⟨hw,rfl⟩) hS h
theorem Yd {md:Region.Mode} (i:Nat) {oi:Oper} {fuel:Nat} {listed:Array Bool} {a:Act} {w:World}
  (hi:ops.toList[i]? = some oi) (hr:Region.ready md ops listed=[i]) (hw:Region.wanted oi (yielded ops a.tmps)=true)
  (h:∀K':Act→World→Prop,Shut (∀a w,S w→wpAnyH P md ops Q S fuel (listed.setIfInBounds i true) a w→K' a w)→oi.wp P a w K' Q):wpAnyH P md ops Q S (fuel+1) listed a w:=
 wpAnyH_ready hr (by simp) (AllReadyH.cons Pd (fun K hK=>by rw [if_pos hw];exact h K fun a w hS hh=>hK.out a w hS fun _=>hh) AllReadyH.nil)
theorem below_setRow {w0:World} (hb:Below B w0 w) (hBg:B≤g) (cs:Array Value):Below B w0 (w.setRow g cs):=
 hb.trans ⟨rfl,rfl,rfl,by simp [World.setRow],fun k hk=>setRow_other w g k cs aJ⟩
theorem jD {e:TypeId} (n:Nat) (hb:base≤g) (hh:w.heap[g]? = some (.cells xs.toArray e (0,0))) (hl:xs.length=n) (hm:n≤maxLen) :
  w.ownsRow base e 1 (.slice (some ⟨g,0,none⟩) n n) n xs:=
 ⟨by omega,.inr ⟨g,n,xs.toArray,rfl,hb,hh,Nat.le_refl _,hm,by simp [hl],by simp [←hl]⟩⟩
theorem Addr.add_plain (b off j:Nat):(⟨b,off,none⟩:Addr).add j=⟨b,off+j,none⟩:=by unfold Addr.add;split <;> simp_all
theorem World.ownsRow.elim {e:TypeId} {size:Nat} (h:w.ownsRow base e size v n xs):(v=.slice none 0 0∧n=0)∨∃g cap cur,v=.slice (some ⟨g,0,none⟩) n cap∧n≤cap∧w.heap[g]? = some (.cells cur e (0,0)):=by
 rcases h.2 with h | ⟨g,cap,cur,hv,_,hg,hn,_⟩
 ·exact .inl h
 ·exact .inr ⟨g,cap,cur,hv,hn,hg⟩
theorem fE (l:List α) (k:Nat) (h:k<l.length):l.take (k+1)=l.take k++[l[k]]:=by rw [List.take_succ_eq_append_getElem h]
theorem I6 {a:Int} (h:(Lit.int .u64 a).wf=true):0≤a∧a<18446744073709551616:=by
 have h':0≤a∧a≤18446744073709551615:=by simp only [Lit.wf,Bool.and_eq_true,decide_eq_true_eq] at h;exact h
 omega
theorem bS {a:Int} (h:(Lit.int .i64 a).wf=true) : -9223372036854775808≤a∧a≤9223372036854775807:=by simp only [Lit.wf,Bool.and_eq_true,decide_eq_true_eq] at h;exact h
theorem rt {md:Region.Mode} (i:Nat) {oi:Oper} {v:Value} {fuel:Nat} {listed:Array Bool} {a a':Act} {w:World} (hS:S w) (h:wpAnyH P md ops Q S fuel (listed.setIfInBounds i true) a' w) (hi:ops.toList[i]? = some oi:=by rfl) (hw:Region.wanted oi (yielded ops a.tmps)=true:=by rfl) (hs:Region.noSelect ops=true:=by kernel_rfl) (hf:Region.free md ops listed i=true:=by kernel_rfl) (hr:(Region.ready md ops listed).contains i=true:=by kernel_rfl) (hQ:∀c a w,Q (.panic c) (a.put oi.dst v) w→Q (.panic c) a w:=by exact fun _ _ _ h=>h) (hy:∀w,S w→(execOp a.eval oi).run P w=.ok (.value v) w:=by intro wx hwx;go_simp;try with_reducible rfl) (ha:a.put oi.dst v=a':=by first | (simp only [Act.put,List.setIfInBounds_toArray,List.set_cons_zero,List.set_cons_succ];rfl) | rfl):wpAnyH P md ops Q S (fuel+1) listed a w:=by
 subst ha
 exact K_ i hi hw hs hf hr hQ hS hy h
theorem rp {md:Region.Mode} (i:Nat) {oi:Oper} {v:Value} {fuel:Nat} {listed:Array Bool} {a a':Act} {w:World} (hp:∀(c:List PanicEntry) (a:Act) (d:Option Tmp) (v:Value) (w:World),Q (.panic c) (a.put d v) w→Q (.panic c) a w) (hS:S w) (h:wpAnyH P md ops Q S fuel (listed.setIfInBounds i true) a' w) (hi:ops.toList[i]? = some oi:=by rfl) (hw:Region.wanted oi (yielded ops a.tmps)=true:=by rfl) (hs:Region.noSelect ops=true:=by kernel_rfl) (hf:Region.free md ops listed i=true:=by kernel_rfl) (hr:(Region.ready md ops listed).contains i=true:=by kernel_rfl) (hy:∀w,S w→(execOp a.eval oi).run P w=.ok (.value v) w:=by intro wx hwx;go_simp;try with_reducible rfl) (ha:a.put oi.dst v=a':=by first | (simp only [Act.put,List.setIfInBounds_toArray,List.set_cons_zero,List.set_cons_succ];rfl) | rfl):wpAnyH P md ops Q S (fuel+1) listed a w:=by
 subst ha
 exact K_ i hi hw hs hf hr (fun c a w h=>hp c a _ _ w h) hS hy h
theorem zI (l:List α) (i:Nat) (a:α):l.toArray.setIfInBounds i a=(l.set i a).toArray:=List.setIfInBounds_toArray ..
theorem bG (x:α) (xs:List α) (a:α):(x::xs).set 0 a=a::xs:=List.set_cons_zero ..
theorem zS (x:α) (xs:List α) (n:Nat) (a:α):(x::xs).set (n+1) a=x::xs.set n a:=List.set_cons_succ ..
theorem aD (n:Nat) {P:Program} {ops:Array Oper} {rest:List Oper} {op:Oper} {a:Act} {w:World} {Q:Exit→Act→World→Prop} (h:wpList P ops Q (op::rest) a w) (hd:op.dst=some n:=by rfl):wpList P ops Q (op::rest) a w:=h
theorem aN (h:wpList P ops Q (op::rest) a w) (hd:op.dst=none:=by rfl):wpList P ops Q (op::rest) a w:=h
theorem aR {md:Region.Mode} (i:Nat) {oi:Oper} {fuel:Nat} {listed:Array Bool} {a:Act} {w:World} (h:∀K':Act→World→Prop,Shut (∀a w,S w→wpAnyH P md ops Q S fuel (listed.setIfInBounds i true) a w→K' a w)→oi.wp P a w K' Q) (hi:ops.toList[i]? = some oi:=by rfl) (hr:Region.ready md ops listed=[i]:=by kernel_rfl) (hw:Region.wanted oi (yielded ops a.tmps)=true:=by rfl):wpAnyH P md ops Q S (fuel+1) listed a w:=Yd i hi hr hw h
theorem aP {md:Region.Mode} (i:Nat) {oi:Oper} {fuel:Nat} {listed:Array Bool} {a a':Act} {w:World} (hS:S w) (h:wpAnyH P md ops Q S fuel (listed.setIfInBounds i true) a' w) (hi:ops.toList[i]? = some oi:=by rfl) (hw:Region.wanted oi (yielded ops a.tmps)=false:=by rfl) (hs:Region.noSelect ops=true:=by kernel_rfl) (hf:Region.free md ops listed i=true:=by kernel_rfl) (hr:(Region.ready md ops listed).contains i=true:=by kernel_rfl) (hQ:∀c a w,Q (.panic c) (a.put oi.dst undef) w→Q (.panic c) a w:=by exact fun _ _ _ h=>h) (ha:a.put oi.dst undef=a':=by first | (simp only [Act.put,List.setIfInBounds_toArray,List.set_cons_zero,List.set_cons_succ];rfl) | rfl):wpAnyH P md ops Q S (fuel+1) listed a w:=by
 subst ha
 exact Yc i hi hw hs hf hr hQ hS h
inductive Tk (P:Program) (ops:Array Oper) (Q:Exit→Act→World→Prop) (md:Region.Mode) (S:World→Prop):Nat→Array Bool→Act→List Nat→Nat→Array Bool→Act→Prop
 | nil {f:Nat} {l:Array Bool} {a:Act}:Tk P ops Q md S f l a [] f l a
 | cons {f f' i:Nat} {l l':Array Bool} {a a1 a':Act} {is:List Nat} {oi:Oper} {v:Value} (hi:ops.toList[i]? = some oi) (hw:Region.wanted oi (yielded ops a.tmps)=true) (hf:Region.free md ops l i=true) (hr:(Region.ready md ops l).contains i=true) (hQ:∀c a w,Q (.panic c) (a.put oi.dst v) w→Q (.panic c) a w) (hy:∀w,S w→(execOp a.eval oi).run P w=.ok (.value v) w) (ha:a.put oi.dst v=a1) (h:Tk P ops Q md S f (l.setIfInBounds i true) a1 is f' l' a'):Tk P ops Q md S (f+1) l a (i::is) f' l' a'
theorem Tk.go {md:Region.Mode} {f f':Nat} {l l':Array Bool} {a':Act} {is:List Nat} (hs:Region.noSelect ops=true) (hS:S w) (h:Tk P ops Q md S f l a is f' l' a') (k:wpAnyH P md ops Q S f' l' a' w):wpAnyH P md ops Q S f l a w:=by
 induction h with
 | nil=>exact k
 | cons hi hw hf hr hQ hy ha _ ih=>
  subst ha
  exact K_ _ hi hw hs hf hr hQ hS hy (ih k)
theorem tc {p:Prop} (h:p:=by first | exact .nil | exact .cons bn bn aW aW XP X0 XU tc):p:=h
theorem tk {md:Region.Mode} {f f':Nat} {l l':Array Bool} {a a':Act} (is:List Nat) {w:World} (hS:S w) (k:wpAnyH P md ops Q S f' l' a' w) (hs:Region.noSelect ops=true:=by kernel_rfl) (h:Tk P ops Q md S f l a is f' l' a':=by exact tc):wpAnyH P md ops Q S f l a w:=Tk.go hs hS h k
end Go.Proofs.YtofhdhgfcomhiaaGreat
