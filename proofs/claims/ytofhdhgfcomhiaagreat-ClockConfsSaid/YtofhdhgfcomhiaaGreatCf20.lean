/- Of what laws of the clock want, part 20: ClkAnn ClkDcP ClkOwn9 (mini.py). -/
import Derived.Test.YtofhdhgfcomhiaaGreatCf19
namespace Go.Proofs.YtofhdhgfcomhiaaGreat
open Go.RowKit Go.Proofs
set_option maxRecDepth 100000
set_option maxHeartbeats 100000000
set_option linter.unusedVariables false
set_option linter.unusedSimpArgs false
open Tryz
variable {B:Nat} {P:Program} {Q:Exit→Act→World→Prop} {S:World→Prop} {a:Act} {b:Nat} {base:Nat} {cap:Nat} {fuel:Nat} {g:Nat} {h:Nat} {i:Nat} {l:List UInt8} {listed:Array Bool} {n:Nat} {now:Int} {o:Oper} {oi:Oper} {op:Oper} {ops:Array Oper} {p:Prop} {rest:List Oper} {t:TypeId} {v:Value} {w:World} {w':World} {xs:List Value} {α:Type}
section
variable {w:World} {g:Nat} {hs:List Nat} {sv fl:Nat} {bs:List PL} {F:Nat→Prop} {k:Kz} {i h:Nat} {b:PL} {p:Pt}
def yB:RowK Int:=⟨fun z=>[.int .u64 z],1,by decide,fun _=>rfl,by
 intro z v hv
 simp only [List.mem_cons,List.not_mem_nil,or_false] at hv
 subst hv
 rfl⟩
theorem uq:∀l:List Int,yB.cells l=bZ l
 | []=>rfl
 | z::l=>by
  have h:=uq l
  show yB.enc z++yB.cells l=_
  rw [h]
  rfl
theorem vL {l:List Int} (h:kL w B v l):yB.Own 22 w B v l:=by unfold RowK.Own;rw [uq];exact h
theorem GX {l:List Int} (h:yB.Own 22 w B v l):kL w B v l:=by unfold RowK.Own at h;rw [uq] at h;exact h
theorem vK (W:World) (z:Int) {B:Nat} (hB:B≤W.heap.size):yB.Own 22 (W.alloc (Obj.cells (yB.enc z).toArray 22)) B (.slice (some ⟨W.heap.size,0,none⟩) 1 1) [z]:=by
 refine ⟨by rfl,.inr ⟨W.heap.size,1,(yB.enc z).toArray,rfl,hB,heap_alloc_new W _,Nat.le_refl _,by unfold maxLen;omega,by rfl,?_⟩⟩;have h:yB.cells [z]=yB.enc z:=by exact tF
 rw [h];exact List.take_of_length_le (by rw [yB.len];exact Nat.le_refl _)
theorem Af (z:Int) (w:World):(Instr.buildSlice 151 1 #[(0,.int .u64 z)]).run prog w=.ok (.slice (some ⟨w.heap.size,0,none⟩) 1 1) (w.alloc (Obj.cells (yB.enc z).toArray 22)):=by kernel_rfl
theorem Ka {X F:Nat→World→Value→Value→Value→Prop} {G:Prop} (hmain:(∀g w a b c,F g w a b c→X g w a b c)→G) (hrest:∀g w a b c,F g w a b c→X g w a b c):G:=hmain hrest
def pI:RowK T2:=⟨fun q=>[.int .i64 q.1,.string ⟨q.2.toArray⟩],2,by decide,fun _=>rfl,by
 intro q v hv
 simp only [List.mem_cons,List.not_mem_nil,or_false] at hv
 rcases hv with rfl | rfl <;> rfl⟩
theorem tvT:dB pI 187:=⟨⟨_,underlying187,rfl⟩,by kernel_rfl⟩
def fA:T2:=(0,[])
theorem VH (q:T2) (w:World):(Instr.buildSlice 57 1 #[(0,.agg (pI.enc q).toArray)]).run prog w=.ok (.slice (some ⟨w.heap.size,0,none⟩) 1 1) (w.alloc (Obj.cells (pI.enc q).toArray 187)):=by kernel_rfl
theorem NP (zs:List Int):(kF zs).1.2.length≤300:=by
 unfold kF;split
 ·have hl:=ni zs;show (fQ zs).length≤300;omega
 ·exact Nat.zero_le _
theorem ak.rows {x:Nat} {t':TypeId} {G:Nat→Prop} (X:ak w x xs t) (hc:bW G w w') (hG:∀n,G n→Ty w n t') (ht:t≠t'):ak w' x xs t:=X.same (hc.block x X.lt fun hg=>ht (X.ty.one (hG x hg)))
section
variable {P:Program} {ops:Array Oper} {Q:Exit→Act→World→Prop} {md:Region.Mode} {S:World→Prop} {z:Nat}
theorem VI (i j l:Nat) {oi oj ol:Oper} {fuel:Nat} {listed:Array Bool} {a:Act} {w:World} (hi:ops.toList[i]? = some oi) (hj:ops.toList[j]? = some oj) (hl:ops.toList[l]? = some ol) (hr:Region.ready md ops listed=[i,j,l]) (hwi:Region.wanted oi (yielded ops a.tmps)=true) (XC:Region.wanted oj (yielded ops a.tmps)=true) (hwl:Region.wanted ol (yielded ops a.tmps)=true) (h1:∀K':Act→World→Prop,Shut (∀a w,S w→Az P md ops Q S z fuel (listed.setIfInBounds i true) a w→K' a w)→oi.wp P a w K' Q) (h2:∀K':Act→World→Prop,Shut (∀a w,S w→Az P md ops Q S z fuel (listed.setIfInBounds j true) a w→K' a w)→oj.wp P a w K' Q) (h3:∀K':Act→World→Prop,Shut (∀a w,S w→Az P md ops Q S z fuel (listed.setIfInBounds l true) a w→K' a w)→ol.wp P a w K' Q):Az P md ops Q S z (fuel+1) listed a w:=by
 refine ⟨⟨fun h0=>Pj,fun n hn=>?_⟩⟩;rw [hr] at hn;rcases List.mem_cons.1 hn with rfl | hn
 ·exact XA
 ·rcases List.mem_cons.1 hn with rfl | hn
  ·exact XB
  ·obtain rfl:=List.mem_singleton.1 hn;unfold wpOp;have hl':ops[n]? = some ol:=by rw [←Array.getElem?_toList];exact hl
   simp only [hl',hwl,if_true];exact .inl (h3 _ (fun a w hS hA=>⟨.inr hS,hA.out⟩))
end
theorem Cm (L:Lay w g hs sv fl bs F (aO k i p)) (H:Hand k hs bs i h b) {s B:Nat} {now:Int} {os:List Ot} (A:aY w s B g now os) (hBw:B≤w.heap.size) {n:Nat} (hI:eD (aO k i p) n) (hi:i<8) (hos:os.length≤1000):Calls prog 118 #[.pointer (some ⟨s,0,none⟩),.pointer (some ⟨h,0,none⟩)] w fun e w'=>e=.returned (.tuple #[])∧Lay w' g hs sv fl bs F (aO k i ({ p with na:=bR p.na }))∧aY w' s B g now (os++iY i (wR k.c k.pa ((i:Int)+1) p.na) (jr (aO k i p)) false)∧dx B (aK g F) w w':=by
 have hin:bN p:=hI.at (mE H.hi p);have hmd:iB (wR k.c k.pa ((i:Int)+1) p.na):=Rt hI.cf hI.cl hI.pa hi hin.na;have hfit:=J_ hmd (aO k i p);obtain ⟨htl,htz⟩:=J8 hI;have hcl:=hI.cl;have hlen:=hI.len;obtain ⟨TR,hTR⟩:∃TR,eG (aO k i p)=TR:=⟨_,rfl⟩;obtain ⟨m,hm⟩:∃m,wR k.c k.pa ((i:Int)+1) p.na=m:=⟨_,rfl⟩;obtain ⟨l,hl⟩:∃l,jr (aO k i p)=l:=⟨_,rfl⟩;obtain ⟨E,hE⟩:∃E,k.c.tr=E:=⟨_,rfl⟩;obtain ⟨T,hT⟩:∃T,kF (TR++[k.c.cl])=T:=⟨_,rfl⟩;have h300:=NP (TR++[k.c.cl]);have Ru:=VE k.c k.pa ((i:Int)+1) p.na;have hty:m.1.ty=11:=by rw [←hm];rfl
 have hzs:∀z ∈ TR++[k.c.cl],0≤z∧z<18446744073709551616:=fun z hz=>by
  rcases List.mem_append.1 hz with h | h
  ·exact htz z (by rw [hTR];exact h)
  ·rw [List.mem_singleton.1 h];exact hcl
 rw [hTR] at htl;rw [hm] at Ru hmd hfit ⊢;have hl2:jr (aO k i p)=if (E && T.2)=true then [T.1] else []:=by unfold jr;rw [hTR];show (if (k.c.tr && (kF (TR++[k.c.cl])).2)=true then [(kF (TR++[k.c.cl])).1] else [])=_;rw [hE,hT]
 rw [hl2] at hl;rw [hl2,hl] at hfit;rw [hl2,hl];rw [hT] at h300;clear hl2 htz hcl;obtain ⟨T,PB⟩:=T;replace hm:=hid hm;replace hl:=hid hl;replace hE:=hid hE;replace hT:=hid hT;replace hTR:=hid hTR;replace hfit:=hid hfit;have vv:=hid hBw;have L0:=L;have A0:=A;have Q:bW (aK g F) w w:=bW.refl _ w;obtain ⟨Cv,ov,hS,oA⟩:=A;have A:aY w s B g now os:=⟨Cv,ov,hS,oA⟩;clear oA;have cs:=hS.cell 0 _ rfl;go_enter func118,ntmps118;go_wp2;refine yV (fun _ _ d _ _ h=>by cases d <;> exact h) ?_;intro Q' hret hgo ZE nL;go_upto_region 1 with fail;clear cs Cv hS;have hbd:=Below.drew (Below.refl w.heap.size w);replace L:=L.below hbd;replace A:=A.below hbd;replace Q:=Q.bel hbd;refine eU (S:=fun w'=>Below w.drew.heap.size w.drew w') (z:=19) aW ?_;have hHeld:=Below.refl w.drew.heap.size w.drew;generalize w.drew=wd at *;clear hbd;have d0:∀wx,Below wd.heap.size wd wx→wx.rangeAt g 0 (bT.enc k.c):=fun wx hx=>ak.bB [] (bT.enc k.c) _ (L.below hx).box;have d1:∀wx,Below wd.heap.size wd wx→wx.rangeAt g 33 (j4.enc k.pa):=fun wx hx=>ak.bB ((fI hs sv fl (aO k i p)).take 33) (j4.enc k.pa) ((fI hs sv fl (aO k i p)).drop 45) (L.below hx).box;have d2:∀wx,Below wd.heap.size wd wx→wx.cell? ⟨h,1,none⟩=some (.int .i64 ((i:Int)+1)):=fun wx hx=>(L.below hx).pc H 1 _ (fun _=>rfl);have d3:∀wx,Below wd.heap.size wd wx→wx.cell? ⟨h,10,none⟩=some (.int .i64 p.na):=fun wx hx=>(L.below hx).pc H 10 _ (fun _=>rfl);apply Eb (F:=fun gy wy=>wd.heap.size≤gy∧Below wd.heap.size wd wy∧ak wy gy (eu.enc m) 56)
 ·intro hrest;refine tz [0,1,2] hHeld ?_;refine zp 3 nL hHeld ?_ (hy:=fun wx hwx=>lJ.exec (.tmp 15) rfl g 0 rfl k.c (d0 wx hwx));refine tz [4,5,6] hHeld ?_;refine zp 7 nL hHeld ?_ (hy:=fun wx hwx=>xV.exec (.tmp 19) rfl g 33 rfl k.pa (d1 wx hwx));refine tz [8,9,10,11,12,13,14,15,16] hHeld ?_;refine yF 17 18 rfl rfl aW bn bn (fun K' hK=>?_) (fun K' hK=>?_)
  ·go_simp;refine (Ru wd).mono ?_;rintro e wc ⟨rfl,bc⟩;replace hHeld:=hHeld.trans (bc.mono hHeld.size);refine hK _ _ hHeld ?_;clear hK K';try simp only [Act.put,zI,bG,zS]
   refine aZ 18 fun K' hK=>?_;go_simp;have z2:=aA wc (Obj.cells (eu.enc bO).toArray 56);have eF:=ak.new wc (eu.enc bO) 56;have hge:=hHeld.size;replace hHeld:=hHeld.trans (z2.mono hge);refine hK _ (wc.alloc (Obj.cells (eu.enc bO).toArray 56)) hHeld ?_;clear hK K' z2;try simp only [Act.put,zI,bG,zS]
   generalize wc.alloc (Obj.cells (eu.enc bO).toArray 56)=wa at *;refine aE 19 fun K' hK=>?_;refine zi.dS (.tmp 5) (.tmp 30) rfl wc.heap.size m bO _ rfl rfl eF ?_;have h3:=below_setRow hHeld hge (eu.enc m).toArray;refine hK _ _ ?_;clear hK K';have h4:=eF.fB (eu.enc m);generalize World.setRow _ _ _=wz at h3 h4 ⊢;obtain ⟨gz,hgz⟩:∃gz,wc.heap.size=gz:=⟨_,rfl⟩;rw [hgz] at h4 ⊢;exact hrest gz wz ⟨by omega,h3,h4⟩
  ·go_simp;have z2:=aA wd (Obj.cells (eu.enc bO).toArray 56);have eF:=ak.new wd (eu.enc bO) 56;have hge:=hHeld.size;replace hHeld:=hHeld.trans (z2.mono hge);refine hK _ (wd.alloc (Obj.cells (eu.enc bO).toArray 56)) hHeld ?_;clear hK K' z2;try simp only [Act.put,zI,bG,zS]
   generalize wd.alloc (Obj.cells (eu.enc bO).toArray 56)=wa at *;refine aZ 17 fun K' hK=>?_;go_simp;refine (Ru wa).mono ?_;rintro e wc ⟨rfl,bc⟩;replace hHeld:=hHeld.trans (bc.mono hHeld.size);replace eF:=eF.below bc;refine hK _ _ hHeld ?_;clear hK K';try simp only [Act.put,zI,bG,zS]
   refine aE 19 fun K' hK=>?_;refine zi.dS (.tmp 5) (.tmp 30) rfl wd.heap.size m bO _ rfl rfl eF ?_;have h3:=below_setRow hHeld hge (eu.enc m).toArray;refine hK _ _ ?_;clear hK K';have h4:=eF.fB (eu.enc m);generalize World.setRow _ _ _=wz at h3 h4 ⊢;obtain ⟨gz,hgz⟩:∃gz,wd.heap.size=gz:=⟨_,rfl⟩;rw [hgz] at h4 ⊢;exact hrest gz wz ⟨by omega,h3,h4⟩
 rintro gy wy ⟨kW,hby,hY⟩;replace L:=L.below hby;replace A:=A.below hby;replace Q:=Q.bel hby;clear d0 d1 d2 d3 kW hby Ru;obtain ⟨gm,hgm⟩:∃gm,gm=gy:=⟨_,rfl⟩;subst hgm;have hM:=hY;clear hY;have k22:=L.kc 22 (.bool E) (by show some (Value.bool k.c.tr)=_;rw [hE.out]);cases E
 ·have e0:([]:List T2)=l:=by rw [←hl.out];rfl
  go_wp2_with fail;go_step3;refine hgo 0 _ _ _ rfl ?_;have RM:=hM.b_;go_wp2_with (refine aD 57 ?_;refine zi.aL gm 0 m RM ?_);refine (nC L H A (Nat.le_trans vv.out Q.size) hin m [] (.slice none 0 0) false hmd.2 (kD.nil _) (Nat.zero_le _) (fun q hq=>absurd hq (List.not_mem_nil)) hos).mono ?_;rintro e w5 ⟨rfl,L5,A5,Q5⟩;go_wp2_with fail;rw [Exit.noGoto_normal];exact Tx
 go_upto_region 4 with fail;clear k22;have hbd:=Below.drew (Below.refl wy.heap.size wy);replace L:=L.below hbd;replace A:=A.below hbd;replace Q:=Q.bel hbd;replace hM:=hM.below hbd;refine eU (S:=fun w'=>Below wy.drew.heap.size wy.drew w') (z:=15) aW ?_;have hHeld:=Below.refl wy.drew.heap.size wy.drew;generalize wy.drew=wd at *;clear hbd;have d0:∀wx,Below wd.heap.size wd wx→wx.cell? ⟨g,0,none⟩=some (.int .u64 k.c.cl):=fun wx hx=>(L.below hx).kc 0 _ rfl;apply Ka (F:=fun gy wy _ _ _=>wd.heap.size≤gy∧Below wd.heap.size wd wy∧ak wy gy (pI.enc T) 187)
 ·intro hrest;refine tz [0,2,3,4,5,6] hHeld ?_;refine VI 1 7 13 rfl rfl  rfl aW bn bn bn  (fun K' hK=>?_) (fun K' hK=>?_) (fun K' hK=>?_)
  ·go_simp;refine (rF (L.below hHeld) hlen).mono ?_;rintro e u1 ⟨Wj,rfl,oP,b1⟩;rw [hTR.out] at oP;replace oP:=vL (oP.mono hHeld.size);replace hHeld:=hHeld.trans (b1.mono hHeld.size);clear b1;refine hK _ _ hHeld ?_;clear hK K';try simp only [Act.put,zI,bG,zS]
   refine yF 7 13 rfl  rfl aW bn bn  (fun K' hK=>?_) (fun K' hK=>?_)
   ·have b1:=aA u1 (Obj.cells (yB.enc k.c.cl).toArray 22);have qI:=vK u1 k.c.cl hHeld.size;refine wm 151 1 #[(0,.tmp 44)] rfl #[(0,.int .u64 k.c.cl)] aW _ _ (Af k.c.cl u1) ?_;replace oP:=oP.below b1;replace hHeld:=hHeld.trans (b1.mono hHeld.size);clear b1;refine hK _ _ hHeld ?_;clear hK K';try simp only [Act.put,zI,bG,zS]
    generalize Value.slice (some ⟨u1.heap.size,0,none⟩) 1 1=lv at *;generalize u1.alloc (Obj.cells (yB.enc k.c.cl).toArray 22)=u2 at *;exact mq4
   ·go_simp;have b1:=aA u1 (Obj.cells (pI.enc fA).toArray 187);have eF:=ak.new u1 (pI.enc fA) 187;have hge:=hHeld.size;replace oP:=oP.below b1;replace hHeld:=hHeld.trans (b1.mono hHeld.size);clear b1;refine hK _ (u1.alloc (Obj.cells (pI.enc fA).toArray 187)) hHeld ?_;clear hK K';try simp only [Act.put,zI,bG,zS]
    obtain ⟨gy,kW⟩:∃gy,u1.heap.size=gy:=⟨_,rfl⟩;rw [show (Value.pointer (some ⟨u1.heap.size,0,none⟩))=Value.pointer (some ⟨gy,0,none⟩) by rw [kW]];rw [kW] at eF;replace hge:wd.heap.size≤gy:=by omega
    clear kW;generalize u1.alloc (Obj.cells (pI.enc fA).toArray 187)=u2 at *;exact Xf
  ·have b1:=aA wd (Obj.cells (yB.enc k.c.cl).toArray 22);have qI:=vK wd k.c.cl hHeld.size;refine wm 151 1 #[(0,.tmp 44)] rfl #[(0,.int .u64 k.c.cl)] aW _ _ (Af k.c.cl wd) ?_;replace hHeld:=hHeld.trans (b1.mono hHeld.size);clear b1;refine hK _ _ hHeld ?_;clear hK K';try simp only [Act.put,zI,bG,zS]
   generalize Value.slice (some ⟨wd.heap.size,0,none⟩) 1 1=lv at *;generalize wd.alloc (Obj.cells (yB.enc k.c.cl).toArray 22)=u1 at *;refine yF 1 13 rfl  rfl aW bn bn  (fun K' hK=>?_) (fun K' hK=>?_)
   ·go_simp;refine (rF (L.below hHeld) hlen).mono ?_;rintro e u2 ⟨Wj,rfl,oP,b1⟩;rw [hTR.out] at oP;replace oP:=vL (oP.mono hHeld.size);replace qI:=qI.below b1;replace hHeld:=hHeld.trans (b1.mono hHeld.size);clear b1;refine hK _ _ hHeld ?_;clear hK K';try simp only [Act.put,zI,bG,zS]
    exact mq4
   ·go_simp;have b1:=aA u1 (Obj.cells (pI.enc fA).toArray 187);have eF:=ak.new u1 (pI.enc fA) 187;have hge:=hHeld.size;replace qI:=qI.below b1;replace hHeld:=hHeld.trans (b1.mono hHeld.size);clear b1;refine hK _ (u1.alloc (Obj.cells (pI.enc fA).toArray 187)) hHeld ?_;clear hK K';try simp only [Act.put,zI,bG,zS]
    obtain ⟨gy,kW⟩:∃gy,u1.heap.size=gy:=⟨_,rfl⟩;rw [show (Value.pointer (some ⟨u1.heap.size,0,none⟩))=Value.pointer (some ⟨gy,0,none⟩) by rw [kW]];rw [kW] at eF;replace hge:wd.heap.size≤gy:=by omega
    clear kW;generalize u1.alloc (Obj.cells (pI.enc fA).toArray 187)=u2 at *;exact Xh
  ·go_simp;have b1:=aA wd (Obj.cells (pI.enc fA).toArray 187);have eF:=ak.new wd (pI.enc fA) 187;have hge:=hHeld.size;replace hHeld:=hHeld.trans (b1.mono hHeld.size);clear b1;refine hK _ (wd.alloc (Obj.cells (pI.enc fA).toArray 187)) hHeld ?_;clear hK K';try simp only [Act.put,zI,bG,zS]
   obtain ⟨gy,kW⟩:∃gy,wd.heap.size=gy:=⟨_,rfl⟩;rw [show (Value.pointer (some ⟨wd.heap.size,0,none⟩))=Value.pointer (some ⟨gy,0,none⟩) by rw [kW]];rw [kW] at eF;replace hge:wd.heap.size≤gy:=by omega
   clear kW;generalize wd.alloc (Obj.cells (pI.enc fA).toArray 187)=u1 at *;refine yF 1 7 rfl  rfl aW bn bn  (fun K' hK=>?_) (fun K' hK=>?_)
   ·go_simp;refine (rF (L.below hHeld) hlen).mono ?_;rintro e u2 ⟨Wj,rfl,oP,b1⟩;rw [hTR.out] at oP;replace oP:=vL (oP.mono hHeld.size);replace eF:=eF.below b1;replace hHeld:=hHeld.trans (b1.mono hHeld.size);clear b1;refine hK _ _ hHeld ?_;clear hK K';try simp only [Act.put,zI,bG,zS]
    exact Xf
   ·have b1:=aA u1 (Obj.cells (yB.enc k.c.cl).toArray 22);have qI:=vK u1 k.c.cl hHeld.size;refine wm 151 1 #[(0,.tmp 44)] rfl #[(0,.int .u64 k.c.cl)] aW _ _ (Af k.c.cl u1) ?_;replace eF:=eF.below b1;replace hHeld:=hHeld.trans (b1.mono hHeld.size);clear b1;refine hK _ _ hHeld ?_;clear hK K';try simp only [Act.put,zI,bG,zS]
    generalize Value.slice (some ⟨u1.heap.size,0,none⟩) 1 1=lv at *;generalize u1.alloc (Obj.cells (yB.enc k.c.cl).toArray 22)=u2 at *;exact Xh
 rintro gt wt x1 x2 x3 ⟨hgt,hbt,Wm⟩;replace L:=L.below hbt;replace A:=A.below hbt;replace Q:=Q.bel hbt;replace hM:=hM.below hbt;clear d0 hgt hbt;cases PB
 ·have e0:([]:List T2)=l:=by rw [←hl.out];rfl
  go_wp2_with fail;refine wp_label ?_;have RM:=hM.b_;go_wp2_with (refine aD 57 ?_;refine zi.aL gm 0 m RM ?_);refine (nC L H A (Nat.le_trans vv.out Q.size) hin m [] (.slice none 0 0) false hmd.2 (kD.nil _) (Nat.zero_le _) (fun q hq=>absurd hq (List.not_mem_nil)) hos).mono ?_;rintro e w5 ⟨rfl,L5,A5,Q5⟩;go_wp2_with fail;refine ZE _ _ ?_;exact Tx
 ·have e0:[T]=l:=by rw [←hl.out];rfl
  have RT4:=Wm.b_;have z1:=aA wt (Obj.cells (pI.enc T).toArray 187);have hX1:kD (wt.alloc (Obj.cells (pI.enc T).toArray 187)) (.slice (some ⟨wt.heap.size,0,none⟩) 1 1) [T]:=Mv wt T;have hn0:ou (wt.alloc (Obj.cells (pI.enc T).toArray 187)) wt.heap.size (.slice none 0 0) []:=ou.nil _ _;have hs1:=z1.size;go_wp2_with (first | (refine aD 52 ?_;refine tvT.aL gt 0 T RT4 ?_) | (refine aD 53 ?_;refine aI #[(0,.agg (pI.enc (T)).toArray)] (VH T _) ?_) | (at_builtin;refine qR (o:=⟨some 54,_,_,_,_,_⟩) rfl _ _ rfl rfl wt.heap.size _ _ [] [T] rfl rfl hn0 hX1 (by simp) hs1 ?_;intro v8 w8 oT8 b8));rw [List.nil_append] at oT8;have OU:=z1.trans b8;replace L:=L.below OU;replace A:=A.below OU;replace Q:=Q.bel OU;replace hM:=hM.below OU;clear z1 hX1 hn0 hs1 b8 OU RT4;refine wp_label ?_;have RM:=hM.b_;go_wp2_with (refine aD 57 ?_;refine zi.aL gm 0 m RM ?_);refine (nC L H A (Nat.le_trans vv.out Q.size) hin m [T] v8 false hmd.2 oT8.tlvs (by simp) (fun q hq=>by rw [List.mem_singleton.1 hq];omega) hos).mono ?_;rintro e w5 ⟨rfl,L5,A5,Q5⟩;go_wp2_with fail;refine ZE _ _ ?_;exact Tx
end
section
section
variable {α:Type} {f:Nat→α} {d:α} {i j n:Nat}
def jw (f:Nat→α) (d:α) (j:Nat):List α:=(List.range 8).map fun i=>if i<j then f i else d
theorem dG:(jw f d j).length=8:=by simp [jw]
theorem j5 (hi:i<8):(jw f d j)[i]? = some (if i<j then f i else d):=by unfold jw;rw [List.getElem?_map,List.getElem?_range hi];rfl
theorem uw:jw f d 0=List.replicate 8 d:=by unfold jw;simp only [Nat.not_lt_zero,if_false];rfl
theorem uy (hj:j<8):jw f d (j+1)=(jw f d j).set j (f j):=by
 refine List.ext_getElem? fun i=>?_;by_cases hi:i<8
 ·rw [j5 hi];by_cases e:j=i
  ·subst e;rw [List.getElem?_set_self (by rw [dG];exact hj),if_pos (Nat.lt_succ_self _)]
  ·rw [List.getElem?_set_ne e,j5 hi];congr 1;by_cases h:i<j
   ·rw [if_pos h,if_pos aJ]
   ·rw [if_neg h,if_neg aJ]
 ·rw [List.getElem?_eq_none Pm,List.getElem?_eq_none (by rw [List.length_set,dG];omega)]
theorem mH (hj:f j=d):jw f d (j+1)=jw f d j:=by
 unfold jw;refine List.map_congr_left fun i _=>?_;by_cases h:i<j
 ·rw [if_pos h,if_pos aJ]
 ·rw [if_neg h];by_cases e:i=j
  ·subst e;rw [if_pos (Nat.lt_succ_self _)];exact hj
  ·rw [if_neg aJ]
theorem Kc (h8:n≤8) {l:List α} (hl:l.length=n) (hf:∀i,i<n→l[i]? = some (f i)):(jw f d n).take n=l:=by
 refine List.ext_getElem? fun i=>?_;by_cases hi:i<n
 ·rw [List.getElem?_take_of_lt hi,j5 aJ,if_pos hi,hf i hi]
 ·rw [List.getElem?_eq_none (by rw [List.length_take,dG];omega),List.getElem?_eq_none aJ]
end
section
variable {α:Type} {K:RowK α} {w:World} {g:Nat} {l:List α} {t:TypeId} {j n:Nat}
theorem uz (hj:j<l.length):K.cells l=K.cells (l.take j)++K.enc l[j]++K.cells (l.drop (j+1)):=by
 have e:l=l.take j++[l[j]]++l.drop (j+1):=by rw [List.append_assoc,List.singleton_append,←List.drop_eq_getElem_cons hj,List.take_append_drop]
 have h1:K.cells [l[j]]=K.enc l[j]:=by exact tF
 rw [←h1,←RowK.dY,←RowK.dY,←e]
theorem uD (h:ak w g (K.cells l) t) (hj:j<l.length):w.rangeAt g (j*K.n) (K.enc l[j]):=by rw [uz hj] at h;have h2:=ak.bB _ _ _ h;rw [RowK.aQ,List.length_take,Nat.min_eq_left (Nat.le_of_lt hj)] at h2;exact h2
theorem Iw (h:ak w g (K.cells l) t) (hj:j<l.length) (x:α):ak (w.setCells g (j*K.n) (K.enc x)) g (K.cells (l.set j x)) t:=by
 have hj':j<(l.set j x).length:=by rw [List.length_set];exact hj
 rw [uz hj] at h;have h2:=ak.mid (K.enc x) (K.enc l[j]) _ _ w (by rw [K.len,K.len]) h;rw [RowK.aQ,List.length_take,Nat.min_eq_left (Nat.le_of_lt hj)] at h2;rw [uz hj',List.take_set_of_le (Nat.le_refl _),List.getElem_set_self,List.drop_set_of_lt (Nat.lt_succ_self _)];exact h2
theorem Eh (h:ak w g (K.cells l) t) (hj:j<l.length) (h1:K.n=1) (x:α) (v:Value) (hv:K.enc x=[v]):ak (w.setCell ⟨g,j,none⟩ v) g (K.cells (l.set j x)) t:=by have h2:=Iw h hj x;rw [hv,h1,Nat.mul_one] at h2;exact h2
theorem zX (h:ak w g (K.cells l) t) (hn:n≤l.length) (hl:l.length≤100):K.Reads w (.slice (some ⟨g,0,none⟩) n l.length) (l.take n):=by
 have hlen:(l.take n).length=n:=by rw [List.length_take];omega
 refine ⟨some ⟨g,0,none⟩,l.length,by rw [hlen],by rw [hlen];exact hn,by unfold maxLen;omega,.inr ⟨g,0,rfl,h.lt,fun i v hi=>?_⟩⟩;rw [Nat.zero_add];refine h.cell i v ?_;rw [←RowK.mV] at hi;have hlt:=(List.getElem?_eq_some_iff.1 hi).1;rw [List.length_take] at hlt;rw [List.getElem?_take_of_lt aJ] at hi;exact hi
end
def qF (k:Kz) (i:Nat):Option Rc:=(k.ls[i]?).bind (iP k.tk)
def uE (k:Kz) (i:Nat):Rc:=(qF k i).getD au
def hAt (k:Kz) (gB i:Nat):Option Addr:=(qF k i).map fun _=>⟨gB,i*17,none⟩
def SK (k:Kz) (i:Nat):Bool:=((k.ls[i]?).map fun p=>dD p.st && p.st == 4).getD false
section
variable {k:Kz} {i j:Nat} {p:Pt}
theorem sO (h:k.ls[i]? = some p):qF k i=iP k.tk p:=by unfold qF;rw [h];rfl
theorem NQ (h:k.ls[i]? = some p):SK k i=(dD p.st && p.st == 4):=by unfold SK;rw [h];rfl
def Gu (k:Kz):List Bool:=k.ls.map fun p=>dD p.st && p.st == 4
def q8 (k:Kz):List (Option Vc):=k.ls.map fun p=>(iP k.tk p).map Rc.v
theorem Rv (k:Kz) (h8:k.ls.length≤8):gI k=l5 (Am k.c) (Gu k) ((q8 k).take 8):=by rw [List.take_of_length_le (by unfold q8;rw [List.length_map];exact h8)];rfl
theorem NR (ha:(gI k)[i]? = some 6) (hb:(gI k)[j]? = some 6):i=j:=by
 have h:∀i:Nat,(gI k)[i]? = some 6→(i:Int)=bE (q8 k) (q8 k).length:=fun i hi=>by obtain ⟨hl,he⟩:=List.getElem?_eq_some_iff.1 hi;have h2:=C9 (Am k.c) (Gu k) (q8 k) i hl;exact of_decide_eq_true (Lp (h2.symm.trans he)).1
 have h1:=h i ha;have h2:=h j hb;omega
def Rw (a:Pa) (x:Int×Option Rc):Pa:=if x.1=6 then FC x.2 else a
theorem uF:∀(l:List (Int×Option Rc)) (a:Pa),(∀x ∈ l,x.1≠6)→l.foldl Rw a=a
 | [],_,_=>rfl
 | x::l,a,h=>by
  rw [List.foldl_cons,show Rw a x=a from if_neg (h x List.mem_cons_self)]
  exact uF l a fun y hy=>h y (List.mem_cons_of_mem _ hy)
theorem NS {l:List (Int×Option Rc)} {a:Pa} {x:Int×Option Rc} (hi:l[i]? = some x) (h6:x.1=6) (hn:∀j y,l[j]? = some y→y.1=6→j=i):l.foldl Rw a=FC x.2:=by
 obtain ⟨hl,he⟩:=List.getElem?_eq_some_iff.1 hi;have e:l=l.take i++x::l.drop (i+1):=by rw [←he,←List.drop_eq_getElem_cons hl,List.take_append_drop]
 rw [e,List.foldl_append,List.foldl_cons]
 rw [uF (l.drop (i+1)) _ fun y hy h=>by
  obtain ⟨m,hm⟩:=List.mem_iff_getElem?.1 hy
  rw [List.getElem?_drop] at hm
  have:=hn _ _ hm h
  omega]
 exact if_pos h6
theorem zY (k:Kz):qW k=((gI k).zip (k.ls.map (iP k.tk))).foldl Rw (eH k.c):=rfl
theorem Iy (k:Kz) (h8:k.ls.length≤8) (j:Nat) (y:Int×Option Rc) (h:((gI k).zip (k.ls.map (iP k.tk)))[j]? = some y):(gI k)[j]? = some y.1∧qF k j=y.2:=by
 rw [List.getElem?_zip_eq_some] at h;refine ⟨h.1,?_⟩;have h2:=h.2;rw [List.getElem?_map] at h2;unfold qF;cases hp:k.ls[j]? with
 | none=>rw [hp] at h2;cases h2
 | some p=>rw [hp] at h2;exact Option.some.inj h2
theorem Rx (h8:k.ls.length≤8) (h:(gI k)[i]? = some 6):qW k=vD (uE k i).v ⟨(uE k i).ut,(uE k i).fl,(uE k i).og⟩:=by
 have hl:i<k.ls.length:=by have:=(List.getElem?_eq_some_iff.1 h).1;rwa [oH] at this
 obtain ⟨p,hp⟩:∃p,k.ls[i]? = some p:=⟨_,List.getElem?_eq_getElem hl⟩;have hz:((gI k).zip (k.ls.map (iP k.tk)))[i]? = some (6,iP k.tk p):=by rw [List.getElem?_zip_eq_some];exact ⟨h,by rw [List.getElem?_map,hp];rfl⟩
 rw [zY,NS hz rfl fun j y hy h6=>by
  have:=(Iy k h8 j y hy).1
  rw [h6] at this
  exact NR this h]
 unfold uE;rw [sO hp];cases iP k.tk p <;> rfl
theorem Ke (h8:k.ls.length≤8) (h:∀d ∈ gI k,d≠6):qW k=eH k.c:=by rw [zY];refine uF _ _ fun x hx=>?_;obtain ⟨m,hm⟩:=List.mem_iff_getElem?.1 hx;exact h _ (List.mem_of_getElem? (Iy k h8 m x hm).1)
theorem Gv (f:Int→Pt→Pt) (l:List Pt) (m:List Int) (h:m.length=l.length):(l.zip m).map (fun x=>f x.2 x.1)=l.mapIdx fun i p=>f (m.getD i 0) p:=by
 refine List.ext_getElem? fun i=>?_;rw [List.getElem?_map,List.getElem?_mapIdx];by_cases hi:i<l.length
 ·have h1:l[i]? = some l[i]:=List.getElem?_eq_getElem hi;have h2:m[i]? = some m[i]:=List.getElem?_eq_getElem aJ;have h3:(l.zip m)[i]? = some (l[i],m[i]):=by rw [List.getElem?_zip_eq_some];exact ⟨h1,h2⟩
  rw [h3,h1,Option.map_some,Option.map_some,List.getD_eq_getElem?_getD,h2];rfl
 ·rw [List.getElem?_eq_none (by rw [List.length_zip];omega),List.getElem?_eq_none aJ];rfl
theorem Ry {c:Cf} (h:gJ c) (hc:0≤c.cl∧c.cl<18446744073709551616):tK (Am c):=by obtain ⟨h1,h2,h3,h4,h5,h6,h7,h8,h9,-⟩:=h;unfold tK qK R8 Am;dsimp only;omega
theorem Rz {r:Rc} (h:MX r):tK r.v:=by obtain ⟨h1,h2,h3,h4,h5,h6,h7,h8,h9,h10,h11,h12,iW,Ql⟩:=h;unfold tK qK R8;omega
theorem VJ (hI:eD k n):∀a,some a ∈ q8 k→tK a:=fun a ha=>by
 unfold q8 at ha;obtain ⟨p,hp,he⟩:=List.mem_map.1 ha;cases hb:iP k.tk p with
 | none=>rw [hb] at he;cases he
 | some r=>
  rw [hb] at he;obtain rfl:r.v=a:=Option.some.inj he;exact Rz (DV (hI.me p hp) hb)
theorem Kg {gB:Nat} (hn:k.ls.length=n) (h8:n≤8) (hB:ak w gB (aV.cells (jw (uE k) au n)) t):Ji w ((jw (hAt k gB) none n).take n) (q8 k):=by
 have hl:((jw (hAt k gB) none n).take n).length=n:=by rw [List.length_take,dG];omega
 have ho:(q8 k).length=n:=by unfold q8;rw [List.length_map];exact hn
 refine ⟨by rw [hl,ho],fun i hi hi'=>?_⟩;have hin:i<n:=by omega
 have e1:((jw (hAt k gB) none n).take n)[i]? = some (hAt k gB i):=by rw [List.getElem?_take_of_lt hin,j5 aJ,if_pos hin]
 have e2:((jw (hAt k gB) none n).take n)[i]=hAt k gB i:=(List.getElem?_eq_some_iff.1 e1).2;obtain ⟨p,hp⟩:∃p,k.ls[i]? = some p:=⟨_,List.getElem?_eq_getElem aJ⟩;have e3:(q8 k)[i]? = some ((iP k.tk p).map Rc.v):=by unfold q8;rw [List.getElem?_map,hp];rfl
 have e4:(q8 k)[i]=(iP k.tk p).map Rc.v:=(List.getElem?_eq_some_iff.1 e3).2;rw [e2,e4];unfold hAt;rw [sO hp];cases hb:iP k.tk p with
 | none=>exact trivial
 | some r=>
  have hR:=uD (K:=aV) (j:=i) hB Pm;have e5:(jw (uE k) au n)[i]? = some (uE k i):=by rw [j5 aJ,if_pos hin]
  rw [(List.getElem?_eq_some_iff.1 e5).2] at hR;have e6:uE k i=r:=by unfold uE;rw [sO hp,hb];rfl
  rw [e6] at hR;refine ⟨gB,i*17,rfl,hB.lt,fun j v hj=>?_⟩;refine hR j v ?_;show (dF r.v++_)[j]? = some v;rw [List.getElem?_append_left (List.getElem?_eq_some_iff.1 hj).1];exact hj
theorem NT (hn:k.ls.length=n) (h8:n≤8):(jw (SK k) false n).take n=Gu k:=by refine Kc h8 (by unfold Gu;rw [List.length_map];exact hn) fun i hi=>?_;obtain ⟨p,hp⟩:∃p,k.ls[i]? = some p:=⟨_,List.getElem?_eq_getElem aJ⟩;unfold Gu;rw [List.getElem?_map,hp,NQ hp];rfl
end
end
section
variable {w:World} {g:Nat} {hs:List Nat} {sv fl:Nat} {bs:List PL} {F:Nat→Prop} {k:Kz} {i h:Nat} {b:PL} {p:Pt}
theorem uG {c:Cf} {steps d:Int} {same:Bool} (h:dz p.st d same c.so=p.st) (h2:¬(dz p.st d same c.so=8∧d=6∧same=false)):dX c steps same d p=p:=by
 unfold dX;split
 ·rfl
 ·rw [if_neg];rintro (h3 | h3)
  ·exact h3 h
  ·exact h2 h3
theorem Kh {s d:Int} {a b:Bool} (h:dD s=false):dz s d a b=s:=by unfold dz;rw [if_pos h]
theorem jZ {c:Cf} {steps d:Int} {same:Bool} (h:dz p.st d same c.so≠p.st∨(dz p.st d same c.so=8∧d=6∧same=false)):dX c steps same d p=qw c steps (dz p.st d same c.so) p:=by
 have ha:¬dD p.st=false:=by
  intro ha;have e:=Kh (d:=d) (a:=same) (b:=c.so) ha;rcases h with h | h
  ·exact h e
  ·rw [e] at h;rw [h.1] at ha;revert ha;decide
 unfold dX;rw [if_neg ha,if_pos h]
theorem Iz {s d:Int} {a b:Bool} (h:dz s d a b≠s):dz s d a b=4∨dz s d a b=5∨dz s d a b=6∨dz s d a b=7∨(dz s d a b=8∧d=6):=by
 unfold dz at h ⊢;repeat' split
 all_goals first | omega | (rename_i h0 h1 h2 h3 h4 h5 h6 h7 h8 h9 ;omega) | skip
 all_goals simp_all
 all_goals omega
theorem Ta {c:Cf} {steps:Int} (h:c.pe=false):qw c steps 8 p={ mo c { p with st:=8,m:=j3,x:={ p.x with out:=none },df:=none,tr:=0,tq:=0,ta:=0,ts:=0,tk:=0 } with tk:=1 }:=by exact XK
theorem Tc {c:Cf} {steps:Int} (h:c.pe=true):qw c steps 8 p=mo c { p with st:=8,m:=j3,x:={ p.x with out:=none },df:=none,tr:=0,tq:=0,ta:=0,ts:=0,tk:=p.tk }:=by exact XK
theorem Ki {steps:Int} (h:0≤steps∧steps≤255) (l:Int):0≤(steps+1)*bF l∧(steps+1)*bF l≤32768:=by have he:=lZ l;refine ⟨Int.mul_nonneg aJ aJ,?_⟩;have:=Int.mul_le_mul (show steps+1≤256 by omega) he.2 aJ aJ;omega
theorem Kj (L:Lay w g hs sv fl bs F (aO k i p)) (H:Hand k hs bs i h b) (hc:gJ k.c) (d:Int) (same:Bool) (steps:Int) (hst:0≤steps∧steps≤255):Calls prog 116 #[.pointer (some ⟨g,0,none⟩),.pointer (some ⟨h,0,none⟩),.int .i64 d,.bool same,.int .i64 steps] w fun e w'=>e=.returned (.tuple #[])∧Lay w' g hs sv fl bs F (aO k i (dX k.c steps same d p))∧bW (aK g F) w w':=by
 obtain ⟨R,HR⟩:∃R,dX k.c steps same d p=R:=⟨_,rfl⟩;rw [HR];obtain ⟨S,hS⟩:∃S,dz p.st d same k.c.so=S:=⟨_,rfl⟩;have hcall:∀wx,Calls prog 169 #[.int .i64 p.st,.int .i64 d,.bool same,.bool k.c.so] wx fun e w''=>e=.returned (.int .i64 S)∧w''=wx:=fun wx=>by rw [←hS];exact Ea p.st d same k.c.so wx
 have Q:bW (aK g F) w w:=bW.refl _ w;by_cases h8:S=8
 ·by_cases h6:d=6
  ·cases same
   ·have hv:=h8;by_cases hp:S=p.st
    ·have b8:(S == 8)=true:=by simp [h8]
     have b6:(d == 6)=true:=by simp [h6]
     have bp:(S == p.st)=true:=by simp [hp]
     have hmv:dz p.st d false k.c.so≠p.st∨(dz p.st d false k.c.so=8∧d=6∧false=false):=by rw [hS];exact .inr ⟨h8,h6,rfl⟩
     exact mq3
    ·have b8:(S == 8)=true:=by simp [h8]
     have b6:(d == 6)=true:=by simp [h6]
     have bp:(S == p.st)=false:=by simp [hp]
     have hmv:dz p.st d false k.c.so≠p.st∨(dz p.st d false k.c.so=8∧d=6∧false=false):=by rw [hS];exact .inl hp
     exact mq3
   ·have hv:=h8;by_cases hp:S=p.st
    ·clear hv;have b8:(S == 8)=true:=by simp [h8]
     have b6:(d == 6)=true:=by simp [h6]
     have bp:(S == p.st)=true:=by simp [hp]
     rw [uG K6 (by rw [hS];exact fun h=>absurd h.2.2 aX)] at HR;have HR2:=hid HR;clear hS HR h8 hp h6;exact Tf
    ·have b8:(S == 8)=true:=by simp [h8]
     have b6:(d == 6)=true:=by simp [h6]
     have bp:(S == p.st)=false:=by simp [hp]
     have hmv:dz p.st d true k.c.so≠p.st∨(dz p.st d true k.c.so=8∧d=6∧true=false):=by rw [hS];exact .inl hp
     exact mq3
  ·by_cases hp:S=p.st
   ·have b8:(S == 8)=true:=by simp [h8]
    have b6:(d == 6)=false:=by simp [h6]
    have bp:(S == p.st)=true:=by simp [hp]
    rw [uG K6 (by rw [hS];exact fun h=>h6 h.2.1)] at HR;have HR2:=hid HR;clear hS HR h8 hp h6;exact Tf
   ·exfalso;have:=Iz (s:=p.st) (d:=d) (a:=same) (b:=k.c.so) K6;rw [hS] at this;omega
 ·by_cases hp:S=p.st
  ·have b8:(S == 8)=false:=by simp [h8]
   have bp:(S == p.st)=true:=by simp [hp]
   rw [uG K6 (by rw [hS];exact fun h=>h8 h.1)] at HR;have HR2:=hid HR;clear hS HR h8 hp;exact Tf
  ·have hn:=Iz (s:=p.st) (d:=d) (a:=same) (b:=k.c.so) K6;rw [hS] at hn;rcases hn with hv | hv | hv | hv | hv
   ·have b8:(S == 8)=false:=by simp [h8]
    have bp:(S == p.st)=false:=by simp [hp]
    have hmv:dz p.st d same k.c.so≠p.st∨(dz p.st d same k.c.so=8∧d=6∧same=false):=by rw [hS];exact .inl hp
    rw [jZ hmv,hS] at HR;clear hmv;have HR2:=hid HR;have OM:=hid hv;clear hS HR hv h8 hp;go_enter func116,ntmps116;go_upto_region 0 with fail;have hbd:=Below.drew (Below.refl w.heap.size w);replace L:=L.below hbd;replace Q:=Q.bel hbd;refine fD aW aW ?_;generalize w.drew=wd at *;clear hbd;have c2:=L.pc H 2 (.int .i64 p.st) (fun _=>rfl);have k8:=L.kc 8 (.bool k.c.so) rfl;iterate 11 refine so ?_
    refine fu bn KC (hcall wd) ?_;try simp only [Act.put,zI,bG,zS]
    refine so ?_;refine bM ?_;have f2:=L.pf H 2;go_upto_region 4 with fail;obtain ⟨L2,q2⟩:=L.cell H 2 (.int .i64 S) (q:={ p with st:=S }) (fun _=>rfl) rfl rfl rfl rfl rfl;replace L:=L2;replace Q:=Q.next q2;clear L2 q2 c2 f2 k8;generalize World.setCell _ _ _=w2 at *;go_wp2_with fail;refine (iK L H).mono ?_;rintro e w3 ⟨rfl,L2,q2⟩;replace L:=L2;replace Q:=Q.next q2;clear L2 q2;go_wp2_with fail;refine (nQ L H).mono ?_;rintro e w4 ⟨rfl,L2,q2⟩;replace L:=L2;replace Q:=Q.next q2;clear L2 q2;go_wp2_with fail;refine (jS L H).mono ?_;rintro e w5 ⟨rfl,L2,q2⟩;replace L:=L2;replace Q:=Q.next q2;clear L2 q2;have s6:(S == 6)=false:=by exact jC
    have s5:(S == 5)=false:=by exact jC
    have s8:(S == 8)=false:=by exact jC
    have s7:(S == 7)=false:=by exact jC
    have s4:(S == 4)=true:=by exact jC
    exact Xr
   ·have b8:(S == 8)=false:=by simp [h8]
    have bp:(S == p.st)=false:=by simp [hp]
    have hmv:dz p.st d same k.c.so≠p.st∨(dz p.st d same k.c.so=8∧d=6∧same=false):=by rw [hS];exact .inl hp
    rw [jZ hmv,hS] at HR;clear hmv;have HR2:=hid HR;have OM:=hid hv;clear hS HR hv h8 hp;go_enter func116,ntmps116;go_upto_region 0 with fail;have hbd:=Below.drew (Below.refl w.heap.size w);replace L:=L.below hbd;replace Q:=Q.bel hbd;refine fD aW aW ?_;generalize w.drew=wd at *;clear hbd;have c2:=L.pc H 2 (.int .i64 p.st) (fun _=>rfl);have k8:=L.kc 8 (.bool k.c.so) rfl;iterate 11 refine so ?_
    refine fu bn KC (hcall wd) ?_;try simp only [Act.put,zI,bG,zS]
    refine so ?_;refine bM ?_;have f2:=L.pf H 2;go_upto_region 4 with fail;obtain ⟨L2,q2⟩:=L.cell H 2 (.int .i64 S) (q:={ p with st:=S }) (fun _=>rfl) rfl rfl rfl rfl rfl;replace L:=L2;replace Q:=Q.next q2;clear L2 q2 c2 f2 k8;generalize World.setCell _ _ _=w2 at *;go_wp2_with fail;refine (iK L H).mono ?_;rintro e w3 ⟨rfl,L2,q2⟩;replace L:=L2;replace Q:=Q.next q2;clear L2 q2;go_wp2_with fail;refine (nQ L H).mono ?_;rintro e w4 ⟨rfl,L2,q2⟩;replace L:=L2;replace Q:=Q.next q2;clear L2 q2;go_wp2_with fail;refine (jS L H).mono ?_;rintro e w5 ⟨rfl,L2,q2⟩;replace L:=L2;replace Q:=Q.next q2;clear L2 q2;have s6:(S == 6)=false:=by exact jC
    have s5:(S == 5)=true:=by exact jC
    have s8:(S == 8)=false:=by exact jC
    have s7:(S == 7)=false:=by exact jC
    have s4:(S == 4)=false:=by exact jC
    have hw:=wrap_small (x:=(steps+1)*bF k.c.la) (by have:=Ki hst k.c.la;omega);have hw1:=wrap_small (x:=steps+1) aJ;go_upto_region 14 with fail;have hbd:=Below.drew (Below.refl w5.heap.size w5);replace L:=L.below hbd;replace Q:=Q.bel hbd;refine d_ 12 aW aW ?_;generalize w5.drew=wf at *;clear hbd;have c6:=L.pc H 6 (.int .i64 0) (fun _=>rfl);have f6:=L.pf H 6;have k9:=L.kc 9 (.int .i64 k.c.la) rfl;simp only [List.take_succ_cons,List.take_zero,List.drop_succ_cons,List.drop_zero];iterate 10 refine so ?_
    refine fu bn KC (qM (iF k.c.la wf)) ?_;try simp only [Act.put,zI,bG,zS]
    refine so ?_;refine bM ?_;go_wp2_with fail;refine (g_ h 6 _ _ _ c6 f6).mono ?_;rintro e w6 ⟨rfl,hw⟩;obtain ⟨L2,q2⟩:=L.cell H 6 (.int .i64 (bH ((steps+1)*bF k.c.la))) (q:={ { { p with st:=S,m:=j3,x:={ p.x with out:=none },df:=none,tr:=0,tq:=0,ta:=0,ts:=0 } with tk:=if k.c.pe then p.tk else 0 } with tq:=bH ((steps+1)*bF k.c.la) }) (fun _=>rfl) rfl rfl rfl rfl rfl;replace L:=L2;replace Q:=Q.next q2;clear L2 q2;rw [←hw] at L Q;clear hw c6 f6;exact Xt
   ·have b8:(S == 8)=false:=by simp [h8]
    have bp:(S == p.st)=false:=by simp [hp]
    have hmv:dz p.st d same k.c.so≠p.st∨(dz p.st d same k.c.so=8∧d=6∧same=false):=by rw [hS];exact .inl hp
    rw [jZ hmv,hS] at HR;clear hmv;have HR2:=hid HR;have OM:=hid hv;clear hS HR hv h8 hp;go_enter func116,ntmps116;go_upto_region 0 with fail;have hbd:=Below.drew (Below.refl w.heap.size w);replace L:=L.below hbd;replace Q:=Q.bel hbd;refine fD aW aW ?_;generalize w.drew=wd at *;clear hbd;have c2:=L.pc H 2 (.int .i64 p.st) (fun _=>rfl);have k8:=L.kc 8 (.bool k.c.so) rfl;iterate 11 refine so ?_
    refine fu bn KC (hcall wd) ?_;try simp only [Act.put,zI,bG,zS]
    refine so ?_;refine bM ?_;have f2:=L.pf H 2;go_upto_region 4 with fail;obtain ⟨L2,q2⟩:=L.cell H 2 (.int .i64 S) (q:={ p with st:=S }) (fun _=>rfl) rfl rfl rfl rfl rfl;replace L:=L2;replace Q:=Q.next q2;clear L2 q2 c2 f2 k8;generalize World.setCell _ _ _=w2 at *;go_wp2_with fail;refine (iK L H).mono ?_;rintro e w3 ⟨rfl,L2,q2⟩;replace L:=L2;replace Q:=Q.next q2;clear L2 q2;go_wp2_with fail;refine (nQ L H).mono ?_;rintro e w4 ⟨rfl,L2,q2⟩;replace L:=L2;replace Q:=Q.next q2;clear L2 q2;go_wp2_with fail;refine (jS L H).mono ?_;rintro e w5 ⟨rfl,L2,q2⟩;replace L:=L2;replace Q:=Q.next q2;clear L2 q2;have s6:(S == 6)=true:=by exact jC
    have s5:(S == 5)=false:=by exact jC
    have s8:(S == 8)=false:=by exact jC
    have s7:(S == 7)=false:=by exact jC
    have s4:(S == 4)=false:=by exact jC
    rw [OM.out] at L HR2;clear OM;go_wp2_with fail;refine (qJ L H).mono ?_;rintro e w6 ⟨rfl,L2,q2⟩;replace L:=L2;replace Q:=Q.next q2;clear L2 q2;go_wp2_with fail;go_end0;refine ⟨rfl,?_,Q⟩;rw [←HR2.out];unfold qw;exact L
   ·have b8:(S == 8)=false:=by simp [h8]
    have bp:(S == p.st)=false:=by simp [hp]
    have hmv:dz p.st d same k.c.so≠p.st∨(dz p.st d same k.c.so=8∧d=6∧same=false):=by rw [hS];exact .inl hp
    rw [jZ hmv,hS] at HR;clear hmv;have HR2:=hid HR;have OM:=hid hv;clear hS HR hv h8 hp;go_enter func116,ntmps116;go_upto_region 0 with fail;have hbd:=Below.drew (Below.refl w.heap.size w);replace L:=L.below hbd;replace Q:=Q.bel hbd;refine fD aW aW ?_;generalize w.drew=wd at *;clear hbd;have c2:=L.pc H 2 (.int .i64 p.st) (fun _=>rfl);have k8:=L.kc 8 (.bool k.c.so) rfl;iterate 11 refine so ?_
    refine fu bn KC (hcall wd) ?_;try simp only [Act.put,zI,bG,zS]
    refine so ?_;refine bM ?_;have f2:=L.pf H 2;go_upto_region 4 with fail;obtain ⟨L2,q2⟩:=L.cell H 2 (.int .i64 S) (q:={ p with st:=S }) (fun _=>rfl) rfl rfl rfl rfl rfl;replace L:=L2;replace Q:=Q.next q2;clear L2 q2 c2 f2 k8;generalize World.setCell _ _ _=w2 at *;go_wp2_with fail;refine (iK L H).mono ?_;rintro e w3 ⟨rfl,L2,q2⟩;replace L:=L2;replace Q:=Q.next q2;clear L2 q2;go_wp2_with fail;refine (nQ L H).mono ?_;rintro e w4 ⟨rfl,L2,q2⟩;replace L:=L2;replace Q:=Q.next q2;clear L2 q2;go_wp2_with fail;refine (jS L H).mono ?_;rintro e w5 ⟨rfl,L2,q2⟩;replace L:=L2;replace Q:=Q.next q2;clear L2 q2;have s6:(S == 6)=false:=by exact jC
    have s5:(S == 5)=false:=by exact jC
    have s8:(S == 8)=false:=by exact jC
    have s7:(S == 7)=true:=by exact jC
    have s4:(S == 4)=false:=by exact jC
    exact Xr
   ·exact absurd hv.1 h8
end
end Go.Proofs.YtofhdhgfcomhiaaGreat
