/- Of what laws of the clock want, part 23: ClkDec ClkTld ClkSnd3 ClkFwd ConfLaws0 (mini.py). -/
import Derived.Test.YtofhdhgfcomhiaaGreatCf20
import Derived.Test.YtofhdhgfcomhiaaGreatCf22
namespace Go.Proofs.YtofhdhgfcomhiaaGreat
open Go.RowKit Go.Proofs
set_option maxRecDepth 100000
set_option maxHeartbeats 100000000
set_option linter.unusedVariables false
set_option linter.unusedSimpArgs false
open Tryz
variable {B:Nat} {P:Program} {Q:Exit→Act→World→Prop} {S:World→Prop} {a:Act} {b:Nat} {cap:Nat} {fuel:Nat} {g:Nat} {h:Nat} {i:Nat} {l:List UInt8} {listed:Array Bool} {n:Nat} {now:Int} {o:Oper} {oi:Oper} {op:Oper} {ops:Array Oper} {p:Prop} {rest:List Oper} {t:TypeId} {v:Value} {w:World} {w':World} {xs:List Value} {α:Type}
section
variable {w:World} {g:Nat} {hs:List Nat} {sv fl:Nat} {bs:List PL} {F:Nat→Prop} {k:Kz} {i h:Nat} {b:PL} {p:Pt}
theorem uI (w:World) (o:Obj):(w.alloc o).heap.size=w.heap.size+1:=by simp
theorem GD {PA:Pa} {V:Bool} (h8:k.ls.length≤8) (SN:qW k=PA) (hV:(PA.pc == k.pa.pc && PA.pp == k.pa.pp)=V):pV k={ k with ls:=k.ls.mapIdx fun i p=>dX k.c PA.st V ((gI k).getD i 0) p,fl:=if V then k.fl else (k.fl.1,[]),de:=if V then k.de else none,pa:=PA }:=by
 have hs:oG k=V:=by unfold oG;rw [SN];exact hV
 unfold pV;rw [hs,SN,Gv (fun d p=>dX k.c PA.st V d p) k.ls (gI k) (oH k)]
theorem RowK.Own.base {K:RowK α} {C:Nat} {l:List α} (h:K.Own t w B v l) (hb:C≤B):K.Own t w C v l:=by
 rcases id h with ⟨h0,⟨rfl,hn⟩ | ⟨g,cap,cur,rfl,hbg,hg,r⟩⟩
 ·exact CK
 ·exact ⟨h0,.inr ⟨g,cap,cur,rfl,Nat.le_trans hb hbg,hg,r⟩⟩
theorem RowK.Own.qH {K:RowK α} {l:List α} {hs:List Nat} {sv fl:Nat} {bs:List PL} {F:Nat→Prop} {k:Kz} (h:K.Own t w B v l) (L:Lay w g hs sv fl bs F k) (ht:vG t=false) (hc:bW (aK g F) w w'):K.Own t w' B v l:=
 h.same fun m hm=>hc.block m (RowK.Own.ty h hm).1.lt (L.no (RowK.Own.ty h hm).1 ht)
theorem z_ {K:RowK α} {l:List α} {j:Nat} {x:α} (h:ak w g (K.cells l) t) (h1:K.n=1) (hx:l[j]? = some x) (hv:K.enc x=[v]):w.cell? ⟨g,j,none⟩=some v:=by obtain ⟨hl,he⟩:=List.getElem?_eq_some_iff.1 hx;have h2:=uD h hl 0 v (by rw [he,hv];rfl);rw [h1,Nat.mul_one,Nat.add_zero] at h2;exact h2
theorem El (L:Lay w g hs sv fl bs F k) {n0:Nat} (hI:eD k n0):Calls prog 69 #[.pointer (some ⟨g,0,none⟩)] w fun e w'=>e=.returned (.tuple #[])∧Lay w' g hs sv fl bs F (pV k)∧bW (aK g F) w w':=by
 have hlen:=hI.len;have h8:=L.ps.l8;have hcf:=hI.cf;have hcl:=hI.cl;have hall:=p8 L hlen;obtain ⟨n,hn⟩:∃n,k.ls.length=n:=⟨_,rfl⟩;rw [hn] at h8 hall;have Zu:(n:Int)≤8:=by omega
 have h0I:(0:Int)≤(n:Int):=by omega
 replace hlen:=hid hlen;replace hn:=hid hn;go_enter func69,ntmps69;go_upto_region 3 with fail;change Code.wp prog _ _ _ (((w.alloc (Obj.cells (aV.cells (List.replicate 8 au)).toArray 205)).alloc (Obj.cells (rA.cells (List.replicate 8 none)).toArray 207)).alloc (Obj.cells (KG.cells (List.replicate 8 false)).toArray 208));have z1:=aA w (Obj.cells (aV.cells (List.replicate 8 au)).toArray 205);have BB:=ak.new w (aV.cells (List.replicate 8 au)) 205;have z1s:(w.alloc (Obj.cells (aV.cells (List.replicate 8 au)).toArray 205)).heap.size=w.heap.size+1:=uI _ _;generalize w.alloc (Obj.cells (aV.cells (List.replicate 8 au)).toArray 205)=W1 at *;have z2:=aA W1 (Obj.cells (rA.cells (List.replicate 8 none)).toArray 207);have BH:=ak.new W1 (rA.cells (List.replicate 8 none)) 207;have z2s:(W1.alloc (Obj.cells (rA.cells (List.replicate 8 none)).toArray 207)).heap.size=W1.heap.size+1:=uI _ _;replace BB:=BB.below z2;generalize W1.alloc (Obj.cells (rA.cells (List.replicate 8 none)).toArray 207)=W2 at *;have z3:=aA W2 (Obj.cells (KG.cells (List.replicate 8 false)).toArray 208);have BL:=ak.new W2 (KG.cells (List.replicate 8 false)) 208;replace BB:=BB.below z3;replace BH:=BH.below z3;generalize W2.alloc (Obj.cells (KG.cells (List.replicate 8 false)).toArray 208)=W3 at *;rw [z2s,z1s] at BL;rw [z1s] at BH;have hb0:Below w.heap.size w W3:=(z1.trans (z2.mono aJ)).trans (z3.mono aJ);clear z1 z2 z3 z1s z2s;obtain ⟨gB,hgB⟩:∃gB,w.heap.size=gB:=⟨_,rfl⟩;obtain ⟨gH,hgH⟩:∃gH,w.heap.size+1=gH:=⟨_,rfl⟩;obtain ⟨gL,hgL⟩:∃gL,w.heap.size+1+1=gL:=⟨_,rfl⟩;rw [show (Value.pointer (some ⟨w.heap.size,0,none⟩))=Value.pointer (some ⟨gB,0,none⟩) by rw [hgB],show (Value.pointer (some ⟨w.heap.size+1,0,none⟩))=Value.pointer (some ⟨gH,0,none⟩) by rw [hgH],show (Value.pointer (some ⟨w.heap.size+1+1,0,none⟩))=Value.pointer (some ⟨gL,0,none⟩) by rw [hgL]];rw [hgL] at BL;rw [hgH] at BH;rw [hgB] at BB;have hBH:gB≠gH:=by omega
 have hBL:gB≠gL:=by omega
 have hHL:gH≠gL:=by omega
 have lB:w.heap.size≤gB:=by omega
 have lH:w.heap.size≤gH:=by omega
 have lL:w.heap.size≤gL:=by omega
 clear hgB hgH hgL;rw [←uw (f:=uE k)] at BB;rw [←uw (f:=hAt k gB)] at BH;rw [←uw (f:=SK k)] at BL;have N_:=p8 (L.below hb0) hlen.out;rw [hn.out] at N_;go_wp2_with fail;refine N_.mono ?_;rintro e W4 ⟨rfl,b4⟩;replace BB:=BB.below b4;replace BH:=BH.below b4;replace BL:=BL.below b4;replace hb0:=ah hb0 b4;clear b4 N_ hall;go_wp2_with fail;go_loopw [20] (fun iv wr=>∃j:Nat,j≤n∧iv=.int .i64 (j:Int)∧ak wr gB (aV.cells (jw (uE k) au j)) 205∧ak wr gH (rA.cells (jw (hAt k gB) none j)) 207∧ak wr gL (KG.cells (jw (SK k) false j)) 208∧Below w.heap.size w wr) (fun iv _=>n - (intOf iv).toNat);case atStart=>exact ⟨0,Nat.zero_le _,rfl,BB,BH,BL,hb0⟩
 case round=>
  clear BB BH BL;obtain ⟨j,hj,rfl,BB,BH,BL,hb⟩:=hrel;by_cases hj2:j<n
  ·have Zw:(j:Int)<(n:Int):=by omega
   have Cw:j<8:=by omega
   have VU:(j:Int)<8:=by omega
   have hjl:j<k.ls.length:=by rw [hn.out];exact hj2
   have Lr:=L.below hb;obtain ⟨h',b',H'⟩:=Lr.jP hjl;obtain ⟨p',hp'⟩:∃p',k.ls[j]? = some p':=⟨_,List.getElem?_eq_getElem hjl⟩;have kp:=Lr.kp H'.hh;have LP:=Lr.jR hp';have hal:=qX LP H';obtain ⟨A,hA⟩:∃A,dD p'.st=A:=⟨_,rfl⟩;rw [hA] at hal;have hA2:=sO hp';have ZR:=NQ hp';rw [hA] at ZR;replace hA:=hid hA;go_wp2_with fail;refine hal.mono ?_;rintro e wz ⟨rfl,rfl⟩;clear hal kp;cases A
   ·have hno:qF k j=none:=by rw [hA2];unfold iP;rw [hA.out];rfl
    have e1:uE k j=au:=by unfold uE;rw [hno];rfl
    have e2:hAt k gB j=none:=by unfold hAt;rw [hno];rfl
    have e3:SK k j=false:=by rw [ZR];rfl
    replace e1:=hid e1;replace e2:=hid e2;replace e3:=hid e3;clear hno hA2 ZR;go_wp2_with fail;go_roundw;case rel=>exact ⟨j+1,hj2,by go_num,by rw [mH e1.out];exact BB,by rw [mH e2.out];exact BH,by rw [mH e3.out];exact BL,hb⟩
    case measure=>simp [intOf];omega
   ·obtain ⟨V4,WK⟩:∃V4,(p'.st == 4)=V4:=⟨_,rfl⟩;have e3:SK k j=V4:=by rw [ZR,←WK];rfl
    replace e3:=hid e3;clear ZR;have c2:=LP.pc H' 2 (.int .i64 p'.st) (fun _=>rfl);have cL:=z_ (K:=KG) (v:=.bool false) BL rfl X8 rfl;have fL:=BL.free j;go_upto_region 8 with fail;clear c2 cL fL WK;have O0:=Eh (K:=KG) BL Pf rfl V4 (.bool V4) rfl;rw [←e3.out,←uy (f:=SK k) (d:=false) Cw,e3.out] at O0;replace BB:=BB.other hBL j (.bool V4);replace BH:=BH.other hHL j (.bool V4);replace hb:=hb.setCell (p:=⟨gL,j,none⟩) lL (.bool V4);clear BL LP Lr;generalize World.setCell _ _ _=w2 at *;have hbd:=Below.drew (Below.refl w2.heap.size w2);replace BB:=BB.below hbd;replace BH:=BH.below hbd;replace O0:=O0.below hbd;replace hb:=ah hb hbd;have Lr:=L.below hb;have LP:=Lr.jR hp';have hTd:=(LP.hand H').tab;obtain ⟨R0,hR0⟩:∃R0,zA (n_ p'.tab k.tk)=R0:=⟨_,rfl⟩;obtain ⟨V,hV⟩:∃V,decide (0≤l6 (n_ p'.tab k.tk))=V:=⟨_,rfl⟩;have IE:=fun (wx:World) (hx:qj nM wx b'.t p'.tab)=>N8 b'.t p'.tab k.tk wx hx;rw [hR0,hV] at IE;have hbp:qF k j=if V=true then some R0 else none:=by rw [hA2];unfold iP;rw [hA.out,hV,hR0];simp
    clear hA2 hR0 hV;replace hbp:=hid hbp;refine eU (S:=fun w'=>Below w2.drew.heap.size w2.drew w') (z:=14) aW ?_;have hHeld:=Below.refl w2.drew.heap.size w2.drew;generalize w2.drew=wd at *;clear hbd;have d0:∀wx,Below wd.heap.size wd wx→wx.cell? ⟨h',3,none⟩=some (.pointer (some ⟨b'.t,0,none⟩)):=fun wx hx=>(LP.below hx).pc H' 3 _ (fun _=>rfl);have d1:∀wx,Below wd.heap.size wd wx→wx.cell? ⟨g,31,none⟩=some (.int .i64 k.tk):=fun wx hx=>(Lr.below hx).kc 31 _ rfl;apply Eb (F:=fun gy wy=>wd.heap.size≤gy∧Below wd.heap.size wd wy∧ak wy gy (aV.enc R0) 150)
    ·intro hrest;refine tz [0,1,2,3,4,5,6,7] hHeld ?_;refine yF 8 12 rfl rfl aW bn bn (fun K' hK=>?_) (fun K' hK=>?_)
     ·go_simp;refine (IE wd (hTd.below hHeld)).mono ?_;rintro e wc ⟨rfl,bc⟩;replace hHeld:=hHeld.trans (bc.mono hHeld.size);refine hK _ _ hHeld ?_;clear hK K';try simp only [Act.put,zI,bG,zS]
      refine tz [9,10,11] hHeld ?_;refine aZ 12 fun K' hK=>?_;go_simp;have z2:=aA wc (Obj.cells (aV.enc au).toArray 150);have eF:=ak.new wc (aV.enc au) 150;have hge:=hHeld.size;replace hHeld:=hHeld.trans (z2.mono hge);refine hK _ (wc.alloc (Obj.cells (aV.enc au).toArray 150)) hHeld ?_;clear hK K' z2;try simp only [Act.put,zI,bG,zS]
      generalize wc.alloc (Obj.cells (aV.enc au).toArray 150)=wa at *;refine aZ 13 fun K' hK=>?_;refine oL.dS (.tmp 7) (.tmp 45) rfl wc.heap.size R0 au _ rfl rfl eF ?_;have h3:=below_setRow hHeld hge (aV.enc R0).toArray;refine hK _ _ h3 ?_;clear hK K';try simp only [Act.put,zI,bG,zS]
      refine aE 14 fun K' hK=>?_;go_simp;refine hK _ _ ?_;clear hK K';have h4:=eF.fB (aV.enc R0);generalize World.setRow _ _ _=wz at h3 h4 ⊢;obtain ⟨gz,hgz⟩:∃gz,wc.heap.size=gz:=⟨_,rfl⟩;rw [hgz] at h4 ⊢;exact hrest gz wz ⟨by omega,h3,h4⟩
     ·go_simp;have z2:=aA wd (Obj.cells (aV.enc au).toArray 150);have eF:=ak.new wd (aV.enc au) 150;have hge:=hHeld.size;replace hHeld:=hHeld.trans (z2.mono hge);refine hK _ (wd.alloc (Obj.cells (aV.enc au).toArray 150)) hHeld ?_;clear hK K' z2;try simp only [Act.put,zI,bG,zS]
      generalize wd.alloc (Obj.cells (aV.enc au).toArray 150)=wa at *;refine aZ 8 fun K' hK=>?_;go_simp;refine (IE wa (hTd.below hHeld)).mono ?_;rintro e wc ⟨rfl,bc⟩;replace hHeld:=hHeld.trans (bc.mono hHeld.size);replace eF:=eF.below bc;refine hK _ _ hHeld ?_;clear hK K';try simp only [Act.put,zI,bG,zS]
      refine tz [9,10,11] hHeld ?_;refine aZ 13 fun K' hK=>?_;refine oL.dS (.tmp 7) (.tmp 45) rfl wd.heap.size R0 au _ rfl rfl eF ?_;have h3:=below_setRow hHeld hge (aV.enc R0).toArray;refine hK _ _ h3 ?_;clear hK K';try simp only [Act.put,zI,bG,zS]
      refine aE 14 fun K' hK=>?_;go_simp;refine hK _ _ ?_;clear hK K';have h4:=eF.fB (aV.enc R0);generalize World.setRow _ _ _=wz at h3 h4 ⊢;obtain ⟨gz,hgz⟩:∃gz,wd.heap.size=gz:=⟨_,rfl⟩;rw [hgz] at h4 ⊢;exact hrest gz wz ⟨by omega,h3,h4⟩
    rintro gy wy ⟨kW,hby,hY⟩;replace BB:=BB.below hby;replace BH:=BH.below hby;replace O0:=O0.below hby;replace hb:=ah hb hby;clear hby kW d0 d1 IE hTd LP Lr;cases V
    ·have hno:qF k j=none:=hbp.out;have e1:uE k j=au:=by unfold uE;rw [hno];rfl
     have e2:hAt k gB j=none:=by unfold hAt;rw [hno];rfl
     replace e1:=hid e1;replace e2:=hid e2;clear hno;go_wp2_with fail;go_roundw;case rel=>exact ⟨j+1,hj2,by go_num,by rw [mH e1.out];exact BB,by rw [mH e2.out];exact BH,O0,hb⟩
     case measure=>simp [intOf];omega
    ·have hyes:qF k j=some R0:=hbp.out;have e1:uE k j=R0:=by unfold uE;rw [hyes];rfl
     have e2:hAt k gB j=some ⟨gB,j*17,none⟩:=by unfold hAt;rw [hyes];rfl
     replace e1:=hid e1;replace e2:=hid e2;clear hyes;have hyB:gB≠gy:=fun e=>by have:=BB.ty.one (e▸hY.ty);revert this;decide
     have hyH:gH≠gy:=fun e=>by have:=BH.ty.one (e▸hY.ty);revert this;decide
     go_upto_region 10 with fail;have hbd:=Below.drew (Below.refl wy.heap.size wy);replace BB:=BB.below hbd;replace BH:=BH.below hbd;replace O0:=O0.below hbd;replace hY:=hY.below hbd;replace hb:=ah hb hbd;refine eU (S:=fun w'=>w'.heap[gy]? = wy.drew.heap[gy]?) (z:=9) aW ?_;have hHeld:wy.drew.heap[gy]? = wy.drew.heap[gy]?:=rfl;generalize wy.drew=wd2 at *;clear hbd;have d0:∀wx:World,wx.heap[gy]? = wd2.heap[gy]?→wx.rangeAt gy 0 (aV.enc R0):=fun wx hx=>(hY.same hx).b_;refine tz [0,1] hHeld ?_;refine zt 2 hHeld ?_ (hy:=fun wx hwx=>oL.exec (.tmp 7) rfl gy 0 rfl R0 (d0 wx hwx));refine tz [3,4,5,6] hHeld ?_;refine aZ 7 fun K' hK=>?_;refine oL.nA (.tmp 54) (.tmp 50) rfl gB (j*17) R0 _ _ rfl rfl BB (by rw [RowK.aQ,dG];show j*17+17≤8*17;omega) ?_;have oB:=Only.cells (aV.enc R0) (j*17) _ (Only.refl gB wd2);have hS7:(wd2.setCells gB (j*17) (aV.enc R0)).heap[gy]? = wd2.heap[gy]?:=oB.block gy hY.lt (Ne.symm hyB);refine hK _ _ hS7 ?_;clear hK K' hHeld;have hHeld:=hS7;have BB7:ak (wd2.setCells gB (j*17) (aV.enc R0)) gB (aV.cells ((jw (uE k) au j).set j R0)) 205:=Iw (K:=aV) BB Pf R0;rw [←e1.out,←uy (f:=uE k) (d:=au) Cw,e1.out] at BB7;have BH7:=ak.gD (Ne.symm hBH) (aV.enc R0) (j*17) wd2 BH;have BL7:=ak.gD (Ne.symm hBL) (aV.enc R0) (j*17) wd2 O0;have Uz:=kP lB (aV.enc R0) (j*17) wd2 hb;clear oB hS7 BB BH O0 hb;generalize wd2.setCells gB (j*17) (aV.enc R0)=w7 at *;have cH:=z_ (K:=rA) (v:=.pointer none) BH7 rfl X8 rfl;have fH:=BH7.free j;try simp only [Act.put,zI,bG,zS]
     refine tz [8] hHeld ?_;refine aE 9 fun K' hK=>?_;go_simp;refine hK _ _ ?_;clear hK K' hHeld d0 cH fH;have BH8:=Eh (K:=rA) BH7 Pf rfl (some ⟨gB,j*17,none⟩) (.pointer (some ⟨gB,j*17,none⟩)) rfl;rw [←e2.out,←uy (f:=hAt k gB) (d:=none) Cw,e2.out] at BH8;have BB8:=BB7.other hBH j (.pointer (some ⟨gB,j*17,none⟩));have BL8:=BL7.other (Ne.symm hHL) j (.pointer (some ⟨gB,j*17,none⟩));have OU:=Uz.setCell (p:=⟨gH,j,none⟩) lH (.pointer (some ⟨gB,j*17,none⟩));clear BB7 BH7 BL7 Uz;generalize World.setCell _ _ _=w8 at *;go_wp2_with fail;go_roundw;case rel=>exact ⟨j+1,hj2,by go_num,BB8,BH8,BL8,OU⟩
     case measure=>simp [intOf];omega
  ·obtain rfl:n=j:=by omega
   have Lr:=L.below hb;have k1:=Lr.po hlen.out;rw [hn.out] at k1;go_upto_region 13 with fail;clear k1;have hbd:=Below.drew (Below.refl wr.heap.size wr);replace Lr:=Lr.below hbd;replace BB:=BB.below hbd;replace BH:=BH.below hbd;replace BL:=BL.below hbd;replace hb:=ah hb hbd;have ZT:=Ry hcf hcl;have h8k:k.ls.length≤8:=by rw [hn.out];exact h8
   have hdl:(gI k).length=n:=by rw [oH,hn.out]
   replace hdl:=hid hdl;refine wp_region_held_drew (S:=fun w'=>Below wr.drew.heap.size wr.drew w') aW (Below.refl _ _) ?_;intro hHeld;generalize wr.drew=wd at *;clear hbd;have d0:∀wx,Below wd.heap.size wd wx→wx.rangeAt g 0 (bT.enc k.c):=fun wx hx=>ak.bB [] (bT.enc k.c) _ (Lr.below hx).box;refine tk [0,1,2] hHeld ?_;refine rt 3 hHeld ?_ (hy:=fun wx hwx=>lJ.exec (.tmp 65) rfl g 0 rfl k.c (d0 wx hwx));refine tk [5,6,7,8] hHeld ?_;refine aR 4 fun K' hK=>?_;go_simp;refine (Vy k.c wd hcl).mono ?_;rintro e w5 ⟨rfl,b5⟩;refine hK _ _ b5 ?_;clear hK K' hHeld;have hHeld:=b5;clear b5;have hLr:KG.Reads w5 (.slice (some ⟨gL,0,none⟩) n 8) (Gu k):=by have h:=zX (K:=KG) (n:=n) (BL.below hHeld) (by rw [dG];exact h8) Pm;rw [dG,NT hn.out h8] at h;exact h
   have hHr:rA.Reads w5 (.slice (some ⟨gH,0,none⟩) n 8) ((jw (hAt k gB) none n).take n):=by have h:=zX (K:=rA) (n:=n) (BH.below hHeld) (by rw [dG];exact h8) Pm;rw [dG] at h;exact h
   have ZU:=Kg (k:=k) hn.out h8 (BB.below hHeld);have hbase:w.heap.size≤w5.heap.size:=(ah hb hHeld).size;try simp only [Act.put,zI,bG,zS]
   refine aR 9 fun K' hK=>?_;go_simp;refine (RA (Am k.c) _ _ (Gu k) ((jw (hAt k gB) none n).take n) (q8 k) w5 ZT hLr hHr ZU (by unfold q8;rw [List.length_map];omega) (VJ hI)).mono ?_;rintro e w6 ⟨x,rfl,hX,b6⟩;rw [←Rv k h8k] at hX;have GH:=hHeld.trans (b6.mono hHeld.size);refine hK _ _ GH ?_;clear hK K' hHeld hLr hHr ZU b6;have hHeld:=GH;clear GH;try simp only [Act.put,zI,bG,zS]
   refine tk [10,11,12,13,14] hHeld ?_;refine wpAnyH_done aW ?_ _;replace BB:=BB.below hHeld;replace hb:=ah hb hHeld;replace Lr:=Lr.below hHeld;clear hHeld d0 BH BL ZT;have RC:w6.rangeAt g 0 (bT.enc k.c):=ak.bB [] (bT.enc k.c) _ Lr.box;go_wp2_with (refine aD 78 ?_;refine lJ.aL g 0 k.c RC ?_);refine (Ci k.c w6).mono ?_;rintro e w7 ⟨rfl,b7⟩;replace BB:=BB.below b7;replace hX:=hX.below b7;replace hb:=ah hb b7;clear RC b7 Lr;have zp:=aA w7 (Obj.cells (j4.enc dK).toArray 69);have hP0:=ak.new w7 (j4.enc dK) 69;go_upto_region 15 with (refine aN ?_;refine xV.aS (w7.heap.size) (eH k.c) (dK) hP0 ?_);have qp:=below_setRow zp (Nat.le_refl _) (j4.enc (eH k.c)).toArray;have hP:=hP0.fB (j4.enc (eH k.c));change Code.wp prog _ _ _ ((w7.alloc (Obj.cells (j4.enc dK).toArray 69)).setRow w7.heap.size (j4.enc (eH k.c)).toArray);replace BB:=BB.below qp;replace hX:=hX.below qp;have lP:w.heap.size≤w7.heap.size:=hb.size;replace hb:=ah hb qp;clear qp zp hP0;generalize (w7.alloc (Obj.cells (j4.enc dK).toArray 69)).setRow w7.heap.size (j4.enc (eH k.c)).toArray=w8 at *;generalize w7.heap.size=gP at *;go_wp2_with fail;refine (Gi x (gI k) 6 w8 hX.reads.Ni (by rw [hdl.out];omega)).mono ?_;rintro e w9 ⟨⟨n6,rfl,hn6⟩,rfl⟩;obtain ⟨PA,SN⟩:∃PA,qW k=PA:=⟨_,rfl⟩;have OX:gB≠gP:=fun e=>by have:=BB.ty.one (e▸hP.ty);revert this;decide
   go_upto_if 83 with fail;go_cut [] (fun w'=>ak w' gP (j4.enc PA) 69∧jV.Own 3 w' w.heap.size x (gI k)∧Below w.heap.size w w');case first=>
    rcases hn6 with ⟨j,hj,rfl,h6,-⟩ | ⟨rfl,hno⟩
    ·have hjn:j<n:=by rw [←hdl.out];exact hj
     have hj0:(0:Int)≤(j:Int):=by omega
     have VU:(j:Int)<8:=by omega
     have Cw:j<8:=by omega
     have hpk:qW k=vD (uE k j).v ⟨(uE k j).ut,(uE k j).fl,(uE k j).og⟩:=Rx h8k (by rw [List.getElem?_eq_getElem hj,h6]);have hR:=uD (K:=aV) (j:=j) BB Pf;have e5:(jw (uE k) au n)[j]? = some (uE k j):=by rw [j5 Cw,if_pos hjn]
     rw [(List.getElem?_eq_some_iff.1 e5).2] at hR;obtain ⟨R1,hR1⟩:∃R1,uE k j=R1:=⟨_,rfl⟩;rw [hR1] at hR hpk;rw [SN] at hpk;replace hpk:=hid hpk;clear e5 hR1 h6;go_upto_region 17 with fail;have hbd:=Below.drew (Below.refl w9.heap.size w9);have ltB:=BB.lt;have WL:∀wx,Below w9.drew.heap.size w9.drew wx→wx.rangeAt gB (j*17) (aV.enc R1):=fun wx hx i v hi=>by rw [hx.cell (p:=⟨gB,j*17+i,none⟩) ltB];exact hR i v hi
     replace hP:=hP.below hbd;replace hX:=hX.below hbd;replace hb:=ah hb hbd;refine eU (S:=fun w'=>Below w9.drew.heap.size w9.drew w') (z:=9) aW ?_;have hHeld:=Below.refl w9.drew.heap.size w9.drew;generalize w9.drew=wd at *;clear hbd hR
     have d0:∀wx,Below wd.heap.size wd wx→wx.rangeAt gB (j*17) (kg.enc R1.v):=fun wx hx i v hi=>WL wx hx i v (by
      have hi2:(dF R1.v)[i]? = some v:=hi
      show (dF R1.v++_)[i]? = some v
      rw [List.getElem?_append_left (List.getElem?_eq_some_iff.1 hi2).1]
      exact hi2)
     have d1:∀wx,Below wd.heap.size wd wx→wx.rangeAt gB (j*17+11) (tmK.enc ⟨R1.ut,R1.fl,R1.og⟩):=fun wx hx i v hi=>by
      have hi3:i<3:=(List.getElem?_eq_some_iff.1 hi).1;rw [Nat.add_assoc];refine WL wx hx (11+i) v ?_;rcases i with _ | _ | _ | i
      ·exact hi
      ·exact hi
      ·exact hi
      ·omega
     refine tz [0,1,2] hHeld ?_;refine zt 3 hHeld ?_ (hy:=fun wx hwx=>vecT.exec (.tmp 86) rfl gB (j*17) rfl R1.v (d0 wx hwx));refine tz [4,5,6] hHeld ?_;refine zt 7 hHeld ?_ (hy:=fun wx hwx=>tmT.exec (.tmp 90) rfl gB (j*17+11) rfl ⟨R1.ut,R1.fl,R1.og⟩ (d1 wx hwx));refine aZ 8 fun K' hK=>?_;go_simp;refine (VD R1.v ⟨R1.ut,R1.fl,R1.og⟩ wd).mono ?_;rintro e wf ⟨rfl,bf⟩;refine hK _ _ bf ?_;clear hK K' hHeld;have hHeld:=bf;replace hP:=hP.below bf;replace hX:=hX.below bf;replace hb:=ah hb bf;clear bf;try simp only [Act.put,zI,bG,zS]
     refine aE 9 fun K' hK=>?_;refine xV.dS (.tmp 12) (.tmp 92) rfl gP (vD R1.v ⟨R1.ut,R1.fl,R1.og⟩) (eH k.c) _ rfl rfl hP ?_;refine hK _ _ ?_;clear hK K' hHeld d0 d1 WL;have hPf:=hP.fB (j4.enc (vD R1.v ⟨R1.ut,R1.fl,R1.og⟩));have oP:=(Only.refl gP wf).row (j4.enc (vD R1.v ⟨R1.ut,R1.fl,R1.og⟩)).toArray;have hXf:=RowK.Own.base (RowK.Own.only hX oP hP aX) hbase;have hbf:=below_setRow hb lP (j4.enc (vD R1.v ⟨R1.ut,R1.fl,R1.og⟩)).toArray;go_wp2_with fail;go_meet;exact ⟨by rw [hpk.out];exact hPf,hXf,hbf⟩
    ·have hpk:qW k=eH k.c:=Ke h8k hno;rw [SN] at hpk;replace hpk:=hid hpk;go_wp2_with fail;go_meet;exact ⟨by rw [hpk.out];exact hP,RowK.Own.base hX aJ,hb⟩
   clear hP hX hb BB hn6;obtain ⟨hP,hX,hb⟩:=hcut;obtain ⟨Wu,hw10⟩:∃Wu,Wu=wc:=⟨_,rfl⟩;subst hw10;obtain ⟨V,hV⟩:∃V,(PA.pc == k.pa.pc && PA.pp == k.pa.pp)=V:=⟨_,rfl⟩;have E2:∀wx:World,(Op.equalIn 10000 54 (.agg (iw.enc (PA.pc,PA.pp)).toArray) (.agg (iw.enc (k.pa.pc,k.pa.pp)).toArray)).run prog wx=.ok V wx:=fun wx=>by rw [←hV];exact xW (PA.pc,PA.pp) (k.pa.pc,k.pa.pp) wx
   have hst:0≤PA.st∧PA.st≤255:=by rw [←SN];exact (Ii hI).st
   have hdK:=GD h8k SN hV;replace hdK:=hid hdK;clear hV SN;go_upto_region 18 with fail;have hbd:=Below.drew (Below.refl Wu.heap.size Wu);replace hP:=hP.below hbd;replace hX:=hX.below hbd;replace hb:=ah hb hbd;have Lr:=L.below hb;refine fD aW aW ?_;generalize Wu.drew=wd at *;clear hbd;have RP:=hid (show wd.rangeAt gP 0 (iw.enc (PA.pc,PA.pp)) from ak.bB [] (iw.enc (PA.pc,PA.pp)) ((rz PA).drop 2) hP);have RK:=hid (show wd.rangeAt g 33 (iw.enc (k.pa.pc,k.pa.pp)) from ak.bB ((fI hs sv fl k).take 33) (iw.enc (k.pa.pc,k.pa.pp)) ((fI hs sv fl k).drop 35) Lr.box);refine so ?_;refine Dc.still (op:=⟨some 94,.load _ _,_,_,_,_⟩) bn _ bn gP 0 bn ((PA.pc,PA.pp)) (RP.out) ?_;try simp only [Act.put,zI,bG,zS]
   iterate 4 refine so ?_
   refine Dc.still (op:=⟨some 99,.load _ _,_,_,_,_⟩) bn _ bn g 33 bn ((k.pa.pc,k.pa.pp)) (RK.out) ?_;try simp only [Act.put,zI,bG,zS]
   refine so ?_;refine so ?_;refine bM ?_;clear E2 RP RK;have Oa:=p8 Lr hlen.out;rw [hn.out] at Oa;have hfm:=hI.fl;obtain ⟨px,capx,rfl,hcapx,hmaxx,-⟩:=hX.reads.Ni;have Q:bW (aK g F) w wd:=bW.of_below hb;go_wp2_with fail;refine Oa.mono ?_;rintro e w11 ⟨rfl,b11⟩;replace hP:=hP.below b11;replace hX:=hX.below b11;replace Q:=Q.bel b11;replace Lr:=Lr.below b11;clear Oa b11 hb;go_wp2_with fail;rw [←qY (f:=fun i p=>dX k.c PA.st V ((gI k).getD i 0) p) (k:=k)] at Lr;have hdn:((gI k).length:Int)=(n:Int):=by rw [hdl.out]
   go_loopw [104] (fun iv wr=>∃j:Nat,j≤n∧iv=.int .i64 (j:Int)∧Lay wr g hs sv fl bs F (iH (fun i p=>dX k.c PA.st V ((gI k).getD i 0) p) k j)∧ak wr gP (j4.enc PA) 69∧jV.Own 3 wr w.heap.size (.slice px (gI k).length capx) (gI k)∧bW (aK g F) w wr) (fun iv _=>n - (intOf iv).toNat);case atStart=>exact ⟨0,Nat.zero_le _,rfl,Lr,hP,hX,Q⟩
   case round=>
    clear Lr hP hX Q;obtain ⟨j,hj,rfl,Lr,hP,hX,Q⟩:=hrel;by_cases hj2:j<n
    ·have Zw:(j:Int)<(n:Int):=by omega
     have hjD:(j:Int)<((gI k).length:Int):=by omega
     have hjd:j<(gI k).length:=by rw [hdl.out];exact hj2
     have Cw:j<8:=by omega
     have VU:(j:Int)<8:=by omega
     have hjl:j<k.ls.length:=by rw [hn.out];exact hj2
     obtain ⟨h',b',H'⟩:=Lr.jP (i:=j) (by rw [p9];exact hjl);obtain ⟨p',hp'⟩:∃p',k.ls[j]? = some p':=⟨_,List.getElem?_eq_getElem hjl⟩;have kp:=Lr.kp H'.hh;have LP:=Lr.jR (mG hp');obtain ⟨d',hd'⟩:∃d',(gI k)[j]=d':=⟨_,rfl⟩;obtain ⟨p2,cap2,he,-,-,hat⟩:=hX.reads.Ni;obtain ⟨bx,ox,hpe,hlx,hcx⟩:=j6.pos hat aJ;have hcd:=hcx j hjd;rw [hd'] at hcd;have he2:px=some ⟨bx,ox,none⟩:=by simp only [Value.slice.injEq] at he;rw [he.1,hpe]
     subst he2;clear he hpe hat hcx;go_upto_region 22 with fail;have hbd:=Below.drew (Below.refl wr.heap.size wr);replace LP:=LP.below hbd;replace Lr:=Lr.below hbd;replace hP:=hP.below hbd;replace hX:=hX.below hbd;replace Q:=Q.bel hbd;have ZV:wr.drew.cell? ⟨bx,ox+j,none⟩=some (.int .i64 d'):=hcd;clear hcd kp;refine eU (S:=fun w'=>w'=wr.drew) (z:=9) aW ?_;have hHeld:wr.drew=wr.drew:=rfl;generalize wr.drew=wd2 at *;clear hbd;have d0:∀wx,wx=wd2→wx.cell? ⟨bx,ox+j,none⟩=some (.int .i64 d'):=fun wx hx=>by subst hx;exact ZV
     have d1:∀wx,wx=wd2→wx.cell? ⟨gP,8,none⟩=some (.int .i64 PA.st):=fun wx hx=>by subst hx;exact hP.cell 8 _ rfl
     refine tz [0,1] hHeld ?_;refine jX 2 [5,4] rfl bn aW aW aW aW (fun _ _ _ h=>h) hHeld (fun wx hwx=>by go_simp;try with_reducible rfl) ?_;try simp only [Act.put,zI,bG,zS]
     refine jX 3 [5,4] rfl bn aW aW aW aW (fun _ _ _ h=>h) hHeld (fun wx hwx=>by go_simp;try with_reducible rfl) ?_;try simp only [Act.put,zI,bG,zS]
     refine jX 4 [5] rfl bn aW aW aW aW (fun _ _ _ h=>h) hHeld (fun wx hwx=>by go_simp;try with_reducible rfl) ?_;try simp only [Act.put,zI,bG,zS]
     refine tz [5,6] hHeld ?_;refine aZ 7 fun K' hK=>?_;go_simp;refine hK _ _ hHeld ?_;clear hK K';try simp only [Act.put,zI,bG,zS]
     refine tz [8] hHeld ?_;refine aE 9 fun K' hK=>?_;clear d0 d1;go_simp;refine (Kj LP H' hcf d' V PA.st hst).mono ?_;rintro e w12 ⟨rfl,L2,q2⟩;refine hK _ _ ?_;clear hK K' hHeld ZV;replace Q:=Q.next q2;replace hP:=hP.Cy Lr aX q2;replace hX:=RowK.Own.qH hX Lr aX q2;have ef:dX k.c PA.st V ((gI k).getD j 0) p'=dX k.c PA.st V d' p':=by rw [List.getD_eq_getElem?_getD,List.getElem?_eq_getElem hjd,hd'];rfl
     have L3:Lay w12 g hs sv fl bs F (aO (iH (fun i p=>dX k.c PA.st V ((gI k).getD i 0) p) k j) j (dX k.c PA.st V ((gI k).getD j 0) p')):=by rw [ef];exact L2
     rw [←qZ (f:=fun i p=>dX k.c PA.st V ((gI k).getD i 0) p) hp'] at L3;replace L3:=hid L3;clear ef q2 LP Lr L2 hd';go_wp2_with fail;go_roundw;case rel=>exact ⟨j+1,hj2,by go_num,L3.out,hP,hX,Q⟩
     case measure=>simp [intOf];omega
    ·obtain rfl:n=j:=by omega
     rw [um (by rw [hn.out];exact Nat.le_refl _)] at Lr;obtain ⟨KD,WQ⟩:∃KD,({ k with ls:=k.ls.mapIdx fun i p=>dX k.c PA.st V ((gI k).getD i 0) p }:Kz)=KD:=⟨_,rfl⟩;rw [WQ] at Lr;replace WQ:=hid WQ;have hfk:LM KD.fl:=by rw [←WQ.out];exact hfm
     cases V
     ·go_wp2_with fail;refine (xY Lr hfk).mono ?_;rintro e w13 ⟨rfl,L2,q2⟩;replace Q:=Q.next q2;replace hP:=hP.Cy Lr aX q2;clear q2 hX;have RP:=hP.b_;have hB:=L2.box;go_wp2_with (first | (refine aD 125 ?_;refine xV.aL gP 0 PA RP ?_) | (refine aN ?_;refine xV.aM g 33 (PA) hB Pk ?_));obtain ⟨L3,q3⟩:=L2.parent PA;go_end0;try rw [←WQ.out] at L3
      exact ⟨rfl,by rw [hdK.out];exact L3,Q.next q3⟩
     ·have L2:=Lr;clear hX;have RP:=hP.b_;have hB:=L2.box;go_wp2_with (first | (refine aD 125 ?_;refine xV.aL gP 0 PA RP ?_) | (refine aN ?_;refine xV.aM g 33 (PA) hB Pk ?_));obtain ⟨L3,q3⟩:=L2.parent PA;go_end0;try rw [←WQ.out] at L3
      exact ⟨rfl,by rw [hdK.out];exact L3,Q.next q3⟩
end
section
variable {w:World} {g:Nat} {hs:List Nat} {sv fl:Nat} {bs:List PL} {F:Nat→Prop} {k:Kz} {i h:Nat} {b:PL} {p:Pt}
theorem RI (k:Kz) (i:Nat) (p q:Pt):({ aO k i p with ls:=(aO k i p).ls.set i q }:Kz)=aO k i q:=by unfold aO;simp
section
variable {m:Hd×Bd} {now D q:Int}
end
theorem eD.KJ {k:Kz} (h:eD k n) (hn:n≤jQ):EU k.sv:=by
 obtain ⟨⟨h1,h2,h3,h4,h5,h6,-⟩,h7,h8⟩:=h.sv;refine ⟨h1,h2,h3,h4,h5,h6,h7,?_⟩;have:(n:Int)≤4611686018427387904:=by unfold jQ at hn;omega
 omega
end
section
variable {w:World} {g:Nat} {hs:List Nat} {sv fl:Nat} {bs:List PL} {F:Nat→Prop} {k:Kz} {i h:Nat} {b:PL} {p:Pt}
def vW (p:Pt):List Rc×List ((Int×Int)×List Int):=(p.tab.l,p.kK)
def sV (l:List Pt) (a:Int×Int):List Int:=match l.find? (iQ a) with
 | some p=>rZ p.kK a
 | none=>[]
theorem RJ {p q:Pt} (h:vW p=vW q) (a:Int×Int):iQ a p=iQ a q:=by have h1:p.tab.l=q.tab.l:=congrArg Prod.fst h;unfold iQ;rw [h1]
theorem yu (a:Int×Int):∀(l m:List Pt),l.map vW=m.map vW→sV l a=sV m a
 | [],[],_=>rfl
 | [],_::_,h=>by cases h
 | _::_,[],h=>by cases h
 | p::l,q::m,h=>by
  rw [List.map_cons,List.map_cons] at h
  injection h with h1 h2
  have ih:=yu a l m h2
  have e:=RJ h1 a
  unfold sV at ih ⊢
  by_cases hq:iQ a q=true
  ·rw [List.find?_cons_of_pos hq,List.find?_cons_of_pos (e.trans hq)]
   show rZ p.kK a=rZ q.kK a
   rw [show p.kK=q.kK from congrArg Prod.snd h1]
  ·rw [List.find?_cons_of_neg hq,List.find?_cons_of_neg (by rw [e];exact hq)]
   exact ih
theorem Aa {k k':Kz} (h1:k'.c.tr=k.c.tr) (h2:k'.c.cl=k.c.cl) (h3:k'.pa.pc=k.pa.pc) (h4:k'.pa.pp=k.pa.pp) (h5:k'.ls.map vW=k.ls.map vW):jr k'=jr k:=by
 have e:eG k'=eG k:=by show sV k'.ls (k'.pa.pc,k'.pa.pp)=sV k.ls (k.pa.pc,k.pa.pp);rw [h3,h4];exact yu _ _ _ h5
 unfold jr;rw [e,h1,h2]
theorem Oc {q:Pt} (h:vW q=vW p):jr (aO k i q)=jr (aO k i p):=Aa rfl rfl rfl rfl (by
 show (k.ls.set i q).map vW=(k.ls.set i p).map vW
 rw [List.map_set,List.map_set,h])
theorem yx (i:Nat) (m:Hd×Bd) (l:List T2) (want:Bool):(iY i m l want).length≤1:=by unfold iY;split <;> simp
theorem Cq (k:Kz) (i:Nat) (p:Pt):(eX k i p).2.length≤1:=by
 unfold eX;split
 ·split
  ·exact yx _ _ _ _
  ·exact Nat.zero_le _
 ·exact Nat.zero_le _
theorem IG (k:Kz) (i:Nat) (now:Int) (p:Pt):(ig k i now p).2.length≤1:=by
 unfold ig;split
 ·split
  ·exact yx _ _ _ _
  ·exact Nat.zero_le _
 ·exact Nat.zero_le _
theorem Od (k:Kz) (i:Nat) (p:Pt):(eX k i p).1.st=p.st∧vW (eX k i p).1=vW p:=by
 unfold eX;split
 ·split <;> exact ⟨rfl,rfl⟩
 ·exact ⟨rfl,rfl⟩
theorem Oe (k:Kz) (i:Nat) (now:Int) (p:Pt):(ig k i now p).1.st=p.st∧vW (ig k i now p).1=vW p:=by
 unfold ig;split
 ·split <;> exact ⟨rfl,rfl⟩
 ·exact ⟨rfl,rfl⟩
theorem eD.aO {n:Nat} {q:Pt} (h:eD (aO k i p) n) (hi:i<k.ls.length) (hq:bN p→bN q∧q.x.me=p.x.me∧q.y.me=p.y.me):eD (Go.Proofs.YtofhdhgfcomhiaaGreat.aO k i q) n:=by have h2:=h.set (i:=i) (p:=p) (q:=q) (mE hi p) hq;rwa [RI] at h2
theorem Og (L:Lay w g hs sv fl bs F (aO k i p)) (H:Hand k hs bs i h b) {s B:Nat} {now:Int} {os:List Ot} (A:aY w s B g now os) (hBw:B≤w.heap.size) {n:Nat} (hI:eD (aO k i p) n) (nN:fO now) (hos:os.length≤900):Calls prog 70 #[.pointer (some ⟨s,0,none⟩),.pointer (some ⟨h,0,none⟩)] w fun e w'=>e=.returned (.tuple #[])∧Lay w' g hs sv fl bs F (aO k i ((dI (aO k i p) i now p).1))∧aY w' s B g now (os++(dI (aO k i p) i now p).2)∧dx B (aK g F) w w':=by
 have hin:bN p:=hI.at (mE H.hi p);have hi:i<8:=by have h1:=L.ps.l8;have h2:=H.hi;rw [kG] at h1;omega
 obtain ⟨K,R5⟩:∃K,aO k i p=K:=⟨_,rfl⟩;have hself:=hid (hI.self i p (mE H.hi p));rw [R5];have hos1:os.length≤1000:=by omega
 have hos2:(os++(eX K i p).2).length≤1000:=by rw [List.length_append];have:=Cq K i p;omega
 have O4:(os++(eX K i p).2++(ig K i now (eX K i p).1).2).length≤1000:=by rw [List.length_append,List.length_append];have:=Cq K i p;have:=IG K i now (eX K i p).1;omega
 replace R5:=hid R5;replace hI:=hid hI;have vv:=hid hBw;have A0:=A;have L0:=L;have Q:dx B (aK g F) w w:=dx.refl _ _ w;obtain ⟨Cv,ov,hS,oA⟩:=A;have A:aY w s B g now os:=⟨Cv,ov,hS,oA⟩;have X:=hS;clear oA Cv;go_enter func70,ntmps70;have R:w.rangeAt g 0 (bT.enc k.c):=ak.bB ((fI hs sv fl (aO k i p)).take 0) (bT.enc k.c) ((fI hs sv fl (aO k i p)).drop 23) L.box;have z:=aA w (Obj.cells (bT.enc zeroC).toArray 28);have hN:=ak.new w (bT.enc zeroC) 28;have hlt:g<w.heap.size:=L.box.lt;replace R:(w.alloc (Obj.cells (bT.enc zeroC).toArray 28)).rangeAt g 0 (bT.enc k.c):=fun j v hj=>by rw [z.cell (p:=⟨g,0+j,none⟩) hlt];exact R j v hj
 have cs:=hS.cell 0 _ rfl;go_upto_region 1 with (first | (refine aD 11 ?_;refine lJ.aL g 0 (k.c) (fun j v hj=>by first | exact R j v hj | (rw [←z.cell (p:=⟨g,0+j,none⟩) hlt];exact R j v hj)) ?_) | (refine aN ?_;refine lJ.aS (w.heap.size) (k.c) (zeroC) hN ?_));have qb:=below_setRow z (Nat.le_refl _) (bT.enc k.c).toArray;replace hN:=hN.fB (bT.enc k.c);change Code.wp prog _ _ _ ((w.alloc (Obj.cells (bT.enc zeroC).toArray 28)).setRow w.heap.size (bT.enc k.c).toArray);clear R z cs hlt;replace L:=L.below qb;replace Q:=Q.bel qb;replace A:=A.below qb;replace X:=X.below qb;replace hS:=hS.below qb;clear qb;generalize (w.alloc (Obj.cells (bT.enc zeroC).toArray 28)).setRow w.heap.size (bT.enc k.c).toArray=W at *;generalize w.heap.size=gc at *;clear X hS;by_cases h6:p.st=6
 ·have b6:(p.st == 6)=true:=by rw [h6];rfl
  have hs6:=hid h6;clear h6;have c2:=L.pc H 2 (.int .i64 p.st) (fun _=>rfl);have cT:=L.pc H 7 (.int .i64 p.ta) (fun _=>rfl);have fT:=L.pf H 7;go_wp2_with fail;clear c2;refine (mM h 7 p.ta _ cT fT (hin.ta)).mono ?_;rintro e W1 ⟨rfl,hw⟩;have WV:=hN.lt;obtain ⟨L2,q2⟩:=L.qG H 7 hw (q:={ p with ta:=dw p.ta }) (fun _=>rfl) rfl rfl rfl rfl rfl (fun e=>Rj (p:=p) e);replace A:=A.qH L q2;replace Q:=Q.qH q2;replace hN:=hN.Cy L aX q2;replace L:=L2;clear L2 q2 hw cT fT WV;obtain ⟨V,hV⟩:∃V,(p.ta == 1)=V:=⟨_,rfl⟩;rw [hV];replace hV:=hid hV;go_upto_if 22 with fail;go_cut [] (fun w'=>Lay w' g hs sv fl bs F (aO k i (eX K i p).1)∧aY w' s B g now (os++(eX K i p).2)∧dx B (aK g F) w w'∧ak w' gc (bT.enc k.c) 28);case first=>
   cases V
   ·have h1:¬p.ta=1:=fun e=>by have h2:=hV.out;rw [e] at h2;cases h2
    have er:eX K i p=({ p with ta:=dw p.ta },[]):=by unfold eX;rw [if_pos hs6.out,if_neg h1]
    replace er:=hid er;replace h1:=hid h1;go_wp2_with fail;go_meet;rw [er.out];exact ⟨L,by show aY _ s B g now (os++[]);rw [List.append_nil];exact A,Q,hN⟩
   ·have h1:p.ta=1:=by have h2:=hV.out;simpa using h2
    have et:dw p.ta=0:=by rw [h1];rfl
    rw [et] at L;have er:eX K i p=({ p with na:=bR p.na,ta:=bH (bF k.c.la) },iY i (wR k.c k.pa ((i:Int)+1) p.na) (jr (aO k i p)) false):=by unfold eX;rw [if_pos hs6.out,if_pos h1];rw [←R5.out];rfl
    replace er:=hid er;replace h1:=hid h1;clear et;go_wp2_with fail;have S_:=hN;refine (Cm L H A (Nat.le_trans vv.out (Nat.le_of_lt hN.lt)) (n:=n) (hI.out.aO H.hi (fun h=>⟨{ h with ta:=InT.zero },rfl,rfl⟩)) hi hos1).mono ?_;rintro e W2 ⟨rfl,L2,A2,Q2⟩;replace hN:=hN.KM L aX aX aX Q2;replace Q:=Q.next Q2;replace L:=L2;replace A:=A2;clear L2 A2 Q2 S_;rw [Oc (show vW { p with ta:=0 }=vW p from rfl)] at A;go_upto_region 3 with fail;have hbd:=Below.drew (Below.refl W2.heap.size W2);replace L:=L.below hbd;replace A:=A.below hbd;replace Q:=Q.bel hbd;replace hN:=hN.below hbd;refine eU (S:=fun w'=>w'=W2.drew) (z:=6) aW ?_;have hHeld:W2.drew=W2.drew:=rfl;generalize W2.drew=wd at *;clear hbd;have d0:∀wx,wx=wd→wx.cell? ⟨gc,9,none⟩=some (.int .i64 k.c.la):=fun wx hx=>by subst hx;exact hN.cell 9 _ rfl
    have cT:=L.pc H 7 _ (fun _=>rfl);have fT:=L.pf H 7;refine jX 0 [2,1] rfl bn aW aW aW aW (fun _ _ _ h=>h) hHeld (fun wx hwx=>by go_simp;try with_reducible rfl) ?_;try simp only [Act.put,zI,bG,zS]
    refine jX 1 [2] rfl bn aW aW aW aW (fun _ _ _ h=>h) hHeld (fun wx hwx=>by go_simp;try with_reducible rfl) ?_;try simp only [Act.put,zI,bG,zS]
    refine tz [2] hHeld ?_;refine aZ 3 fun K' hK=>?_;go_simp;refine hK _ _ hHeld ?_;clear hK K';try simp only [Act.put,zI,bG,zS]
    refine aZ 4 fun K' hK=>?_;go_simp;refine hK _ _ hHeld ?_;clear hK K';try simp only [Act.put,zI,bG,zS]
    refine aZ 5 fun K' hK=>?_;go_simp;refine (iF k.c.la wd).mono ?_;rintro e wz ⟨rfl,hz⟩;obtain rfl:=hz;refine hK _ _ hHeld ?_;clear hK K';try simp only [Act.put,zI,bG,zS]
    refine aE 6 fun K' hK=>?_;go_simp;refine (g_ h 7 _ _ wd cT fT).mono ?_;rintro e wS ⟨rfl,hwS⟩;refine hK _ _ ?_;clear hK K' d0;obtain ⟨L3,q3⟩:=L.cell H 7 (.int .i64 (bH (bF k.c.la))) (q:={ { { p with ta:=0 } with na:=bR p.na } with ta:=bH (bF k.c.la) }) (fun _=>rfl) rfl rfl rfl rfl rfl;go_wp2_with fail;go_meet;rw [er.out];exact ⟨L3,A.qH L q3,Q.qH q3,hN.Cy L aX q3⟩
  clear L A Q hN hV;obtain ⟨L,A,Q,hN⟩:=hcut;have ha:=Od K i p;have hg:=FU (k:=K) (i:=i) hin;obtain ⟨p1,hp1⟩:∃p1,(eX K i p).1=p1:=⟨_,rfl⟩;rw [hp1] at L ha hg O4;replace hp1:=hid hp1;have Uy:=hin;obtain ⟨hin,RL⟩:=hg;have Jk:p1.st=6:=ha.1.trans hs6.out;replace ha:=hid ha;replace RL:=hid RL;have b6':(p1.st == 6)=true:=by rw [Jk];rfl
  clear hs6 b6;have hs6:=hid Jk;have b6:=b6';clear Jk b6';have c2:=L.pc H 2 (.int .i64 p1.st) (fun _=>rfl);have cT:=L.pc H 8 (.int .i64 p1.ts) (fun _=>rfl);have fT:=L.pf H 8;go_wp2_with fail;clear c2;refine (mM h 8 p1.ts _ cT fT (hin.ts)).mono ?_;rintro e W1 ⟨rfl,hw⟩;have WV:=hN.lt;obtain ⟨L2,q2⟩:=L.qG H 8 hw (q:={ p1 with ts:=dw p1.ts }) (fun _=>rfl) rfl rfl rfl rfl rfl (fun e=>Rl (p:=p1) e);replace A:=A.qH L q2;replace Q:=Q.qH q2;replace hN:=hN.Cy L aX q2;replace L:=L2;clear L2 q2 hw cT fT WV;obtain ⟨V,hV⟩:∃V,(p1.ts == 1)=V:=⟨_,rfl⟩;rw [hV];replace hV:=hid hV;go_upto_if 43 with fail;go_cut [] (fun w'=>Lay w' g hs sv fl bs F (aO k i (ig K i now p1).1)∧aY w' s B g now ((os++(eX K i p).2)++(ig K i now p1).2)∧dx B (aK g F) w w'∧ak w' gc (bT.enc k.c) 28);case first=>
   cases V
   ·have h1:¬p1.ts=1:=fun e=>by have h2:=hV.out;rw [e] at h2;cases h2
    have er:ig K i now p1=({ p1 with ts:=dw p1.ts },[]):=by unfold ig;rw [if_pos hs6.out,if_neg h1]
    replace er:=hid er;replace h1:=hid h1;go_wp2_with fail;go_meet;rw [er.out];exact ⟨L,by show aY _ s B g now ((os++(eX K i p).2)++[]);rw [List.append_nil];exact A,Q,hN⟩
   ·have h1:p1.ts=1:=by have h2:=hV.out;simpa using h2
    have et:dw p1.ts=0:=by rw [h1];rfl
    rw [et] at L;have er:ig K i now p1=({ p1 with ns:=bR p1.ns,ts:=bH (bF k.c.ls) },iY i (Bw k.c i p1.ns now) [] (!k.c.os)):=by unfold ig;rw [if_pos hs6.out,if_pos h1];rw [←R5.out];rfl
    replace er:=hid er;replace h1:=hid h1;clear et;go_wp2_with fail;have S_:=hN;refine (NM L H A (Nat.le_trans vv.out (Nat.le_of_lt hN.lt)) { hin with ts:=InT.zero } hI.out.cf hI.out.cl hi nN hos2).mono ?_;rintro e W2 ⟨rfl,L2,A2,Q2⟩;replace hN:=hN.KM L aX aX aX Q2;replace Q:=Q.next Q2;replace L:=L2;replace A:=A2;clear L2 A2 Q2 S_;go_upto_region 6 with fail;have hbd:=Below.drew (Below.refl W2.heap.size W2);replace L:=L.below hbd;replace A:=A.below hbd;replace Q:=Q.bel hbd;replace hN:=hN.below hbd;refine eU (S:=fun w'=>w'=W2.drew) (z:=6) aW ?_;have hHeld:W2.drew=W2.drew:=rfl;generalize W2.drew=wd at *;clear hbd;have d0:∀wx,wx=wd→wx.cell? ⟨gc,10,none⟩=some (.int .i64 k.c.ls):=fun wx hx=>by subst hx;exact hN.cell 10 _ rfl
    have cT:=L.pc H 8 _ (fun _=>rfl);have fT:=L.pf H 8;refine jX 0 [2,1] rfl bn aW aW aW aW (fun _ _ _ h=>h) hHeld (fun wx hwx=>by go_simp;try with_reducible rfl) ?_;try simp only [Act.put,zI,bG,zS]
    refine jX 1 [2] rfl bn aW aW aW aW (fun _ _ _ h=>h) hHeld (fun wx hwx=>by go_simp;try with_reducible rfl) ?_;try simp only [Act.put,zI,bG,zS]
    refine tz [2] hHeld ?_;refine aZ 3 fun K' hK=>?_;go_simp;refine hK _ _ hHeld ?_;clear hK K';try simp only [Act.put,zI,bG,zS]
    refine aZ 4 fun K' hK=>?_;go_simp;refine hK _ _ hHeld ?_;clear hK K';try simp only [Act.put,zI,bG,zS]
    refine aZ 5 fun K' hK=>?_;go_simp;refine (iF k.c.ls wd).mono ?_;rintro e wz ⟨rfl,hz⟩;obtain rfl:=hz;refine hK _ _ hHeld ?_;clear hK K';try simp only [Act.put,zI,bG,zS]
    refine aE 6 fun K' hK=>?_;go_simp;refine (g_ h 8 _ _ wd cT fT).mono ?_;rintro e wS ⟨rfl,hwS⟩;refine hK _ _ ?_;clear hK K' d0;obtain ⟨L3,q3⟩:=L.cell H 8 (.int .i64 (bH (bF k.c.ls))) (q:={ { { p1 with ts:=0 } with ns:=bR p1.ns } with ts:=bH (bF k.c.ls) }) (fun _=>rfl) rfl rfl rfl rfl rfl;go_wp2_with fail;go_meet;rw [er.out];exact ⟨L3,A.qH L q3,Q.qH q3,hN.Cy L aX q3⟩
  clear L A Q hN hV;obtain ⟨L,A,Q,hN⟩:=hcut;have ha2:=Oe K i now p1;have hg:=FV (k:=K) (i:=i) (now:=now) hin;obtain ⟨p2,hp2⟩:∃p2,(ig K i now p1).1=p2:=⟨_,rfl⟩;rw [hp2] at L ha2 hg;replace hp2:=hid hp2;obtain ⟨hin2,VW⟩:=hg;have hme:=hid (show p2.x.me=nu k.c i∧p2.y.me=nu k.c i from ⟨(VW.1.trans RL.out.1).trans hself.out.1,(VW.2.trans RL.out.2).trans hself.out.2⟩);clear VW ha2;obtain ⟨W3,hW3⟩:∃W3,W3=wc:=⟨_,rfl⟩;exact mq1
 ·have b6:(p.st == 6)=false:=nq h6;obtain ⟨p1,hp1⟩:∃p1,(eX K i p).1=p1:=⟨_,rfl⟩;have ea:eX K i p=(p,[]):=by unfold eX;rw [if_neg h6]
  have WR:p1=p:=by rw [←hp1,ea]
  obtain ⟨p2,hp2⟩:∃p2,(ig K i now p1).1=p2:=⟨_,rfl⟩;have es:ig K i now p1=(p1,[]):=by unfold ig;rw [WR,if_neg h6]
  have RN:p2=p:=by rw [←hp2,es];exact WR
  have A':aY W s B g now (os++(eX K i p).2++(ig K i now p1).2):=by rw [ea,es];show aY W s B g now (os++[]++[]);rw [List.append_nil,List.append_nil];exact A
  rw [hp1] at O4;have hin2:bN p2:=by rw [RN];exact hin
  have hme:p2.x.me=nu k.c i∧p2.y.me=nu k.c i:=by rw [RN];exact hself.out
  have L':Lay W g hs sv fl bs F (aO k i p2):=by rw [RN];exact L
  have b6':(p2.st == 6)=false:=by rw [RN];exact b6
  replace A:=A';replace L:=L';replace hp1:=hid hp1;replace hp2:=hid hp2;clear ea es WR A' L' h6 b6;have c2:=L.pc H 2 (.int .i64 p2.st) (fun _=>rfl);replace RN:=hid RN;replace hme:=hid hme;obtain ⟨W3,hW3⟩:∃W3,W3=W:=⟨_,rfl⟩;exact mq1
end
section
variable {w:World} {g:Nat} {hs:List Nat} {sv fl:Nat} {bs:List PL} {F:Nat→Prop} {k:Kz} {i h:Nat} {b:PL} {p:Pt}
theorem RowK.Own.KM {K:RowK α} {Bo:Nat} {l:List α} {hs:List Nat} {sv fl:Nat} {bs:List PL} {F:Nat→Prop} {k:Kz} (h:K.Own t w Bo v l) (L:Lay w g hs sv fl bs F k) (ht:vG t=false) (h1:t≠OL) (h2:t≠Ce) (hc:dx B (aK g F) w w'):K.Own t w' Bo v l:=h.same fun m hm=>hc.block m (RowK.Own.ty h hm).1.lt (L.no (RowK.Own.ty h hm).1 ht) (.inr fun h3=>by
 rcases h3 with h3 | h3
 ·exact h1 ((RowK.Own.ty h hm).1.one h3)
 ·exact h2 ((RowK.Own.ty h hm).1.one h3))
section
variable {m:Hd×Bd} {l:List T2} {j:Nat}
end
end
def ZW (c:Cf):Prop:=0≤c.cl∧c.cl<18446744073709551616
def CDef:Prop:=∀(cl:Int) (w:World),0≤cl∧cl<18446744073709551616 →
 Calls prog 34 #[.int .u64 cl] w fun e w'=>e=.returned (.agg (cfL (CQ cl)).toArray)∧Below w.heap.size w w'
def CChk:Prop:=∀(c:Cf) (w:World),ZW c →
 Calls prog 28 #[.agg (cfL c).toArray] w fun e w'=>e=.returned (.int .i64 (bP c))∧Below w.heap.size w w'
end Go.Proofs.YtofhdhgfcomhiaaGreat
