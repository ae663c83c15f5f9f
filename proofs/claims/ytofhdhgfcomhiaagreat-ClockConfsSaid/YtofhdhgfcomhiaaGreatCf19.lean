/- Of what laws of the clock want, part 19: ClkPth ClkSnd ClkStp2 Hop4 TlvOwn3 (mini.py). -/
import Derived.Test.YtofhdhgfcomhiaaGreatCf18
namespace Go.Proofs.YtofhdhgfcomhiaaGreat
open Go.RowKit Go.Proofs
set_option maxRecDepth 100000
set_option maxHeartbeats 100000000
set_option linter.unusedVariables false
set_option linter.unusedSimpArgs false
open Tryz
variable {B:Nat} {P:Program} {Q:Exit→Act→World→Prop} {S:World→Prop} {a:Act} {b:Nat} {base:Nat} {cap:Nat} {fuel:Nat} {g:Nat} {h:Nat} {i:Nat} {l:List UInt8} {listed:Array Bool} {n:Nat} {now:Int} {o:Oper} {oi:Oper} {op:Oper} {ops:Array Oper} {p:Prop} {rest:List Oper} {t:TypeId} {v:Value} {w:World} {w':World} {xs:List Value} {α:Type}
section
variable {w:World} {g:Nat} {hs:List Nat} {sv fl:Nat} {bs:List PL} {F:Nat→Prop} {k:Kz} {i h:Nat} {b:PL} {p:Pt}
theorem J7 {j:Nat} {p:Pt} (hj:k.ls[j]? = some p) (hb:∀i,i<j→∀q,k.ls[i]? = some q→iQ (k.pa.pc,k.pa.pp) q=false) (hp:iQ (k.pa.pc,k.pa.pp) p=true):eG k=rZ p.kK (k.pa.pc,k.pa.pp):=by
 have e:k.ls.find? (iQ (k.pa.pc,k.pa.pp))=some p:=by rw [List.find?_eq_some_iff_getElem];obtain ⟨hl,he⟩:=List.getElem?_eq_some_iff.1 hj;refine ⟨hp,j,hl,he,fun i hi=>?_⟩;rw [hb i hi _ (List.getElem?_eq_getElem aJ)];rfl
 unfold eG;rw [e]
theorem Ef (hb:∀(i:Nat) (q:Pt),k.ls[i]? = some q→iQ (k.pa.pc,k.pa.pp) q=false):eG k=[]:=by
 have e:k.ls.find? (iQ (k.pa.pc,k.pa.pp))=none:=by rw [List.find?_eq_none];intro q hq;obtain ⟨i,hi⟩:=List.mem_iff_getElem?.1 hq;rw [hb i q hi];decide
 unfold eG;rw [e]
theorem zW:∀{l:List Pe},(l.map Pe.key).Nodup→∀{a b:Pe},a ∈ l→b ∈ l→a.key=b.key→a=b
 | [],_,a,_,ha,_,_=>absurd ha (by simp)
 | x::l,h,a,b,ha,hb,e=>by
  rw [List.map_cons,List.nodup_cons] at h
  rcases List.mem_cons.1 ha with h1 | h1
  ·rcases List.mem_cons.1 hb with h2 | h2
   ·exact h1.trans h2.symm
   ·exact absurd (List.mem_map.2 ⟨b,h2,e.symm.trans (congrArg Pe.key h1)⟩) h.1
  ·rcases List.mem_cons.1 hb with h2 | h2
   ·exact absurd (List.mem_map.2 ⟨a,h1,e.trans (congrArg Pe.key h2)⟩) h.1
   ·exact zW h.2 h1 h2 e
theorem J8 (hI:eD k n):(eG k).length≤50∧∀z ∈ eG k,0≤z∧z<18446744073709551616:=by
 unfold eG;cases h:k.ls.find? (iQ (k.pa.pc,k.pa.pp)) with
 | none=>exact ⟨Nat.zero_le _,fun z hz=>absurd hz (by simp)⟩
 | some p=>
  have hp:=hI.me p (List.mem_of_find?_eq_some h);show (rZ p.kK _).length≤50∧∀z ∈ rZ p.kK _,_;unfold rZ;cases h2:p.kK.find? (fun x=>x.1.1 == (k.pa.pc,k.pa.pp).1 && x.1.2 == (k.pa.pc,k.pa.pp).2) with
  | none=>exact ⟨Nat.zero_le _,fun z hz=>absurd hz (by simp)⟩
  | some x=>exact hp.ids x (List.mem_of_find?_eq_some h2)
theorem rF (L:Lay w g hs sv fl bs F k) (hlen:(k.ls.length:Int)=k.c.po):Calls prog 174 #[.pointer (some ⟨g,0,none⟩)] w fun r w'=>∃v,r=.returned v∧kL w' w.heap.size v (eG k)∧Below w.heap.size w w':=by
 have h8:=L.ps.l8;obtain ⟨n,hn⟩:∃n,k.ls.length=n:=⟨_,rfl⟩;have hall:=p8 L hlen;rw [hn] at hall h8;obtain ⟨a,ha⟩:∃a,(k.pa.pc,k.pa.pp)=a:=⟨_,rfl⟩;replace ha:=hid ha;have hnI:(n:Int)≤8:=by omega
 go_enter func174,ntmps174;go_wp2_with fail;refine hall.mono ?_;rintro e w1 ⟨rfl,hb0⟩;clear hall;go_wp2_with fail;go_loopw [10] (fun iv wr=>∃j:Nat,j≤n∧iv=.int .i64 (j:Int)∧Hid (∀i,i<j→∀q,k.ls[i]? = some q→iQ a q=false)∧Below w.heap.size w wr) (fun iv _=>n - (intOf iv).toNat);case atStart=>exact ⟨0,Nat.zero_le _,rfl,hid (fun i hi=>absurd hi (Nat.not_lt_zero _)),hb0⟩
 case round=>
  obtain ⟨j,hj,rfl,hno,hb⟩:=hrel;obtain ⟨wo,rfl⟩:∃wo,wo=wr:=⟨wr,rfl⟩;by_cases hj2:j<n
  ·have Zw:(j:Int)<(n:Int):=by omega
   have Cw:j<8:=by omega
   have hjl:j<k.ls.length:=by omega
   have Lr:=L.below hb;obtain ⟨h',b',H'⟩:=Lr.jP hjl;obtain ⟨p',hp'⟩:∃p',k.ls[j]? = some p':=⟨_,List.getElem?_eq_getElem hjl⟩;have kp:=Lr.kp H'.hh;have LP:=Lr.jR hp';obtain ⟨⟨pv,hB,g1,qs,g2,g3,g4,g5,g6⟩,hT,-⟩:=LP.hand H';obtain ⟨hR,-⟩:=g2 wo (fun _ _=>rfl);obtain ⟨pp,cap,rfl,hcap,hmax,hat⟩:=hR;have HL:=hid fun h=>RowK.At.pos (K:=Im) hat h;unfold maxLen at hmax;clear hat;have c4:=hB.cell 4 _ rfl;have hltG:∀n,b'.G n→n<wo.heap.size:=fun n hn=>by rcases g1 n hn with ht | ht <;> exact ht.lt
   replace g2:=hid g2;replace g4:=hid g4;replace g1:=hid g1;go_wp2_with fail;clear kp c4;have hbb:=Below.refl wo.heap.size wo;go_loopw [19] (fun iv ws=>∃y:Nat,y≤qs.length∧iv=.int .i64 (y:Int)∧Hid (iQ a p'=true→∀x (hx:x<y) (hxl:x<qs.length),qs[x].key≠a)∧Below w.heap.size w ws∧Below wo.heap.size wo ws) (fun iv _=>qs.length - (intOf iv).toNat);case atStart=>exact ⟨0,Nat.zero_le _,rfl,hid (fun _ x hx=>absurd hx (Nat.not_lt_zero _)),hb,hbb⟩
   case round=>
    obtain ⟨y,hy,rfl,hky,hb1,hb2⟩:=hrel;by_cases hy2:y<qs.length
    ·have hyI:(y:Int)<(qs.length:Int):=by omega
     obtain ⟨bq,off,rfl,hbl,hc⟩:=HL.out aJ;have hRr:wr.rangeAt bq (off+y*3) (Im.enc qs[y]):=fun z u hz=>by have hz3:z<3:=(List.getElem?_eq_some_iff.1 hz).1;rw [hb2.cell (p:=⟨bq,off+y*3+z,none⟩) hbl,Nat.add_assoc];exact RowK.At.cell (K:=Im) hc y z hy2 hz3 u hz
     clear hc;have Ro:=List.getElem_mem hy2;obtain ⟨x,hx⟩:∃x,qs[y]=x:=⟨_,rfl⟩;rw [hx] at hRr Ro;have hn1:=aA wr (Obj.cells (Im.enc xX).toArray 276);have hM0:=ak.new wr (Im.enc xX) 276;go_upto_region 7 with (first | (refine aD 22 ?_;refine peT.aL bq (off+y*3) x hRr ?_) | (refine aN ?_;refine peT.aS (wr.heap.size) (x) (xX) hM0 ?_));have Y:=hM0.fB (Im.enc x);have hW:=below_setRow hn1 (Nat.le_refl _) (Im.enc x).toArray;have hb3:=ah hb1 hW;have hb4:=ah hb2 hW;change Code.wp prog _ _ _ ((wr.alloc (Obj.cells (Im.enc xX).toArray 276)).setRow wr.heap.size (Im.enc x).toArray);clear hn1 hM0 hRr hW hb1 hb2;generalize (wr.alloc (Obj.cells (Im.enc xX).toArray 276)).setRow wr.heap.size (Im.enc x).toArray=w5 at *;generalize wr.heap.size=GY at *;have hbd:=Below.drew (Below.refl w5.heap.size w5);replace Y:=Y.below hbd;replace hb3:=ah hb3 hbd;replace hb4:=ah hb4 hbd;have L5:=L.below hb3;clear hbd;obtain ⟨V,hV⟩:∃V,(x.key.1 == k.pa.pc && x.key.2 == k.pa.pp)=V:=⟨_,rfl⟩;have E2:∀wx:World,(Op.equalIn 10000 54 (.agg (iw.enc x.key).toArray) (.agg (iw.enc (k.pa.pc,k.pa.pp)).toArray)).run prog wx=.ok V wx:=fun wx=>by rw [←hV];exact xW x.key (k.pa.pc,k.pa.pp) wx
     have hkey:V=true→x.key=a:=fun h=>by rw [←hV] at h;simp only [Bool.and_eq_true,beq_iff_eq] at h;rw [←ha.out];exact Prod.ext h.1 h.2
     have NI:V=false→x.key≠a:=fun h e=>by rw [←hV,e,←ha.out] at h;simp at h
     clear hV;cases V
     ·have hnk:=hid (NI rfl);clear hkey NI;refine fD aW aW ?_;generalize w5.drew=wd at *;have RY:=hid (show wd.rangeAt GY 0 (iw.enc x.key) from ak.bB [] (iw.enc x.key) [x.val] Y);have RK:=hid (show wd.rangeAt g 33 (iw.enc (k.pa.pc,k.pa.pp)) from ak.bB ((fI hs sv fl k).take 33) (iw.enc (k.pa.pc,k.pa.pp)) ((fI hs sv fl k).drop 35) L5.box);refine so ?_;refine Dc.still (op:=⟨some 24,.load _ _,_,_,_,_⟩) bn _ bn GY 0 bn (x.key) (RY.out) ?_;try simp only [Act.put,zI,bG,zS]
      iterate 4 refine so ?_
      refine Dc.still (op:=⟨some 29,.load _ _,_,_,_,_⟩) bn _ bn g 33 bn ((k.pa.pc,k.pa.pp)) (RK.out) ?_;try simp only [Act.put,zI,bG,zS]
      refine so ?_;refine so ?_;refine mZ bn ?_;try simp only [Act.put,zI,bG,zS]
      refine mZ bn ?_;try simp only [Act.put,zI,bG,zS]
      refine mZ bn ?_;try simp only [Act.put,zI,bG,zS]
      refine mZ bn ?_;try simp only [Act.put,zI,bG,zS]
      refine so ?_;refine bM ?_;go_wp2_with fail;go_roundw
      case rel=>exact ⟨y+1,hy2,by go_num,hid (fun h z hz hzl=>by
       by_cases hzy:z=y
       ·subst hzy
        rw [hx]
        exact hnk.out
       ·exact hky.out h z aJ hzl),hb3,hb4⟩
      case measure=>simp [intOf];omega
     ·have hk:=hid (hkey rfl);clear hkey NI;refine wp_region_held_drew (S:=fun w'=>Below w5.drew.heap.size w5.drew w') aW (Below.refl _ _) ?_;intro hHeld;generalize w5.drew=wd at *;have d0:∀wx,Below wd.heap.size wd wx→wx.rangeAt GY 0 (iw.enc x.key):=fun wx hx=>ak.bB [] (iw.enc x.key) [x.val] (Y.below hx);have d1:∀wx,Below wd.heap.size wd wx→wx.rangeAt g 33 (iw.enc (k.pa.pc,k.pa.pp)):=fun wx hx=>ak.bB ((fI hs sv fl k).take 33) (iw.enc (k.pa.pc,k.pa.pp)) ((fI hs sv fl k).drop 35) (L5.below hx).box;have Iq:=hB.below hb4;have c3:=Iq.cell 3 _ rfl;have hT5:qj nM wd b'.t p'.tab:=hT.below hb4;refine tk [0] hHeld ?_;refine rt 1 hHeld ?_ (hy:=fun wx hwx=>Dc.exec (.tmp 23) rfl GY 0 rfl x.key (d0 wx hwx));refine tk [2,3,4,5] hHeld ?_;refine rt 6 hHeld ?_ (hy:=fun wx hwx=>Dc.exec (.tmp 28) rfl g 33 rfl (k.pa.pc,k.pa.pp) (d1 wx hwx));refine tk [7,8,9,10] hHeld ?_;refine rt 11 hHeld ?_ (hy:=fun wx hwx=>Dc.exec (.tmp 33) rfl GY 0 rfl x.key (d0 wx hwx));refine aR 12 fun K' hK=>?_;go_simp;refine (Rh h' b'.t p'.tab x.key wd c3 hT5).mono ?_;rintro e w6 ⟨rfl,b6⟩;obtain ⟨A,hA⟩:∃A,iQ a p'=A:=⟨_,rfl⟩;rw [show (p'.tab.l.any fun r=>r.v.sc == x.key.1 && r.v.sp == x.key.2)=A by rw [hk.out];exact hA];replace hA:=hid hA;refine hK _ _ b6 ?_;clear hK K' hHeld;have hHeld:=b6;clear b6;try simp only [Act.put,zI,bG,zS]
      refine tk [13] hHeld ?_;refine wpAnyH_done aW ?_ _;replace hb3:=ah hb3 hHeld;replace hb4:=ah hb4 hHeld;have Y6:=Y.below hHeld;clear d0 d1 Iq c3 hT5 Y hHeld E2 L5;cases A
      ·go_wp2_with fail;go_roundw;case rel=>exact ⟨y+1,hy2,by go_num,hid (fun h=>by rw [hA.out] at h;cases h),hb3,hb4⟩
       case measure=>simp [intOf];omega
      ·have y2:w6.cell? ⟨GY,2,none⟩=some (.slice x.ad x.ids.length x.cap):=Y6.cell 2 _ rfl;have hIx:Ids w6 (.slice x.ad x.ids.length x.cap) x.ids:=(g2.out w6 (fun n hn=>hb4.block n (hltG n hn))).2 x Ro;have h50:=g5 x Ro;have VG:eG k=x.ids:=by obtain ⟨e,he,ek,ei⟩:=g4.out a hA.out;obtain rfl:=zW g3 he Ro (ek.trans hk.out.symm);rw [ei,←ha.out];refine J7 hp' (fun i hi q hq=>?_) (by rw [ha.out];exact hA.out);rw [ha.out];exact hno.out i hi q hq
       replace VG:=hid VG;go_wp2_with fail;refine (Gj _ x.ids w6 hIx aJ).mono ?_;rintro e w7 ⟨v,rfl,hO,b7⟩;go_wp2_with fail;go_ret;exact ⟨v,rfl,by rw [VG.out];exact hO.mono hb3.size,ah hb3 b7⟩
    ·obtain rfl:y=qs.length:=by omega
     have hnone:iQ a p'=false:=by
      cases hA:iQ a p' with
      | false=>rfl
      | true=>
       obtain ⟨e,he,ek,-⟩:=g4.out a hA;obtain ⟨i,hi,rfl⟩:=List.mem_iff_getElem.1 he;exact absurd ek (hky.out hA i hi hi)
     replace hnone:=hid hnone;go_wp2_with fail;go_roundw
     case rel=>exact ⟨j+1,hj2,by go_num,hid (fun i hi q hq=>by
      by_cases hij:i=j
      ·subst hij
       rw [hp'] at hq
       obtain rfl:=Option.some.inj hq
       exact hnone.out
      ·exact hno.out i aJ q hq),hb1⟩
     case measure=>simp [intOf];omega
  ·obtain rfl:j=n:=by omega
   have ht:eG k=[]:=Ef fun i q hq=>by rw [ha.out];exact hno.out i (by have:=(List.getElem?_eq_some_iff.1 hq).1;omega) q hq
   replace ht:=hid ht;go_wp2_with fail;go_ret;exact ⟨_,rfl,by rw [ht.out];exact kL.nil _ _,hb⟩
end
section
theorem rG {m:Hd×Bd} (h:iB m):jg m.1 m.2 []=true:=by
 have hp:jf []=([],true):=rfl;have hl:=vN m.1.ty;have hn:lC m.1 []≤400:=by unfold lC;rw [hp];simp only [List.length_nil];omega
 unfold jg;rw [hp,h.1,decide_eq_true hn];rfl
theorem NJ {m:Hd×Bd} (h:iB m) (q:T2) (hq:gZ q=true) (hl:q.2.length≤300):jg m.1 m.2 [q]=true:=by
 have hp:jf [q]=(iA [q],true):=by unfold jf;exact if_pos ⟨by simp,by simp [hq]⟩
 have hL:=vN m.1.ty;have hf:(iA [q]).length≤304:=by simp [iA,Mr,aj,List.length_append,dN];omega
 have hn:lC m.1 [q]≤400:=by unfold lC;rw [hp];simp only [];omega
 unfold jg;rw [hp,h.1,decide_eq_true hn];rfl
theorem J9 (zs:List Int) (h:zs.length≤16):gZ (kF zs).1=true∧(kF zs).1.2.length≤300:=by
 unfold kF;rw [if_pos h];have hl:=ni zs;refine ⟨?_,by show (fQ zs).length≤300;omega⟩;unfold gZ
 rw [decide_eq_true (show (0:Int)≤((8:Int),fQ zs).1 from (by decide:(0:Int)≤8)),decide_eq_true (show ((8:Int),fQ zs).1≤65535 from (by decide:(8:Int)≤65535)),decide_eq_true (show ((8:Int),fQ zs).2.length % 2=0 by show (fQ zs).length % 2=0;omega),
  decide_eq_true (show ((8:Int),fQ zs).2.length≤400 by show (fQ zs).length≤400;omega)]
 rfl
theorem J_ {m:Hd×Bd} (h:iB m) (k:Kz):jg m.1 m.2 (jr k)=true:=by
 unfold jr;split
 ·rename_i hc;simp only [Bool.and_eq_true] at hc;have hl:(eG k++[k.c.cl]).length≤16:=by refine Decidable.byContradiction fun h2=>?_;have:=hc.2;unfold kF at this;rw [if_neg h2] at this;cases this
  obtain ⟨h1,h2⟩:=J9 _ hl;exact NJ h _ h1 h2
 ·exact rG h
section
variable {c:Cf} {i:Nat} {n now:Int}
theorem Rp (hc:gJ c) (hcl:0≤c.cl∧c.cl<18446744073709551616) (hi:i<8) (hn:qg n) (ht:fO now):iB (Bw c i n now):=by
 obtain ⟨h1,h2,h3,h4,h5,h6,h7,h8,h9,h10,h11,h12,iW,Ql,MZ,h16,Ww,h18,h19,h20,h21⟩:=hc;have hfl:(0:Int)≤(if c.os then 0 else 512)∧(if c.os then (0:Int) else 512)≤65535:=by split <;> omega
 have hst:fO (if c.os then now else 0):=by split;exact ht;exact uZ
 have Zx:(-32768:Int)≤0∧(0:Int)≤32767:=by omega
 refine ⟨mD rfl ?_ hfl ?_ hn ?_ ?_ hst fU Zx bV bV bV fU bV fU bV bV bV ?_,⟨hcl.1,hcl.2,by show (-9223372036854775808:Int)≤0∧(0:Int)≤9223372036854775807;omega⟩,su,su,hst.i64⟩
 ·show 0≤c.dm∧c.dm≤255;omega
 ·show 0≤(i:Int)+1∧(i:Int)+1≤65535;omega
 ·show -128≤c.ls∧c.ls≤127;omega
 ·simp [Bw,om,l7,mK,vC]
 ·show (0:Int)≤0∧(0:Int)≤15;omega
theorem Rs {x:Xs} (hd:0≤x.dm∧x.dm≤255) (h1:0≤x.me.1∧x.me.1<18446744073709551616) (h2:0≤x.me.2∧x.me.2≤65535):iB (yD x n):=by
 have Zx:(-32768:Int)≤0∧(0:Int)≤32767:=by omega
 refine ⟨mD rfl hd fU h2 ?_ ?_ ?_ uZ fU Zx bV bV bV fU bV fU bV bV bV ?_,⟨h1.1,h1.2,by show (-9223372036854775808:Int)≤0∧(0:Int)≤9223372036854775807;omega⟩,su,su,uZ.i64⟩
 ·show 0≤n % 65536∧n % 65536≤65535;omega
 ·show (-128:Int)≤127∧(127:Int)≤127;omega
 ·simp [yD,om,l7,mK,vC]
 ·show (0:Int)≤0∧(0:Int)≤15;omega
theorem NK {x:Ps} (hd:0≤x.dm∧x.dm≤255) (h1:0≤x.me.1∧x.me.1<18446744073709551616) (h2:0≤x.me.2∧x.me.2≤65535):iB (qo x n):=by
 have Zx:(-32768:Int)≤0∧(0:Int)≤32767:=by omega
 refine ⟨mD rfl hd fU h2 ?_ ?_ ?_ uZ fU Zx bV bV bV fU bV fU bV bV bV ?_,⟨h1.1,h1.2,by show (-9223372036854775808:Int)≤0∧(0:Int)≤9223372036854775807;omega⟩,su,su,uZ.i64⟩
 ·show 0≤n % 65536∧n % 65536≤65535;omega
 ·show (-128:Int)≤127∧(127:Int)≤127;omega
 ·simp [qo,om,l7,mK,vC]
 ·show (0:Int)≤0∧(0:Int)≤15;omega
theorem Rt {p:Pa} (hc:gJ c) (hcl:0≤c.cl∧c.cl<18446744073709551616) (hp:DT p) (hi:i<8) (hn:qg n):iB (wR c p ((i:Int)+1) n):=by
 obtain ⟨h1,h2,h3,h4,h5,h6,h7,h8,h9,h10,h11,h12,iW,Ql,MZ,h16,Ww,h18,h19,h20,h21⟩:=hc;have hst:=hp.st;have hfl:=hp.fl;refine ⟨mD rfl ?_ ?_ ?_ hn ?_ ?_ uZ fU hp.ut hp.p1 hp.qc hp.qa hp.qv hp.p2 ?_ hp.og bV bV ?_,⟨hcl.1,hcl.2,by show (-9223372036854775808:Int)≤0∧(0:Int)≤9223372036854775807;omega⟩,su,hp.gr,uZ.i64⟩
 ·show 0≤c.dm∧c.dm≤255;omega
 ·show 0≤p.fl∧p.fl≤65535;omega
 ·show 0≤(i:Int)+1∧(i:Int)+1≤65535;omega
 ·show -128≤c.la∧c.la≤127;omega
 ·simp [wR,om,l7,mK]
 ·show 0≤p.st∧p.st≤65535;omega
 ·show (0:Int)≤0∧(0:Int)≤15;omega
end
end
section
variable {w:World} {g:Nat} {hs:List Nat} {sv fl:Nat} {bs:List PL} {F:Nat→Prop} {k:Kz} {i h:Nat} {b:PL} {p:Pt}
theorem Lay.Zy (L:Lay w g hs sv fl bs F (aO k i p)) (H:Hand k hs bs i h b):w.rangeAt h 0 (iw.enc (k.c.cl,(i:Int)+1)):=by
 intro j v hj;rcases j with _ | _ | j
 ·obtain rfl:=Option.some.inj hj;exact L.pc H 0 _ (fun _=>rfl)
 ·obtain rfl:=Option.some.inj hj;exact L.pc H 1 _ (fun _=>rfl)
 ·cases hj
theorem Xw (p:Pt):jv 0 p={ p with ns:=bR p.ns }:=by unfold jv;rw [if_neg aX,if_pos rfl]
theorem Zz (p:Pt):jv 1 p={ p with nk:=bR p.nk }:=by unfold jv;rw [if_neg aX,if_neg aX,if_pos aX]
theorem ZA (p:Pt):jv 2 p={ p with nk:=bR p.nk }:=by unfold jv;rw [if_neg aX,if_neg aX,if_pos aX]
theorem TA (p:Pt):jv 11 p={ p with na:=bR p.na }:=by unfold jv;rw [if_pos rfl]
theorem vM {q r:Pt} {B:Bool} (hB:B=true) (L:Lay w g hs sv fl bs F (aO k i (if B=true then q else r))):Lay w g hs sv fl bs F (aO k i q):=by rw [if_pos hB] at L;exact L
theorem NM (L:Lay w g hs sv fl bs F (aO k i p)) (H:Hand k hs bs i h b) {s B:Nat} {now:Int} {os:List Ot} (A:aY w s B g now os) (hBw:B≤w.heap.size) (hin:bN p) (hcf:gJ k.c) (hcl:0≤k.c.cl∧k.c.cl<18446744073709551616) (hi:i<8) (nN:fO now) (hos:os.length≤1000):Calls prog 120 #[.pointer (some ⟨s,0,none⟩),.pointer (some ⟨h,0,none⟩)] w fun e w'=>e=.returned (.tuple #[])∧Lay w' g hs sv fl bs F (aO k i ({ p with ns:=bR p.ns }))∧aY w' s B g now (os++iY i (Bw k.c i p.ns now) [] (!k.c.os))∧dx B (aK g F) w w':=by
 have hmd:iB (Bw k.c i p.ns now):=Rp hcf hcl hi hin.ns nN;obtain ⟨m,hm⟩:∃m,Bw k.c i p.ns now=m:=⟨_,rfl⟩;obtain ⟨m1,hm1⟩:∃m1,((⟨0,k.c.dm,0,0,k.c.cl,(i:Int)+1,p.ns,k.c.ls⟩,vC):Hd×Bd)=m1:=⟨_,rfl⟩;replace hm1:=hid hm1;rw [hm] at hmd ⊢;have hty:m.1.ty=0:=by rw [←hm];rfl
 obtain ⟨E,hE⟩:∃E,k.c.os=E:=⟨_,rfl⟩;replace hm:=hid hm;replace hE:=hid hE;have R:w.rangeAt g 0 (bT.enc k.c):=ak.bB ((fI hs sv fl (aO k i p)).take 0) (bT.enc k.c) ((fI hs sv fl (aO k i p)).drop 23) L.box;have z:=aA w (Obj.cells (bT.enc zeroC).toArray 28);have hN:=ak.new w (bT.enc zeroC) 28;have hlt:g<w.heap.size:=L.box.lt;replace R:(w.alloc (Obj.cells (bT.enc zeroC).toArray 28)).rangeAt g 0 (bT.enc k.c):=fun j v hj=>by rw [z.cell (p:=⟨g,0+j,none⟩) hlt];exact R j v hj
 obtain ⟨Cv,ov,hS,oA⟩:=A;have A:aY w s B g now os:=⟨Cv,ov,hS,oA⟩;have cs:=hS.cell 0 _ rfl;have hsl:=hS.lt;go_enter func120,ntmps120;go_upto_region 1 with (first | (refine aD 12 ?_;refine lJ.aL g 0 (k.c) (fun j v hj=>by first | exact R j v hj | (rw [←z.cell (p:=⟨g,0+j,none⟩) hlt];exact R j v hj)) ?_) | (refine aN ?_;refine lJ.aS (w.heap.size) (k.c) (zeroC) hN ?_));have qb:=below_setRow z (Nat.le_refl _) (bT.enc k.c).toArray;replace hN:=hN.fB (bT.enc k.c);change Code.wp prog _ _ _ ((w.alloc (Obj.cells (bT.enc zeroC).toArray 28)).setRow w.heap.size (bT.enc k.c).toArray);generalize (w.alloc (Obj.cells (bT.enc zeroC).toArray 28)).setRow w.heap.size (bT.enc k.c).toArray=W at *;clear R z cs;refine eU (S:=fun w'=>Below W.drew.heap.size W.drew w') (z:=14) aW ?_;have hHeld:=Below.refl W.drew.heap.size W.drew;replace hN:=hN.below (Below.drew (Below.refl W.heap.size W));replace qb:=qb.drew;generalize W.drew=wd at *;have d0:∀wx,Below wd.heap.size wd wx→wx.cell? ⟨w.heap.size,2,none⟩=some (.int .i64 k.c.dm):=fun wx hx=>(hN.below hx).cell 2 _ rfl;have d1:∀wx,Below wd.heap.size wd wx→wx.cell? ⟨w.heap.size,10,none⟩=some (.int .i64 k.c.ls):=fun wx hx=>(hN.below hx).cell 10 _ rfl;have d2:∀wx,Below wd.heap.size wd wx→wx.cell? ⟨h,11,none⟩=some (.int .i64 p.ns):=fun wx hx=>(L.below (qb.trans (hx.mono qb.size))).pc H 11 _ (fun _=>rfl);have d3:∀wx,Below wd.heap.size wd wx→wx.rangeAt h 0 (iw.enc (k.c.cl,(i:Int)+1)):=fun wx hx=>(L.below (qb.trans (hx.mono qb.size))).Zy H;refine tz [0,1,2,3,4] hHeld ?_;refine zt 5 hHeld ?_ (hy:=fun wx hwx=>Dc.exec (.tmp 17) rfl h 0 rfl (k.c.cl,(i:Int)+1) (d3 wx hwx));refine tz [6,7,8,9,10,11] hHeld ?_;refine zt 12 hHeld ?_ (hy:=fun wx hwx=>bg _ _ rfl _ rfl (eu.enc m1).toArray (by rw [←hm1.out];kernel_rfl));refine aZ 13 fun K' hK=>?_;go_simp;have z2:=aA wd (Obj.cells (eu.enc bO).toArray 56);have eF:=ak.new wd (eu.enc bO) 56;refine hK _ (wd.alloc (Obj.cells (eu.enc bO).toArray 56)) z2 ?_;clear hK K';try simp only [Act.put,zI,bG,zS]
 refine aE 14 fun K' hK=>?_;clear d0 d1 d2 d3;refine zi.dS (.tmp 5) (.tmp 25) rfl wd.heap.size m1 bO _ rfl rfl eF ?_;refine hK _ _ ?_;clear hK K' hHeld;have z3:=below_setRow z2 (Nat.le_refl _) (eu.enc m1).toArray;have SH:=qb.size;replace qb:=qb.trans (z3.mono qb.size);have ZB:=hN.lt;replace hN:=hN.below z3;have X:=eF.fB (eu.enc m1);generalize (wd.alloc (Obj.cells (eu.enc bO).toArray 56)).setRow wd.heap.size (eu.enc m1).toArray=W3 at *;clear z2 z3 eF;cases E
 ·have c14:=hN.cell 14 (.bool false) Pq;have x1:=X.cell 2 _ rfl;have x2:=X.free 2;rw [←hm1.out] at x1;go_upto_region 5 with fail;clear x1 x2;have R4:=qb.setCell (p:=⟨wd.heap.size,2,none⟩) SH (.int .i64 512);have X2:=X.set 2 (.int .i64 512);have hNb:=hN.only ((Only.refl wd.heap.size W3).cell 2 (.int .i64 512)) aJ;have hX2:(eu.enc m1).set 2 (.int .i64 512)=eu.enc m:=by rw [←hm1.out,←hm.out];unfold Bw;rw [hE.out];rfl
  rw [hX2] at X2;generalize World.setCell _ _ _=W4 at *;have RX:=X2.b_;have c14:=hNb.cell 14 (.bool false) Pq;clear hX2 X2 hN X qb;go_wp2_with (refine aD 36 ?_;refine zi.aL wd.heap.size 0 m RX ?_);refine (nC (L.below R4) H (A.below R4) (Nat.le_trans hBw R4.size) hin m [] (.slice none 0 0) true hmd.2 (kD.nil _) (Nat.zero_le _) (fun q hq=>absurd hq (List.not_mem_nil)) hos).mono ?_;exact Xv
 ·have c14:=hN.cell 14 (.bool true) Pq;have x1:=X.cell 8 _ rfl;have x2:=X.free 8;have cs:=(hS.below qb).cell 1 _ rfl;rw [←hm1.out] at x1;go_upto_region 5 with fail;clear x1 x2 cs;have R4:=qb.setCell (p:=⟨wd.heap.size,8,none⟩) SH (.int .i64 now);have X2:=X.set 8 (.int .i64 now);have hNb:=hN.only ((Only.refl wd.heap.size W3).cell 8 (.int .i64 now)) aJ;have hX2:(eu.enc m1).set 8 (.int .i64 now)=eu.enc m:=by rw [←hm1.out,←hm.out];unfold Bw;rw [hE.out];rfl
  rw [hX2] at X2;generalize World.setCell _ _ _=W4 at *;have RX:=X2.b_;have c14:=hNb.cell 14 (.bool true) Pq;clear hX2 X2 hN X qb;go_wp2_with (refine aD 36 ?_;refine zi.aL wd.heap.size 0 m RX ?_);refine (nC (L.below R4) H (A.below R4) (Nat.le_trans hBw R4.size) hin m [] (.slice none 0 0) false hmd.2 (kD.nil _) (Nat.zero_le _) (fun q hq=>absurd hq (List.not_mem_nil)) hos).mono ?_;exact Xv
theorem bW.Ck {G:Nat→Prop} {a c d:World} (h:bW G a c) (k:Below a.heap.size c d):bW G a d:=⟨k.os.trans h.os,k.tape.trans h.tape,k.output.trans h.output,Nat.le_trans h.size k.size,fun n hn hG=>(k.block n hn).trans (h.block n hn hG)⟩
theorem Lay.Ck {W W':World} {k':Kz} (L0:Lay w g hs sv fl bs F k') (L:Lay W g hs sv fl bs F k) (hb:Below w.heap.size W W'):Lay W' g hs sv fl bs F k:=L.same fun n hn=>hb.block n (L0.lt n hn)
theorem Lay.domX (L:Lay w g hs sv fl bs F (aO k i p)) (H:Hand k hs bs i h b) (dm:Int):Lay w g hs sv fl bs F (aO k i { p with x:={ p.x with dm:=dm } }):=by obtain ⟨d,hX⟩:=(L.hand H).del;exact (L.del H (Only.refl b.x w) (x:={ p.x with dm:=dm }) (d0:=d) hX).1
theorem Lay.domY (L:Lay w g hs sv fl bs F (aO k i p)) (H:Hand k hs bs i h b) (dm:Int):Lay w g hs sv fl bs F (aO k i { p with y:={ p.y with dm:=dm } }):=by obtain ⟨d,hY⟩:=(L.hand H).WG;exact (L.WG H (Only.refl b.y w) (y:={ p.y with dm:=dm }) (d0:=d) hY).1
theorem bN.reqX {p:Pt} (h:bN p) (dm n:Int):bN { p with y:={ p.y with dm:=dm },x:=Cz { p.x with dm:=dm } n }:={ h with x:=(fun s t e=>by have e:some (n % 65536,(none:Option Int))=some (s,some t):=e;cases e) }
theorem bN.reqY {p:Pt} (h:bN p) (dm n:Int):bN { p with x:={ p.x with dm:=dm },y:=uN { p.y with dm:=dm } n }:={ h with yw:=(fun t e=>by cases e),yh:=(fun r t e=>by cases e) }
theorem CB (L:Lay w g hs sv fl bs F (aO k i p)) (H:Hand k hs bs i h b) {s B:Nat} {now:Int} {os:List Ot} (A:aY w s B g now os) (hBw:B≤w.heap.size) (hin:bN p) (hcf:gJ k.c) (hcl:0≤k.c.cl∧k.c.cl<18446744073709551616) (hi:i<8) (hme:p.y.me=nu k.c i) (hpe:k.c.pe=true) (hos:os.length≤1000):Calls prog 122 #[.pointer (some ⟨s,0,none⟩),.pointer (some ⟨h,0,none⟩)] w fun e w'=>e=.returned (.tuple #[])∧Lay w' g hs sv fl bs F (aO k i ({ p with x:={ p.x with dm:=k.c.dm },y:=uN { p.y with dm:=k.c.dm } p.nk,nk:=bR p.nk }))∧aY w' s B g now (os++iY i (qo { p.y with dm:=k.c.dm } p.nk) [] true)∧dx B (aK g F) w w':=by
 have hmd:iB (qo { p.y with dm:=k.c.dm } p.nk):=NK XR (by show 0≤p.y.me.1∧p.y.me.1<18446744073709551616;rw [hme];exact hcl) (by show 0≤p.y.me.2∧p.y.me.2≤65535;rw [hme];show 0≤(i:Int)+1∧(i:Int)+1≤65535;omega);obtain ⟨m,hm⟩:∃m,qo { p.y with dm:=k.c.dm } p.nk=m:=⟨_,rfl⟩;rw [hm] at hmd ⊢;have hty:m.1.ty=2:=by rw [←hm];rfl
 replace hm:=hid hm;replace hpe:=hid hpe;clear hme;have R:w.rangeAt g 0 (bT.enc k.c):=ak.bB ((fI hs sv fl (aO k i p)).take 0) (bT.enc k.c) ((fI hs sv fl (aO k i p)).drop 23) L.box;have z:=aA w (Obj.cells (bT.enc zeroC).toArray 28);have hN:=ak.new w (bT.enc zeroC) 28;have hlt:g<w.heap.size:=L.box.lt;replace R:(w.alloc (Obj.cells (bT.enc zeroC).toArray 28)).rangeAt g 0 (bT.enc k.c):=fun j v hj=>by rw [z.cell (p:=⟨g,0+j,none⟩) hlt];exact R j v hj
 obtain ⟨Cv,ov,hS,oA⟩:=A;have A:aY w s B g now os:=⟨Cv,ov,hS,oA⟩;have cs:=hS.cell 0 _ rfl;have hsl:=hS.lt;go_enter func122,ntmps122;go_upto_region 1 with (first | (refine aD 12 ?_;refine lJ.aL g 0 (k.c) (fun j v hj=>by first | exact R j v hj | (rw [←z.cell (p:=⟨g,0+j,none⟩) hlt];exact R j v hj)) ?_) | (refine aN ?_;refine lJ.aS (w.heap.size) (k.c) (zeroC) hN ?_));have qb:=below_setRow z (Nat.le_refl _) (bT.enc k.c).toArray;replace hN:=hN.fB (bT.enc k.c);change Code.wp prog _ _ _ ((w.alloc (Obj.cells (bT.enc zeroC).toArray 28)).setRow w.heap.size (bT.enc k.c).toArray);generalize (w.alloc (Obj.cells (bT.enc zeroC).toArray 28)).setRow w.heap.size (bT.enc k.c).toArray=W at *;clear R z cs;go_upto_region 2 with fail;change Code.wp prog _ _ _ (W.alloc (Obj.cells (eu.enc bO).toArray 56));have z2:=aA W (Obj.cells (eu.enc bO).toArray 56);have hM:=ak.new W (eu.enc bO) 56;have SH:=qb.size;replace qb:=qb.trans (z2.mono qb.size);have ZB:=hN.lt;replace hN:=hN.below z2;generalize W.alloc (Obj.cells (eu.enc bO).toArray 56)=W1 at *;clear z2;have c13:=hN.cell 13 (.bool true) (by rw [←hpe.out];rfl);go_upto_region 3 with fail;clear c13;replace L:=L.domX H k.c.dm;have L1:=L.below qb.drew;have hN1:=hN.below (Below.drew (Below.refl W1.heap.size W1));have hM1:=hM.below (Below.drew (Below.refl W1.heap.size W1));obtain ⟨d,hY⟩:=(L1.hand H).WG;obtain ⟨pv,OX,-⟩:=(L1.hand H).box;have hYl:b.y<w.heap.size:=by obtain ⟨d',hY'⟩:=(L.hand H).WG;exact by obtain ⟨xs,hB,-⟩:=hY';exact hB.lt
 obtain ⟨m1,hm1⟩:∃m1,qo { p.y with dm:=d } p.nk=m1:=⟨_,rfl⟩;have HC:=QU b.y { p.y with dm:=d } p.nk W1.drew hY TT;rw [hm1] at HC;replace hm1:=hid hm1;replace qb:=qb.drew;have NN:=u6 (L1.hand H);refine eU (S:=fun w'=>w'.heap[h]? = W1.drew.heap[h]?∧w'.heap[w.heap.size]? = W1.drew.heap[w.heap.size]?) (z:=9) aW ?_;have hHeld:W1.drew.heap[h]? = W1.drew.heap[h]?∧W1.drew.heap[w.heap.size]? = W1.drew.heap[w.heap.size]?:=⟨rfl,rfl⟩;generalize W1.drew=wd at *;clear hN hM;have d0:∀wx:World,(wx.heap[h]? = wd.heap[h]?∧wx.heap[w.heap.size]? = wd.heap[w.heap.size]?)→wx.cell? ⟨h,15,none⟩=some (.pointer (some ⟨b.y,0,none⟩)):=fun wx hx=>(OX.same hx.1).cell 15 _ rfl;have d1:∀wx:World,(wx.heap[h]? = wd.heap[h]?∧wx.heap[w.heap.size]? = wd.heap[w.heap.size]?)→wx.cell? ⟨h,12,none⟩=some (.int .i64 p.nk):=fun wx hx=>(OX.same hx.1).cell 12 _ rfl;have d2:∀wx:World,(wx.heap[h]? = wd.heap[h]?∧wx.heap[w.heap.size]? = wd.heap[w.heap.size]?)→wx.cell? ⟨w.heap.size,11,none⟩=some (.int .i64 k.c.ld):=fun wx hx=>(hN1.same hx.2).cell 11 _ rfl;refine tz [0,1,2,3,4,5,6,7] hHeld ?_;refine aZ 8 fun K' hK=>?_;go_simp;refine HC.mono ?_;rintro e wx ⟨rfl,hY2,o2⟩;have hM2:=hM1.only o2 aJ;have eF:=hN1.only o2 aJ;refine hK _ _ ⟨o2.block h OX.lt (by obtain ⟨n1,n2,n3,n4,-⟩:=NN;exact n4),o2.block _ hN1.lt aJ⟩ ?_;clear hK K' HC;try simp only [Act.put,zI,bG,zS]
 refine aE 9 fun K' hK=>?_;clear d0 d1 d2;refine zi.dS (.tmp 5) (.tmp 23) rfl W.heap.size m1 bO _ rfl rfl hM2 ?_;refine hK _ _ ?_;clear hK K' hHeld;obtain ⟨L2,q2⟩:=L1.WG H o2 (y:=uN { p.y with dm:=k.c.dm } p.nk) (d0:=d) hY2;have z3:=below_setRow (Below.refl w.heap.size wx) SH (eu.enc m1).toArray;have Q:bW (aK g F) w (wx.setRow W.heap.size (eu.enc m1).toArray):=((bW.of_below qb).next q2).Ck z3;replace L2:=L.Ck L2 z3;have X:=hM2.fB (eu.enc m1);have ZC:=eF.gu (k:=W.heap.size) aJ (eu.enc m1).toArray;generalize wx.setRow W.heap.size (eu.enc m1).toArray=W3 at *;clear q2 z3 hM2 eF hM1 hN1 hY hY2 o2 OX L1 NN;have n2:=ZC.cell 2 (.int .i64 k.c.dm) rfl;have x1:=X.cell 1 _ rfl;have x2:=X.free 1;rw [←hm1.out] at x1;go_upto_region 6 with fail;clear n2 x1 x2;have z4:=(Below.refl w.heap.size W3).setCell (p:=⟨W.heap.size,1,none⟩) SH (.int .i64 k.c.dm);have Q4:=Q.Ck z4;have L4:=L.Ck L2 z4;have X2:=X.set 1 (.int .i64 k.c.dm);have hX2:(eu.enc m1).set 1 (.int .i64 k.c.dm)=eu.enc m:=by rw [←hm1.out,←hm.out];rfl
 rw [hX2] at X2;generalize World.setCell _ _ _=W4 at *;have RX:=X2.b_;clear hX2 X2 ZC X z4 Q L2;go_wp2_with (refine aD 40 ?_;refine zi.aL W.heap.size 0 m RX ?_);refine (nC L4 H (A.qH L Q4) (Nat.le_trans hBw Q4.size) (hin.reqY k.c.dm p.nk) m [] (.slice none 0 0) true hmd.2 (kD.nil _) (Nat.zero_le _) (fun q hq=>absurd hq (List.not_mem_nil)) hos).mono ?_;rintro e w5 ⟨rfl,L5,A5,Q5⟩;replace L5:=vM (rG hmd) L5;rw [hty,ZA] at L5;go_wp2_with fail;go_end0;exact ⟨rfl,L5,A5,(dx.wB Q4).next Q5⟩
theorem yE (L:Lay w g hs sv fl bs F (aO k i p)) (H:Hand k hs bs i h b) {s B:Nat} {now:Int} {os:List Ot} (A:aY w s B g now os) (hBw:B≤w.heap.size) (hin:bN p) (hcf:gJ k.c) (hcl:0≤k.c.cl∧k.c.cl<18446744073709551616) (hi:i<8) (hme:p.x.me=nu k.c i) (hpe:k.c.pe=false) (hos:os.length≤1000):Calls prog 122 #[.pointer (some ⟨s,0,none⟩),.pointer (some ⟨h,0,none⟩)] w fun e w'=>e=.returned (.tuple #[])∧Lay w' g hs sv fl bs F (aO k i ({ p with y:={ p.y with dm:=k.c.dm },x:=Cz { p.x with dm:=k.c.dm } p.nk,nk:=bR p.nk }))∧aY w' s B g now (os++iY i (yD { p.x with dm:=k.c.dm } p.nk) [] true)∧dx B (aK g F) w w':=by
 have hmd:iB (yD { p.x with dm:=k.c.dm } p.nk):=Rs XR (by show 0≤p.x.me.1∧p.x.me.1<18446744073709551616;rw [hme];exact hcl) (by show 0≤p.x.me.2∧p.x.me.2≤65535;rw [hme];show 0≤(i:Int)+1∧(i:Int)+1≤65535;omega);obtain ⟨m,hm⟩:∃m,yD { p.x with dm:=k.c.dm } p.nk=m:=⟨_,rfl⟩;rw [hm] at hmd ⊢;have hty:m.1.ty=1:=by rw [←hm];rfl
 replace hm:=hid hm;replace hpe:=hid hpe;clear hme;have R:w.rangeAt g 0 (bT.enc k.c):=ak.bB ((fI hs sv fl (aO k i p)).take 0) (bT.enc k.c) ((fI hs sv fl (aO k i p)).drop 23) L.box;have z:=aA w (Obj.cells (bT.enc zeroC).toArray 28);have hN:=ak.new w (bT.enc zeroC) 28;have hlt:g<w.heap.size:=L.box.lt;replace R:(w.alloc (Obj.cells (bT.enc zeroC).toArray 28)).rangeAt g 0 (bT.enc k.c):=fun j v hj=>by rw [z.cell (p:=⟨g,0+j,none⟩) hlt];exact R j v hj
 obtain ⟨Cv,ov,hS,oA⟩:=A;have A:aY w s B g now os:=⟨Cv,ov,hS,oA⟩;have cs:=hS.cell 0 _ rfl;have hsl:=hS.lt;go_enter func122,ntmps122;go_upto_region 1 with (first | (refine aD 12 ?_;refine lJ.aL g 0 (k.c) (fun j v hj=>by first | exact R j v hj | (rw [←z.cell (p:=⟨g,0+j,none⟩) hlt];exact R j v hj)) ?_) | (refine aN ?_;refine lJ.aS (w.heap.size) (k.c) (zeroC) hN ?_));have qb:=below_setRow z (Nat.le_refl _) (bT.enc k.c).toArray;replace hN:=hN.fB (bT.enc k.c);change Code.wp prog _ _ _ ((w.alloc (Obj.cells (bT.enc zeroC).toArray 28)).setRow w.heap.size (bT.enc k.c).toArray);generalize (w.alloc (Obj.cells (bT.enc zeroC).toArray 28)).setRow w.heap.size (bT.enc k.c).toArray=W at *;clear R z cs;go_upto_region 2 with fail;change Code.wp prog _ _ _ (W.alloc (Obj.cells (eu.enc bO).toArray 56));have z2:=aA W (Obj.cells (eu.enc bO).toArray 56);have hM:=ak.new W (eu.enc bO) 56;have SH:=qb.size;replace qb:=qb.trans (z2.mono qb.size);have ZB:=hN.lt;replace hN:=hN.below z2;generalize W.alloc (Obj.cells (eu.enc bO).toArray 56)=W1 at *;clear z2;have c13:=hN.cell 13 (.bool false) (by rw [←hpe.out];rfl);go_upto_region 4 with fail;clear c13;replace L:=L.domY H k.c.dm;have L1:=L.below qb.drew;have hN1:=hN.below (Below.drew (Below.refl W1.heap.size W1));have hM1:=hM.below (Below.drew (Below.refl W1.heap.size W1));obtain ⟨d,hY⟩:=(L1.hand H).del;obtain ⟨pv,OX,-⟩:=(L1.hand H).box;have hYl:b.x<w.heap.size:=by obtain ⟨d',hY'⟩:=(L.hand H).del;exact by obtain ⟨xs,hB,-⟩:=hY';exact hB.lt
 obtain ⟨m1,hm1⟩:∃m1,yD { p.x with dm:=d } p.nk=m1:=⟨_,rfl⟩;have HC:=Vm b.x { p.x with dm:=d } p.nk k.c.ld W1.drew hY TT;rw [hm1] at HC;replace hm1:=hid hm1;replace qb:=qb.drew;have NN:=u6 (L1.hand H);refine eU (S:=fun w'=>w'.heap[h]? = W1.drew.heap[h]?∧w'.heap[w.heap.size]? = W1.drew.heap[w.heap.size]?) (z:=11) aW ?_;have hHeld:W1.drew.heap[h]? = W1.drew.heap[h]?∧W1.drew.heap[w.heap.size]? = W1.drew.heap[w.heap.size]?:=⟨rfl,rfl⟩;generalize W1.drew=wd at *;clear hN hM;have d0:∀wx:World,(wx.heap[h]? = wd.heap[h]?∧wx.heap[w.heap.size]? = wd.heap[w.heap.size]?)→wx.cell? ⟨h,14,none⟩=some (.pointer (some ⟨b.x,0,none⟩)):=fun wx hx=>(OX.same hx.1).cell 14 _ rfl;have d1:∀wx:World,(wx.heap[h]? = wd.heap[h]?∧wx.heap[w.heap.size]? = wd.heap[w.heap.size]?)→wx.cell? ⟨h,12,none⟩=some (.int .i64 p.nk):=fun wx hx=>(OX.same hx.1).cell 12 _ rfl;have d2:∀wx:World,(wx.heap[h]? = wd.heap[h]?∧wx.heap[w.heap.size]? = wd.heap[w.heap.size]?)→wx.cell? ⟨w.heap.size,11,none⟩=some (.int .i64 k.c.ld):=fun wx hx=>(hN1.same hx.2).cell 11 _ rfl;refine tz [0,1,2,3,4,5,6,7,8,9] hHeld ?_;refine aZ 10 fun K' hK=>?_;go_simp;refine HC.mono ?_;rintro e wx ⟨rfl,hY2,o2⟩;have hM2:=hM1.only o2 aJ;have eF:=hN1.only o2 aJ;refine hK _ _ ⟨o2.block h OX.lt (by obtain ⟨n1,n2,n3,n4,-⟩:=NN;exact n3),o2.block _ hN1.lt aJ⟩ ?_;clear hK K' HC;try simp only [Act.put,zI,bG,zS]
 refine aE 11 fun K' hK=>?_;clear d0 d1 d2;refine zi.dS (.tmp 5) (.tmp 34) rfl W.heap.size m1 bO _ rfl rfl hM2 ?_;refine hK _ _ ?_;clear hK K' hHeld;obtain ⟨L2,q2⟩:=L1.del H o2 (x:=Cz { p.x with dm:=k.c.dm } p.nk) (d0:=d) hY2;have z3:=below_setRow (Below.refl w.heap.size wx) SH (eu.enc m1).toArray;have Q:bW (aK g F) w (wx.setRow W.heap.size (eu.enc m1).toArray):=((bW.of_below qb).next q2).Ck z3;replace L2:=L.Ck L2 z3;have X:=hM2.fB (eu.enc m1);have ZC:=eF.gu (k:=W.heap.size) aJ (eu.enc m1).toArray;generalize wx.setRow W.heap.size (eu.enc m1).toArray=W3 at *;clear q2 z3 hM2 eF hM1 hN1 hY hY2 o2 OX L1 NN;have n2:=ZC.cell 2 (.int .i64 k.c.dm) rfl;have x1:=X.cell 1 _ rfl;have x2:=X.free 1;rw [←hm1.out] at x1;go_upto_region 6 with fail;clear n2 x1 x2;have z4:=(Below.refl w.heap.size W3).setCell (p:=⟨W.heap.size,1,none⟩) SH (.int .i64 k.c.dm);have Q4:=Q.Ck z4;have L4:=L.Ck L2 z4;have X2:=X.set 1 (.int .i64 k.c.dm);have hX2:(eu.enc m1).set 1 (.int .i64 k.c.dm)=eu.enc m:=by rw [←hm1.out,←hm.out];rfl
 rw [hX2] at X2;generalize World.setCell _ _ _=W4 at *;have RX:=X2.b_;clear hX2 X2 ZC X z4 Q L2;go_wp2_with (refine aD 40 ?_;refine zi.aL W.heap.size 0 m RX ?_);refine (nC L4 H (A.qH L Q4) (Nat.le_trans hBw Q4.size) (hin.reqX k.c.dm p.nk) m [] (.slice none 0 0) true hmd.2 (kD.nil _) (Nat.zero_le _) (fun q hq=>absurd hq (List.not_mem_nil)) hos).mono ?_;rintro e w5 ⟨rfl,L5,A5,Q5⟩;replace L5:=vM (rG hmd) L5;rw [hty,Zz] at L5;go_wp2_with fail;go_end0;exact ⟨rfl,L5,A5,(dx.wB Q4).next Q5⟩
end
theorem yV {c:Code} (nL:∀ch a d v w,Q (.panic ch) (Act.put a d v) w→Q (.panic ch) a w) (h:∀Q':Exit→Act→World→Prop,(∀a w,Q .ret a w→Q' .ret a w)→(∀l rest a w,findLabel c l=some rest→rest.wp P (Exit.noGoto Q) a w→Q' (.goto l) a w)→(∀a w,Q .normal a w→Q' .normal a w)→(∀ch a d v w,Q' (.panic ch) (Act.put a d v) w→Q' (.panic ch) a w)→c.wp P Q' a w):(Code.scope c).wp P Q a w:=by intro b k cs;have h1:=h (fun e a w=>match e with | .goto l=>∃rest,findLabel c l=some rest∧rest.wp P (Exit.noGoto Q) a w | e=>Q e a w) (fun _ _ h=>h) (fun l rest a w hf hr=>⟨rest,hf,hr⟩) (fun _ _ h=>h) nL;exact mq5
theorem yZ (v:Value) (zs:List Int) (w:World) (hB:Ids w v zs) (hl:zs.length≤140737488355328) (hz:∀z ∈ zs,0≤z∧z<18446744073709551616):Calls prog 173 #[v] w fun r w'=>r=.returned (.tuple #[Fh (kF zs).1,.bool (kF zs).2])∧Below w.heap.size w w':=by
 obtain ⟨p,cap,rfl,hc,-,hat⟩:=hB;have HAT:=hid fun (wx:World) (h:Below w.heap.size w wx)=>hat.below h;have HZ:=hid hz;have hbW:=aA w (Obj.cells #[.int .i64 0,.string ⟨#[]⟩] 187);have iq:=ak.new w [.int .i64 0,.string ⟨#[]⟩] 187;clear hat hc hz;by_cases hok:zs.length≤16
 ·rw [show kF zs=((8,fQ zs),true) from if_pos hok];go_enter func173,ntmps173;go_upto_region 1 with fail;generalize hG:w.heap.size=G at *;generalize w.alloc (Obj.cells #[.int .i64 0,.string ⟨#[]⟩] 187)=W at *;have WJ:G<W.heap.size:=iq.lt;have hsz:=hbW.size;go_wp2_with fail;go_loopw [4,13] (fun b i wr=>∃k:Nat,k≤zs.length∧i=.int .i64 k∧Own wr W.heap.size b (fQ (zs.take k))∧Below W.heap.size W wr) (fun _ i _=>zs.length - (intOf i).toNat);case atStart=>exact ⟨0,Nat.zero_le _,rfl,Own.nil _ _,Below.refl _ _⟩
  case round=>
   obtain ⟨k,hk,rfl,own,hb⟩:=hrel;by_cases hlt:k<zs.length
   ·obtain ⟨b,off,rfl,hrow⟩:=(HAT.out _ (hbW.trans (hb.mono (Nat.le_of_lt WJ)))).row aJ;obtain ⟨c,hq⟩:∃c,zs[k]=c:=⟨_,rfl⟩;have h1:wr.cell? ⟨b,off+k,none⟩=some (.int .u64 c):=by rw [hrow wr (Below.refl _ _) k hlt,hq]
    have hcz:=HZ.out zs[k] (List.getElem_mem hlt);rw [hq] at hcz;have hT:Hid (fQ (zs.take (k+1))=fQ (zs.take k)++iJ c.toNat 8):=hid (by rw [fE zs k hlt,Fz,hq]);have hL:(fQ (zs.take k)).length≤128:=by rw [ni,List.length_take];omega
    clear hrow hq;have hks:k+1≤zs.length:=hlt;go_wp2_with fail;refine (tO _ (fQ (zs.take k)) c wr own.bytes aJ hcz.1).mono ?_;rintro _ w1 ⟨v1,rfl,o1,b1⟩;replace o1:=o1.mono hb.size;replace hb:=ah hb b1;go_wp2_with fail;go_roundw;case rel=>exact ⟨k+1,hks,by go_num,by rw [hT.out];exact o1,hb⟩
    case measure=>simp [intOf];omega
   ·have hke:k=zs.length:=by omega
    subst hke;rw [List.take_length] at own;have hS:=own.bytes.str;have SI:=iq.below hb;go_wp2_with (refine aN ?_;refine aSt G (8,fQ zs) (tL (0,[])) SI rfl ?_);exact bodyPost_ret (v:=.tuple #[Fh (8,fQ zs),.bool true]) (nI (p:=2) (u:=3) rfl _ _ G _ (8,fQ zs) rfl (SI.P_ _)) rfl ⟨rfl,by rw [hG];exact below_setRow (hbW.trans (hb.mono (Nat.le_of_lt WJ))) (Nat.le_refl _) _⟩
 ·rw [show kF zs=((0,[]),false) from if_neg hok];go_enter func173,ntmps173;go_upto_region 1 with fail;generalize hG:w.heap.size=G at *;generalize w.alloc (Obj.cells #[.int .i64 0,.string ⟨#[]⟩] 187)=W at *;go_wp2_with (refine aN ?_;refine aSt G (0,[]) (tL (0,[])) iq rfl ?_);exact bodyPost_ret (v:=.tuple #[Fh (0,[]),.bool false]) (nI (p:=2) (u:=3) rfl _ _ G _ (0,[]) rfl (iq.P_ _)) rfl ⟨rfl,by rw [hG];exact below_setRow hbW (Nat.le_refl _) _⟩
end Go.Proofs.YtofhdhgfcomhiaaGreat
