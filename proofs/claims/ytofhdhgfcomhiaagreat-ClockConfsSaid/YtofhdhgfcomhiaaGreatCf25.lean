/- Of what laws of the clock want, part 25: ClkBgn ClkSet ClkAna ClkTck ClkEvt ClkDr ClkLaws2 ClkAwk (mini.py). -/
import Derived.Test.YtofhdhgfcomhiaaGreatCf24
namespace Go.Proofs.YtofhdhgfcomhiaaGreat
open Go.RowKit Go.Proofs
set_option maxRecDepth 100000
set_option maxHeartbeats 100000000
set_option linter.unusedVariables false
set_option linter.unusedSimpArgs false
open Tryz
variable {B:Nat} {P:Program} {Q:Exit→Act→World→Prop} {S:World→Prop} {a:Act} {b:Nat} {base:Nat} {cap:Nat} {fuel:Nat} {g:Nat} {h:Nat} {i:Nat} {l:List UInt8} {listed:Array Bool} {n:Nat} {now:Int} {o:Oper} {oi:Oper} {op:Oper} {ops:Array Oper} {p:Prop} {rest:List Oper} {t:TypeId} {v:Value} {w:World} {w':World} {xs:List Value} {α:Type}
section
variable {w:World} {g:Nat} {hs:List Nat} {sv fl:Nat} {bs:List PL} {F:Nat→Prop} {k:Kz} {i h:Nat} {b:PL} {p:Pt}
theorem RO (hs:List Nat) (sv fl:Nat) (k:Kz) (h:Nat) (h8:hs.length<8):(fI hs sv fl k).set (23+hs.length) (.pointer (some ⟨h,0,none⟩))=fI (hs++[h]) sv fl k:=by
 rcases hs with _ | ⟨a0,_ | ⟨a1,_ | ⟨a2,_ | ⟨a3,_ | ⟨a4,_ | ⟨a5,_ | ⟨a6,_ | ⟨a7,hs⟩⟩⟩⟩⟩⟩⟩⟩
 ·rfl
 ·rfl
 ·rfl
 ·rfl
 ·rfl
 ·rfl
 ·rfl
 ·rfl
 ·simp only [List.length_cons] at h8;omega
def ckK' (hs:List Nat) (sv fl:Nat):RowK Kz:=⟨fun k=>fI hs sv fl k,50,by decide,fun _=>rfl,by
 intro k v hv
 unfold fI at hv
 rcases List.mem_append.1 hv with hv | hv
 ·rcases List.mem_append.1 hv with hv | hv
  ·rcases List.mem_append.1 hv with hv | hv
   ·exact bT.one _ v hv
   ·simp only [List.mem_cons,List.not_mem_nil,or_false] at hv
    rcases hv with rfl | rfl | rfl | rfl | rfl | rfl | rfl | rfl | rfl | rfl <;> rfl
  ·exact j4.one _ v hv
 ·simp only [List.mem_cons,List.not_mem_nil,or_false] at hv
  rcases hv with rfl | rfl | rfl | rfl | rfl <;> rfl⟩
def sZ:RowK (List Value×Nat):=⟨fun x=>if x.1.length=50∧∀v ∈ x.1,v.oneCell'=true then x.1 else List.replicate 50 (.int .i64 0),50,by decide,fun x=>by
 show (if x.1.length=50∧∀v ∈ x.1,v.oneCell'=true then x.1 else List.replicate 50 (Value.int .i64 0)).length=50;split
 ·rename_i h;exact h.1
 ·rfl,fun x=>by
 intro v hv;have hv2:v ∈ (if x.1.length=50∧∀v ∈ x.1,v.oneCell'=true then x.1 else List.replicate 50 (Value.int .i64 0)):=hv;split at hv2
 ·rename_i h;exact h.2 v hv2
 ·rw [(List.mem_replicate.1 hv2).2];rfl⟩
theorem IK {l:List Value} (h:l.length=50) (h1:∀v ∈ l,v.oneCell'=true):sZ.enc (l,0)=l:=if_pos ⟨h,h1⟩
theorem V8 (hs:List Nat) (sv fl:Nat) (k:Kz):∀v ∈ fI hs sv fl k,v.oneCell'=true:=(ckK' hs sv fl).one k
theorem mP (hs:List Nat) (sv fl:Nat) (k:Kz):sZ.enc (fI hs sv fl k,0)=fI hs sv fl k:=IK (wJ _ _ _ _) (V8 hs sv fl k)
theorem Er:dB sZ 82:=⟨⟨_,underlying82,rfl⟩,by kernel_rfl⟩
def bJ:List Value:=cfL zeroC++[.pointer none,.pointer none,.pointer none,.pointer none,.pointer none,.pointer none,.pointer none,.pointer none,.int .i64 0,.int .i64 0]++rz dK++[.pointer none,.pointer none,.int .i64 0,.int .i64 0,.bool false]
theorem wI:sZ.enc (bJ,0)=bJ:=IK rfl (by
 intro v hv
 unfold bJ at hv
 rcases List.mem_append.1 hv with hv | hv
 ·rcases List.mem_append.1 hv with hv | hv
  ·rcases List.mem_append.1 hv with hv | hv
   ·exact bT.one _ v hv
   ·simp only [List.mem_cons,List.not_mem_nil,or_false] at hv
    rcases hv with rfl | rfl | rfl | rfl | rfl | rfl | rfl | rfl | rfl | rfl <;> rfl
  ·exact j4.one _ v hv
 ·simp only [List.mem_cons,List.not_mem_nil,or_false] at hv
  rcases hv with rfl | rfl | rfl | rfl | rfl <;> rfl)
structure Made (w0 w:World) (c:Cf) (hs:List Nat) (bs:List PL) (j:Nat):Prop where
 lh:hs.length=j
 lb:bs.length=j
 pt:∀(i:Nat) (h:Nat) (b:PL),hs[i]? = some h→bs[i]? = some b→o8 w h (nu c i) b (gK c i)
 rng:∀(i:Nat) (h:Nat) (b:PL),hs[i]? = some h→bs[i]? = some b→(∀n,OF h b n→w0.heap.size≤n∧n<w.heap.size)∧∀n,b.G n→False
 ap:∀(i j:Nat) (h h':Nat) (b b':PL),hs[i]? = some h→bs[i]? = some b→hs[j]? = some h'→bs[j]? = some b'→i≠j→∀n,OF h b n→¬OF h' b' n
theorem Made.zero (w0 w:World) (c:Cf):Made w0 w c [] [] 0:=⟨rfl,rfl,fun i h b hh=>by simp at hh,fun i h b hh=>by simp at hh,fun i j h h' b b' hh=>by simp at hh⟩
theorem Made.same {w0 w w':World} {c:Cf} {hs:List Nat} {bs:List PL} {j:Nat} (M:Made w0 w c hs bs j) (hsz:w.heap.size≤w'.heap.size) (hb:∀n,(∃(i h:Nat) (b:PL),hs[i]? = some h∧bs[i]? = some b∧OF h b n)→w'.heap[n]? = w.heap[n]?):Made w0 w' c hs bs j:=by
 refine ⟨M.lh,M.lb,fun i h b hh hbb=>(M.pt i h b hh hbb).same fun n hn=>?_,fun i h b hh hbb=>⟨fun n hn=>⟨((M.rng i h b hh hbb).1 n hn).1,Nat.lt_of_lt_of_le ((M.rng i h b hh hbb).1 n hn).2 hsz⟩,(M.rng i h b hh hbb).2⟩,M.ap⟩;rcases hn with hn | hn
 ·exact hb n ⟨i,h,b,hh,hbb,hn⟩
 ·exact absurd ((M.rng i h b hh hbb).2 n hn) id
theorem Made.below {w0:World} {c:Cf} {hs:List Nat} {bs:List PL} {j:Nat} (M:Made w0 w c hs bs j) (hb:Below w.heap.size w w'):Made w0 w' c hs bs j:=
 M.same hb.size fun n ⟨i,h,b,hh,hbb,hn⟩=>hb.block n ((M.rng i h b hh hbb).1 n hn).2
theorem Made.only {w0:World} {c:Cf} {hs:List Nat} {bs:List PL} {j x:Nat} (M:Made w0 w c hs bs j) (ho:Only x w w') (hx:Ty w x SB):Made w0 w' c hs bs j:=M.same ho.size fun n ⟨i,h,b,hh,hbb,hn⟩=>by obtain ⟨t,h1,-,-,-,h2,-⟩:=(M.pt i h b hh hbb).ty n hn;exact ho.block n h1.lt fun e=>h2 (h1.one (e▸hx))
theorem iC {l:List α} {a x:α} (h:(l++[a])[i]? = some x):(i<l.length∧l[i]? = some x)∨(i=l.length∧a=x):=by
 by_cases hi:i<l.length
 ·rw [List.getElem?_append_left hi] at h;exact .inl ⟨hi,h⟩
 ·rw [List.getElem?_append_right aJ] at h;have hl:=(List.getElem?_eq_some_iff.1 h).1;simp only [List.length_singleton] at hl;have e:i=l.length:=by omega
  subst e;rw [Nat.sub_self] at h;exact .inr ⟨rfl,Option.some.inj h⟩
theorem Made.snoc {w0:World} {c:Cf} {hs:List Nat} {bs:List PL} {j:Nat} {b:PL} (M:Made w0 w c hs bs j) (h0:w0.heap.size≤w.heap.size) (hb:Below w.heap.size w w') (hP:o8 w' h (nu c j) b (gK c j)) (hr:∀n,OF h b n→w.heap.size≤n∧n<w'.heap.size) (hG:∀n,b.G n→False):Made w0 w' c (hs++[h]) (bs++[b]) (j+1):=by
 have M2:=M.below hb;have l1:=M.lh;have l2:=M.lb;refine ⟨by rw [List.length_append,l1];rfl,by rw [List.length_append,l2];rfl,fun i h1 b1 hh hbb=>?_,fun i h1 b1 hh hbb=>?_,fun i i' h1 h2 b1 b2 hh hbb hh' hbb' hne n hn hn'=>?_⟩
 ·rcases iC hh with ⟨hi,e1⟩ | ⟨hi,e1⟩
  ·rcases iC hbb with ⟨_,e2⟩ | ⟨hi2,_⟩
   ·exact M2.pt i h1 b1 e1 e2
   ·omega
  ·rcases iC hbb with ⟨hi2,_⟩ | ⟨hi2,e2⟩
   ·omega
   ·subst e1 e2;rw [hi,l1];exact hP
 ·rcases iC hh with ⟨hi,e1⟩ | ⟨hi,e1⟩
  ·rcases iC hbb with ⟨_,e2⟩ | ⟨hi2,_⟩
   ·exact M2.rng i h1 b1 e1 e2
   ·omega
  ·rcases iC hbb with ⟨hi2,_⟩ | ⟨hi2,e2⟩
   ·omega
   ·subst e1 e2;exact ⟨fun n hn=>⟨Nat.le_trans h0 (hr n hn).1,(hr n hn).2⟩,hG⟩
 ·rcases iC hh with ⟨hi,e1⟩ | ⟨hi,e1⟩ <;> rcases iC hbb with ⟨hi2,e2⟩ | ⟨hi2,e2⟩ <;> rcases iC hh' with ⟨hi3,e3⟩ | ⟨hi3,e3⟩ <;> rcases iC hbb' with ⟨hi4,e4⟩ | ⟨hi4,e4⟩ <;> try omega
  ·exact M.ap i i' h1 h2 b1 b2 e1 e2 e3 e4 hne n hn hn'
  ·subst e3 e4;have a1:=((M.rng i h1 b1 e1 e2).1 n hn).2;have a2:=(hr n hn').1;omega
  ·subst e1 e2;have a1:=((M.rng i' h2 b2 e3 e4).1 n hn').2;have a2:=(hr n hn).1;omega
theorem Ko {X F:Nat→World→Nat→Nat→Prop} {G:Prop} (hmain:(∀g w a b,F g w a b→X g w a b)→G) (hrest:∀g w a b,F g w a b→X g w a b):G:=hmain hrest
theorem Kq (c:Cf) (hc:gJ c) (hcl:0≤c.cl∧c.cl<18446744073709551616) (w:World):Calls prog 29 #[.agg (bT.enc c).toArray] w fun e w'=>∃hs sv fl bs F,e=.returned (.agg (fI hs sv fl (ay c)).toArray)∧Parts w' hs sv fl bs F (ay c)∧(∀n,F n→w.heap.size≤n)∧Below w.heap.size w w':=by
 have hpo:1≤c.po∧c.po≤8:=hc.2.2.1;obtain ⟨n,hn⟩:∃n:Nat,c.po=(n:Int):=⟨c.po.toNat,by omega⟩;have Ug:n≤8:=by omega
 have hoc:=Ci c;have z:=aA w (Obj.cells (bT.enc c).toArray 28);have X:=ak.new w (bT.enc c) 28;go_enter func29,ntmps29;go_upto_region 1 with fail;change Code.wp prog _ _ _ ((w.alloc (Obj.cells (bT.enc c).toArray 28)).alloc (Obj.cells bJ.toArray 82));have e1:(w.alloc (Obj.cells (bT.enc c).toArray 28)).heap.size=w.heap.size+1:=uI _ _;have z2:=aA (w.alloc (Obj.cells (bT.enc c).toArray 28)) (Obj.cells bJ.toArray 82);have BR:=ak.new (w.alloc (Obj.cells (bT.enc c).toArray 28)) bJ 82;replace X:=X.below z2;replace z:=ah z z2;rw [e1] at BR;clear z2 e1;obtain ⟨gc,hgc⟩:∃gc,w.heap.size=gc:=⟨_,rfl⟩;obtain ⟨gR,hgR⟩:∃gR,w.heap.size+1=gR:=⟨_,rfl⟩;rw [hgc] at X;rw [hgR] at BR;rw [show (Value.pointer (some ⟨w.heap.size,0,none⟩))=Value.pointer (some ⟨gc,0,none⟩) by rw [hgc],show (Value.pointer (some ⟨w.heap.size+1,0,none⟩))=Value.pointer (some ⟨gR,0,none⟩) by rw [hgR]];have lR:w.heap.size≤gR:=by omega
 clear hgc hgR;generalize (w.alloc (Obj.cells (bT.enc c).toArray 28)).alloc (Obj.cells bJ.toArray 82)=W at *;have hbd:=Below.drew (Below.refl W.heap.size W);replace X:=X.below hbd;replace BR:=BR.below hbd;replace z:=ah z hbd;refine eU (S:=fun w'=>Below W.drew.heap.size W.drew w') (z:=15) aW ?_;have hHeld:=Below.refl W.drew.heap.size W.drew;generalize W.drew=wd at *;clear hbd;have d0:∀wx,Below wd.heap.size wd wx→wx.rangeAt gc 0 (bT.enc c):=fun wx hx=>(X.below hx).b_;have d1:∀wx,Below wd.heap.size wd wx→wx.cell? ⟨gc,16,none⟩=some (.int .i64 c.kp):=fun wx hx=>(X.below hx).cell 16 _ rfl;have d2:∀wx,Below wd.heap.size wd wx→wx.cell? ⟨gc,17,none⟩=some (.int .i64 c.ki):=fun wx hx=>(X.below hx).cell 17 _ rfl;have d3:∀wx,Below wd.heap.size wd wx→wx.cell? ⟨gc,18,none⟩=some (.int .i64 c.st):=fun wx hx=>(X.below hx).cell 18 _ rfl;have d4:∀wx,Below wd.heap.size wd wx→wx.cell? ⟨gc,15,none⟩=some (.int .i64 c.md):=fun wx hx=>(X.below hx).cell 15 _ rfl;apply Ko (F:=fun gy wy gV gF=>wd.heap.size≤gy∧wd.heap.size≤gV∧wd.heap.size≤gF∧Below wd.heap.size wd wy∧ak wy gy (fI [] gV gF (ay c)) 82∧Dh DZ wy gV (uV c.kp c.ki c.st)∧bY Vp Ca wy gF (lq c.md,[]))
 ·intro hrest;refine zt 0 hHeld ?_ (hy:=fun wx hwx=>lJ.exec (.tmp 1) rfl gc 0 rfl c (d0 wx hwx));refine zt 1 hHeld ?_ (hy:=fun wx hwx=>lJ.exec (.tmp 1) rfl gc 0 rfl c (d0 wx hwx));refine tz [3,4,5,6,7,8,10,11] hHeld ?_;refine yF 2 14 rfl rfl aW bn bn (fun K' hK=>?_) (fun K' hK=>?_)
  ·go_simp;refine (hoc wd).mono ?_;rintro e u1 ⟨rfl,b1⟩;replace hHeld:=hHeld.trans (b1.mono hHeld.size);clear b1;refine hK _ _ hHeld ?_;clear hK K';try simp only [Act.put,zI,bG,zS]
   refine yF 9 14 rfl rfl aW bn bn (fun K' hK=>?_) (fun K' hK=>?_)
   ·go_simp;refine (Cc c.kp c.ki c.st u1).mono ?_;rintro e u2 ⟨gV,rfl,lV,oV,b1⟩;replace lV:=Nat.le_trans hHeld.size lV;replace hHeld:=hHeld.trans (b1.mono hHeld.size);clear b1;refine hK _ _ hHeld ?_;clear hK K';try simp only [Act.put,zI,bG,zS]
    refine yF 12 14 rfl rfl aW bn bn (fun K' hK=>?_) (fun K' hK=>?_)
    ·go_simp;refine (vS c.md u2).mono ?_;rintro e u3 ⟨gF,rfl,lF,oF,b1⟩;replace lF:=Nat.le_trans hHeld.size lF;replace oV:=bY.below oV b1;replace hHeld:=hHeld.trans (b1.mono hHeld.size);clear b1;refine hK _ _ hHeld ?_;clear hK K';try simp only [Act.put,zI,bG,zS]
     refine zt 13 hHeld ?_ (hy:=fun wx hwx=>bg _ _ rfl _ rfl (fI [] gV gF (ay c)).toArray aW);refine aZ 14 fun K' hK=>?_;go_simp;have b1:=aA u3 (Obj.cells bJ.toArray 82);have eF:=ak.new u3 bJ 82;have hge:=hHeld.size;replace oV:=bY.below oV b1;replace oF:=bY.below oF b1;replace hHeld:=hHeld.trans (b1.mono hHeld.size);clear b1;refine hK _ (u3.alloc (Obj.cells bJ.toArray 82)) hHeld ?_;clear hK K';try simp only [Act.put,zI,bG,zS]
     obtain ⟨gy,kW⟩:∃gy,u3.heap.size=gy:=⟨_,rfl⟩;rw [show (Value.pointer (some ⟨u3.heap.size,0,none⟩))=Value.pointer (some ⟨gy,0,none⟩) by rw [kW]];rw [kW] at eF;replace hge:wd.heap.size≤gy:=by omega
     clear kW;generalize u3.alloc (Obj.cells bJ.toArray 82)=u4 at *;refine aE 15 fun K' hK=>?_;refine Er.dS (.tmp 3) (.tmp 18) rfl gy (fI [] gV gF (ay c),0) (bJ,0) _ rfl Pv Ph ?_;rw [mP];have h3:=below_setRow hHeld hge (fI [] gV gF (ay c)).toArray;have o3:=(Only.refl gy u4).row (fI [] gV gF (ay c)).toArray;have h4:=eF.fB (fI [] gV gF (ay c));have zf:=oV.only o3 (fun e=>by have:=oV.ty.one (e▸eF.ty);revert this;decide);have Ou:=bY.only oF o3 (fun e=>by have:=oF.ty.one (e▸eF.ty);revert this;decide);refine hK _ _ ?_;clear hK K';generalize World.setRow _ _ _=wz at h3 h4 zf Ou ⊢;exact hrest gy wz gV gF ⟨hge,lV,lF,h3,h4,zf,Ou⟩
    ·go_simp;have b1:=aA u2 (Obj.cells bJ.toArray 82);have eF:=ak.new u2 bJ 82;have hge:=hHeld.size;replace oV:=bY.below oV b1;replace hHeld:=hHeld.trans (b1.mono hHeld.size);clear b1;refine hK _ (u2.alloc (Obj.cells bJ.toArray 82)) hHeld ?_;clear hK K';try simp only [Act.put,zI,bG,zS]
     obtain ⟨gy,kW⟩:∃gy,u2.heap.size=gy:=⟨_,rfl⟩;rw [show (Value.pointer (some ⟨u2.heap.size,0,none⟩))=Value.pointer (some ⟨gy,0,none⟩) by rw [kW]];rw [kW] at eF;replace hge:wd.heap.size≤gy:=by omega
     clear kW;generalize u2.alloc (Obj.cells bJ.toArray 82)=u3 at *;refine aZ 12 fun K' hK=>?_;go_simp;refine (vS c.md u3).mono ?_;rintro e u4 ⟨gF,rfl,lF,oF,b1⟩;replace lF:=Nat.le_trans hHeld.size lF;replace oV:=bY.below oV b1;replace eF:=eF.below b1;replace hHeld:=hHeld.trans (b1.mono hHeld.size);clear b1;refine hK _ _ hHeld ?_;clear hK K';try simp only [Act.put,zI,bG,zS]
     refine zt 13 hHeld ?_ (hy:=fun wx hwx=>bg _ _ rfl _ rfl (fI [] gV gF (ay c)).toArray aW);refine aE 15 fun K' hK=>?_;refine Er.dS (.tmp 3) (.tmp 18) rfl gy (fI [] gV gF (ay c),0) (bJ,0) _ rfl Pv Ph ?_;rw [mP];have h3:=below_setRow hHeld hge (fI [] gV gF (ay c)).toArray;have o3:=(Only.refl gy u4).row (fI [] gV gF (ay c)).toArray;have h4:=eF.fB (fI [] gV gF (ay c));have zf:=oV.only o3 (fun e=>by have:=oV.ty.one (e▸eF.ty);revert this;decide);have Ou:=bY.only oF o3 (fun e=>by have:=oF.ty.one (e▸eF.ty);revert this;decide);refine hK _ _ ?_;clear hK K';generalize World.setRow _ _ _=wz at h3 h4 zf Ou ⊢;exact hrest gy wz gV gF ⟨hge,lV,lF,h3,h4,zf,Ou⟩
   ·go_simp;have b1:=aA u1 (Obj.cells bJ.toArray 82);have eF:=ak.new u1 bJ 82;have hge:=hHeld.size;replace hHeld:=hHeld.trans (b1.mono hHeld.size);clear b1;refine hK _ (u1.alloc (Obj.cells bJ.toArray 82)) hHeld ?_;clear hK K';try simp only [Act.put,zI,bG,zS]
    obtain ⟨gy,kW⟩:∃gy,u1.heap.size=gy:=⟨_,rfl⟩;rw [show (Value.pointer (some ⟨u1.heap.size,0,none⟩))=Value.pointer (some ⟨gy,0,none⟩) by rw [kW]];rw [kW] at eF;replace hge:wd.heap.size≤gy:=by omega
    clear kW;generalize u1.alloc (Obj.cells bJ.toArray 82)=u2 at *;refine aZ 9 fun K' hK=>?_;go_simp;refine (Cc c.kp c.ki c.st u2).mono ?_;rintro e u3 ⟨gV,rfl,lV,oV,b1⟩;replace lV:=Nat.le_trans hHeld.size lV;replace eF:=eF.below b1;replace hHeld:=hHeld.trans (b1.mono hHeld.size);clear b1;refine hK _ _ hHeld ?_;clear hK K';try simp only [Act.put,zI,bG,zS]
    refine aZ 12 fun K' hK=>?_;go_simp;refine (vS c.md u3).mono ?_;rintro e u4 ⟨gF,rfl,lF,oF,b1⟩;replace lF:=Nat.le_trans hHeld.size lF;replace oV:=bY.below oV b1;replace eF:=eF.below b1;replace hHeld:=hHeld.trans (b1.mono hHeld.size);clear b1;refine hK _ _ hHeld ?_;clear hK K';try simp only [Act.put,zI,bG,zS]
    refine zt 13 hHeld ?_ (hy:=fun wx hwx=>bg _ _ rfl _ rfl (fI [] gV gF (ay c)).toArray aW);refine aE 15 fun K' hK=>?_;refine Er.dS (.tmp 3) (.tmp 18) rfl gy (fI [] gV gF (ay c),0) (bJ,0) _ rfl Pv Ph ?_;rw [mP];have h3:=below_setRow hHeld hge (fI [] gV gF (ay c)).toArray;have o3:=(Only.refl gy u4).row (fI [] gV gF (ay c)).toArray;have h4:=eF.fB (fI [] gV gF (ay c));have zf:=oV.only o3 (fun e=>by have:=oV.ty.one (e▸eF.ty);revert this;decide);have Ou:=bY.only oF o3 (fun e=>by have:=oF.ty.one (e▸eF.ty);revert this;decide);refine hK _ _ ?_;clear hK K';generalize World.setRow _ _ _=wz at h3 h4 zf Ou ⊢;exact hrest gy wz gV gF ⟨hge,lV,lF,h3,h4,zf,Ou⟩
  ·go_simp;have b1:=aA wd (Obj.cells bJ.toArray 82);have eF:=ak.new wd bJ 82;have hge:=hHeld.size;replace hHeld:=hHeld.trans (b1.mono hHeld.size);clear b1;refine hK _ (wd.alloc (Obj.cells bJ.toArray 82)) hHeld ?_;clear hK K';try simp only [Act.put,zI,bG,zS]
   obtain ⟨gy,kW⟩:∃gy,wd.heap.size=gy:=⟨_,rfl⟩;rw [show (Value.pointer (some ⟨wd.heap.size,0,none⟩))=Value.pointer (some ⟨gy,0,none⟩) by rw [kW]];rw [kW] at eF;replace hge:wd.heap.size≤gy:=by omega
   clear kW;generalize wd.alloc (Obj.cells bJ.toArray 82)=u1 at *;refine aZ 2 fun K' hK=>?_;go_simp;refine (hoc u1).mono ?_;rintro e u2 ⟨rfl,b1⟩;replace eF:=eF.below b1;replace hHeld:=hHeld.trans (b1.mono hHeld.size);clear b1;refine hK _ _ hHeld ?_;clear hK K';try simp only [Act.put,zI,bG,zS]
   refine aZ 9 fun K' hK=>?_;go_simp;refine (Cc c.kp c.ki c.st u2).mono ?_;rintro e u3 ⟨gV,rfl,lV,oV,b1⟩;replace lV:=Nat.le_trans hHeld.size lV;replace eF:=eF.below b1;replace hHeld:=hHeld.trans (b1.mono hHeld.size);clear b1;refine hK _ _ hHeld ?_;clear hK K';try simp only [Act.put,zI,bG,zS]
   refine aZ 12 fun K' hK=>?_;go_simp;refine (vS c.md u3).mono ?_;rintro e u4 ⟨gF,rfl,lF,oF,b1⟩;replace lF:=Nat.le_trans hHeld.size lF;replace oV:=bY.below oV b1;replace eF:=eF.below b1;replace hHeld:=hHeld.trans (b1.mono hHeld.size);clear b1;refine hK _ _ hHeld ?_;clear hK K';try simp only [Act.put,zI,bG,zS]
   refine zt 13 hHeld ?_ (hy:=fun wx hwx=>bg _ _ rfl _ rfl (fI [] gV gF (ay c)).toArray aW);refine aE 15 fun K' hK=>?_;refine Er.dS (.tmp 3) (.tmp 18) rfl gy (fI [] gV gF (ay c),0) (bJ,0) _ rfl Pv Ph ?_;rw [mP];have h3:=below_setRow hHeld hge (fI [] gV gF (ay c)).toArray;have o3:=(Only.refl gy u4).row (fI [] gV gF (ay c)).toArray;have h4:=eF.fB (fI [] gV gF (ay c));have zf:=oV.only o3 (fun e=>by have:=oV.ty.one (e▸eF.ty);revert this;decide);have Ou:=bY.only oF o3 (fun e=>by have:=oF.ty.one (e▸eF.ty);revert this;decide);refine hK _ _ ?_;clear hK K';generalize World.setRow _ _ _=wz at h3 h4 zf Ou ⊢;exact hrest gy wz gV gF ⟨hge,lV,lF,h3,h4,zf,Ou⟩
 rintro gk wy gV gF ⟨hge,lV,lF,hby,BK,oV,oF⟩;have hwd:=z.size;have hRk:gR≠gk:=by have:=BR.lt;omega
 replace X:=X.below hby;replace BR:=BR.below hby;replace z:=ah z hby;clear hby d0 d1 d2 d3 d4 hoc;have x1:=X.cell 1 (.int .i64 (n:Int)) (by rw [←hn];rfl);have M0:=Made.zero w wy c;have l0:w.heap.size≤gk:=Nat.le_trans hwd hge;have l1:w.heap.size≤gV:=Nat.le_trans hwd lV;have l2:w.heap.size≤gF:=Nat.le_trans hwd lF;clear hge lV lF hwd;replace hn:=hid hn;try simp only [Act.put,zI,bG,zS]
 go_wp2_with fail;clear x1;go_loopw [21] (fun iv wr=>∃(j:Nat) (hs:List Nat) (bs:List PL),j≤n∧iv=.int .i64 (j:Int)∧Made w wr c hs bs j∧ak wr gk (fI hs gV gF (ay c)) 82∧Dh DZ wr gV (uV c.kp c.ki c.st)∧bY Vp Ca wr gF (lq c.md,[])∧ak wr gc (bT.enc c) 28∧ak wr gR bJ 82∧Below w.heap.size w wr) (fun iv _=>n - (intOf iv).toNat);case atStart=>exact ⟨0,[],[],Nat.zero_le _,rfl,M0,BK,oV,oF,X,BR,z⟩
 case round=>
  clear M0 BK oV oF X BR z;obtain ⟨j,hs,bs,hj,rfl,M,BK,oV,oF,X,BR,hb⟩:=hrel;by_cases hj2:j<n
  ·have Zw:(j:Int)<(n:Int):=by omega
   have Cw:j<8:=by omega
   have VU:(j:Int)<8:=by omega
   have hw:=wrap_small (x:=(j:Int)+1) aJ;have RC:=X.b_;go_wp2_with (refine aD 25 ?_;refine lJ.aL gc 0 c RC ?_);refine (Ep c hcl j wr).mono ?_;rintro e w5 ⟨h',b',rfl,hP,hr,hG,b5⟩;have M2:=M.snoc hb.size b5 hP hr hG;replace BK:=BK.below b5;replace oV:=bY.below oV b5;replace oF:=bY.below oF b5;replace X:=X.below b5;replace BR:=BR.below b5;replace hb:=ah hb b5
   have cK:w5.cell? ⟨gk,23+j,none⟩=some (.pointer none):=BK.cell (23+j) _ (by
    rw [D5 hs gV gF (ay c) j Cw]
    unfold Nq
    rw [List.getElem?_eq_none (by rw [M.lh];exact Nat.le_refl _)]
    rfl)
   have fK:=BK.free (23+j);have hlh:=M.lh;clear M hP hr hG RC b5;go_wp2_with fail;have o6:=(Only.refl gk w5).cell (23+j) (.pointer (some ⟨h',0,none⟩));have BK2:=BK.set (23+j) (.pointer (some ⟨h',0,none⟩));have hset:(fI hs gV gF (ay c)).set (23+j) (.pointer (some ⟨h',0,none⟩))=fI (hs++[h']) gV gF (ay c):=by rw [←hlh];exact RO hs gV gF (ay c) h' aJ
   rw [hset] at BK2;have M3:=M2.only o6 BK.ty;replace oV:=bY.only oV o6 (fun e=>by have:=oV.ty.one (e▸BK.ty);revert this;decide);replace oF:=bY.only oF o6 (fun e=>by have:=oF.ty.one (e▸BK.ty);revert this;decide);replace X:=X.only o6 (fun e=>by have:=X.ty.one (e▸BK.ty);revert this;decide);replace BR:=BR.only o6 hRk;replace hb:=hb.setCell (p:=⟨gk,23+j,none⟩) l0 (.pointer (some ⟨h',0,none⟩));clear M2 cK fK BK hset;go_roundw;case rel=>exact ⟨j+1,hs++[h'],bs++[b'],hj2,by go_num,M3,BK2,oV,oF,X,BR,hb⟩
   case measure=>simp [intOf];omega
  ·obtain rfl:n=j:=by omega
   have RK:wr.rangeAt gk 0 (sZ.enc (fI hs gV gF (ay c),0)):=by rw [mP];exact BK.Ak
   have Z5:ak wr gR (sZ.enc (bJ,0)) 82:=by rw [wI];exact BR
   have o7:=(Only.refl gR wr).row (sZ.enc (fI hs gV gF (ay c),0)).toArray;have M3:=M.only o7 BR.ty;have oV3:=bY.only oV o7 (fun e=>by have:=oV.ty.one (e▸BR.ty);revert this;decide);have oF3:=bY.only oF o7 (fun e=>by have:=oF.ty.one (e▸BR.ty);revert this;decide);have hb3:=below_setRow hb lR (sZ.enc (fI hs gV gF (ay c),0)).toArray;clear M oV oF X;go_wp2_with (first | (refine aD 32 ?_;refine Er.aL gk 0 (fI hs gV gF (ay c),0) RK ?_) | (refine aN ?_;refine Er.aS (gR) ((fI hs gV gF (ay c),0)) ((bJ,0)) Z5 ?_));refine bodyPost_ret (v:=.agg (sZ.enc (fI hs gV gF (ay c),0)).toArray) (Er.result rfl _ _ gR _ _ rfl (Z5.fB _)) rfl ⟨hs,gV,gF,bs,fun n=>n=gV∨n=gF∨∃(i:Nat) (h:Nat) (b:PL),hs[i]? = some h∧bs[i]? = some b∧(OF h b n∨b.G n),by rw [mP],?_,?_,hb3⟩
   ·have hll:(ay c).ls.length=n:=by show ((List.range c.po.toNat).map (gK c)).length=n;rw [List.length_map,List.length_range,hn.out];simp
    refine ⟨oV3,oF3,by rw [M3.lh,hll],by rw [M3.lb,hll],by rw [hll];exact Ug,fun i h b p hh hbb hp=>?_,M3.ap,fun n=>Iff.rfl⟩;have hp2:p=gK c i:=by
     have h1:((List.range c.po.toNat).map (gK c))[i]? = some p:=hp;rw [List.getElem?_map] at h1;cases h2:(List.range c.po.toNat)[i]? with
     | none=>rw [h2] at h1;cases h1
     | some x=>
      rw [h2] at h1;obtain ⟨hl,he⟩:=List.getElem?_eq_some_iff.1 h2;rw [List.getElem_range] at he;rw [he];exact (Option.some.inj h1).symm
    rw [hp2];exact M3.pt i h b hh hbb
   ·rintro m (rfl | rfl | ⟨i,h,b,hh,hbb,ho | ho⟩)
    ·exact l1
    ·exact l2
    ·exact ((M3.rng i h b hh hbb).1 m ho).1
    ·exact absurd ((M3.rng i h b hh hbb).2 m ho) id
end
section
variable {w:World} {g:Nat} {hs:List Nat} {sv fl:Nat} {bs:List PL} {F:Nat→Prop} {k:Kz} {i h:Nat} {b:PL} {p:Pt}
theorem IL {c:Cf} (h:oJ c):ZW c:=h.1
theorem Ov {c:Cf} :bP c=0↔gJ c:=by
 unfold bP;by_cases h:gJ c
 ·rw [if_pos h];exact ⟨fun _=>h,fun _=>rfl⟩
 ·rw [if_neg h];exact ⟨fun h2=>absurd h2 aX,fun h2=>absurd h2 h⟩
theorem Ow (c:Cf) (hcin:oJ c) (hc:gJ c) (w:World):Calls prog 7 #[.agg (bT.enc c).toArray] w fun e w'=>∃g,e=.returned (.tuple #[.pointer (some ⟨g,0,none⟩),.int .i64 0])∧∃hs sv fl bs F,Lay w' g hs sv fl bs F (ay c)∧(∀n,aK g F n→w.heap.size≤n)∧Below w.heap.size w w':=by
 have z:=aA w (Obj.cells (bT.enc c).toArray 28);have X:=ak.new w (bT.enc c) 28;have hck:=fun wx=>Oq c wx (IL hcin);have hE:bP c=0:=Ov.2 hc;go_enter func7,ntmps7;go_upto_region 1 with fail;change Code.wp prog _ _ _ (w.alloc (Obj.cells (bT.enc c).toArray 28));have hb:=z;obtain ⟨gc,hgc⟩:∃gc,w.heap.size=gc:=⟨_,rfl⟩;rw [hgc] at X;rw [show (Value.pointer (some ⟨w.heap.size,0,none⟩))=Value.pointer (some ⟨gc,0,none⟩) by rw [hgc]];generalize w.alloc (Obj.cells (bT.enc c).toArray 28)=W at *;clear z hgc;have RC:=X.b_;go_wp2_with (refine aD 6 ?_;refine lJ.aL gc 0 c RC ?_);refine (hck W).mono ?_;rintro e w1 ⟨rfl,bq⟩;rw [hE];replace X:=X.below bq;replace hb:=ah hb bq;clear hck bq RC;clear hE;have RC:=X.b_;go_wp2_with (refine aD 11 ?_;refine lJ.aL gc 0 c RC ?_);refine (Kq c hc hcin.1 w1).mono ?_;rintro e w5 ⟨hs',KJ,Ox,bs',F',rfl,P,hF,b5⟩;have hs5:=hb.size;replace hb:=ah hb b5;rw [←mP hs' KJ Ox (ay c)];clear RC;have z:=aA w5 (Obj.cells bJ.toArray 82);have BR:=ak.new w5 bJ 82;have Z5:ak (w5.alloc (Obj.cells bJ.toArray 82)) w5.heap.size (sZ.enc (bJ,0)) 82:=by rw [wI];exact BR
 go_wp2_with (refine aN ?_;refine Er.aS (w5.heap.size) ((fI hs' KJ Ox (ay c),0)) ((bJ,0)) Z5 ?_);go_ret2;have P1:=P.same (w':=w5.alloc (Obj.cells bJ.toArray 82)) fun n hn=>by obtain ⟨t,ht,-⟩:=P.ty n hn;exact z.block n ht.lt
 have o9:=(Only.refl w5.heap.size (w5.alloc (Obj.cells bJ.toArray 82))).row (sZ.enc (fI hs' KJ Ox (ay c),0)).toArray;have VL:=Z5.fB (sZ.enc (fI hs' KJ Ox (ay c),0));have P2:=P1.same (w':=(w5.alloc (Obj.cells bJ.toArray 82)).setRow w5.heap.size (sZ.enc (fI hs' KJ Ox (ay c),0)).toArray) fun n hn=>by obtain ⟨t,ht,-⟩:=P.ty n hn;have h1:=ht.lt;exact o9.block n (Nat.lt_of_lt_of_le h1 z.size) aJ
 have P8:=below_setRow (hb.trans (z.mono hb.size)) hb.size (sZ.enc (fI hs' KJ Ox (ay c),0)).toArray;refine ⟨w5.heap.size,rfl,hs',KJ,Ox,bs',F',⟨by rw [←mP];exact VL,P2⟩,fun n hn=>?_,P8⟩;rcases hn with rfl | hn
 ·exact hb.size
 ·exact Nat.le_trans hs5 (hF n hn)
theorem RQ (c:Cf) (hcin:oJ c) (hc:¬gJ c) (w:World):Calls prog 7 #[.agg (bT.enc c).toArray] w fun e w'=>e=.returned (.tuple #[.pointer none,.int .i64 15])∧Below w.heap.size w w':=by
 have z:=aA w (Obj.cells (bT.enc c).toArray 28);have X:=ak.new w (bT.enc c) 28;have hck:=fun wx=>Oq c wx (IL hcin);have hE:bP c=15:=by unfold bP;rw [if_neg hc]
 go_enter func7,ntmps7;go_upto_region 1 with fail;change Code.wp prog _ _ _ (w.alloc (Obj.cells (bT.enc c).toArray 28));have hb:=z;obtain ⟨gc,hgc⟩:∃gc,w.heap.size=gc:=⟨_,rfl⟩;rw [hgc] at X;rw [show (Value.pointer (some ⟨w.heap.size,0,none⟩))=Value.pointer (some ⟨gc,0,none⟩) by rw [hgc]];generalize w.alloc (Obj.cells (bT.enc c).toArray 28)=W at *;clear z hgc;have RC:=X.b_;go_wp2_with (refine aD 6 ?_;refine lJ.aL gc 0 c RC ?_);refine (hck W).mono ?_;rintro e w1 ⟨rfl,bq⟩;rw [hE];replace X:=X.below bq;replace hb:=ah hb bq;clear hck bq RC;clear hE;go_wp2_with fail;go_ret2;exact ⟨rfl,hb⟩
end
section
variable {w:World} {g:Nat} {hs:List Nat} {sv fl:Nat} {bs:List PL} {F:Nat→Prop} {k:Kz} {i h:Nat} {b:PL} {p:Pt}
section
variable {m:Hd×Bd} {id now:Int} {dt:List UInt8} {j:Nat} {q:Pt} {js:List Nat}
end
theorem Hand.of {k':Kz} (H:Hand k hs bs i h b) (hl:k'.ls.length=k.ls.length):Hand k' hs bs i h b:=⟨by rw [hl];exact H.hi,H.hh,H.hb⟩
end
section
variable {w:World} {g:Nat} {hs:List Nat} {sv fl:Nat} {bs:List PL} {F:Nat→Prop} {k:Kz} {i h:Nat} {b:PL} {p:Pt}
section
variable {j n:Nat} {now:Int}
def uK (k:Kz) (j:Nat):Kz:={ iH (fun _ p=>(countP k.c k.tk p).1) k j with pa:=if (k.ls.take j).any (fun p=>(countP k.c k.tk p).2) then eH k.c else k.pa }
theorem Kr (k:Kz):uK k 0=k:=by unfold uK;rw [qY];rfl
theorem Oy (k:Kz) (j:Nat):(uK k j).ls.length=k.ls.length:=p9
theorem Oz (h:k.ls[j]? = some p):(uK k j).ls[j]? = some p:=mG h
theorem Kt (h:k.ls[j]? = some p):aO { uK k j with pa:=if (countP k.c k.tk p).2 then eH k.c else (uK k j).pa } j (countP k.c k.tk p).1=uK k (j+1):=by
 unfold uK;rw [qZ h];have hl:=(List.getElem?_eq_some_iff.1 h).1;have ht:k.ls.take (j+1)=k.ls.take j++[p]:=by rw [fE _ j hl];rw [(List.getElem?_eq_some_iff.1 h).2]
 rw [ht,List.any_append];simp only [List.any_cons,List.any_nil,Bool.or_false];cases h1:(countP k.c k.tk p).2 <;> cases h2:(k.ls.take j).any (fun p=>(countP k.c k.tk p).2) <;> rfl
theorem OA (h:k.ls.length≤j):uK k j=xH k:=by unfold uK xH;rw [um h,List.take_of_length_le h,Gh]
theorem V9 (k:Kz) (i:Nat) (p:Pt):vW (jk k i p).1=vW p:=by
 unfold jk;split
 ·split
  ·split <;> rfl
  ·rfl
 ·rfl
theorem RS (k:Kz) (i:Nat) (now:Int) (p:Pt):vW (dI k i now p).1=vW p:=((V9 k i _).trans (Oe k i now _).2).trans (Od k i p).2
theorem RU (k:Kz) (i:Nat) (p:Pt):(jk k i p).2.length≤1:=by
 unfold jk;split
 ·split
  ·split <;> exact yx _ _ _ _
  ·exact Nat.zero_le _
 ·exact Nat.zero_le _
theorem OB (k:Kz) (i:Nat) (now:Int) (p:Pt):(dI k i now p).2.length≤3:=by unfold dI;simp only [List.length_append];have h1:=Cq k i p;have h2:=IG k i now (eX k i p).1;have h3:=RU k i (ig k i now (eX k i p).1).1;omega
theorem Ku {k k':Kz} (h1:k'.c=k.c) (h2:k'.pa=k.pa) (h3:jr k'=jr k) (i:Nat) (now:Int) (p:Pt):dI k' i now p=dI k i now p:=by
 have e1:∀q,eX k' i q=eX k i q:=fun q=>by unfold eX;rw [h1,h2,h3]
 have e2:∀q,ig k' i now q=ig k i now q:=fun q=>by unfold ig;rw [h1]
 have e3:∀q,jk k' i q=jk k i q:=fun q=>by unfold jk;rw [h1]
 unfold dI;rw [e1,e2,e3]
theorem Kv (f:Nat→Pt→Pt) (hf:∀i p,vW (f i p)=vW p) (k:Kz) (j:Nat):jr (iH f k j)=jr k:=Aa rfl rfl rfl rfl (by
 show (k.ls.mapIdx fun i p=>if i<j then f i p else p).map vW=k.ls.map vW
 refine List.ext_getElem? fun i=>?_
 rw [List.getElem?_map,List.getElem?_map,List.getElem?_mapIdx]
 cases k.ls[i]? with
 | none=>rfl
 | some p=>
  rw [Option.map_some,Option.map_some,Option.map_some]
  split
  ·rw [hf]
  ·rfl)
theorem RV {k:Kz} (h:bN p) (now:Int):bN (dI k i now p).1∧(dI k i now p).1.x.me=p.x.me∧(dI k i now p).1.y.me=p.y.me:=by obtain ⟨h1,h2,h3⟩:=FU (k:=k) (i:=i) h;obtain ⟨h4,h5,h6⟩:=FV (k:=k) (i:=i) (now:=now) h1;obtain ⟨h7,h8,h9⟩:=M7 (k:=k) (i:=i) h4;exact ⟨h7,(h8.trans h5).trans h2,(h9.trans h6).trans h3⟩
theorem RZ (hI:eD k n) (now:Int) (j:Nat):eD (iH (fun i p=>(dI k i now p).1) k j) n:=by
 refine hI.go (by simp) fun i p q hp hq hin=>?_;rw [List.getElem?_mapIdx,hp] at hq;obtain rfl:=Option.some.inj hq;split
 ·exact RV hin now
 ·exact ⟨hin,rfl,rfl⟩
def yY (k:Kz) (now:Int) (j:Nat):List Ot:=((k.ls.take j).mapIdx fun i p=>(dI k i now p).2).flatten
theorem Ac (k:Kz):yY k now 0=[]:=rfl
theorem Ad (h:k.ls[j]? = some p):yY k now (j+1)=yY k now j++(dI k j now p).2:=by have hl:=(List.getElem?_eq_some_iff.1 h).1;unfold yY;rw [fE _ j hl,(List.getElem?_eq_some_iff.1 h).2,List.mapIdx_append,List.flatten_append];simp only [List.length_take,List.mapIdx_cons,List.mapIdx_nil,List.flatten_cons,List.flatten_nil,List.append_nil,Nat.zero_add];rw [Nat.min_eq_left (Nat.le_of_lt hl)]
theorem Es (k:Kz) (now:Int):∀j,j≤k.ls.length→(yY k now j).length≤3*j
 | 0,_=>by rw [Ac];exact Nat.zero_le _
 | j+1,h=>by
  rw [Ad (List.getElem?_eq_getElem aJ),List.length_append]
  have h1:=Es k now j aJ
  have h2:=OB k j now (k.ls[j]'aJ)
  omega
theorem OC (h:k.ls.length≤j):(Ib k now).2=yY k now j:=by unfold yY;rw [List.take_of_length_le h];rfl
end
theorem Kw (L:Lay w g hs sv fl bs F k) {s B:Nat} {now:Int} {os:List Ot} (A:aY w s B g now os) (hBw:B≤w.heap.size) {n0:Nat} (hI:eD k n0) (nN:fO now) (hos:os.length≤500):Calls prog 40 #[.pointer (some ⟨s,0,none⟩)] w fun e w'=>e=.returned (.tuple #[])∧Lay w' g hs sv fl bs F (xI k now).1∧aY w' s B g now (os++(xI k now).2)∧dx B (aK g F) w w':=by
 have Q:dx B (aK g F) w w:=dx.refl _ _ w;have htk:=hI.tk;have hlen:=hI.len;have h8:=L.ps.l8;obtain ⟨n,hn⟩:∃n,k.ls.length=n:=⟨_,rfl⟩;rw [hn] at h8;have Zu:(n:Int)≤8:=by omega
 obtain ⟨R,hR⟩:∃R,xI k now=R:=⟨_,rfl⟩;rw [hR];replace hR:=hid hR;replace hlen:=hid hlen;obtain ⟨Cv,ov,hS,oA⟩:=A;have A:aY w s B g now os:=⟨Cv,ov,hS,oA⟩;have cs:=hS.cell 0 _ rfl;clear Cv hS oA;have vv:=hid hBw;go_enter func40,ntmps40;go_upto_region 1 with fail;clear cs;go_cut [] (fun w'=>Lay w' g hs sv fl bs F (zK k)∧aY w' s B g now os∧dx B (aK g F) w w');case first=>
  have JY:=L.kc 31 (.int .i64 k.tk) rfl;have kf31:=L.kf 31;have hw:=wrap_small (x:=k.tk+1) aJ;by_cases hmn:k.tk+1≤1099511627776
  ·have hv:min (k.tk+1) 1099511627776=k.tk+1:=by omega
   go_wp2_with fail;all_goals try (exfalso;omega)
   all_goals
    go_meet
    obtain ⟨L2,q2⟩:=L.SE 31 (.int .i64 (k.tk+1)) (k':={ k with tk:=k.tk+1 }) rfl rfl rfl rfl rfl
    exact ⟨by unfold zK;rw [hv];exact L2,A.qH L q2,Q.qH q2⟩
  ·have hv:min (k.tk+1) 1099511627776=1099511627776:=by omega
   go_wp2_with fail;all_goals try (exfalso;omega)
   all_goals
    go_meet
    obtain ⟨L2,q2⟩:=L.SE 31 (.int .i64 1099511627776) (k':={ k with tk:=1099511627776 }) rfl rfl rfl rfl rfl
    exact ⟨by unfold zK;rw [hv];exact L2,A.qH L q2,Q.qH q2⟩
 clear L A Q htk;obtain ⟨L,A,Q⟩:=hcut;obtain ⟨W,hW⟩:∃W,W=wc:=⟨_,rfl⟩;subst hW;have hI1:=Ig hI;obtain ⟨K1,hK1⟩:∃K1,zK k=K1:=⟨_,rfl⟩;have hlen1:(K1.ls.length:Int)=K1.c.po:=by rw [←hK1];exact hlen.out
 have hn1:K1.ls.length=n:=by rw [←hK1];exact hn
 rw [hK1] at L hI1;replace hK1:=hid hK1;have hcf1:=hI1.cf;have hall:=p8 L hlen1;rw [hn1] at hall;replace hn1:=hid hn1;replace hn:=hid hn;replace hlen1:=hid hlen1;go_wp2_with fail;refine hall.mono ?_;rintro e W1 ⟨rfl,bq⟩;replace L:=L.below bq;replace A:=A.below bq;replace Q:=Q.bel bq;clear hall bq;rw [←Kr K1] at L;go_wp2_with fail;go_loopw [23] (fun iv wr=>∃j:Nat,j≤n∧iv=.int .i64 (j:Int)∧Lay wr g hs sv fl bs F (uK K1 j)∧aY wr s B g now os∧dx B (aK g F) w wr) (fun iv _=>n - (intOf iv).toNat);case atStart=>exact ⟨0,Nat.zero_le _,rfl,L,A,Q⟩
 case round=>
  clear L A Q;obtain ⟨j,hj,rfl,L,A,Q⟩:=hrel;by_cases hj2:j<n
  ·have Zw:(j:Int)<(n:Int):=by omega
   have Cw:j<8:=by omega
   have hjl:j<K1.ls.length:=by rw [hn1.out];exact hj2
   obtain ⟨h',b',H'⟩:=L.jP (i:=j) (by rw [Oy];exact hjl);obtain ⟨p',hp'⟩:∃p',K1.ls[j]? = some p':=⟨_,List.getElem?_eq_getElem hjl⟩;have kp:=L.kp H'.hh;have L':=L.jR (Oz hp');go_wp2_with fail;refine (J6 L' H' hcf1 (hI1.at hp')).mono ?_;rintro e w11 ⟨rfl,L2,q2⟩;have L3:Lay w11 g hs sv fl bs F (aO { uK K1 j with pa:=if (countP K1.c K1.tk p').2 then eH K1.c else (uK K1 j).pa } j (countP K1.c K1.tk p').1):=L2;rw [Kt hp'] at L3;replace A:=A.qH L q2;replace Q:=Q.qH q2;clear kp L' L H' L2 q2;go_wp2_with fail;go_roundw;case rel=>exact ⟨j+1,hj2,by go_num,L3,A,Q⟩
   case measure=>simp [intOf];omega
  ·obtain rfl:n=j:=by omega
   rw [OA (by rw [hn1.out];exact Nat.le_refl _)] at L;obtain ⟨W2,hW2⟩:∃W2,W2=wr:=⟨_,rfl⟩;subst hW2;have hI2:=DU hI1;obtain ⟨K2,hK2⟩:∃K2,xH K1=K2:=⟨_,rfl⟩;have hn2:K2.ls.length=n:=by rw [←hK2];show (K1.ls.map _).length=n;rw [List.length_map];exact hn1.out
   rw [hK2] at L hI2;replace hK2:=hid hK2;replace hn2:=hid hn2;have Yt:=lZ K2.c.la;obtain ⟨E8,hE8⟩:∃E8,bF K2.c.la=E8:=⟨_,rfl⟩;have SQ:=fun wx=>iF K2.c.la wx;rw [hE8] at Yt;have ht2:=hI2.tk;obtain ⟨V,hV⟩:∃V,(K2.tk % E8 == 0)=V:=⟨_,rfl⟩;have hVt:((K2.tk).tmod E8 == 0)=V:=by rw [Int.tmod_eq_emod_of_nonneg ht2.1];exact hV
   have hE0:(E8 == 0)=false:=nq aJ;have hE0':¬E8=0:=by omega
   have hD:iR K2=if V=true then pV K2 else K2:=by
    unfold iR;rw [hE8];by_cases h0:K2.tk % E8=0
    ·have:V=true:=by rw [←hV,h0];rfl
     rw [if_pos h0,if_pos this]
    ·have:V=false:=by rw [←hV];exact nq h0
     rw [if_neg h0,this];rfl
   replace hD:=hid hD;clear hV;have OD:∀wx,Calls prog 68 #[.int .i64 K2.c.la] wx fun e w'=>e=.returned (.int .i64 E8)∧wx=w':=fun wx=>by have h:=SQ wx;rwa [hE8] at h
   clear SQ hE8;go_upto_region 7 with fail;have hbd:=Below.drew (Below.refl W2.heap.size W2);replace L:=L.below hbd;replace Q:=Q.bel hbd;replace A:=A.below hbd;refine fD aW aW ?_;generalize W2.drew=wd at *;clear hbd;have JY:=L.kc 31 (.int .i64 K2.tk) rfl;have k9:=L.kc 9 (.int .i64 K2.c.la) rfl;iterate 9 refine so ?_
   refine fu bn KC (qM (OD wd)) ?_;try simp only [Act.put,zI,bG,zS]
   refine so ?_;refine so ?_;refine bM ?_;clear hVt hE0 hE0' OD JY k9 Yt;go_upto_if 42 with fail;go_cut [] (fun w'=>Lay w' g hs sv fl bs F (iR K2)∧aY w' s B g now os∧dx B (aK g F) w w');case first=>
    cases V
    ·go_wp2_with fail;go_meet;exact ⟨by rw [hD.out];exact L,A,Q⟩
    ·go_wp2_with fail;refine (El L hI2).mono ?_;rintro e w11 ⟨rfl,L2,q2⟩;go_wp2_with fail;go_meet;exact ⟨by rw [hD.out];exact L2,A.qH L q2,Q.qH q2⟩
   clear L A Q;obtain ⟨L,A,Q⟩:=hcut;obtain ⟨W4,Vt⟩:∃W4,W4=wc:=⟨_,rfl⟩;subst Vt;have hI3:=xK hI2;have hst:=yQ K2;obtain ⟨K3,hK3⟩:∃K3,iR K2=K3:=⟨_,rfl⟩;rw [hK3] at L hI3;have Yb:K3.ls.length=n:=by have h1:=hI3.len;have h2:=hI2.len;have h3:=hst.po;rw [hK3] at h3;have h4:=hn2.out;omega
   have hlen3:=hI3.len;have hall:=p8 L hlen3;rw [Yb] at hall;have hRR:R=Ib K3 now:=by rw [←hR.out];unfold xI;rw [hK1.out,hK2.out,hK3]
   replace hK3:=hid hK3;replace hRR:=hid hRR;replace Yb:=hid Yb;replace hlen3:=hid hlen3;clear hst;go_wp2_with fail;refine hall.mono ?_;rintro e W5 ⟨rfl,bq⟩;replace L:=L.below bq;replace A:=A.below bq;replace Q:=Q.bel bq;clear hall bq;rw [←qY (f:=fun i p=>(dI K3 i now p).1) (k:=K3)] at L;have A2:aY W5 s B g now (os++yY K3 now 0):=by rw [Ac,List.append_nil];exact A
   go_wp2_with fail;go_loopw [48] (fun iv wr=>∃j:Nat,j≤n∧iv=.int .i64 (j:Int)∧Lay wr g hs sv fl bs F (iH (fun i p=>(dI K3 i now p).1) K3 j)∧aY wr s B g now (os++yY K3 now j)∧dx B (aK g F) w wr) (fun iv _=>n - (intOf iv).toNat);case atStart=>exact ⟨0,Nat.zero_le _,rfl,L,A2,Q⟩
   case round=>
    clear L A A2 Q;obtain ⟨j,hj,rfl,L,A,Q⟩:=hrel;by_cases hj2:j<n
    ·have Zw:(j:Int)<(n:Int):=by omega
     have Cw:j<8:=by omega
     have hjl:j<K3.ls.length:=by rw [Yb.out];exact hj2
     obtain ⟨h',b',H'⟩:=L.jP (i:=j) (by rw [p9];exact hjl);obtain ⟨p',hp'⟩:∃p',K3.ls[j]? = some p':=⟨_,List.getElem?_eq_getElem hjl⟩;have kp:=L.kp H'.hh;have L':=L.jR (mG hp');have hes:dI (aO (iH (fun i p=>(dI K3 i now p).1) K3 j) j p') j now p'=dI K3 j now p':=by rw [ug (mG hp')];exact Ku (k:=K3) (k':=iH (fun i p=>(dI K3 i now p).1) K3 j) rfl rfl (Kv _ (fun i p=>RS K3 i now p) K3 j) j now p'
     have hIj:eD (aO (iH (fun i p=>(dI K3 i now p).1) K3 j) j p') n0:=by rw [ug (mG hp')];exact RZ hI3 now j
     have hoj:=Es K3 now j aJ;replace hes:=hid hes;go_wp2_with fail;refine (Og L' H' A (Nat.le_trans vv.out Q.size) hIj nN (by rw [List.length_append];omega)).mono ?_;rintro e w11 ⟨rfl,L2,A2,Q2⟩;rw [hes.out] at L2 A2;rw [←qZ (f:=fun i p=>(dI K3 i now p).1) hp'] at L2;rw [List.append_assoc,←Ad hp'] at A2;replace Q:=Q.next Q2;clear kp L' L H' A Q2 hIj hoj;go_wp2_with fail;go_roundw;case rel=>exact ⟨j+1,hj2,by go_num,L2,A2,Q⟩
     case measure=>simp [intOf];omega
    ·obtain rfl:n=j:=by omega
     rw [um Ya] at L;have eo:R.2=yY K3 now n:=by rw [hRR.out];exact OC Ya
     have el:R.1={ K3 with ls:=K3.ls.mapIdx fun i p=>(dI K3 i now p).1 }:=by rw [hRR.out];rfl
     replace eo:=hid eo;replace el:=hid el;go_wp2_with fail;go_end0;rw [eo.out,el.out];exact ⟨rfl,L,A,Q⟩
end
section
variable {w:World} {g:Nat} {hs:List Nat} {sv fl:Nat} {bs:List PL} {F:Nat→Prop} {k:Kz} {i h:Nat} {b:PL} {p:Pt}
abbrev St3:=Option Addr×Int×Value
def KO:RowK St3:=⟨fun s=>[.pointer s.1,.int .i64 s.2.1,match s.2.2 with | .slice a n c=>.slice a n c | _=>.slice none 0 0],3,by decide,fun _=>rfl,by
 intro s v hv
 simp only [List.mem_cons,List.not_mem_nil,or_false] at hv
 rcases hv with rfl | rfl | rfl
 ·rfl
 ·rfl
 ·cases s.2.2 <;> rfl⟩
def Ae:St3:=(none,0,.slice none 0 0)
theorem stT3:dB KO 115:=⟨⟨_,underlying115,rfl⟩,by kernel_rfl⟩
end
def shK (k:Kz) (x:Int):Kz:={ k with dr:=k.dr+x }
def V_ (O:Ob (Kz×Nat)) (B:Nat) (w:World) (g1 g2:Nat) (K:Kz) (q:Nat):Prop:=∃(F1 F2:Nat→Prop) (x:Int) (q1 q2:Nat),(x=0∨x=1)∧(∀i,F1 i→B≤i)∧(∀i,F2 i→B≤i)∧(∀i,F1 i→¬F2 i)∧O.rel w g1 F1 (shK K x,q1)∧O.rel w g2 F2 (K,q2)∧q1≤q∧q2≤q
theorem V_.below {O:Ob (Kz×Nat)} {B:Nat} {w w':World} {g1 g2:Nat} {K:Kz} {q:Nat} (h:V_ O B w g1 g2 K q) (hb:Below w.heap.size w w'):V_ O B w' g1 g2 K q:=by obtain ⟨F1,F2,x,q1,q2,hx,a,b,c,d,e,f⟩:=h;exact ⟨F1,F2,x,q1,q2,hx,a,b,c,Ob.below d hb,Ob.below e hb,f⟩
def tu:Ev:={ MK with kd:=1 }
theorem Et:ML tu:=⟨by decide,by decide,by unfold oJ tu MK zeroC;decide⟩
def uL (n:Nat):Kz×Nat:=Qf (ay (CQ 1),0) (List.replicate n tu)
theorem OE (n:Nat):stK (uL n) tu=uL (n+1):=by unfold uL Qf;rw [List.replicate_succ',List.foldl_append];rfl
theorem IQ (n:Nat):(uL n).2=n:=by unfold uL;rw [MO,List.length_replicate];exact Nat.zero_add n
theorem Ky:jH (uL 0).1 1=1:=by kernel_rfl
theorem GR:jH (uL 1).1 1=4:=by kernel_rfl
theorem GU:jH (uL 49).1 1=6:=by kernel_rfl
theorem Ob.SS {O:Ob (Kz×Nat)} {f:FuncId} {args:Array Value} {w0:World} {s s':Kz×Nat} {os:List Ot} (hL:O.At w0.heap.size w g s) (hb:Below w0.heap.size w0 w) (h:∀F,O.rel w g F s→Calls P f args w (fun r w'=>∃v F',r=.returned v∧BI.Own t w' w.heap.size v os∧zM v F'∧(∀i,F' i→F i∨w.heap.size≤i)∧O.rel w' g F' s'∧bW F w w')):Calls P f args w (fun r w'=>∃v,r=.returned v∧O.At w0.heap.size w' g s'∧Below w0.heap.size w0 w'):=by obtain ⟨F,hF,hr⟩:=hL;refine (h F hr).mono ?_;rintro r w' ⟨v,F',rfl,-,-,hF',hr',hc⟩;exact ⟨v,rfl,⟨F',MV hF' hF hb.size,hr'⟩,bW.below hb hc hF hb.size⟩
def Wd:Prop:=∀(cl:Int) (w:World),0≤cl∧cl<18446744073709551616→Calls prog 34 #[.int .u64 cl] w fun e w'=>e=.returned (.agg (cfL (CQ cl)).toArray)∧Below w.heap.size w w'
end Go.Proofs.YtofhdhgfcomhiaaGreat
