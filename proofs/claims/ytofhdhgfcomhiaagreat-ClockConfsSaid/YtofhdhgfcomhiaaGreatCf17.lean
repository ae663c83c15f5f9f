/- Of what laws of the clock want, part 17: ClkOwn3 Two MedOwn2 ClkOwn6 ParOwn ClkOwn7 (mini.py). -/
import Derived.Test.YtofhdhgfcomhiaaGreatCf16
namespace Go.Proofs.YtofhdhgfcomhiaaGreat
open Go.RowKit Go.Proofs
set_option maxRecDepth 100000
set_option maxHeartbeats 100000000
set_option linter.unusedVariables false
set_option linter.unusedSimpArgs false
open Tryz
variable {B:Nat} {P:Program} {Q:Exit→Act→World→Prop} {S:World→Prop} {a:Act} {b:Nat} {base:Nat} {cap:Nat} {fuel:Nat} {g:Nat} {h:Nat} {i:Nat} {l:List UInt8} {listed:Array Bool} {n:Nat} {now:Int} {o:Oper} {oi:Oper} {op:Oper} {ops:Array Oper} {p:Prop} {rest:List Oper} {t:TypeId} {v:Value} {w:World} {w':World} {xs:List Value} {α:Type}
section
variable {w:World} {g:Nat} {hs:List Nat} {sv fl:Nat} {bs:List PL} {F:Nat→Prop} {k:Kz} {i h:Nat} {b:PL} {p:Pt}
def jJ (r:Rc) (a:Int×Int):Bool:=r.v.sc == a.1 && r.v.sp == a.2
theorem xW (a b:Int×Int) (w:World):(Op.equalIn 10000 54 (.agg (iw.enc a).toArray) (.agg (iw.enc b).toArray)).run prog w=.ok (a.1 == b.1 && a.2 == b.2) w:=by
 obtain ⟨a0,a1⟩:=a;obtain ⟨b0,b1⟩:=b;unfold iw;simp only [];by_cases k0:a0=b0;case neg=>(have q:(a0 == b0)=false:=nq k0;go_simp)
 subst k0;by_cases k1:a1=b1;case neg=>(have q:(a1 == b1)=false:=nq k1;go_simp)
 subst k1;go_simp
theorem Gl (r:Rc) (a:Int×Int) (x:Nat) (w:World) (hX:ak w x (iw.enc a) 54):Calls prog 246 #[.agg (jF r).toArray,.pointer (some ⟨x,0,none⟩)] w fun e w'=>e=.returned (.bool (jJ r a))∧Below w.heap.size w w':=by have z:=aA w (Obj.cells (jF r).toArray 150);have B:=ak.new w (jF r) 150;have X:=hX.below z;have R:(w.alloc (Obj.cells (jF r).toArray 150)).rangeAt w.heap.size 7 (iw.enc (r.v.sc,r.v.sp)):=ak.bB ((jF r).take 7) (iw.enc (r.v.sc,r.v.sp)) ((jF r).drop 9) B;have E:=xW (r.v.sc,r.v.sp) a;obtain ⟨V,hV⟩:∃V,jJ r a=V:=⟨_,rfl⟩;have E2:∀wx:World,(Op.equalIn 10000 54 (.agg (iw.enc (r.v.sc,r.v.sp)).toArray) (.agg (iw.enc a).toArray)).run prog wx=.ok V wx:=fun wx=>(E wx).trans (by rw [←hV];rfl);rw [hV];clear E hV;go_enter func246,ntmps246;go_upto_region 1 with fail;change Code.wp prog _ _ _ (w.alloc (Obj.cells (jF r).toArray 150));generalize w.alloc (Obj.cells (jF r).toArray 150)=W at *;have z2:=hid z;obtain ⟨G,hG⟩:∃G,w.heap.size=G:=⟨_,rfl⟩;rw [hG] at B R;rw [hG];clear z hG;go_wp2_with (first | (refine aD 6 ?_;refine Dc.aL G 7 (r.v.sc,r.v.sp) R ?_) | (refine aD 7 ?_;refine Dc.aL x 0 (a) X.b_ ?_));go_ret;exact ⟨rfl,z2.out⟩
theorem Gm (v:Value) (l:List Rc) (a:Int×Int) (x:Nat) (w:World) (hR:aV.Reads w v l) (hl:l.length≤1000) (hX:ak w x (iw.enc a) 54):Calls prog 265 #[v,.func (.func 246) #[] #[.pointer (some ⟨x,0,none⟩)]] w fun e w'=>(∃n:Int,e=.returned (.int .i64 n)∧((0≤n∧(l.any fun r=>jJ r a)=true)∨(n = -1∧(l.any fun r=>jJ r a)=false)))∧Below w.heap.size w w':=by
 obtain ⟨p,cap,rfl,hcap,hmax,hat⟩:=hR;have HL:=hid fun h=>RowK.At.pos (K:=aV) hat h;unfold maxLen at hmax;have hb0:=Below.refl w.heap.size w;clear hat;go_enter func265,ntmps265;go_wp2_with fail;go_loopw [8] (fun i wr=>∃k:Nat,k≤l.length∧i=.int .i64 (k:Int)∧Hid (∀j (hj:j<k) (hjl:j<l.length),jJ l[j] a=false)∧Below w.heap.size w wr) (fun i _=>l.length - (intOf i).toNat);case atStart=>exact ⟨0,Nat.zero_le _,rfl,hid (fun j hj=>absurd hj (Nat.not_lt_zero _)),hb0⟩
 case round=>
  obtain ⟨k,hk,rfl,hno,hb⟩:=hrel;by_cases hk2:k<l.length
  ·obtain ⟨b,off,rfl,hbl,hc⟩:=HL.out aJ;have hRr:wr.rangeAt b (off+k*17) (jF l[k]):=fun i u hi=>by have hi17:i<17:=(List.getElem?_eq_some_iff.1 hi).1;rw [hb.cell (p:=⟨b,off+k*17+i,none⟩) hbl,Nat.add_assoc];exact RowK.At.cell (K:=aV) hc k i hk2 hi17 u hi
   clear hc;have Wq:(k:Int)<(l.length:Int):=by omega
   obtain ⟨r,hr⟩:∃r,l[k]=r:=⟨_,rfl⟩;rw [hr] at hRr;have WI:=hX.below hb;go_wp2_with (refine aD 15 ?_;refine oL.aL b (off+k*17) r hRr ?_);refine (Gl r a x wr WI).mono ?_;rintro e w2 ⟨rfl,b2⟩;have hb2:=ah hb b2;cases hS:jJ r a
   ·have VB:=hid (show ∀j (hj:j<k+1) (hjl:j<l.length),jJ l[j] a=false from fun j hj hjl=>by
     by_cases hjk:j=k
     ·subst hjk
      rw [hr];exact hS
     ·exact hno.out j aJ hjl)
    clear hS hr hRr;go_wp2_with fail;go_roundw;case rel=>exact ⟨k+1,hk2,by go_num,VB,hb2⟩
    case measure=>simp [intOf];omega
   ·have hT:=hid (show (l.any fun r=>jJ r a)=true from List.any_eq_true.2 ⟨_,List.getElem_mem hk2,by rw [hr];exact hS⟩);clear hS hr hRr;go_wp2_with fail;go_ret;exact ⟨⟨_,rfl,.inl ⟨by omega,hT.out⟩⟩,hb2⟩
  ·obtain rfl:k=l.length:=by omega
   have hF:=hid (show (l.any fun r=>jJ r a)=false from List.any_eq_false.2 fun r hr=>by
    obtain ⟨j,hj,rfl⟩:=List.mem_iff_getElem.1 hr
    rw [hno.out j hj hj];decide)
   go_wp2_with fail;go_ret;exact ⟨⟨_,rfl,.inr ⟨rfl,hF.out⟩⟩,hb⟩
theorem yT (v:Value) (l:List Rc) (a:Int×Int) (x:Nat) (w:World) (hR:aV.Reads w v l) (hl:l.length≤1000) (hX:ak w x (iw.enc a) 54):Calls prog 245 #[v,.func (.func 246) #[] #[.pointer (some ⟨x,0,none⟩)]] w fun e w'=>e=.returned (.bool (l.any fun r=>jJ r a))∧Below w.heap.size w w':=by
 obtain ⟨B,hB⟩:∃B,(l.any fun r=>jJ r a)=B:=⟨_,rfl⟩;rw [hB];go_enter func245,ntmps245;go_wp2_with fail;refine (Gm v l a x w hR hl hX).mono ?_;rintro e w' ⟨⟨n,rfl,hn⟩,hb⟩;rcases hn with ⟨h0,hx⟩ | ⟨rfl,hx⟩
 ·rw [hB] at hx;subst hx;clear hB;exact I4
 ·rw [hB] at hx;subst hx;clear hB;exact I4
theorem Rh (h t:Nat) (T:Ft) (a:Int×Int) (w:World) (hc:w.cell? ⟨h,3,none⟩=some (.pointer (some ⟨t,0,none⟩))) (hT:qj nM w t T):Calls prog 215 #[.pointer (some ⟨h,0,none⟩),.agg (iw.enc a).toArray] w fun e w'=>e=.returned (.bool (T.l.any fun r=>r.v.sc == a.1 && r.v.sp == a.2))∧Below w.heap.size w w':=by
 have z:=aA w (Obj.cells (iw.enc a).toArray 54);have X:=ak.new w (iw.enc a) 54;have hT1:=hT.below z;have hlen:T.l.length≤1000:=by obtain ⟨rs,h5,hn,-⟩:=fC hT;omega
 have hlt:h<w.heap.size:=by
  have:=hc;unfold World.cell? at this;rcases hh:w.heap[h]? with _ | o
  ·simp [hh] at this
  ·exact (Array.getElem?_eq_some_iff.1 hh).1
 have hc1:(w.alloc (Obj.cells (iw.enc a).toArray 54)).cell? ⟨h,3,none⟩=some (.pointer (some ⟨t,0,none⟩)):=by rw [z.cell (p:=⟨h,3,none⟩) hlt];exact hc
 clear hc hT;show Calls prog _ _ _ fun e w'=>e=.returned (.bool (T.l.any fun r=>jJ r a))∧Below w.heap.size w w';go_enter func215,ntmps215;go_upto_region 1 with fail;change Code.wp prog _ _ _ (w.alloc (Obj.cells (iw.enc a).toArray 54));generalize w.alloc (Obj.cells (iw.enc a).toArray 54)=W at *;have z2:=hid z;obtain ⟨G,hG⟩:∃G,w.heap.size=G:=⟨_,rfl⟩;rw [hG] at X;rw [hG];clear z;go_wp2_with fail;refine (Ip t T W hT1).mono ?_;rintro e w1 ⟨v,rfl,hv,b1⟩;have X1:=X.below b1;go_wp2_with fail;refine (yT v T.l a G w1 hv hlen X1).mono ?_;rintro e w2 ⟨rfl,b2⟩;go_wp2_with fail;go_ret;exact ⟨rfl,ah (ah z2.out b1) b2⟩
def xX:Pe:=⟨(0,0),[],none,0⟩
theorem peT:dB Im 276:=⟨⟨_,underlying276,rfl⟩,by kernel_rfl⟩
theorem RowK.Own.same {K:RowK α} {l:List α} (h:K.Own t w base v l) (e:∀n,v.ownBlock=some n→w'.heap[n]? = w.heap[n]?):K.Own t w' base v l:=by
 rcases id h with ⟨h0,⟨rfl,hn⟩ | ⟨g,cap,cur,rfl,hbg,hg,r⟩⟩
 ·exact CK
 ·exact ⟨h0,.inr ⟨g,cap,cur,rfl,hbg,(e g rfl).trans hg,r⟩⟩
theorem RowK.Own.ty {K:RowK α} {l:List α} (h:K.Own t w base v l) {n:Nat} (e:v.ownBlock=some n):Ty w n t∧base≤n:=by
 rcases id h with ⟨h0,⟨rfl,hn⟩ | ⟨g,cap,cur,rfl,hbg,hg,r⟩⟩
 ·cases e
 ·obtain rfl:g=n:=by simpa [Value.ownBlock] using e
  exact ⟨⟨_,_,hg⟩,hbg⟩
theorem Ids.same {p:Option Addr} {l:List Int} (h:Ids w (.slice p n cap) l) (e:∀a,p=some a→w'.heap[a.block]? = w.heap[a.block]?):Ids w' (.slice p n cap) l:=by
 obtain ⟨p',cap',hv,h1,h2,hat⟩:=h;cases hv;refine ⟨p,cap,rfl,h1,h2,?_⟩;rcases hat with h | ⟨b,off,rfl,hlt,hc⟩
 ·exact .inl h
 ·have e2:=e _ rfl;refine .inr ⟨b,off,rfl,?_,fun j v hj=>JQ (hc j v hj) e2⟩;have h3:w.heap[b]? = some w.heap[b]:=Array.getElem?_eq_getElem hlt;exact (Array.getElem?_eq_some_iff.1 (e2.trans h3)).1
end
section
theorem Eb {X F:Nat→World→Prop} {G:Prop} (hmain:(∀g w,F g w→X g w)→G) (hrest:∀g w,F g w→X g w):G:=hmain hrest
section
variable {P:Program} {ops:Array Oper} {Q:Exit→Act→World→Prop} {md:Region.Mode} {S:World→Prop} {z:Nat}
theorem yF (i j:Nat) {oi oj:Oper} {fuel:Nat} {listed:Array Bool} {a:Act} {w:World} (hi:ops.toList[i]? = some oi) (hj:ops.toList[j]? = some oj) (hr:Region.ready md ops listed=[i,j]) (hwi:Region.wanted oi (yielded ops a.tmps)=true) (XC:Region.wanted oj (yielded ops a.tmps)=true) (h1:∀K':Act→World→Prop,Shut (∀a w,S w→Az P md ops Q S z fuel (listed.setIfInBounds i true) a w→K' a w)→oi.wp P a w K' Q) (h2:∀K':Act→World→Prop,Shut (∀a w,S w→Az P md ops Q S z fuel (listed.setIfInBounds j true) a w→K' a w)→oj.wp P a w K' Q):Az P md ops Q S z (fuel+1) listed a w:=by
 refine ⟨⟨fun h0=>Pj,fun n hn=>?_⟩⟩;rw [hr] at hn;rcases List.mem_cons.1 hn with rfl | hn
 ·exact XA
 ·obtain rfl:=List.mem_singleton.1 hn;exact XB
def pq (md:Region.Mode) (ops:Array Oper) (listed:Array Bool):Nat→List Nat→Nat→Bool
 | z,[],i=>m_ md ops z i
 | z,y::ys,i=>m_ md ops z y && (!(listed.getD y true)) && pq md ops listed y ys i
theorem zR {z:Nat} (hw:m_ md ops z i=true) (hi:listed.getD i true=false):z ∉ Region.ready md ops listed:=by
 intro hz;obtain ⟨_,oz,hoz,hall⟩:=mem_ready.1 hz;unfold m_ at hw;rw [Array.getElem?_toList,hoz] at hw;obtain ⟨e,he,h1⟩:=List.any_eq_true.1 hw;simp only [Bool.and_eq_true,beq_iff_eq] at h1;have h2:=hall e (by simpa using he) h1.1;rw [h1.2] at h2;rcases Nat.lt_or_ge i listed.size with h' | h'
 ·simp [h'] at hi h2;rw [hi] at h2;cases h2
 ·simp [Array.getElem?_eq_none h'] at h2
theorem zT (hi:listed.getD i true=false):∀(ys:List Nat) (z:Nat),pq md ops listed z ys i=true→z ∉ Region.ready md ops listed
 | [],z,h=>zR h hi
 | y::ys,z,h=>by
  unfold pq at h
  simp only [Bool.and_eq_true,Bool.not_eq_true'] at h
  exact zR h.1.1 h.1.2
theorem zV {listed:Array Bool} {i j:Nat} (hi:listed.getD i true=false) (hj:j ∈ Region.ready md ops listed):∀(ys:List Nat) (z:Nat),pq md ops listed z ys i=true→pq md ops (listed.setIfInBounds j true) z ys i=true
 | [],z,h=>h
 | y::ys,z,h=>by
  unfold pq at h ⊢
  simp only [Bool.and_eq_true,Bool.not_eq_true'] at h ⊢
  have hne:j≠y:=fun e=>zT hi ys y h.2 (e▸hj)
  rw [getD_set_ne true hne]
  exact ⟨h.1,zV hi hj ys y h.2⟩
theorem yU (ys:List Nat) (hi:ops[i]? = some oi) (hsel:∀(j:Nat) (o:Oper) cs b,ops[j]? = some o→o.op≠.select cs b) (hQ:∀c a w,Q (.panic c) (a.put oi.dst v) w→Q (.panic c) a w):∀(fuel:Nat) (listed:Array Bool) (a:Act) (w:World),(∀j oj,ops[j]? = some oj→j≠i→listed.getD j true=false→(∀e ∈ oj.after,Region.binds md e=true→e.on≠i)→oi.apart ops oj=true)→i ∈ Region.ready md ops listed→pq md ops listed z ys i=true→YieldsIf P ops S oi v a→S w→qN P md ops Q S z fuel (listed.setIfInBounds i true) (a.put oi.dst v) w→qN P md ops Q S z (fuel+1) listed a w:=by
 intro fuel;induction fuel with
 | zero=>
  intro listed a w _ hr hz hy hS H;refine ⟨fun h=>Pn,fun j hj=>?_⟩;by_cases hji:j=i
  ·subst hji;exact hy.wpOp hi hS ⟨.inr hS,H⟩
  ·have:=ready_mono hj hji;rw [H.1] at this;cases this
 | succ fuel ih=>
  intro listed a w hfree hr hz hy hS H;refine ⟨fun h=>Pn,fun j hj=>?_⟩;by_cases hji:j=i
  ·subst hji;exact hy.wpOp hi hS ⟨.inr hS,H⟩
  ·have h1:=H.2 j (ready_mono hj hji);obtain ⟨hjun,oj,hoj,hall⟩:=mem_ready.1 hj;have hnot:∀e ∈ oj.after,Region.binds md e=true→e.on≠i:=fun e he hb heq=>by
    have h1:=hall e he hb;have h0:=(mem_ready.1 hr).1;rw [heq] at h1;rcases Nat.lt_or_ge i listed.size with h' | h'
    ·simp [h'] at h0 h1;rw [h0] at h1;cases h1
    ·simp [Array.getElem?_eq_none h'] at h1
   have hun:=(mem_ready.1 hr).1;have hjz:j≠z:=fun e=>zT hun ys z hz (e▸hj);have h2:=wpOp_putIf hoj (hfree j oj hoj hji hjun hnot) (fun cs b=>hsel i oi cs b hi) (fun cs b=>hsel j oj cs b hoj) hQ hy h1
   have hfree':∀k ok,ops[k]? = some ok→k≠i→(listed.setIfInBounds j true).getD k true=false →
     (∀e ∈ ok.after,Region.binds md e=true→e.on≠i)→oi.apart ops ok=true:=fun k ok hk hki hun hno=>by
    refine hfree k ok hk hki ?_ hno
    by_cases hjk:j=k
    ·subst hjk;exact hjun
    ·rw [getD_set_ne true hjk] at hun;exact hun
   refine wpOp_mono (fun a' w' h3=>?_) h2;have hS':S w':=h3.2.1.resolve_left hjz;refine ⟨.inr hS',ih (listed.setIfInBounds j true) a' w' hfree' (ready_mono hr (Ne.symm hji)) (zV hun hj ys z hz) h3.1 hS' ?_⟩;rw [Array.setIfInBounds_comm _ _ hji];exact h3.2.2
theorem jX (i:Nat) (ys:List Nat) {oi:Oper} {v:Value} {fuel:Nat} {listed:Array Bool} {a:Act} {w:World} (hi:ops.toList[i]? = some oi) (hw:Region.wanted oi (yielded ops a.tmps)=true) (hs:Region.noSelect ops=true) (hf:Region.free md ops listed i=true) (hr:(Region.ready md ops listed).contains i=true) (hz:pq md ops listed z ys i=true) (hQ:∀c a w,Q (.panic c) (a.put oi.dst v) w→Q (.panic c) a w) (hS:S w) (hy:∀w,S w→(execOp a.eval oi).run P w=.ok (.value v) w) (h:Az P md ops Q S z fuel (listed.setIfInBounds i true) (a.put oi.dst v) w):Az P md ops Q S z (fuel+1) listed a w:=by
 have hi':ops[i]? = some oi:=by exact KV
 exact ⟨yU ys hi' (Region.noSelect_spec hs) hQ fuel listed a w (Region.free_spec hi' hf) (by simpa using hr) hz (.inl ⟨hw,hy⟩) hS h.out⟩
end
end
theorem NG (n:Int) (rs:List Int) (k:Int):∀u ∈ lI n rs k,u.oneCell'=true:=by
 intro u hu;unfold lI at hu;rcases List.mem_cons.1 hu with rfl | hu
 ·rfl
 ·rcases List.mem_append.1 hu with hu | hu
  ·exact Vo _ u hu
  ·rw [List.mem_singleton.1 hu];rfl
theorem uo (hgd:op.guard=none) (x y:Operand) (ho:op.op=.store 195 x y)
  (g:Nat) (n n2 k k2:Int) (rs Zv:List Int) (hx:a.eval x=.pointer (some ⟨g,0,none⟩)) (hy:a.eval y=.agg (lI n2 Zv k2).toArray) (hB:ak w g (lI n rs k) 195) (h1:rs.length=15) (h2:Zv.length=15)
  (h:wpList prog ops Q rest (a.put op.dst undef) (w.setRow g (lI n2 Zv k2).toArray)):wpList prog ops Q (op::rest) a w:=
 wpList_store_row hgd _ x y ho g (lI n2 Zv k2).toArray hx hy 195 (lI n rs k).toArray hB (by rw [List.size_toArray,oZ h2];kernel_rfl) (by rw [List.size_toArray,List.size_toArray,oZ h1,oZ h2]) (all_oneCell_toArray (NG n2 Zv k2)) h
theorem vS:YK Ca:=by
 intro n w;have e:∀N:Nat,bY 195 Ca (w.alloc (Obj.cells (lI N [0,0,0,0,0,0,0,0,0,0,0,0,0,0,0] 0).toArray 195)) w.heap.size (N,[]):=fun N=>DY rfl (ak.new w _ _) rfl;have nb:∀N:Nat,Below w.heap.size w (w.alloc (Obj.cells (lI N [0,0,0,0,0,0,0,0,0,0,0,0,0,0,0] 0).toArray 195)):=fun N=>aA w _;obtain ⟨N,hN⟩:∃N,lq n=N:=⟨_,rfl⟩;rw [hN];have hc:(n<1∧N=1)∨(15<n∧N=15)∨(1≤n∧n≤15∧n=(N:Int)):=by
  unfold lq at hN;by_cases h1:n<1
  ·rw [if_pos h1] at hN;omega
  ·rw [if_neg h1] at hN;by_cases h2:15<n
   ·rw [if_pos h2] at hN;omega
   ·rw [if_neg h2] at hN;omega
 have HE:=hid e;have HB:=hid nb;clear hN e nb;rcases hc with ⟨h1,rfl⟩ | ⟨h1,rfl⟩ | ⟨h1,h2,rfl⟩
 ·go_enter func58,ntmps58;go_wp2_with (refine aD 6 ?_;refine aB (lI (1) [0,0,0,0,0,0,0,0,0,0,0,0,0,0,0] 0).toArray ?_)
  all_goals
   go_ret
   exact ⟨_,rfl,Nat.le_refl _,HE.out _,HB.out _⟩
 ·go_enter func58,ntmps58;go_wp2_with (refine aD 6 ?_;refine aB (lI (15) [0,0,0,0,0,0,0,0,0,0,0,0,0,0,0] 0).toArray ?_)
  all_goals
   go_ret
   exact ⟨_,rfl,Nat.le_refl _,HE.out _,HB.out _⟩
 ·go_enter func58,ntmps58;go_wp2_with (refine aD 6 ?_;refine aB (lI ((N:Int)) [0,0,0,0,0,0,0,0,0,0,0,0,0,0,0] 0).toArray ?_)
  all_goals
   go_ret
   exact ⟨_,rfl,Nat.le_refl _,HE.out _,HB.out _⟩
theorem Ri:YL Ca:=by intro g n l w FA hin;obtain ⟨rs,MZ,hB,ht⟩:=Nl FA;have hc0:=hB.cell 0 _ rfl;have H15:=hid MZ;have B2:ak (w.setRow g (lI n [0,0,0,0,0,0,0,0,0,0,0,0,0,0,0] 0).toArray) g (lI n [0,0,0,0,0,0,0,0,0,0,0,0,0,0,0] 0) 195:=hB.fB _;have o2:=(Only.refl g w).row (lI n [0,0,0,0,0,0,0,0,0,0,0,0,0,0,0] 0).toArray;clear ht MZ hin FA;go_enter func171,ntmps171;go_wp2_with (first | (refine aD 7 ?_;refine aB (lI n [0,0,0,0,0,0,0,0,0,0,0,0,0,0,0] 0).toArray ?_) | (refine aN ?_;refine uo (op:=⟨none,.store _ _ _,_,_,_,_⟩) bn _ _ bn g n n _ 0 rs [0,0,0,0,0,0,0,0,0,0,0,0,0,0,0] bn bn hB H15.out rfl ?_));go_end0;exact ⟨rfl,DY (l:=[]) (rs:=[0,0,0,0,0,0,0,0,0,0,0,0,0,0,0]) rfl B2 rfl,o2⟩
section
variable {w:World} {g:Nat} {hs:List Nat} {sv fl:Nat} {bs:List PL} {F:Nat→Prop} {k:Kz} {i h:Nat} {b:PL} {p:Pt}
theorem J3 {c:Cf} (h:gJ c) (l:Int):0≤c.tm*bF l∧c.tm*bF l≤1280:=by obtain ⟨h1,h2,h3,h4,h5,h6,h7,h8,h9,h10,h11,h12,iW,-⟩:=h;have he:=lZ l;refine ⟨Int.mul_nonneg aJ aJ,?_⟩;have:=Int.mul_le_mul iW.2 he.2 aJ aJ;omega
theorem wrap_small {x:Int} (h : -4611686018427387904≤x∧x≤4611686018427387904):IntKind.i64.wrap x=x:=by exact yJ
theorem xY (L:Lay w g hs sv fl bs F k) (hf:LM k.fl):Calls prog 117 #[.pointer (some ⟨g,0,none⟩)] w fun e w'=>e=.returned (.tuple #[])∧Lay w' g hs sv fl bs F { k with fl:=(k.fl.1,[]),de:=none }∧bW (aK g F) w w':=by have Q:bW (aK g F) w w:=bW.refl _ w;have k46:=L.kc 46 (.pointer (some ⟨fl,0,none⟩)) rfl;go_enter func117,ntmps117;go_wp2_with fail;refine (Ri fl k.fl.1 k.fl.2 w L.ps.hfl hf).mono ?_;rintro e w1 ⟨rfl,S2,o2⟩;obtain ⟨L2,q2⟩:=L.filter o2 (s:=(k.fl.1,[])) S2;replace L:=L2;replace Q:=Q.next q2;clear k46;clear L2 q2 S2 o2;have hB:=L.box;go_wp2_with (first | (refine aD 8 ?_;refine aB (Vq.enc none).toArray ?_) | (refine aN ?_;refine mbT.aM g 48 (none) hB Pk ?_));go_end0;obtain ⟨L3,q3⟩:=L.delay none;exact ⟨rfl,L3,Q.next q3⟩
theorem KL (L:Lay w g hs sv fl bs F (aO k i p)) (H:Hand k hs bs i h b):Calls prog 121 #[.pointer (some ⟨g,0,none⟩),.pointer (some ⟨h,0,none⟩)] w fun e w'=>e=.returned (.bool (uM k.c p))∧w'=w:=by
 unfold uM;obtain ⟨E,hE⟩:∃E,k.c.pe=E:=⟨_,rfl⟩;have k13:w.cell? ⟨g,13,none⟩=some (.bool E):=by rw [←hE];exact L.kc 13 _ rfl
 rw [hE];clear hE;cases E
 ·go_enter func121,ntmps121;go_wp2_with fail;refine (sM L H).mono ?_;exact KU
 ·go_enter func121,ntmps121;go_wp2_with fail;refine (qX L H).mono ?_;exact KU
theorem jS (L:Lay w g hs sv fl bs F (aO k i p)) (H:Hand k hs bs i h b):Calls prog 164 #[.pointer (some ⟨g,0,none⟩),.pointer (some ⟨h,0,none⟩)] w fun e w'=>e=.returned (.tuple #[])∧Lay w' g hs sv fl bs F (aO k i ({ p with tk:=if k.c.pe then p.tk else 0 }))∧bW (aK g F) w w':=by
 have Q:bW (aK g F) w w:=bW.refl _ w;obtain ⟨E,hE⟩:∃E,k.c.pe=E:=⟨_,rfl⟩;have k13:w.cell? ⟨g,13,none⟩=some (.bool E):=by rw [←hE];exact L.kc 13 _ rfl
 rw [hE];clear hE;cases E
 ·have c9:=L.pc H 9 _ (fun _=>rfl);have f9:=L.pf H 9;go_enter func164,ntmps164;go_wp2_with fail;refine (ny h 9 _ _ c9 f9).mono ?_;rintro e w1 ⟨rfl,hw⟩;obtain ⟨L2,q2⟩:=L.cell H 9 (.int .i64 0) (q:={ p with tk:=0 }) (fun _=>rfl) rfl rfl rfl rfl rfl;replace L:=L2;replace Q:=Q.next q2;clear L2 q2;rw [←hw] at L Q;clear hw c9 f9;exact ED
 ·go_enter func164,ntmps164;exact ED
theorem qJ (L:Lay w g hs sv fl bs F (aO k i p)) (H:Hand k hs bs i h b):Calls prog 109 #[.pointer (some ⟨g,0,none⟩),.pointer (some ⟨h,0,none⟩)] w fun e w'=>e=.returned (.tuple #[])∧Lay w' g hs sv fl bs F (aO k i (qV k.c p))∧bW (aK g F) w w':=by have Q:bW (aK g F) w w:=bW.refl _ w;go_enter func109,ntmps109;have c5:=L.pc H 5 _ (fun _=>rfl);have f5:=L.pf H 5;go_wp2_with fail;refine (ny h 5 _ _ c5 f5).mono ?_;rintro e v0 ⟨rfl,hw⟩;obtain ⟨L2,q2⟩:=L.cell H 5 (.int .i64 0) (q:={ p with tr:=0 }) (fun _=>rfl) rfl rfl rfl rfl rfl;replace L:=L2;replace Q:=Q.next q2;clear L2 q2;rw [←hw] at L Q;clear hw c5 f5;have c6:=L.pc H 6 _ (fun _=>rfl);have f6:=L.pf H 6;go_wp2_with fail;refine (ny h 6 _ _ c6 f6).mono ?_;rintro e v1 ⟨rfl,hw⟩;obtain ⟨L2,q2⟩:=L.cell H 6 (.int .i64 0) (q:={ { p with tr:=0 } with tq:=0 }) (fun _=>rfl) rfl rfl rfl rfl rfl;replace L:=L2;replace Q:=Q.next q2;clear L2 q2;rw [←hw] at L Q;clear hw c6 f6;go_wp2_with fail;refine (jS L H).mono ?_;rintro e w3 ⟨rfl,L2,q2⟩;replace L:=L2;replace Q:=Q.next q2;clear L2 q2;have c7:=L.pc H 7 _ (fun _=>rfl);have f7:=L.pf H 7;go_wp2_with fail;refine (g_ h 7 _ _ _ c7 f7).mono ?_;rintro e w4 ⟨rfl,hw⟩;obtain ⟨L2,q2⟩:=L.cell H 7 (.int .i64 (bH (1))) (q:={ { { { p with tr:=0 } with tq:=0 } with tk:=if k.c.pe then p.tk else 0 } with ta:=bH (1) }) (fun _=>rfl) rfl rfl rfl rfl rfl;replace L:=L2;replace Q:=Q.next q2;clear L2 q2;rw [←hw] at L Q;clear hw c7 f7;have c8:=L.pc H 8 _ (fun _=>rfl);have f8:=L.pf H 8;go_wp2_with fail;refine (g_ h 8 _ _ _ c8 f8).mono ?_;rintro e w5 ⟨rfl,hw⟩;obtain ⟨L2,q2⟩:=L.cell H 8 (.int .i64 (bH (1))) (q:={ { { { { p with tr:=0 } with tq:=0 } with tk:=if k.c.pe then p.tk else 0 } with ta:=bH 1 } with ts:=bH (1) }) (fun _=>rfl) rfl rfl rfl rfl rfl;replace L:=L2;replace Q:=Q.next q2;clear L2 q2;rw [←hw] at L Q;clear hw c8 f8;exact ED
theorem jl (L:Lay w g hs sv fl bs F (aO k i p)) (H:Hand k hs bs i h b) (hc:gJ k.c):Calls prog 159 #[.pointer (some ⟨g,0,none⟩),.pointer (some ⟨h,0,none⟩)] w fun e w'=>e=.returned (.tuple #[])∧Lay w' g hs sv fl bs F (aO k i (mo k.c p))∧bW (aK g F) w w':=by
 have Q:bW (aK g F) w w:=bW.refl _ w;have hw:=wrap_small (x:=k.c.tm*bF k.c.la) (by have:=J3 hc k.c.la;omega);go_enter func159,ntmps159;go_upto_region 0 with fail;have hbd:=Below.drew (Below.refl w.heap.size w);replace L:=L.below hbd;replace Q:=Q.bel hbd;refine d_ 15 aW aW ?_;generalize w.drew=wd at *;clear hbd;have c5:=L.pc H 5 _ (fun _=>rfl);have f5:=L.pf H 5;have k12:=L.kc 12 (.int .i64 k.c.tm) rfl;have k9:=L.kc 9 (.int .i64 k.c.la) rfl;simp only [List.take_succ_cons,List.take_zero,List.drop_succ_cons,List.drop_zero];iterate 13 refine so ?_
 refine fu bn KC (qM (iF k.c.la wd)) ?_;try simp only [Act.put,zI,bG,zS]
 refine so ?_;refine bM ?_;go_wp2_with fail;refine (g_ h 5 _ _ _ c5 f5).mono ?_;rintro e w1 ⟨rfl,hw⟩;obtain ⟨L2,q2⟩:=L.cell H 5 (.int .i64 (bH (k.c.tm*bF k.c.la))) (q:=mo k.c p) (fun _=>rfl) rfl rfl rfl rfl rfl;replace L:=L2;replace Q:=Q.next q2;clear L2 q2;rw [←hw] at L Q;clear hw c5 f5;exact ED
end
theorem Ci:Yg:=by
 intro c w;have z0:=aA w (Obj.cells (cfL c).toArray 28);have hC:=ak.new w (cfL c) 28;have z1:=aA (w.alloc (Obj.cells (cfL c).toArray 28)) (Obj.cells (rz dK).toArray 69);have hN:=ak.new (w.alloc (Obj.cells (cfL c).toArray 28)) (rz dK) 69;replace hC:=hC.below z1;have hb:=z0;replace hb:=ah hb z1;clear z0;clear z1;have s1:(w.alloc (Obj.cells (cfL c).toArray 28)).heap.size=w.heap.size+1:=by simp
 rw [s1] at hN;go_enter func56,ntmps56;exact Xe
theorem VD:CFol:=by
 intro v t w;have z0:=aA w (Obj.cells (dF v).toArray 148);have hV:=ak.new w (dF v) 148;have z1:=aA (w.alloc (Obj.cells (dF v).toArray 148)) (Obj.cells (Pz t).toArray 26);have hT:=ak.new (w.alloc (Obj.cells (dF v).toArray 148)) (Pz t) 26;replace hV:=hV.below z1;have z2:=aA ((w.alloc (Obj.cells (dF v).toArray 148)).alloc (Obj.cells (Pz t).toArray 26)) (Obj.cells (rz dK).toArray 69);have hN:=ak.new ((w.alloc (Obj.cells (dF v).toArray 148)).alloc (Obj.cells (Pz t).toArray 26)) (rz dK) 69;replace hV:=hV.below z2;replace hT:=hT.below z2;have hb:=z0;replace hb:=ah hb z1;replace hb:=ah hb z2;clear z0;clear z1;clear z2;have s1:(w.alloc (Obj.cells (dF v).toArray 148)).heap.size=w.heap.size+1:=by simp
 rw [s1] at hT;have s2:((w.alloc (Obj.cells (dF v).toArray 148)).alloc (Obj.cells (Pz t).toArray 26)).heap.size=w.heap.size+1+1:=by simp
 rw [s2] at hN;go_enter func115,ntmps115;go_upto_region 1 with fail;change Code.wp prog _ _ _ (((w.alloc (Obj.cells (dF v).toArray 148)).alloc (Obj.cells (Pz t).toArray 26)).alloc (Obj.cells (rz dK).toArray 69));generalize (((w.alloc (Obj.cells (dF v).toArray 148)).alloc (Obj.cells (Pz t).toArray 26)).alloc (Obj.cells (rz dK).toArray 69))=W at *;clear s1 s2;have c0:=hV.cell 0 _ rfl;have c1:=hV.cell 1 _ rfl;have c2:=hV.cell 2 _ rfl;have c3:=hV.cell 3 _ rfl;have c4:=hV.cell 4 _ rfl;have c5:=hV.cell 5 _ rfl;have c6:=hV.cell 6 _ rfl;have c7:=hV.cell 7 _ rfl;have c8:=hV.cell 8 _ rfl;have d0:=hT.cell 0 _ rfl;have d1:=hT.cell 1 _ rfl;have d2:=hT.cell 2 _ rfl;clear hV hT;generalize hG:w.heap.size=G at *;rw [←hG] at hb;go_wp2_with (refine aN ?_;refine Z9.aS (G+1+1) (vD v t) (dK) hN ?_);exact bodyPost_ret (v:=.agg (j4.enc (vD v t)).toArray) (Z9.result rfl _ _ (G+1+1) _ _ rfl (hN.fB _)) rfl ⟨rfl,below_setRow hb aJ _⟩
theorem VE:CSay:=by
 intro c p port seq w;have z0:=aA w (Obj.cells (cfL c).toArray 28);have hC:=ak.new w (cfL c) 28;have z1:=aA (w.alloc (Obj.cells (cfL c).toArray 28)) (Obj.cells (rz p).toArray 69);have hP:=ak.new (w.alloc (Obj.cells (cfL c).toArray 28)) (rz p) 69;replace hC:=hC.below z1;have z2:=aA ((w.alloc (Obj.cells (cfL c).toArray 28)).alloc (Obj.cells (rz p).toArray 69)) (Obj.cells (aH hd0 vC).toArray 56);have hN:=ak.new ((w.alloc (Obj.cells (cfL c).toArray 28)).alloc (Obj.cells (rz p).toArray 69)) (aH hd0 vC) 56;replace hC:=hC.below z2;replace hP:=hP.below z2;have hb:=z0;replace hb:=ah hb z1;replace hb:=ah hb z2;clear z0;clear z1;clear z2;have s1:(w.alloc (Obj.cells (cfL c).toArray 28)).heap.size=w.heap.size+1:=by simp
 rw [s1] at hP;have s2:((w.alloc (Obj.cells (cfL c).toArray 28)).alloc (Obj.cells (rz p).toArray 69)).heap.size=w.heap.size+1+1:=by simp
 rw [s2] at hN;go_enter func172,ntmps172;go_upto_region 1 with fail;change Code.wp prog _ _ _ (((w.alloc (Obj.cells (cfL c).toArray 28)).alloc (Obj.cells (rz p).toArray 69)).alloc (Obj.cells (aH hd0 vC).toArray 56));generalize (((w.alloc (Obj.cells (cfL c).toArray 28)).alloc (Obj.cells (rz p).toArray 69)).alloc (Obj.cells (aH hd0 vC).toArray 56))=W at *;clear s1 s2;have c0:=hC.cell 0 _ rfl;have c2:=hC.cell 2 _ rfl;have c9:=hC.cell 9 _ rfl;have d0:=hP.cell 0 _ rfl;have d1:=hP.cell 1 _ rfl;have d2:=hP.cell 2 _ rfl;have d3:=hP.cell 3 _ rfl;have d4:=hP.cell 4 _ rfl;have d5:=hP.cell 5 _ rfl;have d6:=hP.cell 6 _ rfl;have d7:=hP.cell 7 _ rfl;have d8:=hP.cell 8 _ rfl;have d9:=hP.cell 9 _ rfl;have d10:=hP.cell 10 _ rfl;have d11:=hP.cell 11 _ rfl;clear hC hP;generalize hG:w.heap.size=G at *;rw [←hG] at hb;go_wp2_with (first | (refine aD 37 ?_;refine aB (eu.enc (wR c p port seq)).toArray ?_) | (refine aN ?_;refine zi.aS (G+1+1) (wR c p port seq) (bO) hN ?_));exact bodyPost_ret (v:=.agg (eu.enc (wR c p port seq)).toArray) (zi.result rfl _ _ (G+1+1) _ _ rfl (hN.fB _)) rfl ⟨rfl,below_setRow hb aJ _⟩
section
variable {w:World} {g:Nat} {hs:List Nat} {sv fl:Nat} {bs:List PL} {F:Nat→Prop} {k:Kz} {i h:Nat} {b:PL} {p:Pt}
def za (c:Cf) (p:Pt):Pt:=
 if dR p.st 4 c.so=6 then qV c { p with tab:={ p.tab with l:=[] },kK:=[],st:=dR p.st 4 c.so }
 else mo c { p with tab:={ p.tab with l:=[] },kK:=[],st:=dR p.st 4 c.so }
theorem Gn (L:Lay w g hs sv fl bs F (aO k i p)) (H:Hand k hs bs i h b) (hc:gJ k.c):Calls prog 104 #[.pointer (some ⟨g,0,none⟩),.pointer (some ⟨h,0,none⟩)] w fun e w'=>e=.returned (.tuple #[])∧Lay w' g hs sv fl bs F (aO k i ({ mo k.c p with st:=dR p.st 1 k.c.so,tk:=if k.c.pe then 1 else p.tk }))∧bW (aK g F) w w':=by
 have Q:bW (aK g F) w w:=bW.refl _ w;obtain ⟨E,hE⟩:∃E,k.c.pe=E:=⟨_,rfl⟩;rw [hE];go_enter func104,ntmps104;go_upto_region 0 with fail;have hbd:=Below.drew (Below.refl w.heap.size w);replace L:=L.below hbd;replace Q:=Q.bel hbd;refine d_ 13 aW aW ?_;generalize w.drew=wd at *;clear hbd;have c2:=L.pc H 2 (.int .i64 (p.st)) (fun _=>rfl);have f2:=L.pf H 2;have k8:=L.kc 8 (.bool k.c.so) rfl;simp only [List.take_succ_cons,List.take_zero,List.drop_succ_cons,List.drop_zero];iterate 10 refine so ?_
 refine fu bn KC (vX (p.st) 1 k.c.so wd) ?_;try simp only [Act.put,zI,bG,zS]
 refine so ?_;refine so ?_;refine bM ?_;go_upto_region 1 with fail;obtain ⟨L2,q2⟩:=L.cell H 2 (.int .i64 (dR p.st 1 k.c.so)) (q:={ p with st:=dR p.st 1 k.c.so }) (fun _=>rfl) rfl rfl rfl rfl rfl;replace L:=L2;replace Q:=Q.next q2;clear L2 q2 c2 f2 k8;generalize World.setCell _ _ _=w2 at *;go_wp2_with fail;refine (jl L H hc).mono ?_;rintro e w3 ⟨rfl,L2,q2⟩;replace L:=L2;replace Q:=Q.next q2;clear L2 q2;have k13:=L.kc 13 (.bool E) (by rw [←hE];rfl);clear hE;cases E
 ·exact ED
 ·have c9:=L.pc H 9 _ (fun _=>rfl);have f9:=L.pf H 9;go_wp2_with fail;refine (g_ h 9 _ _ _ c9 f9).mono ?_;rintro e w4 ⟨rfl,hw⟩;obtain ⟨L2,q2⟩:=L.cell H 9 (.int .i64 (bH (1))) (q:={ mo k.c { p with st:=dR p.st 1 k.c.so } with tk:=bH (1) }) (fun _=>rfl) rfl rfl rfl rfl rfl;replace L:=L2;replace Q:=Q.next q2;clear L2 q2;rw [←hw] at L Q;clear hw c9 f9;exact ED
theorem Ec (L:Lay w g hs sv fl bs F (aO k i p)) (H:Hand k hs bs i h b) (hc:gJ k.c):Calls prog 108 #[.pointer (some ⟨g,0,none⟩),.pointer (some ⟨h,0,none⟩)] w fun e w'=>e=.returned (.tuple #[])∧Lay w' g hs sv fl bs F (aO { k with pa:=if oh p.st then eH k.c else k.pa } i (za k.c p))∧bW (aK g F) w w':=by
 have Q:bW (aK g F) w w:=bW.refl _ w;obtain ⟨R,HP⟩:∃R,za k.c p=R:=⟨_,rfl⟩;rw [HP];replace HP:=HP.symm;obtain ⟨B,Vv⟩:∃B,oh p.st=B:=⟨_,rfl⟩;rw [Vv];have hcall:Calls prog 163 #[.pointer (some ⟨h,0,none⟩)] w fun e w''=>e=.returned (.bool B)∧w''=w:=by rw [←Vv];exact sM L H
 clear Vv;cases B
 ·go_enter func108,ntmps108;go_wp2_with fail;refine (hcall).mono ?_;rintro e wz ⟨rfl,hz⟩;obtain rfl:=hz.symm;clear hcall;exact mq7
 ·go_enter func108,ntmps108;go_wp2_with fail;refine (hcall).mono ?_;rintro e wz ⟨rfl,hz⟩;obtain rfl:=hz.symm;clear hcall;have RC:w.rangeAt g 0 (bT.enc k.c):=ak.bB [] (bT.enc k.c) _ L.box;go_wp2_with (refine aD 10 ?_;refine lJ.aL g 0 k.c RC ?_);clear RC;refine (Ci k.c w).mono ?_;rintro e u1 ⟨rfl,bq⟩;replace L:=L.below bq;replace Q:=Q.bel bq;clear bq;have hB:=L.box;go_upto_region 2 with (refine aN ?_;refine xV.aM g 33 (eH k.c) hB Pk ?_);clear hB;obtain ⟨L2,q2⟩:=L.parent (eH k.c);replace Q:=Q.next q2;replace L:Lay _ g hs sv fl bs F (aO { k with pa:=eH k.c } i p):=L2;replace H:Hand { k with pa:=eH k.c } hs bs i h b:=⟨H.hi,H.hh,H.hb⟩;clear L2 q2;generalize World.setCells _ _ _ _=u2 at *;exact mq7
end
end Go.Proofs.YtofhdhgfcomhiaaGreat
