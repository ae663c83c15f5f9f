/- Of what laws of the clock want, part 9: Chain BodyCheck Slices BodyPut2 BodyGet Hop Open OpenM2 BodySay HeadPut (mini.py). -/
import Derived.Test.YtofhdhgfcomhiaaGreatCf7
import Derived.Test.YtofhdhgfcomhiaaGreatCf8
namespace Go.Proofs.YtofhdhgfcomhiaaGreat
open Go.RowKit Go.Proofs
set_option maxRecDepth 100000
set_option maxHeartbeats 100000000
set_option linter.unusedVariables false
set_option linter.unusedSimpArgs false
open Tryz
variable {B:Nat} {P:Program} {Q:Exit→Act→World→Prop} {S:World→Prop} {a:Act} {b:Nat} {base:Nat} {cap:Nat} {fuel:Nat} {g:Nat} {h:Nat} {i:Nat} {l:List UInt8} {listed:Array Bool} {n:Nat} {now:Int} {o:Oper} {oi:Oper} {op:Oper} {ops:Array Oper} {p:Prop} {rest:List Oper} {t:TypeId} {v:Value} {w:World} {w':World} {xs:List Value} {α:Type}
theorem share {P:α→Prop} {G:α→Prop} {R:Prop} (h1:(∀x,P x→G x)→R) (h2:∀x,P x→G x):R:=h1 h2
def upto (n m:Nat):Array Bool:=(List.replicate n true++List.replicate m false).toArray
theorem l9 (n m k:Nat) (d:Bool):(upto n m).getD k d=if k<n then true else if k<n+m then false else d:=by
 unfold upto;rw [Array.getD_eq_getD_getElem?,List.getElem?_toArray];by_cases h:k<n
 ·rw [if_pos h,List.getElem?_append_left Pw,List.getElem?_replicate,if_pos h];rfl
 ·rw [if_neg h,List.getElem?_append_right (by simp;omega),List.length_replicate,List.getElem?_replicate];by_cases h2:k<n+m
  ·rw [if_pos h2,if_pos aJ];rfl
  ·rw [if_neg h2,if_neg aJ];rfl
theorem Mg (n m:Nat):(upto n (m+1)).setIfInBounds n true=upto (n+1) m:=by unfold upto;rw [List.setIfInBounds_toArray];congr 1;rw [List.set_append_right _ _ (by simp),List.length_replicate,Nat.sub_self,List.replicate_succ,List.set_cons_zero,List.replicate_succ',List.append_assoc];rfl
def Jo (md:Region.Mode):Nat→List Oper→Bool
 | _,[]=>true
 | j,o::rest=>o.after.toList.all (fun e=>!Region.binds md e || decide (e.on<j)) && o.after.toList.any (fun e=>Region.binds md e && e.on+1 == j) && Jo md (j+1) rest
def seqB (md:Region.Mode) (i:Nat):List Oper→Bool
 | []=>true
 | o::rest=>o.after.toList.all (fun e=>!Region.binds md e || decide (e.on<i)) && Jo md (i+1) rest
theorem Hy {md:Region.Mode}:∀(l:List Oper) (j k:Nat) (o:Oper),Jo md j l=true→l[k]? = some o→∃e ∈ o.after,Region.binds md e=true∧e.on+1=j+k
 | [],_,_,_,_,h=>by simp at h
 | x::rest,j,k,o,hs,h=>by
  simp only [Jo,Bool.and_eq_true] at hs
  obtain ⟨⟨h1,h2⟩,h3⟩:=hs
  cases k with
  | zero=>
   cases h
   obtain ⟨e,he,hb⟩:=List.any_eq_true.1 h2
   simp only [Bool.and_eq_true,beq_iff_eq] at hb
   exact ⟨e,by simpa using he,hb.1,hb.2⟩
  | succ k=>
   obtain ⟨e,he,hb,hk⟩:=Hy rest (j+1) k o h3 h
   exact ⟨e,he,hb,by omega⟩
theorem Jp {md:Region.Mode} {l:List Oper} (h:Jo md i l=true):seqB md i l=true:=by
 cases l with
 | nil=>rfl
 | cons o rest=>simp only [Jo,seqB,Bool.and_eq_true] at h ⊢;exact ⟨h.1.1,h.2⟩
theorem xu {P:Program} {ops:Array Oper} {Q:Exit→Act→World→Prop} {md:Region.Mode} :
  ∀(rest:List Oper) (i:Nat) (a:Act) (w:World),ops.toList.drop i=rest→seqB md i rest=true →
   wpList P ops Q rest a w→wpAnyH P md ops Q (fun _=>True) rest.length (upto i rest.length) a w
 | [],i,a,w,hr,hc,h=>by
  refine ⟨List.eq_nil_iff_forall_not_mem.2 fun j hj=>?_,h⟩
  have h1:=(mem_ready.1 hj).1
  rw [l9] at h1
  simp only [List.length_nil] at h1
  split at h1
  ·cases h1
  ·rw [if_neg aJ] at h1
   cases h1
 | o::rest,i,a,w,hr,hc,h=>by
  simp only [seqB,Bool.and_eq_true] at hc
  obtain ⟨h1,h2⟩:=hc
  have hi:ops[i]? = some o:=by
   rw [←Array.getElem?_toList,←List.head?_drop,hr]
   rfl
  have hr':ops.toList.drop (i+1)=rest:=by
   rw [←List.drop_drop,hr]
   rfl
  have ih:=fun a w=>xu (P:=P) (Q:=Q) rest (i+1) a w hr' (Jp h2)
  have hmem:i ∈ Region.ready md ops (upto i (rest.length+1)):=by
   refine mem_ready.2 ⟨?_,o,hi,fun e he hb=>?_⟩
   ·rw [l9,if_neg aJ,if_pos aJ]
   ·have h3:=List.all_eq_true.1 h1 e (by simpa using he)
    rw [hb] at h3
    have h4:e.on<i:=by simpa using h3
    rw [l9,if_pos h4]
  refine ⟨fun h=>(by rw [List.length_cons] at h;rw [h] at hmem;cases hmem),fun j hj=>?_⟩
  have hji:j=i:=by
   obtain ⟨h3,oj,hoj,hall⟩:=mem_ready.1 hj
   rw [l9] at h3
   split at h3
   ·cases h3
   ·rename_i hlt
    rcases Nat.lt_or_ge i j with hij | hij
    ·have hk:rest[j - (i+1)]? = some oj:=by
      rw [←hr',List.getElem?_drop,Array.getElem?_toList,show i+1+(j - (i+1))=j by omega]
      exact hoj
     obtain ⟨e,he,hb,hk2⟩:=Hy rest (i+1) (j - (i+1)) oj h2 hk
     have h5:=hall e he hb
     rw [l9,if_neg aJ] at h5
     split at h5 <;> cases h5
    ·omega
  subst hji
  unfold wpOp
  simp only [hi]
  rw [List.length_cons,Mg]
  unfold wpList at h
  split
  ·rename_i hw
   rw [if_pos hw] at h
   exact h.imp (Oper.wp_mono fun a w h=>⟨trivial,ih a w h⟩) id
  ·rename_i hw
   rw [if_neg hw] at h
   exact ⟨trivial,ih _ _ h⟩
theorem Mh {md:Region.Mode} (rest:List Oper) (i n:Nat) {listed:Array Bool} {a:Act} {w:World} (hr:ops.toList.drop i=rest) (hf:rest.length=n) (hl:listed=upto i n) (hc:seqB md i rest=true) (h:wpList P ops Q rest a w):wpAnyH P md ops Q (fun _=>True) n listed a w:=by subst hf hl;exact xu rest i a w hr hc h
theorem UH {id:Nat} (hm:P.follows .mixedOrders=true)
  (h:wpAnyH P .any ops Q (fun _=>True) ops.size (Array.replicate ops.size false) a w.drew):(Code.region id ops true).wp P Q a w:=
 wp_region_held hm h
theorem Pb {md:Region.Mode} {l:Array Bool} (l':Array Bool) (e:l=l')
 (h:wpAnyH P md ops Q S fuel l' a w):wpAnyH P md ops Q S fuel l a w:=e▸h
def oo (env:List (Nat×Bool)) (s:Nat):Option Bool:=(env.find? fun x=>x.1 == s).map (·.2)
def mg (env:List (Nat×Bool)) (t:Array Value):Prop:=∀s b,oo env s=some b→t.getD s undef=.bool b
theorem lu {t:Array Value} :mg [] t:=fun _ _ h=>by cases h
theorem dJ {env:List (Nat×Bool)} {t:Array Value} {s:Nat} {b:Bool} (h:t.getD s undef=.bool b) (he:mg env t):mg ((s,b)::env) t:=by
 intro s' b' h';unfold oo at h';rw [List.find?_cons] at h';by_cases hs:s=s'
 ·subst hs;simp only [beq_self_eq_true] at h';cases h';exact h
 ·have hb:((s,b).1 == s')=false:=nq hs;rw [hb] at h';exact he s' b' h'
theorem mg.put {env:List (Nat×Bool)} {t:Array Value} {d:Nat} (he:mg env t) (hd:oo env d=none):mg env (t.setIfInBounds d v):=by
 intro s b h;have hne:d≠s:=fun e=>by subst e;rw [hd] at h;cases h
 have:=he s b h;rw [Array.getD_eq_getD_getElem?] at this ⊢;rw [Array.getElem?_setIfInBounds_ne hne];exact this
theorem Mi {t:Array Value} {d:Nat} (hd:d<t.size):(t.setIfInBounds d v).getD d undef=v:=by rw [Array.getD_eq_getD_getElem?,Array.getElem?_setIfInBounds_self_of_lt hd];rfl
def Wp (env:List (Nat×Bool)):Operand→Option Bool
 | .tmp s=>oo env s
 | .const (.bool b)=>some b
 | _=>none
theorem oq {env:List (Nat×Bool)} {x:Operand} {b:Bool} (he:mg env a.tmps) (h:Wp env x=some b):a.eval x=.bool b:=by
 unfold Wp at h;split at h
 ·exact he _ _ h
 ·cases h;rfl
 ·cases h
def UJ (ops:Array Oper) (env:List (Nat×Bool)) (o:Oper):Bool:=
 match o.guard with
 | some (j,b)=>match (ops[j]?).bind (·.dst) with
  | some s=>oo env s == some (!b)
  | none=>false
 | none=>false
theorem Dn {env:List (Nat×Bool)} {t:Array Value} (he:mg env t) (h:UJ ops env o=true):Region.wanted o (yielded ops t)=false:=by
 unfold UJ at h;unfold Region.wanted;split at h
 ·rename_i j b hg;rw [hg];split at h
  ·rename_i s hs;have h2:=he s _ (eq_of_beq h);have h3:t[s]? = some (.bool (!b)):=by
    rw [Array.getD_eq_getD_getElem?] at h2;cases h4:t[s]? with
    | none=>rw [h4] at h2;cases h2
    | some v=>rw [h4] at h2;exact congrArg some h2
   have h5:yielded ops t j=some (!b):=by unfold yielded;rw [hs];simp only [Option.bind_some,h3]
   simp only [h5];cases b <;> rfl
  ·cases h
 ·cases h
def Hz (n:Nat) (ops:Array Oper) (o:Oper) (env:List (Nat×Bool)):Option (List (Nat×Bool)):=
 match o.dst with
 | none=>none
 | some d=>
  if d<n∧(oo env d).isNone=true then
   if UJ ops env o=true then some env
   else if o.guard=none then
    match o.op with
    | .move x=>(Wp env x).map fun b=>(d,b)::env
    | .assign x=>(Wp env x).map fun b=>(d,b)::env
    | .pick c x y=>(Wp env c).bind fun b=>(Wp env (if b then x else y)).map fun b=>(d,b)::env
    | _=>none
   else none
  else none
def xw (n:Nat) (ops:Array Oper):List Oper→List (Nat×Bool)→Option (List (Nat×Bool))
 | [],env=>some env
 | o::rest,env=>(Hz n ops o env).bind (xw n ops rest)
theorem xA {P:Program} {n:Nat} {ops:Array Oper} {Q:Exit→Act→World→Prop} {w:World}:∀(rest:List Oper) (a:Act) (env env':List (Nat×Bool)),a.tmps.size=n→mg env a.tmps →
  xw n ops rest env=some env'→(∀t':Array Value,mg env' t'→Q .normal { tmps:=t',defers:=a.defers } w)→wpList P ops Q rest a w
 | [],a,env,env',hn,he,h,hq=>by
  cases h
  exact hq _ he
 | o::rest,a,env,env',hn,he,h,hq=>by
  unfold xw at h
  obtain ⟨Mj,h1,h2⟩:=Option.bind_eq_some_iff.1 h
  clear h
  unfold Hz at h1
  split at h1
  ·cases h1
  rename_i d hd
  split at h1
  ·rename_i hk
   have hkn:oo env d=none:=Option.isNone_iff_eq_none.1 hk.2
   have hput:∀v,(a.put o.dst v).tmps=a.tmps.setIfInBounds d v:=fun v=>by rw [hd];rfl
   have hdef:∀v,(a.put o.dst v).defers=a.defers:=fun v=>by rw [hd];rfl
   have go:∀(v:Value) (Mj:List (Nat×Bool)),mg Mj (a.tmps.setIfInBounds d v)→xw n ops rest Mj=some env'→wpList P ops Q rest (a.put o.dst v) w:=fun v Mj he1 hr=>
    xA (P:=P) rest (a.put o.dst v) Mj env' (by rw [hput,Array.size_setIfInBounds,hn]) (by rw [hput];exact he1) hr (fun t' ht=>by rw [hdef];exact hq t' ht)
   have new:∀b,mg ((d,b)::env) (a.tmps.setIfInBounds d (.bool b)):=fun b=>dJ (Mi (by rw [hn];exact hk.1)) (he.put hkn)
   split at h1
   ·rename_i hoff
    cases h1
    unfold wpList
    rw [Dn he hoff]
    exact go undef env (he.put hkn) h2
   ·split at h1
    ·rename_i hg
     have hw:Region.wanted o (yielded ops a.tmps)=true:=by unfold Region.wanted;rw [hg]
     unfold wpList
     rw [if_pos hw]
     refine .inl ?_
     split at h1
     ·rename_i x hx
      obtain ⟨b,hb,rfl⟩:=Option.map_eq_some_iff.1 h1
      simp only [Oper.wp,execOp,hx,Sem.run_pure,Oper.upon_value,oq he hb]
      exact go _ _ (new b) h2
     ·rename_i x hx
      obtain ⟨b,hb,rfl⟩:=Option.map_eq_some_iff.1 h1
      simp only [Oper.wp,execOp,hx,Sem.run_pure,Oper.upon_value,oq he hb]
      exact go _ _ (new b) h2
     ·rename_i c x y hx
      obtain ⟨b,hb,h3⟩:=Option.bind_eq_some_iff.1 h1
      obtain ⟨b2,hb2,rfl⟩:=Option.map_eq_some_iff.1 h3
      have hv:(if b=true then a.eval x else a.eval y)=.bool b2:=by
       cases b
       ·exact oq he hb2
       ·exact oq he hb2
      simp only [Oper.wp,execOp,hx,oq he hb,asBool,Sem.run_bind,Result.andThen_ok,Sem.run_pure,Oper.upon_value,hv]
      exact go _ _ (new b2) h2
     ·cases h1
    ·cases h1
  ·cases h1
theorem dQ (n:Nat) (k:Tmp) (b:Bool) (env:List (Nat×Bool)) (hn:a.tmps.size=n) (he:mg env a.tmps) (h:(xw n ops rest env).bind (oo · k)=some b) (hq:∀t':Array Value,t'.getD k undef=.bool b→Q .normal { tmps:=t',defers:=a.defers } w):wpList P ops Q rest a w:=by obtain ⟨env',h1,h2⟩:=Option.bind_eq_some_iff.1 h;exact xA rest a env env' hn he h1 fun t' ht=>hq t' (ht _ _ h2)
theorem goK {Pre K:Act→World→Prop} (h:∀a w,Pre a w→K a w) (hp:Pre a w):K a w:=h _ _ hp
def iE (h:Hd) (d:Bd):Bool:=
 je h && (wQ h d h (om h.ty d) && (qh d.st && (tH d.tp && (fV d.ut (-32768) 32767 && (fV d.p1 0 255 && (mX d.qc d.qa d.qv && (fV d.p2 0 255 && (fV d.sr 0 65535 && (fV d.og 0 255 && (fV d.sh 0 255 && (fV d.hp 0 255 && fV d.ac 0 15)))))))))))
theorem iy (x:Int) (w:World):Calls prog 200 #[.int .i64 x,.int .i64 1] w fun e w'=>e=.returned (.bool (fV x 0 255))∧w=w':=by
 by_cases h0:0≤x
 ·have e:fV x 0 255=decide (x<256):=by exact KS
  rw [e];clear e;go_enter func200,ntmps200;exact vw
 ·rw [show fV x 0 255=false by unfold fV;rw [decide_eq_false_iff_not];omega];go_enter func200,ntmps200;exact vw
theorem yL (x:Int) (w:World):Calls prog 200 #[.int .i64 x,.int .i64 2] w fun e w'=>e=.returned (.bool (fV x 0 65535))∧w=w':=by
 by_cases h0:0≤x
 ·have e:fV x 0 65535=decide (x<65536):=by exact KS
  rw [e];clear e;go_enter func200,ntmps200;exact vw
 ·rw [show fV x 0 65535=false by unfold fV;rw [decide_eq_false_iff_not];omega];go_enter func200,ntmps200;exact vw
theorem xB (h:Hd) (d:Bd) (w:World):Calls prog 141 #[.agg (aH h d).toArray] w fun e w'=>e=.returned (.bool (iE h d))∧Below w.heap.size w w':=by
 have HC:Hid (iE h d=(je h && (wQ h d h (om h.ty d) && (qh d.st && (tH d.tp && (fV d.ut (-32768) 32767 && (fV d.p1 0 255 && (mX d.qc d.qa d.qv && (fV d.p2 0 255 && (fV d.sr 0 65535 && (fV d.og 0 255 && (fV d.sh 0 255 && (fV d.hp 0 255 && fV d.ac 0 15))))))))))))):=hid rfl;have hE:=fun w'=>Jl h d h (om h.ty d) w';generalize hsm:wQ h d h (om h.ty d)=sm at *;generalize iE h d=cm at *;clear hsm;go_enter func141,ntmps141;go_upto_region 1 with fail;obtain ⟨W,iX,hbw,iq⟩:=eY w (aH h d);rw [←iX];clear iX;refine UH aW ?_;have hbd:=Below.drew (Below.refl W.heap.size W);replace iq:=iq.below hbd;replace hbw:=ah hbw hbd;clear hbd;generalize W.drew=wd at *;refine aR 0 fun K hK=>?_;refine iG (op:=⟨some 3,.load _ _,_,_,_,_⟩) _ rfl w.heap.size rfl (aH h d) _ iq (aU _ _) ?_;refine hK.out _ _ trivial ?_;clear hK K;try simp only [Act.put,zI,bG,zS]
 refine aR 1 fun K hK=>?_;go_simp;refine (tN h _ _).mono ?_;rintro e w1 ⟨rfl,hb1⟩;refine hK.out _ _ trivial ?_;clear hK K;try simp only [Act.put,zI,bG,zS]
 refine tk [2] trivial ?_;replace iq:=iq.below hb1;replace hbw:=ah hbw hb1;clear hb1;cases h0:je h
 ·rw [h0] at HC;refine aP 3 trivial ?_;refine Mh _ 4 70 rfl rfl aW aW ?_;refine dQ 76 2 false [(5,false)] rfl (dJ rfl lu) aW fun t' ht=>?_;exact yH
 rw [h0] at HC;apply share (P:=fun w2=>Below w.heap.size w w2∧ak w2 w.heap.size (aH h d) 56);case h1=>
  intro tail;refine I_ 3 4 rfl rfl aW bn bn (fun K hK=>?_) (fun K hK=>?_)
  ·refine iG (op:=⟨some 6,.load _ _,_,_,_,_⟩) _ rfl w.heap.size rfl (aH h d) _ iq (aU _ _) ?_;refine hK.out _ _ trivial ?_;clear hK K;try simp only [Act.put,zI,bG,zS]
   refine aR 4 fun K hK=>?_;refine iG (op:=⟨some 7,.load _ _,_,_,_,_⟩) _ rfl w.heap.size rfl (aH h d) _ iq (aU _ _) ?_;exact Xi
  ·refine iG (op:=⟨some 7,.load _ _,_,_,_,_⟩) _ rfl w.heap.size rfl (aH h d) _ iq (aU _ _) ?_;refine hK.out _ _ trivial ?_;clear hK K;try simp only [Act.put,zI,bG,zS]
   refine I_ 3 5 rfl rfl aW bn bn (fun K hK=>?_) (fun K hK=>?_)
   ·refine iG (op:=⟨some 6,.load _ _,_,_,_,_⟩) _ rfl w.heap.size rfl (aH h d) _ iq (aU _ _) ?_;exact Xi
   ·go_simp;refine (wu h d _).mono ?_;rintro e w2 ⟨rfl,hb2⟩;refine hK.out _ _ trivial ?_;clear hK K;try simp only [Act.put,zI,bG,zS]
    refine aR 3 fun K hK=>?_;refine iG (op:=⟨some 6,.load _ _,_,_,_,_⟩) _ rfl w.heap.size rfl (aH h d) _ (iq.below hb2) (aU _ _) ?_;exact Xj
 clear iq hbw;rintro w2 ⟨hbw,iq⟩;refine Mh _ 6 68 rfl rfl rfl aW ?_;have HD:=hid iq.bd;obtain ⟨c8,c9,c10,c11,c12,c13,c14,c15,c16,c17,c18,c19,c20,c21,nO⟩:=HD.out w2 (Below.refl _ _);have hbz:=Below.refl w2.heap.size w2;cases hs:sm
 ·rw [hs] at HC hE;exact KT
 rw [hs] at HC hE;go_wp2_with fail;refine (AL _ _).mono ?_;rintro e w' ⟨rfl,rfl⟩;cases k0:qh d.st
 ·rw [k0] at HC;refine goK wF (dQ 76 2 false [(14,false),(11,true)] rfl (dJ rfl (dJ rfl lu)) aW fun t' ht=>?_);exact yH
 rw [k0] at HC;go_wp2_with fail;refine (iL _ _ _).mono ?_;rintro e v1 ⟨rfl,hb1⟩;replace hbw:=ah hbw hb1;replace hbz:=ah hbz hb1;clear hb1 c8 c9 c10 c11 c12 c13 c14 c15 c16 c17 c18 c19 c20 c21 nO;obtain ⟨c8,c9,c10,c11,c12,c13,c14,c15,c16,c17,c18,c19,c20,c21,nO⟩:=HD.out _ hbz;cases k1:tH d.tp
 ·rw [k1] at HC;refine goK wF (dQ 76 2 false [(19,false),(16,true)] rfl (dJ rfl (dJ rfl lu)) aW fun t' ht=>?_);exact yH
 rw [k1] at HC;by_cases k2a : -32768≤d.ut;case neg =>exact XE
 by_cases k2b:d.ut≤32767;case neg =>exact XE
 rw [show fV d.ut (-32768) 32767=true by unfold fV;rw [decide_eq_true_eq];omega] at HC;go_wp2_with fail;refine (iy _ _).mono ?_;rintro e w' ⟨rfl,rfl⟩;cases k3:fV d.p1 0 255
 ·rw [k3] at HC;refine goK wF (dQ 76 2 false [(34,false),(31,true)] rfl (dJ rfl (dJ rfl lu)) aW fun t' ht=>?_);exact yH
 rw [k3] at HC;go_wp2_with fail;refine (CX _ _ _ _).mono ?_;rintro e v4 ⟨rfl,hb4⟩;replace hbw:=ah hbw hb4;replace hbz:=ah hbz hb4;clear hb4 c8 c9 c10 c11 c12 c13 c14 c15 c16 c17 c18 c19 c20 c21 nO;obtain ⟨c8,c9,c10,c11,c12,c13,c14,c15,c16,c17,c18,c19,c20,c21,nO⟩:=HD.out _ hbz;cases k4:mX d.qc d.qa d.qv
 ·rw [k4] at HC;refine goK wF (dQ 76 2 false [(39,false),(36,true)] rfl (dJ rfl (dJ rfl lu)) aW fun t' ht=>?_);exact yH
 rw [k4] at HC;go_wp2_with fail;refine (iy _ _).mono ?_;rintro e w' ⟨rfl,rfl⟩;cases k5:fV d.p2 0 255
 ·rw [k5] at HC;refine goK wF (dQ 76 2 false [(44,false),(41,true)] rfl (dJ rfl (dJ rfl lu)) aW fun t' ht=>?_);exact yH
 rw [k5] at HC;go_wp2_with fail;refine (yL _ _).mono ?_;rintro e w' ⟨rfl,rfl⟩;cases k6:fV d.sr 0 65535
 ·rw [k6] at HC;refine goK wF (dQ 76 2 false [(49,false),(46,true)] rfl (dJ rfl (dJ rfl lu)) aW fun t' ht=>?_);exact yH
 rw [k6] at HC;go_wp2_with fail;refine (iy _ _).mono ?_;rintro e w' ⟨rfl,rfl⟩;cases k7:fV d.og 0 255
 ·rw [k7] at HC;refine goK wF (dQ 76 2 false [(54,false),(51,true)] rfl (dJ rfl (dJ rfl lu)) aW fun t' ht=>?_);exact yH
 rw [k7] at HC;go_wp2_with fail;refine (iy _ _).mono ?_;rintro e w' ⟨rfl,rfl⟩;cases k8:fV d.sh 0 255
 ·rw [k8] at HC;refine goK wF (dQ 76 2 false [(59,false),(56,true)] rfl (dJ rfl (dJ rfl lu)) aW fun t' ht=>?_);exact yH
 rw [k8] at HC;go_wp2_with fail;refine (iy _ _).mono ?_;rintro e w' ⟨rfl,rfl⟩;cases k9:fV d.hp 0 255
 ·rw [k9] at HC;refine goK wF (dQ 76 2 false [(64,false),(61,true)] rfl (dJ rfl (dJ rfl lu)) aW fun t' ht=>?_);exact yH
 rw [k9] at HC;by_cases k10a:0≤d.ac;case neg =>go_wp2_with fail;go_ret;exact ⟨by rw [HC.out,show fV d.ac (0) 15=false by unfold fV;rw [decide_eq_false_iff_not];omega];rfl,hbw⟩
 rw [show fV d.ac 0 15=decide (d.ac≤15) by unfold fV;rw [Bool.eq_iff_iff,decide_eq_true_eq,decide_eq_true_eq];omega] at HC;exact KT
section
open Go.RowKit Go.Proofs Go.Lib
theorem P6 (c:Nat) (w:World):(binOp .eql 132 (.slice none 0 c) (.slice none 0 0)).run prog w=.ok (.bool true) w:=by kernel_rfl
theorem Mk (a:Addr) (n c:Nat) (w:World):(binOp .eql 132 (.slice (some a) n c) (.slice none 0 0)).run prog w=.ok (.bool false) w:=by kernel_rfl
theorem Jq (v:Value) (l:List UInt8) (w:World) (hB:Bytes w v l) (hl:l.length≤140737488355328):Calls prog 142 #[v] w (cu w l):=by
 have HB:=hid fun (w':World) (h:Below w.heap.size w w')=>hB.below h;obtain ⟨p,cap,rfl,hcap,hmax,hpat⟩:=id hB;cases p with
 | none=>
  obtain rfl:l=[]:=by
   rcases hpat with h | ⟨b,off,h,_⟩
   ·exact h
   ·cases h
  clear hcap hmax hpat hB;have hq:=P6 cap;go_enter func142,ntmps142;go_wp2_with fail;go_ret;exact ⟨_,rfl,Own.nil w _,Below.refl _ _⟩
 | some a=>have hn:Own (w.alloc (Obj.cells (cellsOf []).toArray 5)) w.heap.size (.slice (some ⟨w.heap.size,0,none⟩) 0 0) []:=Own.lit w [] (by simp [maxLen]);have hb:=aA w (Obj.cells (cellsOf []).toArray 5);have hB2:=HB.out _ hb;have hsz:=hb.size;clear hcap hmax hpat hB;have hq:=Mk a l.length cap;go_enter func142,ntmps142;go_wp2_with (at_builtin;refine gQ (o:=⟨some 7,_,_,_,_,_⟩) rfl _ _ rfl rfl w.heap.size _ _ [] l rfl rfl hn hB2 ?_ hsz ?_;(simp;omega);intro v' w' hown hbel;rw [List.nil_append] at hown);go_ret;exact ⟨v',rfl,hown,hb.trans hbel⟩
theorem tT (w:World) (k:Nat) (hk:0<k) (hs:k≤140737488355328):∃cap w',(Builtin.append_ #[132,3] 132 #[.slice none 0 0,.int .i64 (k:Int)]).run prog w=.ok (.slice (some ⟨w.heap.size,0,none⟩) k cap) w'∧k≤cap∧cap≤maxLen∧Own w' w.heap.size (.slice (some ⟨w.heap.size,0,none⟩) 0 cap) []∧Below w.heap.size w w':=by
 obtain ⟨i0,hi,hz0,hz1,hz2⟩:=info_parts mR
 have hr:=run_append_grow_zeros (P:=prog) w 132 3 132 5 i0 _ .i64 _ underlying132 underlying3 hi hz0 none 0 0 [] (run_firstCells_none w.drew i0.size 0 0 0) k hk (by rw [hz1];decide) aJ aJ K7
  (growslice_fits aJ K7)
 rw [Nat.zero_add] at hr;have hge:=grownCap_ge w k 0 5;have hcm2:grownCap w k 0 5≤maxLen:=grownCap_le_maxLen w k 0 5 KZ;refine ⟨_,_,hr,hge,hcm2,?_,(Below.drew (Below.refl w.heap.size w)).alloc (Nat.le_refl _) _⟩;unfold Own;refine ⟨rfl,.inr ⟨w.heap.size,_,_,rfl,Nat.le_refl _,heap_alloc_new w.drew _,Nat.zero_le _,hcm2,?_,?_⟩⟩
 ·rw [eZ,eZ];simp only [Array.size_append,List.size_toArray,aT,List.length_replicate,List.length_nil];omega
 ·simp [cellsOf]
theorem Ml (k:Nat) (w:World) (hk:k≤140737488355328):Calls prog 201 #[.slice none 0 0,.int .i64 (k:Int)] w (cu w []):=by
 by_cases h0:k=0
 ·subst h0;go_enter func201,ntmps201;go_wp2_with fail;go_ret;exact ⟨_,rfl,Own.nil w _,Below.refl _ _⟩
 ·obtain ⟨cap,w2,hr,hcap,hmax,hown,hbel⟩:=tT w k aJ hk;have hcI:(0:Int)≤(cap:Int):=by omega
  have Wq:(0:Int)<(k:Int):=by omega
  unfold maxLen at hmax;clear h0;go_enter func201,ntmps201;go_wp2_with (at_builtin;refine wpList_append_run (o:=⟨some 22,_,_,_,_,_⟩) w rfl _ _ _ _ rfl _ _ rfl rfl _ w2 hr ?_);go_ret;exact ⟨_,rfl,hown,hbel⟩
theorem Fb (g:Nat) (v1 v2:Value) (l1 l2:List UInt8) (w:World) (h1:Bytes w v1 l1) (h2:Bytes w v2 l2) (c1:w.cell? ⟨g,0,none⟩=some v1) (c2:w.cell? ⟨g,1,none⟩=some v2) (hg:g<w.heap.size) (hs:l1.length+l2.length≤140737488355328):Calls prog 143 #[.slice (some ⟨g,0,none⟩) 2 2] w (cu w (l1++l2)):=by
 have H1:=hid fun (w':World) (h:Below w.heap.size w w')=>h1.below h;have H2:=hid fun (w':World) (h:Below w.heap.size w w')=>h2.below h;have HC1:=hid fun (w':World) (h:Below w.heap.size w w')=>((h.cell (p:=⟨g,0,none⟩) hg).trans c1);have Ws:=hid fun (w':World) (h:Below w.heap.size w w')=>((h.cell (p:=⟨g,1,none⟩) hg).trans c2);obtain ⟨p1,cap1,rfl,hcap1,YU,-⟩:=id h1;obtain ⟨p2,cap2,rfl,hcap2,YV,-⟩:=id h2;have Hs:=hid hs;have s1:(0:Int)+(l1.length:Int)=(l1.length:Int):=by omega
 clear h1 h2 hcap1 hcap2 YU YV;go_enter func143,ntmps143;go_wp2_with fail;refine wp_loop_rounds 3 ?_;rw [rounds_succ];go_wp2_with fail;rw [rounds_succ];go_wp2_with fail;rw [rounds_succ];go_wp2_with fail;have hgw:=Ml (l1.length+l2.length) w Hs.out;rw [Int.natCast_add] at hgw;refine hgw.mono ?_;rintro e w1 ⟨x,rfl,own,hb⟩;clear c1 c2 hgw s1;have c1:=HC1.out _ hb;have c2:=Ws.out _ hb;have hB1:=H1.out _ hb;have hsz:=hb.size;go_wp2_with fail;refine wp_loop_rounds 3 ?_;rw [rounds_succ];go_wp2_with (at_builtin;refine gQ (o:=⟨some 33,_,_,_,_,_⟩) rfl _ _ rfl rfl w.heap.size _ _ [] l1 rfl rfl own hB1 ?_ hsz ?_;(have:=Hs.out;simp;omega);intro x1 w2 iI hb1);replace hb:=hb.trans hb1;clear c1 c2 hB1 hsz own hb1;have c1:=HC1.out _ hb;have c2:=Ws.out _ hb;have hB2:=H2.out _ hb;have hsz:=hb.size;rw [rounds_succ];go_wp2_with (at_builtin;refine gQ (o:=⟨some 33,_,_,_,_,_⟩) rfl _ _ rfl rfl w.heap.size _ _ ([]++l1) l2 rfl rfl iI hB2 ?_ hsz ?_;(have:=Hs.out;simp;omega);intro x2 w3 mO hb2);replace hb:=hb.trans hb2;rw [List.nil_append] at mO;rw [rounds_succ];go_wp2_with fail;go_ret;exact ⟨x2,rfl,mO,hb⟩
end
theorem uW {h:Hd} {d:Bd} (hc:iE h d=true):je h=true∧dW h.ty=true:=by unfold iE at hc;rw [Bool.and_eq_true] at hc;exact ⟨hc.1,(Le hc.1).1⟩
theorem Fe (v:Value) (l:List UInt8) (h:Hd) (d:Bd) (w:World) (hB:Bytes w v l) (hl:l.length≤140737488355328) (hc:iE h d=false):Calls prog 82 #[v,.agg (aH h d).toArray] w fun e w'=>∃v',e=.returned (.tuple #[v',.bool false])∧Own w' w.heap.size v' l∧Below w.heap.size w w':=by have HB:=hid fun (w':World) (h:Below w.heap.size w w')=>hB.below h;clear hB;go_enter func82,ntmps82;go_upto_region 1 with fail;obtain ⟨W,iX,hb,hM⟩:=eY w (aH h d);rw [←iX];clear iX;go_wp2_with (refine aD 6 ?_;refine Ud w.heap.size (aH h d) hM (aU _ _) ?_);refine (xB h d _).mono ?_;rintro e w1 ⟨rfl,hb1⟩;rw [hc];replace hb:=ah hb hb1;clear hb1 hM;go_wp2_with fail;refine (Jq v l _ (HB.out _ hb) hl).mono ?_;rintro e w2 ⟨x,rfl,own,hb2⟩;go_wp2_with fail;go_ret2;exact ⟨x,rfl,own.mono hb.size,ah hb hb2⟩
theorem Dp (v:Value) (l:List UInt8) (h:Hd) (d:Bd) (w:World) (hB:Bytes w v l) (hl:l.length≤140737488355000) (hgr:0≤d.gr) (htc:0≤d.tc) (hc:iE h d=true):Calls prog 82 #[v,.agg (aH h d).toArray] w fun e w'=>∃v',e=.returned (.tuple #[v',.bool true])∧Own w' w.heap.size v' (l++dZ h.ty d)∧Below w.heap.size w w':=by
 have HB:=hid fun (w':World) (h:Below w.heap.size w w')=>hB.below h;obtain ⟨p,cap,rfl,-,-,-⟩:=id hB;have hlen:=rR h.ty d;have qy:=vN h.ty;clear hB;go_enter func82,ntmps82;go_upto_region 1 with fail;obtain ⟨W,iX,hb,hM⟩:=eY w (aH h d);rw [←iX];clear iX;go_wp2_with (refine aD 6 ?_;refine Ud w.heap.size (aH h d) hM (aU _ _) ?_);refine (xB h d _).mono ?_;rintro e w1 ⟨rfl,hb1⟩;rw [hc];replace hb:=ah hb hb1;replace hM:=hM.below hb1;clear hb1;go_wp2_with (refine aD 12 ?_;refine Ud w.heap.size (aH h d) hM (aU _ _) ?_);refine (LZ h d _ (uW hc).2 hgr htc).mono ?_;rintro e w2 ⟨x,rfl,own,hb2⟩;replace hb:=ah hb hb2;clear hb2 hM;have hX:=own.bytes;obtain ⟨p2,cap2,rfl,-,-,-⟩:=id hX;clear own;have hV:=HB.out _ hb;have hsz:l.length+(dZ h.ty d).length≤140737488355328:=by omega
 have hn:=aA w2 (Obj.cells ([.slice p l.length cap,.slice p2 (dZ h.ty d).length cap2]:List Value).toArray 132);have hBx:=ak.new w2 [.slice p l.length cap,.slice p2 (dZ h.ty d).length cap2] 132;generalize hL:dZ h.ty d=L at *;have HL:=hid hL;clear hlen qy hL;go_wp2_with fail;refine (Fb w2.heap.size _ _ l L _ (hV.below hn) (hX.below hn) (hBx.cell 0 _ rfl) (hBx.cell 1 _ rfl) hBx.lt hsz).mono ?_;rintro e w3 ⟨x3,rfl,qQ,hb3⟩;have hb4:=ah hb hn;go_wp2_with fail;go_ret2;exact ⟨x3,rfl,by rw [HL.out];exact qQ.mono hb4.size,ah hb4 hb3⟩
def UK (d:Bd) (l:List UInt8) (A:Nat):Bd:={ d with ut:=dU l A 2,p1:=(aF l (A+3) 1:Nat),qc:=(aF l (A+4) 1:Nat),qa:=(aF l (A+5) 1:Nat),qv:=(aF l (A+6) 2:Nat),p2:=(aF l (A+8) 1:Nat),gr:=(aF l (A+9) 8:Nat),sr:=(aF l (A+17) 2:Nat),og:=(aF l (A+19) 1:Nat) }
def UL (d:Bd) (l:List UInt8) (A:Nat):Bd:={ d with sh:=(aF l A 1:Nat),hp:=(aF l (A+1) 1:Nat),ac:=((aF l (A+2) 1:Nat):Int) % 16 }
theorem jO {c:Code} (h:∀Q':Exit→Act→World→Prop,(∀a w,Q .ret a w→Q' .ret a w)→(∀l rest a w,findLabel c l=some rest→rest.wp P (Exit.noGoto Q) a w→Q' (.goto l) a w)→c.wp P Q' a w):(Code.scope c).wp P Q a w:=by intro b k cs;have h1:=h (fun e a w=>match e with | .goto l=>∃rest,findLabel c l=some rest∧rest.wp P (Exit.noGoto Q) a w | e=>Q e a w) (fun _ _ h=>h) (fun l rest a w hf hr=>⟨rest,hf,hr⟩);exact mq5
theorem yM {c:Code} (nL:∀ch a d v w,Q (.panic ch) (Act.put a d v) w→Q (.panic ch) a w) (h:∀Q':Exit→Act→World→Prop,(∀a w,Q .ret a w→Q' .ret a w)→(∀l rest a w,findLabel c l=some rest→rest.wp P (Exit.noGoto Q) a w→Q' (.goto l) a w)→(∀ch a d v w,Q' (.panic ch) (Act.put a d v) w→Q' (.panic ch) a w)→c.wp P Q' a w):(Code.scope c).wp P Q a w:=by intro b k cs;have h1:=h (fun e a w=>match e with | .goto l=>∃rest,findLabel c l=some rest∧rest.wp P (Exit.noGoto Q) a w | e=>Q e a w) (fun _ _ h=>h) (fun l rest a w hf hr=>⟨rest,hf,hr⟩) nL;exact mq5
section
open Go.ChangeShapes Go.WideShapes Go.ChangeAt Go.RowKit
theorem own:ownKnob prog.godebug=none:=by kernel_rfl
theorem laidOut:laidOutB prog=true:=by kernel_rfl
section
variable {H:Type} {enc:TypeId×Value→H} {W:World} {base:Nat} {held:Bool} {ts:List TypeId} {ds:List (DataW H)} {j:Nat} {v:Value} {d:DataW H} {p:List MemPlace}
theorem UM (hok:Value.okWide prog W .any base 132 v) (hsz:(DataW.weightsEach prog ts ds).all (· ≤ reachBytes)=true) (ht:ts[j]? = some 132) (hd:ds[j]? = some d) (h:DataW.Trod enc prog W 0 (fun _=>true) held 132 v d p):∃l,Bytes W v l∧l.length≤140737488351232:=by
 obtain ⟨a,len,cap,rfl⟩:=okWide_slice underlying132 hok;obtain ⟨fuel,hf⟩:=h;rcases open_ints underlying132 underlying5 aW hf with ⟨hcs,_⟩ | ⟨x,l,c,zs,hcs,_,hl,hm,hz,hx,hcell,hwz⟩
 ·simp [Value.cells] at hcs;obtain ⟨rfl,rfl,rfl⟩:=hcs;exact ⟨[],Bytes.nil W,by simp⟩
 ·simp [Value.cells] at hcs;obtain ⟨rfl,rfl,rfl⟩:=hcs;simp only [Prod.mk.injEq] at hx;obtain ⟨rfl,_⟩:=hx;have hz':zs.length=cap:=by simpa using hz
  have hs:=sized_slice hsz ht hd underlying132;rw [show prog.bytesOf 5=1 by kernel_rfl] at hs;simp only [lits,List.length_map,List.length_take,List.length_drop,reachBytes] at hs;have hwf:∀i,i<zs.length→0≤zs.getD i 0∧zs.getD i 0<256:=by intro i hi;have h:=hwz (zs.getD i 0) (by rw [List.getD_eq_getElem?_getD,List.getElem?_eq_getElem hi];exact List.getElem_mem _);have hb:=bounds_u8 h;omega
  refine ⟨(zs.take len).map fun n=>UInt8.ofNat n.toNat,⟨some x,cap,by simp [hz',Nat.min_eq_left hl],by simp [hz',Nat.min_eq_left hl,hl],hm,?_⟩,by simp;omega⟩;by_cases h0:zs.length=0
  ·left;obtain rfl:zs=[]:=List.eq_nil_of_length_eq_zero h0;simp
  ·obtain ⟨b,off,rfl,hc⟩:=ints_at hcell aJ;refine .inr ⟨b,off,rfl,World.block_lt_of_cell? W _ (hc 0 aJ),fun i hi=>?_⟩;simp only [List.length_map,List.length_take] at hi;rw [hc i aJ];have hw:=hwf i aJ;simp only [List.getElem_map,List.getElem_take,List.getD_eq_getElem?_getD,List.getElem?_eq_getElem (show i<zs.length by omega),Option.getD_some] at hw ⊢;unfold bv;rw [UInt8.toNat_ofNat'];congr 2;omega
theorem Wt (hok:Value.okWide prog W .any base 39 v) (hsz:(DataW.weightsEach prog ts ds).all (· ≤ reachBytes)=true) (ht:ts[j]? = some 39) (hd:ds[j]? = some d) (h:DataW.Trod enc prog W 0 (fun _=>true) held 39 v d p):∃zs,Ints W v zs∧zs.length*8≤140737488351232:=by
 obtain ⟨a,len,cap,rfl⟩:=okWide_slice underlying39 hok;obtain ⟨fuel,hf⟩:=h;rcases open_ints underlying39 underlying3 aW hf with ⟨hcs,_⟩ | ⟨x,l,c,zs,hcs,_,hl,hm,hz,hx,hcell,_⟩
 ·simp [Value.cells] at hcs;obtain ⟨rfl,rfl,rfl⟩:=hcs;exact ⟨[],⟨none,0,rfl,Nat.le_refl _,Nat.zero_le _,.inl rfl⟩,by simp⟩
 ·simp [Value.cells] at hcs;obtain ⟨rfl,rfl,rfl⟩:=hcs;simp only [Prod.mk.injEq] at hx;obtain ⟨rfl,_⟩:=hx;have hz':zs.length=cap:=by simpa using hz
  have hs:=sized_slice hsz ht hd underlying39;rw [show prog.bytesOf 3=8 by kernel_rfl] at hs;simp only [lits,List.length_map,List.length_take,List.length_drop,reachBytes] at hs;refine ⟨zs.take len,⟨some x,cap,by simp [hz',Nat.min_eq_left hl],by simp [hz',Nat.min_eq_left hl,hl],hm,?_⟩,by simp;omega⟩;by_cases h0:zs.length=0
  ·left;obtain rfl:zs=[]:=List.eq_nil_of_length_eq_zero h0;simp
  ·obtain ⟨b,off,rfl,hc⟩:=ints_at hcell aJ;refine .inr ⟨b,off,rfl,World.block_lt_of_cell? W _ (hc 0 aJ),fun i hi=>?_⟩;simp only [List.length_take] at hi;rw [hc i aJ];simp only [List.getElem_take,List.getD_eq_getElem?_getD,List.getElem?_eq_getElem (show i<zs.length by omega),Option.getD_some]
end
end
section
open Go.ChangeShapes Go.WideShapes Go.ChangeAt Go.RowKit
def H6 (h:Hd) (d:Bd):Prop:=CU h∧(0≤d.tc∧d.tc<18446744073709551616)∧(0≤d.gr∧d.gr<18446744073709551616)∧(-9223372036854775808≤d.st∧d.st≤9223372036854775807)
end
theorem xC (a p b:List UInt8) (A k:Nat) (ha:a.length=A) (hp:p.length=k):aF (a++(p++b)) A k=num p:=by unfold aF;subst ha hp;rw [List.drop_left,List.take_left]
theorem jP (c p:Int) (a t:List UInt8) (A:Nat) (ha:a.length=A) (hc:0≤c) (hc2:c<18446744073709551616) (hp:tH p=true):((aF (a++(gG c p++t)) A 8:Nat):Int)=c∧((aF (a++(gG c p++t)) (A+8) 2:Nat):Int)=p:=by unfold tH at hp;rw [decide_eq_true_eq] at hp;have l8:(iJ c.toNat 8).length=8:=dN _ _;have e1:=CO c.toNat 8 aX;have e2:=Lb p 2 aX aX;have a1:=xC a (iJ c.toNat 8) (aj p 2++t) A 8 ha l8;have a2:=xC (a++iJ c.toNat 8) (aj p 2) t (A+8) 2 (by rw [List.length_append,ha,l8]) (aC _ _ aX aX);unfold gG;rw [List.append_assoc] at a2 ⊢;rw [a1,a2];simp only [show (2:Int).toNat=2 from rfl] at e2;omega
def xD (h:Hd) (n:Int):List UInt8:=
 []++aj h.ty 1++aj 18 1++aj n 2++aj h.dm 1++aj 0 1++aj h.fl 2++aj h.co 8++aj 0 4++gG h.sc h.sp++aj h.sq 2++aj (ctl h.ty) 1++aj h.lg 1
theorem Bn (h:Hd) (n:Int):(xD h n).length=34:=by
 unfold xD;simp only [List.length_append,jL]
 rw [aC h.ty 1 aX aX,aC 18 1 aX aX,aC n 2 aX aX,aC h.dm 1 aX aX,aC 0 1 aX aX,
  aC h.fl 2 aX aX,aC h.co 8 aX aX,aC 0 4 aX aX,aC h.sq 2 aX aX,aC (ctl h.ty) 1 aX aX,aC h.lg 1 aX aX]
 rfl
def Dq (h:Hd) (n:Int):Bool:=je h && fV n 34 400
theorem Fg (h:Hd) (r:List Value) (n:Int) (w:World) (hr:r.length=15) (hp:Dq h n=false):Calls prog 84 #[.agg (dn h r).toArray,.int .i64 n] w fun e w'=>e=.returned (.tuple #[.slice none 0 0,.bool false])∧Below w.heap.size w w':=by
 have hl:=eT h r hr;unfold Dq at hp;go_enter func84,ntmps84;go_upto_region 1 with fail;obtain ⟨W,iX,hbw,iq⟩:=eY w (dn h r);rw [←iX];clear iX;go_wp2_with (refine bU (op:=⟨some 9,.load _ _,_,_,_,_⟩) rfl _ rfl w.heap.size rfl (dn h r) _ iq hl ?_);refine (tN _ _ _).mono ?_;rintro e w1 ⟨rfl,hb1⟩;cases hc:je h
 ·go_wp2_with fail;go_ret2;exact ⟨rfl,ah hbw hb1⟩
 ·rw [hc,Bool.true_and] at hp;go_wp2_with fail;refine (wP _ _).mono ?_;rintro e w' ⟨rfl,rfl⟩;rw [hp];go_wp2_with fail;go_ret2;exact ⟨rfl,ah hbw hb1⟩
theorem Dr (h:Hd) (r:List Value) (n:Int) (w:World) (hr:r.length=15) (hs:0≤h.sc) (hp:Dq h n=true):Calls prog 84 #[.agg (dn h r).toArray,.int .i64 n] w fun e w'=>∃v,e=.returned (.tuple #[v,.bool true])∧Own w' w.heap.size v (xD h n)∧Below w.heap.size w w':=by
 have hl:=eT h r hr;have HS:=hid hs;clear hs;unfold Dq at hp;rw [Bool.and_eq_true] at hp;obtain ⟨hc,hn⟩:=hp;go_enter func84,ntmps84;go_upto_region 1 with fail;obtain ⟨W,iX,hbw,iq⟩:=eY w (dn h r);rw [←iX];clear iX;have HH:=hid iq.hd;go_wp2_with (refine bU (op:=⟨some 9,.load _ _,_,_,_,_⟩) rfl _ rfl w.heap.size rfl (dn h r) _ iq hl ?_);refine (tN _ _ _).mono ?_;rintro e wc ⟨rfl,hbc⟩;rw [hc];obtain ⟨c0,c1,c2,c3,c4,c5,c6,c7⟩:=HH.out _ hbc;clear iq hl hc;go_wp2_with fail;refine (wP _ _).mono ?_;rintro e w' ⟨rfl,rfl⟩;rw [hn];clear hn;go_wp2_with fail;refine (uQ _ _).mono ?_;rintro e w' ⟨rfl,rfl⟩;go_wp2_with fail;refine (bI _ [] _ _ _ (Bytes.nil _) aX).mono ?_;rintro e w0 ⟨v0,rfl,Jm,hbl0⟩;have hb0:=ah hbc hbl0;obtain ⟨c0,c1,c2,c3,c4,c5,c6,c7⟩:=HH.out _ hb0;have UN:([]++aj h.ty 1).length=1:=by rw [List.nil_append];exact aC _ _ aX aX
 go_wp2_with fail;refine (bI _ ([]++aj h.ty 1) _ _ _ Jm.bytes (by have:=UN;omega)).mono ?_;rintro e w1 ⟨v1,rfl,iI,hbl1⟩;have hb1:=ah hb0 hbl1;obtain ⟨c0,c1,c2,c3,c4,c5,c6,c7⟩:=HH.out _ hb1;have len1:([]++aj h.ty 1++aj 18 1).length=2:=by rw [List.length_append,UN,aC _ _ aX aX];rfl
 clear Jm UN;go_wp2_with fail;refine (bI _ ([]++aj h.ty 1++aj 18 1) _ _ _ iI.bytes (by have:=len1;omega)).mono ?_;rintro e w2 ⟨v2,rfl,mO,Dt⟩;have hb2:=ah hb1 Dt;obtain ⟨c0,c1,c2,c3,c4,c5,c6,c7⟩:=HH.out _ hb2;have len2:([]++aj h.ty 1++aj 18 1++aj n 2).length=4:=by rw [List.length_append,len1,aC _ _ aX aX];rfl
 clear iI len1;go_wp2_with fail;refine (bI _ ([]++aj h.ty 1++aj 18 1++aj n 2) _ _ _ mO.bytes (by have:=len2;omega)).mono ?_;rintro e w3 ⟨v3,rfl,qQ,P7⟩;have hb3:=ah hb2 P7;obtain ⟨c0,c1,c2,c3,c4,c5,c6,c7⟩:=HH.out _ hb3;have UO:([]++aj h.ty 1++aj 18 1++aj n 2++aj h.dm 1).length=5:=by rw [List.length_append,len2,aC _ _ aX aX];rfl
 clear mO len2;go_wp2_with fail;refine (bI _ ([]++aj h.ty 1++aj 18 1++aj n 2++aj h.dm 1) _ _ _ qQ.bytes (by have:=UO;omega)).mono ?_;rintro e w4 ⟨v4,rfl,PY,hbl4⟩;have hb4:=ah hb3 hbl4;obtain ⟨c0,c1,c2,c3,c4,c5,c6,c7⟩:=HH.out _ hb4;have UQ:([]++aj h.ty 1++aj 18 1++aj n 2++aj h.dm 1++aj 0 1).length=6:=by rw [List.length_append,UO,aC _ _ aX aX];rfl
 clear qQ UO;go_wp2_with fail;refine (bI _ ([]++aj h.ty 1++aj 18 1++aj n 2++aj h.dm 1++aj 0 1) _ _ _ PY.bytes (by have:=UQ;omega)).mono ?_;rintro e w5 ⟨v5,rfl,PZ,hbl5⟩;have hb5:=ah hb4 hbl5;obtain ⟨c0,c1,c2,c3,c4,c5,c6,c7⟩:=HH.out _ hb5;have UR:([]++aj h.ty 1++aj 18 1++aj n 2++aj h.dm 1++aj 0 1++aj h.fl 2).length=8:=by rw [List.length_append,UQ,aC _ _ aX aX];rfl
 clear PY UQ;go_wp2_with fail;refine (bI _ ([]++aj h.ty 1++aj 18 1++aj n 2++aj h.dm 1++aj 0 1++aj h.fl 2) _ _ _ PZ.bytes (by have:=UR;omega)).mono ?_;rintro e w6 ⟨v6,rfl,EW,hbl6⟩;have hb6:=ah hb5 hbl6;obtain ⟨c0,c1,c2,c3,c4,c5,c6,c7⟩:=HH.out _ hb6;have UU:([]++aj h.ty 1++aj 18 1++aj n 2++aj h.dm 1++aj 0 1++aj h.fl 2++aj h.co 8).length=16:=by rw [List.length_append,UR,aC _ _ aX aX];rfl
 clear PZ UR;go_wp2_with fail;refine (bI _ ([]++aj h.ty 1++aj 18 1++aj n 2++aj h.dm 1++aj 0 1++aj h.fl 2++aj h.co 8) _ _ _ EW.bytes (by have:=UU;omega)).mono ?_;rintro e w7 ⟨v7,rfl,P5,hbl7⟩;have Uz:=ah hb6 hbl7;obtain ⟨c0,c1,c2,c3,c4,c5,c6,c7⟩:=HH.out _ Uz;have UW:([]++aj h.ty 1++aj 18 1++aj n 2++aj h.dm 1++aj 0 1++aj h.fl 2++aj h.co 8++aj 0 4).length=20:=by rw [List.length_append,UU,aC _ _ aX aX];rfl
 clear EW UU;go_wp2_with fail;refine (jM _ ([]++aj h.ty 1++aj 18 1++aj n 2++aj h.dm 1++aj 0 1++aj h.fl 2++aj h.co 8++aj 0 4) _ _ _ P5.bytes (by have:=UW;omega) HS.out).mono ?_;rintro e w8 ⟨v8,rfl,YW,hbl8⟩;have OU:=ah Uz hbl8;obtain ⟨c0,c1,c2,c3,c4,c5,c6,c7⟩:=HH.out _ OU;have len8:([]++aj h.ty 1++aj 18 1++aj n 2++aj h.dm 1++aj 0 1++aj h.fl 2++aj h.co 8++aj 0 4++gG h.sc h.sp).length=30:=by rw [List.length_append,UW,jL]
 clear P5 UW;go_wp2_with fail;refine (bI _ ([]++aj h.ty 1++aj 18 1++aj n 2++aj h.dm 1++aj 0 1++aj h.fl 2++aj h.co 8++aj 0 4++gG h.sc h.sp) _ _ _ YW.bytes (by have:=len8;omega)).mono ?_;rintro e w9 ⟨v9,rfl,YX,hbl9⟩;have P8:=ah OU hbl9;obtain ⟨c0,c1,c2,c3,c4,c5,c6,c7⟩:=HH.out _ P8;have UY:([]++aj h.ty 1++aj 18 1++aj n 2++aj h.dm 1++aj 0 1++aj h.fl 2++aj h.co 8++aj 0 4++gG h.sc h.sp++aj h.sq 2).length=32:=by rw [List.length_append,len8,aC _ _ aX aX];rfl
 clear YW len8;go_wp2_with fail;refine (bI _ ([]++aj h.ty 1++aj 18 1++aj n 2++aj h.dm 1++aj 0 1++aj h.fl 2++aj h.co 8++aj 0 4++gG h.sc h.sp++aj h.sq 2) _ _ _ YX.bytes (by have:=UY;omega)).mono ?_;rintro e Wu ⟨v10,rfl,Sr,YZ⟩;have UZ:=ah P8 YZ;obtain ⟨c0,c1,c2,c3,c4,c5,c6,c7⟩:=HH.out _ UZ;have Mq:([]++aj h.ty 1++aj 18 1++aj n 2++aj h.dm 1++aj 0 1++aj h.fl 2++aj h.co 8++aj 0 4++gG h.sc h.sp++aj h.sq 2++aj (ctl h.ty) 1).length=33:=by rw [List.length_append,UY,aC _ _ aX aX];rfl
 clear YX UY;go_wp2_with fail;refine (bI _ ([]++aj h.ty 1++aj 18 1++aj n 2++aj h.dm 1++aj 0 1++aj h.fl 2++aj h.co 8++aj 0 4++gG h.sc h.sp++aj h.sq 2++aj (ctl h.ty) 1) _ _ _ Sr.bytes (by have:=Mq;omega)).mono ?_;rintro e w11 ⟨v11,rfl,Y0,Y1⟩;have Y2:=ah UZ Y1;obtain ⟨c0,c1,c2,c3,c4,c5,c6,c7⟩:=HH.out _ Y2;have len11:([]++aj h.ty 1++aj 18 1++aj n 2++aj h.dm 1++aj 0 1++aj h.fl 2++aj h.co 8++aj 0 4++gG h.sc h.sp++aj h.sq 2++aj (ctl h.ty) 1++aj h.lg 1).length=34:=by rw [List.length_append,Mq,aC _ _ aX aX];rfl
 clear Sr Mq;go_wp2_with fail;go_ret2;exact ⟨_,rfl,Y0.mono (Nat.le_trans hbw.size UZ.size),ah hbw Y2⟩
end Go.Proofs.YtofhdhgfcomhiaaGreat
