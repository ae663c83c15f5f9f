/- Of what laws of the clock want, part 13: ClkIn2 ClkIn3 SeqRef SeqOwn DelRef DelOwn (mini.py). -/
import Derived.Test.YtofhdhgfcomhiaaGreatCf12
namespace Go.Proofs.YtofhdhgfcomhiaaGreat
open Go.RowKit Go.Proofs
set_option maxRecDepth 100000
set_option maxHeartbeats 100000000
set_option linter.unusedVariables false
set_option linter.unusedSimpArgs false
open Tryz
variable {B:Nat} {P:Program} {Q:Exit→Act→World→Prop} {S:World→Prop} {a:Act} {b:Nat} {base:Nat} {cap:Nat} {fuel:Nat} {g:Nat} {h:Nat} {i:Nat} {l:List UInt8} {listed:Array Bool} {n:Nat} {now:Int} {o:Oper} {oi:Oper} {op:Oper} {ops:Array Oper} {p:Prop} {rest:List Oper} {t:TypeId} {v:Value} {w:World} {w':World} {xs:List Value} {α:Type}
theorem vQ {s e:Int} {so:Bool} (h:1≤s∧s≤9):1≤dR s e so∧dR s e so≤9:=by
 unfold dR;repeat' split
 all_goals omega
theorem Qt {s d:Int} {a b:Bool} (h:1≤s∧s≤9):1≤dz s d a b∧dz s d a b≤9:=by
 unfold dz;repeat' split
 all_goals omega
theorem eD.mono {k:Kz} {m:Nat} (h:eD k n) (hn:n≤m):eD k m:=
 { h with dr:=⟨h.dr.1,by have:=h.dr.2;omega⟩,sv:=⟨h.sv.1,h.sv.2.1,by have:=h.sv.2.2;omega⟩ }
theorem eD.go {k:Kz} (h:eD k n) {ls:List Pt} (hl:ls.length=k.ls.length) (hg:∀(i:Nat) (p q:Pt),k.ls[i]? = some p→ls[i]? = some q→bN p→bN q∧q.x.me=p.x.me∧q.y.me=p.y.me):eD { k with ls:=ls } n:=by
 have key:∀(i:Nat) (q:Pt),ls[i]? = some q→∃p,k.ls[i]? = some p∧bN q∧q.x.me=p.x.me∧q.y.me=p.y.me:=by
  intro i q hq;have hi:i<ls.length:=(List.getElem?_eq_some_iff.1 hq).1;have hi2:i<k.ls.length:=by omega
  have hp:k.ls[i]? = some k.ls[i]:=List.getElem?_eq_getElem hi2;exact ⟨_,hp,hg i _ q hp hq (h.me _ (List.getElem_mem hi2))⟩
 refine { h with len:=by show ((ls.length:Nat):Int)=k.c.po;rw [hl];exact h.len,me:=?_,self:=?_ }
 ·intro q hq;obtain ⟨i,hi,rfl⟩:=List.mem_iff_getElem.1 hq;obtain ⟨p,-,h1,-⟩:=key i _ (List.getElem?_eq_getElem hi);exact h1
 ·intro i q hq;obtain ⟨p,h0,-,h1,h2⟩:=key i q hq;obtain ⟨s1,s2⟩:=h.self i p h0;exact ⟨h1.trans s1,h2.trans s2⟩
theorem eD.set {k:Kz} {n:Nat} (h:eD k n) {i:Nat} {p q:Pt} (hp:k.ls[i]? = some p) (hq:bN p→bN q∧q.x.me=p.x.me∧q.y.me=p.y.me):eD { k with ls:=k.ls.set i q } n:=by
 refine h.go (by simp) ?_;intro j a b ha hb hin;by_cases e:i=j
 ·subst e;rw [hp] at ha;obtain rfl:=Option.some.inj ha;have hi:i<k.ls.length:=(List.getElem?_eq_some_iff.1 hp).1;rw [List.getElem?_set_self hi] at hb;obtain rfl:=Option.some.inj hb;exact hq hin
 ·rw [List.getElem?_set_ne e,ha] at hb;obtain rfl:=Option.some.inj hb;exact ⟨hin,rfl,rfl⟩
theorem eD.at {k:Kz} (h:eD k n) {i:Nat} {p:Pt} (hp:k.ls[i]? = some p):bN p:=h.me p (List.mem_of_getElem? hp)
theorem eD.pa' {k:Kz} (h:eD k n) {a:Pa} (ha:DT a):eD { k with pa:=a } n:={ h with pa:=ha }
theorem eD.conf {k:Kz} (h:eD k n) {c:Cf} (hc:c=k.c∨(gJ c∧c.cl=k.c.cl∧c.po=k.c.po)):eD { k with c:=c } n:=by
 rcases hc with rfl | ⟨h1,h2,h3⟩
 ·exact h
 ·refine { h with cf:=h1,cl:=by show 0≤c.cl∧c.cl<_;rw [h2];exact h.cl,len:=by show (k.ls.length:Int)=c.po;rw [h3];exact h.len,self:=?_ };intro i p hp;obtain ⟨a,b⟩:=h.self i p hp;have e:nu c i=nu k.c i:=by unfold nu;rw [h2]
  exact ⟨a.trans e.symm,b.trans e.symm⟩
theorem bN.new {c:Cf} (hcl:0≤c.cl∧c.cl<18446744073709551616) (i:Nat) (hi:i<8):bN (gK c i):=by
 have z:=InT.zero;have zn:qg 0:=by unfold qg;omega
 exact { st:=by show (1:Int)≤1∧(1:Int)≤9;omega,tab:=fun r h=>absurd h (by simp [gK]),own:=⟨hcl,by show -9223372036854775808≤(i:Int)+1∧(i:Int)+1≤9223372036854775807;omega⟩,kK:=fun r h=>absurd h (by simp [gK]),ids:=fun r h=>absurd h (by simp [gK]),tr:=z,tq:=z,ta:=z,ts:=z,tk:=z,na:=zn,ns:=zn,nk:=zn,ms:=fun _ _ h=>qx,mf:=fun _ h=>qx,x:=fun _ _ h=>qx,yw:=fun _ h=>qx,yh:=fun _ _ h=>qx,df:=fun _ h=>qx,pr:=fun _ h=>qx,last:=fun _ h=>qx }
theorem bN.clear {p:Pt} (h:bN p) {s:Int} (hs:1≤s∧s≤9):bN (tZ s p):=by have z:=InT.zero;exact { h with st:=hs,tab:=fun r h=>absurd h (by simp [tZ]),kK:=fun r h=>absurd h (by simp [tZ]),ids:=fun r h=>absurd h (by simp [tZ]),tr:=z,tq:=z,ta:=z,ts:=z,tk:=z,ms:=fun _ _ h=>qx,mf:=fun _ h=>qx,x:=fun _ _ h=>qx,yw:=fun _ h=>qx,yh:=fun _ _ h=>qx,df:=fun _ h=>qx,pr:=fun _ h=>qx }
theorem sw {c:Cf} (h:gJ c) (hcl:0≤c.cl∧c.cl<18446744073709551616):eD (ay c) 0:=by
 have hpo:=h.2.2.1;have hlen:(((List.range c.po.toNat).map (gK c)).length:Int)=c.po:=by rw [List.length_map,List.length_range];omega
 have hS:=LQ c.kp c.ki c.st;refine { cf:=h,cl:=hcl,len:=hlen,tk:=by show (0:Int)≤0∧(0:Int)≤1099511627776;omega,dr:=by show (0:Int)≤0∧(0:Int)≤((0:Nat):Int);omega,pa:=Ah h hcl,sv:=⟨hS,by show (0:Int)≤0;omega,by show (0:Int)≤((0:Nat):Int);omega⟩,fl:=LM.new _,off:=by show (-10000000000000000:Int)≤0∧(0:Int)≤10000000000000000;omega,Wv:=fun v h=>absurd h (by simp [ay]),de:=fun d h=>qx,me:=?_,self:=?_ }
 ·intro p hp;obtain ⟨i,hi,rfl⟩:=List.mem_map.1 hp;rw [List.mem_range] at hi;exact bN.new hcl i aJ
 ·intro i p hp;have hp2:((List.range c.po.toNat).map (gK c))[i]? = some p:=hp;rw [List.getElem?_map] at hp2;by_cases hi:i<c.po.toNat
  ·rw [List.getElem?_range hi] at hp2;obtain rfl:=Option.some.inj hp2;exact ⟨rfl,rfl⟩
  ·rw [List.getElem?_eq_none (by simp;omega)] at hp2;cases hp2
theorem pW {k:Kz} (h:eD k n):eD (xG k) (n+1):=by have h2:=h.mono (Nat.le_succ n);exact { h2 with dr:=by show 0≤k.dr+1∧k.dr+1≤((n+1:Nat):Int);have:=h.dr;omega }
theorem vR {k:Kz} (h:eD k n) (i:Nat) (ev:Int):eD (zH k i ev) n:=by
 unfold zH;cases hp:k.ls[i]? with
 | none=>exact h
 | some p=>
  dsimp only;split
  ·exact h
  ·have h1:eD { k with pa:=if oh p.st then eH k.c else k.pa } n:=h.pa' X9;exact h1.set (q:=tZ (dR p.st ev k.c.so) p) hp fun hin=>⟨hin.clear (vQ hin.st),rfl,rfl⟩
theorem bN.enter {p:Pt} (h:bN p) (c:Cf):bN (qV c p):=by
 refine { h with tr:=InT.zero,tq:=InT.zero,ta:=InT.one,ts:=InT.one,tk:=?_ };show InT (if c.pe then p.tk else 0);split
 ·exact h.tk
 ·exact InT.zero
theorem bN.wait {p:Pt} (h:bN p) (c:Cf):bN (mo c p):={ h with tr:=InT.clamp _ }
theorem bN.M4 {p:Pt} (h:bN p) {s:Int} (hs:1≤s∧s≤9):bN { p with tr:=0,tab:={ p.tab with l:=[] },kK:=[],st:=s }:=
 { h with st:=hs,tr:=InT.zero,tab:=fun r h=>absurd h (by simp),kK:=fun r h=>absurd h (by simp),ids:=fun r h=>absurd h (by simp) }
theorem bN.aged {p:Pt} (h:bN p) (now:Int):bN (gN now p):=by
 unfold gN;split
 ·exact { h with tab:=fun r hr=>h.tab r ((List.mem_filter.1 hr).1),kK:=fun r hr=>h.kK r ((List.mem_filter.1 hr).1),own:=h.own }
 ·exact h
theorem Qu (now:Int) (p:Pt):(gN now p).x=p.x∧(gN now p).y=p.y∧(gN now p).st=p.st:=by unfold gN;split <;> exact ⟨rfl,rfl,rfl⟩
theorem Qv {p:Pt} (h:bN p) (c:Cf):bN (zJ c p)∧(zJ c p).x.me=p.x.me∧(zJ c p).y.me=p.y.me:=by
 unfold zJ;split
 ·exact ⟨(h.M4 (vQ h.st)).enter c,rfl,rfl⟩
 ·exact ⟨(h.M4 (vQ h.st)).wait c,rfl,rfl⟩
theorem M5 {p:Pt} (h:bN p) (c:Cf) (now:Int):bN (countP c now p).1∧(countP c now p).1.x.me=p.x.me∧(countP c now p).1.y.me=p.y.me:=by
 have ha:=h.aged now;obtain ⟨e1,e2,e3⟩:=Qu now p;unfold countP;split
 ·refine ⟨{ h.wait c with st:=by show (1:Int)≤4∧(4:Int)≤9;omega,tk:=?_ },rfl,rfl⟩;show InT (if c.pe then 1 else p.tk);split
  ·exact InT.one
  ·exact h.tk
 ·split
  ·split
   ·obtain ⟨l1,l2,l3⟩:=Qv ha c;exact ⟨l1,by rw [l2,e1],by rw [l3,e2]⟩
   ·exact ⟨{ ha with tr:=h.tr.tick },by show (gN now p).x.me=_;rw [e1],by show (gN now p).y.me=_;rw [e2]⟩
  ·split
   ·split
    ·have hq:bN { gN now p with tq:=0,st:=6 }:={ ha with tq:=InT.zero,st:=by show (1:Int)≤6∧(6:Int)≤9;omega };exact ⟨hq.enter c,by show (gN now p).x.me=_;rw [e1],by show (gN now p).y.me=_;rw [e2]⟩
    ·exact ⟨{ ha with tq:=h.tq.tick },by show (gN now p).x.me=_;rw [e1],by show (gN now p).y.me=_;rw [e2]⟩
   ·exact ⟨ha,by rw [e1],by rw [e2]⟩
theorem DU {k:Kz} (h:eD k n):eD (xH k) n:=by have h1:eD { k with pa:=if k.ls.any (fun p=>(countP k.c k.tk p).2) then eH k.c else k.pa } n:=h.pa' X9;refine h1.go (ls:=k.ls.map fun p=>(countP k.c k.tk p).1) (by simp) ?_;intro i p q hp hq hin;have hp2:k.ls[i]? = some p:=hp;rw [List.getElem?_map,hp2] at hq;obtain rfl:=Option.some.inj hq;exact M5 hin k.c k.tk
theorem Ig {k:Kz} (h:eD k n):eD (zK k) n:={ h with tk:=by have:=h.tk;show 0≤min (k.tk+1) 1099511627776∧min (k.tk+1) 1099511627776≤1099511627776;omega }
theorem JF:DT (FC none):=by have z:=bV;have z2:=fU;have zu:=su;exact ⟨zu,z2,zu,z,z,z2,z,z,by have h1:(FC none).st=wrap64 (0+1):=rfl;rw [h1];unfold wrap64;omega,by show (-32768:Int)≤0∧(0:Int)≤32767;omega,by show (0:Int)≤0∧(0:Int)≤63;omega,z⟩
theorem JG {l:List Rc} (h:0≤l6 l):zA l ∈ l:=by
 unfold zA;rw [if_neg aJ];unfold l6 at h ⊢;have hr:=jo (l.map (·.v)) l.length;rcases hr with ⟨h0,h1⟩ | ⟨h0,h1⟩
 ·omega
 ·rw [List.getD_eq_getElem?_getD,List.getElem?_eq_getElem aJ];exact List.getElem_mem _
theorem DV {p:Pt} (h:bN p) {r:Rc} (hr:iP now p=some r):MX r:=by
 unfold iP at hr;split at hr
 ·rename_i hb;obtain rfl:=Option.some.inj hr;simp only [Bool.and_eq_true,decide_eq_true_eq] at hb;exact h.tab _ ((List.mem_filter.1 (JG hb.2)).1)
 ·cases hr
theorem Ih (Q:Pa→Prop):∀(l:List (Int×Option Rc)) (a:Pa),Q a→(∀x ∈ l,Q (FC x.2))→Q (l.foldl (fun a x=>if x.1=6 then FC x.2 else a) a)
 | [],a,h,_=>h
 | x::l,a,h,hl=>by
  rw [List.foldl_cons]
  refine Ih Q l _ ?_ fun y hy=>hl y (List.mem_cons_of_mem _ hy)
  split
  ·exact hl x List.mem_cons_self
  ·exact h
theorem Ii {k:Kz} (h:eD k n):DT (qW k):=by
 unfold qW;refine Ih DT _ _ (Ah h.cf h.cl) ?_;intro x hx;have hx2:=(List.of_mem_zip hx).2;obtain ⟨p,hp,he⟩:=List.mem_map.1 hx2;rw [←he];cases hb:iP k.tk p with
 | none=>exact JF
 | some r=>exact Qm (DV (h.me p hp) hb)
theorem Qw {p:Pt} (h:bN p) (c:Cf) (steps s:Int) (hs:1≤s∧s≤9):bN (qw c steps s p)∧(qw c steps s p).x.me=p.x.me∧(qw c steps s p).y.me=p.y.me:=by
 have htk:InT (if c.pe then p.tk else 0):=by split;exact h.tk;exact InT.zero
 have hq:bN { p with m:=j3,x:={ p.x with out:=none },df:=none,tr:=0,tq:=0,ta:=0,ts:=0,tk:=if c.pe then p.tk else 0,st:=s }:=
  { h with st:=hs,tr:=InT.zero,tq:=InT.zero,ta:=InT.zero,ts:=InT.zero,tk:=htk,ms:=fun _ _ h=>qx,mf:=fun _ h=>qx,x:=fun _ _ h=>qx,df:=fun _ h=>qx }
 unfold qw;dsimp only;split
 ·exact ⟨hq.enter c,rfl,rfl⟩
 ·split
  ·exact ⟨{ hq with tq:=InT.clamp _ },rfl,rfl⟩
  ·refine ⟨{ hq.wait c with tk:=?_ },rfl,rfl⟩;show InT (if s=8∧c.pe=false then 1 else if c.pe then p.tk else 0);split
   ·exact InT.one
   ·exact htk
theorem M6 {p:Pt} (h:bN p) (c:Cf) (steps:Int) (same:Bool) (d:Int):bN (dX c steps same d p)∧(dX c steps same d p).x.me=p.x.me∧(dX c steps same d p).y.me=p.y.me:=by
 unfold dX;split
 ·exact ⟨h,rfl,rfl⟩
 ·split
  ·exact Qw h c steps _ (Qt h.st)
  ·exact ⟨h,rfl,rfl⟩
theorem JH {k:Kz} (h:eD k n):eD (pV k) n:=by
 have h1:eD { k with fl:=if oG k then k.fl else (k.fl.1,[]),de:=if oG k then k.de else none,pa:=qW k } n:=by
  refine { h with pa:=Ii h,fl:=?_,Wv:=?_,de:=?_ }
  ·show LM (if oG k then k.fl else (k.fl.1,[]));split
   ·exact h.fl
   ·exact ⟨h.fl.1,h.fl.2.1,Nat.zero_le _⟩
  ·show ∀v ∈ (if oG k then k.fl else (k.fl.1,[])).2,lD v;split
   ·exact h.Wv
   ·intro v hv;cases hv
  ·show ∀d,(if oG k then k.de else none)=some d→lD d;split
   ·exact h.de
   ·intro d hd;cases hd
 refine h1.go (ls:=(k.ls.zip (gI k)).map fun x=>dX k.c (qW k).st (oG k) x.2 x.1) (by show _=k.ls.length;rw [List.length_map,List.length_zip,oH,Nat.min_self]) ?_;intro i p q hp hq hin;have hp2:k.ls[i]? = some p:=hp;rw [List.getElem?_map] at hq;cases hz:(k.ls.zip (gI k))[i]? with
 | none=>rw [hz] at hq;cases hq
 | some x=>rw [hz] at hq;obtain rfl:=Option.some.inj hq;obtain ⟨z1,z2⟩:=List.getElem?_zip_eq_some.1 hz;rw [hp2] at z1;obtain rfl:=Option.some.inj z1;exact M6 hin _ _ _ _
theorem xK {k:Kz} (h:eD k n):eD (iR k) n:=by
 unfold iR;split
 ·exact JH h
 ·exact h
theorem FU {k:Kz} {p:Pt} (h:bN p):bN (eX k i p).1∧(eX k i p).1.x.me=p.x.me∧(eX k i p).1.y.me=p.y.me:=by
 unfold eX;split
 ·split
  ·exact ⟨{ h with na:=qg.next _,ta:=InT.clamp _ },rfl,rfl⟩
  ·exact ⟨{ h with ta:=h.ta.tick },rfl,rfl⟩
 ·exact ⟨h,rfl,rfl⟩
theorem FV {k:Kz} {p:Pt} (h:bN p):bN (ig k i now p).1∧(ig k i now p).1.x.me=p.x.me∧(ig k i now p).1.y.me=p.y.me:=by
 unfold ig;split
 ·split
  ·exact ⟨{ h with ns:=qg.next _,ts:=InT.clamp _ },rfl,rfl⟩
  ·exact ⟨{ h with ts:=h.ts.tick },rfl,rfl⟩
 ·exact ⟨h,rfl,rfl⟩
theorem M7 {k:Kz} {p:Pt} (h:bN p):bN (jk k i p).1∧(jk k i p).1.x.me=p.x.me∧(jk k i p).1.y.me=p.y.me:=by
 unfold jk;split
 ·split
  ·split
   ·exact ⟨{ h with x:=h.x,yw:=fun _ h=>qx,yh:=fun _ _ h=>qx,nk:=qg.next _,tk:=InT.clamp _ },rfl,rfl⟩
   ·refine ⟨{ h with x:=?_,yw:=h.yw,yh:=h.yh,nk:=qg.next _,tk:=InT.clamp _ },rfl,rfl⟩;intro s t h2;have h3:(some (p.nk % 65536,none):Option (Int×Option Int))=some (s,some t):=h2;simp at h3
  ·exact ⟨{ h with tk:=h.tk.tick },rfl,rfl⟩
 ·exact ⟨h,rfl,rfl⟩
theorem Qx {k:Kz} (h:eD k n) (now:Int):eD (Ib k now).1 n:=by refine h.go (ls:=k.ls.mapIdx fun i p=>(dI k i now p).1) (by simp) ?_;intro i p q hp hq hin;rw [List.getElem?_mapIdx,hp] at hq;obtain rfl:=Option.some.inj hq;obtain ⟨a1,a2,a3⟩:=FU (k:=k) (i:=i) hin;obtain ⟨b1,b2,b3⟩:=FV (k:=k) (i:=i) (now:=now) a1;obtain ⟨c1,c2,c3⟩:=M7 (k:=k) (i:=i) b1;exact ⟨c1,by show (jk k i (ig k i now (eX k i p).1).1).1.x.me=_;rw [c2,b2,a2],by show (jk k i (ig k i now (eX k i p).1).1).1.y.me=_;rw [c3,b3,a3]⟩
theorem Qy {k:Kz} (h:eD k n) (now:Int):eD (xI k now).1 n:=Qx (xK (DU (Ig h))) now
theorem Qz {k:Kz} (h:eD k n) (i:Nat) (ty sq now:Int) (nN:fO now):eD (MB k i ty sq now).1 n:=by
 unfold MB;cases hp:k.ls[i]? with
 | none=>exact h
 | some p=>
  dsimp only;split
  ·exact h
  ·split
   ·refine h.set hp fun hin=>⟨{ hin with x:=?_ },?_,rfl⟩
    ·intro s t h2;have h3:(Db p.x sq now).out=some (s,some t):=h2;unfold Db at h3;split at h3
     ·simp at h3;rw [←h3.2];exact nN
     ·exact hin.x s t h3
    ·show (Db p.x sq now).me=_;unfold Db;split <;> rfl
   ·split
    ·refine h.set hp fun hin=>⟨{ hin with yw:=?_,yh:=?_ },rfl,?_⟩
     ·intro t h2;have h3:(qP p.y sq now).went=some t:=h2;unfold qP at h3;split at h3
      ·simp at h3;rw [←h3];exact nN
      ·exact hin.yw t h3
     ·intro r t h2;have h3:(qP p.y sq now).held=some (r,t):=h2;unfold qP at h3;split at h3 <;> exact hin.yh r t h3
     ·show (qP p.y sq now).me=_;unfold qP;split <;> rfl
    ·split <;> exact h
theorem BX {a s c:Int} (ha:fO a) (hs:fO s) (hc : -9223372036854775808≤c∧c≤9223372036854775807):lD (zB a s c):=by rw [PK ha hs hc];unfold fO at ha hs;unfold lD;omega
theorem iB.st {m:Hd×Bd} (h:iB m):fO m.2.st:=by have h1:=h.1;unfold iE at h1;simp only [Bool.and_eq_true] at h1;have:=h1.2.2.1;unfold qh at this;exact (decide_eq_true_eq.mp this:0≤m.2.st∧m.2.st≤4000000000000000)
theorem iB.hd {m:Hd×Bd} (h:iB m):CU m.1:=h.2.1
theorem oN:lD 0:=by unfold lD;omega
theorem xL (a b:Int) : -9223372036854775808≤EJ a b∧EJ a b≤9223372036854775807:=by unfold EJ;omega
theorem QA {p:Pt} (h:bN p) {m:Hd×Bd} (hm:iB m) {now:Int} (hn:fO now):lD (zL p.m m now):=by
 unfold zL;split
 ·unfold Si;split
  ·exact oN
  ·cases hs:p.m.s with
   | none=>exact oN
   | some x=>
    obtain ⟨y,t⟩:=x;dsimp only;split
    ·exact BX (h.ms y t hs).2 hm.st (xL _ _)
    ·exact oN
 ·unfold Sd;split
  ·exact oN
  ·split
   ·exact BX hn hm.st hm.2.1.2.2
   ·cases hs:p.m.f with
    | none=>exact oN
    | some y=>
     dsimp only;split
     ·exact BX hn (h.mf y hs).st (xL _ _)
     ·exact oN
theorem Vi {p:Pt} (h:bN p) {m:Hd×Bd} (hm:iB m) {now:Int} (hn:fO now):(∀x t,(uY p.m m now).s=some (x,t)→iB x∧fO t)∧(∀y,(uY p.m m now).f=some y→iB y):=by
 unfold uY Sg Sc;repeat' split
 all_goals first
  | exact ⟨h.ms,h.mf⟩
  | exact ⟨fun _ _ h=>qx,fun _ h=>qx⟩
  | (refine ⟨h.ms,fun y hy=>?_⟩;obtain rfl:=Option.some.inj hy;exact hm)
  | (refine ⟨fun x t hx=>?_,h.mf⟩;have hx2:=Option.some.inj hx;cases hx2;exact ⟨hm,hn⟩)
theorem JI {k:Kz} (h:eD k n) (hn:n<jQ) (i:Nat) (o:Int) (ho : -10000000000000000≤o∧o≤10000000000000000):eD (BA k i o).1 (n+1):=by
 have hS:EU k.sv:=by obtain ⟨⟨a1,a2,a3,a4,a5,a6,a7⟩,a8,a9⟩:=h.sv;exact ⟨a1,a2,a3,a4,a5,a6,a8,by unfold jQ at hn;omega⟩
 have hlt:k.sv.cm<4611686018427387904:=by have:=h.sv.2.2;unfold jQ at hn;omega
 have hN:=Uv (o:=o) (i:=Bz k.c) hS hlt;have hcm:(PN k.sv o (Bz k.c)).cm≤((n+1:Nat):Int):=by
  have:=h.sv.2.2;have h0:=h.sv.2.1;unfold PN;split
  ·show (0:Int)≤_;omega
  ·show (if Uu o then k.sv.cm+1 else 0)≤_;split <;> omega
 have hN':EU { PN k.sv o (Bz k.c) with cm:=0 }:=⟨hN.1,hN.2.1,hN.2.2.1,hN.2.2.2.1,hN.2.2.2.2.1,hN.2.2.2.2.2.1,by show (0:Int)≤0∧(0:Int)≤4611686018427387904;omega⟩;have h2:=h.mono (Nat.le_succ n);have hsel:∀(p:Pt),bN p→bN (ME k.c.so p):=fun p hp=>{ hp with st:=(vQ hp.st:1≤dR p.st 6 k.c.so∧dR p.st 6 k.c.so≤9) };have hbare:∀(p:Pt),bN p→bN (MC p):=fun p hp=>{ hp with ms:=fun _ _ h=>qx,mf:=fun _ h=>qx,x:=fun _ _ h=>qx,yw:=fun _ h=>qx,yh:=fun _ _ h=>qx,df:=fun _ h=>qx };unfold BA;split
 ·have h3:eD { k with off:=o,sv:=PN k.sv o (Bz k.c),fl:=(k.fl.1,[]),de:=none } (n+1):=
   { h2 with off:=ho,sv:=⟨hN',hN.2.2.2.2.2.2.1,hcm⟩,fl:=⟨h.fl.1,h.fl.2.1,Nat.zero_le _⟩,Wv:=fun v hv=>(by cases hv),de:=fun d hd=>(by cases hd) }
  refine h3.go (ls:=(k.ls.map MC).modify i (ME k.c.so)) (by simp) ?_;intro j p q hp hq hin;have hp2:k.ls[j]? = some p:=hp;rw [List.getElem?_modify,List.getElem?_map,hp2] at hq;simp only [Option.map_eq_map,Option.map_some] at hq;by_cases e:i=j
  ·rw [if_pos e] at hq;obtain rfl:=Option.some.inj hq;exact ⟨hsel _ (hbare p hin),rfl,rfl⟩
  ·rw [if_neg e] at hq;obtain rfl:=Option.some.inj hq;exact ⟨hbare p hin,rfl,rfl⟩
 ·have h3:eD { k with off:=o,sv:=PN k.sv o (Bz k.c) } (n+1):={ h2 with off:=ho,sv:=⟨hN',hN.2.2.2.2.2.2.1,hcm⟩ };refine h3.go (ls:=k.ls.modify i (ME k.c.so)) (by simp) ?_;intro j p q hp hq hin;have hp2:k.ls[j]? = some p:=hp;rw [List.getElem?_modify,hp2] at hq;simp only [Option.map_eq_map,Option.map_some] at hq;by_cases e:i=j
  ·rw [if_pos e] at hq;obtain rfl:=Option.some.inj hq;exact ⟨hsel _ hin,rfl,rfl⟩
  ·rw [if_neg e] at hq;obtain rfl:=Option.some.inj hq;exact ⟨hin,rfl,rfl⟩
theorem M8 {k:Kz} (h:eD k n) {p:Pt} (hp:bN p) {q:Int} (hq:BD k p=some q):lD q:=by
 unfold BD at hq;split at hq
 ·exact hp.pr q hq
 ·exact h.de q hq
theorem Vj {a b:Int} (ha:lD a) (hb:lD b) : -10000000000000000≤a - b∧a - b≤10000000000000000:=by unfold lD at ha hb;omega
theorem JJ {k:Kz} (h:eD k n) (hn:n<jQ) {i:Nat} {p:Pt} (hp:k.ls[i]? = some p) {m:Hd×Bd} (hm:iB m) {now:Int} (nN:fO now):eD (BF k i p m now).1 (n+1):=by
 have hin:=h.at hp;obtain ⟨s1,s2⟩:=Vi hin hm nN;have hd:=QA hin hm nN
 have h1:eD { k with ls:=k.ls.set i { p with m:=uY p.m m now,df:=some (zL p.m m now) } } n:=
  by
   refine h.set hp fun hin=>⟨?_,rfl,rfl⟩
   exact { hin with ms:=s1,mf:=s2,df:=fun a ha=>(by obtain rfl:=Option.some.inj ha;exact hd) }
 unfold BF;split
 ·split
  ·cases hq:BD k p with
   | none=>exact h1.mono (Nat.le_succ n)
   | some q=>exact JI h1 hn i _ (Vj hd (M8 h hin hq))
  ·have h3:eD { k with ls:=k.ls.set i { p with m:=uY p.m m now } } n:=by refine h.set hp fun hin=>⟨?_,rfl,rfl⟩;exact { hin with ms:=s1,mf:=s2 }
   exact h3.mono (Nat.le_succ n)
 ·exact h.mono (Nat.le_succ n)
theorem uf (x:Int):∀l,(JA x l).Perm (x::l)
 | []=>.refl _
 | y::t=>by
  unfold JA
  split
  ·exact .refl _
  ·exact ((uf x t).cons y).trans (.swap x y t)
theorem xM:∀l,(DF l).Perm l
 | []=>.refl _
 | x::t=>(uf x (DF t)).trans ((xM t).cons x)
theorem Ij {x:Int}:∀{l:List Int},l.Pairwise (· ≤ ·)→(JA x l).Pairwise (· ≤ ·)
 | [],_=>List.pairwise_singleton _ _
 | y::t,h=>by
  obtain ⟨h1,h2⟩:=List.pairwise_cons.1 h
  unfold JA
  split
  ·rename_i hxy
   refine List.pairwise_cons.2 ⟨fun z hz=>?_,h⟩
   rcases List.mem_cons.1 hz with rfl | hz
   ·exact hxy
   ·have:=h1 z hz;omega
  ·rename_i hxy
   refine List.pairwise_cons.2 ⟨fun z hz=>?_,Ij h2⟩
   rcases List.mem_cons.1 ((uf x t).mem_iff.1 hz) with rfl | hz
   ·omega
   ·exact h1 z hz
theorem DW:∀l,(DF l).Pairwise (· ≤ ·)
 | []=>List.Pairwise.nil
 | x::t=>Ij (DW t)
theorem QB {l:List Int} (h:0<l.length):qA l (U4 l):=by have hp:=xM l;have h1:=(AA (DW l) (by rw [hp.length_eq];exact h)).perm hp;unfold U4;rw [←hp.length_eq];exact h1
theorem M9 {l:List Int} {v x:Int} (h:x ∈ AB n l v):x ∈ l∨x=v:=by
 unfold AB at h;have:x ∈ l++[v]:=by
  split at h
  ·exact List.mem_of_mem_drop h
  ·exact h
 simpa using this
theorem QC {a b:Int} (h:U7 a b=true):lD ((a+b) / 2):=by unfold U7 at h;simp only [Bool.and_eq_true,decide_eq_true_eq] at h;unfold lD;omega
theorem QD (x:Xs) (m:Hd×Bd):(wZ x m).me=x.me∧(wZ x m).dm=x.dm:=by unfold wZ;split <;> exact ⟨rfl,rfl⟩
theorem Vk {p:Pt} (h:bN p) (m:Hd×Bd):∀s t,(wZ p.x m).out=some (s,some t)→fO t:=by
 intro s t h2;unfold wZ at h2;split at h2
 ·cases h2
 ·exact h.x s t h2
theorem DX {k:Kz} (h:eD k n) {i:Nat} {p:Pt} (hp:k.ls[i]? = some p) (m:Hd×Bd):eD (t_ k i p m) n:=by
 have h1:eD { k with ls:=k.ls.set i { p with x:=wZ p.x m } } n:=by refine h.set hp fun hin=>⟨?_,(QD p.x m).1,rfl⟩;exact { hin with x:=Vk hin m }
 unfold t_;split
 ·dsimp only;split
  ·rename_i a ha;split
   ·rename_i hb;simp only [Bool.and_eq_true] at hb;have hw:=QC hb.2;have hv:∀v ∈ AB k.fl.1 k.fl.2 ((a+He p.x m) / 2),lD v:=by
     intro v hv;rcases M9 hv with hv | rfl
     ·exact h.Wv v hv
     ·exact hw
    refine { h1 with fl:=h.fl.put _,Wv:=hv,de:=?_ };intro d hd;obtain rfl:=Option.some.inj hd;exact hv _ (QB (Hw _ h.fl.1 _ _ h.fl.2.2).1).1
   ·exact h1
  ·exact h1
 ·exact h
theorem QE {p:Pt} (h:bN p) {m:Hd×Bd} (hm:iB m):lD (Ht p.y m):=by
 unfold Ht;split
 ·rename_i t r c hw hh;split
  ·have h1:=h.yw t hw;obtain ⟨h2,h3⟩:=h.yh r c hh;have h4:=hm.st;have h5:=h2.st;have h6:=xL r.1.co m.1.co;unfold fO at *;generalize EJ r.1.co m.1.co=A at *;unfold wrap64 lD;omega
  ·exact oN
 ·exact oN
theorem QF {k:Kz} (h:eD k n) {i:Nat} {p:Pt} (hp:k.ls[i]? = some p) {m:Hd×Bd} (hm:iB m) {now:Int} (nN:fO now):eD (MF k i p m now).1 n:=by
 unfold MF;split
 ·exact h
 ·split
  ·split
   ·refine h.set hp fun hin=>⟨?_,rfl,rfl⟩;exact { hin with last:=fun x hx=>(by obtain rfl:=Option.some.inj hx;exact hm) }
   ·exact h
  ·split
   ·refine h.set hp fun hin=>⟨{ hin with yw:=?_,yh:=?_ },rfl,?_⟩
    ·intro t h2;have h3:(xg p.y m now).went=some t:=h2;unfold xg at h3;repeat' split at h3
     all_goals exact hin.yw t h3
    ·intro r t h2;have h3:(xg p.y m now).held=some (r,t):=h2;unfold xg at h3;repeat' split at h3
     ·have h4:=Option.some.inj h3;cases h4;exact ⟨hm,nN⟩
     ·exact hin.yh r t h3
     ·exact hin.yh r t h3
    ·show (xg p.y m now).me=_;unfold xg;repeat' split
     all_goals rfl
   ·have hin:=h.at hp;have hd:=QE hin hm;refine h.set hp fun hin=>⟨{ hin with yw:=?_,yh:=?_,pr:=?_ },rfl,?_⟩
    ·intro t h2;have h3:(xk p.y m).went=some t:=h2;unfold xk at h3;split at h3
     ·cases h3
     ·exact hin.yw t h3
    ·intro r t h2;have h3:(xk p.y m).held=some (r,t):=h2;unfold xk at h3;split at h3
     ·cases h3
     ·exact hin.yh r t h3
    ·intro a ha;have ha2:(if Hq p.y m then some (max (Ht p.y m) 0) else p.pr)=some a:=ha;split at ha2
     ·obtain rfl:=Option.some.inj ha2;unfold lD at *;omega
     ·exact hin.pr a ha2
    ·show (xk p.y m).me=_;unfold xk;split <;> rfl
theorem xO (t:Ft) (h:Hd) (d:Bd) (now:Int):∀(l:List Rc) (m:Nat) (r:Rc),r ∈ (Dg t h d now l m).1→r ∈ l∨∃fi,r=PG t h d fi now
 | [],m,r,hr=>by
  unfold Dg at hr
  split at hr
  ·cases hr
  ·exact .inr ⟨_,List.mem_singleton.1 hr⟩
 | x::xs,m,r,hr=>by
  unfold Dg at hr
  split at hr
  ·split at hr
   ·exact .inl hr
   ·rcases List.mem_cons.1 hr with h1 | h1
    ·exact .inr ⟨_,h1⟩
    ·exact .inl (List.mem_cons_of_mem _ h1)
  ·rcases List.mem_cons.1 hr with h1 | h1
   ·exact .inl (h1▸List.mem_cons_self)
   ·rcases xO t h d now xs (m+1) r h1 with h2 | h2
    ·exact .inl (List.mem_cons_of_mem _ h2)
    ·exact .inr h2
theorem iB.fields {m:Hd×Bd} (h:iB m):(0≤m.1.dm∧m.1.dm≤255)∧(0≤m.1.fl∧m.1.fl≤65535)∧(0≤m.1.sp∧m.1.sp≤65535)∧(0≤m.1.sq∧m.1.sq≤65535)∧(0≤m.2.tp∧m.2.tp≤65535)∧(-32768≤m.2.ut∧m.2.ut≤32767)∧(0≤m.2.p1∧m.2.p1≤255)∧(0≤m.2.qc∧m.2.qc≤255)∧(0≤m.2.qa∧m.2.qa≤255)∧(0≤m.2.qv∧m.2.qv≤65535)∧(0≤m.2.p2∧m.2.p2≤255)∧(0≤m.2.sr∧m.2.sr≤65535)∧(0≤m.2.og∧m.2.og≤255)∧(0≤m.2.sh∧m.2.sh≤255)∧(0≤m.2.hp∧m.2.hp≤255)∧(0≤m.2.ac∧m.2.ac≤15):=by have h1:=h.1;unfold iE je tH fV at h1;simp only [Bool.and_eq_true,decide_eq_true_eq] at h1;obtain ⟨⟨⟨⟨⟨⟨-,a1⟩,a2⟩,a3⟩,a4⟩,a5⟩,-,-,a6,a7,a8,a9,O8,O9,a12,Wl,Xk,Xl⟩:=h1;obtain ⟨q1,q2,q3⟩:=Qr a9;exact ⟨a1,a2,a3,a4,a6,a7,a8,q1,q2,q3,O8,O9,a12,Wl,Xk,Xl⟩
theorem QG {t:Ft} {m:Hd×Bd} (hm:iB m) (fi now:Int) (hs:m.2.sr<255) (ho:0≤t.own∧t.own<18446744073709551616) (hp : -9223372036854775808≤t.port∧t.port≤9223372036854775807):MX (PG t m.1 m.2 fi now):=by obtain ⟨a1,a2,a3,a4,a5,a6,a7,a8,a9,O8,O9,a12,Wl,Xk,Xl,a16⟩:=hm.fields;obtain ⟨-,h1,-,h3,-⟩:=hm;obtain ⟨hh1,Jf,-⟩:=h1;exact ⟨a7,a8,a9,O8,O9,h3,⟨a12.1,hs⟩,⟨hh1,Jf⟩,a3,ho,hp,a6,by show 0≤m.1.fl % 64∧m.1.fl % 64≤63;omega,Wl⟩
theorem QH {t:Ft} {h:Hd} {d:Bd} (he:Hg t h d now=0):d.sr<255∧Ho t h d now={ t with l:=(Dg t h d now t.l 0).1 }:=by
 unfold Hg at he;unfold Ho;split at he
 ·cases he
 ·rename_i h1;split at he
  ·cases he
  ·rename_i h2;split at he
   ·cases he
   ·rename_i h3;rw [if_neg h1,if_neg h2,if_neg h3];exact ⟨by omega,rfl⟩
theorem JK (q:T2):(rY q).1.length≤50∧∀z ∈ (rY q).1,0≤z∧z<18446744073709551616:=by
 unfold rY;split
 ·rename_i h;refine ⟨by rw [Bv];omega,fun z hz=>?_⟩;unfold Ia at hz;obtain ⟨j,-,rfl⟩:=List.mem_map.1 hz;exact Vg _ _
 ·exact ⟨by simp,fun z hz=>absurd hz (by simp)⟩
theorem M_ {k:Kz} {n:Nat} {p q:Pt} {m:Hd×Bd} {l:List T2} (hin:bN p) (hm:iB m) (h:FD k p m l=some q):bN q∧q.x.me=p.x.me∧q.y.me=p.y.me:=by
 unfold FD at h;dsimp only at h;split at h
 ·cases h
 ·split at h
  ·cases h
  ·rename_i he;have he:Hg p.tab m.1 m.2 k.tk=0:=Decidable.byContradiction he;obtain ⟨hs,hT⟩:=QH he;have hP:=JK (xE l 8).1;have hq:bN { p with tab:=Ho p.tab m.1 m.2 k.tk,kK:=((m.1.sc,m.1.sp),(rY (xE l 8).1).1)::p.kK.filter (fun x=>!(x.1.1 == m.1.sc && x.1.2 == m.1.sp)) }:=by
    rw [hT];refine { hin with tab:=?_,kK:=?_,ids:=?_,own:=hin.own }
    ·intro r hr;rcases xO _ _ _ _ _ _ _ hr with h1 | ⟨fi,rfl⟩
     ·exact hin.tab r h1
     ·exact QG hm fi k.tk hs hin.own.1 hin.own.2
    ·intro r hr;by_cases e:r.v.sc=m.1.sc∧r.v.sp=m.1.sp
     ·exact ⟨_,List.mem_cons_self,by rw [e.1,e.2]⟩
     ·rcases xO _ _ _ _ _ _ _ hr with h1 | ⟨fi,rfl⟩
      ·obtain ⟨x,hx,hk⟩:=hin.kK r h1;refine ⟨x,List.mem_cons_of_mem _ (List.mem_filter.2 ⟨hx,?_⟩),hk⟩;rw [hk];simp only [Bool.not_eq_true',Bool.and_eq_false_iff,beq_eq_false_iff_ne];by_cases e1:r.v.sc=m.1.sc
       ·exact .inr fun e2=>e ⟨e1,e2⟩
       ·exact .inl e1
      ·exact absurd ⟨rfl,rfl⟩ e
    ·intro x hx;rcases List.mem_cons.1 hx with rfl | hx
     ·exact hP
     ·exact hin.ids x ((List.mem_filter.1 hx).1)
   obtain rfl:=Option.some.inj h;split
   ·exact ⟨hq.wait k.c,rfl,rfl⟩
   ·exact ⟨hq,rfl,rfl⟩
theorem Na {k:Kz} (h:eD k n) (i j:Nat) (m:Hd×Bd) (id:Int) (data:List UInt8) (now:Int):eD (FH k i j m id data now).1.1 n:=by
 unfold FH;cases k.ls[j]? with
 | none=>exact h
 | some p=>
  dsimp only;have hc:eD { k with c:=(EY (MG k j p now) m.2.ac id data).c } n:=h.conf (MJ (MG k j p now) m.2.ac id data);split
  ·exact hc
  ·split
   ·exact hc
   ·show eD (if id=8205 then _ else _) n;split
    ·exact vR hc _ _
    ·split
     ·exact vR hc _ _
     ·exact hc
theorem xP (i:Nat) (m:Hd×Bd) (id:Int) (data:List UInt8) (now:Int) {n:Nat}:∀(js:List Nat) (k:Kz),eD k n→eD (xJ k i m id data now js).1.1 n
 | [],k,h=>h
 | j::js,k,h=>xP i m id data now js _ (Na h i j m id data now)
theorem JL {k:Kz} (h:eD k n) (i:Nat) (m:Hd×Bd) (l:List T2) (now:Int):eD (BG k i m l now).1 n:=by
 unfold BG;dsimp only;split
 ·exact h
 ·split
  ·exact h
  ·have h1:=xP i m ((pU (xE l 1).1).1:Int) (pU (xE l 1).1).2.1 now (MI k i m ((pU (xE l 1).1).1:Int)) k h;show eD (if _ then _ else _) n;split
   ·exact (sw h1.cf h1.cl).mono (Nat.zero_le n)
   ·exact h1
theorem Nb {k:Kz} (h:eD k n) (hn:n<jQ) (i:Nat) (b:List UInt8) (now:Int) (nN:fO now):eD (FI k i b now).1 (n+1):=by
 unfold FI;cases hp:k.ls[i]? with
 | none=>exact pW h
 | some p=>
  dsimp only;split
  ·exact pW h
  ·split
   ·exact pW h
   ·rename_i hne;have he:DC b k.c.dm=0:=Decidable.byContradiction fun h=>hne (.inl h);obtain ⟨hm,-⟩:=Qs he;have hin:=h.at hp;split
    ·split
     ·rename_i q hq;exact (h.set hp fun _=>M_ (n:=n) hin hm hq).mono (Nat.le_succ n)
     ·exact pW h
    ·split
     ·exact JJ h hn hp hm nN
     ·split
      ·exact h.mono (Nat.le_succ n)
      ·split
       ·exact (DX h hp _).mono (Nat.le_succ n)
       ·split
        ·exact (QF h hp hm nN).mono (Nat.le_succ n)
        ·split
         ·exact (JL h i _ _ now).mono (Nat.le_succ n)
         ·exact h.mono (Nat.le_succ n)
theorem QI {k:Kz} (h:eD k n) (hn:n<jQ) (e:Ev) (he:ML e):eD (r9 k e).1 (n+1):=by
 have hle:=Nat.le_succ n;have hc:=fO.cut e.nw;unfold r9;split
 ·exact (Qy h _).mono hle
 ·split
  ·split
   ·exact Nb h hn _ _ _ hc
   ·exact pW h
  ·split
   ·split
    ·exact (Qz h _ _ _ _ hc).mono hle
    ·exact h.mono hle
   ·split
    ·exact (sw h.cf h.cl).mono (Nat.zero_le _)
    ·split
     ·split
      ·rename_i h1;refine (sw ?_ he.2.2.1).mono (Nat.zero_le _);have h2:=h1.1;unfold bP at h2;split at h2
       ·assumption
       ·cases h2
      ·exact pW h
     ·split
      ·show eD (if _ then _ else _) _;split
       ·exact (vR h _ _).mono hle
       ·exact h.mono hle
      ·split
       ·show eD (if _ then _ else _) _;split
        ·exact (vR h _ _).mono hle
        ·exact h.mono hle
       ·exact h.mono hle
structure Mm where
 s:Hd×Bd
 f:Hd×Bd
 ta:Int
 hs:Bool
 hf:Bool
def mmL (q:Mm):List Value:=eu.enc q.s++eu.enc q.f++[.int .i64 q.ta,.bool q.hs,.bool q.hf]
def mmK:RowK Mm:=⟨mmL,49,by decide,fun _=>rfl,by
 intro q v hv
 unfold mmL at hv
 rcases List.mem_append.1 hv with hv | hv
 ·rcases List.mem_append.1 hv with hv | hv
  ·exact eu.one _ v hv
  ·exact eu.one _ v hv
 ·simp only [List.mem_cons,List.not_mem_nil,or_false] at hv
  rcases hv with rfl | rfl | rfl <;> rfl⟩
def msOf (q:Mm):Ms:=⟨if q.hs then some (q.s,q.ta) else none,if q.hf then some q.f else none⟩
def RM (xs:List Value) (m:Ms):Prop:=∃q:Mm,xs=mmK.enc q∧m=msOf q∧CU q.s.1∧CU q.f.1
section
structure Hf where
 sq:Int
 sc:Int
 sp:Int
 tm:Int
 co:Int
 hl:Bool
def nmL (q:Hf):List Value:=[.int .i64 q.sq,.int .u64 q.sc,.int .i64 q.sp]
def Wy (q:Hf):List Value:=[.int .i64 q.sq,.int .u64 q.sc,.int .i64 q.sp,.int .i64 q.tm,.int .i64 q.co,.bool q.hl]
def nmK:RowK Hf:=⟨nmL,3,by decide,fun _=>rfl,by
 intro q v hv
 simp only [nmL,List.mem_cons,List.not_mem_nil,or_false] at hv
 rcases hv with rfl | rfl | rfl <;> rfl⟩
def Vl:RowK Hf:=⟨Wy,6,by decide,fun _=>rfl,by
 intro q v hv
 simp only [Wy,List.mem_cons,List.not_mem_nil,or_false] at hv
 rcases hv with rfl | rfl | rfl | rfl | rfl | rfl <;> rfl⟩
def Nc:Hf:=⟨0,0,0,0,0,false⟩
def Nf:RowK (Hf×Hf):=⟨fun q=>Vl.enc q.1++Vl.enc q.2,12,by decide,fun _=>rfl,by
 intro q v hv
 rcases List.mem_append.1 hv with hv | hv
 ·exact Vl.one _ v hv
 ·exact Vl.one _ v hv⟩
def oO:Hf×Hf:=(Nc,Nc)
theorem mtT:dB Nf 256:=⟨⟨_,underlying256,rfl⟩,by kernel_rfl⟩
def Sz (x:Hd×Bd) (t:Int):Hf:=⟨x.1.sq,x.1.sc,x.1.sp,t,x.1.co,true⟩
theorem ak.name {q:Hf} (h:ak w g (Vl.enc q) t):w.rangeAt g 0 (nmK.enc q):=ak.bB [] (nmL q) [.int .i64 q.tm,.int .i64 q.co,.bool q.hl] h
theorem ak.left {q:Hf×Hf} (h:ak w g (Nf.enc q) t):w.rangeAt g 0 (Vl.enc q.1):=ak.bB [] (Wy q.1) (Wy q.2) h
theorem ak.right {q:Hf×Hf} (h:ak w g (Nf.enc q) t):w.rangeAt g 6 (Vl.enc q.2):=ak.bB (Wy q.1) (Wy q.2) [] K4
theorem BZ:YC:=by
 intro v w h;have hm:bits .and .i64 v 65535=v % 65536:=lN v 16 aX;have h1:wrap64 (v % 65536+1)=v % 65536+1:=by exact wE
 have hm2:bits .and .i64 (v % 65536+1) 65535=bR v:=(lN (v % 65536+1) 16 aX).trans (by unfold bR;omega);go_enter func132,ntmps132;exact EC
def Zg (a:Hf) (m:Option ((Hd×Bd)×Int)):Prop:=match m with
 | none=>a.hl=false
 | some (y,t)=>a=Sz y t∧CU y.1
def Zh (b:Hf) (m:Option (Hd×Bd)):Prop:=match m with
 | none=>b.hl=false
 | some y=>b=Sz y y.2.st∧CU y.1
def Zi (xs:List Value) (m:Ms):Prop:=∃q:Hf×Hf,xs=Nf.enc q∧Zg q.1 m.s∧Zh q.2 m.f
theorem Ik (h:ak w g (Nf.enc oO) 256):Wo Zi w g j3:=⟨_,h,oO,rfl,rfl,rfl⟩
theorem QJ:YD Zi:=by intro w;have e:=ak.new w (Nf.enc oO) 256;have nb:=aA w (Obj.cells (Nf.enc oO).toArray 256);go_enter func99,ntmps99;go_wp2_with (refine aD 1 ?_;refine aB (Nf.enc oO).toArray ?_);go_ret;exact ⟨_,rfl,Nat.le_refl _,Ik e,nb⟩
theorem JM (g:Nat) (q:Hf×Hf) (w:World) (hB:ak w g (Nf.enc q) 256):Calls prog 213 #[.pointer (some ⟨g,0,none⟩)] w fun e w'=>e=.returned (.tuple #[])∧ak w' g (Nf.enc oO) 256∧Only g w w':=by go_enter func213,ntmps213;go_wp2_with (first | (refine aD 3 ?_;refine aB (Nf.enc oO).toArray ?_) | (refine aN ?_;refine mtT.aS (g) (oO) (q) hB ?_));go_end0;exact ⟨rfl,hB.fB _,(Only.refl g w).row _⟩
theorem QK:YE Zi:=by rintro g m w ⟨xs,hB,q,rfl,-,-⟩;refine (JM g q w hB).mono ?_;rintro e w' ⟨rfl,hB2,ho⟩;exact ⟨rfl,Ik hB2,ho⟩
section
variable {m:Ms} {x:Hd×Bd} {at':Int} {a b:Hf}
end
end
structure Xq where
 me:Int×Int
 dm:Int
 out:Bool
 went:Bool
 sq:Int
 ta:Int
def xqK:RowK Xq:=⟨fun q=>[.int .u64 q.me.1,.int .i64 q.me.2,.int .i64 q.dm,.bool q.out,.bool q.went,.int .i64 q.sq,.int .i64 q.ta],7,by decide,fun _=>rfl,by
 intro q v hv
 simp only [List.mem_cons,List.not_mem_nil,or_false] at hv
 rcases hv with rfl | rfl | rfl | rfl | rfl | rfl | rfl <;> rfl⟩
def xsOf (q:Xq):Xs:=⟨q.me,q.dm,if q.out then some (q.sq,if q.went then some q.ta else none) else none⟩
def RX (xs:List Value) (x:Xs):Prop:=∃q:Xq,xs=xqK.enc q∧x=xsOf q∧(q.went=true→q.out=true)
structure Rq where
 sq:Int
 out:Bool
 went:Bool
 ta:Int
def Wz (r:Rq):List Value:=[.int .i64 r.sq,.bool r.out,.bool r.went,.int .i64 r.ta]
def SA:RowK Rq:=⟨Wz,4,by decide,fun _=>rfl,by
 intro q v hv
 simp only [Wz,List.mem_cons,List.not_mem_nil,or_false] at hv
 rcases hv with rfl | rfl | rfl | rfl <;> rfl⟩
def oQ:Rq:=⟨0,false,false,0⟩
structure Ex where
 me:Int×Int
 dm:Int
 r:Rq
def KH:RowK Ex:=⟨fun q=>[.int .u64 q.me.1,.int .i64 q.me.2,.int .i64 q.dm]++Wz q.r,7,by decide,fun _=>rfl,by
 intro q v hv
 rcases List.mem_append.1 hv with hv | hv
 ·simp only [List.mem_cons,List.not_mem_nil,or_false] at hv
  rcases hv with rfl | rfl | rfl <;> rfl
 ·exact SA.one _ v hv⟩
theorem rqT:dB SA 226:=⟨⟨_,underlying226,rfl⟩,by kernel_rfl⟩
theorem ak.last {q:Ex} (h:ak w g (KH.enc q) t):w.rangeAt g 3 (SA.enc q.r):=ak.bB [.int .u64 q.me.1,.int .i64 q.me.2,.int .i64 q.dm] (Wz q.r) [] K4
theorem ak.setLast {q:Ex} (h:ak w g (KH.enc q) t) (r:Rq):ak (w.setCells g 3 (SA.enc r)) g (KH.enc { q with r:=r }) t:=by have h1:=ak.mid (Wz r) (Wz q.r) [.int .u64 q.me.1,.int .i64 q.me.2,.int .i64 q.dm] [] w rfl K4;rw [List.append_nil] at h1;exact h1
def QL (q:Ex):Xs:=⟨q.me,q.dm,if q.r.out then some (q.r.sq,if q.r.went then some q.r.ta else none) else none⟩
def OkR (r:Rq):Prop:=(r.went=true→r.out=true)∧(r.went=false→r.ta=0)
def Zj (xs:List Value) (x:Xs):Prop:=∃q:Ex,xs=KH.enc q∧x=QL q∧OkR q.r
theorem Il:OkR oQ:=⟨fun h=>h,fun _=>rfl⟩
theorem Ng (v:Int) (w:World):Calls prog 132 #[.int .i64 v] w fun e w'=>e=.returned (.int .i64 (bR v))∧w=w':=by
 have hm:bits .and .i64 v 65535=v % 65536:=lN v 16 aX;have h1:wrap64 (v % 65536+1)=v % 65536+1:=by exact wE
 have hm2:bits .and .i64 (v % 65536+1) 65535=bR v:=(lN (v % 65536+1) 16 aX).trans (by unfold bR;omega);go_enter func132,ntmps132;exact Eu
theorem QM:Yn Zj:=by
 intro me dm w hme;have z0:=aA w (Obj.cells (iw.enc me).toArray 54);have hP:=ak.new w (iw.enc me) 54;have hb:=z0;clear z0;go_enter func100,ntmps100;go_upto_region 1 with fail;change Code.wp prog _ _ _ (w.alloc (Obj.cells (iw.enc me).toArray 54));generalize (w.alloc (Obj.cells (iw.enc me).toArray 54))=W at *;generalize hG:w.heap.size=G at *;rw [←hG] at hb;have l_hP:w.heap.size≤G:=by omega
 have e:=ak.new W (KH.enc ⟨me,dm,oQ⟩) 228;have nb:=aA W (Obj.cells (KH.enc ⟨me,dm,oQ⟩).toArray 228);go_wp2_with (first | (refine aD 5 ?_;refine Dc.aL G 0 (me) hP.b_ ?_) | (refine aD 7 ?_;refine aB (KH.enc ⟨me,dm,oQ⟩).toArray ?_));go_ret;exact ⟨_,rfl,hb.size,⟨_,e,_,rfl,rfl,Il⟩,ah hb nb⟩
theorem FW (g:Nat) (q:Ex) (w:World) (hB:ak w g (KH.enc q) 228):Calls prog 214 #[.pointer (some ⟨g,0,none⟩)] w fun e w'=>e=.returned (.tuple #[])∧ak w' g (KH.enc { q with r:=oQ }) 228∧Only g w w':=by go_enter func214,ntmps214;go_wp2_with (first | (refine aD 3 ?_;refine aB (SA.enc oQ).toArray ?_) | (refine aN ?_;refine rqT.aM g 3 (oQ) hB (by rw [KH.len];decide) ?_));go_end0;exact ⟨rfl,hB.setLast oQ,Only.cells _ _ _ (Only.refl g w)⟩
theorem QN:Yo Zj:=by rintro g x w ⟨xs,hB,q,rfl,rfl,-⟩;refine (FW g q w hB).mono ?_;rintro e w' ⟨rfl,hB2,ho⟩;exact ⟨rfl,⟨_,hB2,_,rfl,rfl,Il⟩,ho⟩
theorem Vm:CReq Zj:=by
 rintro g x n log w ⟨xs,hB,q,rfl,rfl,hq⟩ hn;have hgl:=hB.lt;have hb:=aA w (Obj.cells (eu.enc bO).toArray 56);have hM:=ak.new w (eu.enc bO) 56;replace hB:=hB.below hb;have ho:=Only.of_below g hb;have hne:g≠w.heap.size:=by omega
 obtain ⟨k,hk⟩:∃k,n % 65536=k:=⟨_,rfl⟩;have hN:bR (wrap64 (n - 1))=k:=by rw [←hk];unfold bR wrap64;omega
 obtain ⟨m1,hm1⟩:∃m1:Hd×Bd,m1=yD (QL q) n:=⟨_,rfl⟩;have hm2:m1=(⟨1,q.dm,0,0,q.me.1,q.me.2,k,127⟩,vC):=by rw [hm1,←hk];rfl
 have hs:Cz (QL q) n=QL { q with r:=⟨k,true,false,0⟩ }:=by rw [←hk];rfl
 clear hk;replace hm1:=hid hm1;replace hm2:=hid hm2;go_enter func176,ntmps176;go_upto_region 1 with fail;change Code.wp prog _ _ _ (w.alloc (Obj.cells (eu.enc bO).toArray 56));generalize w.alloc (Obj.cells (eu.enc bO).toArray 56)=W at *;generalize hG:w.heap.size=G at *;have lG:w.heap.size≤G:=Nat.le_of_eq hG;go_wp2_with fail;refine (Ng _ _).mono ?_;rintro e w1 ⟨rfl,rfl⟩;try rw [IntKind.wrap_i64]
 rw [hN];clear hN;have hB2:=hB.setLast ⟨k,true,false,0⟩;have hM2:ak (W.setCells g 3 (SA.enc ⟨k,true,false,0⟩)) G (eu.enc bO) 56:=ak.gD (Ne.symm hne) _ _ _ hM;have ho2:=Only.cells (SA.enc ⟨k,true,false,0⟩) 3 _ ho;go_upto_region 3 with (first | (refine aD 12 ?_;refine aB (SA.enc ⟨k,true,false,0⟩).toArray ?_) | (refine aN ?_;refine rqT.aM g 3 (⟨k,true,false,0⟩) hB (by rw [KH.len];decide) ?_));clear hB hM ho;generalize World.setCells _ _ _ _=W2 at *;refine wp_region_held_drew (S:=fun w'=>ak w' g (KH.enc { q with r:=⟨k,true,false,0⟩ }) 228) aW (hB2.below (Below.drew (Below.refl _ _))) ?_;intro hS;have hbd:=Below.drew (Below.refl W2.heap.size W2);replace hM2:=hM2.below hbd;replace ho2:=ho2.next hbd;clear hbd hB2;generalize W2.drew=WD at *;refine tk [0,1,2] hS ?_;refine rt 3 hS ?_ (hy:=fun wx hwx=>by have q2:wx.cell? ⟨g,2,none⟩=some (.int .i64 q.dm):=hwx.cell 2 _ rfl;go_simp;try with_reducible rfl);refine tk [4,5,6] hS ?_;refine rt 7 hS ?_ (hy:=fun wx hwx=>by have q0:wx.cell? ⟨g,0,none⟩=some (.int .u64 q.me.1):=hwx.cell 0 _ rfl;have q1:wx.cell? ⟨g,1,none⟩=some (.int .i64 q.me.2):=hwx.cell 1 _ rfl;go_simp;try with_reducible rfl);refine tk [8] hS ?_;refine rt 9 hS ?_ (hy:=fun wx hwx=>bg _ _ rfl _ rfl (eu.enc m1).toArray (by rw [hm2.out];kernel_rfl));refine aR 10 fun K' hK=>?_;refine zi.dS _ _ rfl G m1 bO _ bn bn hM2 ?_;refine hK.out _ _ (hS.gu hne _) ?_;clear hK K';try simp only [Act.put,zI,bG,zS]
 refine wpAnyH_done aW ?_ _;go_wp2_with fail;rw [←hm1.out,hs];exact bodyPost_ret (v:=.agg (eu.enc m1).toArray) (zi.result rfl _ _ G _ _ rfl (hM2.fB _)) rfl ⟨rfl,⟨_,hS.gu hne _,_,rfl,rfl,⟨fun h=>qx,fun _=>rfl⟩⟩,ho2.G9 lG _⟩
end Go.Proofs.YtofhdhgfcomhiaaGreat
