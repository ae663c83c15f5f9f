/- Of what laws of the clock want, part 12: ClkLaws1 ClkConfs TlvOwn7 CopyK ForTab ClkIn (mini.py). -/
import Derived.Test.YtofhdhgfcomhiaaGreatCf11
namespace Go.Proofs.YtofhdhgfcomhiaaGreat
open Go.RowKit Go.Proofs
set_option maxRecDepth 100000
set_option maxHeartbeats 100000000
set_option linter.unusedVariables false
set_option linter.unusedSimpArgs false
open Tryz
variable {B:Nat} {P:Program} {Q:Exit→Act→World→Prop} {S:World→Prop} {a:Act} {b:Nat} {base:Nat} {cap:Nat} {fuel:Nat} {g:Nat} {h:Nat} {i:Nat} {l:List UInt8} {listed:Array Bool} {n:Nat} {now:Int} {o:Oper} {oi:Oper} {op:Oper} {ops:Array Oper} {p:Prop} {rest:List Oper} {t:TypeId} {v:Value} {w:World} {w':World} {xs:List Value} {α:Type}
theorem nJ (hw:Region.wanted op (yielded ops a.tmps)=true) (ty:TypeId) (parts:Array (Nat×Operand)) (ho:op.op=.build ty parts) (pv:Array (Nat×Value)) (hp:(parts.map fun (i,x)=>(i,a.eval x))=pv) (cs:Array Value) (hb:prog.built ty pv.toList=some cs) (h:wpList prog ops Q rest (a.put op.dst (.agg cs)) w):wpList prog ops Q (op::rest) a w:=wpList_step fun K hK=>by rw [if_pos hw];unfold Oper.wp execOp;simp only [ho];rw [hp];simp only [Sem.run_bind,run_build w ty pv cs hb,Result.andThen_ok,Sem.run_pure];exact hK _ _ h
theorem MV {F F':Nat→Prop} (h:∀i,F' i→F i∨n≤i) (hl:∀i,F i→B≤i) (hb:B≤n):∀i,F' i→B≤i:=by
 intro i h1;rcases h i h1 with h | h
 ·exact hl i h
 ·omega
def Two (O:Ob (Kz×Nat)) (B:Nat) (w:World) (g1 g2:Nat) (K:Kz) (q:Nat):Prop:=∃(F1 F2:Nat→Prop) (q1 q2:Nat),(∀i,F1 i→B≤i)∧(∀i,F2 i→B≤i)∧(∀i,F1 i→¬F2 i)∧O.rel w g1 F1 (K,q1)∧O.rel w g2 F2 (K,q2)∧q1≤q∧q2≤q
theorem Two.below {O:Ob (Kz×Nat)} {B:Nat} {w w':World} {g1 g2:Nat} {K:Kz} {q:Nat} (h:Two O B w g1 g2 K q) (hb:Below w.heap.size w w'):Two O B w' g1 g2 K q:=by obtain ⟨F1,F2,q1,q2,a,b,c,d,e,f⟩:=h;exact ⟨F1,F2,q1,q2,a,b,c,Ob.below d hb,Ob.below e hb,f⟩
theorem Two.more {O:Ob (Kz×Nat)} {g1 g2:Nat} {K:Kz} {q q':Nat} (h:Two O B w g1 g2 K q) (hq:q≤q'):Two O B w g1 g2 K q':=by obtain ⟨F1,F2,q1,q2,a,b,c,d,e,f,k⟩:=h;exact ⟨F1,F2,q1,q2,a,b,c,d,e,by omega,by omega⟩
def FQ:Prop:=∀w:World,Calls prog 10 #[] w fun e w'=>e=.returned (.bool true)∧Below w.heap.size w w'
theorem vF {O:Ob (Kz×Nat)} (T:MP O) (Vf:MN O) (Ze:Y9) (HA:FQ) (c:Cf) (hin:oJ c) (w:World):Calls prog 3 #[.agg (bT.enc c).toArray] w fun e w'=>e=.returned (.bool true)∧Below w.heap.size w w':=by
 have z:=aA w (Obj.cells (bT.enc c).toArray 28);have X:=ak.new w (bT.enc c) 28;go_enter func3,ntmps3;go_upto_region 1 with fail;change Code.wp prog _ _ _ (w.alloc (Obj.cells (bT.enc c).toArray 28));obtain ⟨gx,hgx⟩:∃gx,w.heap.size=gx:=⟨_,rfl⟩;rw [hgx] at X;rw [show (Value.pointer (some ⟨w.heap.size,0,none⟩))=Value.pointer (some ⟨gx,0,none⟩) by rw [hgx]];generalize w.alloc (Obj.cells (bT.enc c).toArray 28)=W at *;clear hgx;have RX:=X.b_;go_wp2_with (refine aD 8 ?_;refine Aw.aL gx 0 (c) RX ?_);by_cases hc:gJ c
 ·refine (Vf c _ hin hc).mono ?_;rintro e w1 ⟨gk,rfl,⟨F,hF,r⟩,b1⟩;replace X:=X.below b1;replace z:=ah z b1;clear RX b1;have RX:=X.b_;go_wp2_with (refine aD 13 ?_;refine Aw.aL gx 0 (c) RX ?_);refine (Df c hc _).mono ?_;rintro e w2 ⟨g,gS,gF,v,xs,l,rfl,lg,B,BS,h4,hR,hl,hP,b2⟩;replace r:=Ob.below r b2;replace z:=ah z b2;clear RX X b2;go_wp2_with fail;refine (yR T gk F c hc.2.2.1 0 g gS gF v xs l _ r B BS h4 hR hl hP).mono ?_;rintro e w3 ⟨rfl,b3⟩;replace z:=ah z b3;exact XH
 ·refine (Ze c _ hin hc).mono ?_;rintro e w1 ⟨rfl,b1⟩;replace X:=X.below b1;replace z:=ah z b1;clear RX b1;have RX:=X.b_;go_wp2_with (refine aD 13 ?_;refine Aw.aL gx 0 (c) RX ?_);refine (ES c hc _).mono ?_;rintro e w2 ⟨rfl,b2⟩;replace z:=ah z b2;clear RX X b2;exact XH
theorem Bytes.head {off n cap:Nat} {L:List UInt8} (E:Nat) (hlt:b<w.heap.size) (hc:∀i (h:i<L.length),w.cell? ⟨b,off+i,none⟩=some (bv L[i])) (hE:E≤L.length) (hm:E≤maxLen):Bytes w (.slice (some ⟨b,off,none⟩) E E) (L.take E):=by
 have hl:(L.take E).length=E:=by rw [List.length_take];omega
 refine ⟨some ⟨b,off,none⟩,E,by rw [hl],by omega,hm,.inr ⟨b,off,rfl,hlt,fun i hi=>?_⟩⟩;rw [List.getElem_take];exact hc i aJ
theorem RowK.MW {K:RowK α} (w:World) (dT sT ty elem:TypeId) (b o dLen dCap:Nat) (a:Addr) (sLen sCap:Nat) (l:List α) (hu:prog.underlying dT=some (.slice elem)) (hs:(prog.info? elem).map (·.size)=some K.n) (hn:l.length=Nat.min sLen dLen) (hsrc:∀j v,(K.cells l)[j]? = some v→w.cell? (a.add j)=some v) (hc:w.there b o (K.cells l).length):(Builtin.copy_ #[dT,sT] ty #[.slice (some ⟨b,o,none⟩) dLen dCap,.slice (some a) sLen sCap]).run prog w=.ok (goInt l.length) (w.setCells b o (K.cells l)):=by
 have hl:=run_loadCells_list (P:=prog) w a (K.cells l) hsrc;have hst:=run_storeCells_cells (P:=prog) b o (K.cells l) 0 w (fun j hj=>by simpa using (hc j hj).1) (fun j hj=>by simpa using (hc j hj).2) (K.cells_one l);rw [K.aQ] at hl;cases hq:prog.info? elem with
 | none=>simp [hq] at hs
 | some i=>
  have hi:i.size=K.n:=by simpa [hq] using hs
  simp [Builtin.copy_,run_underlying hu,Builtin.lenOf,Builtin.firstCells,sizeOf,typeInfo,hq,hi,←hn,hl,hst]
theorem RowK.Ic {K:RowK α} {K':Act→World→Prop} (d s:Operand) (dT sT elem:TypeId) (ho:op.op=.call { callee:=.builtin .copy,args:=#[d,s],argTypes:=#[dT,sT] }) (b o dLen dCap:Nat) (ad:Addr) (sLen sCap:Nat) (l:List α) (hd:a.eval d=.slice (some ⟨b,o,none⟩) dLen dCap) (hsv:a.eval s=.slice (some ad) sLen sCap) (hu:prog.underlying dT=some (.slice elem)) (hs:(prog.info? elem).map (·.size)=some K.n) (hn:l.length=Nat.min sLen dLen) (hsrc:∀j v,(K.cells l)[j]? = some v→w.cell? (ad.add j)=some v) (hc:w.there b o (K.cells l).length) (h:K' (a.put op.dst (goInt l.length)) (w.setCells b o (K.cells l))):op.wp prog a w K' Q:=by have hrun:=K.MW w dT sT op.type elem b o dLen dCap ad sLen sCap l hu hs hn hsrc hc;unfold Oper.wp;simp [execOp,ho,resolve,invoke,builtin,hd,hsv,hrun,Result.andThen];exact h
theorem oL:dB aV 150:=⟨⟨_,underlying150,rfl⟩,by kernel_rfl⟩
theorem DN:(prog.info? 150).map (fun i=>(i.zero,i.size,i.bytes))=some (some (.agg (jF au).toArray),aV.n,136):=by kernel_rfl
def fM (own port win:Int) (rs:List Rc) (n:Nat):List Value:=[.int .u64 own,.int .i64 port,.int .i64 win]++aV.cells rs++[.int .i64 (n:Int)]
theorem kM {own port win:Int} {rs:List Rc} (h:rs.length=5):(fM own port win rs n).length=89:=by unfold fM;rw [List.length_append,List.length_append,aV.aQ,h];rfl
theorem BQ {own port win:Int} {rs:List Rc} (h:rs.length=5) (j:Nat) (hj:j<85):(fM own port win rs n)[3+j]? = (aV.cells rs)[j]?:=by
 unfold fM;have hc:(aV.cells rs).length=85:=by rw [aV.aQ,h];rfl
 rw [List.getElem?_append_left (by simp [hc];omega),List.getElem?_append_right (by simp)];congr 1;simp
theorem fG {own port win:Int} {rs:List Rc} (h:rs.length=5):(fM own port win rs n)[88]? = some (.int .i64 (n:Int)):=by
 unfold fM;have hc:(aV.cells rs).length=85:=by rw [aV.aQ,h];rfl
 rw [List.getElem?_append_right (by simp [hc])];simp [hc]
theorem BU {own port win:Int} {rs:List Rc} {m:Nat} (h:rs.length=5):(fM own port win rs n).set 88 (.int .i64 (m:Int))=fM own port win rs m:=by
 unfold fM;have hc:(aV.cells rs).length=85:=by rw [aV.aQ,h];rfl
 rw [List.set_append_right _ _ (by simp [hc])];simp [hc]
theorem ak.rec {own port win:Int} {rs:List Rc} (hB:ak w g (fM own port win rs n) t) (h:rs.length=5) (i:Nat) (hi:i<5):w.rangeAt g (3+i*17) (jF (rs[i]'aJ)):=fun j v hj=>by have hj17:j<17:=(List.getElem?_eq_some_iff.1 hj).1;have hc:=aV.lU rs i j aJ hj17;refine hB.cell (3+i*17+j) v ?_;rw [show 3+i*17+j=3+(i*17+j) by omega,BQ h _ aJ];exact hc.trans hj
theorem ak.recs {own port win:Int} (xs ys old zs:List Rc) (hl:ys.length=old.length) (hB:ak w g (fM own port win (xs++old++zs) n) t):ak (w.setCells g (3+xs.length*17) (aV.cells ys)) g (fM own port win (xs++ys++zs) n) t:=by
 have e:∀l:List Rc,fM own port win (xs++l++zs) n=([.int .u64 own,.int .i64 port,.int .i64 win]++aV.cells xs)++aV.cells l++(aV.cells zs++[.int .i64 (n:Int)]):=by intro l;unfold fM;rw [aV.dY,aV.dY];simp
 rw [e] at hB ⊢;have h:=ak.mid (aV.cells ys) (aV.cells old) _ _ w (by rw [aV.aQ,aV.aQ,hl]) hB;rw [List.length_append,aV.aQ] at h;exact h
theorem ak.Qj {own port win:Int} {rs:List Rc} (hB:ak w g (fM own port win rs n) t) (h:rs.length=5) (i:Nat) (hi:i<5) (r:Rc):ak (w.setCells g (3+i*17) (jF r)) g (fM own port win (rs.set i r) n) t:=by
 have e1:rs=rs.take i++[rs[i]'aJ]++rs.drop (i+1):=by rw [←fE rs i aJ,List.take_append_drop]
 have e2:rs.set i r=rs.take i++[r]++rs.drop (i+1):=by rw [List.set_eq_take_append_cons_drop,if_pos aJ];simp
 rw [e1] at hB;have h2:=ak.recs (rs.take i) [r] [rs[i]'aJ] (rs.drop (i+1)) rfl hB;have e3:(rs.take i).length=i:=by rw [List.length_take];omega
 have e4:aV.cells [r]=jF r:=by simp [RowK.cells,aV]
 rw [e3,e4] at h2;rw [e2];exact h2
def FR (r:Rc):Prop:=(-9223372036854775808≤r.v.st∧r.v.st≤9223372036854775807)∧(-1≤r.fi∧r.fi≤1099511627776)∧(0≤r.la∧r.la≤1099511627776)
def nM (xs:List Value) (t:Ft):Prop:=∃rs:List Rc,rs.length=5∧t.l.length≤5∧xs=fM t.own t.port t.win rs t.l.length∧rs.take t.l.length=t.l∧(1≤t.win∧t.win≤1048576)∧∀r ∈ t.l,FR r
theorem fC {t:Ft} (h:qj nM w g t):∃rs:List Rc,rs.length=5∧t.l.length≤5∧ak w g (fM t.own t.port t.win rs t.l.length) 169∧rs.take t.l.length=t.l∧(1≤t.win∧t.win≤1048576)∧∀r ∈ t.l,FR r:=by obtain ⟨xs,hB,rs,h1,h2,rfl,h3,h4,h5⟩:=h;exact ⟨rs,h1,h2,hB,h3,h4,h5⟩
theorem wC {t:Ft} {rs:List Rc} (h5:rs.length=5) (hn:t.l.length≤5) (hB:ak w g (fM t.own t.port t.win rs t.l.length) 169) (ht:rs.take t.l.length=t.l) (hw:1≤t.win∧t.win≤1048576) (hin:∀r ∈ t.l,FR r):qj nM w g t:=
 ⟨_,hB,rs,h5,hn,rfl,ht,hw,hin⟩
theorem take_at {rs l:List α} (h:rs.take n=l) (i:Nat) (hi:i<l.length) (hr:i<rs.length):rs[i]=l[i]:=by subst h;rw [List.getElem_take]
theorem DR (w:World) (n:Nat):Below w.heap.size w (w.drewN n):=⟨rfl,rfl,rfl,Nat.le_refl _,fun _ _=>rfl⟩
theorem zN {rs l:List α} (h5:rs.length=5) (h:rs.take l.length=l) (p:Nat) (hp:p<l.length) (hl:l.length≤5) (z:α):((rs.take p++rs.drop (p+1)++rs.drop 4).set (l.length - 1) z).take (l.length - 1)=l.eraseIdx p:=by
 rw [List.take_set_of_le (Nat.le_refl _)];obtain ⟨n,hn⟩:∃n,l.length=n:=⟨_,rfl⟩;rw [hn] at h hp hl ⊢;subst h;match rs,h5 with
 | [a,b,c,d,e],_=>
  clear hn;have hn:n=0∨n=1∨n=2∨n=3∨n=4∨n=5:=by omega
  have hp5:p=0∨p=1∨p=2∨p=3∨p=4:=by omega
  rcases hn with rfl | rfl | rfl | rfl | rfl | rfl <;> rcases hp5 with rfl | rfl | rfl | rfl | rfl <;> first | rfl | (exfalso;omega)
theorem zO {W th:Int} (h0:0≤th) (hW:1≤W):pR W th now=decide (now<th+W):=by unfold pR;rw [decide_eq_decide];omega
theorem JE {l:List Rc} {f:Rc→Bool} (j:Nat) (hj:j<l.length):(f l[j]=true→l.take (j+1)++(l.drop (j+1)).filter f=l.take j++(l.drop j).filter f)∧(f l[j]=false→(l.take (j+1)++(l.drop (j+1)).filter f).eraseIdx j=l.take j++(l.drop j).filter f):=by
 have e:l.drop j=l[j]::l.drop (j+1):=List.drop_eq_getElem_cons hj;constructor
 ·intro h;rw [e,List.filter_cons_of_pos h,fE l j hj,List.append_assoc];rfl
 ·intro h;rw [e,List.filter_cons_of_neg (by simp [h]),fE l j hj];have e2:(l.take j).length=j:=by rw [List.length_take];omega
  rw [List.append_assoc,List.eraseIdx_append_of_length_le aJ,e2,Nat.sub_self];rfl
def iB (m:Hd×Bd):Prop:=iE m.1 m.2=true∧H6 m.1 m.2
def jQ:Nat:=4611686018427387904
def fO (t:Int):Prop:=0≤t∧t≤4000000000000000
def lD (t:Int):Prop:=-5000000000000000≤t∧t≤5000000000000000
def qg (t:Int):Prop:=0≤t∧t≤65535
structure MX (r:Rc):Prop where
 p1:0≤r.v.p1∧r.v.p1≤255
 qc:0≤r.v.qc∧r.v.qc≤255
 qa:0≤r.v.qa∧r.v.qa≤255
 qv:0≤r.v.qv∧r.v.qv≤65535
 p2:0≤r.v.p2∧r.v.p2≤255
 gr:0≤r.v.gr∧r.v.gr<18446744073709551616
 st:0≤r.v.st∧r.v.st<255
 sc:0≤r.v.sc∧r.v.sc<18446744073709551616
 sp:0≤r.v.sp∧r.v.sp≤65535
 rc:0≤r.v.rc∧r.v.rc<18446744073709551616
 rp : -9223372036854775808≤r.v.rp∧r.v.rp≤9223372036854775807
 ut : -32768≤r.ut∧r.ut≤32767
 fl:0≤r.fl∧r.fl≤63
 og:0≤r.og∧r.og≤255
structure DT (a:Pa):Prop where
 pc:0≤a.pc∧a.pc<18446744073709551616
 pp:0≤a.pp∧a.pp≤65535
 gr:0≤a.gr∧a.gr<18446744073709551616
 qc:0≤a.qc∧a.qc≤255
 qa:0≤a.qa∧a.qa≤255
 qv:0≤a.qv∧a.qv≤65535
 p1:0≤a.p1∧a.p1≤255
 p2:0≤a.p2∧a.p2≤255
 st:0≤a.st∧a.st≤255
 ut : -32768≤a.ut∧a.ut≤32767
 fl:0≤a.fl∧a.fl≤63
 og:0≤a.og∧a.og≤255
structure bN (p:Pt):Prop where
 st:1≤p.st∧p.st≤9
 tab:∀r ∈ p.tab.l,MX r
 own:(0≤p.tab.own∧p.tab.own<18446744073709551616)∧(-9223372036854775808≤p.tab.port∧p.tab.port≤9223372036854775807)
 kK:∀r ∈ p.tab.l,∃x ∈ p.kK,x.1=(r.v.sc,r.v.sp)
 ids:∀x ∈ p.kK,x.2.length≤50∧∀z ∈ x.2,0≤z∧z<18446744073709551616
 tr:InT p.tr
 tq:InT p.tq
 ta:InT p.ta
 ts:InT p.ts
 tk:InT p.tk
 na:qg p.na
 ns:qg p.ns
 nk:qg p.nk
 ms:∀x t,p.m.s=some (x,t)→iB x∧fO t
 mf:∀y,p.m.f=some y→iB y
 x:∀s t,p.x.out=some (s,some t)→fO t
 yw:∀t,p.y.went=some t→fO t
 yh:∀r t,p.y.held=some (r,t)→iB r∧fO t
 df:∀a,p.df=some a→lD a
 pr:∀a,p.pr=some a→lD a
 last:∀m,p.last=some m→iB m
structure eD (k:Kz) (n:Nat):Prop where
 cf:gJ k.c
 cl:0≤k.c.cl∧k.c.cl<18446744073709551616
 len:(k.ls.length:Int)=k.c.po
 tk:0≤k.tk∧k.tk≤1099511627776
 dr:0≤k.dr∧k.dr≤n
 pa:DT k.pa
 sv:EU { k.sv with cm:=0 }∧0≤k.sv.cm∧k.sv.cm≤n
 fl:LM k.fl
 off : -10000000000000000≤k.off∧k.off≤10000000000000000
 Wv:∀v ∈ k.fl.2,lD v
 de:∀d,k.de=some d→lD d
 me:∀p ∈ k.ls,bN p
 self:∀(i:Nat) (p:Pt),k.ls[i]? = some p→p.x.me=nu k.c i∧p.y.me=nu k.c i
theorem fO.cut (t:Int):fO (nR t):=by unfold fO nR ng;omega
theorem InT.zero:InT 0:=by unfold InT;omega
theorem InT.one:InT 1:=by unfold InT;omega
theorem InT.clamp (x:Int):InT (bH x):=by unfold InT bH;split <;> (try split) <;> omega
theorem InT.tick {x:Int} (h:InT x):InT (dw x):=by unfold InT at *;unfold dw;split <;> omega
theorem qg.next (x:Int):qg (bR x):=LG x
theorem Ah {c:Cf} (h:gJ c) (hc:0≤c.cl∧c.cl<18446744073709551616):DT (eH c):=by obtain ⟨h1,h2,h3,h4,h5,h6,h7,h8,h9,h10,h11,h12,iW,Ql,MZ,h16,Ww,h18,h19,h20,h21⟩:=h;exact ⟨hc,by show (0:Int)≤0∧(0:Int)≤65535;omega,hc,h7,h8,h9,h5,h6,by show (0:Int)≤0∧(0:Int)≤255;omega,h18,h19,h20⟩
theorem Qm {r:Rc} (h:MX r):DT (vD r.v ⟨r.ut,r.fl,r.og⟩):=by refine ⟨h.sc,h.sp,h.gr,h.qc,h.qa,h.qv,h.p1,h.p2,?_,h.ut,h.fl,h.og⟩;show 0≤wrap64 (r.v.st+1)∧wrap64 (r.v.st+1)≤255;have:=h.st;exact wE
theorem mq (l:List UInt8) (A k:Nat):aF l A k<256 ^ k:=by unfold aF;refine Nat.lt_of_lt_of_le (I7 _) (Nat.pow_le_pow_right aX ?_);rw [List.length_take];exact Nat.min_le_left _ _
theorem Zf (l:List UInt8) (A:Nat):(0:Int)≤(aF l A 1:Nat)∧((aF l A 1:Nat):Int)≤255:=by have h:aF l A 1<256:=mq l A 1;omega
theorem Qn (l:List UInt8) (A:Nat):(0:Int)≤(aF l A 2:Nat)∧((aF l A 2:Nat):Int)≤65535:=by have h:aF l A 2<65536:=mq l A 2;omega
theorem Vg (l:List UInt8) (A:Nat):(0:Int)≤(aF l A 8:Nat)∧((aF l A 8:Nat):Int)<18446744073709551616:=by have h:aF l A 8<18446744073709551616:=mq l A 8;omega
theorem sig1 (l:List UInt8) (A:Nat) : -128≤dU l A 1∧dU l A 1≤127:=by
 have h:aF l A 1<256:=mq l A 1;unfold dU;split
 ·rename_i h2;have h3:2*aF l A 1<256:=h2;omega
 ·rename_i h2;have h3:¬2*aF l A 1<256:=h2;show -128≤(aF l A 1:Int) - 256∧(aF l A 1:Int) - 256≤127;omega
theorem sig2 (l:List UInt8) (A:Nat) : -32768≤dU l A 2∧dU l A 2≤32767:=by
 have h:aF l A 2<65536:=mq l A 2;unfold dU;split
 ·rename_i h2;have h3:2*aF l A 2<65536:=h2;omega
 ·rename_i h2;have h3:¬2*aF l A 2<65536:=h2;show -32768≤(aF l A 2:Int) - 65536∧(aF l A 2:Int) - 65536≤32767;omega
theorem sig8 (l:List UInt8) (A:Nat) : -9223372036854775808≤dU l A 8∧dU l A 8≤9223372036854775807:=by
 have h:aF l A 8<18446744073709551616:=mq l A 8;unfold dU;split
 ·rename_i h2;have h3:2*aF l A 8<18446744073709551616:=h2;omega
 ·rename_i h2;have h3:¬2*aF l A 8<18446744073709551616:=h2;show -9223372036854775808≤(aF l A 8:Int) - 18446744073709551616∧(aF l A 8:Int) - 18446744073709551616≤9223372036854775807;omega
theorem Qo (l:List UInt8) (A:Int):fO (CZ l A):=by
 unfold CZ fO;split
 ·rename_i h;have:=of_decide_eq_true h;omega
 ·omega
theorem Qp {t:Int} (h:fO t):qh t=true:=zw h.1 h.2
theorem jI {x a b:Int} (h:a≤x∧x≤b):fV x a b=true:=decide_eq_true h
theorem Ie {x:Int} (h:0≤x∧x≤65535):tH x=true:=decide_eq_true h
theorem Qq {c a v:Int} (hc:0≤c∧c≤255) (ha:0≤a∧a≤255) (hv:0≤v∧v≤65535):mX c a v=true:=by unfold mX CW KF;rw [decide_eq_true aJ,decide_eq_true aJ,decide_eq_true aJ];rfl
theorem Qr {c a v:Int} (h:mX c a v=true):(0≤c∧c≤255)∧(0≤a∧a≤255)∧(0≤v∧v≤65535):=by unfold mX CW KF at h;simp only [Bool.and_eq_true,decide_eq_true_eq] at h;omega
theorem FT (h:Hd) (d:Bd):wQ h d h d=true:=by unfold wQ;simp
theorem mD {h:Hd} {d:Bd} (hk:dW h.ty=true) (h1:0≤h.dm∧h.dm≤255) (h2:0≤h.fl∧h.fl≤65535) (h3:0≤h.sp∧h.sp≤65535) (h4:0≤h.sq∧h.sq≤65535) (h5 : -128≤h.lg∧h.lg≤127) (hs:d=om h.ty d) (h6:fO d.st) (h7:0≤d.tp∧d.tp≤65535) (h8 : -32768≤d.ut∧d.ut≤32767) (h9:0≤d.p1∧d.p1≤255) (q1:0≤d.qc∧d.qc≤255) (q2:0≤d.qa∧d.qa≤255) (q3:0≤d.qv∧d.qv≤65535) (h10:0≤d.p2∧d.p2≤255) (h11:0≤d.sr∧d.sr≤65535) (h12:0≤d.og∧d.og≤255) (iW:0≤d.sh∧d.sh≤255) (Ql:0≤d.hp∧d.hp≤255) (MZ:0≤d.ac∧d.ac≤15):iE h d=true:=by unfold iE je;rw [←hs,hk,jI h1,jI h2,Ie h3,jI h4,jI h5,FT,Qp h6,Ie h7,jI h8,jI h9,Qq q1 q2 q3,jI h10,jI h11,jI h12,jI iW,jI Ql,jI MZ];rfl
theorem bV:(0:Int)≤0∧(0:Int)≤255:=by omega
theorem fU:(0:Int)≤0∧(0:Int)≤65535:=by omega
theorem su:(0:Int)≤0∧(0:Int)<18446744073709551616:=by omega
theorem uZ:fO 0:=by unfold fO;omega
theorem fO.i64 {t:Int} (h:fO t) : -9223372036854775808≤t∧t≤9223372036854775807:=by unfold fO at h;omega
theorem Vh {b:List UInt8} (h:jh b=0):iB (oC b,Bq b):=by
 have hg:yO b=0:=by refine Decidable.byContradiction fun h2=>?_;rw [Br h2] at h;exact h2 h
 obtain ⟨e1,e2,-⟩:=Jy h;have hk:=(Dy hg).2;rw [e1,e2];have hH:tX b=U1 b:=(get_some hg).2;obtain ⟨t,ht⟩:∃t,(tX b).ty=t:=⟨_,rfl⟩;have r0:=Zf b 4;have r1:=Qn b 6;have r2:=Qn b 28;have r3:=Qn b 30;have r4:=sig1 b 33;have r5:=sig8 b 8;have r6:=Vg b 20;have hok:CU (tX b):=by rw [hH];exact ⟨r6.1,r6.2,r5.1,r5.2⟩
 have hv:=Qo b 34;have n8:=Vg b;have n2:=Qn b;have n1:=Zf b;have s2:=sig2 b;have m16:∀A,(0:Int)≤((aF b A 1:Nat):Int) % 16∧((aF b A 1:Nat):Int) % 16≤15:=fun A=>by omega
 suffices H:∀d:Bd,d=uX vC t b 34→d=om t d∧fO d.st∧(0≤d.tc∧d.tc<18446744073709551616)∧(0≤d.tp∧d.tp≤65535)∧(-32768≤d.ut∧d.ut≤32767)∧(0≤d.p1∧d.p1≤255)∧(0≤d.qc∧d.qc≤255)∧(0≤d.qa∧d.qa≤255)∧(0≤d.qv∧d.qv≤65535)∧(0≤d.p2∧d.p2≤255)∧(0≤d.gr∧d.gr<18446744073709551616)∧(0≤d.sr∧d.sr≤65535)∧(0≤d.og∧d.og≤255)∧(0≤d.sh∧d.sh≤255)∧(0≤d.hp∧d.hp≤255)∧(0≤d.ac∧d.ac≤15) by
  obtain ⟨a1,a2,a3,a4,a5,a6,a7,a8,a9,O8,O9,a12,Wl,Xk,Xl,a16⟩:=H _ rfl;rw [ht];refine ⟨mD hk ?_ ?_ ?_ ?_ ?_ ?_ a2 a4 a5 a6 a7 a8 a9 O8 a12 Wl Xk Xl a16,hok,a3,O9,a2.i64⟩
  ·rw [hH];exact r0
  ·rw [hH];exact r1
  ·rw [hH];exact r2
  ·rw [hH];exact r3
  ·rw [hH];exact r4
  ·show _=om (tX b).ty _;rw [ht];exact a1
 intro d hd;rw [ht] at hk;have iV:=bV;have yS:=fU;have zU:=su;have zS:=uZ;have Wx:(-32768:Int)≤0∧(0:Int)≤32767:=by omega
 have z15:(0:Int)≤0∧(0:Int)≤15:=by omega
 rcases kinds t with ⟨k1,k2,k3,k4⟩ | ⟨k1,k2,k3,k4⟩ | ⟨k1,k2,k3,k4⟩ | rfl | ⟨k1,k2,k3,k4⟩ | rfl
 ·exfalso;unfold dW at hk;unfold l7 at k1;unfold mK at k2;simp only [decide_eq_true_eq,decide_eq_false_iff_not] at hk k1 k2;omega
 ·have e:d=⟨CZ b 34,0,0,0,0,0,0,0,0,0,0,0,0,0,0⟩:=by rw [hd];unfold uX;rw [if_neg k3,if_neg k4,if_neg (by rw [k2];simp),if_pos k1];rfl
  rw [e];exact ⟨by simp [om,k1,k2,k3,k4],hv,zU,yS,Wx,iV,iV,iV,yS,iV,zU,yS,iV,iV,iV,z15⟩
 ·have e:d=⟨CZ b 34,(aF b 44 8:Nat),(aF b 52 2:Nat),0,0,0,0,0,0,0,0,0,0,0,0⟩:=by rw [hd];unfold uX;rw [if_neg k3,if_neg k4,if_pos ⟨k1,k2⟩];rfl
  rw [e];exact ⟨by simp [om,k1,k2,k3,k4],hv,n8 44,n2 52,Wx,iV,iV,iV,yS,iV,zU,yS,iV,iV,iV,z15⟩
 ·have e:d=⟨CZ b 34,0,0,dU b 44 2,(aF b 47 1:Nat),(aF b 48 1:Nat),(aF b 49 1:Nat),(aF b 50 2:Nat),(aF b 52 1:Nat),(aF b 53 8:Nat),(aF b 61 2:Nat),(aF b 63 1:Nat),0,0,0⟩:=by rw [hd];unfold uX;rw [if_pos rfl];rfl
  rw [e];exact ⟨by simp [om,l7,mK],hv,zU,yS,s2 44,n1 47,n1 48,n1 49,n2 50,n1 52,n8 53,n2 61,n1 63,iV,iV,z15⟩
 ·have e:d=⟨0,(aF b 34 8:Nat),(aF b 42 2:Nat),0,0,0,0,0,0,0,0,0,0,0,0⟩:=by rw [hd];unfold uX;rw [if_neg k3,if_neg k4,if_neg (by rw [k1];simp),if_neg (by rw [k1];simp)];rfl
  rw [e];exact ⟨by simp [om,k1,k2,k3,k4],zS,n8 34,n2 42,Wx,iV,iV,iV,yS,iV,zU,yS,iV,iV,iV,z15⟩
 ·have e:d=⟨0,(aF b 34 8:Nat),(aF b 42 2:Nat),0,0,0,0,0,0,0,0,0,(aF b 44 1:Nat),(aF b 45 1:Nat),((aF b 46 1:Nat):Int) % 16⟩:=by rw [hd];unfold uX;rw [if_neg aX,if_pos rfl];rfl
  rw [e];exact ⟨by simp [om,l7,mK],zS,n8 34,n2 42,Wx,iV,iV,iV,yS,iV,zU,yS,iV,n1 44,n1 45,m16 46⟩
theorem Qs {b:List UInt8} {dm:Int} (h:DC b dm=0):iB (Dz b dm,H7 b dm)∧jh b=0∧H9 b dm=frameT b:=by
 by_cases h2:jh b=0∧(oC b).dm≠dm
 ·rw [(Fx h2).2.2.2] at h;cases h
 ·obtain ⟨e1,e2,e3,e4⟩:=Jz h2;rw [e4] at h;rw [e1,e2];exact ⟨Vh h,h,e3⟩
end Go.Proofs.YtofhdhgfcomhiaaGreat
