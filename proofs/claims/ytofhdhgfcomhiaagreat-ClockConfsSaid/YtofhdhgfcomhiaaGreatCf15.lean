/- Of what laws of the clock want, part 15: ForOwn1 ForOwn2 ForOwn3 VecLit VecOwn VecOwn2 (mini.py). -/
import Derived.Test.YtofhdhgfcomhiaaGreatCf12
namespace Go.Proofs.YtofhdhgfcomhiaaGreat
open Go.RowKit Go.Proofs
set_option maxRecDepth 100000
set_option maxHeartbeats 100000000
set_option linter.unusedVariables false
set_option linter.unusedSimpArgs false
open Tryz
variable {B:Nat} {P:Program} {Q:Exit→Act→World→Prop} {S:World→Prop} {a:Act} {b:Nat} {base:Nat} {cap:Nat} {fuel:Nat} {g:Nat} {h:Nat} {i:Nat} {l:List UInt8} {listed:Array Bool} {n:Nat} {now:Int} {o:Oper} {oi:Oper} {op:Oper} {ops:Array Oper} {p:Prop} {rest:List Oper} {t:TypeId} {v:Value} {w:World} {w':World} {xs:List Value} {α:Type}
theorem QY:Yx nM:=by
 intro own port win w hown
 have e:Hid (qj nM (w.alloc (Obj.cells (fM own port (nZ win) [au,au,au,au,au] 0).toArray 169)) w.heap.size ⟨own,port,nZ win,[]⟩):=
  hid (wC (rs:=[au,au,au,au,au]) rfl (by simp) (ak.new w _ _) rfl (by unfold nZ;dsimp only;split <;> (try split) <;> omega) (by simp))
 have nb:=hid (aA w (Obj.cells (fM own port (nZ win) [au,au,au,au,au] 0).toArray 169));obtain ⟨W,hW⟩:∃W:Int,nZ win=W:=⟨_,rfl⟩;rw [hW] at e nb ⊢;unfold nZ at hW;have hc:(win<1∧W=1)∨(1048576<win∧W=1048576)∨(1≤win∧win≤1048576∧W=win):=by
  by_cases h1:win<1
  ·rw [if_pos h1] at hW;omega
  ·rw [if_neg h1] at hW;by_cases h2:1048576<win
   ·rw [if_pos h2] at hW;omega
   ·rw [if_neg h2] at hW;omega
 clear hW;rcases hc with ⟨h1,rfl⟩ | ⟨h1,rfl⟩ | ⟨h1,h2,rfl⟩
 ·go_enter func98,ntmps98;go_wp2_with (refine aD 13 ?_;refine aB (fM own port 1 [au,au,au,au,au] 0).toArray ?_);go_ret;exact ⟨_,rfl,Nat.le_refl _,e.out,nb.out⟩
 ·go_enter func98,ntmps98;go_wp2_with (refine aD 13 ?_;refine aB (fM own port 1048576 [au,au,au,au,au] 0).toArray ?_);go_ret;exact ⟨_,rfl,Nat.le_refl _,e.out,nb.out⟩
 ·go_enter func98,ntmps98;go_wp2_with (refine aD 13 ?_;refine aB (fM own port W [au,au,au,au,au] 0).toArray ?_);go_ret;exact ⟨_,rfl,Nat.le_refl _,e.out,nb.out⟩
theorem xR (g:Nat) (own port win:Int) (rs:List Rc) (n:Nat) (th now:Int) (w:World) (hB:ak w g (fM own port win rs n) 169) (h1:1≤win∧win≤1048576) (h2 : -1≤th∧th≤1099511627776):Calls prog 160 #[.pointer (some ⟨g,0,none⟩),.int .i64 th,.int .i64 now] w fun e w'=>e=.returned (.bool (decide (now<th+win)))∧w'=w:=by
 have c2:=hB.cell 2 _ rfl;have hw:wrap64 (th+win)=th+win:=by exact wE
 go_enter func160,ntmps160;exact Eu
theorem dB.nA {K:RowK α} {T:TypeId} (hT:dB K T) {op:Oper} {a:Act} {w:World} {K':Act→World→Prop} {Q:Exit→Act→World→Prop} (x y:Operand) (ho:op.op=.store T x y)
  (g o:Nat) (c:α) (xs:List Value) (t:TypeId) (hx:a.eval x=.pointer (some ⟨g,o,none⟩)) (hy:a.eval y=.agg (K.enc c).toArray) (hB:ak w g xs t) (hn:o+K.n≤xs.length)
  (h:K' (a.put op.dst undef) (w.setCells g o (K.enc c))):op.wp prog a w K' Q:=
 wp_store_mid _ x y ho g o (K.enc c).toArray hx hy (hB.there o _ TW) TQ (all_oneCell_toArray (K.one c)) h
theorem u7 {w0:World} {own port win:Int} {rs:List Rc} (hB:ak w g (fM own port win rs n) t) (ho:Only g w0 w) (h:rs.length=5) (i:Nat) (hi:i<5) (r:Rc) :
  ∃W,W=w.setCells g (3+i*17) (aV.enc r)∧ak W g (fM own port win (rs.set i r) n) t∧Only g w0 W:=
 ⟨_,rfl,hB.Qj h i hi r,ho.cells _ _ _⟩
theorem D6 {own port win:Int} {rs:List Rc} (hB:ak w g (fM own port win rs n) t) (h:rs.length=5) (m:Nat):∀j v,(aV.cells (rs.drop m))[j]? = some v→w.cell? ((⟨g,3+m*17,none⟩:Addr).add j)=some v:=by
 intro j v hj;have hl:=(List.getElem?_eq_some_iff.1 hj).1;rw [aV.aQ,List.length_drop,h] at hl;have hl2:j<(5 - m)*17:=hl;have e:aV.cells rs=aV.cells (rs.take m)++aV.cells (rs.drop m):=by rw [←aV.dY,List.take_append_drop]
 have e2:(aV.cells (rs.take m)).length=m*17:=by rw [aV.aQ,List.length_take,h];show min m 5*17=_;omega
 rw [Addr.add_plain];refine hB.cell _ v ?_;rw [show 3+m*17+j=3+(m*17+j) by omega,BQ h _ aJ,e,List.getElem?_append_right aJ,e2,show m*17+j - m*17=j by omega];exact hj
theorem qE {rs:List α} (h:rs.length=5) (p:Nat) (hp:p<5):(rs.take p++rs.drop (p+1)++rs.drop 4).length=5:=by simp only [List.length_append,List.length_take,List.length_drop,h];omega
theorem Vs {rs:List α} (h:rs.length=5) (p:Nat) (hp:p<5):rs=rs.take p++(rs.drop p).take (4 - p)++rs.drop 4:=by
 match rs,h with
 | [a,b,c,d,e],_=>
  have hp5:p=0∨p=1∨p=2∨p=3∨p=4:=by omega
  rcases hp5 with rfl | rfl | rfl | rfl | rfl <;> rfl
theorem u_ {w0:World} {own port win:Int} {rs:List Rc} (hB:ak w g (fM own port win rs n) t) (ho:Only g w0 w) (h:rs.length=5) (p:Nat) (hp:p<5):∃W,W=w.setCells g (3+p*17) (aV.cells (rs.drop (p+1)))∧ak W g (fM own port win (rs.take p++rs.drop (p+1)++rs.drop 4) n) t∧Only g w0 W:=by
 refine ⟨_,rfl,?_,ho.cells _ _ _⟩;have hB2:ak w g (fM own port win (rs.take p++(rs.drop p).take (4 - p)++rs.drop 4) n) t:=by rw [←Vs h p hp];exact hB
 have h2:=ak.recs (rs.take p) (rs.drop (p+1)) ((rs.drop p).take (4 - p)) (rs.drop 4) (by rw [List.length_take,List.length_drop,List.length_drop,h];omega) hB2;rw [show (rs.take p).length=p by rw [List.length_take];omega] at h2;exact h2
theorem F3 (g:Nat) (t:Ft) (p:Nat) (w:World) (FA:qj nM w g t) (hp:p<t.l.length):Calls prog 161 #[.pointer (some ⟨g,0,none⟩),.int .i64 (p:Int)] w fun e w'=>e=.returned (.tuple #[])∧qj nM w' g { t with l:=t.l.eraseIdx p }∧Only g w w':=by
 obtain ⟨rs,h5,hn,hB,ht,hw,hin⟩:=fC FA;obtain ⟨own,port,win,l⟩:=t;replace hn:l.length≤5:=hn;replace hp:p<l.length:=hp;replace hB:ak w g (fM own port win rs l.length) 169:=hB;replace ht:=hid (show rs.take l.length=l from ht);replace hw:=hid (show 1≤win∧win≤1048576 from hw);have yI:=hid (show ∀r ∈ l,FR r from hin);have H5:=hid h5;have HP:=hid hp;have HN:=hid hn;clear FA hin;obtain ⟨n,hn2⟩:∃n:Nat,n=l.length:=⟨_,rfl⟩;rw [←hn2] at hn hB ht hp;replace hn2:=hid hn2;have hp0:(0:Int)≤(p:Int):=by omega
 have hp5:(p:Int)<5:=by omega
 have hpl:(p:Int)≤5:=by omega
 have hq0:(0:Int)≤(p:Int)+1:=by omega
 have hq5:(p:Int)+1≤5:=by omega
 have hw1:wrap64 ((p:Int)+1)=(p:Int)+1:=by exact wE
 have hpn:¬p=5:=by omega
 have hpn2:¬5=p:=by omega
 have hto:((p:Int)+1).toNat=p+1:=by omega
 have hw2:IntKind.i64.wrap ((p:Int)+1)=(p:Int)+1:=by exact yJ
 clear h5;go_enter func161,ntmps161;go_upto_region 0 with fail;refine wp_region_held_drew (S:=fun w'=>True) aW True.intro ?_;intro hS;have hbd:=Below.drew (Below.refl w.heap.size w);have ho:=Only.of_below g hbd;replace hB:=hB.below hbd;clear hbd;generalize w.drew=WD at *;refine tk [0,1,2,3,4,5,6,7,8,9] hS ?_;by_cases hp4:p=4
 ·subst hp4;refine tk [10] hS ?_;refine aR 11 fun K' hK=>?_;refine RowK.Ic (K:=aV) _ _ _ _ 150 rfl g (3+4*17) (5 - 4) (5 - 4) ⟨g,3,none⟩ 0 0 (rs.drop (4+1)) bn bn underlying50 aW XV (by intro j v hj;rw [show rs.drop (4+1)=[] from List.drop_eq_nil_of_le (by rw [H5.out];decide)] at hj;cases hj) (hB.there _ _ (by rw [kM H5.out,aV.aQ,List.length_drop,H5.out];show 3+4*17+(5 - (4+1))*17≤89;omega)) ?_;obtain ⟨W1,hW1,hT,ho1⟩:=u_ hB ho H5.out 4 aJ;rw [←hW1];refine hK.out _ _ True.intro ?_;clear hK K' hW1 hB ho;try simp only [Act.put,zI,bG,zS]
  refine wpAnyH_done aW ?_ _;have QZ:(rs.take 4++rs.drop (4+1)++rs.drop 4).length=5:=qE H5.out 4 aJ;have hfin:=hid (zN H5.out (show rs.take l.length=l by rw [←hn2.out];exact ht.out) 4 HP.out HN.out au);obtain ⟨m,rfl⟩:∃m,n=m+1:=⟨n - 1,by omega⟩;rw [←hn2.out,show m+1 - 1=m from rfl] at hfin;generalize rs.take 4++rs.drop (4+1)++rs.drop 4=ss at *;have Q0:=hT.cell 88 _ (fG QZ);have f88:=hT.free 88;have hwm:wrap64 (((m+1:Nat):Int) - 1)=(m:Int):=by exact wE
  have hB2:=hT.set 88 (.int .i64 (m:Int));rw [BU QZ] at hB2;have ho2:=ho1.cell 88 (.int .i64 (m:Int));replace hB2:=hid hB2;replace ho2:=hid ho2;have TS:=hid QZ;clear hT ho1 QZ;go_upto_region 2 with fail;have hT:=hB2.out;have ho:=ho2.out;clear hB2 ho2;generalize World.setCell _ _ _=W2 at *;have SF:=hT.cell 88 _ (fG TS.out);refine wp_region_held_drew (S:=fun w'=>w'.cell? ⟨g,88,none⟩=some (.int .i64 (m:Int))) aW SF ?_;intro hS;have hbd:=Below.drew (Below.refl W2.heap.size W2);replace hT:=hT.below hbd;replace ho:=ho.next hbd;clear hbd SF Q0 f88;generalize W2.drew=W3 at *;have hmI:(m:Int)<5:=by omega
  have hm0:(0:Int)≤(m:Int):=by omega
  refine tk [0,1,2,3,4] hS ?_;refine rt 5 hS ?_ (hy:=fun wx hwx=>by exact bg _ _ rfl _ rfl (jF au).toArray aW);refine tk [6,7,8] hS ?_;refine aR 9 fun K' hK=>?_;refine oL.nA (op:=⟨none,.store _ _ _,_,_,_,_⟩) _ _ rfl g (3+m*17) au _ _ bn bn hT XT ?_;obtain ⟨W4,Vt,Wm,Xy⟩:=u7 hT ho TS.out m aJ au;rw [←Vt];have Zn:=Wm.cell 88 _ (fG TG);refine hK.out _ _ Zn ?_;clear hK K' Vt hT ho Zn hS;try simp only [Act.put,zI,bG,zS]
  refine wpAnyH_done aW ?_ _;go_wp2_with fail;go_end0;have hm:=hn2.out;have hle:(l.eraseIdx 4).length=m:=by rw [List.length_eraseIdx,if_pos HP.out];omega
  exact Xx
 ·have hp4b:¬5=p+1:=by omega
  refine tk [10] hS ?_;refine aR 11 fun K' hK=>?_;refine RowK.Ic (K:=aV) _ _ _ _ 150 rfl g (3+p*17) (5 - p) (5 - p) ⟨g,3+(p+1)*17,none⟩ (4 - p) (4 - p) (rs.drop (p+1)) bn bn underlying50 aW XV (D6 hB H5.out (p+1)) (hB.there _ _ (by rw [kM H5.out,aV.aQ,List.length_drop,H5.out];show 3+p*17+(5 - (p+1))*17≤89;omega)) ?_;obtain ⟨W1,hW1,hT,ho1⟩:=u_ hB ho H5.out p aJ;rw [←hW1];refine hK.out _ _ True.intro ?_;clear hK K' hW1 hB ho;try simp only [Act.put,zI,bG,zS]
  refine wpAnyH_done aW ?_ _;have QZ:(rs.take p++rs.drop (p+1)++rs.drop 4).length=5:=qE H5.out p aJ;have hfin:=hid (zN H5.out (show rs.take l.length=l by rw [←hn2.out];exact ht.out) p HP.out HN.out au);obtain ⟨m,rfl⟩:∃m,n=m+1:=⟨n - 1,by omega⟩;rw [←hn2.out,show m+1 - 1=m from rfl] at hfin;generalize rs.take p++rs.drop (p+1)++rs.drop 4=ss at *;have Q0:=hT.cell 88 _ (fG QZ);have f88:=hT.free 88;have hwm:wrap64 (((m+1:Nat):Int) - 1)=(m:Int):=by exact wE
  have hB2:=hT.set 88 (.int .i64 (m:Int));rw [BU QZ] at hB2;have ho2:=ho1.cell 88 (.int .i64 (m:Int));replace hB2:=hid hB2;replace ho2:=hid ho2;have TS:=hid QZ;clear hT ho1 QZ;go_upto_region 2 with fail;have hT:=hB2.out;have ho:=ho2.out;clear hB2 ho2;generalize World.setCell _ _ _=W2 at *;have SF:=hT.cell 88 _ (fG TS.out);refine wp_region_held_drew (S:=fun w'=>w'.cell? ⟨g,88,none⟩=some (.int .i64 (m:Int))) aW SF ?_;intro hS;have hbd:=Below.drew (Below.refl W2.heap.size W2);replace hT:=hT.below hbd;replace ho:=ho.next hbd;clear hbd SF Q0 f88;generalize W2.drew=W3 at *;have hmI:(m:Int)<5:=by omega
  have hm0:(0:Int)≤(m:Int):=by omega
  refine tk [0,1,2,3,4] hS ?_;refine rt 5 hS ?_ (hy:=fun wx hwx=>by exact bg _ _ rfl _ rfl (jF au).toArray aW);refine tk [6,7,8] hS ?_;refine aR 9 fun K' hK=>?_;refine oL.nA (op:=⟨none,.store _ _ _,_,_,_,_⟩) _ _ rfl g (3+m*17) au _ _ bn bn hT XT ?_;obtain ⟨W4,Vt,Wm,Xy⟩:=u7 hT ho TS.out m aJ au;rw [←Vt];have Zn:=Wm.cell 88 _ (fG TG);refine hK.out _ _ Zn ?_;clear hK K' Vt hT ho Zn hS;try simp only [Act.put,zI,bG,zS]
  refine wpAnyH_done aW ?_ _;go_wp2_with fail;go_end0;have hm:=hn2.out;have hle:(l.eraseIdx p).length=m:=by rw [List.length_eraseIdx,if_pos HP.out];omega
  exact Xx
theorem sF:Yz nM:=by
 intro g t now w FA;obtain ⟨own,port,win,l⟩:=t;have hw1:1≤win∧win≤1048576:=by obtain ⟨rs,-,-,-,-,hw,-⟩:=fC FA;exact hw
 have yI:=hid (show ∀r ∈ l,FR r by obtain ⟨rs,-,-,-,-,-,hin⟩:=fC FA;exact hin);have hl5:l.length≤5:=by obtain ⟨rs,-,hn,-⟩:=fC FA;exact hn
 have SF:w.cell? ⟨g,88,none⟩=some (.int .i64 (l.length:Int)):=by obtain ⟨rs,h5,-,hB,-⟩:=fC FA;exact hB.cell 88 _ (fG h5)
 have hwn:wrap64 ((l.length:Int) - 1)=(l.length:Int) - 1:=by exact wE
 obtain ⟨f,hf⟩:∃f:Rc→Bool,f=fun r=>pR win r.la now:=⟨_,rfl⟩;have HF:=hid fun (r:Rc) (h:0≤r.la)=>(show decide (now<r.la+win)=f r by rw [hf];exact (zO h hw1.1).symm);have hW:=hid hw1;have H5:=hid hl5;have hT:jq ⟨own,port,win,l⟩ now=⟨own,port,win,l.filter f⟩:=by rw [hf];rfl
 rw [hT];clear hT hf hl5 hw1;go_enter func105,ntmps105;go_wp2_with fail;go_loopw [4] (fun i wr=>∃(k:Nat) (z:Int),k≤l.length∧i=.int .i64 z∧Hid (z=(k:Int) - 1)∧qj nM wr g ⟨own,port,win,l.take k++(l.drop k).filter f⟩∧Only g w wr) (fun i _=>(intOf i+1).toNat);case atStart=>exact ⟨l.length,_,Nat.le_refl _,rfl,(by first | exact hid hwn | exact hid rfl),by simpa using FA,Only.refl _ _⟩
 case round=>
  obtain ⟨k,z,hk,rfl,hz,FA,ho⟩:=hrel;cases k with
  | zero=>
   obtain rfl:z = -1:=by have:=hz.out;omega
   clear hz SF hwn;go_wp2_with fail;go_end0;exact ⟨rfl,by simpa using FA,ho⟩
  | succ j=>
   obtain rfl:z=(j:Int):=by have:=hz.out;omega
   have hjl:j<l.length:=by omega
   obtain ⟨L,hL⟩:∃L:List Rc,L=l.take (j+1)++(l.drop (j+1)).filter f:=⟨_,rfl⟩;rw [←hL] at FA;have hjL:j<L.length:=by rw [hL,List.length_append,List.length_take];omega
   have hjr:L[j]=l[j]:=by
    have h1:L[j]? = l[j]?:=by rw [hL,List.getElem?_append_left (by rw [List.length_take];omega),List.getElem?_take_of_lt aJ]
    rw [List.getElem?_eq_getElem hjL,List.getElem?_eq_getElem hjl] at h1;exact Option.some.inj h1
   obtain ⟨s1,s2⟩:=JE (f:=f) j hjl;rw [←hL] at s1 s2;have Vu:=yI.out _ (List.getElem_mem hjl);have hfr:=HF.out l[j] Vu.2.2.1;obtain ⟨rs,h5,hn,hB,ht,-,-⟩:=fC FA;have hrs:rs[j]=l[j]:=(take_at ht j hjL (by dsimp only at hn;omega)).trans hjr;have hR:=hB.rec h5 j (by dsimp only at hn;omega);rw [hrs] at hR;have hla:=Vu.2.2;generalize l[j]=r at *;have cla:wr.cell? ⟨g,3+j*17+16,none⟩=some (.int .i64 r.la):=hR 16 _ rfl;have hj0:(0:Int)≤(j:Int):=by omega
   have hj5:(j:Int)<5:=by dsimp only at hn;omega
   have XC:wrap64 ((j:Int) - 1)=(j:Int) - 1:=by exact wE
   have hLJ:=hid hjL;have hKJ:=hid hk;have S1:=hid s1;have S2:=hid s2;have hla2:=hid (show -1≤r.la∧r.la≤1099511627776 from ⟨by omega,hla.2⟩);have Vv:=hid hB;clear hz SF hwn hL hjr Vu h5 hn hB ht hrs hR hla hjl hjL hk s1 s2;dsimp only at Vv;go_wp2_with fail;refine (xR g own port win rs L.length r.la now wr Vv.out hW.out hla2.out).mono ?_;rintro e w' ⟨rfl,rfl⟩;rw [hfr];clear hfr cla Vv;cases OV:f r
   ·have hS:=S2.out OV;clear S1 S2 OV;go_wp2_with fail;refine (F3 g ⟨own,port,win,L⟩ j _ FA hLJ.out).mono ?_;rintro e w2 ⟨rfl,FA2,o2⟩;dsimp only at FA2;rw [hS] at FA2;replace ho:=ho.trans o2;clear o2 FA hS;go_wp2_with fail;go_roundw;case rel=>exact ⟨j,_,by have:=hKJ.out;omega,rfl,hid rfl,FA2,ho⟩
    case measure=>exact vZ
   ·have hS:=S1.out OV;clear S1 S2 OV;rw [hS] at FA;clear hS;go_wp2_with fail;go_roundw;case rel=>exact ⟨j,_,by have:=hKJ.out;omega,rfl,hid rfl,FA,ho⟩
    case measure=>exact vZ
theorem Io (r:Vc) (w:World):(Instr.buildSlice 258 1 #[(0,.agg (dF r).toArray)]).run prog w=.ok (.slice (some ⟨w.heap.size,0,none⟩) 1 1) (w.alloc (Obj.cells (dF r).toArray 148)):=by kernel_rfl
def Q7 (a b c d:Int):Int:=if a≠0 then a else if b≠0 then b else if c≠0 then c else d
theorem sG (c p c' p':Int):nW c p c' p'=nV [c,p] [c',p']:=by
 unfold nW bQ nV nV nV;by_cases h1:c<c'
 ·simp [h1,show ¬c=c' by omega]
 ·by_cases h2:c'<c
  ·simp [h1,h2,show ¬c=c' by omega]
  ·simp [h1,h2,show c=c' by omega]
theorem xS (a b:Int) (xs ys:List Int):nV (a::xs) (b::ys)=if bQ a b≠0 then bQ a b else nV xs ys:=by
 rw [zh];unfold bQ;by_cases h1:a<b
 ·simp [h1]
 ·by_cases h2:b<a
  ·simp [h1,h2]
  ·simp [h1,h2]
theorem uh:nV [] []=0:=rfl
theorem Ns (c a v c' a' v':Int):vY c a v c' a' v'=nV [c,a,v] [c',a',v']:=by
 rw [←zo];simp only [KE,xS,uh];by_cases h1:bQ c c'=0
 ·by_cases h2:bQ a a'=0
  ·by_cases h3:bQ v v'=0 <;> simp [h1,h2,h3]
  ·simp [h1,h2]
 ·simp [h1]
theorem Nt (a b:Vc):jc a b=Q7 (bQ a.p1 b.p1) (vY a.qc a.qa a.qv b.qc b.qa b.qv) (bQ a.p2 b.p2) (bQ a.gr b.gr):=by
 rw [Ns];unfold jc Ua Q7;simp only [xS,uh];by_cases h1:bQ a.p1 b.p1=0
 ·by_cases h2:bQ a.qc b.qc=0
  ·by_cases h3:bQ a.qa b.qa=0
   ·by_cases h4:bQ a.qv b.qv=0
    ·by_cases h5:bQ a.p2 b.p2=0
     ·by_cases h6:bQ a.gr b.gr=0 <;> simp [h1,h2,h3,h4,h5,h6]
     ·simp [h1,h2,h3,h4,h5]
    ·simp [h1,h2,h3,h4]
   ·simp [h1,h2,h3]
  ·simp [h1,h2]
 ·simp [h1]
theorem Zo {a b c d:Int} (h:a≠0):Q7 a b c d=a:=if_pos h
theorem Zp {b c d:Int} (h:b≠0):Q7 0 b c d=b:=by unfold Q7;simp [h]
theorem Zq {c d:Int} (h:c≠0):Q7 0 0 c d=c:=by unfold Q7;simp [h]
theorem SG {d:Int} :Q7 0 0 0 d=d:=by unfold Q7;simp
theorem ze {K:Act→World→Prop} (x y:Operand) (ho:op.op=.store 339 x y)
  (g:Nat) (x1 x2 x3 x4:Int) (t:TypeId) (hx:a.eval x=.pointer (some ⟨g,0,none⟩)) (hy:a.eval y=.agg #[.int .i64 x1,.int .i64 x2,.int .i64 x3,.int .i64 x4]) (hB:ak w g [.int .i64 0,.int .i64 0,.int .i64 0,.int .i64 0] t)
  (h:K (a.put op.dst undef) (w.setRow g ([.int .i64 x1,.int .i64 x2,.int .i64 x3,.int .i64 x4]:List Value).toArray)):op.wp prog a w K Q:=
 wp_store_row _ x y ho g ([.int .i64 x1,.int .i64 x2,.int .i64 x3,.int .i64 x4]:List Value).toArray hx hy t ([.int .i64 0,.int .i64 0,.int .i64 0,.int .i64 0]:List Value).toArray hB aW rfl (by simp [Value.oneCell']) h
theorem ak.Xb (h:ak w g xs t) (x1 x2 x3 x4:Int):ak (w.setRow g ([.int .i64 x1,.int .i64 x2,.int .i64 x3,.int .i64 x4]:List Value).toArray) g [.int .i64 x1,.int .i64 x2,.int .i64 x3,.int .i64 x4] t:=by exact IX
theorem D7 (w:World) (a b:Vc):∃W,W=(w.alloc (Obj.cells (dF a).toArray 148)).alloc (Obj.cells (dF b).toArray 148)∧Below w.heap.size w W∧ak W w.heap.size (dF a) 148∧ak W (w.heap.size+1) (dF b) 148:=by refine ⟨_,rfl,qz _ _ _,(ak.new w (dF a) 148).below (aA _ _),?_⟩;have:=ak.new (w.alloc (Obj.cells (dF a).toArray 148)) (dF b) 148;rwa [show (w.alloc (Obj.cells (dF a).toArray 148)).heap.size=w.heap.size+1 by simp] at this
def Q8:Prop:=∀(a b:Vc) (w:World),
 Calls prog 241 #[.agg (dF a).toArray,.agg (dF b).toArray] w fun e w'=>e=.returned (.int .i64 (jc a b))∧Below w.heap.size w w'
def Vx:Prop:=∀(a b:Vc) (w:World),qK a.st→qK b.st →
 Calls prog 209 #[.agg (dF a).toArray,.agg (dF b).toArray] w fun e w'=>e=.returned (.int .i64 (cB a b))∧Below w.heap.size w w'
theorem JR:Q8:=by
 intro a b w;have HG:=hid (Nt a b);go_enter func241,ntmps241;go_upto_region 1 with fail;obtain ⟨W,iX,hbw,hP,hQ⟩:=D7 w a b;rw [←iX];clear iX;have HP:=hid hP;have HQ:=hid hQ;clear hP hQ;apply U0 (P:=fun (g8:Nat) (w':World)=>Below w.heap.size w w'∧ak w' g8 [.int .i64 (bQ a.p1 b.p1),.int .i64 (vY a.qc a.qa a.qv b.qc b.qa b.qv),.int .i64 (bQ a.p2 b.p2),.int .i64 (bQ a.gr b.gr)] 339);case h1=>
  intro tail;have hbW:=Below.drew (Below.refl W.heap.size W);have pP:=fun wx (h:Below W.drew.heap.size W.drew wx)=>HP.out.below (R7 h);have pQ:=fun wx (h:Below W.drew.heap.size W.drew wx)=>HQ.out.below (R7 h);refine wp_region_held_drew (S:=fun w'=>Below W.drew.heap.size W.drew w') aW (Below.refl _ _) ?_;intro hHeld;generalize W.drew=wd at *;have cP0:=fun wx h=>(pP wx h).cell 0 _ rfl;have cQ0:=fun wx h=>(pQ wx h).cell 0 _ rfl;have cP1:=fun wx h=>(pP wx h).cell 1 _ rfl;have cQ1:=fun wx h=>(pQ wx h).cell 1 _ rfl;have cP2:=fun wx h=>(pP wx h).cell 2 _ rfl;have cQ2:=fun wx h=>(pQ wx h).cell 2 _ rfl;have cP3:=fun wx h=>(pP wx h).cell 3 _ rfl;have cQ3:=fun wx h=>(pQ wx h).cell 3 _ rfl;have cP4:=fun wx h=>(pP wx h).cell 4 _ rfl;have cQ4:=fun wx h=>(pQ wx h).cell 4 _ rfl;have cP5:=fun wx h=>(pP wx h).cell 5 _ rfl;have cQ5:=fun wx h=>(pQ wx h).cell 5 _ rfl;clear pP pQ;refine tk [0,1,2,3,5,6,7,8,10,11,12,13,15,16,17,18] hHeld ?_;clear cP0 cP1 cP2 cP3 cP4 cP5 cQ0 cQ1 cQ2 cQ3 cQ4 cQ5;refine I_ 4 21 rfl rfl aW bn bn (fun K hK=>?_) (fun K hK=>?_)
  ·skip;go_simp;refine (h_ _ _ _).mono ?_;rintro e wy ⟨rfl,rfl⟩;refine hK.out _ _ hHeld ?_;clear hK K;try simp only [Act.put,zI,bG,zS]
   refine I_ 9 21 rfl rfl aW bn bn (fun K hK=>?_) (fun K hK=>?_)
   ·skip;go_simp;refine (rC _ _ _ _ _ _ _).mono ?_;rintro e wq ⟨rfl,hbq⟩;replace hHeld:=ah hHeld hbq;refine hK.out _ _ hHeld ?_;clear hK K hbq;try simp only [Act.put,zI,bG,zS]
    refine I_ 14 21 rfl rfl aW bn bn (fun K hK=>?_) (fun K hK=>?_)
    ·skip;go_simp;refine (h_ _ _ _).mono ?_;rintro e wy ⟨rfl,rfl⟩;refine hK.out _ _ hHeld ?_;clear hK K;try simp only [Act.put,zI,bG,zS]
     refine I_ 19 21 rfl rfl aW bn bn (fun K hK=>?_) (fun K hK=>?_)
     ·skip;go_simp;refine (rD _ _ _).mono ?_;rintro e wy ⟨rfl,rfl⟩;refine hK.out _ _ hHeld ?_;clear hK K;try simp only [Act.put,zI,bG,zS]
      refine tk [20] hHeld ?_;refine aR 21 fun K hK=>?_;go_simp;have hA:=ak.new wq [.int .i64 0,.int .i64 0,.int .i64 0,.int .i64 0] 339;have hna:=aA wq (Obj.cells ([.int .i64 0,.int .i64 0,.int .i64 0,.int .i64 0]:List Value).toArray 339);have hgs:=hHeld.size;change K _ (wq.alloc (Obj.cells ([.int .i64 0,.int .i64 0,.int .i64 0,.int .i64 0]:List Value).toArray 339));replace hHeld:=ah hHeld hna;refine hK.out _ _ hHeld ?_;clear hK K hna;generalize wq.alloc _=WA at *;try simp only [Act.put,zI,bG,zS]
      exact mq9
     ·skip;go_simp;have hA:=ak.new wq [.int .i64 0,.int .i64 0,.int .i64 0,.int .i64 0] 339;have hna:=aA wq (Obj.cells ([.int .i64 0,.int .i64 0,.int .i64 0,.int .i64 0]:List Value).toArray 339);have hgs:=hHeld.size;change K _ (wq.alloc (Obj.cells ([.int .i64 0,.int .i64 0,.int .i64 0,.int .i64 0]:List Value).toArray 339));replace hHeld:=ah hHeld hna;refine hK.out _ _ hHeld ?_;clear hK K hna;generalize wq.alloc _=WA at *;exact Xp
    ·skip;go_simp;have hA:=ak.new wq [.int .i64 0,.int .i64 0,.int .i64 0,.int .i64 0] 339;have hna:=aA wq (Obj.cells ([.int .i64 0,.int .i64 0,.int .i64 0,.int .i64 0]:List Value).toArray 339);have hgs:=hHeld.size;change K _ (wq.alloc (Obj.cells ([.int .i64 0,.int .i64 0,.int .i64 0,.int .i64 0]:List Value).toArray 339));replace hHeld:=ah hHeld hna;refine hK.out _ _ hHeld ?_;clear hK K hna;generalize wq.alloc _=WA at *;try simp only [Act.put,zI,bG,zS]
     refine aR 14 fun K hK=>?_;go_simp;refine (h_ _ _ _).mono ?_;rintro e wy ⟨rfl,rfl⟩;refine hK.out _ _ hHeld ?_;clear hK K;exact Xp
   ·skip;go_simp;have hA:=ak.new wd [.int .i64 0,.int .i64 0,.int .i64 0,.int .i64 0] 339;have hna:=aA wd (Obj.cells ([.int .i64 0,.int .i64 0,.int .i64 0,.int .i64 0]:List Value).toArray 339);have hgs:=hHeld.size;change K _ (wd.alloc (Obj.cells ([.int .i64 0,.int .i64 0,.int .i64 0,.int .i64 0]:List Value).toArray 339));replace hHeld:=ah hHeld hna;refine hK.out _ _ hHeld ?_;clear hK K hna;generalize wd.alloc _=WA at *;exact Xc
  ·skip;go_simp;have hA:=ak.new wd [.int .i64 0,.int .i64 0,.int .i64 0,.int .i64 0] 339;have hna:=aA wd (Obj.cells ([.int .i64 0,.int .i64 0,.int .i64 0,.int .i64 0]:List Value).toArray 339);have hgs:=hHeld.size;change K _ (wd.alloc (Obj.cells ([.int .i64 0,.int .i64 0,.int .i64 0,.int .i64 0]:List Value).toArray 339));replace hHeld:=ah hHeld hna;refine hK.out _ _ hHeld ?_;clear hK K hna;generalize wd.alloc _=WA at *;try simp only [Act.put,zI,bG,zS]
   refine aR 4 fun K hK=>?_;go_simp;refine (h_ _ _ _).mono ?_;rintro e wy ⟨rfl,rfl⟩;refine hK.out _ _ hHeld ?_;clear hK K;exact Xc
 rintro g8 W5 ⟨hbel,hA⟩;generalize bQ a.p1 b.p1=x1 at *;generalize vY a.qc a.qa a.qv b.qc b.qa b.qv=x2 at *;generalize bQ a.p2 b.p2=x3 at *;generalize bQ a.gr b.gr=x4 at *;have c0:=hA.cell 0 _ rfl;have c1:=hA.cell 1 _ rfl;have c2:=hA.cell 2 _ rfl;have c3:=hA.cell 3 _ rfl;clear hA;have i0:∀w:World,(Instr.index 339 (.agg #[.int .i64 x1,.int .i64 x2,.int .i64 x3,.int .i64 x4]) (.int .i64 0)).run prog w=.ok (.int .i64 x1) w:=fun _=>by kernel_rfl
 have i1:∀w:World,(Instr.index 339 (.agg #[.int .i64 x1,.int .i64 x2,.int .i64 x3,.int .i64 x4]) (.int .i64 1)).run prog w=.ok (.int .i64 x2) w:=fun _=>by kernel_rfl
 have i2:∀w:World,(Instr.index 339 (.agg #[.int .i64 x1,.int .i64 x2,.int .i64 x3,.int .i64 x4]) (.int .i64 2)).run prog w=.ok (.int .i64 x3) w:=fun _=>by kernel_rfl
 have i3:∀w:World,(Instr.index 339 (.agg #[.int .i64 x1,.int .i64 x2,.int .i64 x3,.int .i64 x4]) (.int .i64 3)).run prog w=.ok (.int .i64 x4) w:=fun _=>by kernel_rfl
 go_wp2_with fail;refine wp_loop_rounds 5 ?_;by_cases h1:x1=0
 ·subst h1;rw [rounds_succ];go_wp2_with fail;by_cases h2:x2=0
  ·subst h2;rw [rounds_succ];go_wp2_with fail;by_cases h3:x3=0
   ·subst h3;rw [rounds_succ];go_wp2_with fail;by_cases h4:x4=0
    ·subst h4;rw [rounds_succ];go_wp2_with fail;rw [rounds_succ];go_wp2_with fail;go_ret;exact ⟨bC (by rw [HG.out];exact SG.symm),hbel⟩
    ·rw [rounds_succ];go_wp2_with fail;go_ret;exact ⟨bC (by rw [HG.out];exact (SG).symm),hbel⟩
   ·rw [rounds_succ];go_wp2_with fail;go_ret;exact ⟨bC (by rw [HG.out];exact (Zq h3).symm),hbel⟩
  ·rw [rounds_succ];go_wp2_with fail;go_ret;exact ⟨bC (by rw [HG.out];exact (Zp h2).symm),hbel⟩
 ·rw [rounds_succ];go_wp2_with fail;go_ret;exact ⟨bC (by rw [HG.out];exact (Zo h1).symm),hbel⟩
theorem vg (a:Vc) (n:Int) (w:World) (ha:qK a.st) (hn:n<a.st) (hn0:qK n):Calls prog 242 #[.agg (dF a).toArray,.int .i64 n] w fun e w'=>e=.returned (.int .i64 (if n+1<a.st then 2 else nE a))∧Below w.heap.size w w':=by
 have hw:IntKind.i64.wrap (n+1)=n+1:=by unfold qK at *;rw [IntKind.wrap_i64];omega
 have HL:=hid (show nE a=if nW a.rc a.rp a.sc a.sp = -1 then 2 else if nW a.rc a.rp a.sc a.sp=1 then 1 else 0 by unfold nE La;rw [sG]);have hr:nW a.rc a.rp a.sc a.sp = -1∨nW a.rc a.rp a.sc a.sp=0∨nW a.rc a.rp a.sc a.sp=1:=by rw [sG];exact mQ _ _
 have hB:=ak.new w (dF a) 148;have hb:=aA w (Obj.cells (dF a).toArray 148);by_cases h:n+1<a.st
 ·rw [if_pos h];go_enter func242,ntmps242;go_upto_region 1 with fail;change Code.wp prog _ _ _ (w.alloc (Obj.cells (dF a).toArray 148));generalize w.alloc (Obj.cells (dF a).toArray 148)=W at *;generalize hG:w.heap.size=G at *;have c4:=hB.cell 6 _ rfl;clear HL hr hn hn0 ha;go_wp2_with fail;go_ret;exact ⟨rfl,hG▸hb⟩
 ·rw [if_neg h];go_enter func242,ntmps242;go_upto_region 1 with fail;change Code.wp prog _ _ _ (w.alloc (Obj.cells (dF a).toArray 148));generalize w.alloc (Obj.cells (dF a).toArray 148)=W at *;have c6:=hB.cell 6 _ rfl;clear hn hn0 ha;go_upto_region 4 with fail;have hn1:=aA W (Obj.cells ([.int .i64 2,.int .i64 0,.int .i64 1]:List Value).toArray 112);have hN:=ak.new W [.int .i64 2,.int .i64 0,.int .i64 1] 112;replace hB:=hB.below hn1;replace hb:=ah hb hn1;change Code.wp prog _ _ _ (W.alloc (Obj.cells ([.int .i64 2,.int .i64 0,.int .i64 1]:List Value).toArray 112));generalize W.alloc (Obj.cells ([.int .i64 2,.int .i64 0,.int .i64 1]:List Value).toArray 112)=W2 at *;generalize W.heap.size=g9 at *;clear c6 hn1 h hw;have c7:=hB.cell 7 _ rfl;have c8:=hB.cell 8 _ rfl;have c9:=hB.cell 9 _ rfl;have c10:=hB.cell 10 _ rfl;go_wp2_with fail;refine (uP _ _ _ _ _).mono ?_;rintro e w3 ⟨rfl,b3⟩;replace hN:=hN.below b3;replace hb:=ah hb b3;clear b3 c7 c8 c9 c10 hB;have c0:=hN.cell 0 _ rfl;have c1:=hN.cell 1 _ rfl;have c2:=hN.cell 2 _ rfl;generalize nW a.rc a.rp a.sc a.sp=C at *;rcases hr with rfl | rfl | rfl
  all_goals
   (go_wp2_with fail;go_ret;exact ⟨bC (by rw [HL.out];rfl),hb⟩)
theorem Nu {a b:Vc} (h0:jc a b=0) (h:b.st<a.st):cB a b=if b.st+1<a.st then 2 else nE a:=by
 unfold cB;rw [if_neg aJ];by_cases h1:b.st+1<a.st
 ·rw [if_pos h1,if_pos h1]
 ·rw [if_neg h1,if_neg h1,if_neg aJ,if_pos h]
theorem JU {a b:Vc} (h0:jc a b=0) (h:a.st<b.st):cB a b = - (if a.st+1<b.st then 2 else nE b):=by
 unfold cB;rw [if_neg aJ];by_cases h1:a.st+1<b.st
 ·rw [if_neg aJ,if_pos h1,if_pos h1]
 ·rw [if_neg aJ,if_neg h1,if_neg aJ,if_pos h,if_neg h1]
theorem F4 {a b:Vc} (h0:jc a b=0) (h:a.st=b.st):cB a b=if nW a.sc a.sp b.sc b.sp≠0 then nW a.sc a.sp b.sc b.sp else bQ a.rp b.rp:=by
 unfold cB;rw [if_neg aJ,if_neg aJ,if_neg aJ,if_neg aJ,if_neg aJ,sG];simp only [xS,uh];by_cases h1:bQ a.sc b.sc=0
 ·by_cases h2:bQ a.sp b.sp=0
  ·by_cases h3:bQ a.rp b.rp=0 <;> simp [h1,h2,h3]
  ·simp [h1,h2]
 ·simp [h1]
theorem F5 (a b:Int):bQ a b = -1∨bQ a b=0∨bQ a b=1:=by
 unfold bQ;split
 ·left;rfl
 ·split
  ·right;right;rfl
  ·right;left;rfl
theorem xU:Vx:=by
 intro a b w ha hb;have HR:=hid (JR a b);have hr:=uO a b;go_enter func209,ntmps209;go_upto_region 1 with fail;obtain ⟨W,iX,hbw,hP,hQ⟩:=D7 w a b;rw [←iX];clear iX;generalize hg1:w.heap.size=g1 at *;generalize g1+1=g2 at *;refine jO ?_;intro Q' hret hgo;go_wp2_with (first | (guard_target =~ wpList _ _ _ (⟨some 6,.load _ _,_,_,_,_⟩::_) _ _;refine bA (op:=⟨some 6,.load _ _,_,_,_,_⟩) bn _ bn g1 bn a _ hP ?_) | (guard_target =~ wpList _ _ _ (⟨some 7,.load _ _,_,_,_,_⟩::_) _ _;refine bA (op:=⟨some 7,.load _ _,_,_,_,_⟩) bn _ bn g2 bn b _ hQ ?_));refine (HR.out W).mono ?_;rintro e w1 ⟨rfl,b1⟩;rw [←hg1] at hbw;replace hbw:=ah hbw b1;replace hP:=hP.below b1;replace hQ:=hQ.below b1;rcases hr with hg | hg | hg
 ·have hc:=wL (a:=a) (b:=b) aJ;rw [hg] at hc ⊢;clear HR;have HC:=hid hc;clear hc hg b1 hP hQ;go_wp2_with fail;go_step3;refine hgo 0 _ _ _ rfl ?_;go_wp2_with fail;rw [Exit.noGoto_ret];go_ret;exact ⟨bC HC.out.symm,hbw⟩
 ·have HS:=hid hg;rw [hg];clear HR hg b1;by_cases hlt:b.st<a.st
  ·have HC:=hid (Nu HS.out hlt);have HF:=hid (vg a b.st);have hst:qK a.st:=ha;have Zr:qK b.st:=hb;have HI:=hid (And.intro hst Zr);clear hst Zr ha hb;have WH:=hP.cell 6 _ rfl;have Zt:=hQ.cell 6 _ rfl;go_wp2_with (guard_target =~ wpList _ _ _ (⟨some 17,.load _ _,_,_,_,_⟩::_) _ _;refine bA (op:=⟨some 17,.load _ _,_,_,_,_⟩) bn _ bn g1 bn a _ hP ?_);refine (HF.out _ HI.out.1 hlt HI.out.2).mono ?_;rintro e w2 ⟨rfl,b2⟩;rw [←HC.out];replace hbw:=ah hbw b2;clear HF b2 WH Zt hP hQ;go_wp2_with fail;go_step3;refine hgo 0 _ _ _ rfl ?_;go_wp2_with fail;rw [Exit.noGoto_ret];go_ret;exact ⟨rfl,hbw⟩
  ·by_cases hgt:a.st<b.st
   ·have HC:=hid (JU HS.out hgt);have HF:=hid (vg b a.st);have HI:=hid (And.intro ha hb);have HN:=hid (EH a b);have WH:=hP.cell 6 _ rfl;have Zt:=hQ.cell 6 _ rfl;clear ha hb;go_wp2_with (guard_target =~ wpList _ _ _ (⟨some 26,.load _ _,_,_,_,_⟩::_) _ _;refine bA (op:=⟨some 26,.load _ _,_,_,_,_⟩) bn _ bn g2 bn b _ hQ ?_);refine (HF.out _ HI.out.2 hgt HI.out.1).mono ?_;rintro e w2 ⟨rfl,b2⟩;replace hbw:=ah hbw b2;have hn:=HN.out;have hc:=HC.out;clear HF b2 WH Zt hP hQ;generalize (if a.st+1<b.st then (2:Int) else nE b)=F at *;have hwr:IntKind.i64.wrap (-F) = -F:=by rw [IntKind.wrap_i64];omega
    clear hn;have HC:=hid hc;clear hc;go_wp2_with fail;go_step3;refine hgo 0 _ _ _ rfl ?_;go_wp2_with fail;rw [Exit.noGoto_ret];go_ret;exact ⟨bC HC.out.symm,hbw⟩
   ·have heq:a.st=b.st:=by omega
    have HC:=hid (F4 HS.out heq);have WH:=hP.cell 6 _ rfl;have Zt:=hQ.cell 6 _ rfl;rw [heq] at WH;have hnn:¬b.st<b.st:=by omega
    clear hlt hgt heq ha hb HS;have cP7:=hP.cell 7 _ rfl;have cQ7:=hQ.cell 7 _ rfl;have cP8:=hP.cell 8 _ rfl;have cQ8:=hQ.cell 8 _ rfl;have hri:nW a.sc a.sp b.sc b.sp = -1∨nW a.sc a.sp b.sc b.sp=0∨nW a.sc a.sp b.sc b.sp=1:=by rw [sG];exact mQ _ _
    have hrj:=F5 a.rp b.rp;go_wp2_with fail;refine (uP _ _ _ _ _).mono ?_;rintro e w2 ⟨rfl,b2⟩;replace hbw:=ah hbw b2;replace hP:=hP.below b2;replace hQ:=hQ.below b2;clear WH Zt cP7 cP8 cQ7 cQ8 b2;have cP10:=hP.cell 10 _ rfl;have cQ10:=hQ.cell 10 _ rfl;have hc:=HC.out;clear HC;generalize nW a.sc a.sp b.sc b.sp=C at *;rcases hri with rfl | rfl | rfl
    ·have HC:=hid hc;clear hc;go_wp2_with fail;go_step3;refine hgo 0 _ _ _ rfl ?_;go_wp2_with fail;rw [Exit.noGoto_ret];go_ret;exact ⟨bC T_,hbw⟩
    ·have HC:=hid hc;clear hc;go_wp2_with fail;refine (h_ _ _ _).mono ?_;rintro e w3 ⟨rfl,rfl⟩;have hc:=HC.out;clear HC;generalize bQ a.rp b.rp=D at *;have HC:=hid hc;clear hc;rcases hrj with rfl | rfl | rfl
     all_goals
      (go_wp2_with fail;refine wp_label ?_;go_wp2_with fail;refine hret _ _ ?_;go_ret;exact ⟨bC T_,hbw⟩)
    ·have HC:=hid hc;clear hc;go_wp2_with fail;go_step3;refine hgo 0 _ _ _ rfl ?_;go_wp2_with fail;rw [Exit.noGoto_ret];go_ret;exact ⟨bC T_,hbw⟩
 ·have hc:=wL (a:=a) (b:=b) aJ;rw [hg] at hc ⊢;clear HR;have HC:=hid hc;clear hc hg b1 hP hQ;go_wp2_with fail;go_step3;refine hgo 0 _ _ _ rfl ?_;go_wp2_with fail;rw [Exit.noGoto_ret];go_ret;exact ⟨bC HC.out.symm,hbw⟩
theorem Vy:COwn:=by
 intro c w hcl;have hB:=ak.new w (cfL c) 28;have hb:=aA w (Obj.cells (cfL c).toArray 28);have hn0:=aA (w.alloc (Obj.cells (cfL c).toArray 28)) (Obj.cells (dF zeroV).toArray 148);have hV:=ak.new (w.alloc (Obj.cells (cfL c).toArray 28)) (dF zeroV) 148;replace hB:=hB.below hn0;replace hb:=ah hb hn0;go_enter func113,ntmps113;go_upto_region 1 with fail;change Code.wp prog _ _ _ ((w.alloc (Obj.cells (cfL c).toArray 28)).alloc (Obj.cells (dF zeroV).toArray 148));have hs1:(w.alloc (Obj.cells (cfL c).toArray 28)).heap.size=w.heap.size+1:=by simp
 rw [hs1] at hV;generalize (w.alloc (Obj.cells (cfL c).toArray 28)).alloc (Obj.cells (dF zeroV).toArray 148)=W at *;clear hn0 hs1;have c0:=hB.cell 0 _ rfl;go_upto_region 2 with fail;have hn1:=aA W (Obj.cells ([.int .u64 c.cl,.int .i64 0]:List Value).toArray 54);have hN:=ak.new W [.int .u64 c.cl,.int .i64 0] 54;replace hB:=hB.below hn1;replace hV:=hV.below hn1;replace hb:=ah hb hn1;change Code.wp prog _ _ _ (W.alloc (Obj.cells ([.int .u64 c.cl,.int .i64 0]:List Value).toArray 54));generalize W.alloc (Obj.cells ([.int .u64 c.cl,.int .i64 0]:List Value).toArray 54)=W2 at *;generalize W.heap.size=g9 at *;clear c0 hn1;have c0:=hB.cell 0 _ rfl;have c3:=hB.cell 3 _ rfl;have c4:=hB.cell 4 _ rfl;have c5:=hB.cell 5 _ rfl;have c6:=hB.cell 6 _ rfl;have c7:=hB.cell 7 _ rfl;have d0:=hN.cell 0 _ rfl;have d1:=hN.cell 1 _ rfl;clear hB hN;generalize hG:w.heap.size=G at *;rw [←hG] at hb;go_wp2_with (guard_target =~ wpList _ _ _ (⟨none,.store _ _ _,_,_,_,_⟩::_) _ _;refine lQ (op:=⟨none,.store _ _ _,_,_,_,_⟩) bn _ _ bn (G+1) (Am c) (zeroV) _ bn bn hV ?_);exact bodyPost_ret (v:=.agg (dF (Am c)).toArray) (results_cell_row rfl _ _ (G+1) _ _ (0,0) _ rfl (hV.Ye _) underlying148 rfl (by rw [wG];rfl)) rfl ⟨rfl,below_setRow hb aJ _⟩
theorem JV {off:Nat} {l:List Vc} (h:∀j v,(kg.cells l)[j]? = some v→w.cell? ⟨b,off+j,none⟩=some v) (i:Nat) (hi:i<l.length):w.rangeAt b (off+i*11) (dF l[i]):=fun j v hj=>by have hj11:j<11:=(List.getElem?_eq_some_iff.1 hj).1;have:=RowK.At.cell (K:=kg) h i j hi hj11 v hj;rw [Nat.add_assoc];exact this
def Vz:Prop:=∀(v:Value) (l:List Vc) (w:World),kg.Reads w v l→l.length≤40→(∀a ∈ l,qK a.st) →
 Calls prog 166 #[v] w fun e w'=>e=.returned (.int .i64 (cO l l.length))∧Below w.heap.size w w'
theorem D8:Vz:=by
 intro v l w hR hl40 hin;obtain ⟨p,cap,rfl,hcap,hmax,hat⟩:=hR;have HAT:=hid fun h=>RowK.At.pos (K:=kg) hat h;have yI:=hid hin;unfold maxLen at hmax;clear hat hin;go_enter func166,ntmps166;go_wp2_with fail;go_loopw [3,8] (fun best i wr=>∃(k:Nat) (B:Int),k≤l.length∧i=.int .i64 k∧best=.int .i64 B∧Hid (B=cO l k)∧Below w.heap.size w wr) (fun _ i _=>l.length - (intOf i).toNat);case atStart=>exact ⟨0,-1,Nat.zero_le _,rfl,rfl,hid rfl,Below.refl _ _⟩
 case round=>
  obtain ⟨k,B,hk,rfl,rfl,hB,hb⟩:=hrel;by_cases hlt:k<l.length
  ·obtain ⟨b,off,rfl,hbl,hrow⟩:=HAT.out aJ;have HC:=hid fun (wx:World) (h:Below w.heap.size w wx) (i:Nat) (hi:i<l.length)=>JV (fun j u hj=>by rw [h.cell (p:=⟨b,off+j,none⟩) hbl];exact hrow j u hj) i hi;clear hrow;have Wq:(k:Int)<(l.length:Int):=by omega
   go_upto_region 5 with (first | (refine aD 12 ?_;refine wpList_load_mid (op:=⟨some 12,.load _ _,_,_,_,_⟩) bn _ _ bn b (off+k*11) bn (dF l[k]) _ (HC.out _ hb k hlt) underlying148 rfl K5 ?_) | (guard_target =~ wpList _ _ _ (⟨none,.store _ _ _,_,_,_,_⟩::_) _ _;refine lQ (op:=⟨none,.store _ _ _,_,_,_,_⟩) bn _ _ bn wr.heap.size l[k] zeroV _ bn bn (ak.new wr _ _) ?_));have hn1:=aA wr (Obj.cells (dF zeroV).toArray 148);have hV:=(ak.new wr (dF zeroV) 148).Ye (dF l[k]);have hW:=below_setRow hn1 (Nat.le_refl _) (dF l[k]).toArray;change Code.wp prog _ _ _ ((wr.alloc (Obj.cells (dF zeroV).toArray 148)).setRow wr.heap.size (dF l[k]).toArray);generalize (wr.alloc (Obj.cells (dF zeroV).toArray 148)).setRow wr.heap.size (dF l[k]).toArray=W at *;replace hb:=ah hb hW;generalize wr.heap.size=g9 at *;clear hn1 hW;rcases jo l k with ⟨hk0,hB1⟩ | ⟨hB0,hB1⟩
   ·have HN:=hid (nX l k aJ);obtain rfl:B = -1:=hB.out.trans hB1;clear hB1;refine wp_region_held_drew (S:=fun w'=>Below W.drew.heap.size W.drew w') aW (Below.refl _ _) ?_;intro hHeld;have hbd:=Below.drew (Below.refl W.heap.size W);replace hb:=ah hb hbd;replace hV:=hV.below hbd;generalize W.drew=wd at *;refine tk [0,1,2] hHeld ?_;refine aP 3 hHeld ?_;refine aP 4 hHeld ?_;refine aP 5 hHeld ?_;refine aP 6 hHeld ?_;refine aP 7 hHeld ?_;refine aP 8 hHeld ?_;refine aP 9 hHeld ?_;refine tk [10] hHeld ?_;refine wpAnyH_done aW ?_ _;clear hHeld hbd;exact XF
   ·obtain ⟨K,hBK⟩:∃K:Nat,B=(K:Int):=⟨B.toNat,by have:=hB.out;omega⟩;subst hBK;have hKk:K<k:=by have:=hB.out;omega
    have D9:K<l.length:=by omega
    have hKn:¬(K:Int)<0:=by omega
    have hKI:(K:Int)<(l.length:Int):=by omega
    have hcmp:cB (yC l (cO l k)) (yC l k)=cB l[K] l[k]:=by rw [←hB.out,pK l K D9,pK l k hlt]
    have hX0:=fun w=>xU l[K] l[k] w (yI.out _ (List.getElem_mem D9)) (yI.out _ (List.getElem_mem hlt));by_cases hx:0<cB l[K] l[k]
    ·have HN:=hid (kR l k (by have:=hB.out;omega) (by rw [hcmp];exact hx));clear hcmp hB0 hB1 hB;generalize cB l[K] l[k]=X at *;have HX:=hX0;clear hX0;refine wp_region_held_drew (S:=fun w'=>Below W.drew.heap.size W.drew w') aW (Below.refl _ _) ?_;intro hHeld;have hbd:=Below.drew (Below.refl W.heap.size W);replace hb:=ah hb hbd;replace hV:=hV.below hbd;generalize W.drew=wd at *;refine tk [0,1,2,3,4,5] hHeld ?_;refine rt 6 hHeld ?_ (hy:=fun wx hwx=>eO _ rfl b (off+K*11) rfl l[K] (HC.out _ (ah hb hwx) K D9));refine rt 7 hHeld ?_ (hy:=fun wx hwx=>kY _ rfl g9 rfl l[k] _ (hV.below hwx));refine aR 8 fun K' hK=>?_;go_simp;refine (HX _).mono ?_;rintro e w8 ⟨rfl,b8⟩;refine hK.out _ _ b8 ?_;clear hK;refine f_ (S':=fun w'=>Below w8.heap.size w8 w') (fun w' h=>ah b8 h) _ _ _ _ ?_;replace hb:=ah hb b8;clear hHeld hbd b8 hV;have hHeld:=Below.refl w8.heap.size w8;try simp only [Act.put,zI,bG,zS]
     refine tk [9,10] hHeld ?_;refine wpAnyH_done aW ?_ _;clear hHeld HX;exact XF
    ·have HN:=hid ((kS l k (by have:=hB.out;omega) (by rw [hcmp];exact hx)).trans hB.out.symm);clear hcmp hB0 hB1 hB;generalize cB l[K] l[k]=X at *;have HX:=hX0;clear hX0;refine wp_region_held_drew (S:=fun w'=>Below W.drew.heap.size W.drew w') aW (Below.refl _ _) ?_;intro hHeld;have hbd:=Below.drew (Below.refl W.heap.size W);replace hb:=ah hb hbd;replace hV:=hV.below hbd;generalize W.drew=wd at *;refine tk [0,1,2,3,4,5] hHeld ?_;refine rt 6 hHeld ?_ (hy:=fun wx hwx=>eO _ rfl b (off+K*11) rfl l[K] (HC.out _ (ah hb hwx) K D9));refine rt 7 hHeld ?_ (hy:=fun wx hwx=>kY _ rfl g9 rfl l[k] _ (hV.below hwx));refine aR 8 fun K' hK=>?_;go_simp;refine (HX _).mono ?_;rintro e w8 ⟨rfl,b8⟩;refine hK.out _ _ b8 ?_;clear hK;refine f_ (S':=fun w'=>Below w8.heap.size w8 w') (fun w' h=>ah b8 h) _ _ _ _ ?_;replace hb:=ah hb b8;clear hHeld hbd b8 hV;have hHeld:=Below.refl w8.heap.size w8;try simp only [Act.put,zI,bG,zS]
     refine tk [9,10] hHeld ?_;refine wpAnyH_done aW ?_ _;clear hHeld HX;go_wp2_with fail;go_roundw;case rel=>exact ⟨k+1,K,by omega,by go_num,rfl,hid HN.out.symm,hb⟩
     case measure=>exact vZ
  ·obtain rfl:k=l.length:=by omega
   go_wp2_with fail;go_ret;exact ⟨bC hB.out,hb⟩
end Go.Proofs.YtofhdhgfcomhiaaGreat
