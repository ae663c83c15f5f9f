/- Of what laws of the clock want, part 16: ForOwn4 PorOwn ClkOwn1 ClkOwn5 ClkLoop ClkOwn2 (mini.py). -/
import Derived.Test.YtofhdhgfcomhiaaGreatCf14
import Derived.Test.YtofhdhgfcomhiaaGreatCf15
namespace Go.Proofs.YtofhdhgfcomhiaaGreat
open Go.RowKit Go.Proofs
set_option maxRecDepth 100000
set_option maxHeartbeats 100000000
set_option linter.unusedVariables false
set_option linter.unusedSimpArgs false
open Tryz
variable {B:Nat} {P:Program} {Q:Exit→Act→World→Prop} {S:World→Prop} {a:Act} {b:Nat} {base:Nat} {cap:Nat} {fuel:Nat} {g:Nat} {h:Nat} {i:Nat} {l:List UInt8} {listed:Array Bool} {n:Nat} {now:Int} {o:Oper} {oi:Oper} {op:Oper} {ops:Array Oper} {p:Prop} {rest:List Oper} {t:TypeId} {v:Value} {w:World} {w':World} {xs:List Value} {α:Type}
theorem Q9 (r:Rc) (w:World):(Instr.buildSlice 50 1 #[(0,.agg (jF r).toArray)]).run prog w=.ok (.slice (some ⟨w.heap.size,0,none⟩) 1 1) (w.alloc (Obj.cells (jF r).toArray 150)):=by kernel_rfl
theorem D_ (f:α→Bool) (l:List α) (k:Nat) (h:k<l.length) (r:α) (hr:l[k]=r):(l.take (k+1)).filter f=(l.take k).filter f++(if f r then [r] else []):=by
 subst hr;rw [fE l k h,List.filter_append];congr 1;by_cases hf:f l[k]=true
 ·rw [if_pos hf,List.filter_cons_of_pos hf];rfl
 ·rw [if_neg hf,List.filter_cons_of_neg hf];rfl
theorem Q_ (c:Nat) (w:World):(binOp .eql 50 (.slice none 0 c) (.slice none 0 0)).run prog w=.ok (.bool true) w:=by kernel_rfl
theorem Nv (a:Addr) (n c:Nat) (w:World):(binOp .eql 50 (.slice (some a) n c) (.slice none 0 0)).run prog w=.ok (.bool false) w:=by kernel_rfl
theorem F6 (v:Value) (l:List Rc) (w:World) (hR:aV.Reads w v l) (hl:l.length≤100):Calls prog 81 #[v] w fun e w'=>∃v,e=.returned v∧aV.Reads w' v l∧Below w.heap.size w w':=by
 obtain ⟨p,cap,rfl,hcap,hmax,hat⟩:=id hR;cases p with
 | none=>
  obtain rfl:l=[]:=by exact Ag
  have hq:=Q_ cap;clear hat hcap hmax hR;go_enter func81,ntmps81;go_wp2_with fail;go_ret;exact ⟨_,rfl,RowK.Reads.nil aV _,Below.refl _ _⟩
 | some a=>
  have hq:=Nv a l.length cap;have z:=aA w (Obj.cells #[] 150);have hlen:l.length*136≤140737488355328:=by omega
  have hown:aV.Own 150 (w.alloc (Obj.cells #[] 150)) w.heap.size (.slice (some ⟨w.heap.size,0,none⟩) 0 0) []:=⟨by rfl,.inr ⟨w.heap.size,0,#[],rfl,Nat.le_refl _,heap_alloc_new w _,Nat.le_refl _,Nat.zero_le _,rfl,rfl⟩⟩;have hR2:=hR.below z;have hbz:=z.size;clear hat hcap hmax;go_enter func81,ntmps81;go_wp2_with (refine aD 7 ?_;refine aV.kZ underlying50 DN rfl (o:=⟨some 7,_,_,_,_,_⟩) rfl _ _ rfl rfl w.heap.size _ _ [] l rfl rfl hown hR2 TU TU hbz ?_;intro v' w' own' F7;rw [List.nil_append] at own');go_ret;exact ⟨v',rfl,own'.reads,z.trans F7⟩
theorem Ip:Yy nM:=by
 intro g t w FA;obtain ⟨rs,h5,hn,hB,ht,hw,hin⟩:=fC FA;obtain ⟨own,port,win,l⟩:=t;replace hn:l.length≤5:=hn;replace hB:ak w g (fM own port win rs l.length) 169:=hB;replace ht:rs.take l.length=l:=ht;replace hw:1≤win∧win≤1048576:=hw;replace hin:∀r ∈ l,FR r:=hin;have hgl:=hB.lt;have Q0:=hB.cell 88 _ (fG h5);have hR0:∀wx,Below w.heap.size w wx→aV.Reads wx (.slice (some ⟨g,3,none⟩) l.length 5) l:=fun wx hx=>
  ⟨_,5,rfl,hn,by unfold maxLen;omega,.inr ⟨g,3,rfl,Nat.lt_of_lt_of_le hgl hx.size,fun j v hj=>by
   rw [hx.cell (p:=⟨g,3+j,none⟩) hgl]
   have hjl:j<l.length*17:=by
    have:=(List.getElem?_eq_some_iff.1 hj).1
    rwa [aV.aQ] at this
   refine hB.cell (3+j) v ?_
   rw [BQ h5 j aJ]
   rw [←ht,←aV.mV,List.getElem?_take_of_lt (show j<l.length*aV.n from hjl)] at hj
   exact hj⟩⟩
 have hRR:=hid hR0;have hn5:(l.length:Int)≤5:=by omega
 have hn0:(0:Int)≤(l.length:Int):=by omega
 have yI:=hid hin;have HW:=hid hw;have HB:=hid hB;have HN:=hid hn;have Ra:=hid hgl;clear FA hin hw ht hR0 h5 hn hB hgl;go_enter func46,ntmps46;go_upto_region 1 with fail;refine wp_region_held_drew (S:=fun w'=>w'.cell? ⟨g,88,none⟩=some (.int .i64 (l.length:Int))) aW (by rw [(Below.drew (Below.refl w.heap.size w)).cell (p:=⟨g,88,none⟩) Ra.out];exact Q0) ?_;intro hS;have hb:=Below.drew (Below.refl w.heap.size w);generalize w.drew=WD at *;refine tk [0,1,2,3,4,5,6,7] hS ?_;refine aR 8 fun K' hK=>?_;go_simp;refine (F6 _ l _ (hRR.out _ hb) (by have:=HN.out;omega)).mono ?_;rintro e wq ⟨v,rfl,hv,bq⟩;refine hK.out _ _ (by rw [bq.cell (p:=⟨g,88,none⟩) (Nat.lt_of_lt_of_le Ra.out hb.size)];exact hS) ?_;clear hK K' hS;try simp only [Act.put,zI,bG,zS]
 replace hb:=ah hb bq;have hS:wq.cell? ⟨g,88,none⟩=some (.int .i64 (l.length:Int)):=by rw [hb.cell (p:=⟨g,88,none⟩) Ra.out];exact Q0
 refine tk [9] hS ?_;refine wpAnyH_done aW ?_ _;go_wp2_with fail;go_ret;exact ⟨v,rfl,hv,hb⟩
theorem sH {own port win:Int} {rs:List Rc} (hgd:op.guard=none) (x y:Operand) (ho:op.op=.store 167 x y) (g:Nat) (hx:a.eval x=.pointer (some ⟨g,3,none⟩)) (hy:a.eval y=.agg (aV.cells [au,au,au,au,au]).toArray) (hB:ak w g (fM own port win rs n) 169) (h5:rs.length=5) (h:∀W,ak W g (fM own port win [au,au,au,au,au] n) 169→Only g w W→wpList prog ops Q rest (a.put op.dst undef) W):wpList prog ops Q (op::rest) a w:=by
 have hB1:ak w g (fM own port win ([]++rs++[]) n) 169:=by simpa using hB
 have hB2:=ak.recs [] [au,au,au,au,au] rs [] h5.symm hB1;have e1:(aV.cells [au,au,au,au,au]).length=85:=by rw [aV.aQ];rfl
 refine wpList_store_mid hgd _ x y ho g 3 (aV.cells [au,au,au,au,au]).toArray hx hy (hB.there 3 _ (by rw [kM h5,List.size_toArray,e1];decide)) (by rw [List.size_toArray,e1];kernel_rfl) (all_oneCell_toArray (aV.cells_one _)) ?_;exact h _ (by simpa using hB2) ((Only.refl g w).cells _ _)
theorem JW:PI nM:=by intro g t w FA;obtain ⟨rs,h5,hn,hB,ht,hw,hin⟩:=fC FA;obtain ⟨own,port,win,l⟩:=t;have hw2:=hid hw;clear FA hw;go_enter func196,ntmps196;go_wp2_with (first | (refine aD 3 ?_;refine aB (aV.cells [au,au,au,au,au]).toArray ?_) | (guard_target =~ wpList _ _ _ (⟨none,.store 167 _ _,_,_,_,_⟩::_) _ _;refine sH (op:=⟨none,.store _ _ _,_,_,_,_⟩) bn _ _ bn g bn bn hB h5 ?_;intro W5 Iq ho5;have f88:=Iq.free 88;have Q0:=Iq.cell 88 _ (fG rfl)));have hB3:=Iq.set 88 (.int .i64 ((0:Nat):Int));rw [BU rfl] at hB3;have ho:=ho5.cell 88 (.int .i64 ((0:Nat):Int));go_end0;exact ⟨rfl,wC (t:=⟨own,port,win,[]⟩) rfl (Nat.zero_le _) hB3 rfl hw2.out (by simp),ho⟩
theorem Nw:Uo nM:=by
 intro g t now w FA;obtain ⟨rs,h5,hn,hB,ht,hw,hin⟩:=fC FA;obtain ⟨own,port,win,l⟩:=t;replace hn:l.length≤5:=hn;replace hB:ak w g (fM own port win rs l.length) 169:=hB;replace ht:rs.take l.length=l:=ht;replace hw:1≤win∧win≤1048576:=hw;replace hin:∀r ∈ l,FR r:=hin;have hgl:=hB.lt;have Q0:=hB.cell 88 _ (fG h5);have hR0:∀wx,Below w.heap.size w wx→aV.Reads wx (.slice (some ⟨g,3,none⟩) l.length 5) l:=fun wx hx=>
  ⟨_,5,rfl,hn,by unfold maxLen;omega,.inr ⟨g,3,rfl,Nat.lt_of_lt_of_le hgl hx.size,fun j v hj=>by
   rw [hx.cell (p:=⟨g,3+j,none⟩) hgl]
   have hjl:j<l.length*17:=by
    have:=(List.getElem?_eq_some_iff.1 hj).1
    rwa [aV.aQ] at this
   refine hB.cell (3+j) v ?_
   rw [BQ h5 j aJ]
   rw [←ht,←aV.mV,List.getElem?_take_of_lt (show j<l.length*aV.n from hjl)] at hj
   exact hj⟩⟩
 have hRR:=hid hR0;have hn5:(l.length:Int)≤5:=by omega
 have hn0:(0:Int)≤(l.length:Int):=by omega
 have yI:=hid hin;have HW:=hid hw;have HB:=hid hB;have HN:=hid hn;have Ra:=hid hgl;clear FA hin hw ht hR0 h5 hn hB hgl;obtain ⟨f,hf⟩:∃f:Rc→Bool,f=fun r=>pR win r.fi now:=⟨_,rfl⟩;have hQ:n_ ⟨own,port,win,l⟩ now=l.filter f:=by rw [hf];rfl
 have HF:=hid fun (r:Rc)=>(show (r.fi = -1→f r=false)∧(0≤r.fi→decide (now<r.fi+win)=f r) from ⟨fun h=>by rw [hf];exact decide_eq_false aJ,fun h=>by rw [hf];exact (zO h HW.out.1).symm⟩);rw [hQ];clear hQ hf;have hown:=RowK.Own.nil aV 150 w w.heap.size;go_enter func165,ntmps165;go_upto_region 2 with fail;go_quiet (fail);have hd:=DR w nq;generalize w.drewN nq=W at *;replace hown:=hown.below hd;clear Q0;go_wp2_with fail;go_loopw [5,17] (fun s i wr=>∃k:Nat,k≤l.length∧i=.int .i64 k∧aV.Own 150 wr w.heap.size s ((l.take k).filter f)∧Below w.heap.size w wr) (fun _ i _=>l.length - (intOf i).toNat);case atStart=>exact ⟨0,Nat.zero_le _,rfl,by simpa using hown,hd⟩
 case round=>
  obtain ⟨k,hk,rfl,hown,hb⟩:=hrel;by_cases hlt:k<l.length
  ·have Wq:(k:Int)<(l.length:Int):=by omega
   have OW:wr.rangeAt g (3+k*17) (jF l[k]):=(hRR.out _ hb).range k hlt;have hin:=yI.out _ (List.getElem_mem hlt);obtain ⟨r,hr⟩:∃r,l[k]=r:=⟨_,rfl⟩;have hsn:=hid (D_ f l k hlt r hr);have hml:((l.take k).filter f).length≤5:=by have h1:=List.length_filter_le f (l.take k);rw [List.length_take] at h1;have:=HN.out;omega
   rw [hr] at OW hin;have HRI:=hid hin;have Rb:=hid hlt;have hfr:=HF.out r;generalize (l.take k).filter f=m at *;clear hr hin hlt hk;have z1:=aA wr (Obj.cells (jF au).toArray 150);have hX:=ak.new wr (jF au) 150;go_upto_region 5 with (first | (refine aD 20 ?_;refine oL.aL g (3+k*17) r OW ?_) | (refine aN ?_;refine oL.aS wr.heap.size r au hX ?_));have hZ:=hX.fB (jF r);have hW2:=below_setRow z1 (Nat.le_refl _) (jF r).toArray;change Code.wp prog _ _ _ ((wr.alloc (Obj.cells (jF au).toArray 150)).setRow wr.heap.size (jF r).toArray);generalize (wr.alloc (Obj.cells (jF au).toArray 150)).setRow wr.heap.size (jF r).toArray=W2 at *;replace hown:=hown.below hW2;replace hb:=ah hb hW2;generalize wr.heap.size=g9 at *;clear z1 hX OW hW2;have c15:=hZ.cell 15 _ rfl;by_cases hfi:r.fi = -1
   ·have OV:=hfr.1 hfi;rw [OV,if_neg aX,List.append_nil] at hsn;clear hfr OV;have hfin:(r.fi != -1)=false:=by rw [hfi];decide
    clear hfi;go_wp2_with fail;go_roundw;case rel=>exact ⟨k+1,Rb.out,by go_num,by rw [hsn.out];exact hown,hb⟩
    case measure=>(have:=Rb.out;simp [intOf] <;> omega)
   ·have hf0:0≤r.fi:=by have:=HRI.out.2.1;omega
    have OV:=hid (hfr.2 hf0);have hr2:=hid HRI.out.2.1;have hfin:(r.fi != -1)=true:=bne_iff_ne.2 hfi;clear hfr hfi hf0;go_wp2_with fail;refine (xR g own port win rs l.length r.fi now _ (HB.out.below hb) HW.out hr2.out).mono ?_;rintro e W3 ⟨rfl,rfl⟩;rw [OV.out];clear OV;cases hfr:f r
    ·rw [hfr,if_neg aX,List.append_nil] at hsn;clear hfr hfin;go_wp2_with fail;go_roundw;case rel=>exact ⟨k+1,Rb.out,by go_num,by rw [hsn.out];exact hown,hb⟩
     case measure=>(have:=Rb.out;simp [intOf] <;> omega)
    ·rw [hfr,if_pos rfl] at hsn;clear hfr hfin;have z2:=aA W3 (Obj.cells (jF r).toArray 150);have hlit:=Q9 r W3;have VA:aV.Reads (W3.alloc (Obj.cells (jF r).toArray 150)) (.slice (some ⟨W3.heap.size,0,none⟩) 1 1) [r]:=aV.kU W3 r 150;generalize W3.alloc (Obj.cells (jF r).toArray 150)=W4 at *;have mO:=hown.below z2;have hb2:=ah hb z2;have hbs:=hb2.size;have hl1:(m.length+[r].length)*136≤140737488355328:=by rw [List.length_singleton];omega
     have hl2:m.length+[r].length≤140737488355328:=by rw [List.length_singleton];omega
     generalize W3.heap.size=g8 at *;clear hml;go_upto_region 7 with (first | (refine aD 32 ?_;refine oL.aL g9 0 r hZ.b_ ?_) | (refine aD 33 ?_;refine aI #[(0,.agg (jF r).toArray)] hlit ?_) | (refine aD 34 ?_;refine aV.kZ underlying50 DN rfl (o:=⟨some 34,_,_,_,_,_⟩) rfl _ _ rfl rfl w.heap.size _ _ m [r] rfl rfl mO VA hl1 hl2 hbs ?_;intro v' w' own' F7));go_wp2_with fail;go_roundw;case rel=>exact ⟨k+1,Rb.out,by go_num,by rw [hsn.out];exact own',hb2.trans F7⟩
     case measure=>(have:=Rb.out;simp [intOf] <;> omega)
  ·obtain rfl:k=l.length:=by omega
   rw [List.take_length] at hown;go_wp2_with fail;go_ret;exact ⟨_,rfl,hown.reads,hb⟩
def sI (s:Int):Int:=if s=8 then 3 else if s=9 then 3 else if s=4 then 2 else if s=7 then 2 else if s=5 then 1 else if s=6 then 1 else 0
theorem F8 (s:Int):decide (2≤sI s)=dL s:=by unfold sI dL;exact TM
theorem Cg (s:Int):decide (3≤sI s)=oh s:=by unfold sI oh;exact TM
theorem F9 (s:Int):decide (1≤sI s)=dD s:=by unfold sI dD;exact TM
theorem KX (s:Int) (w:World):Calls prog 140 #[.int .i64 s] w fun e w'=>e=.returned (.int .i64 (sI s))∧w'=w:=by
 by_cases h8:s=8
 ·subst h8;exact EG
 have b8:(s == 8)=false:=nq h8;by_cases h9:s=9
 ·subst h9;exact EG
 have b9:(s == 9)=false:=nq h9;by_cases h4:s=4
 ·subst h4;exact EG
 have b4:(s == 4)=false:=nq h4;by_cases h7:s=7
 ·subst h7;exact EG
 have b7:(s == 7)=false:=nq h7;by_cases h5:s=5
 ·subst h5;exact EG
 have b5:(s == 5)=false:=nq h5;by_cases h6:s=6
 ·subst h6;exact EG
 have b6:(s == 6)=false:=nq h6;have e1:sI s=0:=by unfold sI;simp only [h8,h9,h4,h7,h5,h6,if_false]
 rw [e1];clear e1 h8 h9 h4 h7 h5 h6;exact EG
theorem sJ (s:Int) (w:World):Calls prog 162 #[.int .i64 s] w fun e w'=>e=.returned (.bool (dL s))∧w'=w:=by have e1:=F8 s;go_enter func162,ntmps162;exact TP
theorem o_ (s:Int) (w:World):Calls prog 80 #[.int .i64 s] w fun e w'=>e=.returned (.bool (oh s))∧w'=w:=by have e1:=Cg s;go_enter func80,ntmps80;exact TP
theorem sK (s:Int) (w:World):Calls prog 123 #[.int .i64 s] w fun e w'=>e=.returned (.bool (dD s))∧w'=w:=by have e1:=F9 s;go_enter func123,ntmps123;exact TP
theorem kH (s a b:Int) (w:World):Calls prog 134 #[.int .i64 s,.int .i64 a,.int .i64 b] w fun e w'=>e=.returned (.int .i64 (if s=a then b else s))∧w'=w:=by
 by_cases h:s=a
 ·subst h;rw [if_pos rfl];go_enter func134,ntmps134;exact Eu
 ·have hb:(s == a)=false:=nq h;rw [if_neg h];clear h;go_enter func134,ntmps134;exact Eu
theorem Ga (s:Int) (so:Bool) (w:World):Calls prog 135 #[.int .i64 s,.bool so] w fun e w'=>e=.returned (.int .i64 (if dL s then (if so then 4 else 6) else s))∧w'=w:=by
 have HH:=hid (sJ s);cases hh:dL s with
 | false=>have e1:(if false=true then (if so then (4:Int) else 6) else s)=s:=rfl;rw [e1];clear e1;rw [hh] at HH;clear hh;exact TI
 | true=>
  rw [hh] at HH;clear hh;cases so
  ·show Calls prog _ _ _ fun e w'=>e=.returned (.int .i64 6)∧w'=w;exact TI
  ·show Calls prog _ _ _ fun e w'=>e=.returned (.int .i64 4)∧w'=w;exact TI
theorem vX (s v:Int) (so:Bool) (w:World):Calls prog 78 #[.int .i64 s,.int .i64 v,.bool so] w fun e w'=>e=.returned (.int .i64 (dR s v so))∧w'=w:=by
 by_cases h1:v=1
 ·subst h1;have e1:dR s 1 so=if s=1 then 4 else s:=by unfold dR;simp
  rw [e1];clear e1;have HC:=hid (kH s 1 4);generalize (if s=1 then (4:Int) else s)=r at *;exact IW
 have b1:(v == 1)=false:=nq h1;by_cases h2:v=2
 ·subst h2;by_cases h:s=3
  ·subst h;go_enter func78,ntmps78;exact Eu
  ·have hb:(s == 3)=false:=nq h;have e1:dR s 2 so=2:=by unfold dR;simp [h]
   rw [e1];clear e1 h;go_enter func78,ntmps78;exact Eu
 have b2:(v == 2)=false:=nq h2;by_cases h3:v=3
 ·subst h3;have e1:dR s 3 so=if s=2 then 1 else s:=by unfold dR;simp
  rw [e1];clear e1;have HC:=hid (kH s 2 1);generalize (if s=2 then (1:Int) else s)=r at *;exact IW
 have b3:(v == 3)=false:=nq h3;by_cases h4:v=4
 ·subst h4;have e1:dR s 4 so=if dL s then (if so then 4 else 6) else s:=by unfold dR;simp
  rw [e1];clear e1;have HC:=hid (Ga s so);generalize (if dL s then (if so then (4:Int) else 6) else s)=r at *;exact IW
 have b4:(v == 4)=false:=nq h4;by_cases h5:v=5
 ·subst h5;have e1:dR s 5 so=if s=5 then 6 else s:=by unfold dR;simp
  rw [e1];clear e1;have HC:=hid (kH s 5 6);generalize (if s=5 then (6:Int) else s)=r at *;exact IW
 have b5:(v == 5)=false:=nq h5;by_cases h6:v=6
 ·subst h6;have e1:dR s 6 so=if s=8 then 9 else s:=by unfold dR;simp
  rw [e1];clear e1;have HC:=hid (kH s 8 9);generalize (if s=8 then (9:Int) else s)=r at *;exact IW
 have b6:(v == 6)=false:=nq h6;by_cases h7:v=7
 ·subst h7;have e1:dR s 7 so=3:=by unfold dR;simp
  rw [e1];clear e1;go_enter func78,ntmps78;exact Eu
 have b7:(v == 7)=false:=nq h7;by_cases h8:v=8
 ·subst h8;have e1:dR s 8 so=if s=3 then 1 else s:=by unfold dR;simp
  rw [e1];clear e1;have HC:=hid (kH s 3 1);generalize (if s=3 then (1:Int) else s)=r at *;exact IW
 have b8:(v == 8)=false:=nq h8;have e1:dR s v so=s:=by unfold dR;simp only [h1,h2,h3,h4,h5,h6,h7,h8,if_false]
 rw [e1];clear e1 h1 h2 h3 h4 h5 h6 h7 h8;go_enter func78,ntmps78;exact Eu
theorem mF (s d:Int) (hd:d=1∨d=2∨d=3∨d=4∨d=5) (w:World):Calls prog 212 #[.int .i64 s,.int .i64 d] w fun e w'=>e=.returned (.int .i64 (if d=1 then 6 else if d=2 then 6 else if d=3 then (if s=6 then 6 else 5) else 7))∧w'=w:=by
 rcases hd with rfl | rfl | rfl | rfl | rfl
 ·exact I5
 ·exact I5
 ·by_cases h:s=6
  ·subst h;exact I5
  ·have hb:(s == 6)=false:=nq h;have hn:(s != 6)=true:=bne_iff_ne.2 h;rw [if_neg aX,if_neg aX,if_pos rfl,if_neg h];clear h;exact I5
 ·exact I5
 ·exact I5
theorem Ea (s d:Int) (same so:Bool) (w:World):Calls prog 169 #[.int .i64 s,.int .i64 d,.bool same,.bool so] w fun e w'=>e=.returned (.int .i64 (dz s d same so))∧w'=w:=by
 have HA:=hid (sK s);have HF:=hid (o_ s);cases ha:dD s with
 | false=>
  rw [ha] at HA;have e1:dz s d same so=s:=by exact wD
  exact EA
 | true=>
  rw [ha] at HA;by_cases h1:d=1
  ·subst h1;cases so with
   | true=>
    have e1:dz s 1 same true=4:=by exact wD
    exact EA
   | false=>
    have e1:dz s 1 same false=(if (1:Int)=1 then 6 else if (1:Int)=2 then 6 else if (1:Int)=3 then (if s=6 then 6 else 5) else 7):=by exact wD
    rw [e1];clear e1 ha HF;have HU:=hid (mF s 1 aX);generalize (if (1:Int)=1 then (6:Int) else if (1:Int)=2 then 6 else if (1:Int)=3 then (if s=6 then 6 else 5) else 7)=r at *;exact KP
  have b1:(d == 1)=false:=nq h1;by_cases h2:d=2
  ·subst h2;cases so with
   | true=>
    have e1:dz s 2 same true=4:=by exact wD
    exact EA
   | false=>
    have e1:dz s 2 same false=(if (2:Int)=1 then 6 else if (2:Int)=2 then 6 else if (2:Int)=3 then (if s=6 then 6 else 5) else 7):=by exact wD
    rw [e1];clear e1 ha HF;have HU:=hid (mF s 2 aX);generalize (if (2:Int)=1 then (6:Int) else if (2:Int)=2 then 6 else if (2:Int)=3 then (if s=6 then 6 else 5) else 7)=r at *;exact KP
  have b2:(d == 2)=false:=nq h2;by_cases h3:d=3
  ·subst h3;cases so with
   | true=>
    have e1:dz s 3 same true=4:=by exact wD
    exact EA
   | false=>
    have e1:dz s 3 same false=(if (3:Int)=1 then 6 else if (3:Int)=2 then 6 else if (3:Int)=3 then (if s=6 then 6 else 5) else 7):=by unfold dz;simp [ha];split <;> first | rfl | assumption
    rw [e1];clear e1 ha HF;have HU:=hid (mF s 3 aX);generalize (if (3:Int)=1 then (6:Int) else if (3:Int)=2 then 6 else if (3:Int)=3 then (if s=6 then 6 else 5) else 7)=r at *;exact KP
  have b3:(d == 3)=false:=nq h3;by_cases h4:d=4
  ·subst h4;cases so with
   | true=>
    have e1:dz s 4 same true=4:=by exact wD
    exact EA
   | false=>
    have e1:dz s 4 same false=(if (4:Int)=1 then 6 else if (4:Int)=2 then 6 else if (4:Int)=3 then (if s=6 then 6 else 5) else 7):=by exact wD
    rw [e1];clear e1 ha HF;have HU:=hid (mF s 4 aX);generalize (if (4:Int)=1 then (6:Int) else if (4:Int)=2 then 6 else if (4:Int)=3 then (if s=6 then 6 else 5) else 7)=r at *;exact KP
  have b4:(d == 4)=false:=nq h4;by_cases h5:d=5
  ·subst h5;cases so with
   | true=>
    have e1:dz s 5 same true=4:=by exact wD
    exact EA
   | false=>
    have e1:dz s 5 same false=(if (5:Int)=1 then 6 else if (5:Int)=2 then 6 else if (5:Int)=3 then (if s=6 then 6 else 5) else 7):=by exact wD
    rw [e1];clear e1 ha HF;have HU:=hid (mF s 5 aX);generalize (if (5:Int)=1 then (6:Int) else if (5:Int)=2 then 6 else if (5:Int)=3 then (if s=6 then 6 else 5) else 7)=r at *;exact KP
  have b5:(d == 5)=false:=nq h5;by_cases h6:d=6
  ·subst h6;cases same with
   | false=>
    have e1:dz s 6 false so=8:=by exact wD
    exact EA
   | true=>
    cases hf:oh s with
    | true=>
     rw [hf] at HF;have e1:dz s 6 true so=s:=by unfold dz;simp [ha,hf]
     exact Xz
    | false=>
     rw [hf] at HF;have e1:dz s 6 true so=8:=by unfold dz;simp [ha,hf]
     exact Xz
  have b6:(d == 6)=false:=nq h6;have e1:dz s d same so=s:=by
   unfold dz;rw [if_neg (by rw [ha];simp)];repeat' split
   all_goals first | rfl | omega
  rw [e1];clear e1 h1 h2 h3 h4 h5 h6 ha HF;go_enter func169,ntmps169;go_wp2_with fail;refine (HA.out _).mono ?_;exact yG
section
variable {w:World} {g:Nat} {hs:List Nat} {sv fl:Nat} {bs:List PL} {F:Nat→Prop} {k:Kz} {i h:Nat} {b:PL} {p:Pt}
theorem iK (L:Lay w g hs sv fl bs F (aO k i p)) (H:Hand k hs bs i h b):Calls prog 170 #[.pointer (some ⟨h,0,none⟩)] w fun e w'=>e=.returned (.tuple #[])∧Lay w' g hs sv fl bs F (aO k i ({ p with m:=j3,x:={ p.x with out:=none },df:=none }))∧bW (aK g F) w w':=by have Q:bW (aK g F) w w:=bW.refl _ w;have c13:=L.pc H 13 _ (fun _=>rfl);go_enter func170,ntmps170;go_wp2_with fail;refine (QK b.m p.m w (L.hand H).mat).mono ?_;rintro e w1 ⟨rfl,S2,o2⟩;obtain ⟨L2,q2⟩:=L.mat H o2 S2;replace L:=L2;replace Q:=Q.next q2;clear c13;clear L2 q2 S2 o2;have c14:=L.pc H 14 _ (fun _=>rfl);go_wp2_with fail;obtain ⟨d,hX⟩:=(L.hand H).del;refine (QN b.x _ w1 hX).mono ?_;rintro e w2 ⟨rfl,S2,o2⟩;obtain ⟨L2,q2⟩:=L.del H o2 (x:={ p.x with out:=none }) (d0:=d) S2;replace L:=L2;replace Q:=Q.next q2;clear c14 hX;clear L2 q2 S2 o2;obtain ⟨pv,hB,-⟩:=(L.hand H).box;go_wp2_with (first | (refine aD 13 ?_;refine aB (Vq.enc none).toArray ?_) | (refine aN ?_;refine mbT.aM h 16 (none) hB (by rw [FY];decide) ?_));go_end0;obtain ⟨L3,q3⟩:=L.diff H none;exact ⟨rfl,L3,Q.next q3⟩
theorem Gb (a:Int×Int) (p:Pt) (t:Ft):iQ a { p with tab:={ t with l:=[] } }=true→iQ a p=true:=fun h=>by unfold iQ at h;cases h
theorem Ew (L:Lay w g hs sv fl bs F (aO k i p)) (H:Hand k hs bs i h b):Calls prog 136 #[.pointer (some ⟨h,0,none⟩)] w fun e w'=>e=.returned (.tuple #[])∧Lay w' g hs sv fl bs F (aO k i ({ p with tab:={ p.tab with l:=[] },kK:=[] }))∧bW (aK g F) w w':=by have Q:bW (aK g F) w w:=bW.refl _ w;have c3:=L.pc H 3 _ (fun _=>rfl);go_enter func136,ntmps136;go_wp2_with fail;refine (JW b.t p.tab w (L.hand H).tab).mono ?_;rintro e w1 ⟨rfl,S2,o2⟩;obtain ⟨L2,q2⟩:=L.tab H o2 S2 (fun a=>Gb a p p.tab);replace L:=L2;replace Q:=Q.next q2;clear c3;clear L2 q2 S2 o2;have f4:=L.pf H 4;obtain ⟨pv,hB,-⟩:=(L.hand H).box;have c4:=hB.cell 4 _ rfl;go_wp2_with fail;go_end0;obtain ⟨L3,q3⟩:=L.Vr H rfl;exact ⟨rfl,L3,Q.next q3⟩
theorem nQ (L:Lay w g hs sv fl bs F (aO k i p)) (H:Hand k hs bs i h b):Calls prog 138 #[.pointer (some ⟨h,0,none⟩)] w fun e w'=>e=.returned (.tuple #[])∧Lay w' g hs sv fl bs F (aO k i ({ p with tr:=0,tq:=0,ta:=0,ts:=0 }))∧bW (aK g F) w w':=by have Q:bW (aK g F) w w:=bW.refl _ w;go_enter func138,ntmps138;have c5:=L.pc H 5 _ (fun _=>rfl);have f5:=L.pf H 5;go_wp2_with fail;refine (ny h 5 _ _ c5 f5).mono ?_;rintro e v0 ⟨rfl,hw⟩;obtain ⟨L2,q2⟩:=L.cell H 5 (.int .i64 0) (q:={ p with tr:=0 }) (fun _=>rfl) rfl rfl rfl rfl rfl;replace L:=L2;replace Q:=Q.next q2;clear L2 q2;rw [←hw] at L Q;clear hw c5 f5;have c6:=L.pc H 6 _ (fun _=>rfl);have f6:=L.pf H 6;go_wp2_with fail;refine (ny h 6 _ _ c6 f6).mono ?_;rintro e v1 ⟨rfl,hw⟩;obtain ⟨L2,q2⟩:=L.cell H 6 (.int .i64 0) (q:={ { p with tr:=0 } with tq:=0 }) (fun _=>rfl) rfl rfl rfl rfl rfl;replace L:=L2;replace Q:=Q.next q2;clear L2 q2;rw [←hw] at L Q;clear hw c6 f6;have c7:=L.pc H 7 _ (fun _=>rfl);have f7:=L.pf H 7;go_wp2_with fail;refine (ny h 7 _ _ c7 f7).mono ?_;rintro e v2 ⟨rfl,hw⟩;obtain ⟨L2,q2⟩:=L.cell H 7 (.int .i64 0) (q:={ { { p with tr:=0 } with tq:=0 } with ta:=0 }) (fun _=>rfl) rfl rfl rfl rfl rfl;replace L:=L2;replace Q:=Q.next q2;clear L2 q2;rw [←hw] at L Q;clear hw c7 f7;have c8:=L.pc H 8 _ (fun _=>rfl);have f8:=L.pf H 8;go_wp2_with fail;refine (ny h 8 _ _ c8 f8).mono ?_;rintro e v3 ⟨rfl,hw⟩;obtain ⟨L2,q2⟩:=L.cell H 8 (.int .i64 0) (q:={ { { { p with tr:=0 } with tq:=0 } with ta:=0 } with ts:=0 }) (fun _=>rfl) rfl rfl rfl rfl rfl;replace L:=L2;replace Q:=Q.next q2;clear L2 q2;rw [←hw] at L Q;clear hw c8 f8;exact ED
theorem qX (L:Lay w g hs sv fl bs F (aO k i p)) (H:Hand k hs bs i h b):Calls prog 71 #[.pointer (some ⟨h,0,none⟩)] w fun e w'=>e=.returned (.bool (dD p.st))∧w'=w:=by have c2:=L.pc H 2 _ (fun _=>rfl);go_enter func71,ntmps71;go_wp2_with fail;refine (sK p.st w).mono ?_;exact KU
theorem kI (L:Lay w g hs sv fl bs F (aO k i p)) (H:Hand k hs bs i h b):Calls prog 106 #[.pointer (some ⟨h,0,none⟩)] w fun e w'=>e=.returned (.bool (dL p.st))∧w'=w:=by have c2:=L.pc H 2 _ (fun _=>rfl);go_enter func106,ntmps106;go_wp2_with fail;refine (sJ p.st w).mono ?_;exact KU
theorem sM (L:Lay w g hs sv fl bs F (aO k i p)) (H:Hand k hs bs i h b):Calls prog 163 #[.pointer (some ⟨h,0,none⟩)] w fun e w'=>e=.returned (.bool (oh p.st))∧w'=w:=by have c2:=L.pc H 2 _ (fun _=>rfl);go_enter func163,ntmps163;go_wp2_with fail;refine (o_ p.st w).mono ?_;exact KU
def vH (t:Int):Option Nat:=if t=11 then some 10 else if t=0 then some 11 else if t=1∨t=2 then some 12 else none
theorem pY (h:Nat) (t:Int) (w:World):Calls prog 131 #[.pointer (some ⟨h,0,none⟩),.int .i64 t] w fun e w'=>e=.returned (.tuple #[.pointer ((vH t).map fun o=>⟨h,o,none⟩),.bool (vH t).isSome])∧w'=w:=by
 by_cases h11:t=11
 ·subst h11;exact KW
 have b11:(t == 11)=false:=nq h11;by_cases h0:t=0
 ·subst h0;exact KW
 have b0:(t == 0)=false:=nq h0;by_cases h1:t=1
 ·subst h1;exact KW
 have b1:(t == 1)=false:=nq h1;by_cases h2:t=2
 ·subst h2;exact KW
 have b2:(t == 2)=false:=nq h2;have e:vH t=none:=by unfold vH;rw [if_neg h11,if_neg h0,if_neg aJ]
 rw [e];exact KW
end
section
variable {w:World} {g:Nat} {hs:List Nat} {sv fl:Nat} {bs:List PL} {F:Nat→Prop} {k:Kz} {i h:Nat} {b:PL} {p:Pt}
theorem Lay.kp (L:Lay w g hs sv fl bs F k) {i h:Nat} (hh:hs[i]? = some h):w.cell? ⟨g,23+i,none⟩=some (.pointer (some ⟨h,0,none⟩)):=by have hi:i<hs.length:=(List.getElem?_eq_some_iff.1 hh).1;have h8:=L.ps.l8;have hl:=L.ps.lh;have:=L.kc (23+i) _ (D5 hs sv fl k i aJ);rw [this];unfold Nq;rw [hh];rfl
theorem Lay.po (L:Lay w g hs sv fl bs F k) (hlen:(k.ls.length:Int)=k.c.po):w.cell? ⟨g,1,none⟩=some (.int .i64 (k.ls.length:Int)):=by rw [hlen];exact L.kc 1 _ rfl
theorem Lay.jP (L:Lay w g hs sv fl bs F k) {i:Nat} (hi:i<k.ls.length):∃h b,Hand k hs bs i h b:=by have h1:=L.ps.lh;have h2:=L.ps.lb;exact ⟨_,_,hi,List.getElem?_eq_getElem aJ,List.getElem?_eq_getElem aJ⟩
theorem Lay.jR (L:Lay w g hs sv fl bs F k) {p:Pt} (hp:k.ls[i]? = some p):Lay w g hs sv fl bs F (aO k i p):=by rw [ug hp];exact L
theorem p8 (L:Lay w g hs sv fl bs F k) (hlen:(k.ls.length:Int)=k.c.po):Calls prog 66 #[.pointer (some ⟨g,0,none⟩)] w fun e w'=>e=.returned (.slice (some ⟨g,23,none⟩) k.ls.length 8)∧Below w.heap.size w w':=by
 have k1:=L.po hlen;have h8:=L.ps.l8;generalize k.ls.length=n at *;have Zu:(n:Int)≤8:=by omega
 have h0I:(0:Int)≤(n:Int):=by omega
 clear hlen;have Q:=Below.refl w.heap.size w;go_enter func66,ntmps66;go_upto_region 1 with fail;have hbd:=Below.drew (Below.refl w.heap.size w);replace Q:=ah Q hbd;replace k1:w.drew.cell? ⟨g,1,none⟩=some (.int .i64 (n:Int)):=k1;refine fD aW aW ?_;generalize w.drew=wd at *;clear hbd;iterate 10 refine so ?_
 refine bM ?_;go_wp2_with fail;go_ret;exact ⟨rfl,Q⟩
theorem Ny (L:Lay w g hs sv fl bs F k) (hlen:(k.ls.length:Int)=k.c.po) (n:Int) (hn:iT k n=false):Calls prog 45 #[.pointer (some ⟨g,0,none⟩),.int .i64 n] w fun e w'=>e=.returned (.tuple #[.pointer none,.bool false])∧w'=w:=by
 have k1:=L.po hlen;unfold iT at hn;rw [decide_eq_false_iff_not] at hn;generalize k.ls.length=m at *;by_cases h1:n<1
 ·go_enter func45,ntmps45;exact O_
 ·have h2:(m:Int)<n:=by omega
  go_enter func45,ntmps45;exact O_
theorem Gc (L:Lay w g hs sv fl bs F k) (hlen:(k.ls.length:Int)=k.c.po) (H:Hand k hs bs i h b):Calls prog 45 #[.pointer (some ⟨g,0,none⟩),.int .i64 ((i:Int)+1)] w fun e w'=>e=.returned (.tuple #[.pointer (some ⟨h,0,none⟩),.bool true])∧w'=w:=by
 have k1:=L.po hlen;have kp:=L.kp H.hh;have hi:=H.hi;have h8:=L.ps.l8;generalize k.ls.length=m at *;have h0:(0:Int)≤(i:Int):=by omega
 have h1:¬((i:Int)+1<1):=by omega
 have h2:¬((m:Int)<(i:Int)+1):=by omega
 have hw:IntKind.i64.wrap ((i:Int)+1 - 1)=(i:Int):=by exact yJ
 have hi8:(i:Int)<8:=by omega
 go_enter func45,ntmps45;exact O_
theorem uj {k:Kz} {n:Int} (h:iT k n=true):∃i:Nat,n=(i:Int)+1∧i<k.ls.length∧qD n=i:=by unfold iT at h;rw [decide_eq_true_eq] at h;refine ⟨(n - 1).toNat,by omega,by omega,rfl⟩
theorem Gd (L:Lay w g hs sv fl bs F k):Calls prog 26 #[.pointer (some ⟨g,0,none⟩)] w fun e w'=>e=.returned (.int .i64 k.off)∧Below w.heap.size w w':=by have k47:=L.kc 47 (.int .i64 k.off) rfl;go_enter func26,ntmps26;exact EC
theorem JX (L:Lay w g hs sv fl bs F k):Calls prog 31 #[.pointer (some ⟨g,0,none⟩)] w fun e w'=>e=.returned (.int .i64 (k.de.getD 0))∧Below w.heap.size w w':=by have k48:=L.kc 48 (.int .i64 (k.de.getD 0)) rfl;go_enter func31,ntmps31;exact EC
theorem Gf (L:Lay w g hs sv fl bs F k):Calls prog 32 #[.pointer (some ⟨g,0,none⟩)] w fun e w'=>e=.returned (.int .i64 k.tk)∧Below w.heap.size w w':=by have JY:=L.kc 31 (.int .i64 k.tk) rfl;go_enter func32,ntmps32;exact EC
theorem JZ (L:Lay w g hs sv fl bs F k):Calls prog 24 #[.pointer (some ⟨g,0,none⟩)] w fun e w'=>e=.returned (.int .i64 k.dr)∧Below w.heap.size w w':=by have k32:=L.kc 32 (.int .i64 k.dr) rfl;go_enter func24,ntmps24;exact EC
theorem Nz (L:Lay w g hs sv fl bs F k):Calls prog 27 #[.pointer (some ⟨g,0,none⟩)] w fun e w'=>e=.returned (.int .i64 k.sv.fq)∧Below w.heap.size w w':=by have k45:=L.kc 45 (.pointer (some ⟨sv,0,none⟩)) rfl;go_enter func27,ntmps27;go_wp2_with fail;refine (QX sv k.sv w L.ps.hsv).mono ?_;rintro e w1 ⟨rfl,b1⟩;go_wp2_with fail;go_ret;exact ⟨rfl,b1⟩
theorem lJ:dB bT 28:=⟨⟨_,underlying28,rfl⟩,by kernel_rfl⟩
theorem xV:dB j4 69:=⟨⟨_,underlying69,rfl⟩,by kernel_rfl⟩
theorem NA (L:Lay w g hs sv fl bs F k):Calls prog 14 #[.pointer (some ⟨g,0,none⟩)] w fun e w'=>e=.returned (.agg (bT.enc (k.c)).toArray)∧Below w.heap.size w w':=by
 have R:w.rangeAt g 0 (bT.enc (k.c)):=ak.bB ((fI hs sv fl k).take 0) (bT.enc (k.c)) ((fI hs sv fl k).drop 23) L.box;have z:=aA w (Obj.cells (bT.enc (zeroC)).toArray 28);have hN:=ak.new w (bT.enc (zeroC)) 28;have hlt:=L.box.lt;replace R:(w.alloc (Obj.cells (bT.enc (zeroC)).toArray 28)).rangeAt g 0 (bT.enc (k.c)):=fun j v hj=>by rw [z.cell (p:=⟨g,0+j,none⟩) hlt];exact R j v hj
 go_enter func14,ntmps14;go_upto_region 1 with fail;change Code.wp prog _ _ _ (w.alloc (Obj.cells (bT.enc (zeroC)).toArray 28));generalize w.alloc (Obj.cells (bT.enc (zeroC)).toArray 28)=W at *;go_wp2_with (first | (refine aD 6 ?_;refine lJ.aL g 0 (k.c) R ?_) | (refine aN ?_;refine lJ.aS (w.heap.size) (k.c) (zeroC) hN ?_));exact bodyPost_ret (v:=.agg (bT.enc (k.c)).toArray) (lJ.result rfl _ _ w.heap.size _ _ rfl (hN.fB _)) rfl ⟨rfl,below_setRow z (Nat.le_refl _) _⟩
theorem Gg (L:Lay w g hs sv fl bs F k):Calls prog 25 #[.pointer (some ⟨g,0,none⟩)] w fun e w'=>e=.returned (.agg (j4.enc (k.pa)).toArray)∧Below w.heap.size w w':=by
 have R:w.rangeAt g 33 (j4.enc (k.pa)):=ak.bB ((fI hs sv fl k).take 33) (j4.enc (k.pa)) ((fI hs sv fl k).drop 45) L.box;have z:=aA w (Obj.cells (j4.enc (dK)).toArray 69);have hN:=ak.new w (j4.enc (dK)) 69;have hlt:=L.box.lt;replace R:(w.alloc (Obj.cells (j4.enc (dK)).toArray 69)).rangeAt g 33 (j4.enc (k.pa)):=fun j v hj=>by rw [z.cell (p:=⟨g,33+j,none⟩) hlt];exact R j v hj
 go_enter func25,ntmps25;go_upto_region 1 with fail;change Code.wp prog _ _ _ (w.alloc (Obj.cells (j4.enc (dK)).toArray 69));generalize w.alloc (Obj.cells (j4.enc (dK)).toArray 69)=W at *;go_wp2_with (first | (refine aD 6 ?_;refine xV.aL g 33 (k.pa) R ?_) | (refine aN ?_;refine xV.aS (w.heap.size) (k.pa) (dK) hN ?_));exact bodyPost_ret (v:=.agg (j4.enc (k.pa)).toArray) (xV.result rfl _ _ w.heap.size _ _ rfl (hN.fB _)) rfl ⟨rfl,below_setRow z (Nat.le_refl _) _⟩
theorem zQ (L:Lay w g hs sv fl bs F k) (hlen:(k.ls.length:Int)=k.c.po) (po:Int):Calls prog 16 #[.pointer (some ⟨g,0,none⟩),.int .i64 po] w fun e w'=>e=.returned (.int .i64 (jH k po))∧Below w.heap.size w w':=by
 cases ht:iT k po
 ·have e2:=hid (show iU k po=none by unfold iU;rw [ht];rfl);go_enter func16,ntmps16;go_wp2_with fail;refine (Ny L hlen po ht).mono ?_;rintro e wz ⟨rfl,hz⟩;obtain rfl:=hz.symm;clear ht;go_wp2_with fail;go_ret;exact ⟨bC (by unfold jH;rw [e2.out]),Below.refl _ _⟩
 ·obtain ⟨i,rfl,hi,hp⟩:=uj ht;obtain ⟨h,b,H⟩:=L.jP hi;obtain ⟨p,NC⟩:∃p,k.ls[i]? = some p:=⟨_,List.getElem?_eq_getElem hi⟩;have LP:=L.jR NC;have c2:=LP.pc H 2 _ (fun _=>rfl);have e1:iU k ((i:Int)+1)=some p:=by unfold iU;rw [if_pos ht,hp];exact NC
  have e2:=hid e1;clear e1 ht hp NC;go_enter func16,ntmps16;go_wp2_with fail;refine (Gc L hlen H).mono ?_;rintro e wz ⟨rfl,hz⟩;obtain rfl:=hz.symm;go_wp2_with fail;go_ret;exact ⟨bC (by unfold jH;rw [e2.out]),Below.refl _ _⟩
theorem J2 (L:Lay w g hs sv fl bs F k) (hlen:(k.ls.length:Int)=k.c.po) (po:Int):Calls prog 18 #[.pointer (some ⟨g,0,none⟩),.int .i64 po] w fun e w'=>e=.returned (.int .i64 (sj k po))∧Below w.heap.size w w':=by
 cases ht:iT k po
 ·have e2:=hid (show iU k po=none by unfold iU;rw [ht];rfl);go_enter func18,ntmps18;go_wp2_with fail;refine (Ny L hlen po ht).mono ?_;rintro e wz ⟨rfl,hz⟩;obtain rfl:=hz.symm;clear ht;go_wp2_with fail;go_ret;exact ⟨bC (by unfold sj;rw [e2.out]),Below.refl _ _⟩
 ·obtain ⟨i,rfl,hi,hp⟩:=uj ht;obtain ⟨h,b,H⟩:=L.jP hi;obtain ⟨p,NC⟩:∃p,k.ls[i]? = some p:=⟨_,List.getElem?_eq_getElem hi⟩;have LP:=L.jR NC;have c18:=LP.pc H 18 _ (fun _=>rfl);have e1:iU k ((i:Int)+1)=some p:=by unfold iU;rw [if_pos ht,hp];exact NC
  have e2:=hid e1;clear e1 ht hp NC;go_enter func18,ntmps18;go_wp2_with fail;refine (Gc L hlen H).mono ?_;rintro e wz ⟨rfl,hz⟩;obtain rfl:=hz.symm;go_wp2_with fail;go_ret;exact ⟨bC (by unfold sj;rw [e2.out]),Below.refl _ _⟩
theorem Ch (L:Lay w g hs sv fl bs F k) (hlen:(k.ls.length:Int)=k.c.po) (po:Int):Calls prog 17 #[.pointer (some ⟨g,0,none⟩),.int .i64 po] w fun e w'=>∃v,e=.returned v∧aV.Reads w' v (BJ k po)∧Below w.heap.size w w':=by
 cases ht:iT k po
 ·have e2:=hid (show iU k po=none by unfold iU;rw [ht];rfl);go_enter func17,ntmps17;go_wp2_with fail;refine (Ny L hlen po ht).mono ?_;rintro e wz ⟨rfl,hz⟩;obtain rfl:=hz.symm;clear ht;go_wp2_with fail;go_ret;exact ⟨_,rfl,by unfold BJ;rw [e2.out];exact RowK.Reads.nil aV _,Below.refl _ _⟩
 ·obtain ⟨i,rfl,hi,hp⟩:=uj ht;obtain ⟨h,b,H⟩:=L.jP hi;obtain ⟨p,NC⟩:∃p,k.ls[i]? = some p:=⟨_,List.getElem?_eq_getElem hi⟩;have LP:=L.jR NC;have c3:=LP.pc H 3 _ (fun _=>rfl);have e1:iU k ((i:Int)+1)=some p:=by unfold iU;rw [if_pos ht,hp];exact NC
  have e2:=hid e1;clear e1 ht hp NC;go_enter func17,ntmps17;go_wp2_with fail;refine (Gc L hlen H).mono ?_;rintro e wz ⟨rfl,hz⟩;obtain rfl:=hz.symm;go_wp2_with fail;refine (Ip b.t p.tab w (LP.hand H).tab).mono ?_;rintro e w1 ⟨v,rfl,hv,b1⟩;go_wp2_with fail;go_ret;exact ⟨v,rfl,by unfold BJ;rw [e2.out];exact hv,b1⟩
end
section
section
variable {f:Nat→Pt→Pt} {k:Kz} {n i:Nat} {p:Pt}
def iH (f:Nat→Pt→Pt) (k:Kz) (n:Nat):Kz:={ k with ls:=k.ls.mapIdx fun i p=>if i<n then f i p else p }
theorem p9:(iH f k n).ls.length=k.ls.length:=by simp [iH]
theorem qY:iH f k 0=k:=by
 unfold iH;have e:k.ls.mapIdx (fun i p=>if i<0 then f i p else p)=k.ls:=by refine List.ext_getElem? fun j=>?_;rw [List.getElem?_mapIdx];cases k.ls[j]? <;> simp
 rw [e]
theorem mG (h:k.ls[n]? = some p):(iH f k n).ls[n]? = some p:=by show (k.ls.mapIdx _)[n]? = _;rw [List.getElem?_mapIdx,h];simp
theorem qZ (h:k.ls[n]? = some p):iH f k (n+1)=aO (iH f k n) n (f n p):=by
 have hn:n<k.ls.length:=(List.getElem?_eq_some_iff.1 h).1;unfold iH aO;have e:k.ls.mapIdx (fun i p=>if i<n+1 then f i p else p)=(k.ls.mapIdx fun i p=>if i<n then f i p else p).set n (f n p):=by
  refine List.ext_getElem? fun j=>?_;by_cases hj:n=j
  ·subst hj;rw [List.getElem?_set_self (by simpa using hn),List.getElem?_mapIdx,h];simp
  ·rw [List.getElem?_set_ne hj,List.getElem?_mapIdx,List.getElem?_mapIdx];cases k.ls[j]? with
   | none=>rfl
   | some q=>
    rw [Option.map_some,Option.map_some];by_cases h2:j<n
    ·rw [if_pos h2,if_pos aJ]
    ·rw [if_neg h2,if_neg aJ]
 rw [e]
theorem um (h:k.ls.length≤n):iH f k n={ k with ls:=k.ls.mapIdx f }:=by
 unfold iH;have e:k.ls.mapIdx (fun i p=>if i<n then f i p else p)=k.ls.mapIdx f:=by
  refine List.ext_getElem? fun j=>?_;rw [List.getElem?_mapIdx,List.getElem?_mapIdx];rcases hj:k.ls[j]? with _ | q
  ·rfl
  ·have:j<k.ls.length:=(List.getElem?_eq_some_iff.1 hj).1;rw [Option.map_some,Option.map_some,if_pos aJ]
 rw [e]
theorem Hand.part {hs:List Nat} {bs:List PL} {b:PL} (H:Hand k hs bs i h b):Hand (iH f k n) hs bs i h b:=⟨by rw [p9];exact H.hi,H.hh,H.hb⟩
theorem Gh (g:Pt→Pt) (l:List Pt):l.map g=l.mapIdx fun _ p=>g p:=by refine List.ext_getElem? fun j=>?_;rw [List.getElem?_map,List.getElem?_mapIdx]
end
end
theorem Gi (v:Value) (l:List Int) (x:Int) (w:World) (hR:Ints w v l) (hl:l.length≤140737488355328):Calls prog 114 #[v,.int .i64 x] w fun e w'=>(∃n:Int,e=.returned (.int .i64 n)∧((∃j:Nat,∃h:j<l.length,n=(j:Int)∧l[j]=x∧∀i (hi:i<j),l[i]≠x)∨(n = -1∧∀y ∈ l,y≠x)))∧w'=w:=by
 obtain ⟨p,cap,rfl,hcap,hmax,hat⟩:=hR;have HL:=hid fun h=>j6.pos hat h;unfold maxLen at hmax;clear hat;go_enter func114,ntmps114;go_wp2_with fail;go_loopw [8] (fun i wr=>∃k:Nat,k≤l.length∧i=.int .i64 (k:Int)∧Hid (∀j (hj:j<k) (hjl:j<l.length),l[j]≠x)∧wr=w) (fun i _=>l.length - (intOf i).toNat);case atStart=>exact ⟨0,Nat.zero_le _,rfl,hid (fun j hj=>absurd hj (Nat.not_lt_zero _)),rfl⟩
 case round=>
  obtain ⟨k,hk,rfl,hno,rfl⟩:=hrel;by_cases hk2:k<l.length
  ·obtain ⟨b,off,rfl,hbl,hc⟩:=HL.out aJ;have hck:=hc k hk2;have Wq:(k:Int)<(l.length:Int):=by omega
   obtain ⟨y,hy⟩:∃y,l[k]=y:=⟨_,rfl⟩;rw [hy] at hck;clear hc;by_cases hx:x=y
   ·have hxb:(x == y)=true:=by rw [hx];simp
    have HX:=hid (hy.trans hx.symm);clear hx hy;go_wp2_with fail;go_ret;refine ⟨⟨_,rfl,.inl ⟨k,hk2,rfl,?_,fun i hi=>hno.out i hi aJ⟩⟩,rfl⟩;exact HX.out
   ·have hxb:(x == y)=false:=nq hx
    have VB:=hid (show ∀j (hj:j<k+1) (hjl:j<l.length),l[j]≠x from fun j hj hjl=>by
     by_cases hjk:j=k
     ·subst hjk
      exact fun e=>hx (e.symm.trans hy)
     ·exact hno.out j aJ hjl)
    clear hx hy;go_wp2_with fail;go_roundw;case rel=>exact ⟨k+1,hk2,by go_num,VB,by trivial⟩
    case measure=>simp [intOf];omega
  ·obtain rfl:k=l.length:=by omega
   go_wp2_with fail;go_ret;refine ⟨⟨_,rfl,.inr ⟨rfl,fun y hy=>?_⟩⟩,rfl⟩;obtain ⟨j,hj,rfl⟩:=List.mem_iff_getElem.1 hy;exact hno.out j hj hj
theorem Rf (c:Nat) (w:World):(binOp .eql 151 (.slice none 0 c) (.slice none 0 0)).run prog w=.ok (.bool true) w:=by kernel_rfl
theorem ND (a:Addr) (n c:Nat) (w:World):(binOp .eql 151 (.slice (some a) n c) (.slice none 0 0)).run prog w=.ok (.bool false) w:=by kernel_rfl
theorem Gj (v:Value) (l:List Int) (w:World) (hR:Ids w v l) (hl:l.length≤1000):Calls prog 216 #[v] w fun e w'=>∃v,e=.returned v∧kL w' w.heap.size v l∧Below w.heap.size w w':=by
 obtain ⟨p,cap,rfl,hcap,hmax,hat⟩:=id hR;cases p with
 | none=>
  obtain rfl:l=[]:=by exact Ag
  have hq:=Rf cap;clear hat hcap hmax hR;go_enter func216,ntmps216;go_wp2_with fail;go_ret;exact ⟨_,rfl,kL.nil _ _,Below.refl _ _⟩
 | some a=>
  have hq:=ND a l.length cap;have z:=aA w (Obj.cells #[] 22);have hlen:l.length*8≤140737488355328:=by omega
  have hown:kL (w.alloc (Obj.cells #[] 22)) w.heap.size (.slice (some ⟨w.heap.size,0,none⟩) 0 0) []:=⟨by rfl,.inr ⟨w.heap.size,0,#[],rfl,Nat.le_refl _,heap_alloc_new w _,Nat.le_refl _,Nat.zero_le _,rfl,rfl⟩⟩;have hR2:=hR.below z;have hbz:=z.size;clear hat hcap hmax;go_enter func216,ntmps216;go_wp2_with (refine aD 7 ?_;refine rX (o:=⟨some 7,_,_,_,_,_⟩) rfl _ _ rfl rfl w.heap.size _ _ [] l rfl rfl hown hR2 TU hbz ?_;intro v' w' own' F7;rw [List.nil_append] at own');go_ret;exact ⟨v',rfl,own',z.trans F7⟩
end Go.Proofs.YtofhdhgfcomhiaaGreat
