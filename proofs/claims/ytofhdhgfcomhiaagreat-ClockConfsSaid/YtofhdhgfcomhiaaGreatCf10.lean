/- Of what laws of the clock want, part 10: Tlv TlvRef AppS TlvRef9 Chain2 OwnZ TlvOwn TlvBox TlvRef3 TlvOwn2 TlvOwn6 FramePut BodyGet3 HeadGet TlvRefG FrameRef FrameHere TlvRef4 TlvRef5 TlvRef6 Ids TlvRef7 TlvRef8 (mini.py). -/
import Derived.Test.YtofhdhgfcomhiaaGreatCf9
namespace Go.Proofs.YtofhdhgfcomhiaaGreat
open Go.RowKit Go.Proofs
set_option maxRecDepth 100000
set_option maxHeartbeats 100000000
set_option linter.unusedVariables false
set_option linter.unusedSimpArgs false
open Tryz
variable {B:Nat} {P:Program} {Q:Exit→Act→World→Prop} {S:World→Prop} {a:Act} {b:Nat} {base:Nat} {cap:Nat} {fuel:Nat} {g:Nat} {h:Nat} {i:Nat} {l:List UInt8} {listed:Array Bool} {n:Nat} {now:Int} {o:Oper} {oi:Oper} {op:Oper} {ops:Array Oper} {p:Prop} {rest:List Oper} {t:TypeId} {v:Value} {w:World} {w':World} {xs:List Value} {α:Type}
abbrev T2:=Int×List UInt8
abbrev Fh (q:T2):Value:=.agg #[.int .i64 q.1,sv q.2]
def bL:List T2→List Value
 | []=>[]
 | q::qs=>.int .i64 q.1::sv q.2::bL qs
theorem iD:∀qs:List T2,(bL qs).length=qs.length*2
 | []=>rfl
 | q::qs=>by simp only [bL,List.length_cons,iD qs];omega
theorem nH:∀(a b:List T2),bL (a++b)=bL a++bL b
 | [],b=>rfl
 | q::a,b=>by simp only [List.cons_append,bL,nH a b]
theorem rT:∀(qs:List T2),∀u ∈ bL qs,u.oneCell'=true
 | []=>by simp [bL]
 | q::qs=>by
  intro u hu
  simp only [bL,List.mem_cons] at hu
  rcases hu with rfl | rfl | hu
  ·rfl
  ·rfl
  ·exact rT qs u hu
theorem rU:∀(qs:List T2) (i:Nat) (h:i<qs.length),
  (bL qs)[i*2]? = some (.int .i64 (qs[i]).1)∧(bL qs)[i*2+1]? = some (sv (qs[i]).2)
 | q::qs,0,_=>⟨rfl,rfl⟩
 | q::qs,i+1,h=>by
  have ih:=rU qs i Pw
  rw [show (i+1)*2=i*2+2 by omega,show i*2+2+1=i*2+1+2 by omega]
  simpa only [bL,List.getElem?_cons_succ,List.getElem_cons_succ] using ih
theorem qC:∀(qs:List T2) (n:Nat),(bL qs).take (n*2)=bL (qs.take n)
 | [],n=>by simp [bL]
 | q::qs,0=>by simp [bL]
 | q::qs,n+1=>by
  rw [show (n+1)*2=n*2+1+1 by omega]
  simp only [bL,List.take_succ_cons,qC qs n]
def kC (w:World) (p:Option Addr) (qs:List T2):Prop:=
 qs=[]∨∃b off,p=some ⟨b,off,none⟩∧b<w.heap.size∧∀j v,(bL qs)[j]? = some v→w.cell? ⟨b,off+j,none⟩=some v
def kD (w:World) (v:Value) (qs:List T2):Prop:=
 ∃p cap,v=.slice p qs.length cap∧qs.length≤cap∧cap≤maxLen∧kC w p qs
theorem kD.nil (w:World):kD w (.slice none 0 0) []:=⟨none,0,rfl,Nat.le_refl _,Nat.zero_le _,.inl rfl⟩
theorem kC.pos {p:Option Addr} {qs:List T2} (h:kC w p qs) (hl:0<qs.length):∃b off,p=some ⟨b,off,none⟩∧b<w.heap.size∧∀j v,(bL qs)[j]? = some v→w.cell? ⟨b,off+j,none⟩=some v:=by exact IZ
theorem kC.below {p:Option Addr} {qs:List T2} (h:kC w p qs) (hb:Below w.heap.size w w'):kC w' p qs:=by exact Tp
theorem kD.below {qs:List T2} (h:kD w v qs) (hb:Below w.heap.size w w'):kD w' v qs:=by exact KR
theorem kC.take {w:World} {p:Option Addr} {qs:List T2} (h:kC w p qs) (n:Nat):kC w p (qs.take n):=by
 rcases h with rfl | ⟨b,off,rfl,hlt,hc⟩
 ·exact .inl (by simp)
 ·refine .inr ⟨b,off,rfl,hlt,fun j v hj=>hc j v ?_⟩;rw [←qC,List.getElem?_take] at hj;split at hj
  ·exact hj
  ·cases hj
def ou (w:World) (base:Nat) (v:Value) (qs:List T2):Prop:=w.ownsRow base 187 2 v qs.length (bL qs)
theorem ou.nil (w:World) (base:Nat):ou w base (.slice none 0 0) []:=World.ownsRow_nil w base _ _
theorem ou.tlvs {qs:List T2} (h:ou w base v qs):kD w v qs:=by
 rcases id h with ⟨_,⟨rfl,hn⟩ | ⟨g,cap,cur,rfl,_,hg,h3,h4,h5,h6⟩⟩
 ·obtain rfl:qs=[]:=List.eq_nil_of_length_eq_zero hn;exact kD.nil w
 ·refine ⟨_,_,rfl,h3,h4,.inr ⟨g,0,rfl,(Array.getElem?_eq_some_iff.1 hg).1,fun j v hj=>?_⟩⟩;have hjl:j<qs.length*2:=by have:=(List.getElem?_eq_some_iff.1 hj).1;rwa [iD] at this
  exact XG
theorem Y3:(prog.info? 187).map (fun i=>(i.zero,i.size,i.bytes))=some (some (.agg #[.int .i64 0,.string ⟨#[]⟩]),2,24):=by kernel_rfl
theorem Du (w:World) (base:Nat) (v x:Value) (qs ms:List T2) (hv:ou w base v qs) (hx:kD w x ms) (hbytes:(qs.length+ms.length)*24≤140737488355328) (hbase:base≤w.heap.size):∃v' w',(Builtin.append_ #[57,57] 57 #[v,x]).run prog w=.ok v' w'∧ou w' base v' (qs++ms)∧Below base w w':=by
 obtain ⟨p,cap,rfl,_,_,hat⟩:=hx;obtain ⟨i0,hi,hz0,hz1,hz2⟩:=info_parts Y3;have hlen:(qs++ms).length=qs.length+ms.length:=List.length_append;have hu:=underlying57;cases p with
 | none=>
  obtain rfl:ms=[]:=by exact Ag
  exact TL
 | some a=>
  have hnews:∀j u,(bL ms)[j]? = some u→w.cell? (a.add j)=some u:=by intro j u hu;have hj:=(List.getElem?_eq_some_iff.1 hu).1;rw [iD] at hj;obtain ⟨b,off,he,_,hc⟩:=hat.pos aJ;cases he;rw [Addr.add_plain];exact hc j u hu
  obtain ⟨v',w',hr,hown,hg,_⟩:=run_append_own (P:=prog) w base 57 57 187 i0 _ 2 24 hu hi hz0 hz1 hz2 rfl aX v qs.length (bL qs) hv a ms.length cap (bL ms) (iD ms) hnews (rT ms) KZ hbytes hbase;refine ⟨v',w',hr,?_,?_⟩
  ·unfold ou;rw [hlen,nH];exact hown
  ·exact IV
theorem qR (hgd:o.guard=none) (s x:Operand) (ho:o.op=.call { callee:=.builtin .append,args:=#[s,x],argTypes:=#[57,57] }) (hty:o.type=57) (base:Nat) (v x':Value) (l m:List T2) (hs:a.eval s=v) (hx:a.eval x=x') (hv:ou w base v l) (hX:kD w x' m) (hbytes:(l.length+m.length)*24≤140737488355328) (hbase:base≤w.heap.size) (h:∀v' w',ou w' base v' (l++m)→Below base w w'→wpList prog ops Q rest (a.put o.dst v') w'):wpList prog ops Q (o::rest) a w:=wpList_plain hgd fun K hK=>by obtain ⟨v',w',hr,h1,h2⟩:=Du w base v x' l m hv hX hbytes hbase;unfold Oper.wp execOp;simp only [ho,resolve,invoke,builtin,Sem.run_bind,Sem.run_pure,Result.andThen_ok,List.map_toArray,List.map_cons,List.map_nil,hs,hx,hty];simp only [hr];exact hK _ _ (h v' w' h1 h2)
def Jr (w:World) (b off:Nat) (qs:List T2):Prop:=∀wx,Below w.heap.size w wx→∀k (h:k<qs.length),
 wx.cell? ⟨b,off+k*2,none⟩=some (.int .i64 (qs[k]).1)∧wx.cell? ⟨b,off+k*2+1,none⟩=some (sv (qs[k]).2)
theorem kC.row {p:Option Addr} {qs:List T2} (h:kC w p qs) (hl:0<qs.length):∃b off,p=some ⟨b,off,none⟩∧Jr w b off qs:=by obtain ⟨b,off,rfl,hlt,hc⟩:=h.pos hl;refine ⟨b,off,rfl,fun wx hb k hk=>?_⟩;obtain ⟨e0,e1⟩:=rU qs k hk;rw [hb.cell (p:=⟨b,off+k*2,none⟩) hlt,hb.cell (p:=⟨b,off+k*2+1,none⟩) hlt];exact ⟨hc _ _ e0,hc _ _ e1⟩
theorem Jr.below {off:Nat} {qs:List T2} (h:Jr w b off qs) (hb:Below w.heap.size w w'):Jr w' b off qs:=fun wx k=>h wx (ah hb k)
theorem Jr.get {off:Nat} {qs:List T2} (h:Jr w b off qs) (k:Nat) (hk:k<qs.length):∃(c:Int) (s:List UInt8),qs[k]=(c,s) ∧
  Hid (∀wx,Below w.heap.size w wx→wx.cell? ⟨b,off+k*2,none⟩=some (.int .i64 c))∧Hid (∀wx,Below w.heap.size w wx→wx.cell? ⟨b,off+k*2+1,none⟩=some (sv s)):=
 ⟨_,_,rfl,hid fun wx hb=>(h wx hb k hk).1,hid fun wx hb=>(h wx hb k hk).2⟩
def gZ (q:T2):Bool:=decide (0≤q.1) && (decide (q.1≤65535) && (decide (q.2.length % 2=0) && decide (q.2.length≤400)))
theorem Js (n:Nat):(n:Int).tmod 2=((n % 2:Nat):Int):=by rw [Int.tmod_eq_emod_of_nonneg aJ];omega
theorem Dv (m:List UInt8):Go.Lib.strCells ⟨m.toArray⟩=cellsOf m:=by apply List.ext_getElem?;intro i;simp [Go.Lib.strCells,cellsOf]
theorem Fj (w:World) (base:Nat) (v:Value) (l m:List UInt8) (hv:Own w base v l) (hbytes:l.length+m.length≤140737488355328) (hbase:base≤w.heap.size):∃v' w',(Builtin.append_ #[132,9] 132 #[v,.string ⟨m.toArray⟩]).run prog w=.ok v' w'∧Own w' base v' (l++m)∧Below base w w':=by
 obtain ⟨i0,hi,hz0,hz1,hz2⟩:=info_parts mR;have hlen:(l++m).length=l.length+m.length:=List.length_append;have hsz:(⟨m.toArray⟩:ByteArray).size=m.length:=by show m.toArray.size=_;simp
 obtain ⟨v',w',hr,hown,hg,_⟩:=Go.Lib.run_append_own_string (P:=prog) w base 132 9 132 5 i0 underlying132 underlying9 hi hz0 hz1 hz2 v l.length (cellsOf l) hv ⟨m.toArray⟩ (by rw [hsz];unfold maxLen;omega) (by rw [hsz];omega) hbase;rw [hsz,Dv] at hown;refine ⟨v',w',hr,?_,(Below.refl base w).grown hg hbase (fun k hk=>(World.ownsRow.lt hv k hk).1)⟩;unfold Own;rw [hlen,gq];exact hown
theorem rV (hgd:o.guard=none) (s x:Operand) (ho:o.op=.call { callee:=.builtin .append,args:=#[s,x],argTypes:=#[132,9] }) (hty:o.type=132) (base:Nat) (v:Value) (l m:List UInt8) (hs:a.eval s=v) (hx:a.eval x=.string ⟨m.toArray⟩) (hv:Own w base v l) (hbytes:l.length+m.length≤140737488355328) (hbase:base≤w.heap.size) (h:∀v' w',Own w' base v' (l++m)→Below base w w'→wpList prog ops Q rest (a.put o.dst v') w'):wpList prog ops Q (o::rest) a w:=wpList_plain hgd fun K hK=>by obtain ⟨v',w',hr,h1,h2⟩:=Fj w base v l m hv hbytes hbase;rw [←hty] at hr;unfold Oper.wp execOp;simp only [ho,resolve,invoke,builtin,Sem.run_bind,Sem.run_pure,Result.andThen_ok,List.map_toArray,List.map_cons,List.map_nil,hs,hx,hty];rw [hty] at hr;simp only [hr];exact hK _ _ (h v' w' h1 h2)
def Mr (q:T2):List UInt8:=aj q.1 2++(aj q.2.length 2++q.2)
def iA (l:List T2):List UInt8:=l.flatMap Mr
theorem Fp (l:List T2) (q:T2):iA (l++[q])=iA l++Mr q:=by simp [iA]
def jf (l:List T2):List UInt8×Bool:=if l.length≤8∧l.all gZ=true then (iA l,true) else ([],false)
theorem Jt {l:List T2} (h:¬l.length≤8):jf l=([],false):=if_neg fun e=>h e.1
theorem P9 {l:List T2} (k:Nat) (hk:k<l.length) (h:gZ l[k]=false):jf l=([],false):=if_neg fun e=>by have:=List.all_eq_true.1 e.2 _ (List.getElem_mem hk);rw [h] at this;cases this
theorem Mt {l:List T2} (h8:l.length≤8) (h:∀j (hj:j<l.length),gZ l[j]=true):jf l=(iA l,true):=if_pos ⟨h8,List.all_eq_true.2 fun x hx=>by obtain ⟨k,hk,rfl⟩:=List.getElem_of_mem hx;exact h k hk⟩
theorem zF {c:Int} {s:List UInt8} (h:gZ (c,s)=true):0≤c∧c≤65535∧s.length % 2=0∧s.length≤400:=by simpa [gZ] using h
theorem U0 {β:Type} {P:α→β→Prop} {G:α→β→Prop} {R:Prop} (h1:(∀x y,P x y→G x y)→R) (h2:∀x y,P x y→G x y):R:=h1 h2
theorem rW (w:World) (base:Nat) (v x:Value) (l m:List UInt8) (hv:Own w base v l) (hx:Bytes w x m) (hbytes:l.length+m.length≤140737488355328) (hbase:base≤w.heap.size):∃v' w',(Builtin.append_ #[132,132] 132 #[v,x]).run prog w=.ok v' w'∧Own w' base v' (l++m)∧w.grownBy w' v.ownBlock∧Below base w w':=by
 obtain ⟨p,cap,rfl,_,_,hat⟩:=hx;obtain ⟨i0,hi,hz0,hz1,hz2⟩:=info_parts mR;have hlen:(l++m).length=l.length+m.length:=List.length_append;cases p with
 | none=>
  obtain rfl:m=[]:=by exact Ag
  refine ⟨v,w,?_,by simpa using hv,⟨rfl,rfl,rfl,Nat.le_refl _,fun _ _ _=>rfl⟩,Below.refl _ _⟩;exact Xm
 | some a=>
  have hnews:∀j u,(cellsOf m)[j]? = some u→w.cell? (a.add j)=some u:=by exact Xn
  obtain ⟨v',w',hr,hown,hg,_⟩:=run_append_own (P:=prog) w base 132 132 5 i0 _ 1 1 underlying132 hi hz0 hz1 hz2 rfl aX v l.length (cellsOf l) hv a m.length cap (cellsOf m) Pg hnews (kN m) KZ aJ hbase;refine ⟨v',w',hr,?_,hg,?_⟩
  ·unfold Own;rw [hlen,gq];exact hown
  ·exact IV
theorem ak.grown {row:Option Nat} (h:ak w g xs t) (hg:w.grownBy w' row) (hne:some g≠row):ak w' g xs t:=by unfold ak;rw [hg.block g h.lt hne];exact h
def mh (p:Option Addr) (w:World) (base:Nat) (v:Value) (l:List UInt8):Prop:=Own w base v l∨(l=[]∧∃a,p=some a∧v=.slice (some a) 0 0)
theorem mh.bytes {p:Option Addr} {w:World} {base:Nat} {v:Value} {l:List UInt8} (h:mh p w base v l):Bytes w v l:=by
 rcases h with h | ⟨rfl,a,rfl,rfl⟩
 ·exact h.bytes
 ·exact ⟨some a,0,rfl,Nat.le_refl _,Nat.zero_le _,.inl rfl⟩
theorem mh.below {p:Option Addr} {w w':World} {base:Nat} {v:Value} {l:List UInt8} (h:mh p w base v l) (hb:Below w.heap.size w w'):mh p w' base v l:=by
 rcases h with h | h
 ·exact .inl (h.below hb)
 ·exact .inr h
theorem mh.own {p:Option Addr} (h:mh p w base v l) (hl:0<l.length):Own w base v l:=by
 rcases h with h | ⟨rfl,_⟩
 ·exact h
 ·simp at hl
theorem mh.nil (h:mh none w base v l):Own w base v l:=by
 rcases h with h | ⟨_,a,h,_⟩
 ·exact h
 ·cases h
theorem mh.none (p:Option Addr) (w:World) (base:Nat):mh p w base (.slice p 0 0) []:=by
 cases p with
 | none=>exact .inl (Own.nil _ _)
 | some a=>exact .inr ⟨rfl,a,rfl,rfl⟩
theorem yN (q:Option Addr) (w:World) (base:Nat) (v x:Value) (l m:List UInt8) (hv:mh q w base v l) (hx:Bytes w x m) (hbytes:l.length+m.length≤140737488355328) (hbase:base≤w.heap.size):∃v' w',(Builtin.append_ #[132,132] 132 #[v,x]).run prog w=.ok v' w'∧mh q w' base v' (l++m)∧Below base w w':=by
 rcases hv with hv | ⟨rfl,a,rfl,rfl⟩
 ·obtain ⟨v',w',hr,h1,h2⟩:=rJ w base v x l m hv hx hbytes hbase;exact ⟨v',w',hr,.inl h1,h2⟩
 ·obtain ⟨i0,hi,hz0,hz1,hz2⟩:=info_parts mR;obtain ⟨p,cap,rfl,_,_,hat⟩:=hx;by_cases h0:m=[]
  ·subst h0;refine ⟨.slice (some a) 0 0,w,?_,.inr ⟨rfl,a,rfl,rfl⟩,Below.refl _ _⟩;cases p with
   | none=>simp [Builtin.append_,run_underlying underlying132,sizeOf,typeInfo,hi,Builtin.lenOf,Builtin.firstCells,storeCells]
   | some b=>
    have hf:(Builtin.firstCells i0.size 0 (.slice (some b) 0 cap)).run prog w=.ok [].toArray w:=run_firstCells_some (P:=prog) w i0.size 0 b 0 cap [] (by simp) (by simp);simp [Builtin.append_,run_underlying underlying132,sizeOf,typeInfo,hi,Builtin.lenOf,hf,storeCells]
  ·have hpos:0<m.length:=List.length_pos_iff.2 h0;obtain ⟨b,off,rfl,_,hc⟩:=hat.pos hpos
   obtain ⟨v',w',hr,hown,hg⟩:=run_append_arg_grows (P:=prog) w 132 132 5 i0 _ 1 1 underlying132 hi hz0 hz1 hz2 rfl aX a 0 0 [] (by simp) (by simp) ⟨b,off,none⟩ m.length cap (cellsOf m) Pg
    (fun j u hu=>by
     have hj:j<m.length:=by
      have:=(List.getElem?_eq_some_iff.1 hu).1
      rwa [aT] at this
     rw [fZ m j hj] at hu
     rw [Addr.add_plain,hc j hj]
     exact hu) aJ KZ X7
   refine ⟨v',w',hr,.inl (Own.mono (base:=w.heap.size) ?_ hbase),(Below.refl base w).grown hg hbase (fun k hk=>by cases hk)⟩;unfold Own;simpa using hown
theorem ow (hgd:o.guard=none) (s x:Operand) (ho:o.op=.call { callee:=.builtin .append,args:=#[s,x],argTypes:=#[132,132] }) (hty:o.type=132) (q:Option Addr) (base:Nat) (v x':Value) (l m:List UInt8) (hs:a.eval s=v) (hx:a.eval x=x') (hv:mh q w base v l) (hX:Bytes w x' m) (hbytes:l.length+m.length≤140737488355328) (hbase:base≤w.heap.size) (h:∀v' w',mh q w' base v' (l++m)→Below base w w'→wpList prog ops Q rest (a.put o.dst v') w'):wpList prog ops Q (o::rest) a w:=wpList_plain hgd fun K hK=>by obtain ⟨v',w',hr,h1,h2⟩:=yN q w base v x' l m hv hX hbytes hbase;unfold Oper.wp execOp;simp only [ho,resolve,invoke,builtin,Sem.run_bind,Sem.run_pure,Result.andThen_ok,List.map_toArray,List.map_cons,List.map_nil,hs,hx,hty];simp only [hr];exact hK _ _ (h v' w' h1 h2)
def zG (p:Option Addr) (w:World) (base N:Nat) (v:Value) (l:List UInt8):Prop:=(Own w base v l∧∀k,v.ownBlock=some k→k<N)∨(l=[]∧∃a,p=some a∧v=.slice (some a) 0 0)
theorem mh.known {p:Option Addr} (h:mh p w base v l):zG p w base w.heap.size v l:=by
 rcases h with h | h
 ·exact .inl ⟨h,fun k hk=>(World.ownsRow.lt h k hk).2⟩
 ·exact .inr h
theorem zG.below {p:Option Addr} {w w':World} {base N:Nat} {v:Value} {l:List UInt8} (h:zG p w base N v l) (hb:Below w.heap.size w w'):zG p w' base N v l:=by
 rcases h with h | h
 ·exact .inl ⟨h.1.below hb,h.2⟩
 ·exact .inr h
theorem Bp (q:Option Addr) (w:World) (base N:Nat) (v x:Value) (l m:List UInt8) (hv:zG q w base N v l) (hx:Bytes w x m) (hm:0<m.length) (hbytes:l.length+m.length≤140737488355328) (hbase:base≤w.heap.size):∃v' w',(Builtin.append_ #[132,132] 132 #[v,x]).run prog w=.ok v' w'∧Own w' base v' (l++m)∧Hid (∀g xs t,N≤g→ak w g xs t→ak w' g xs t)∧Below base w w':=by
 rcases hv with ⟨hv,hN⟩ | ⟨rfl,a,rfl,rfl⟩
 ·obtain ⟨v',w',hr,h1,hg,h2⟩:=rW w base v x l m hv hx hbytes hbase;exact ⟨v',w',hr,h1,fun g xs t hng hB=>hB.grown hg fun e=>by have:=hN g e.symm;omega,h2⟩
 ·obtain ⟨i0,hi,hz0,hz1,hz2⟩:=info_parts mR;obtain ⟨p,cap,rfl,_,_,hat⟩:=hx;obtain ⟨b,off,rfl,_,hc⟩:=hat.pos hm
  obtain ⟨v',w',hr,hown,hg⟩:=run_append_arg_grows (P:=prog) w 132 132 5 i0 _ 1 1 underlying132 hi hz0 hz1 hz2 rfl aX a 0 0 [] (by simp) (by simp) ⟨b,off,none⟩ m.length cap (cellsOf m) Pg
   (fun j u hu=>by
    have hj:j<m.length:=by
     have:=(List.getElem?_eq_some_iff.1 hu).1
     rwa [aT] at this
    rw [fZ m j hj] at hu
    rw [Addr.add_plain,hc j hj]
    exact hu) aJ KZ X7
  refine ⟨v',w',hr,Own.mono (base:=w.heap.size) ?_ hbase,fun g xs t _ hB=>hB.grown hg (by simp),(Below.refl base w).grown hg hbase (fun k hk=>by cases hk)⟩;unfold Own;simpa using hown
theorem qm (hgd:o.guard=none) (s x:Operand) (ho:o.op=.call { callee:=.builtin .append,args:=#[s,x],argTypes:=#[132,132] }) (hty:o.type=132) (q:Option Addr) (base N:Nat) (v x':Value) (l m:List UInt8) (hs:a.eval s=v) (hx:a.eval x=x') (hv:zG q w base N v l) (hX:Bytes w x' m) (hm:0<m.length) (hbytes:l.length+m.length≤140737488355328) (hbase:base≤w.heap.size) (h:∀v' w',Own w' base v' (l++m)→Hid (∀g xs t,N≤g→ak w g xs t→ak w' g xs t)→Below base w w'→wpList prog ops Q rest (a.put o.dst v') w'):wpList prog ops Q (o::rest) a w:=wpList_plain hgd fun K hK=>by obtain ⟨v',w',hr,h1,h2,h3⟩:=Bp q w base N v x' l m hv hX hm hbytes hbase;unfold Oper.wp execOp;simp only [ho,resolve,invoke,builtin,Sem.run_bind,Sem.run_pure,Result.andThen_ok,List.map_toArray,List.map_cons,List.map_nil,hs,hx,hty];simp only [hr];exact hK _ _ (h v' w' h1 h2 h3)
def Dw (v:Int):Bool:=decide (0≤v) && decide (v≤65535)
theorem Ju (v:Int) (w:World):Calls prog 240 #[.int .i64 v] w fun e w'=>e=.returned (.bool (Dw v))∧w=w':=by
 by_cases h:0≤v
 ·have e:Dw v=decide (v≤65535):=by unfold Dw;rw [decide_eq_true h,Bool.true_and]
  rw [e];go_enter func240,ntmps240;exact Eu
 ·have e:Dw v=false:=by unfold Dw;rw [decide_eq_false h,Bool.false_and]
  rw [e];go_enter func240,ntmps240;exact Eu
theorem Fq (c:Int) (s:List UInt8) (w:World) (hs:s.length≤9223372036854775807):Calls prog 205 #[Fh (c,s)] w fun e w'=>e=.returned (.bool (gZ (c,s)))∧Below w.heap.size w w':=by
 have HC:Hid (gZ (c,s)=(Dw c && (decide (s.length % 2=0) && decide (s.length≤400)))):=hid (by unfold gZ Dw;rw [Bool.and_assoc]);generalize gZ (c,s)=F at *;have he:=Js s.length;have hF:=Ju c;cases hc:Dw c with
 | true=>
  rw [hc] at HC hF;by_cases h2:s.length % 2=0
  ·rw [h2] at he;have h2I:((s.length:Int) % 2 == 0)=true:=by rw [beq_iff_eq];omega
   go_enter func205,ntmps205;go_wp2_with fail;refine (hF _).mono ?_;rintro e w' ⟨rfl,rfl⟩;clear hF;go_wp2_with fail;go_ret;exact ⟨dH (by rw [HC.out,decide_eq_true h2,Bool.true_and,Bool.true_and,Bool.eq_iff_iff];simp;try omega),aA _ _⟩
  ·have h2':s.length % 2=1:=by omega
   rw [h2'] at he;have h2I:((s.length:Int) % 2 == 0)=false:=by exact jm
   go_enter func205,ntmps205;go_wp2_with fail;refine (hF _).mono ?_;rintro e w' ⟨rfl,rfl⟩;clear hF;go_wp2_with fail;go_ret;exact ⟨by rw [HC.out,decide_eq_false h2,Bool.false_and,Bool.and_false];rfl,aA _ _⟩
 | false=>rw [hc] at HC hF;go_enter func205,ntmps205;go_wp2_with fail;refine (hF _).mono ?_;rintro e w' ⟨rfl,rfl⟩;clear hF;go_wp2_with fail;go_ret;exact ⟨by rw [HC.out,Bool.false_and];rfl,aA _ _⟩
theorem Dx:(prog.info? 187).map (·.size)=some 2:=by kernel_rfl
abbrev tL (q:T2):List Value:=[.int .i64 q.1,sv q.2]
theorem ak.P_ (h:ak w g xs t) (ys:List Value):ak (w.setRow g ys.toArray) g ys t:=by exact IX
theorem tV (hgd:op.guard=none) (x y:Operand) (ho:op.op=.store 187 x y)
  (g:Nat) (q:T2) (old:List Value) (t:TypeId) (hx:a.eval x=.pointer (some ⟨g,0,none⟩)) (hy:a.eval y=Fh q) (hB:ak w g old t) (hol:old.length=2)
  (h:wpList prog ops Q rest (a.put op.dst undef) (w.setRow g (tL q).toArray)):wpList prog ops Q (op::rest) a w:=
 wpList_store_row hgd _ x y ho g (tL q).toArray hx hy t old.toArray hB (by rw [Dx];rfl) (by simp [hol]) (all_oneCell_toArray (by intro v hv;simp only [List.mem_cons,List.not_mem_nil,or_false] at hv;rcases hv with rfl | rfl <;> rfl)) h
theorem nI {fn:Func} {p u:Tmp} (h:fn.results=#[.cell p 187,.tmp u]) (tmps:Array Value) (w:World) (g:Nat) (t:TypeId) (q:T2) (hp:tmps.getD p undef=.pointer (some ⟨g,0,none⟩)) (hB:ak w g (tL q) t):(results fn tmps).run prog w=.ok (.tuple #[Fh q,tmps.getD u undef]) w:=by
 have hp':tmps[p]?.getD undef=.pointer (some ⟨g,0,none⟩):=by simpa using hp
 simp [results,h,hp',asAddr,Sem.run_bind,run_loadVar_row w g t 187 (tL q).toArray (0,0) _ hB underlying187 rfl (by rw [Dx];rfl)]
theorem ou.below {l:List T2} (h:ou w base v l) (hb:Below w.heap.size w w'):ou w' base v l:=by exact O6
theorem Mv (w:World) (q:T2):kD (w.alloc (Obj.cells #[.int .i64 q.1,sv q.2] 187)) (.slice (some ⟨w.heap.size,0,none⟩) 1 1) [q]:=by have hB:=ak.new w [.int .i64 q.1,sv q.2] 187;exact ⟨some ⟨w.heap.size,0,none⟩,1,rfl,by simp,by unfold maxLen;omega,.inr ⟨w.heap.size,0,rfl,hB.lt,fun j v hj=>by rw [Nat.zero_add];exact hB.cell j v hj⟩⟩
theorem aSt (g:Nat) (q:T2) (old:List Value) {t:TypeId} (hB:ak w g old t) (hol:old.length=2) (h:wpList prog ops Q rest (a.put op.dst undef) (w.setRow g (tL q).toArray)) {x y:Operand} (hgd:op.guard=none:=by rfl) (ho:op.op=.store 187 x y:=by rfl) (hx:a.eval x=.pointer (some ⟨g,0,none⟩):=by rfl) (hy:a.eval y=Fh q:=by rfl):wpList prog ops Q (op::rest) a w:=tV hgd x y ho g q old t hx hy hB hol h

def xE (l:List T2) (t:Int):T2×Bool:=
 match l.find? (fun q=>q.1 == t) with
 | some q=>(q,true)
 | none=>((0,[]),false)
theorem Mw (v:Value) (l:List T2) (w:World) (hB:kD w v l) (hl:l.length≤140737488355328) (hz:∀q ∈ l,q.2.length≤140737488355328):Calls prog 145 #[v] w fun e w'=>e=.returned (.bool (jf l).2)∧Below w.heap.size w w':=by
 obtain ⟨p,cap,rfl,hc,-,hat⟩:=hB;have HAT:=hid fun (wx:World) (h:Below w.heap.size w wx)=>hat.below h;have HZ:=hid hz;clear hat hc hz;by_cases hok:l.length≤8
 ·have HN:=hid (@P9 l);have HY:=hid (@Mt l hok);generalize jf l=F at *;go_enter func145,ntmps145;go_wp2_with fail;go_loopw [10] (fun i wr=>∃k:Nat,k≤l.length∧i=.int .i64 k∧Hid (∀j (hj:j<l.length),j<k→gZ l[j]=true)∧Below w.heap.size w wr) (fun i _=>l.length - (intOf i).toNat);case atStart=>exact ⟨0,Nat.zero_le _,rfl,hid fun j hj h=>absurd h (Nat.not_lt_zero _),Below.refl _ _⟩
  case round=>
   obtain ⟨k,hk,rfl,hA,hb⟩:=hrel;by_cases hlt:k<l.length
   ·obtain ⟨b,off,rfl,hrow⟩:=(HAT.out _ hb).row aJ;obtain ⟨c,s,hq,H1,H2⟩:=hrow.get k hlt;have N:=ak.new wr [.int .i64 0,.string ⟨#[]⟩] 187;have nb:=aA wr (Obj.cells #[.int .i64 0,.string ⟨#[]⟩] 187);have c1:=H1.out _ (Below.refl _ _);have c2:=H2.out _ (Below.refl _ _);have hsz:=HZ.out l[k] (List.getElem_mem hlt);rw [hq] at hsz;have HQ:Hid (l[k]=(c,s)):=hid hq;have HS:=hid hsz;clear hrow hq hsz;have hks:k+1≤l.length:=hlt;go_upto_region 6 with (refine aN ?_;refine aSt wr.heap.size (c,s) (tL (0,[])) N rfl ?_;have B:=N.P_ (tL (c,s));replace nb:=below_setRow nb (Nat.le_refl _) (tL (c,s)).toArray;generalize World.setRow _ _ _=W at *;generalize hg:wr.heap.size=g at *);clear N c1 c2;have nc:Below wr.heap.size wr W:=by rw [hg];exact nb
    replace hb:=ah hb nc;have y:=B.cell 0 _ rfl;have z:=B.cell 1 _ rfl;clear nb nc;go_wp2_with fail;refine (Fq c s W (by have:=HS.out;omega)).mono ?_;rintro e w1 ⟨rfl,b1⟩;cases hck:gZ (c,s) with
    | true=>
     go_wp2_with fail;go_roundw;case rel=>
      refine ⟨k+1,hks,by go_num,hid fun j hj h=>?_,ah hb b1⟩;by_cases hjk:j=k
      ·subst hjk;rw [HQ.out];exact hck
      ·exact hA.out j hj aJ
     case measure=>simp [intOf];omega
    | false=>have hF:=HN.out k hlt (by rw [HQ.out];exact hck);subst hF;go_wp2_with fail;go_ret;exact ⟨rfl,ah hb b1⟩
   ·have hF:=HY.out fun j hj=>hA.out j hj aJ;subst hF;exact I4
 ·rw [Jt hok];go_enter func145,ntmps145;exact EC
theorem Jv {l:List T2} (h:(jf l).2=true):l.length≤8∧(∀j (hj:j<l.length),gZ l[j]=true)∧(jf l).1=iA l:=by
 unfold jf at h ⊢;split at h
 ·rename_i hh;rw [if_pos hh];exact ⟨hh.1,fun j hj=>List.all_eq_true.1 hh.2 _ (List.getElem_mem hj),rfl⟩
 ·cases h
theorem Fu {l:List T2} (h:(jf l).2=false):(jf l).1=[]:=by
 unfold jf at h ⊢;split at h
 ·cases h
 ·rename_i hh;rw [if_neg hh]
theorem Mx (p:Option Addr) (b:List UInt8) (cap:Nat) (v:Value) (l:List T2) (w:World) (hB:Bytes w (.slice p b.length cap) b) (hb:b.length≤140737488351232) (hT:kD w v l) (hl:l.length≤140737488355328) (hz:∀q ∈ l,q.2.length≤140737488355328):Calls prog 83 #[.slice p b.length cap,v] w fun e w'=>∃v',e=.returned (.tuple #[v',.bool (jf l).2])∧mh p w' w.heap.size v' (b++(jf l).1)∧Below w.heap.size w w':=by
 have hZ:=mh.none p w w.heap.size;have hM:=fun (wx:World) (h:Below w.heap.size w wx)=>Mw v l wx (hT.below h) hl hz;have HT:=hid fun (wx:World) (h:Below w.heap.size w wx)=>hT.below h;obtain ⟨p',cap',rfl,-,-,-⟩:=id hT;have hcap:b.length≤cap:=by obtain ⟨q,c,he,h1,-⟩:=hB;cases he;exact h1
 have hmax:cap≤9223372036854775807:=by obtain ⟨q,c,he,-,h1,-⟩:=hB;cases he;exact h1
 have PT:=hid (@Jv l);have PF:=hid (@Fu l);have HZ:=hid hz;clear hz;generalize jf l=F at *;obtain ⟨FS,FB⟩:=F;go_enter func83,ntmps83;go_wp2_with (at_builtin;refine ow (o:=⟨some 13,_,_,_,_,_⟩) rfl _ _ rfl rfl p w.heap.size _ _ [] b rfl rfl hZ hB ?_ (Nat.le_refl _) ?_;(simp;omega);intro v1 w1 o1 b1;rw [List.nil_append] at o1);refine (hM w1 b1).mono ?_;rintro e w2 ⟨rfl,b2⟩;replace o1:=o1.below b2;have hb2:=ah b1 b2;clear hM hB hT hZ b1 b2;cases FB with
 | false=>have hF:FS=[]:=PF.out rfl;subst hF;clear PF PT;go_wp2_with fail;go_ret2;exact ⟨_,rfl,by rw [List.append_nil];exact o1,hb2⟩
 | true=>
  obtain ⟨h8,hA,hf⟩:=PT.out rfl;have hf:FS=iA l:=hf;subst hf;have HA:=hid hA;clear hA PF PT;go_wp2_with fail;go_loopw [6,20] (fun a i wr=>∃k:Nat,k≤l.length∧i=.int .i64 k∧mh p wr w.heap.size a (b++iA (l.take k))∧Hid ((b++iA (l.take k)).length≤b.length+404*k)∧Below w.heap.size w wr) (fun _ i _=>l.length - (intOf i).toNat);case atStart=>exact ⟨0,Nat.zero_le _,rfl,by simpa [iA] using o1,hid (by simp [iA]),hb2⟩
  case round=>
   obtain ⟨k,hk,rfl,own,hT',hb⟩:=hrel;by_cases hlt:k<l.length
   ·obtain ⟨p',cap',he,-,-,hat⟩:=HT.out _ hb;cases he;obtain ⟨bb,off,rfl,hrow⟩:=hat.row aJ;obtain ⟨c,s,hq,H1,H2⟩:=hrow.get k hlt;have N:=ak.new wr [.int .i64 0,.string ⟨#[]⟩] 187;have nb:=aA wr (Obj.cells #[.int .i64 0,.string ⟨#[]⟩] 187);have c1:=H1.out _ (Below.refl _ _);have c2:=H2.out _ (Below.refl _ _);have hck:=HA.out k hlt;rw [hq] at hck;obtain ⟨hc0,hc1,hs2,hs4⟩:=zF hck;have hS:Hid (b++iA (l.take (k+1))=(b++iA (l.take k))++((aj c 2++aj s.length 2)++s)):=hid (by rw [fE l k hlt,Fp,hq];simp only [Mr,List.append_assoc]);have l1:(aj c 2).length=2:=aC _ 2 aX aX;have l2:(aj s.length 2).length=2:=aC _ 2 aX aX;have hTl:=hT'.out;clear hrow hq hck hat hs2;replace own:=own.known;have hks:k+1≤l.length:=hlt;generalize hTT:b++iA (l.take k)=T at *;go_upto_region 7 with (refine aN ?_;refine aSt wr.heap.size (c,s) (tL (0,[])) N rfl ?_;have B:=N.P_ (tL (c,s));replace nb:=below_setRow nb (Nat.le_refl _) (tL (c,s)).toArray;generalize World.setRow _ _ _=W at *;generalize hg:wr.heap.size=g at *);clear N c1 c2;have nc:Below wr.heap.size wr W:=by rw [hg];exact nb
    replace own:=own.below nc;replace hb:=ah hb nc;have y:=B.cell 0 _ rfl;have z:=B.cell 1 _ rfl;clear nb nc;go_wp2_with fail;refine (bI (.slice none 0 0) [] c 2 W (Bytes.nil W) aX).mono ?_;rintro _ w3 ⟨v3,rfl,o3,b3⟩;rw [List.nil_append] at o3;replace own:=own.below b3;replace hb:=ah hb b3;replace B:=B.below b3;clear y z b3;have y:=B.cell 0 _ rfl;have z:=B.cell 1 _ rfl;generalize aj c 2=pc at *;go_wp2_with fail;refine (bI v3 pc s.length 2 w3 o3.bytes aJ).mono ?_;rintro _ w4 ⟨v4,rfl,o4,b4⟩;replace own:=own.below b4;replace hb:=ah hb b4;replace B:=B.below b4;clear y z b4;have z:=B.cell 1 _ rfl;have l3:(pc++aj s.length 2).length=4:=by rw [List.length_append,l1,l2]
    generalize pc++aj s.length 2=H at *;have l4:(T++H).length=T.length+4:=by rw [List.length_append,l3]
    go_upto_region 10 with (at_builtin;refine qm (o:=⟨some 34,_,_,_,_,_⟩) rfl _ _ rfl rfl p w.heap.size g _ _ T H rfl rfl own o4.bytes aJ ?_ hb.size ?_;(omega);intro v5 w5 o5 k5 b5;have hz5:=k5.out g _ _ (Nat.le_refl _) B;replace hb:=hb.trans b5);clear z;have z:=hz5.cell 1 _ rfl;generalize hTH:T++H=TH at *;go_wp2_with (at_builtin;refine rV (o:=⟨some 38,_,_,_,_,_⟩) rfl _ _ rfl rfl w.heap.size _ TH s rfl rfl o5 ?_ hb.size ?_;(omega);intro v6 w6 o6 b6;replace hb:=hb.trans b6);go_roundw;case rel=>
     refine ⟨k+1,hks,by go_num,.inl ?_,hid ?_,hb⟩
     ·rw [hS.out,←List.append_assoc,hTH];exact o6
     ·rw [hS.out,←List.append_assoc,hTH,List.length_append];omega
    case measure=>simp [intOf];omega
   ·have hke:k=l.length:=by omega
    subst hke;rw [List.take_length] at own;go_wp2_with fail;go_ret2;exact ⟨_,rfl,own,hb⟩
def lC (h:Hd) (l:List T2):Int:=34+xq h.ty+((jf l).1.length:Int)
def qU (h:Hd) (d:Bd) (l:List T2):List UInt8:=(xD h (lC h l)++dZ h.ty d)++(jf l).1
def jg (h:Hd) (d:Bd) (l:List T2):Bool:=(jf l).2 && (iE h d && decide (lC h l≤400))
def kE (h:Hd) (d:Bd) (l:List T2):List UInt8×Bool:=if jg h d l=true then (qU h d l,true) else ([],false)
theorem Jw {h:Hd} {d:Bd} {l:List T2} (hh:jg h d l=false):kE h d l=([],false):=by unfold kE;rw [hh];rfl
theorem Fv {h:Hd} {d:Bd} {l:List T2} (hh:jg h d l=true):kE h d l=(qU h d l,true):=if_pos hh
def uX (d:Bd) (t:Int) (l:List UInt8) (A:Nat):Bd:=
 if t=11 then UK ⟨CZ l A,d.tc,d.tp,d.ut,d.p1,d.qc,d.qa,d.qv,d.p2,d.gr,d.sr,d.og,d.sh,d.hp,d.ac⟩ l (A+10)
 else if t=13 then UL ⟨d.st,(aF l A 8:Nat),(aF l (A+8) 2:Nat),d.ut,d.p1,d.qc,d.qa,d.qv,d.p2,d.gr,d.sr,d.og,d.sh,d.hp,d.ac⟩ l (A+10)
 else if l7 t=true∧mK t=true then ⟨CZ l A,(aF l (A+10) 8:Nat),(aF l ((A+10)+8) 2:Nat),d.ut,d.p1,d.qc,d.qa,d.qv,d.p2,d.gr,d.sr,d.og,d.sh,d.hp,d.ac⟩
 else if l7 t=true then ⟨CZ l A,d.tc,d.tp,d.ut,d.p1,d.qc,d.qa,d.qv,d.p2,d.gr,d.sr,d.og,d.sh,d.hp,d.ac⟩
 else ⟨d.st,(aF l A 8:Nat),(aF l (A+8) 2:Nat),d.ut,d.p1,d.qc,d.qa,d.qv,d.p2,d.gr,d.sr,d.og,d.sh,d.hp,d.ac⟩
def Sw (t:Int) (l:List UInt8) (A:Nat):Int:=if (l.length:Int) - A<xq t then 2 else if l7 t=true∧Yh l A=false then 10 else 0
def U1 (l:List UInt8):Hd:=⟨(aF l 0 1:Nat),(aF l 4 1:Nat),(aF l 6 2:Nat),dU l 8 8,(aF l 20 8:Nat),(aF l 28 2:Nat),(aF l 30 2:Nat),dU l 33 1⟩
def lenOf (l:List UInt8):Int:=(aF l 2 2:Nat)
def U2 (l:List UInt8):Bool:=!dW (aF l 0 1:Nat) || !decide (((aF l 1 1:Nat):Int) % 16=2) || !fV (lenOf l) 34 400
def yO (l:List UInt8):Int:=if l.length<34 then 2 else if U2 l then 4 else if (l.length:Int)<lenOf l then 2 else if lenOf l<l.length then 3 else 0
def getN (l:List UInt8):Int:=if yO l=0 then lenOf l else 0
def tX (l:List UInt8):Hd:=if yO l=0 then U1 l else hd0
theorem get_some (h:yO l=0):getN l=lenOf l∧tX l=U1 l:=⟨if_pos h,if_pos h⟩
def Y4 (b:List UInt8):Nat→Nat→List T2→List T2×Int
 | 0,A,acc=>if A<b.length then ([],7) else (acc,0)
 | k+1,A,acc=>
  if A<b.length then
   if b.length<A+4 then ([],2)
   else if b.length<A+4+aF b (A+2) 2 then ([],2)
   else if aF b (A+2) 2 % 2=0 then Y4 b k (A+4+aF b (A+2) 2) (acc++[(((aF b A 2:Nat):Int),(b.drop (A+4)).take (aF b (A+2) 2))])
   else ([],4)
  else (acc,0)
def getT (b:List UInt8) (at':Int):List T2×Int:=if 0≤at'∧at'≤b.length then Y4 b 8 at'.toNat [] else ([],1)
def Fw (b:List UInt8):List T2×Int:=getT b ((34:Int)+xq (tX b).ty)
def jh (b:List UInt8):Int:=if yO b=0 then (if Sw (tX b).ty b 34=0 then (Fw b).2 else Sw (tX b).ty b 34) else yO b
def oC (b:List UInt8):Hd:=if jh b=0 then tX b else hd0
def Bq (b:List UInt8):Bd:=if jh b=0 then uX vC (tX b).ty b 34 else vC
def frameT (b:List UInt8):List T2:=if jh b=0 then (Fw b).1 else []
theorem Jy {b:List UInt8} (h:jh b=0):oC b=tX b∧Bq b=uX vC (tX b).ty b 34∧frameT b=(Fw b).1:=⟨if_pos h,if_pos h,if_pos h⟩
theorem Dy {b:List UInt8} (h:yO b=0):34≤b.length∧dW (tX b).ty=true:=by
 have hh:=(get_some h).2;unfold yO at h;split at h
 ·cases h
 ·split at h
  ·cases h
  ·rename_i h1 h2;refine ⟨by omega,?_⟩;rw [hh];have h3:U2 b=false:=by simpa using h2
   unfold U2 at h3;simp only [Bool.or_eq_false_iff,Bool.not_eq_false'] at h3;first | exact h3.1.1 | exact h3.1 | exact h3.1.1.1
theorem Br {b:List UInt8} (h:yO b≠0):jh b=yO b:=if_neg h
theorem ou.mono {base':Nat} {l:List T2} (h:ou w base v l) (hb:base'≤base):ou w base' v l:=by exact O7
def tY (b:List UInt8) (dm:Int):Bool:=decide (jh b=0∧(oC b).dm≠dm)
def Dz (b:List UInt8) (dm:Int):Hd:=if tY b dm=true then hd0 else oC b
def H7 (b:List UInt8) (dm:Int):Bd:=if tY b dm=true then vC else Bq b
def H9 (b:List UInt8) (dm:Int):List T2:=if tY b dm=true then [] else frameT b
def DC (b:List UInt8) (dm:Int):Int:=if tY b dm=true then 6 else jh b
theorem Fx {b:List UInt8} {dm:Int} (h:jh b=0∧(oC b).dm≠dm):Dz b dm=hd0∧H7 b dm=vC∧H9 b dm=[]∧DC b dm=6:=by have e:tY b dm=true:=decide_eq_true h;exact ⟨if_pos e,if_pos e,if_pos e,if_pos e⟩
theorem Jz {b:List UInt8} {dm:Int} (h:¬(jh b=0∧(oC b).dm≠dm)):Dz b dm=oC b∧H7 b dm=Bq b∧H9 b dm=frameT b∧DC b dm=jh b:=by have e:¬tY b dm=true:=fun h2=>h (of_decide_eq_true h2);exact ⟨if_neg e,if_neg e,if_neg e,if_neg e⟩
def pU (q:T2):Nat×List UInt8×Bool:=if q.1=1∧2≤q.2.length then (aF q.2 0 2,q.2.drop 2,true) else (0,[],false)
def U3 (e i:Int):T2×Bool:=if (0≤e∧e≤65535)∧(0≤i∧i≤65535) then ((2,aj e 2++(aj i 2++[0,0,0,0])),true) else ((0,[]),false)
def H_ (i:Int) (m:List UInt8):T2×Bool:=
 if (0≤i∧i≤65535)∧m.length≤398 then ((1,(aj i 2++m)++(if m.length % 2=0 then [] else [0])),true) else ((0,[]),false)
def bZ (qs:List Int):List Value:=qs.map fun z=>.int .u64 z
theorem jG (qs:List Int):(bZ qs).length=qs.length:=by simp [bZ]
theorem vE (a b:List Int):bZ (a++b)=bZ a++bZ b:=by simp [bZ]
theorem Bt (qs:List Int):∀u ∈ bZ qs,u.oneCell'=true:=by intro u hu;simp only [bZ,List.mem_map] at hu;obtain ⟨z,_,rfl⟩:=hu;rfl
theorem Bu (qs:List Int) (i:Nat) (h:i<qs.length):(bZ qs)[i]? = some (.int .u64 qs[i]):=by simp [bZ,h]
theorem yP (qs:List Int) (n:Nat):(bZ qs).take n=bZ (qs.take n):=by simp [bZ,List.map_take]
def oD (w:World) (p:Option Addr) (qs:List Int):Prop:=
 qs=[]∨∃b off,p=some ⟨b,off,none⟩∧b<w.heap.size∧∀j v,(bZ qs)[j]? = some v→w.cell? ⟨b,off+j,none⟩=some v
def Ids (w:World) (v:Value) (qs:List Int):Prop:=
 ∃p cap,v=.slice p qs.length cap∧qs.length≤cap∧cap≤maxLen∧oD w p qs
theorem Ids.nil (w:World):Ids w (.slice none 0 0) []:=⟨none,0,rfl,Nat.le_refl _,Nat.zero_le _,.inl rfl⟩
theorem oD.pos {p:Option Addr} {qs:List Int} (h:oD w p qs) (hl:0<qs.length):∃b off,p=some ⟨b,off,none⟩∧b<w.heap.size∧∀j v,(bZ qs)[j]? = some v→w.cell? ⟨b,off+j,none⟩=some v:=by exact IZ
theorem oD.below {p:Option Addr} {qs:List Int} (h:oD w p qs) (hb:Below w.heap.size w w'):oD w' p qs:=by exact Tp
theorem Ids.below {qs:List Int} (h:Ids w v qs) (hb:Below w.heap.size w w'):Ids w' v qs:=by exact KR
theorem oD.take {w:World} {p:Option Addr} {qs:List Int} (h:oD w p qs) (n:Nat):oD w p (qs.take n):=by
 rcases h with rfl | ⟨b,off,rfl,hlt,hc⟩
 ·exact .inl (by simp)
 ·refine .inr ⟨b,off,rfl,hlt,fun j v hj=>hc j v ?_⟩;rw [←yP,List.getElem?_take] at hj;split at hj
  ·exact hj
  ·cases hj
def kL (w:World) (base:Nat) (v:Value) (qs:List Int):Prop:=w.ownsRow base 22 1 v qs.length (bZ qs)
theorem kL.nil (w:World) (base:Nat):kL w base (.slice none 0 0) []:=World.ownsRow_nil w base _ _
theorem kL.ids {qs:List Int} (h:kL w base v qs):Ids w v qs:=by
 rcases id h with ⟨_,⟨rfl,hn⟩ | ⟨g,cap,cur,rfl,_,hg,h3,h4,h5,h6⟩⟩
 ·obtain rfl:qs=[]:=List.eq_nil_of_length_eq_zero hn;exact Ids.nil w
 ·refine ⟨_,_,rfl,h3,h4,.inr ⟨g,0,rfl,(Array.getElem?_eq_some_iff.1 hg).1,fun j v hj=>?_⟩⟩;have hjl:j<qs.length:=by have:=(List.getElem?_eq_some_iff.1 hj).1;rwa [jG] at this
  rw [Nat.zero_add];simp only [World.cell?,hg];rw [←h6,Nat.mul_one,List.getElem?_take_of_lt hjl,Array.getElem?_toList] at hj;simpa using hj
theorem KN:(prog.info? 22).map (fun i=>(i.zero,i.size,i.bytes))=some (some (.int .u64 0),1,8):=by kernel_rfl
theorem Fy (w:World) (base:Nat) (v x:Value) (qs ms:List Int) (hv:kL w base v qs) (hx:Ids w x ms) (hbytes:(qs.length+ms.length)*8≤140737488355328) (hbase:base≤w.heap.size):∃v' w',(Builtin.append_ #[151,151] 151 #[v,x]).run prog w=.ok v' w'∧kL w' base v' (qs++ms)∧Below base w w':=by
 obtain ⟨p,cap,rfl,_,_,hat⟩:=hx;obtain ⟨i0,hi,hz0,hz1,hz2⟩:=info_parts KN;have hlen:(qs++ms).length=qs.length+ms.length:=List.length_append;have hu:=underlying151;cases p with
 | none=>
  obtain rfl:ms=[]:=by exact Ag
  exact TL
 | some a=>
  have hnews:∀j u,(bZ ms)[j]? = some u→w.cell? (a.add j)=some u:=by intro j u hu;have hj:=(List.getElem?_eq_some_iff.1 hu).1;rw [jG] at hj;obtain ⟨b,off,he,_,hc⟩:=hat.pos aJ;cases he;rw [Addr.add_plain];exact hc j u hu
  obtain ⟨v',w',hr,hown,hg,_⟩:=run_append_own (P:=prog) w base 151 151 22 i0 _ 1 8 hu hi hz0 hz1 hz2 rfl aX v qs.length (bZ qs) hv a ms.length cap (bZ ms) (by rw [jG];omega) hnews (Bt ms) KZ hbytes hbase;refine ⟨v',w',hr,?_,?_⟩
  ·unfold kL;rw [hlen,vE];exact hown
  ·exact IV
theorem rX (hgd:o.guard=none) (s x:Operand) (ho:o.op=.call { callee:=.builtin .append,args:=#[s,x],argTypes:=#[151,151] }) (hty:o.type=151) (base:Nat) (v x':Value) (l m:List Int) (hs:a.eval s=v) (hx:a.eval x=x') (hv:kL w base v l) (hX:Ids w x' m) (hbytes:(l.length+m.length)*8≤140737488355328) (hbase:base≤w.heap.size) (h:∀v' w',kL w' base v' (l++m)→Below base w w'→wpList prog ops Q rest (a.put o.dst v') w'):wpList prog ops Q (o::rest) a w:=wpList_plain hgd fun K hK=>by obtain ⟨v',w',hr,h1,h2⟩:=Fy w base v x' l m hv hX hbytes hbase;unfold Oper.wp execOp;simp only [ho,resolve,invoke,builtin,Sem.run_bind,Sem.run_pure,Result.andThen_ok,List.map_toArray,List.map_cons,List.map_nil,hs,hx,hty];simp only [hr];exact hK _ _ (h v' w' h1 h2)
def Qa (w:World) (b off:Nat) (qs:List Int):Prop:=∀wx,Below w.heap.size w wx→∀k (h:k<qs.length),wx.cell? ⟨b,off+k,none⟩=some (.int .u64 qs[k])
theorem oD.row {p:Option Addr} {qs:List Int} (h:oD w p qs) (hl:0<qs.length):∃b off,p=some ⟨b,off,none⟩∧Qa w b off qs:=by obtain ⟨b,off,rfl,hlt,hc⟩:=h.pos hl;refine ⟨b,off,rfl,fun wx hb k hk=>?_⟩;rw [hb.cell (p:=⟨b,off+k,none⟩) hlt];exact hc _ _ (Bu qs k hk)
theorem Qa.below {off:Nat} {qs:List Int} (h:Qa w b off qs) (hb:Below w.heap.size w w'):Qa w' b off qs:=fun wx k=>h wx (ah hb k)
def fQ (zs:List Int):List UInt8:=zs.flatMap fun z=>iJ z.toNat 8
theorem Fz (zs:List Int) (z:Int):fQ (zs++[z])=fQ zs++iJ z.toNat 8:=by simp [fQ]
theorem ni (zs:List Int):(fQ zs).length=8*zs.length:=by
 induction zs with
 | nil=>simp [fQ]
 | cons z zs ih=>simp only [fQ,List.flatMap_cons,List.length_append,dN,List.length_cons] at ih ⊢;omega
def kF (zs:List Int):T2×Bool:=if zs.length≤16 then ((8,fQ zs),true) else ((0,[]),false)
def Ia (s:List UInt8) (k:Nat):List Int:=(List.range k).map fun j=>((aF s (8*j) 8:Nat):Int)
theorem Bv (s:List UInt8) (k:Nat):(Ia s k).length=k:=by simp [Ia]
def rY (q:T2):List Int×Bool:=if q.1=8∧(q.2.length % 8=0∧q.2.length≤128) then (Ia q.2 (q.2.length / 8),true) else ([],false)
theorem kL.below {l:List Int} (h:kL w base v l) (hb:Below w.heap.size w w'):kL w' base v l:=by exact O6
theorem kL.mono {base':Nat} {l:List Int} (h:kL w base v l) (hb:base'≤base):kL w base' v l:=by exact O7
end Go.Proofs.YtofhdhgfcomhiaaGreat
