/- Of what laws of the clock want, part 14: PeeOwn InK MedRef MedOwn SrvOwn ClkMem ClkMem2 (mini.py). -/
import Derived.Test.YtofhdhgfcomhiaaGreatCf13
namespace Go.Proofs.YtofhdhgfcomhiaaGreat
open Go.RowKit Go.Proofs
set_option maxRecDepth 100000
set_option maxHeartbeats 100000000
set_option linter.unusedVariables false
set_option linter.unusedSimpArgs false
open Tryz
variable {B:Nat} {P:Program} {Q:Exit→Act→World→Prop} {S:World→Prop} {a:Act} {b:Nat} {base:Nat} {cap:Nat} {fuel:Nat} {g:Nat} {h:Nat} {i:Nat} {l:List UInt8} {listed:Array Bool} {n:Nat} {now:Int} {o:Oper} {oi:Oper} {op:Oper} {ops:Array Oper} {p:Prop} {rest:List Oper} {t:TypeId} {v:Value} {w:World} {w':World} {xs:List Value} {α:Type}
section
structure Rk where
 sc:Int
 sp:Int
 tk:Int
 st:Int
 co:Int
def rkL (r:Rk):List Value:=[.int .u64 r.sc,.int .i64 r.sp,.int .i64 r.tk,.int .i64 r.st,.int .i64 r.co]
def rkK:RowK Rk:=⟨rkL,5,by decide,fun _=>rfl,by
 intro q v hv
 simp only [rkL,List.mem_cons,List.not_mem_nil,or_false] at hv
 rcases hv with rfl | rfl | rfl | rfl | rfl <;> rfl⟩
def oU:Rk:=⟨0,0,0,0,0⟩
structure Qk where
 QO:Int
 sq:Int
 ta:Int
 bk:Rk
def qkL (r:Qk):List Value:=[.int .i64 r.QO,.int .i64 r.sq,.int .i64 r.ta]++rkL r.bk
def WB:RowK Qk:=⟨qkL,8,by decide,fun _=>rfl,by
 intro q v hv
 rcases List.mem_append.1 hv with hv | hv
 ·simp only [List.mem_cons,List.not_mem_nil,or_false] at hv
  rcases hv with rfl | rfl | rfl <;> rfl
 ·exact rkK.one _ v hv⟩
def FX:Qk:=⟨0,0,0,oU⟩
structure Ek where
 me:Int×Int
 dm:Int
 r:Qk
def QS:RowK Ek:=⟨fun q=>[.int .u64 q.me.1,.int .i64 q.me.2,.int .i64 q.dm]++qkL q.r,11,by decide,fun _=>rfl,by
 intro q v hv
 rcases List.mem_append.1 hv with hv | hv
 ·simp only [List.mem_cons,List.not_mem_nil,or_false] at hv
  rcases hv with rfl | rfl | rfl <;> rfl
 ·exact WB.one _ v hv⟩
theorem qkT:dB WB 232:=⟨⟨_,underlying232,rfl⟩,by kernel_rfl⟩
theorem ak.Vn {q:Ek} (h:ak w g (QS.enc q) t) (r:Qk):ak (w.setCells g 3 (WB.enc r)) g (QS.enc { q with r:=r }) t:=by have h1:=ak.mid (qkL r) (qkL q.r) [.int .u64 q.me.1,.int .i64 q.me.2,.int .i64 q.dm] [] w rfl K4;rw [List.append_nil] at h1;exact h1
theorem ak.back {q:Ek} (h:ak w g (QS.enc q) t):w.rangeAt g 6 (rkK.enc q.r.bk):=ak.bB [.int .u64 q.me.1,.int .i64 q.me.2,.int .i64 q.dm,.int .i64 q.r.QO,.int .i64 q.r.sq,.int .i64 q.r.ta] (rkL q.r.bk) [] K4
def Nh (QO sq ta:Int) (b:Rk) (x:Ps):Prop:=
 (QO=0∧(x.out=none∨((∃t,x.went=some t)∧(∃h,x.held=some h)∧x.sp=true)))
 ∨ (QO=1∧x.out=some sq∧x.went=none∧x.held=none∧x.sp=false)
 ∨ (QO=2∧x.out=some sq∧x.went=some ta∧x.held=none∧x.sp=false)
 ∨ (QO=3∧x.out=some sq∧x.went=some ta∧(∃m c,x.held=some (m,c)∧b=⟨m.1.sc,m.1.sp,IntKind.i64.wrap (c - ta),m.2.st,m.1.co⟩∧CU m.1)∧x.sp=false)
def EkR (xs:List Value) (x:Ps):Prop:=∃q:Ek,xs=QS.enc q∧x.me=q.me∧x.dm=q.dm∧Nh q.r.QO q.r.sq q.r.ta q.r.bk x
section
variable {x:Ps} {m:Hd×Bd} {n at' QO sq ta:Int} {b:Rk}
theorem B_ (h:x.out=none):Nh 0 0 0 oU x:=.inl ⟨rfl,.inl h⟩
end
theorem JN (v:Int) (w:World):Calls prog 132 #[.int .i64 v] w fun e w'=>e=.returned (.int .i64 ((v % 65536+1) % 65536))∧w=w':=by
 have hm:bits .and .i64 v 65535=v % 65536:=lN v 16 aX;have h1:wrap64 (v % 65536+1)=v % 65536+1:=by exact wE
 obtain ⟨k,hk⟩:∃k,(v % 65536+1) % 65536=k:=⟨_,rfl⟩;have hm2:bits .and .i64 (v % 65536+1) 65535=k:=(lN (v % 65536+1) 16 aX).trans hk;rw [hk];clear hk;go_enter func132,ntmps132;exact Eu
theorem QT:YI EkR:=by
 intro me dm w hme;have z0:=aA w (Obj.cells (iw.enc me).toArray 54);have hP:=ak.new w (iw.enc me) 54;have hb:=z0;clear z0;go_enter func101,ntmps101;go_upto_region 1 with fail;change Code.wp prog _ _ _ (w.alloc (Obj.cells (iw.enc me).toArray 54));generalize (w.alloc (Obj.cells (iw.enc me).toArray 54))=W at *;generalize hG:w.heap.size=G at *;rw [←hG] at hb;have l_hP:w.heap.size≤G:=by omega
 have e:=ak.new W (QS.enc ⟨me,dm,FX⟩) 234;have nb:=aA W (Obj.cells (QS.enc ⟨me,dm,FX⟩).toArray 234);go_wp2_with (first | (refine aD 5 ?_;refine YH.aL G 0 (me) hP.b_ ?_) | (refine aD 7 ?_;refine aB (QS.enc ⟨me,dm,FX⟩).toArray ?_));go_ret;exact ⟨_,rfl,hb.size,⟨_,e,_,rfl,rfl,rfl,B_ rfl⟩,ah hb nb⟩
theorem QU:YJ EkR:=by
 rintro g x n w ⟨xs,hB,q,rfl,hme,hdm,hst⟩ hn;have hgl:=hB.lt;have hb:=aA w (Obj.cells (eu.enc bO).toArray 56);have hM:=ak.new w (eu.enc bO) 56;replace hB:=hB.below hb;have ho:=Only.of_below g hb;have hne:g≠w.heap.size:=by omega
 obtain ⟨k,hk⟩:∃k,n % 65536=k:=⟨_,rfl⟩;have hN:(wrap64 (n - 1) % 65536+1) % 65536=k:=by rw [←hk];exact wE
 obtain ⟨m1,hm1⟩:∃m1:Hd×Bd,m1=qo x n:=⟨_,rfl⟩;have hm2:m1=(⟨2,q.dm,0,0,q.me.1,q.me.2,k,127⟩,vC):=by rw [hm1,←hk,←hme,←hdm];rfl
 have hs:uN x n=⟨q.me,q.dm,some k,none,none,false⟩:=by rw [←hk,←hme,←hdm];rfl
 clear hk hme hdm hst;replace hm1:=hid hm1;replace hm2:=hid hm2;replace hs:=hid hs;go_enter func175,ntmps175;go_upto_region 1 with fail;change Code.wp prog _ _ _ (w.alloc (Obj.cells (eu.enc bO).toArray 56));generalize w.alloc (Obj.cells (eu.enc bO).toArray 56)=W at *;generalize hG:w.heap.size=G at *;have lG:w.heap.size≤G:=Nat.le_of_eq hG;go_wp2_with fail;refine (JN _ _).mono ?_;rintro e w1 ⟨rfl,rfl⟩;try rw [IntKind.wrap_i64]
 rw [hN];clear hN;have hB2:=hB.Vn ⟨1,k,0,oU⟩;have hM2:ak (W.setCells g 3 (WB.enc ⟨1,k,0,oU⟩)) G (eu.enc bO) 56:=ak.gD (Ne.symm hne) _ _ _ hM;have ho2:=Only.cells (WB.enc ⟨1,k,0,oU⟩) 3 _ ho;go_upto_region 3 with (first | (refine aD 10 ?_;refine aB (WB.enc ⟨1,k,0,oU⟩).toArray ?_) | (refine aN ?_;refine qkT.aM g 3 (⟨1,k,0,oU⟩) hB (by rw [QS.len];decide) ?_));clear hB hM ho;generalize World.setCells _ _ _ _=W2 at *;refine wp_region_held_drew (S:=fun w'=>ak w' g (QS.enc { q with r:=⟨1,k,0,oU⟩ }) 234) aW (hB2.below (Below.drew (Below.refl _ _))) ?_;intro hS;have hbd:=Below.drew (Below.refl W2.heap.size W2);replace hM2:=hM2.below hbd;replace ho2:=ho2.next hbd;clear hbd hB2;generalize W2.drew=WD at *;refine tk [0,1,2] hS ?_;refine rt 3 hS ?_ (hy:=fun wx hwx=>by have q2:wx.cell? ⟨g,2,none⟩=some (.int .i64 q.dm):=hwx.cell 2 _ rfl;go_simp;try with_reducible rfl);refine tk [4,5,6] hS ?_;refine rt 7 hS ?_ (hy:=fun wx hwx=>by have q0:wx.cell? ⟨g,0,none⟩=some (.int .u64 q.me.1):=hwx.cell 0 _ rfl;have q1:wx.cell? ⟨g,1,none⟩=some (.int .i64 q.me.2):=hwx.cell 1 _ rfl;go_simp;try with_reducible rfl);refine tk [8] hS ?_;refine rt 9 hS ?_ (hy:=fun wx hwx=>bg _ _ rfl _ rfl (eu.enc m1).toArray (by rw [hm2.out];kernel_rfl));refine aR 10 fun K' hK=>?_;refine zi.dS _ _ rfl G m1 bO _ bn bn hM2 ?_;refine hK.out _ _ (hS.gu hne _) ?_;clear hK K';try simp only [Act.put,zI,bG,zS]
 refine wpAnyH_done aW ?_ _;go_wp2_with fail;rw [←hm1.out,hs.out];exact bodyPost_ret (v:=.agg (eu.enc m1).toArray) (zi.result rfl _ _ G _ _ rfl (hM2.fB _)) rfl ⟨rfl,⟨_,hS.gu hne _,_,rfl,rfl,rfl,.inr (.inl ⟨rfl,rfl,rfl,rfl,rfl⟩)⟩,ho2.G9 lG _⟩
end
def jV:RowK Int:=⟨fun z=>[.int .i64 z],1,by decide,fun _=>rfl,by intro a u hu;rw [List.mem_singleton.1 hu];rfl⟩
theorem oW:(prog.info? 3).map (fun i=>(i.zero,i.size,i.bytes))=some (some (.int .i64 0),jV.n,8):=by kernel_rfl
theorem zP (l:List Int):jV.cells l=l.map (fun z=>Value.int .i64 z):=by
 induction l with
 | nil=>rfl
 | cons a t ih=>show jV.enc a++jV.cells t=_;rw [ih];rfl
theorem RowK.Reads.Ni {l:List Int} (h:jV.Reads w v l):Ints w v l:=by
 obtain ⟨p,cap,rfl,h1,h2,h3⟩:=h;refine ⟨p,cap,rfl,h1,h2,?_⟩;rcases h3 with rfl | ⟨b,off,rfl,hlt,hc⟩
 ·exact .inl rfl
 ·refine .inr ⟨b,off,rfl,hlt,fun i hi=>hc i _ ?_⟩;rw [zP,List.getElem?_map,List.getElem?_eq_getElem hi];rfl
theorem sD (x:Int) (w:World):(Instr.buildSlice 39 1 #[(0,.int .i64 x)]).run prog w=.ok (.slice (some ⟨w.heap.size,0,none⟩) 1 1) (w.alloc (Obj.cells (jV.enc x).toArray 3)):=by kernel_rfl
def QV (w:World) (M:Nat) (v:Value) (l:List Int):Prop:=
 ∃p cap,v=.slice p l.length cap∧l.length≤cap∧cap≤maxLen∧(l=[]∨∃b off,p=some ⟨b,off,none⟩∧M≤b∧b<w.heap.size∧∀i (h:i<l.length),w.cell? ⟨b,off+i,none⟩=some (.int .i64 l[i]))
theorem Nj (h:w'.heap[b]? = w.heap[b]?):w'.cell? ⟨b,i,none⟩=w.cell? ⟨b,i,none⟩:=by unfold World.cell?;rw [h]
theorem QV.below {M:Nat} {l:List Int} (h:QV w M v l) (hb:Below w.heap.size w w'):QV w' M v l:=by
 obtain ⟨p,cap,rfl,h1,h2,h3⟩:=h;refine ⟨p,cap,rfl,h1,h2,?_⟩;rcases h3 with h | ⟨b,off,hp,hM,hlt,hc⟩
 ·exact .inl h
 ·exact .inr ⟨b,off,hp,hM,Nat.lt_of_lt_of_le hlt hb.size,fun i hi=>by rw [hb.cell (p:=⟨b,off+i,none⟩) hlt];exact hc i hi⟩
theorem QV.only {M:Nat} {l:List Int} (h:QV w M v l) (ho:Only g w w') (hg:g<M):QV w' M v l:=by
 obtain ⟨p,cap,rfl,h1,h2,h3⟩:=h;refine ⟨p,cap,rfl,h1,h2,?_⟩;rcases h3 with h | ⟨b,off,hp,hM,hlt,hc⟩
 ·exact .inl h
 ·exact .inr ⟨b,off,hp,hM,Nat.lt_of_lt_of_le hlt ho.size,fun i hi=>by rw [Nj (ho.block b hlt aJ)];exact hc i hi⟩
theorem QV.mono {M N:Nat} {l:List Int} (h:QV w M v l) (hN:N≤M):QV w N v l:=by
 obtain ⟨p,cap,rfl,h1,h2,h3⟩:=h;refine ⟨p,cap,rfl,h1,h2,?_⟩;rcases h3 with h | ⟨b,off,hp,hM,r⟩
 ·exact .inl h
 ·exact .inr ⟨b,off,hp,Nat.le_trans hN hM,r⟩
def mI (rs:List Int):List Value:=rs.map fun z=>Value.int .i64 z
theorem JO (rs:List Int):(mI rs).length=rs.length:=by unfold mI;rw [List.length_map]
theorem Nk (rs:List Int):jV.cells rs=mI rs:=zP rs
theorem Vo (rs:List Int):∀u ∈ mI rs,u.oneCell'=true:=by rw [←Nk];exact jV.cells_one rs
def lI (n:Int) (rs:List Int) (k:Int):List Value:=.int .i64 n::(mI rs++[.int .i64 k])
theorem oZ {n k:Int} {rs:List Int} (h:rs.length=15):(lI n rs k).length=17:=by unfold lI;rw [List.length_cons,List.length_append,JO,h];rfl
def Ca (xs:List Value) (s:Nat×List Int):Prop:=∃rs:List Int,rs.length=15∧xs=lI s.1 rs s.2.length∧rs.take s.2.length=s.2
theorem Nl {l:List Int} (h:bY 195 Ca w g (n,l)):∃rs:List Int,rs.length=15∧ak w g (lI n rs l.length) 195∧rs.take l.length=l:=by obtain ⟨xs,hB,rs,h1,rfl,h2⟩:=h;exact ⟨rs,h1,hB,h2⟩
theorem DY {l rs:List Int} (h1:rs.length=15) (hB:ak w g (lI n rs l.length) 195) (h2:rs.take l.length=l):bY 195 Ca w g (n,l):=⟨_,hB,rs,h1,rfl,h2⟩
def Zk (s:Sv):List Value:=[.int .i64 s.kp,.int .i64 s.ki,.int .i64 s.sp,.int .i64 s.st,.int .i64 s.fq,.int .i64 s.dr,.int .i64 (min s.cm 3)]
def DZ (xs:List Value) (s:Sv):Prop:=xs=Zk s
theorem Nn {s:Sv} (h:Dh DZ w g s):ak w g (Zk s) 190:=by obtain ⟨xs,hB,rfl⟩:=h;exact hB
theorem Np {s:Sv} (h:ak w g (Zk s) 190):Dh DZ w g s:=⟨_,h,rfl⟩
theorem QW {a b:Int} (h:a=b):Ending.returned (.int .i64 a)=.returned (.int .i64 b):=by rw [h]
theorem Cb (v a b:Int) (w:World):Calls prog 97 #[.int .i64 v,.int .i64 a,.int .i64 b] w fun e w'=>e=.returned (.int .i64 (ng v a b))∧w'=w:=by
 go_enter func97,ntmps97;go_wp2_with fail
 all_goals
  go_ret
  refine ⟨?_,rfl⟩
  unfold ng
  first
   | rfl
   | exact QW aJ
theorem Cc:YM DZ:=by intro kp ki sp w;obtain ⟨s0,hs⟩:∃s0,uV kp ki sp=s0:=⟨_,rfl⟩;have e:=ak.new w (Zk (uV kp ki sp)) 190;have nb:=aA w (Obj.cells (Zk (uV kp ki sp)).toArray 190);go_enter func57,ntmps57;go_wp2_with fail;refine (Cb _ _ _ _).mono ?_;rintro e w' ⟨rfl,rfl⟩;go_wp2_with fail;refine (Cb _ _ _ _).mono ?_;rintro e w' ⟨rfl,rfl⟩;go_wp2_with fail;refine (Cb _ _ _ _).mono ?_;rintro e w' ⟨rfl,rfl⟩;go_wp2_with fail;go_ret;exact ⟨_,rfl,Nat.le_refl _,Np e,nb⟩
theorem QX:YN DZ:=by intro g s w hT;have c0:=(Nn hT).cell 4 _ rfl;go_enter func51,ntmps51;exact EC
section
abbrev SB:TypeId:=82
abbrev SC:TypeId:=128
abbrev OL:TypeId:=115
abbrev WC:TypeId:=276
abbrev Ce:TypeId:=73
abbrev tyT:TypeId:=169
abbrev tyQ:TypeId:=256
abbrev tyX:TypeId:=228
abbrev tyY:TypeId:=234
abbrev tyV:TypeId:=190
abbrev Vp:TypeId:=195
abbrev WE:TypeId:=22
def vG (t:TypeId):Bool:=t == SB || t == SC || t == tyT || t == tyQ || t == tyX || t == tyY || t == tyV || t == Vp || t == WC || t == WE
def Ty (w:World) (n:Nat) (t:TypeId):Prop:=∃xs fr,w.heap[n]? = some (.cells xs t fr)
theorem Ty.one {t':TypeId} (h:Ty w n t) (h':Ty w n t'):t=t':=by obtain ⟨xs,fr,e⟩:=h;obtain ⟨xs',fr',e'⟩:=h';have h1:=e.symm.trans e';simp only [Option.some.injEq,Obj.cells.injEq] at h1;exact h1.2.1
theorem Ty.lt (h:Ty w n t):n<w.heap.size:=by obtain ⟨xs,fr,e⟩:=h;exact (Array.getElem?_eq_some_iff.1 e).1
theorem Ty.eq (h:Ty w n t) (e:w'.heap[n]? = w.heap[n]?):Ty w' n t:=by obtain ⟨xs,fr,h⟩:=h;exact ⟨xs,fr,e.trans h⟩
theorem ak.ty (h:ak w g xs t):Ty w g t:=⟨_,_,h⟩
theorem bY.ty {σ:Type} {T:TypeId} {R:List Value→σ→Prop} {w:World} {g:Nat} {s:σ} (h:bY T R w g s):Ty w g T:=by obtain ⟨xs,hB,-⟩:=h;exact hB.ty
theorem bY.same {σ:Type} {T:TypeId} {R:List Value→σ→Prop} {s:σ} (h:bY T R w g s) (e:w'.heap[g]? = w.heap[g]?):bY T R w' g s:=by obtain ⟨xs,hB,hR⟩:=h;exact ⟨xs,e.trans hB,hR⟩
theorem ak.same (h:ak w g xs t) (e:w'.heap[g]? = w.heap[g]?):ak w' g xs t:=e.trans h
theorem JQ {o:Nat} (h:w.cell? ⟨b,o,none⟩=some v) (e:w'.heap[b]? = w.heap[b]?):w'.cell? ⟨b,o,none⟩=some v:=by rw [←h];unfold World.cell?;simp only [e]
structure Pe where
 key:Int×Int
 ids:List Int
 ad:Option Addr
 cap:Nat
def Pe.val (e:Pe):Value:=.slice e.ad e.ids.length e.cap
def Im:RowK Pe:=⟨fun e=>[.int .u64 e.key.1,.int .i64 e.key.2,e.val],3,by decide,fun _=>rfl,by
 intro e v hv
 simp only [List.mem_cons,List.not_mem_nil,or_false] at hv
 rcases hv with rfl | rfl | rfl <;> rfl⟩
def jK (w:World) (pv:Value) (G:Nat→Prop) (p:Pt):Prop:=
 (∀n,G n→Ty w n WC∨Ty w n WE)∧∃qs:List Pe,(∀w':World,(∀n,G n→w'.heap[n]? = w.heap[n]?)→Im.Reads w' pv qs∧∀e ∈ qs,Ids w' e.val e.ids)
  ∧ (qs.map Pe.key).Nodup∧(∀a:Int×Int,iQ a p=true→∃e ∈ qs,e.key=a∧e.ids=rZ p.kK a)∧(∀e ∈ qs,e.ids.length≤50)∧qs.length≤6
theorem jK.same {pv:Value} {G:Nat→Prop} {p:Pt} (h:jK w pv G p) (e:∀n,G n→w'.heap[n]? = w.heap[n]?):jK w' pv G p:=by
 obtain ⟨h1,qs,h2,h3⟩:=h;refine ⟨fun n hn=>?_,qs,fun w'' h''=>h2 w'' fun n hn=>(h'' n hn).trans (e n hn),h3⟩;rcases h1 n hn with h | h
 ·exact .inl (h.eq (e n hn))
 ·exact .inr (h.eq (e n hn))
theorem jK.nil (w:World) (p:Pt) {G:Nat→Prop} (hG:∀n,G n→Ty w n WC∨Ty w n WE) (ht:p.tab.l=[]):jK w (.slice none 0 0) G p:=by refine ⟨hG,[],fun w' _=>⟨RowK.Reads.nil Im w',fun e he=>absurd he (by simp)⟩,List.nodup_nil,fun a ha=>?_,fun e he=>absurd he (by simp),Nat.zero_le _⟩;unfold iQ at ha;rw [ht] at ha;cases ha
theorem jK.as {pv:Value} {G:Nat→Prop} {p q:Pt} (h:jK w pv G p) (e1:q.tab.l=p.tab.l) (e2:q.kK=p.kK):jK w pv G q:=by
 obtain ⟨h1,qs,h2,h3,h4,h5⟩:=h;refine ⟨h1,qs,h2,h3,fun a ha=>?_,h5⟩;have:iQ a p=true:=by unfold iQ at ha ⊢;rw [←e1];exact ha
 rw [e2];exact h4 a this
structure PL where
 t:Nat
 m:Nat
 x:Nat
 y:Nat
 G:Nat→Prop
def Cx (a:Int×Int) (b:PL) (pv:Value) (p:Pt):List Value:=
 [.int .u64 a.1,.int .i64 a.2,.int .i64 p.st,.pointer (some ⟨b.t,0,none⟩),pv,.int .i64 p.tr,.int .i64 p.tq,.int .i64 p.ta,.int .i64 p.ts,.int .i64 p.tk,.int .i64 p.na,.int .i64 p.ns,.int .i64 p.nk,
  .pointer (some ⟨b.m,0,none⟩),.pointer (some ⟨b.x,0,none⟩),.pointer (some ⟨b.y,0,none⟩),.int .i64 (p.df.getD 0),.bool p.df.isSome,.int .i64 (p.pr.getD 0),.bool p.pr.isSome]++aH (p.last.getD bO).1 (p.last.getD bO).2
theorem FY (a:Int×Int) (b:PL) (pv:Value) (p:Pt):(Cx a b pv p).length=43:=rfl
structure o8 (w:World) (h:Nat) (a:Int×Int) (b:PL) (p:Pt):Prop where
 box:∃pv,ak w h (Cx a b pv p) SC∧jK w pv b.G p
 tab:qj nM w b.t p.tab
 mat:Wo Zi w b.m p.m
 del:∃d,Uj Zj w b.x { p.x with dm:=d }
 WG:∃d,LJ EkR w b.y { p.y with dm:=d }
def OF (h:Nat) (b:PL) (n:Nat):Prop:=n=h∨n=b.t∨n=b.m∨n=b.x∨n=b.y
theorem qj.same {t:Ft} {R:List Value→Ft→Prop} (h:qj R w g t) (e:w'.heap[g]? = w.heap[g]?):qj R w' g t:=by obtain ⟨xs,hB,hR⟩:=h;exact ⟨xs,e.trans hB,hR⟩
theorem qj.ty {w:World} {g:Nat} {t:Ft} {R:List Value→Ft→Prop} (h:qj R w g t):Ty w g tyT:=by obtain ⟨xs,hB,-⟩:=h;exact hB.ty
theorem o8.same {w w':World} {h:Nat} {a:Int×Int} {b:PL} {p:Pt} (H:o8 w h a b p) (e:∀n,OF h b n∨b.G n→w'.heap[n]? = w.heap[n]?):o8 w' h a b p:=by obtain ⟨⟨pv,h1,h2⟩,h3,h4,⟨d,h5⟩,⟨d',h6⟩⟩:=H;exact ⟨⟨pv,h1.same (e _ (.inl (.inl rfl))),h2.same fun n hn=>e n (.inr hn)⟩,h3.same (e _ (.inl (.inr (.inl rfl)))),h4.same (e _ (.inl (.inr (.inr (.inl rfl))))),⟨d,h5.same (e _ (.inl (.inr (.inr (.inr (.inl rfl))))))⟩,⟨d',h6.same (e _ (.inl (.inr (.inr (.inr (.inr rfl))))))⟩⟩
theorem o8.ty {w:World} {h:Nat} {a:Int×Int} {b:PL} {p:Pt} (H:o8 w h a b p):∀n,OF h b n→∃t,Ty w n t∧vG t=true∧t≠WC∧t≠WE∧t≠SB∧t≠tyV∧t≠Vp:=by
 obtain ⟨⟨pv,h1,h2⟩,h3,h4,⟨d,h5⟩,⟨d',h6⟩⟩:=H;rintro n (rfl | rfl | rfl | rfl | rfl)
 ·exact ⟨_,h1.ty,by decide,by decide,by decide,by decide,by decide,by decide⟩
 ·exact ⟨_,h3.ty,by decide,by decide,by decide,by decide,by decide,by decide⟩
 ·exact ⟨_,h4.ty,by decide,by decide,by decide,by decide,by decide,by decide⟩
 ·exact ⟨_,h5.ty,by decide,by decide,by decide,by decide,by decide,by decide⟩
 ·exact ⟨_,h6.ty,by decide,by decide,by decide,by decide,by decide,by decide⟩
theorem o8.rows {a:Int×Int} {b:PL} {p:Pt} (H:o8 w h a b p):∀n,b.G n→Ty w n WC∨Ty w n WE:=by obtain ⟨⟨pv,h1,h2⟩,-⟩:=H;exact h2.1
def Nq (hs:List Nat) (i:Nat):Value:=.pointer ((hs[i]?).map fun h=>⟨h,0,none⟩)
def fI (hs:List Nat) (sv fl:Nat) (k:Kz):List Value:=
 cfL k.c++[Nq hs 0,Nq hs 1,Nq hs 2,Nq hs 3,Nq hs 4,Nq hs 5,Nq hs 6,Nq hs 7,.int .i64 k.tk,.int .i64 k.dr]++rz k.pa++[.pointer (some ⟨sv,0,none⟩),.pointer (some ⟨fl,0,none⟩),.int .i64 k.off,.int .i64 (k.de.getD 0),.bool k.de.isSome]
theorem wJ (hs:List Nat) (sv fl:Nat) (k:Kz):(fI hs sv fl k).length=50:=rfl
theorem D5 (hs:List Nat) (sv fl:Nat) (k:Kz) (i:Nat) (hi:i<8):(fI hs sv fl k)[23+i]? = some (Nq hs i):=by rcases i with _ | _ | _ | _ | _ | _ | _ | _ | i <;> first | rfl | omega
structure Parts (w:World) (hs:List Nat) (sv fl:Nat) (bs:List PL) (F:Nat→Prop) (k:Kz):Prop where
 hsv:Dh DZ w sv k.sv
 hfl:bY Vp Ca w fl k.fl
 lh:hs.length=k.ls.length
 lb:bs.length=k.ls.length
 l8:k.ls.length≤8
 pt:∀(i:Nat) (h:Nat) (b:PL) (p:Pt),hs[i]? = some h→bs[i]? = some b→k.ls[i]? = some p→o8 w h (nu k.c i) b p
 ap:∀(i j:Nat) (h h':Nat) (b b':PL),hs[i]? = some h→bs[i]? = some b→hs[j]? = some h'→bs[j]? = some b'→i≠j→∀n,OF h b n→¬OF h' b' n
 foot:∀n,F n↔n=sv∨n=fl∨∃(i:Nat) (h:Nat) (b:PL),hs[i]? = some h∧bs[i]? = some b∧(OF h b n∨b.G n)
structure Lay (w:World) (g:Nat) (hs:List Nat) (sv fl:Nat) (bs:List PL) (F:Nat→Prop) (k:Kz):Prop where
 box:ak w g (fI hs sv fl k) SB
 ps:Parts w hs sv fl bs F k
def aK (g:Nat) (F:Nat→Prop) (n:Nat):Prop:=n=g∨F n
section
variable {w w':World} {g:Nat} {hs:List Nat} {sv fl:Nat} {bs:List PL} {F:Nat→Prop} {k:Kz}
theorem Parts.get (L:Parts w hs sv fl bs F k) {i:Nat} {h:Nat} {b:PL} (hh:hs[i]? = some h) (hb:bs[i]? = some b):∃p,k.ls[i]? = some p∧o8 w h (nu k.c i) b p:=by
 have hi:i<hs.length:=(List.getElem?_eq_some_iff.1 hh).1;have hi2:i<k.ls.length:=by rw [←L.lh];exact hi
 exact ⟨_,List.getElem?_eq_getElem hi2,L.pt i h b _ hh hb (List.getElem?_eq_getElem hi2)⟩
theorem Parts.ty (L:Parts w hs sv fl bs F k):∀n,F n→∃t,Ty w n t∧vG t=true∧t≠SB:=by
 intro n hn;rcases (L.foot n).1 hn with rfl | rfl | ⟨i,h,b,hh,hb,ho⟩
 ·exact ⟨_,L.hsv.ty,by decide,by decide⟩
 ·exact ⟨_,L.hfl.ty,by decide,by decide⟩
 ·obtain ⟨p,-,H⟩:=L.get hh hb;rcases ho with ho | ho
  ·obtain ⟨t,h1,h2,-,-,h3,-⟩:=H.ty n ho;exact ⟨t,h1,h2,h3⟩
  ·rcases H.rows n ho with h1 | h1
   ·exact ⟨_,h1,by decide,by decide⟩
   ·exact ⟨_,h1,by decide,by decide⟩
theorem Lay.ty (L:Lay w g hs sv fl bs F k):∀n,aK g F n→∃t,Ty w n t∧vG t=true:=by
 rintro n (rfl | hn)
 ·exact ⟨_,L.box.ty,by decide⟩
 ·obtain ⟨t,h1,h2,-⟩:=L.ps.ty n hn;exact ⟨t,h1,h2⟩
theorem Lay.lt (L:Lay w g hs sv fl bs F k):∀n,aK g F n→n<w.heap.size:=fun n hn=>by obtain ⟨t,h,-⟩:=L.ty n hn;exact h.lt
theorem Lay.no (L:Lay w g hs sv fl bs F k) {n:Nat} {t:TypeId} (h:Ty w n t) (ht:vG t=false):¬aK g F n:=fun hn=>by obtain ⟨t',h1,h2⟩:=L.ty n hn;rw [h.one h1,h2] at ht;cases ht
theorem Parts.same (L:Parts w hs sv fl bs F k) (e:∀n,F n→w'.heap[n]? = w.heap[n]?):Parts w' hs sv fl bs F k:=
 ⟨L.hsv.same (e _ ((L.foot _).2 (.inl rfl))),L.hfl.same (e _ ((L.foot _).2 (.inr (.inl rfl)))),L.lh,L.lb,L.l8,
  fun i h b p hh hb hp=>(L.pt i h b p hh hb hp).same fun n hn=>e n ((L.foot n).2 (.inr (.inr ⟨i,h,b,hh,hb,hn⟩))),L.ap,L.foot⟩
theorem Lay.same (L:Lay w g hs sv fl bs F k) (e:∀n,aK g F n→w'.heap[n]? = w.heap[n]?):Lay w' g hs sv fl bs F k:=
 ⟨L.box.same (e g (.inl rfl)),L.ps.same fun n hn=>e n (.inr hn)⟩
theorem Lay.below (L:Lay w g hs sv fl bs F k) (hb:Below w.heap.size w w'):Lay w' g hs sv fl bs F k:=L.same fun n hn=>hb.block n (L.lt n hn)
theorem Lay.kept (L:Lay w g hs sv fl bs F k) {t:TypeId} (hk:dV t w w') (ht:vG t=false):Lay w' g hs sv fl bs F k:=L.same fun n hn=>by obtain ⟨t',⟨xs,fr,h1⟩,h2⟩:=L.ty n hn;rw [h1];exact hk.block n xs t' fr h1 (fun e=>by rw [e,ht] at h2;cases h2)
theorem Lay.only (L:Lay w g hs sv fl bs F k) {n:Nat} {t:TypeId} (ho:Only n w w') (h:Ty w n t) (ht:vG t=false):Lay w' g hs sv fl bs F k:=L.same fun m hm=>ho.block m (L.lt m hm) fun e=>L.no h ht (e▸hm)
theorem Lay.set (L:Lay w g hs sv fl bs F k) {n:Nat} {t:TypeId} (h:Ty w n t) (ht:vG t=false) (i:Nat) (v:Value):Lay (w.setCell ⟨n,i,none⟩ v) g hs sv fl bs F k:=L.only ((Only.refl n w).cell i v) h ht
theorem Lay.row (L:Lay w g hs sv fl bs F k) {n:Nat} {t:TypeId} (h:Ty w n t) (ht:vG t=false) (ys:Array Value):Lay (w.setRow n ys) g hs sv fl bs F k:=L.only ((Only.refl n w).row ys) h ht
theorem ak.qH {x:Nat} (X:ak w x xs t) (h:¬aK g F x) (hc:bW (aK g F) w w'):ak w' x xs t:=X.same (hc.block x X.lt h)
theorem ak.Cy {x:Nat} (X:ak w x xs t) (L:Lay w g hs sv fl bs F k) (ht:vG t=false) (hc:bW (aK g F) w w'):ak w' x xs t:=X.qH (L.no X.ty ht) hc
def aO (k:Kz) (i:Nat) (p:Pt):Kz:={ k with ls:=k.ls.set i p }
theorem mE {k:Kz} (hi:i<k.ls.length) (p:Pt):(aO k i p).ls[i]? = some p:=List.getElem?_set_self hi
theorem xQ {k:Kz} {j:Nat} (h:i≠j) (p:Pt):(aO k i p).ls[j]? = k.ls[j]?:=List.getElem?_set_ne h
theorem ug {k:Kz} {p:Pt} (h:k.ls[i]? = some p):aO k i p=k:=by obtain ⟨hi,rfl⟩:=List.getElem?_eq_some_iff.1 h;unfold aO;rw [List.set_getElem_self]
theorem kG (k:Kz) (i:Nat) (p:Pt):(aO k i p).ls.length=k.ls.length:=by simp [aO]
structure Hand (k:Kz) (hs:List Nat) (bs:List PL) (i h:Nat) (b:PL):Prop where
 hi:i<k.ls.length
 hh:hs[i]? = some h
 hb:bs[i]? = some b
variable {i h:Nat} {b:PL} {p q:Pt}
theorem Lay.hand (L:Lay w g hs sv fl bs F (aO k i p)) (H:Hand k hs bs i h b):o8 w h (nu k.c i) b p:=L.ps.pt i h b p H.hh H.hb (mE H.hi p)
theorem Lay.port (L:Lay w g hs sv fl bs F (aO k i p)) (H:Hand k hs bs i h b) (hc:∀n,n<w.heap.size→¬OF h b n→w'.heap[n]? = w.heap[n]?) (hP:o8 w' h (nu k.c i) b q):Lay w' g hs sv fl bs F (aO k i q):=by
 have H0:=L.hand H;have hG:∀n t,Ty w n t→(t=WC∨t=WE∨t=SB∨t=tyV∨t=Vp)→w'.heap[n]? = w.heap[n]?:=by
  intro n t hn ht;refine hc n hn.lt fun ho=>?_;obtain ⟨t',h1,-,h2,h3,h4,h5,h6⟩:=H0.ty n ho;have e:=hn.one h1;subst e;rcases ht with e | e | e | e | e
  ·exact h2 e
  ·exact h3 e
  ·exact h4 e
  ·exact h5 e
  ·exact h6 e
 refine ⟨L.box.same (hG _ _ L.box.ty (.inr (.inr (.inl rfl)))),L.ps.hsv.same (hG _ _ L.ps.hsv.ty (.inr (.inr (.inr (.inl rfl))))),L.ps.hfl.same (hG _ _ L.ps.hfl.ty (.inr (.inr (.inr (.inr rfl))))),by rw [kG];have:=L.ps.lh;rwa [kG] at this,by rw [kG];have:=L.ps.lb;rwa [kG] at this,by rw [kG];have:=L.ps.l8;rwa [kG] at this,?_,L.ps.ap,L.ps.foot⟩;intro j h' b' p' hh hb hp;by_cases e:i=j
 ·subst e;rw [H.hh] at hh;rw [H.hb] at hb;rw [mE H.hi] at hp;cases hh;cases hb;cases hp;exact hP
 ·rw [xQ e] at hp;have hp2:(aO k i p).ls[j]? = some p':=by rw [xQ e];exact hp
  have H1:=L.ps.pt j h' b' p' hh hb hp2;refine H1.same fun n hn=>?_;rcases hn with hn | hn
  ·obtain ⟨t,ht,-⟩:=H1.ty n hn;exact hc n ht.lt fun ho=>L.ps.ap i j h h' b b' H.hh H.hb hh hb e n ho hn
  ·rcases H1.rows n hn with ht | ht
   ·exact hG n _ ht (.inl rfl)
   ·exact hG n _ ht (.inr (.inl rfl))
end
end
section
def Vq:RowK (Option Int):=⟨fun d=>[.int .i64 (d.getD 0),.bool d.isSome],2,by decide,fun _=>rfl,by
 intro d v hv
 simp only [List.mem_cons,List.not_mem_nil,or_false] at hv
 rcases hv with rfl | rfl <;> rfl⟩
theorem mbT:dB Vq 80:=⟨⟨_,underlying80,rfl⟩,by kernel_rfl⟩
section
variable {w w':World} {g:Nat} {hs:List Nat} {sv fl:Nat} {bs:List PL} {F:Nat→Prop} {k k':Kz} {i h:Nat} {b:PL} {p q:Pt}
theorem Lay.kc (L:Lay w g hs sv fl bs F k) (j:Nat) (v:Value) (hv:(fI hs sv fl k)[j]? = some v):w.cell? ⟨g,j,none⟩=some v:=L.box.cell j v hv
theorem Lay.kf (L:Lay w g hs sv fl bs F k) (j:Nat):w.frozen? ⟨g,j,none⟩=false:=L.box.free j
theorem Lay.pc (L:Lay w g hs sv fl bs F (aO k i p)) (H:Hand k hs bs i h b) (j:Nat) (v:Value) (hv:∀pv,(Cx (nu k.c i) b pv p)[j]? = some v):w.cell? ⟨h,j,none⟩=some v:=by obtain ⟨pv,hB,-⟩:=(L.hand H).box;exact hB.cell j v (hv pv)
theorem Lay.pf (L:Lay w g hs sv fl bs F (aO k i p)) (H:Hand k hs bs i h b) (j:Nat):w.frozen? ⟨h,j,none⟩=false:=by obtain ⟨pv,hB,-⟩:=(L.hand H).box;exact hB.free j
theorem Lay.inV (L:Lay w g hs sv fl bs F k):aK g F sv:=.inr ((L.ps.foot _).2 (.inl rfl))
theorem Lay.inF (L:Lay w g hs sv fl bs F k):aK g F fl:=.inr ((L.ps.foot _).2 (.inr (.inl rfl)))
theorem Lay.inO' (L:Lay w g hs sv fl bs F (aO k i p)) (H:Hand k hs bs i h b) {n:Nat} (hn:OF h b n):aK g F n:=.inr ((L.ps.foot _).2 (.inr (.inr ⟨i,h,b,H.hh,H.hb,.inl hn⟩)))
theorem Lay.part (L:Lay w g hs sv fl bs F (aO k i p)) (H:Hand k hs bs i h b) {n:Nat} (hn:OF h b n) (ho:Only n w w') (hP:o8 w' h (nu k.c i) b q):Lay w' g hs sv fl bs F (aO k i q)∧bW (aK g F) w w':=
 ⟨L.port H (fun m hm hO=>ho.block m hm fun e=>hO (e▸hn)) hP,bW.vO ho (L.inO' H hn)⟩
theorem u6 {a:Int×Int} (H:o8 w h a b p):h≠b.t∧h≠b.m∧h≠b.x∧h≠b.y∧b.t≠b.m∧b.t≠b.x∧b.t≠b.y∧b.m≠b.x∧b.m≠b.y∧b.x≠b.y:=by
 obtain ⟨⟨pv,h1,h2⟩,h3,h4,⟨d,h5⟩,⟨d',h6⟩⟩:=H;refine ⟨fun e=>?_,fun e=>?_,fun e=>?_,fun e=>?_,fun e=>?_,fun e=>?_,fun e=>?_,fun e=>?_,fun e=>?_,fun e=>?_⟩
 ·have:=h1.ty.one (e▸h3.ty);exact tC
 ·have:=h1.ty.one (e▸h4.ty);exact tC
 ·have:=h1.ty.one (e▸h5.ty);exact tC
 ·have:=h1.ty.one (e▸h6.ty);exact tC
 ·have:=h3.ty.one (e▸h4.ty);exact tC
 ·have:=h3.ty.one (e▸h5.ty);exact tC
 ·have:=h3.ty.one (e▸h6.ty);exact tC
 ·have:=h4.ty.one (e▸h5.ty);exact tC
 ·have:=h4.ty.one (e▸h6.ty);exact tC
 ·have:=h5.ty.one (e▸h6.ty);exact tC
theorem pX {a:Int×Int} (H:o8 w h a b p) {n m:Nat} (hn:OF h b n) (hm:b.G m):m≠n:=by
 intro e;subst e;obtain ⟨t,h1,-,h2,h3,-⟩:=H.ty m hn;rcases H.rows m hm with h | h
 ·exact h2 (h1.one h)
 ·exact h3 (h1.one h)
theorem Lay.Zl (L:Lay w g hs sv fl bs F (aO k i p)) (H:Hand k hs bs i h b) (ho:Only h w w') (hB:∀pv,ak w h (Cx (nu k.c i) b pv p) SC→ak w' h (Cx (nu k.c i) b pv q) SC) (e1:q.tab=p.tab) (e2:q.m=p.m) (e3:q.x=p.x) (e4:q.y=p.y) (e5:q.kK=p.kK):Lay w' g hs sv fl bs F (aO k i q)∧bW (aK g F) w w':=by
 have H0:=L.hand H;obtain ⟨n1,n2,n3,n4,-⟩:=u6 H0;have hr:=fun m hm=>pX H0 (n:=h) (m:=m) (.inl rfl) hm;obtain ⟨⟨pv,h1,h2⟩,h3,h4,⟨d,h5⟩,⟨d',h6⟩⟩:=H0;refine L.part H (.inl rfl) ho ⟨⟨pv,hB pv h1,?_⟩,?_,?_,⟨d,?_⟩,⟨d',?_⟩⟩
 ·refine jK.as (p:=p) (h2.same fun n hn=>?_) (by rw [e1]) e5;exact R6
 ·rw [e1];exact h3.same (ho.block _ h3.ty.lt (Ne.symm n1))
 ·rw [e2];exact h4.same (ho.block _ h4.ty.lt (Ne.symm n2))
 ·rw [e3];exact h5.same (ho.block _ h5.ty.lt (Ne.symm n3))
 ·rw [e4];exact h6.same (ho.block _ h6.ty.lt (Ne.symm n4))
theorem Lay.cell (L:Lay w g hs sv fl bs F (aO k i p)) (H:Hand k hs bs i h b) (j:Nat) (v:Value) (hset:∀pv,(Cx (nu k.c i) b pv p).set j v=Cx (nu k.c i) b pv q)
  (e1:q.tab=p.tab) (e2:q.m=p.m) (e3:q.x=p.x) (e4:q.y=p.y) (e5:q.kK=p.kK):Lay (w.setCell ⟨h,j,none⟩ v) g hs sv fl bs F (aO k i q)∧bW (aK g F) w (w.setCell ⟨h,j,none⟩ v):=
 L.Zl H ((Only.refl h w).cell j v) (fun pv hB=>by rw [←hset pv];exact hB.set j v) e1 e2 e3 e4 e5
theorem Lay.cells (L:Lay w g hs sv fl bs F (aO k i p)) (H:Hand k hs bs i h b) (pre ys old post:Value→List Value) (o:Nat) (ns:List Value) (h1:∀pv,Cx (nu k.c i) b pv p=pre pv++old pv++post pv) (h2:∀pv,Cx (nu k.c i) b pv q=pre pv++ys pv++post pv) (hl:∀pv,(ys pv).length=(old pv).length) (ho:∀pv,(pre pv).length=o) (hn:∀pv,ys pv=ns) (e1:q.tab=p.tab) (e2:q.m=p.m) (e3:q.x=p.x) (e4:q.y=p.y) (e5:q.kK=p.kK):Lay (w.setCells h o ns) g hs sv fl bs F (aO k i q)∧bW (aK g F) w (w.setCells h o ns):=by refine L.Zl H (Only.cells ns o _ (Only.refl h w)) (fun pv hB=>?_) e1 e2 e3 e4 e5;rw [h1 pv] at hB;have h3:=ak.mid (ys pv) (old pv) (pre pv) (post pv) w (hl pv) hB;rw [ho pv,hn pv] at h3;rw [h2 pv,hn pv];exact h3
theorem Lay.diff (L:Lay w g hs sv fl bs F (aO k i p)) (H:Hand k hs bs i h b) (d:Option Int):Lay (w.setCells h 16 (Vq.enc d)) g hs sv fl bs F (aO k i { p with df:=d })∧bW (aK g F) w (w.setCells h 16 (Vq.enc d)):=
 L.cells H (fun pv=>(Cx (nu k.c i) b pv p).take 16) (fun pv=>[.int .i64 (d.getD 0),.bool d.isSome]) (fun pv=>[.int .i64 (p.df.getD 0),.bool p.df.isSome]) (fun pv=>(Cx (nu k.c i) b pv p).drop 18) 16 _ (fun _=>rfl) (fun _=>rfl) (fun _=>rfl) (fun _=>rfl) (fun _=>rfl) rfl rfl rfl rfl rfl
theorem Lay.tab (L:Lay w g hs sv fl bs F (aO k i p)) (H:Hand k hs bs i h b) (ho:Only b.t w w') {t:Ft} (ht:qj nM w' b.t t) (hh:∀a,iQ a { p with tab:=t }=true→iQ a p=true):Lay w' g hs sv fl bs F (aO k i { p with tab:=t })∧bW (aK g F) w w':=by
 have H0:=L.hand H;obtain ⟨n1,n2,n3,n4,n5,n6,n7,n8,n9,n10⟩:=u6 H0;have hr:=fun m hm=>pX H0 (n:=b.t) (m:=m) (.inr (.inl rfl)) hm;obtain ⟨⟨pv,h1,h2⟩,h3,h4,⟨d,h5⟩,⟨d',h6⟩⟩:=H0;refine L.part H (.inr (.inl rfl)) ho ⟨⟨pv,h1.only ho n1,?_⟩,ht,h4.only ho (Ne.symm n5),⟨d,h5.only ho (Ne.symm n6)⟩,⟨d',h6.only ho (Ne.symm n7)⟩⟩;have h7:jK w' pv b.G p:=h2.same fun n hn=>by exact R6
 obtain ⟨g1,qs,g2,g3,g4,g5⟩:=h7;exact ⟨g1,qs,g2,g3,fun a ha=>g4 a (hh a ha),g5⟩
theorem Lay.mat (L:Lay w g hs sv fl bs F (aO k i p)) (H:Hand k hs bs i h b) (ho:Only b.m w w') {m:Ms} (hm:Wo Zi w' b.m m):Lay w' g hs sv fl bs F (aO k i { p with m:=m })∧bW (aK g F) w w':=by
 have H0:=L.hand H;obtain ⟨n1,n2,n3,n4,n5,n6,n7,n8,n9,n10⟩:=u6 H0;have hr:=fun n hn=>pX H0 (n:=b.m) (m:=n) (.inr (.inr (.inl rfl))) hn;obtain ⟨⟨pv,h1,h2⟩,⟨xs,h3,h3'⟩,h4,⟨d,h5⟩,⟨d',h6⟩⟩:=H0;refine L.part H (.inr (.inr (.inl rfl))) ho ⟨⟨pv,h1.only ho n2,?_⟩,⟨xs,h3.only ho n5,h3'⟩,hm,⟨d,h5.only ho (Ne.symm n8)⟩,⟨d',h6.only ho (Ne.symm n9)⟩⟩
 exact jK.as (p:=p) (h2.same fun n hn=>by
  rcases h2.1 n hn with ht | ht
  ·exact ho.block n ht.lt (hr n hn)
  ·exact ho.block n ht.lt (hr n hn)) rfl rfl
theorem Lay.del (L:Lay w g hs sv fl bs F (aO k i p)) (H:Hand k hs bs i h b) (ho:Only b.x w w') {x:Xs} {d0:Int} (hx:Uj Zj w' b.x { x with dm:=d0 }):Lay w' g hs sv fl bs F (aO k i { p with x:=x })∧bW (aK g F) w w':=by
 have H0:=L.hand H;obtain ⟨n1,n2,n3,n4,n5,n6,n7,n8,n9,n10⟩:=u6 H0;have hr:=fun n hn=>pX H0 (n:=b.x) (m:=n) (.inr (.inr (.inr (.inl rfl)))) hn;obtain ⟨⟨pv,h1,h2⟩,⟨xs,h3,h3'⟩,h4,⟨d,h5⟩,⟨d',h6⟩⟩:=H0;refine L.part H (.inr (.inr (.inr (.inl rfl)))) ho ⟨⟨pv,h1.only ho n3,?_⟩,⟨xs,h3.only ho n6,h3'⟩,h4.only ho n8,⟨d0,hx⟩,⟨d',h6.only ho (Ne.symm n10)⟩⟩
 exact jK.as (p:=p) (h2.same fun n hn=>by
  rcases h2.1 n hn with ht | ht
  ·exact ho.block n ht.lt (hr n hn)
  ·exact ho.block n ht.lt (hr n hn)) rfl rfl
theorem Lay.WG (L:Lay w g hs sv fl bs F (aO k i p)) (H:Hand k hs bs i h b) (ho:Only b.y w w') {y:Ps} {d0:Int} (hy:LJ EkR w' b.y { y with dm:=d0 }):Lay w' g hs sv fl bs F (aO k i { p with y:=y })∧bW (aK g F) w w':=by
 have H0:=L.hand H;obtain ⟨n1,n2,n3,n4,n5,n6,n7,n8,n9,n10⟩:=u6 H0;have hr:=fun n hn=>pX H0 (n:=b.y) (m:=n) (.inr (.inr (.inr (.inr rfl)))) hn;obtain ⟨⟨pv,h1,h2⟩,⟨xs,h3,h3'⟩,h4,⟨d,h5⟩,⟨d',h6⟩⟩:=H0;refine L.part H (.inr (.inr (.inr (.inr rfl)))) ho ⟨⟨pv,h1.only ho n4,?_⟩,⟨xs,h3.only ho n7,h3'⟩,h4.only ho n9,⟨d,h5.only ho n10⟩,⟨d0,hy⟩⟩
 exact jK.as (p:=p) (h2.same fun n hn=>by
  rcases h2.1 n hn with ht | ht
  ·exact ho.block n ht.lt (hr n hn)
  ·exact ho.block n ht.lt (hr n hn)) rfl rfl
theorem Lay.Vr (L:Lay w g hs sv fl bs F (aO k i p)) (H:Hand k hs bs i h b) (ht:p.tab.l=[]):Lay (w.setCell ⟨h,4,none⟩ (.slice none 0 0)) g hs sv fl bs F (aO k i { p with kK:=[] })∧bW (aK g F) w (w.setCell ⟨h,4,none⟩ (.slice none 0 0)):=by
 have H0:=L.hand H;have ho:=(Only.refl h w).cell 4 (.slice none 0 0);obtain ⟨n1,n2,n3,n4,n5,n6,n7,n8,n9,n10⟩:=u6 H0;have hr:=fun n hn=>pX H0 (n:=h) (m:=n) (.inl rfl) hn;have hw:=H0.rows;obtain ⟨⟨pv,h1,h2⟩,⟨xs,h3,h3'⟩,h4,⟨d,h5⟩,⟨d',h6⟩⟩:=H0;refine L.part H (.inl rfl) ho ⟨⟨.slice none 0 0,h1.set 4 (.slice none 0 0),jK.nil _ _ ?_ ht⟩,⟨xs,h3.only ho (Ne.symm n1),h3'⟩,h4.only ho (Ne.symm n2),⟨d,h5.only ho (Ne.symm n3)⟩,⟨d',h6.only ho (Ne.symm n4)⟩⟩;intro n hn;rcases hw n hn with ht | ht
 ·exact .inl (ht.eq (ho.block n ht.lt (hr n hn)))
 ·exact .inr (ht.eq (ho.block n ht.lt (hr n hn)))
theorem Parts.as (L:Parts w hs sv fl bs F k) (e1:k'.ls=k.ls) (e2:k'.sv=k.sv) (e3:k'.fl=k.fl) (e4:k'.c.cl=k.c.cl):Parts w hs sv fl bs F k':=by
 refine ⟨by rw [e2];exact L.hsv,by rw [e3];exact L.hfl,by rw [e1];exact L.lh,by rw [e1];exact L.lb,by rw [e1];exact L.l8,fun i h b p hh hb hp=>?_,L.ap,L.foot⟩;rw [e1] at hp;have e:nu k'.c i=nu k.c i:=by unfold nu;rw [e4]
 rw [e];exact L.pt i h b p hh hb hp
theorem Parts.clear (L:Parts w hs sv fl bs F k) (hg:Ty w g SB) (ho:Only g w w'):Parts w' hs sv fl bs F k:=L.same fun n hn=>by obtain ⟨t,h1,-,h2⟩:=L.ty n hn;exact ho.block n h1.lt fun e=>h2 (h1.one (e▸hg))
theorem Lay.Zm (L:Lay w g hs sv fl bs F k) (hB:ak w' g (fI hs sv fl k') SB) (ho:Only g w w') (e1:k'.ls=k.ls) (e2:k'.sv=k.sv) (e3:k'.fl=k.fl) (e4:k'.c.cl=k.c.cl):Lay w' g hs sv fl bs F k'∧bW (aK g F) w w':=
 ⟨⟨hB,(L.ps.clear L.box.ty ho).as e1 e2 e3 e4⟩,bW.vO ho (.inl rfl)⟩
theorem Lay.SE (L:Lay w g hs sv fl bs F k) (j:Nat) (v:Value) (hset:(fI hs sv fl k).set j v=fI hs sv fl k') (e1:k'.ls=k.ls) (e2:k'.sv=k.sv) (e3:k'.fl=k.fl) (e4:k'.c.cl=k.c.cl):Lay (w.setCell ⟨g,j,none⟩ v) g hs sv fl bs F k'∧bW (aK g F) w (w.setCell ⟨g,j,none⟩ v):=
 L.Zm (by rw [←hset];exact L.box.set j v) ((Only.refl g w).cell j v) e1 e2 e3 e4
theorem Lay.FZ (L:Lay w g hs sv fl bs F k) (pre ys old post:List Value) (h1:fI hs sv fl k=pre++old++post) (h2:fI hs sv fl k'=pre++ys++post) (hl:ys.length=old.length) (o:Nat) (ho:pre.length=o) (e1:k'.ls=k.ls) (e2:k'.sv=k.sv) (e3:k'.fl=k.fl) (e4:k'.c.cl=k.c.cl):Lay (w.setCells g o ys) g hs sv fl bs F k'∧bW (aK g F) w (w.setCells g o ys):=by refine L.Zm ?_ (Only.cells ys o _ (Only.refl g w)) e1 e2 e3 e4;have hB:=L.box;rw [h1] at hB;have h3:=ak.mid ys old pre post w hl hB;rw [ho] at h3;rw [h2];exact h3
theorem Lay.parent (L:Lay w g hs sv fl bs F k) (a:Pa):Lay (w.setCells g 33 (j4.enc a)) g hs sv fl bs F { k with pa:=a }∧bW (aK g F) w (w.setCells g 33 (j4.enc a)):=
 L.FZ ((fI hs sv fl k).take 33) (rz a) (rz k.pa) ((fI hs sv fl k).drop 45) rfl rfl rfl 33 rfl rfl rfl rfl rfl
theorem Lay.delay (L:Lay w g hs sv fl bs F k) (d:Option Int):Lay (w.setCells g 48 (Vq.enc d)) g hs sv fl bs F { k with de:=d }∧bW (aK g F) w (w.setCells g 48 (Vq.enc d)):=
 L.FZ ((fI hs sv fl k).take 48) [.int .i64 (d.getD 0),.bool d.isSome] [.int .i64 (k.de.getD 0),.bool k.de.isSome] [] rfl rfl rfl 48 rfl rfl rfl rfl rfl
theorem Lay.conf (L:Lay w g hs sv fl bs F k) (c:Cf) (hc:c.cl=k.c.cl):Lay (w.setCells g 0 (bT.enc c)) g hs sv fl bs F { k with c:=c }∧bW (aK g F) w (w.setCells g 0 (bT.enc c)):=
 L.FZ [] (cfL c) (cfL k.c) ((fI hs sv fl k).drop 23) rfl rfl rfl 0 rfl rfl rfl rfl hc
theorem Nr (L:Lay w g hs sv fl bs F k):g≠sv∧g≠fl∧sv≠fl∧(∀(i h:Nat) (b:PL),hs[i]? = some h→bs[i]? = some b→∀n,OF h b n∨b.G n→n≠sv∧n≠fl):=by
 have a1:=L.box.ty;have a2:=L.ps.hsv.ty;have a3:=L.ps.hfl.ty;refine ⟨fun e=>?_,fun e=>?_,fun e=>?_,fun i h b hh hb n hn=>?_⟩
 ·have:=a1.one (e▸a2);exact tC
 ·have:=a1.one (e▸a3);exact tC
 ·have:=a2.one (e▸a3);exact tC
 ·obtain ⟨p,-,H⟩:=L.ps.get hh hb;rcases hn with hn | hn
  ·obtain ⟨t,h1,-,-,-,-,h2,h3⟩:=H.ty n hn;exact ⟨fun e=>h2 (h1.one (e▸a2)),fun e=>h3 (h1.one (e▸a3))⟩
  ·rcases H.rows n hn with h1 | h1
   ·exact XI
   ·exact XI
theorem Lay.servo (L:Lay w g hs sv fl bs F k) (ho:Only sv w w') {s:Sv} (h:Dh DZ w' sv s):Lay w' g hs sv fl bs F { k with sv:=s }∧bW (aK g F) w w':=by obtain ⟨n1,n2,n3,n4⟩:=Nr L;refine ⟨⟨L.box.only ho n1,h,L.ps.hfl.only ho (Ne.symm n3),L.ps.lh,L.ps.lb,L.ps.l8,fun i h b p hh hb hp=>?_,L.ps.ap,L.ps.foot⟩,bW.vO ho L.inV⟩;exact (L.ps.pt i h b p hh hb hp).same fun n hn=>ho.block n (L.lt n (.inr ((L.ps.foot n).2 (.inr (.inr ⟨i,h,b,hh,hb,hn⟩))))) (n4 i h b hh hb n hn).1
theorem Lay.filter (L:Lay w g hs sv fl bs F k) (ho:Only fl w w') {s:Nat×List Int} (h:bY Vp Ca w' fl s):Lay w' g hs sv fl bs F { k with fl:=s }∧bW (aK g F) w w':=by obtain ⟨n1,n2,n3,n4⟩:=Nr L;refine ⟨⟨L.box.only ho n2,L.ps.hsv.only ho n3,h,L.ps.lh,L.ps.lb,L.ps.l8,fun i h b p hh hb hp=>?_,L.ps.ap,L.ps.foot⟩,bW.vO ho L.inF⟩;exact (L.ps.pt i h b p hh hb hp).same fun n hn=>ho.block n (L.lt n (.inr ((L.ps.foot n).2 (.inr (.inr ⟨i,h,b,hh,hb,hn⟩))))) (n4 i h b hh hb n hn).2
theorem bW.next {G:Nat→Prop} {a b c:World} (h:bW G a b) (k:bW G b c):bW G a c:=h.trans k fun i hi=>.inl hi
theorem bW.bel {G:Nat→Prop} {a b c:World} (h:bW G a b) (k:Below b.heap.size b c):bW G a c:=h.next (bW.of_below k)
end
theorem ny (g o:Nat) (n:Int) (w:World) (hc:w.cell? ⟨g,o,none⟩=some (.int .i64 n)) (hf:w.frozen? ⟨g,o,none⟩=false):Calls prog 139 #[.pointer (some ⟨g,o,none⟩)] w fun e w'=>e=.returned (.tuple #[])∧w'=w.setCell ⟨g,o,none⟩ (.int .i64 0):=by go_enter func139,ntmps139;go_wp2_with fail;go_end0;exact ⟨rfl,rfl⟩
theorem g_ (g o:Nat) (n m:Int) (w:World) (hc:w.cell? ⟨g,o,none⟩=some (.int .i64 n)) (hf:w.frozen? ⟨g,o,none⟩=false):Calls prog 119 #[.pointer (some ⟨g,o,none⟩),.int .i64 m] w fun e w'=>e=.returned (.tuple #[])∧w'=w.setCell ⟨g,o,none⟩ (.int .i64 (bH m)):=by
 go_enter func119,ntmps119;go_wp2_with fail
 all_goals
  go_end0
  first
   | (have e:bH m=1:=(by unfold bH;rw [if_pos aJ]);rw [e];exact ⟨rfl,rfl⟩)
   | (have e:bH m=1073741824:=(by unfold bH;rw [if_neg aJ,if_pos aJ]);rw [e];exact ⟨rfl,rfl⟩)
   | (have e:bH m=m:=(by unfold bH;rw [if_neg aJ,if_neg aJ]);rw [e];exact ⟨rfl,rfl⟩)
theorem mM (g o:Nat) (n:Int) (w:World) (hc:w.cell? ⟨g,o,none⟩=some (.int .i64 n)) (hf:w.frozen? ⟨g,o,none⟩=false) (hn:InT n):Calls prog 107 #[.pointer (some ⟨g,o,none⟩)] w fun e w'=>e=.returned (.bool (n == 1))∧(w'=w.setCell ⟨g,o,none⟩ (.int .i64 (dw n))∨(n=0∧w'=w)):=by
 by_cases h:n=0
 ·subst h;go_enter func107,ntmps107;go_wp2;refine jO ?_;intro Q' hret hgo;go_wp2_with fail;go_step3;refine hgo 0 _ _ _ rfl ?_;go_wp2_with fail;rw [Exit.noGoto_ret];go_ret;first | exact ⟨rfl,.inr ⟨rfl,rfl⟩⟩ | exact ⟨trivial,.inr ⟨rfl,rfl⟩⟩ | (refine ⟨?_,?_⟩ <;> simp)
 ·have h0:(n == 0)=false:=nq h;unfold InT at hn;obtain ⟨hn0,hn1⟩:=hn;have e0:dw n=n - 1:=by unfold dw;rw [if_neg h]
  rw [e0];have hw:IntKind.i64.wrap (n - 1)=n - 1:=by exact yJ
  have hcl:(w.setCell ⟨g,o,none⟩ (.int .i64 (n - 1))).cell? ⟨g,o,none⟩=some (.int .i64 (n - 1)):=World.cell?_setCell_same _ _ _ hc;go_enter func107,ntmps107;go_wp2;refine jO ?_;intro Q' hret hgo;go_upto_region 4 with fail;generalize hW:w.setCell ⟨g,o,none⟩ (.int .i64 (n - 1))=W at *;go_wp2_with fail;refine wp_label ?_;go_wp2_with fail;refine hret _ _ ?_;go_ret;exact ⟨dH (by rw [Bool.eq_iff_iff,beq_iff_eq,beq_iff_eq];omega),.inl hW.symm⟩
end
end Go.Proofs.YtofhdhgfcomhiaaGreat
