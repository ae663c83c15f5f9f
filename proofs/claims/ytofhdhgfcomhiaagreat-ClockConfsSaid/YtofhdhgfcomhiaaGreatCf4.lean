/- Of what laws of the clock want, part 4: Oct Octb Stamp StampRef VecBest Dec VecLaws5 Only RowKeep BoK DecRow Lit Still Last (mini.py). -/
import Derived.Test.YtofhdhgfcomhiaaGreatCf3
namespace Go.Proofs.YtofhdhgfcomhiaaGreat
open Go.RowKit Go.Proofs
set_option maxRecDepth 100000
set_option maxHeartbeats 100000000
set_option linter.unusedVariables false
set_option linter.unusedSimpArgs false
open Tryz
variable {B:Nat} {P:Program} {Q:Exit→Act→World→Prop} {S:World→Prop} {a:Act} {b:Nat} {base:Nat} {cap:Nat} {fuel:Nat} {g:Nat} {h:Nat} {i:Nat} {l:List UInt8} {listed:Array Bool} {n:Nat} {now:Int} {o:Oper} {oi:Oper} {op:Oper} {ops:Array Oper} {p:Prop} {rest:List Oper} {t:TypeId} {v:Value} {w:World} {w':World} {xs:List Value} {α:Type}
theorem info5:(prog.info? 5).map (fun i=>(i.zero,i.size,i.bytes))=some (some (.int .u8 0),1,1):=by kernel_rfl
theorem wV (v:Value) (l:List UInt8) (x n:Int) (w:World) (hB:Bytes w v l) (hl:l.length≤140737488355328) (hx:0≤x) (hn0:0≤n) (Ug:n≤8):Calls prog 206 #[v,.int .u64 x,.int .i64 n] w (cu w (l++iJ x.toNat n.toNat)):=by
 obtain ⟨p,cap,rfl,hcap,hmax,hat⟩:=hB;obtain ⟨m,rfl⟩:=Int.eq_ofNat_of_zero_le hn0;obtain ⟨X,rfl⟩:=Int.eq_ofNat_of_zero_le hx;rw [Int.toNat_natCast,Int.toNat_natCast];obtain ⟨i0,hi,hz0,hz1,hz2⟩:=info_parts info5;have hmk:∀w':World,(Instr.makeSlice 132 (.int .i64 ((l.length:Int)+(m:Int))) (.int .i64 ((l.length:Int)+(m:Int)))).run prog w'=.ok (.slice (some ⟨w'.heap.size,0,none⟩) (l.length+m) (l.length+m)) (w'.alloc (.cells (cellsOf (List.replicate (l.length+m) 0)).toArray 5)):=by
  intro w';have h:=run_make (P:=prog) w' 132 5 i0 _ underlying132 hi hz0 .i64 .i64 ((l.length:Int)+(m:Int)) ((l.length:Int)+(m:Int)) aJ aJ K7 aJ;rw [h,hz1];have e1:((l.length:Int)+(m:Int)).toNat=l.length+m:=by omega
  have e2:madeCells (Value.cells (.int .u8 0)) ((l.length+m)*1)=(cellsOf (List.replicate (l.length+m) 0)).toArray:=by apply Array.ext';rw [Nat.mul_one];show (madeCells #[_] _).toList=_;rw [toList_madeCells_one];simp [cellsOf]
  rw [e1,e2]
 have hm8:m≤8:=by omega
 obtain ⟨w2,hcp,Jf,hb2,_⟩:=wN (P:=prog) (w.alloc (.cells (cellsOf (List.replicate (l.length+m) 0)).toArray 5)) 132 132 3 5 5 underlying132 aW w.heap.size (l.length+m) p cap l (List.replicate (l.length+m) 0) (heap_alloc_new w _) (by simp) (hat.below ((Below.refl _ _).alloc (Nat.le_refl _) _));have hb2:=((Below.refl w.heap.size w).alloc (Nat.le_refl _) _).trans hb2;simp only [List.drop_replicate,List.length_replicate,Nat.add_sub_cancel_left] at hcp Jf;have Hh:=hid Jf;clear Jf;clear hi hz0 hz1 hz2 hn0 Ug hx;go_enter func206,ntmps206;go_wp2;refine yK 0 (fun a' w'=>∃(k q:Nat) (r:List UInt8),k+q=l.length+m∧q≤m∧r++iJ X q=l++iJ X m∧r.length=k∧w'.ownsRow w.heap.size 5 1 (.slice (some ⟨w.heap.size,0,none⟩) (l.length+m) (l.length+m)) (l.length+m) (cellsOf (r++List.replicate q 0))∧Below w.heap.size w w'∧∃(u9 u10 u11 u12 u13 u14 u15 u16 u17 u18 u19 u20 u21 u22 u23 u24 u25 u26 u27 u28 u29 u30 u31 u32 u33:Value),a'={ tmps:=#[.slice p l.length cap,.int .u64 X,.int .i64 q,undef,undef,undef,.slice none 0 0,.slice (some ⟨w.heap.size,0,none⟩) (l.length+m) (l.length+m),.int .i64 k,u9,u10,u11,u12,u13,u14,u15,u16,u17,u18,u19,u20,u21,u22,u23,u24,u25,u26,u27,u28,u29,u30,u31,u32,u33],defers:=[] }) (fun a' _=>(intOf (a'.tmps.getD 2 undef)).toNat) rfl ?_ ?_
 ·rintro a' w' ⟨k,q,r,hkq,hqm,hr,hrk,hown,hbel,_,_,_,_,_,_,_,_,_,_,_,_,_,_,_,_,_,_,_,_,_,_,_,_,_,rfl⟩;have Hr:=hid hr;have Hrk:=hid hrk;have Hkq:=hid hkq;clear hr hrk hkq hmk;by_cases h:q=0
  ·obtain rfl:k=l.length+m:=by have:=Hkq.out;omega
   subst h;have e:r=l++iJ X m:=by have:=Hr.out;simpa [iJ] using this
   go_wp2;simp only [Exit.jump];go_ret;have el:(l++iJ X m).length=l.length+m:=by rw [List.length_append,dN]
   refine ⟨.slice (some ⟨w.heap.size,0,none⟩) (l.length+m) (l.length+m),rfl,?_,hbel⟩;unfold Own;rw [el];simpa [e] using hown
  ·obtain ⟨q',rfl⟩:∃q',q=q'+1:=⟨q - 1,by omega⟩;have hlt:k<l.length+m:=by have:=Hkq.out;omega
   have hcell:w'.cell? ⟨w.heap.size,k,none⟩=some (bv 0):=by rw [hown.cellAt k aJ,fZ _ _ (by rw [List.length_append,Hrk.out,List.length_replicate];omega)];simp [Hrk.out]
   have hfree:=hown.frozenAt k;have hst:=hown.stored k (bv (UInt8.ofNat (X / 256 ^ q')));rw [cellsOf_set r q' _ k Hrk.out,←Ub] at hst;go_wp2;go_step3;refine ⟨rfl,⟨k+1,q',r++[UInt8.ofNat (X / 256 ^ q')],by have:=Hkq.out;omega,by omega,?_,by simp [Hrk.out],hst.1,hbel.setCell (Nat.le_refl _) _,by (repeat apply Exists.intro);rfl⟩,by simp [intOf]⟩;rw [←Hr.out,iJ,List.append_assoc];rfl
 ·intro Q' hQ' K9;go_wp2;refine K8 K9 wF ?_;refine ⟨l.length,m,l,rfl,Nat.le_refl _,rfl,rfl,?_,hb2,by (repeat apply Exists.intro);rfl⟩;refine jD _ (Nat.le_refl _) Hh.out (by simp [aT]) ?_;unfold maxLen;omega
theorem tO (v:Value) (l:List UInt8) (x:Int) (w:World) (hB:Bytes w v l) (hl:l.length≤140737488355328) (hx:0≤x):Calls prog 208 #[v,.int .u64 x] w (cu w (l++iJ x.toNat 8)):=by go_enter func208,ntmps208;go_wp2_with (go_at_call 206;refine (wV _ l _ _ _ hB hl hx aJ aJ).mono ?_;rintro e w' ⟨v',rfl,hown,hbel⟩);go_ret;exact ⟨v',rfl,hown,hbel⟩
theorem bI (v:Value) (l:List UInt8) (x n:Int) (w:World) (hB:Bytes w v l) (hl:l.length≤140737488355328):Calls prog 146 #[v,.int .i64 x,.int .i64 n] w (cu w (l++aj x n)):=by
 go_enter func146,ntmps146;go_wp2_with fail
 all_goals
  refine (wV _ l _ _ _ hB hl (vB _) aJ aJ).mono ?_
  rintro e w' ⟨v',rfl,hown,hbel⟩
  go_wp2_with fail
  go_ret
  refine ⟨v',rfl,?_,hbel⟩
  rw [wM] at hown
  unfold aj
 ·rw [show min (max n 0) 8=8 by omega];exact hown
 ·rw [show min (max n 0) 8=0 by omega];exact hown
 ·rw [show min (max n 0) 8=n by omega];exact hown
def qh (t:Int):Bool:=decide (0≤t∧t≤4000000000000000)
theorem zw {t:Int} (h0:0≤t) (h1:t≤4000000000000000):qh t=true:=decide_eq_true ⟨h0,h1⟩
theorem wW {t:Int} (h:t<0∨4000000000000000<t):qh t=false:=decide_eq_false aJ
theorem Lh {t:Int} :qh t=true↔0≤t∧t≤4000000000000000:=by simp [qh]
def mY (t:Int):Int:=if qh t then t else 0
theorem Jg (t:Int):0≤mY t∧mY t≤4000000000000000:=by
 unfold mY;split
 ·exact Lh.1 wF
 ·decide
def fJ (t:Int):List UInt8:=aj (mY t / 1000000000) 6++aj (mY t % 1000000000) 4
theorem kX (t:Int):(fJ t).length=10:=by unfold fJ;rw [List.length_append,aC _ 6 aX aX,aC _ 4 aX aX];rfl
def Li (l:List UInt8) (at':Int):Nat:=aF l at'.toNat 6
def Lj (l:List UInt8) (at':Int):Nat:=aF l (at'+6).toNat 4
def Yh (l:List UInt8) (at':Int):Bool:=
 decide (0≤at'∧at'+10≤l.length∧Li l at'≤4000000∧Lj l at'<1000000000∧Li l at'*1000000000+Lj l at'≤4000000000000000)
def CZ (l:List UInt8) (at':Int):Int:=if Yh l at' then (Li l at'*1000000000+Lj l at':Nat) else 0
def EJ (a b:Int):Int:=min (max (a+b) (-9223372036854775808)) 9223372036854775807
def bF (l:Int):Int:=if 4≤l then 128 else if l=3 then 64 else if l=2 then 32 else if l=1 then 16 else if l=0 then 8 else if l = -1 then 4 else if l = -2 then 2 else 1
theorem lZ (l:Int):1≤bF l∧bF l≤128:=by unfold bF;repeat' split <;> omega
theorem EK (l:Int) (w:World):Calls prog 103 #[.int .i64 l] w fun e w'=>e=.returned (.int .u64 (min (max l (-3)) 4+3))∧w=w':=by
 by_cases h4:4<l
 ·go_enter func103,ntmps103;go_wp2;go_ret;exact ⟨bC aJ,rfl⟩
 by_cases h3:l < -3
 ·go_enter func103,ntmps103;go_wp2;go_ret;exact ⟨bC aJ,rfl⟩
 go_enter func103,ntmps103;go_wp2
 all_goals
  go_ret
  exact ⟨bC (by first | omega | (rw [IntKind.wrap_u64];omega)),rfl⟩
theorem Jh (l:Int):∃k:Nat,k≤7∧min (max l (-3)) 4+3=(k:Int)∧bF l=2 ^ k:=by
 have h:min (max l (-3)) 4+3=0∨min (max l (-3)) 4+3=1∨min (max l (-3)) 4+3=2∨min (max l (-3)) 4+3=3∨min (max l (-3)) 4+3=4∨min (max l (-3)) 4+3=5∨min (max l (-3)) 4+3=6∨min (max l (-3)) 4+3=7:=by omega
 rcases h with h | h | h | h | h | h | h | h
 ·exact ⟨0,by omega,h,by unfold bF;repeat' split <;> omega⟩
 ·exact ⟨1,by omega,h,by unfold bF;repeat' split <;> omega⟩
 ·exact ⟨2,by omega,h,by unfold bF;repeat' split <;> omega⟩
 ·exact ⟨3,by omega,h,by unfold bF;repeat' split <;> omega⟩
 ·exact ⟨4,by omega,h,by unfold bF;repeat' split <;> omega⟩
 ·exact ⟨5,by omega,h,by unfold bF;repeat' split <;> omega⟩
 ·exact ⟨6,by omega,h,by unfold bF;repeat' split <;> omega⟩
 ·exact ⟨7,by omega,h,by unfold bF;repeat' split <;> omega⟩
theorem Ao (l:Int) (w:World):Calls prog 64 #[.int .i64 l] w fun e w'=>e=.returned (.int .i64 (bF l))∧w=w':=by
 obtain ⟨k,hk,h1,h2⟩:=Jh l;rw [h2];have H1:=hid h1;clear h1 h2;have hc:k=0∨k=1∨k=2∨k=3∨k=4∨k=5∨k=6∨k=7:=by omega
 rcases hc with rfl | rfl | rfl | rfl | rfl | rfl | rfl | rfl
 all_goals
  go_enter func64,ntmps64
  go_wp2_with fail
  refine (EK _ _).mono ?_
  rintro e w' ⟨rfl,rfl⟩
  rw [H1.out]
  go_wp2_with fail
  go_ret
  exact ⟨rfl,rfl⟩
def Uh:Vc:=⟨0,0,0,0,0,0,0,0,0,0,0⟩
def yC (l:List Vc) (i:Int):Vc:=l.getD i.toNat Uh
theorem pK (l:List Vc) (i:Nat) (h:i<l.length):yC l (i:Int)=l[i]:=by unfold yC;rw [Int.toNat_natCast,List.getD_eq_getElem?_getD,List.getElem?_eq_getElem h];rfl
def cO (l:List Vc):Nat→Int
 | 0=>-1
 | n+1=>if cO l n<0 then n else if 0<cB (yC l (cO l n)) (yC l n) then n else cO l n
theorem nX (l:List Vc) (n:Nat) (h:cO l n<0):cO l (n+1)=n:=if_pos h
theorem kR (l:List Vc) (n:Nat) (h:¬cO l n<0) (h2:0<cB (yC l (cO l n)) (yC l n)):cO l (n+1)=n:=by show (if cO l n<0 then (n:Int) else if 0<cB (yC l (cO l n)) (yC l n) then n else cO l n)=n;rw [if_neg h,if_pos h2]
theorem kS (l:List Vc) (n:Nat) (h:¬cO l n<0) (h2:¬0<cB (yC l (cO l n)) (yC l n)):cO l (n+1)=cO l n:=by show (if cO l n<0 then (n:Int) else if 0<cB (yC l (cO l n)) (yC l n) then n else cO l n)=cO l n;rw [if_neg h,if_neg h2]
theorem jo (l:List Vc):∀n,(n=0∧cO l n = -1)∨(0≤cO l n∧cO l n<n)
 | 0=>.inl ⟨rfl,rfl⟩
 | n+1=>by
  have ih:=jo l n
  unfold cO
  split
  ·omega
  ·split
   ·omega
   ·omega
def gU (d:Vc):Option Vc→Bool
 | none=>true
 | some p=>decide (cB d p<0)
def Ll:Option Vc→Option Vc→Bool
 | some b,some p=>decide (cB b p = -1)
 | _,_=>false
def qL (d:Vc) (C8:Bool) (best port:Option Vc) (here:Bool):Int:=
 if port.isNone && C8 then 7
 else if d.qc≤127 then (if gU d port then 1 else 4)
 else if gU d best then 2
 else if here then 6
 else if Ll best port then 5 else 3
def jU (os:List (Option Vc)) (i:Int):Option Vc:=os.getD i.toNat none
theorem pO (os:List (Option Vc)) (i:Nat) (h:i<os.length):jU os (i:Int)=os[i]:=by unfold jU;rw [Int.toNat_natCast,List.getD_eq_getElem?_getD,List.getElem?_eq_getElem h];rfl
theorem Lm (os:List (Option Vc)) (i:Nat) (h:os.length≤i):jU os (i:Int)=none:=by unfold jU;rw [Int.toNat_natCast,List.getD_eq_getElem?_getD,List.getElem?_eq_none h];rfl
def bE (os:List (Option Vc)):Nat→Int
 | 0=>-1
 | n+1=>match jU os n with
  | none=>bE os n
  | some v=>if bE os n<0 then n else if 0<cB ((jU os (bE os n)).getD Uh) v then n else bE os n
theorem wX {os:List (Option Vc)} (h:jU os n=none):bE os (n+1)=bE os n:=by show (match jU os n with | none=>bE os n | some v=>_)=_;rw [h]
theorem uR {os:List (Option Vc)} {v:Vc} (h:jU os n=some v) (h2:bE os n<0):bE os (n+1)=n:=by show (match jU os n with | none=>bE os n | some v=>if bE os n<0 then (n:Int) else if 0<cB ((jU os (bE os n)).getD Uh) v then n else bE os n)=_;rw [h];exact if_pos h2
theorem uS {os:List (Option Vc)} {v b:Vc} (h:jU os n=some v) (h2:¬bE os n<0) (hb:jU os (bE os n)=some b) (h3:0<cB b v):bE os (n+1)=n:=by show (match jU os n with | none=>bE os n | some v=>if bE os n<0 then (n:Int) else if 0<cB ((jU os (bE os n)).getD Uh) v then n else bE os n)=_;rw [h];show (if bE os n<0 then (n:Int) else if 0<cB ((jU os (bE os n)).getD Uh) v then (n:Int) else bE os n)=n;rw [if_neg h2,hb,if_pos (by exact h3)]
theorem uT {os:List (Option Vc)} {v b:Vc} (h:jU os n=some v) (h2:¬bE os n<0) (hb:jU os (bE os n)=some b) (h3:¬0<cB b v):bE os (n+1)=bE os n:=by show (match jU os n with | none=>bE os n | some v=>if bE os n<0 then (n:Int) else if 0<cB ((jU os (bE os n)).getD Uh) v then n else bE os n)=_;rw [h];show (if bE os n<0 then (n:Int) else if 0<cB ((jU os (bE os n)).getD Uh) v then (n:Int) else bE os n)=bE os n;rw [if_neg h2,hb,if_neg (by exact h3)]
theorem nY (os:List (Option Vc)):∀n,(bE os n = -1∧∀i:Nat,i<n→jU os i=none)∨(0≤bE os n∧bE os n<n∧∃b,jU os (bE os n)=some b)
 | 0=>.inl ⟨rfl,fun i h=>absurd h aJ⟩
 | n+1=>by
  have ih:=nY os n
  cases hv:jU os n with
  | none=>
   rw [wX hv]
   rcases ih with ⟨h1,h2⟩ | ⟨h1,h2,h3⟩
   ·refine .inl ⟨h1,fun i hi=>?_⟩
    by_cases e:i=n
    ·rw [e];exact hv
    ·exact h2 i aJ
   ·exact .inr ⟨h1,by omega,h3⟩
  | some v=>
   rcases ih with ⟨h1,h2⟩ | ⟨h1,h2,b,h3⟩
   ·rw [uR hv aJ]
    exact .inr ⟨by omega,by omega,v,hv⟩
   ·by_cases hc:0<cB b v
    ·rw [uS hv aJ h3 hc]
     exact .inr ⟨by omega,by omega,v,hv⟩
    ·rw [uT hv aJ h3 hc]
     exact .inr ⟨h1,by omega,b,h3⟩
def Ap (os:List (Option Vc)):Option Vc:=if bE os os.length<0 then none else jU os (bE os os.length)
def l5 (d:Vc) (bs:List Bool) (os:List (Option Vc)):List Int:=(List.range os.length).map fun i=>qL d (bs.getD i false) (Ap os) (jU os (i:Int)) (decide ((i:Int)=bE os os.length))
theorem nU (d:Vc) (bs:List Bool) (os:List (Option Vc)):(l5 d bs os).length=os.length:=by simp [l5]
theorem C9 (d:Vc) (bs:List Bool) (os:List (Option Vc)) (i:Nat) (h:i<(l5 d bs os).length) :
 (l5 d bs os)[i]=qL d (bs.getD i false) (Ap os) (jU os (i:Int)) (decide ((i:Int)=bE os os.length)):=by simp [l5]
theorem Lp {d:Vc} {C8:Bool} {best port:Option Vc} {here:Bool} (h:qL d C8 best port here=6):here=true∧127<d.qc∧gU d best=false:=by
 unfold qL at h;split at h
 ·cases h
 ·split at h
  ·split at h <;> cases h
  ·rename_i h2;split at h
   ·cases h
   ·rename_i h3;split at h
    ·rename_i h4;exact ⟨h4,by omega,by simpa using h3⟩
    ·split at h <;> cases h
def R_:Prop:=∀(v:Value) (l:List Vc) (w:World),kg.Reads w v l→l.length≤40→(∀a ∈ l,tK a) →
 Calls prog 166 #[v] w fun e w'=>e=.returned (.int .i64 (cO l l.length))∧Below w.heap.size w w'
theorem R_.none (h:R_):Yf:=fun w=>h _ [] w (RowK.Reads.nil kg w) aX (by simp)
theorem eO (x:Operand) (ho:op.op=.load 148 x) (g off:Nat) (hx:a.eval x=.pointer (some ⟨g,off,none⟩)) (c:Vc) (hR:w.rangeAt g off (dF c)):(execOp a.eval op).run prog w=.ok (.value (.agg (dF c).toArray)) w:=by unfold execOp;have h:=run_loadAt_mid w g off 148 (dF c) _ hR underlying148 rfl K5;simp only [ho,hx,Sem.run_bind,h,Result.andThen_ok,Sem.run_pure]
structure Only (g:Nat) (w w':World):Prop where
 os:w'.os=w.os
 tape:w'.tape=w.tape
 output:w'.output=w.output
 size:w.heap.size≤w'.heap.size
 block:∀k,k<w.heap.size→k≠g→w'.heap[k]? = w.heap[k]?
theorem Only.refl (g:Nat) (w:World):Only g w w:=⟨rfl,rfl,rfl,Nat.le_refl _,fun _ _ _=>rfl⟩
theorem Only.trans {g:Nat} {a b c:World} (h:Only g a b) (k:Only g b c):Only g a c:=
 ⟨k.os.trans h.os,k.tape.trans h.tape,k.output.trans h.output,Nat.le_trans h.size k.size,fun i hi hg=>(k.block i (Nat.lt_of_lt_of_le hi h.size) hg).trans (h.block i hi hg)⟩
theorem Only.of_below (g:Nat) (h:Below w.heap.size w w'):Only g w w':=⟨h.os,h.tape,h.output,h.size,fun k hk _=>h.block k hk⟩
theorem Only.next {a b c:World} (h:Only g a b) (k:Below b.heap.size b c):Only g a c:=h.trans (Only.of_below g k)
theorem Only.below {a b c:World} (h:Below B a b) (k:Only g b c) (hB:B≤g) (hs:B≤b.heap.size):Below B a c:=
 h.trans ⟨k.os,k.tape,k.output,k.size,fun i hi=>k.block i aJ aJ⟩
theorem Only.row (h:Only g w w') (cs:Array Value):Only g w (w'.setRow g cs):=
 h.trans ⟨rfl,rfl,rfl,by simp [World.setRow],fun k hk hg=>setRow_other w' g k cs hg⟩
theorem Only.G9 {k:Nat} (h:Only g w w') (hk:w.heap.size≤k) (cs:Array Value):Only g w (w'.setRow k cs):=
 ⟨h.os,h.tape,h.output,by simpa [World.setRow] using h.size,fun i hi hg=>(setRow_other w' k i cs aJ).trans (h.block i hi hg)⟩
theorem Only.cell (h:Only g w w') (i:Nat) (v:Value):Only g w (w'.setCell ⟨g,i,none⟩ v):=by have h2:=(Below.refl 0 w').setCell (p:=⟨g,i,none⟩) (Nat.zero_le _) v;exact h.trans ⟨h2.os,h2.tape,h2.output,h2.size,fun k hk hg=>heap_setCell_other w' _ k v hg⟩
theorem Only.cells {g:Nat} {w:World}:∀(vs:List Value) (o:Nat) (w':World),Only g w w'→Only g w (w'.setCells g o vs)
 | [],_,_,h=>h
 | v::r,o,w',h=>Only.cells r (o+1) _ (h.cell o v)
theorem ak.only {k:Nat} (h:ak w k xs t) (ho:Only g w w') (hk:k≠g):ak w' k xs t:=by unfold ak;rw [ho.block k h.lt hk];exact h
section
structure dV (t:TypeId) (w w':World):Prop where
 size:w.heap.size≤w'.heap.size
 block:∀(k:Nat) (xs:Array Value) (t':TypeId) (fr:Nat×Nat),w.heap[k]? = some (.cells xs t' fr)→t'≠t→w'.heap[k]? = some (.cells xs t' fr)
theorem dV.refl (t:TypeId) (w:World):dV t w w:=⟨Nat.le_refl _,fun _ _ _ _ h _=>h⟩
theorem dV.of_below (t:TypeId) (h:Below w.heap.size w w'):dV t w w':=⟨h.size,fun k xs t' fr hk _=>by rw [h.block k (Array.getElem?_eq_some_iff.1 hk).1];exact hk⟩
theorem dV.trans {a b c:World} (h:dV t a b) (k:dV t b c):dV t a c:=⟨Nat.le_trans h.size k.size,fun i xs t' fr hi ht=>k.block i xs t' fr (h.block i xs t' fr hi ht) ht⟩
theorem ak.kept {t':TypeId} (h:ak w g xs t') (hk:dV t w w') (ht:t'≠t):ak w' g xs t':=hk.block _ _ _ _ h ht
variable {α:Type}
theorem RowK.Own.kept {K:RowK α} {t':TypeId} {l:List α} (h:K.Own t' w base v l) (hk:dV t w w') (ht:t'≠t):K.Own t' w' base v l:=by
 rcases id h with ⟨h0,⟨rfl,hn⟩ | ⟨g,cap,cur,rfl,hbg,hg,r⟩⟩
 ·exact CK
 ·exact ⟨h0,.inr ⟨g,cap,cur,rfl,hbg,hk.block _ _ _ _ hg ht,r⟩⟩
theorem RowK.Own.only {K:RowK α} {t':TypeId} {l:List α} (h:K.Own t' w base v l) (ho:Only g w w') (hB:ak w g xs t) (ht:t'≠t):K.Own t' w' base v l:=by
 rcases id h with ⟨h0,⟨rfl,hn⟩ | ⟨b,cap,cur,rfl,hbg,hg,r⟩⟩
 ·exact CK
 ·refine ⟨h0,.inr ⟨b,cap,cur,rfl,hbg,?_,r⟩⟩;have hne:b≠g:=by intro e;subst e;have h1:=hg.symm.trans hB;exact TK
  rw [ho.block b (Array.getElem?_eq_some_iff.1 hg).1 hne];exact hg
theorem RowK.C_ (K:RowK α) {tS tE:TypeId} {z:Value} {B:Nat} (hu:prog.underlying tS=some (.slice tE)) (hinfo:(prog.info? tE).map (fun i=>(i.zero,i.size,i.bytes))=some (some z,K.n,B)) (hzl:z.cells.size=K.n) (w:World) (base:Nat) (v x:Value) (l m:List α) (hv:K.Own tE w base v l) (hx:K.Reads w x m) (hbytes:(l.length+m.length)*B≤140737488355328) (qy:l.length+m.length≤140737488355328) (hbase:base≤w.heap.size):∃v' w',(Builtin.append_ #[tS,tS] tS #[v,x]).run prog w=.ok v' w'∧K.Own tE w' base v' (l++m)∧Below base w w'∧dV tE w w':=by
 obtain ⟨p,cap,rfl,_,_,hat⟩:=hx;obtain ⟨i0,hi,hz0,hz1,hz2⟩:=info_parts hinfo;have hlen:(l++m).length=l.length+m.length:=List.length_append;cases p with
 | none=>
  obtain rfl:m=[]:=by exact Ag
  refine ⟨v,w,?_,by simpa using hv,Below.refl _ _,dV.refl _ _⟩;exact Tg
 | some a=>
  have hnews:∀j u,(K.cells m)[j]? = some u→w.cell? (a.add j)=some u:=by exact Tn
  obtain ⟨v',w',hr,hown,hg,_⟩:=run_append_own (P:=prog) w base tS tS tE i0 _ K.n B hu hi hz0 hz1 hz2 hzl K.pos v l.length (K.cells l) hv a m.length cap (K.cells m) (K.aQ m) hnews (K.cells_one m) KZ hbytes hbase;refine ⟨v',w',hr,?_,?_,?_,?_⟩
  ·unfold RowK.Own;rw [hlen,K.dY];exact hown
  ·exact IV
  ·exact hg.size
  ·intro k xs t' fr hk ht;have hkl:=(Array.getElem?_eq_some_iff.1 hk).1;rw [hg.block k hkl ?_]
   ·exact hk
   ·intro e;rcases id hv with ⟨_,⟨rfl,hn⟩ | ⟨g,cap',cur,rfl,hbg,hgg,r⟩⟩
    ·simp [Value.ownBlock] at e
    ·simp only [Value.ownBlock] at e;obtain rfl:k=g:=by simpa using e
     have h1:=hk.symm.trans hgg;exact TK
theorem RowK.bX (K:RowK α) {tS tE:TypeId} {z:Value} {B:Nat} (hu:prog.underlying tS=some (.slice tE)) (hinfo:(prog.info? tE).map (fun i=>(i.zero,i.size,i.bytes))=some (some z,K.n,B)) (hzl:z.cells.size=K.n) {w:World} {ops:Array Oper} {rest:List Oper} {o:Oper} {a:Act} {Q:Exit→Act→World→Prop} (hgd:o.guard=none) (s x:Operand) (ho:o.op=.call { callee:=.builtin .append,args:=#[s,x],argTypes:=#[tS,tS] }) (hty:o.type=tS) (base:Nat) (v x':Value) (l m:List α) (hs:a.eval s=v) (hx:a.eval x=x') (hv:K.Own tE w base v l) (hX:K.Reads w x' m) (hbytes:(l.length+m.length)*B≤140737488355328) (qy:l.length+m.length≤140737488355328) (hbase:base≤w.heap.size) (h:∀v' w',K.Own tE w' base v' (l++m)→Below base w w'→dV tE w w'→wpList prog ops Q rest (a.put o.dst v') w'):wpList prog ops Q (o::rest) a w:=wpList_plain hgd fun K' hK=>by obtain ⟨v',w',hr,h1,h2,h3⟩:=K.C_ hu hinfo hzl w base v x' l m hv hX hbytes qy hbase;unfold Oper.wp execOp;simp only [ho,resolve,invoke,builtin,Sem.run_bind,Sem.run_pure,Result.andThen_ok,List.map_toArray,List.map_cons,List.map_nil,hs,hx,hty];simp only [hr];exact hK _ _ (h v' w' h1 h2 h3)
theorem RowK.Reads.one (K:RowK α) (w:World) (t:TypeId) (x:α) (h1:K.n=1):K.Reads (w.alloc (Obj.cells (K.enc x).toArray t)) (.slice (some ⟨w.heap.size,0,none⟩) 1 1) [x]:=by
 have hB:=ak.new w (K.enc x) t;refine ⟨_,1,rfl,Nat.le_refl _,by unfold maxLen;omega,.inr ⟨w.heap.size,0,rfl,hB.lt,fun j v hj=>?_⟩⟩;rw [Nat.zero_add];have e:K.cells [x]=K.enc x:=by exact tF
 rw [e] at hj;exact hB.cell j v hj
end
def KG:RowK Bool:=⟨fun b=>[.bool b],1,by decide,fun _=>rfl,by intro a u hu;rw [List.mem_singleton.1 hu];rfl⟩
theorem rP {K:RowK α} {off:Nat} {l:List α} (h1:K.n=1) (h:∀j v,(K.cells l)[j]? = some v→w.cell? ⟨b,off+j,none⟩=some v) (i:Nat) (hi:i<l.length) (v:Value) (hv:(K.enc l[i])[0]? = some v):w.cell? ⟨b,off+i,none⟩=some v:=by have e:=K.lU l i 0 hi K.pos;rw [h1,Nat.mul_one,Nat.add_zero] at e;exact h i v (e.trans hv)
theorem G_ {off:Nat} {bs:List Bool} (h:∀j v,(KG.cells bs)[j]? = some v→w.cell? ⟨b,off+j,none⟩=some v) (i:Nat) (hi:i<bs.length):w.cell? ⟨b,off+i,none⟩=some (.bool (bs.getD i false)):=by
 have e:bs.getD i false=bs[i]:=by rw [List.getD_eq_getElem?_getD,List.getElem?_eq_getElem hi];rfl
 rw [e];exact rP rfl h i hi _ rfl
theorem zx (bs:List Bool) (i:Nat) (h:bs.length≤i):bs.getD i false=false:=by rw [List.getD_eq_getElem?_getD,List.getElem?_eq_none h];rfl
def iw:RowK (Int×Int):=⟨fun p=>[.int .u64 p.1,.int .i64 p.2],2,by decide,fun _=>rfl,by
 intro a u hu
 simp only [List.mem_cons,List.not_mem_nil,or_false] at hu
 rcases hu with rfl | rfl <;> rfl⟩
def rA:RowK (Option Addr):=⟨fun p=>[.pointer p],1,by decide,fun _=>rfl,by intro a u hu;rw [List.mem_singleton.1 hu];rfl⟩
theorem Ui:148≠206:=by decide
def rQ (w:World):Option Addr→Option Vc→Prop
 | none,none=>True
 | some x,some a=>∃b off,x=⟨b,off,none⟩∧b<w.heap.size∧w.rangeAt b off (dF a)
 | _,_=>False
def Ji (w:World) (ps:List (Option Addr)) (os:List (Option Vc)):Prop:=ps.length=os.length∧∀(i:Nat) (h:i<ps.length) (h':i<os.length),rQ w ps[i] os[i]
theorem rQ.below {p:Option Addr} {o:Option Vc} (h:rQ w p o) (hb:Below w.heap.size w w'):rQ w' p o:=by
 cases p with
 | none=>cases o with
  | none=>exact trivial
  | some a=>exact h
 | some x=>cases o with
  | none=>exact h
  | some a=>
   obtain ⟨b,off,rfl,hlt,hr⟩:=h
   exact ⟨b,off,rfl,Nat.lt_of_lt_of_le hlt hb.size,fun j v hj=>by rw [hb.cell (p:=⟨b,off+j,none⟩) hlt];exact hr j v hj⟩
theorem Ji.below {w w':World} {ps:List (Option Addr)} {os:List (Option Vc)} (h:Ji w ps os) (hb:Below w.heap.size w w'):Ji w' ps os:=⟨h.1,fun i hi hi'=>(h.2 i hi hi').below hb⟩
def OO (w:World):Option Addr→Option Vc→Prop
 | none,none=>True
 | some x,some a=>∃b,x=⟨b,0,none⟩∧ak w b (dF a) 148
 | _,_=>False
def Aq (w:World) (ps:List (Option Addr)) (os:List (Option Vc)):Prop:=ps.length=os.length∧∀(i:Nat) (h:i<ps.length) (h':i<os.length),OO w ps[i] os[i]
theorem OO.below {w w':World} {p:Option Addr} {o:Option Vc} (h:OO w p o) (hb:Below w.heap.size w w'):OO w' p o:=by
 cases p with
 | none=>cases o with
  | none=>exact trivial
  | some a=>exact h
 | some x=>cases o with
  | none=>exact h
  | some a=>
   obtain ⟨b,rfl,hB⟩:=h
   exact ⟨b,rfl,hB.below hb⟩
theorem OO.kept {w w':World} {p:Option Addr} {o:Option Vc} (h:OO w p o) (hk:dV 206 w w'):OO w' p o:=by
 cases p with
 | none=>cases o with
  | none=>exact trivial
  | some a=>exact h
 | some x=>cases o with
  | none=>exact h
  | some a=>
   obtain ⟨b,rfl,hB⟩:=h
   exact ⟨b,rfl,hB.kept hk Ui⟩
theorem OO.at {p:Option Addr} {o:Option Vc} (h:OO w p o):rQ w p o:=by
 cases p with
 | none=>cases o with
  | none=>exact trivial
  | some a=>exact h
 | some x=>cases o with
  | none=>exact h
  | some a=>
   obtain ⟨b,rfl,hB⟩:=h
   exact ⟨b,0,rfl,hB.lt,hB.Ak⟩
theorem Aq.below {w w':World} {ps:List (Option Addr)} {os:List (Option Vc)} (h:Aq w ps os) (hb:Below w.heap.size w w'):Aq w' ps os:=⟨h.1,fun i hi hi'=>(h.2 i hi hi').below hb⟩
theorem Aq.kept {w w':World} {ps:List (Option Addr)} {os:List (Option Vc)} (h:Aq w ps os) (hk:dV 206 w w'):Aq w' ps os:=⟨h.1,fun i hi hi'=>(h.2 i hi hi').kept hk⟩
theorem Aq.snoc {ps:List (Option Addr)} {os:List (Option Vc)} (h:Aq w ps os) {p:Option Addr} {o:Option Vc} (hp:OO w p o):Aq w (ps++[p]) (os++[o]):=by
 have h1:=h.1;refine ⟨by simp [h1],fun i hi hi'=>?_⟩;simp only [List.length_append,List.length_singleton] at hi hi';by_cases e:i<ps.length
 ·rw [List.getElem_append_left e,List.getElem_append_left aJ];exact h.2 i e aJ
 ·obtain rfl:i=ps.length:=by omega
  rw [List.getElem_append_right (Nat.le_refl _),List.getElem_append_right aJ];simp only [Nat.sub_self,List.getElem_singleton];exact hp
theorem Ji.nil (w:World):Ji w [] []:=⟨rfl,fun i hi=>absurd hi (by simp)⟩
theorem RowK.Reads.range {K:RowK α} {o:Nat} {l:List α} (h:K.Reads w (.slice (some ⟨b,o,none⟩) n cap) l) (i:Nat) (hi:i<l.length):w.rangeAt b (o+i*K.n) (K.enc l[i]):=by
 obtain ⟨p,cap',he,-,-,hat⟩:=h;cases he;obtain ⟨b',o',hb,-,hc⟩:=hat.pos aJ;cases hb;intro j v hj;have hjn:j<K.n:=by have:=(List.getElem?_eq_some_iff.1 hj).1;rwa [K.len] at this
 have:=RowK.At.cell hc i j hi hjn v hj;rw [Nat.add_assoc];exact this
theorem RowK.kU (K:RowK α) (w:World) (a:α) (t:TypeId):K.Reads (w.alloc (Obj.cells (K.enc a).toArray t)) (.slice (some ⟨w.heap.size,0,none⟩) 1 1) [a]:=by have hB:=ak.new w (K.enc a) t;exact ⟨some ⟨w.heap.size,0,none⟩,1,rfl,Nat.le_refl _,by unfold maxLen;omega,.inr ⟨w.heap.size,0,rfl,hB.lt,fun j v hj=>by rw [Nat.zero_add];exact hB.cell j v (by simpa [RowK.cells] using hj)⟩⟩
theorem EL (hgd:op.guard=none) (ty:TypeId) (n:Nat) (parts:Array (Nat×Operand)) (ho:op.op=.buildSlice ty n parts) (pv:Array (Nat×Value)) (hp:(parts.map fun (i,x)=>(i,a.eval x))=pv) (v:Value) (w':World) (hr:(Instr.buildSlice ty n pv).run prog w=.ok v w') (h:wpList prog ops Q rest (a.put op.dst v) w'):wpList prog ops Q (op::rest) a w:=wpList_plain hgd fun K hK=>by unfold Oper.wp execOp;simp only [ho];rw [hp];simp only [Sem.run_bind,hr,Result.andThen_ok,Sem.run_pure];exact hK _ _ h
theorem aI (pv:Array (Nat×Value)) {v:Value} {w':World} {ty:TypeId} {n:Nat} (hr:(Instr.buildSlice ty n pv).run prog w=.ok v w') (h:wpList prog ops Q rest (a.put op.dst v) w') {parts:Array (Nat×Operand)} (hgd:op.guard=none:=by rfl) (ho:op.op=.buildSlice ty n parts:=by rfl) (hp:(parts.map fun (i,x)=>(i,a.eval x))=pv:=by kernel_rfl):wpList prog ops Q (op::rest) a w:=EL hgd ty n parts ho pv hp v w' hr h
section
structure Sl (P:Program) (ops:Array Oper) (w:World) (Q:Act→Prop) (l:List Oper) (a:Act):Prop where
 out:wpStill P ops w Q l a
theorem fD {id:Nat} {l:List Oper} (hm:P.follows .mixedOrders=true) (hB:Region.lexB .any l.toArray=true)
 (h:Sl P l.toArray w.drew (fun a'=>Q .normal a' w.drew) l a):(Code.region id l.toArray true).wp P Q a w:=wp_region_still_lit hm hB h.out
theorem d_ {id:Nat} {l:List Oper} (n:Nat) (hm:P.follows .mixedOrders=true) (hB:Region.lexTailB .any l.toArray n=true)
 (h:Sl P l.toArray w.drew (fun a'=>wpList P l.toArray Q (l.drop n) a' w.drew) (l.take n) a):(Code.region id l.toArray true).wp P Q a w:=wp_region_still_tail n hm hB h.out
theorem qM {f:FuncId} {args:Array Value} {E:Ending→Prop} (h:Calls P f args w fun e w'=>E e∧w=w'):Calls P f args w fun e w'=>E e∧w'=w:=h.mono fun _ _ h=>⟨h.1,h.2.symm⟩
section
variable {P:Program} {ops:Array Oper} {w:World} {Q:Act→Prop} {a:Act} {o:Oper} {rest:List Oper}
theorem bM (h:Q a):Sl P ops w Q [] a:=⟨wpStill_nil h⟩
theorem Da (hw:Region.wanted o (yielded ops a.tmps)=true) (hr:(execOp a.eval o).run P w=.ok (.value v) w) (h:Sl P ops w Q rest (a.put o.dst v)):Sl P ops w Q (o::rest) a:=by refine ⟨wpStill_step fun K' hK=>?_⟩;rw [if_pos hw];unfold Oper.still;rw [hr];exact ⟨rfl,hK _ h.out⟩
theorem mZ (hw:Region.wanted o (yielded ops a.tmps)=false) (h:Sl P ops w Q rest (a.put o.dst undef)):Sl P ops w Q (o::rest) a:=by refine ⟨wpStill_step fun K' hK=>?_⟩;rw [if_neg (by rw [hw];decide)];exact hK _ h.out
theorem fu {f:FuncId} {args:Array Value} (hw:Region.wanted o (yielded ops a.tmps)=true) (hr:(execOp a.eval o).run P w=.ok (.enter f args) w) (hc:Calls P f args w fun e w'=>e=.returned v∧w'=w) (h:Sl P ops w Q rest (a.put o.dst v)):Sl P ops w Q (o::rest) a:=by refine ⟨wpStill_step fun K' hK=>?_⟩;rw [if_pos hw];unfold Oper.still;rw [hr];exact ⟨rfl,_,hc,hK _ h.out⟩
end
variable {α:Type} {K:RowK α} {T:TypeId}
theorem dB.still (hT:dB K T) {ops:Array Oper} {w:World} {Q:Act→Prop} {a:Act} {op:Oper} {rest:List Oper} (hw:Region.wanted op (yielded ops a.tmps)=true) (x:Operand) (ho:op.op=.load T x) (b o:Nat) (hx:a.eval x=.pointer (some ⟨b,o,none⟩)) (c:α) (hR:w.rangeAt b o (K.enc c))
  (h:Sl prog ops w Q rest (a.put op.dst (.agg (K.enc c).toArray))):Sl prog ops w Q (op::rest) a:=
 Da hw (hT.exec x ho b o hx c hR) h
end
theorem so {Q:Act→Prop} {a':Act} {v:Value} (h:Sl P ops w Q rest a') (hw:Region.wanted o (yielded ops a.tmps)=true:=by rfl) (hr:(execOp a.eval o).run P w=.ok (.value v) w:=by go_simp;try with_reducible rfl) (ha:a.put o.dst v=a':=by first | (simp only [Act.put,List.setIfInBounds_toArray,List.set_cons_zero,List.set_cons_succ];rfl) | rfl):Sl P ops w Q (o::rest) a:=by
 subst ha
 exact Da hw hr h
section
section
variable {P:Program} {ops:Array Oper} {Q:Exit→Act→World→Prop} {md:Region.Mode} {S:World→Prop} {z:Nat}
def qN (P:Program) (md:Region.Mode) (ops:Array Oper) (Q:Exit→Act→World→Prop) (S:World→Prop) (z:Nat):Nat→Array Bool→Act→World→Prop
 | 0,listed,a,w=>Region.ready md ops listed=[]∧Q .normal a w
 | fuel+1,listed,a,w=>
  (Region.ready md ops listed=[]→Q .normal a w) ∧
  ∀i ∈ Region.ready md ops listed,wpOp P ops Q i (fun a' w'=>(i=z∨S w')∧qN P md ops Q S z fuel (listed.setIfInBounds i true) a' w') a w
theorem wY:∀(fuel:Nat) (listed:Array Bool) (a:Act) (w:World),qN P md ops Q S z fuel listed a w→wpAny P md ops Q fuel listed a w
 | 0,_,_,_,h=>h
 | fuel+1,_,_,_,h=>⟨h.1,fun i hi=>wpOp_mono (fun a' w' h'=>wY fuel _ a' w' h'.2) (h.2 i hi)⟩
theorem Ar (hi:ops[i]? = some oi) (hsel:∀(j:Nat) (o:Oper) cs b,ops[j]? = some o→o.op≠.select cs b) (hz:∀oz,ops[z]? = some oz→∃e ∈ oz.after,Region.binds md e=true∧e.on=i) (hQ:∀c a w,Q (.panic c) (a.put oi.dst v) w→Q (.panic c) a w):∀(fuel:Nat) (listed:Array Bool) (a:Act) (w:World),(∀j oj,ops[j]? = some oj→j≠i→listed.getD j true=false→(∀e ∈ oj.after,Region.binds md e=true→e.on≠i)→oi.apart ops oj=true)→i ∈ Region.ready md ops listed→YieldsIf P ops S oi v a→S w→qN P md ops Q S z fuel (listed.setIfInBounds i true) (a.put oi.dst v) w→qN P md ops Q S z (fuel+1) listed a w:=by
 intro fuel;induction fuel with
 | zero=>
  intro listed a w _ hr hy hS H;refine ⟨fun h=>Pn,fun j hj=>?_⟩;by_cases hji:j=i
  ·subst hji;exact hy.wpOp hi hS ⟨.inr hS,H⟩
  ·have:=ready_mono hj hji;rw [H.1] at this;cases this
 | succ fuel ih=>
  intro listed a w hfree hr hy hS H;refine ⟨fun h=>Pn,fun j hj=>?_⟩;by_cases hji:j=i
  ·subst hji;exact hy.wpOp hi hS ⟨.inr hS,H⟩
  ·have h1:=H.2 j (ready_mono hj hji);obtain ⟨hjun,oj,hoj,hall⟩:=mem_ready.1 hj;have hnot:∀e ∈ oj.after,Region.binds md e=true→e.on≠i:=fun e he hb heq=>by
    have h1:=hall e he hb;have h0:=(mem_ready.1 hr).1;rw [heq] at h1;rcases Nat.lt_or_ge i listed.size with h' | h'
    ·simp [h'] at h0 h1;rw [h0] at h1;cases h1
    ·simp [Array.getElem?_eq_none h'] at h1
   have hjz:j≠z:=fun e=>by subst e;obtain ⟨x,hx,hb,he⟩:=hz oj hoj;exact hnot x hx hb he
   have h2:=wpOp_putIf hoj (hfree j oj hoj hji hjun hnot) (fun cs b=>hsel i oi cs b hi) (fun cs b=>hsel j oj cs b hoj) hQ hy h1
   have hfree':∀k ok,ops[k]? = some ok→k≠i→(listed.setIfInBounds j true).getD k true=false →
     (∀e ∈ ok.after,Region.binds md e=true→e.on≠i)→oi.apart ops ok=true:=fun k ok hk hki hun hno=>by
    refine hfree k ok hk hki ?_ hno
    by_cases hjk:j=k
    ·subst hjk;exact hjun
    ·rw [getD_set_ne true hjk] at hun;exact hun
   refine wpOp_mono (fun a' w' h3=>?_) h2;have hS':S w':=h3.2.1.resolve_left hjz;refine ⟨.inr hS',ih (listed.setIfInBounds j true) a' w' hfree' (ready_mono hr (Ne.symm hji)) h3.1 hS' ?_⟩;rw [Array.setIfInBounds_comm _ _ hji];exact h3.2.2
structure Az (P:Program) (md:Region.Mode) (ops:Array Oper) (Q:Exit→Act→World→Prop) (S:World→Prop) (z:Nat) (fuel:Nat) (listed:Array Bool) (a:Act) (w:World):Prop where
 out:qN P md ops Q S z fuel listed a w
def m_ (md:Region.Mode) (ops:Array Oper) (z i:Nat):Bool:=match ops.toList[z]? with
 | some oz=>oz.after.toList.any fun e=>Region.binds md e && e.on == i
 | none=>true
variable {fuel:Nat} {listed:Array Bool} {a:Act} {w:World} {oi:Oper}
theorem eU {id:Nat} (hm:P.follows .mixedOrders=true) (h:Az P .any ops Q S z ops.size (Array.replicate ops.size false) a w.drew):(Code.region id ops true).wp P Q a w:=wp_region_any hm (wY _ _ _ _ h.out)
theorem Ls (i:Nat) {v:Value} (hi:ops.toList[i]? = some oi) (hw:Region.wanted oi (yielded ops a.tmps)=true) (hs:Region.noSelect ops=true) (hf:Region.free md ops listed i=true) (hr:(Region.ready md ops listed).contains i=true) (hz:m_ md ops z i=true) (hQ:∀c a w,Q (.panic c) (a.put oi.dst v) w→Q (.panic c) a w) (hS:S w) (hy:∀w,S w→(execOp a.eval oi).run P w=.ok (.value v) w) (h:Az P md ops Q S z fuel (listed.setIfInBounds i true) (a.put oi.dst v) w):Az P md ops Q S z (fuel+1) listed a w:=by
 have hi':ops[i]? = some oi:=by exact KV
 refine ⟨Ar hi' (Region.noSelect_spec hs) (fun oz hoz=>?_) hQ fuel listed a w (Region.free_spec hi' hf) (by simpa using hr) (.inl ⟨hw,hy⟩) hS h.out⟩;unfold m_ at hz;rw [Array.getElem?_toList,hoz] at hz;obtain ⟨e,he,h1⟩:=List.any_eq_true.1 hz;simp only [Bool.and_eq_true,beq_iff_eq] at h1;exact ⟨e,by simpa using he,h1⟩
theorem Yi (i:Nat) (hi:ops.toList[i]? = some oi) (hr:Region.ready md ops listed=[i]) (hw:Region.wanted oi (yielded ops a.tmps)=true) (h:∀K':Act→World→Prop,Shut (∀a w,S w→Az P md ops Q S z fuel (listed.setIfInBounds i true) a w→K' a w)→oi.wp P a w K' Q):Az P md ops Q S z (fuel+1) listed a w:=by
 refine ⟨⟨fun h0=>Pj,fun j hj=>?_⟩⟩;rw [hr] at hj;obtain rfl:=List.mem_singleton.1 hj;unfold wpOp;have hi':ops[j]? = some oi:=by exact KV
 simp only [hi',hw,if_true];exact .inl (h _ (fun a w hS hA=>⟨.inr hS,hA.out⟩))
theorem Yj (i:Nat) (hi:ops.toList[i]? = some oi) (hr:Region.ready md ops listed=[i]) (hw:Region.wanted oi (yielded ops a.tmps)=true) (hd:Region.ready md ops (listed.setIfInBounds i true)=[]) (hz:i=z) (h:∀K':Act→World→Prop,Shut (∀a w,Q .normal a w→K' a w)→oi.wp P a w K' Q):Az P md ops Q S z 1 listed a w:=by
 refine ⟨⟨fun h0=>Pj,fun j hj=>?_⟩⟩;rw [hr] at hj;obtain rfl:=List.mem_singleton.1 hj;unfold wpOp;have hi':ops[j]? = some oi:=by exact KV
 simp only [hi',hw,if_true];exact .inl (h _ (fun a w hA=>⟨.inl hz,hd,hA⟩))
end
end
theorem zt {md:Region.Mode} {z:Nat} (i:Nat) {oi:Oper} {v:Value} {fuel:Nat} {listed:Array Bool} {a a':Act} {w:World} (hS:S w) (h:Az P md ops Q S z fuel (listed.setIfInBounds i true) a' w) (hi:ops.toList[i]? = some oi:=by rfl) (hw:Region.wanted oi (yielded ops a.tmps)=true:=by rfl) (hs:Region.noSelect ops=true:=by kernel_rfl) (hf:Region.free md ops listed i=true:=by kernel_rfl) (hr:(Region.ready md ops listed).contains i=true:=by kernel_rfl) (hz:m_ md ops z i=true:=by kernel_rfl) (hQ:∀c a w,Q (.panic c) (a.put oi.dst v) w→Q (.panic c) a w:=by exact fun _ _ _ h=>h) (hy:∀w,S w→(execOp a.eval oi).run P w=.ok (.value v) w:=by intro wx hwx;go_simp;try with_reducible rfl) (ha:a.put oi.dst v=a':=by first | (simp only [Act.put,List.setIfInBounds_toArray,List.set_cons_zero,List.set_cons_succ];rfl) | rfl):Az P md ops Q S z (fuel+1) listed a w:=by
 subst ha
 exact Ls i hi hw hs hf hr hz hQ hS hy h
theorem zp {md:Region.Mode} {z:Nat} (i:Nat) {oi:Oper} {v:Value} {fuel:Nat} {listed:Array Bool} {a a':Act} {w:World} (hp:∀(c:List PanicEntry) (a:Act) (d:Option Tmp) (v:Value) (w:World),Q (.panic c) (a.put d v) w→Q (.panic c) a w) (hS:S w) (h:Az P md ops Q S z fuel (listed.setIfInBounds i true) a' w) (hi:ops.toList[i]? = some oi:=by rfl) (hw:Region.wanted oi (yielded ops a.tmps)=true:=by rfl) (hs:Region.noSelect ops=true:=by kernel_rfl) (hf:Region.free md ops listed i=true:=by kernel_rfl) (hr:(Region.ready md ops listed).contains i=true:=by kernel_rfl) (hz:m_ md ops z i=true:=by kernel_rfl) (hy:∀w,S w→(execOp a.eval oi).run P w=.ok (.value v) w:=by intro wx hwx;go_simp;try with_reducible rfl) (ha:a.put oi.dst v=a':=by first | (simp only [Act.put,List.setIfInBounds_toArray,List.set_cons_zero,List.set_cons_succ];rfl) | rfl):Az P md ops Q S z (fuel+1) listed a w:=by
 subst ha
 exact Ls i hi hw hs hf hr hz (fun c a w h=>hp c a _ _ w h) hS hy h
theorem aZ {md:Region.Mode} {z:Nat} (i:Nat) {oi:Oper} {fuel:Nat} {listed:Array Bool} {a:Act} {w:World} (h:∀K':Act→World→Prop,Shut (∀a w,S w→Az P md ops Q S z fuel (listed.setIfInBounds i true) a w→K' a w)→oi.wp P a w K' Q) (hi:ops.toList[i]? = some oi:=by rfl) (hr:Region.ready md ops listed=[i]:=by kernel_rfl) (hw:Region.wanted oi (yielded ops a.tmps)=true:=by rfl):Az P md ops Q S z (fuel+1) listed a w:=Yi i hi hr hw h
theorem aE {md:Region.Mode} {S:World→Prop} {z:Nat} (i:Nat) {oi:Oper} {listed:Array Bool} {a:Act} {w:World} (h:∀K':Act→World→Prop,Shut (∀a w,Q .normal a w→K' a w)→oi.wp P a w K' Q) (hi:ops.toList[i]? = some oi:=by rfl) (hr:Region.ready md ops listed=[i]:=by kernel_rfl) (hw:Region.wanted oi (yielded ops a.tmps)=true:=by rfl) (hd:Region.ready md ops (listed.setIfInBounds i true)=[]:=by kernel_rfl) (hz:i=z:=by rfl):Az P md ops Q S z 1 listed a w:=Yj i hi hr hw hd hz h
inductive Tz (P:Program) (ops:Array Oper) (Q:Exit→Act→World→Prop) (md:Region.Mode) (S:World→Prop) (z:Nat):Nat→Array Bool→Act→List Nat→Nat→Array Bool→Act→Prop
 | nil {f:Nat} {l:Array Bool} {a:Act}:Tz P ops Q md S z f l a [] f l a
 | cons {f f' i:Nat} {l l':Array Bool} {a a1 a':Act} {is:List Nat} {oi:Oper} {v:Value} (hi:ops.toList[i]? = some oi) (hw:Region.wanted oi (yielded ops a.tmps)=true) (hf:Region.free md ops l i=true) (hr:(Region.ready md ops l).contains i=true) (hz:m_ md ops z i=true) (hQ:∀c a w,Q (.panic c) (a.put oi.dst v) w→Q (.panic c) a w) (hy:∀w,S w→(execOp a.eval oi).run P w=.ok (.value v) w) (ha:a.put oi.dst v=a1) (h:Tz P ops Q md S z f (l.setIfInBounds i true) a1 is f' l' a'):Tz P ops Q md S z (f+1) l a (i::is) f' l' a'
theorem Tz.go {md:Region.Mode} {z:Nat} {f f':Nat} {l l':Array Bool} {a':Act} {is:List Nat} (hs:Region.noSelect ops=true) (hS:S w) (h:Tz P ops Q md S z f l a is f' l' a') (k:Az P md ops Q S z f' l' a' w):Az P md ops Q S z f l a w:=by
 induction h with
 | nil=>exact k
 | cons hi hw hf hr hz hQ hy ha _ ih=>
  subst ha
  exact Ls _ hi hw hs hf hr hz hQ hS hy (ih k)
theorem td {p:Prop} (h:p:=by first | exact .nil | exact .cons bn bn aW aW aW XP X0 XU td):p:=h
theorem tz {md:Region.Mode} {z:Nat} {f f':Nat} {l l':Array Bool} {a a':Act} (is:List Nat) {w:World} (hS:S w) (k:Az P md ops Q S z f' l' a' w) (hs:Region.noSelect ops=true:=by kernel_rfl) (h:Tz P ops Q md S z f l a is f' l' a':=by exact td):Az P md ops Q S z f l a w:=Tz.go hs hS h k
end Go.Proofs.YtofhdhgfcomhiaaGreat
