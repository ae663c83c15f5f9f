/- Of what laws of the clock want, part 2: Cmp Vec Num Lib App Perm VecVal Conf ConfVal VecLaws0 RowG VecRow Ident Head (mini.py). -/
import Derived.Test.YtofhdhgfcomhiaaGreatCf1
namespace Go.Proofs.YtofhdhgfcomhiaaGreat
open Go.RowKit Go.Proofs
set_option maxRecDepth 100000
set_option maxHeartbeats 100000000
set_option linter.unusedVariables false
set_option linter.unusedSimpArgs false
open Tryz
variable {B:Nat} {P:Program} {Q:Exit→Act→World→Prop} {S:World→Prop} {a:Act} {b:Nat} {base:Nat} {cap:Nat} {fuel:Nat} {g:Nat} {h:Nat} {i:Nat} {l:List UInt8} {listed:Array Bool} {n:Nat} {now:Int} {o:Oper} {oi:Oper} {op:Oper} {ops:Array Oper} {p:Prop} {rest:List Oper} {t:TypeId} {v:Value} {w:World} {w':World} {xs:List Value} {α:Type}
def bQ (a b:Int):Int:=if a<b then -1 else if b<a then 1 else 0
theorem GZ {a b:Int} (h:a<b):bQ a b = -1:=if_pos h
theorem G5 {a b:Int} (h:b<a):bQ a b=1:=by unfold bQ;rw [if_neg aJ,if_pos h]
theorem Ai {a b:Int} (h:a=b):bQ a b=0:=by unfold bQ;rw [if_neg aJ,if_neg aJ]
theorem CG (a:Int) (w:World):Calls prog 272 #[.int .u64 a] w fun e w'=>e=.returned (.bool false)∧w=w':=by go_enter func272,ntmps272;exact vw
theorem rD (a b:Int) (w:World):Calls prog 263 #[.int .u64 a,.int .u64 b] w fun e w'=>e=.returned (.int .i64 (bQ a b))∧w=w':=by
 by_cases h1:a<b
 ·rw [GZ h1];exact Tt
 by_cases h2:b<a
 ·rw [G5 h2];exact Tt
 rw [Ai aJ];exact Tt
theorem CJ (a:Int) (w:World):Calls prog 264 #[.int .i64 a] w fun e w'=>e=.returned (.bool false)∧w=w':=by go_enter func264,ntmps264;exact vw
theorem h_ (a b:Int) (w:World):Calls prog 244 #[.int .i64 a,.int .i64 b] w fun e w'=>e=.returned (.int .i64 (bQ a b))∧w=w':=by
 by_cases h1:a<b
 ·rw [GZ h1];exact Tv
 by_cases h2:b<a
 ·rw [G5 h2];exact Tv
 rw [Ai aJ];exact Tv
def nV:List Int→List Int→Int
 | x::xs,y::ys=>if x<y then -1 else if y<x then 1 else nV xs ys
 | _,_=>0
theorem zh (x y:Int) (xs ys:List Int):nV (x::xs) (y::ys)=if x<y then -1 else if y<x then 1 else nV xs ys:=rfl
theorem mQ (xs ys:List Int):nV xs ys = -1∨nV xs ys=0∨nV xs ys=1:=by
 induction xs generalizing ys with
 | nil=>right;left;cases ys <;> rfl
 | cons x xs ih=>
  cases ys with
  | nil=>right;left;rfl
  | cons y ys=>
   rw [zh];split
   ·left;rfl
   ·split
    ·right;right;rfl
    ·exact ih ys
structure Vc where
 p1:Int
 qc:Int
 qa:Int
 qv:Int
 p2:Int
 gr:Int
 st:Int
 sc:Int
 sp:Int
 rc:Int
 rp:Int
def Ua (a:Vc):List Int:=[a.p1,a.qc,a.qa,a.qv,a.p2,a.gr]
def jc (a b:Vc):Int:=nV (Ua a) (Ua b)
def La (c p c' p':Int):Int:=nV [c,p] [c',p']
def nE (a:Vc):Int:=if La a.rc a.rp a.sc a.sp = -1 then 2 else if La a.rc a.rp a.sc a.sp=1 then 1 else 0
def cB (a b:Vc):Int:=
 if jc a b≠0 then 2*jc a b
 else if b.st+1<a.st then 2
 else if a.st+1<b.st then -2
 else if b.st<a.st then nE a
 else if a.st<b.st then - nE b
 else nV [a.sc,a.sp,a.rp] [b.sc,b.sp,b.rp]
theorem uO (a b:Vc):jc a b = -1∨jc a b=0∨jc a b=1:=mQ _ _
theorem wK (a:Vc):nE a=0∨nE a=1∨nE a=2:=by
 unfold nE;split
 ·right;right;rfl
 ·split
  ·right;left;rfl
  ·left;rfl
theorem EH (a b:Vc) : -2≤cB a b∧cB a b≤2:=by
 have h1:=uO a b;have h2:=wK a;have h3:=wK b;have h4:=mQ [a.sc,a.sp,a.rp] [b.sc,b.sp,b.rp];unfold cB;repeat' split
 all_goals omega
theorem wL {a b:Vc} (h:jc a b≠0):cB a b=2*jc a b:=if_pos h
def iJ (x:Nat):Nat→List UInt8
 | 0=>[]
 | n+1=>UInt8.ofNat (x / 256 ^ n)::iJ x n
theorem dN (x n:Nat):(iJ x n).length=n:=by induction n <;> simp [iJ, *]
def num (l:List UInt8):Nat:=l.foldl (fun v c=>(v*256+c.toNat) % 18446744073709551616) 0
theorem I7 (l:List UInt8):num l<256 ^ l.length:=by
 unfold num;suffices h:∀(l:List UInt8) (v n:Nat),v<256 ^ n→l.foldl (fun v c=>(v*256+c.toNat) % 18446744073709551616) v<256 ^ (n+l.length) by simpa using h l 0 0 aX
 intro l;induction l with
 | nil=>intro v n h;simpa using h
 | cons c l ih=>
  intro v n h;have hc:c.toNat<256:=c.toNat_lt;have h1:(v*256+c.toNat) % 18446744073709551616<256 ^ (n+1):=by refine Nat.lt_of_le_of_lt (Nat.mod_le _ _) ?_;rw [Nat.pow_succ];omega
  have:=ih _ (n+1) h1;rw [List.foldl_cons,List.length_cons];rwa [show n+(l.length+1)=n+1+l.length by omega]
def aF (l:List UInt8) (at' n:Nat):Nat:=num ((l.drop at').take n)
theorem vB (x:Int):0≤IntKind.u64.wrap x:=by rw [IntKind.wrap_u64];omega
theorem wM (x:Int):(IntKind.u64.wrap x).toNat=(x % 18446744073709551616).toNat:=by rw [IntKind.wrap_u64]
def aj (x n:Int):List UInt8:=iJ (x % 18446744073709551616).toNat (min (max n 0) 8).toNat
def dU (l:List UInt8) (at' n:Nat):Int:=if 2*aF l at' n<256 ^ n then aF l at' n else (aF l at' n:Int) - 256 ^ n
theorem mod_pow_succ (x n:Nat):x / 256 ^ n % 256*256 ^ n+x % 256 ^ n=x % 256 ^ (n+1):=by
 have h1:x % 256 ^ (n+1)=x % (256 ^ n*256):=by rw [Nat.pow_succ]
 rw [h1,Nat.mod_mul,Nat.mul_comm,Nat.add_comm]
theorem I8 (x n:Nat):∀v:Nat,v<18446744073709551616→(iJ x n).foldl (fun v c=>(v*256+c.toNat) % 18446744073709551616) v=(v*256 ^ n+x % 256 ^ n) % 18446744073709551616:=by
 induction n with
 | zero=>intro v h;simp [iJ,Nat.mod_one,Nat.mod_eq_of_lt h]
 | succ n ih=>
  intro v _;rw [iJ,List.foldl_cons,ih _ (Nat.mod_lt _ aX)];have hd:(UInt8.ofNat (x / 256 ^ n)).toNat=x / 256 ^ n % 256:=by rw [UInt8.toNat_ofNat']
  rw [hd,←mod_pow_succ x n,Nat.add_mod,Nat.mul_mod,Nat.mod_mod,←Nat.mul_mod,←Nat.add_mod];congr 1;rw [Nat.pow_succ,Nat.add_mul,Nat.mul_assoc,Nat.mul_comm 256 (256 ^ n),Nat.add_assoc]
theorem CO (x n:Nat) (h:n≤8):num (iJ x n)=x % 256 ^ n:=by unfold num;rw [I8 x n 0 aX,Nat.zero_mul,Nat.zero_add];apply Nat.mod_eq_of_lt;refine Nat.lt_of_lt_of_le (Nat.mod_lt _ (Nat.pow_pos aX)) ?_;exact Nat.le_trans (Nat.pow_le_pow_right aX h) aX
theorem Px (n:Nat) (h:n≤8):(256:Nat) ^ n ∣ 18446744073709551616:=by
 have:(18446744073709551616:Nat)=256 ^ n*256 ^ (8 - n):=by rw [←Nat.pow_add,show n+(8 - n)=8 by omega]
 rw [this];exact Nat.dvd_mul_right _ _
theorem Lb (x k:Int) (h0:0≤k) (h8:k≤8):((num (aj x k):Nat):Int)=x % 256 ^ k.toNat:=by
 unfold aj;rw [show (min (max k 0) 8).toNat=k.toNat by omega,CO _ _ aJ];have hp:=Px k.toNat aJ;have h:((x % 18446744073709551616).toNat:Int)=x % 18446744073709551616:=Int.toNat_of_nonneg (Int.emod_nonneg _ aX);rw [Int.natCast_emod,h,Int.natCast_pow];have hp':((256:Nat):Int) ^ k.toNat ∣ 18446744073709551616:=by have:=Int.ofNat_dvd.2 hp;simpa [Int.natCast_pow] using this
 exact Int.emod_emod_of_dvd x hp'
theorem aC (x k:Int) (h0:0≤k) (h8:k≤8):(aj x k).length=k.toNat:=by unfold aj;rw [dN];omega
theorem lN (n:Int) (j:Nat) (hj:j≤62):bits .and .i64 n (2 ^ j - 1)=n % 2 ^ j:=by
 have hlt:(2:Nat) ^ j<2 ^ 63:=Nat.pow_lt_pow_right aX aJ;have hpos:0<(2:Nat) ^ j:=Nat.pow_pos aX;have e1:((2:Int) ^ j - 1)=((2 ^ j - 1:Nat):Int):=by rw [Int.natCast_sub aJ];simp [Int.natCast_pow]
 have hm:(BitVec.ofInt 64 ((2:Int) ^ j - 1)).toNat=2 ^ j - 1:=by rw [e1,BitVec.toNat_ofInt];rw [Int.emod_eq_of_lt aJ aJ];omega
 have key:(BitVec.ofInt 64 n &&& BitVec.ofInt 64 (2 ^ j - 1)).toNat=(n % ((2 ^ 64:Nat):Int)).toNat % 2 ^ j:=by rw [BitVec.toNat_and,BitVec.toNat_ofInt,hm,Nat.and_two_pow_sub_one_eq_mod]
 show IntKind.i64.wrap ((BitVec.ofInt 64 n &&& BitVec.ofInt 64 (2 ^ j - 1)).toNat:Nat)=n % 2 ^ j;have hd:((2 ^ j:Nat):Int) ∣ ((2 ^ 64:Nat):Int):=Int.ofNat_dvd.2 (Nat.pow_dvd_pow 2 aJ);have hml:(n % ((2 ^ 64:Nat):Int)).toNat % 2 ^ j<2 ^ j:=Nat.mod_lt _ hpos;have h2:(((n % ((2 ^ 64:Nat):Int)).toNat % 2 ^ j:Nat):Int)=n % 2 ^ j:=by rw [Int.natCast_emod,Int.toNat_of_nonneg (Int.emod_nonneg _ aX),Int.emod_emod_of_dvd n hd];simp [Int.natCast_pow]
 rw [key,IntKind.wrap_i64,h2];have h3:n % 2 ^ j<2 ^ 63:=by rw [←h2];omega
 have h4:0≤n % 2 ^ j:=by rw [←h2];omega
 omega
abbrev bv (c:UInt8):Value:=.int .u8 (c.toNat:Int)
def BytesAt (w:World) (p:Option Addr) (l:List UInt8):Prop:=
 l=[]∨∃b off,p=some ⟨b,off,none⟩∧b<w.heap.size∧∀i (h:i<l.length),w.cell? ⟨b,off+i,none⟩=some (bv l[i])
def Bytes (w:World) (v:Value) (l:List UInt8):Prop:=
 ∃p cap,v=.slice p l.length cap∧l.length≤cap∧cap≤maxLen∧BytesAt w p l
theorem Bytes.nil (w:World):Bytes w (.slice none 0 0) []:=⟨none,0,rfl,Nat.le_refl _,Nat.zero_le _,.inl rfl⟩
theorem BytesAt.pos {p:Option Addr} (h:BytesAt w p l) (hl:0<l.length):∃b off,p=some ⟨b,off,none⟩∧b<w.heap.size∧∀i (h:i<l.length),w.cell? ⟨b,off+i,none⟩=some (bv l[i]):=by exact IZ
theorem BytesAt.below {p:Option Addr} (h:BytesAt w p l) (hb:Below w.heap.size w w'):BytesAt w' p l:=by exact Tq
theorem Bytes.below (h:Bytes w v l) (hb:Below w.heap.size w w'):Bytes w' v l:=by exact KR
theorem Bytes.cut {off:Nat} (A m c:Nat) (hlt:b<w.heap.size) (hc:∀i (h:i<l.length),w.cell? ⟨b,off+i,none⟩=some (bv l[i])) (hfit:A+m≤l.length) (hcap:l.length≤cap) (hmax:cap≤maxLen) (hcc:c=cap - A):Bytes w (.slice (some ⟨b,off+A,none⟩) m c) ((l.drop A).take m):=by
 have hlen:((l.drop A).take m).length=m:=by rw [List.length_take,List.length_drop];omega
 refine ⟨some ⟨b,off+A,none⟩,c,by rw [hlen],by omega,by omega,.inr ⟨b,off+A,rfl,hlt,fun i hi=>?_⟩⟩;have h:=hc (A+i) aJ;rw [←Nat.add_assoc] at h;rw [h];congr 2;rw [List.getElem_take,List.getElem_drop]
abbrev sv (l:List UInt8):Value:=.string ⟨l.toArray⟩
theorem I9 (a b:List UInt8):(⟨a.toArray⟩:ByteArray)++⟨b.toArray⟩=⟨(a++b).toArray⟩:=by apply ByteArray.ext;simp
theorem CP (l:List UInt8):strOfNums (l.map fun c=>(c.toNat:Int))=⟨l.toArray⟩:=by
 apply ByteArray.ext;show (List.map _ _).toArray=l.toArray;congr 1;rw [List.map_map];conv=>rhs;rw [←List.map_id l]
 apply List.map_congr_left;intro c _;simp
theorem Bytes.str (h:Bytes w v l):(convert 132 9 v).run prog w=.ok (.string ⟨l.toArray⟩) w:=by
 obtain ⟨p,cap,rfl,_,_,hat⟩:=h;rcases hat with rfl | ⟨b,off,rfl,_,hc⟩
 ·cases p with
  | none=>exact run_convert_bytes_nil w 132 5 underlying132 underlying5 _ _ _ underlying9
  | some a=>
   have hl:(loadCells a 0).run prog w=.ok #[] w:=by simpa using run_loadCells_list (P:=prog) w a [] (by simp)
   rw [run_convert_bytes_string w 132 9 5 _ _ _ underlying132 underlying5 underlying9,List.length_nil,run_bytesToString w a 0 cap [] (by simpa using hl)];rfl
 ·have h:=run_convert_bytes_arg (P:=prog) w 132 5 underlying132 underlying5 b off l.length cap (l.map fun c=>(c.toNat:Int)) (by simp)
   (fun i hi=>by rw [hc i hi];simp [hi]) _ underlying9
  rw [h,CP]
theorem Bytes.strs (h:Bytes w v l) :
 ∀w',Below w.heap.size w w'→(convert 132 9 v).run prog w'=.ok (.string ⟨l.toArray⟩) w':=fun _ hb=>(h.below hb).str
def cellsOf (l:List UInt8):List Value:=l.map bv
theorem aT (l:List UInt8):(cellsOf l).length=l.length:=by simp [cellsOf]
theorem fZ (l:List UInt8) (i:Nat) (h:i<l.length):(cellsOf l)[i]? = some (bv l[i]):=by simp [cellsOf,h]
theorem gq (a b:List UInt8):cellsOf (a++b)=cellsOf a++cellsOf b:=by simp [cellsOf]
theorem cellsOf_set (r:List UInt8) (q:Nat) (c:UInt8) (k:Nat) (h:r.length=k):(cellsOf (r++List.replicate (q+1) 0)).set k (bv c)=cellsOf (r++[c]++List.replicate q 0):=by subst h;simp [cellsOf,List.replicate_succ]
theorem Ub (x q:Nat):Value.int .u8 ((x:Int) / 2 ^ (8*q) % 256)=bv (UInt8.ofNat (x / 256 ^ q)):=by
 have h1:(256:Nat) ^ q=2 ^ (8*q):=by rw [show (256:Nat)=2 ^ 8 from rfl,←Nat.pow_mul]
 have h2:((UInt8.ofNat (x / 256 ^ q)).toNat:Int)=(x:Int) / 2 ^ (8*q) % 256:=by rw [UInt8.toNat_ofNat',h1];simp [Int.natCast_ediv,Int.natCast_pow]
 unfold bv;rw [h2]
theorem kN (l:List UInt8):∀v ∈ cellsOf l,v.oneCell'=true:=by intro v hv;simp only [cellsOf,List.mem_map] at hv;obtain ⟨c,_,rfl⟩:=hv;rfl
def Own (w:World) (base:Nat) (v:Value) (l:List UInt8):Prop:=w.ownsRow base 5 1 v l.length (cellsOf l)
theorem Own.nil (w:World) (base:Nat):Own w base (.slice none 0 0) []:=World.ownsRow_nil w base _ _
theorem Own.bytes (h:Own w base v l):Bytes w v l:=by
 have hlt:=World.ownsRow.lt h;have hcell:=@World.ownsRow.cellAt;rcases id h with ⟨_,⟨rfl,hn⟩ | ⟨g,cap,cur,rfl,_,_,h3,h4,_⟩⟩
 ·obtain rfl:l=[]:=List.eq_nil_of_length_eq_zero hn;exact Bytes.nil w
 ·refine ⟨_,_,rfl,h3,h4,.inr ⟨g,0,rfl,(hlt g rfl).2,fun i hi=>?_⟩⟩;rw [Nat.zero_add,World.ownsRow.cellAt h i aJ];exact fZ l i hi
theorem Own.mono {base':Nat} (h:Own w base v l) (hb:base'≤base):Own w base' v l:=by exact O7
theorem Own.below (h:Own w base v l) (hb:Below w.heap.size w w'):Own w' base v l:=by exact O6
theorem wN (w:World) (dT sT ty elem t:TypeId) (hu:P.underlying dT=some (.slice elem)) (hs:(P.info? elem).map (·.size)=some 1) (g dCap:Nat) (p:Option Addr) (cap:Nat) (l cur:List UInt8) (hg:w.heap[g]? = some (.cells (cellsOf cur).toArray t (0,0))) (hle:l.length≤cur.length) (hat:BytesAt w p l):∃w2,(Builtin.copy_ #[dT,sT] ty #[.slice (some ⟨g,0,none⟩) cur.length dCap,.slice p l.length cap]).run P w=.ok (.int .i64 (l.length:Int)) w2∧w2.heap[g]? = some (.cells (cellsOf (l++cur.drop l.length)).toArray t (0,0))∧Below g w w2∧w2.heap.size=w.heap.size:=by
 by_cases h0:l.length=0
 ·obtain rfl:l=[]:=List.eq_nil_of_length_eq_zero h0;exact ⟨w,run_copy_none w dT sT ty elem _ _ _ _ _ _ hu hs (by simp),by simpa using hg,Below.refl _ _,rfl⟩
 ·obtain ⟨b,off,rfl,_,hc⟩:=hat.pos aJ
  have h:=run_copy_row (P:=P) w dT sT ty elem g 0 cur.length dCap ⟨b,off,none⟩ l.length cap (cellsOf cur).toArray t (cellsOf l) hu hs hg (by rw [aT];exact (Nat.min_eq_left hle).symm)
   (fun j v hj=>by
    have hjl:j<l.length:=by
     rcases Nat.lt_or_ge j l.length with h | h
     ·exact h
     ·rw [List.getElem?_eq_none Xo] at hj;cases hj
    rw [fZ l j hjl] at hj
    rw [Addr.add_plain,hc j hjl]
    exact hj) (by simp [aT,hle]) (kN l)
  refine ⟨_,by rw [h,aT];rfl,?_,below_setRow (Below.refl _ _) (Nat.le_refl _) _,by simp [World.setRow]⟩;rw [setRow_heap w g _ _ t _ hg];simp [cellsOf,List.map_drop]
theorem Own.lit (w:World) (l:List UInt8) (hl:l.length≤maxLen):Own (w.alloc (.cells (cellsOf l).toArray 5)) w.heap.size (.slice (some ⟨w.heap.size,0,none⟩) l.length l.length) l:=
 jD _ (Nat.le_refl _) (heap_alloc_new w _) (aT l) hl
theorem mR:(prog.info? 5).map (fun i=>(i.zero,i.size,i.bytes))=some (some (.int .u8 0),1,1):=by kernel_rfl
theorem Own.cell {w:World} {base g cap n:Nat} {l:List UInt8} (h:Own w base (.slice (some ⟨g,0,none⟩) n cap) l) (i:Nat) (hi:i<l.length):w.cell? ⟨g,i,none⟩=some (bv l[i]):=by
 obtain ⟨h1,⟨h2,_⟩ | ⟨g',cap',cur,hv,hr⟩⟩:=id h
 ·cases h2
 ·simp only [Value.slice.injEq,Option.some.injEq,Addr.mk.injEq,and_true] at hv;obtain ⟨rfl,rfl,rfl⟩:=hv;rw [World.ownsRow.cellAt h i aJ];exact fZ l i hi
theorem Own.free (h:Own w base (.slice (some ⟨g,0,none⟩) n cap) l) (i:Nat):w.frozen? ⟨g,i,none⟩=false:=by
 obtain ⟨h1,⟨h2,_⟩ | ⟨g',cap',cur,hv,hr⟩⟩:=id h
 ·cases h2
 ·simp only [Value.slice.injEq,Option.some.injEq,Addr.mk.injEq,and_true] at hv;obtain ⟨rfl,rfl,rfl⟩:=hv;exact World.ownsRow.frozenAt h i
theorem Own.set {w:World} {base g cap n:Nat} {l:List UInt8} (h:Own w base (.slice (some ⟨g,0,none⟩) n cap) l) (i:Nat) (c:UInt8):Own (w.setCell ⟨g,i,none⟩ (bv c)) base (.slice (some ⟨g,0,none⟩) n cap) (l.set i c):=by
 obtain ⟨h1,⟨h2,_⟩ | ⟨g',cap',cur,hv,hr⟩⟩:=id h
 ·cases h2
 ·simp only [Value.slice.injEq,Option.some.injEq,Addr.mk.injEq,and_true] at hv;obtain ⟨rfl,rfl,rfl⟩:=hv;have hs:=(World.ownsRow.stored h i (bv c)).1;unfold Own;rw [List.length_set];have e:cellsOf (l.set i c)=(cellsOf l).set i (bv c):=by simp [cellsOf,List.map_set]
  rw [e];exact hs
theorem Own.form (h:Own w base v l) (hl:0<l.length):∃g cap,v=.slice (some ⟨g,0,none⟩) l.length cap∧l.length≤cap∧base≤g∧cap≤maxLen∧g<w.heap.size:=by
 have hlt:=World.ownsRow.lt h;rcases h.2 with ⟨_,h⟩ | ⟨g,cap,cur,hv,hb,hg,hn,hm,_⟩
 ·omega
 ·exact ⟨g,cap,hv,hn,hb,hm,(Array.getElem?_eq_some_iff.1 hg).1⟩
theorem rJ (w:World) (base:Nat) (v x:Value) (l m:List UInt8) (hv:Own w base v l) (hx:Bytes w x m) (hbytes:l.length+m.length≤140737488355328) (hbase:base≤w.heap.size):∃v' w',(Builtin.append_ #[132,132] 132 #[v,x]).run prog w=.ok v' w'∧Own w' base v' (l++m)∧Below base w w':=by
 obtain ⟨p,cap,rfl,_,_,hat⟩:=hx;obtain ⟨i0,hi,hz0,hz1,hz2⟩:=info_parts mR;have hlen:(l++m).length=l.length+m.length:=List.length_append;cases p with
 | none=>
  obtain rfl:m=[]:=by exact Ag
  refine ⟨v,w,?_,by simpa using hv,Below.refl _ _⟩;exact Xm
 | some a=>
  have hnews:∀j u,(cellsOf m)[j]? = some u→w.cell? (a.add j)=some u:=by exact Xn
  obtain ⟨v',w',hr,hown,hg,_⟩:=run_append_own (P:=prog) w base 132 132 5 i0 _ 1 1 underlying132 hi hz0 hz1 hz2 rfl aX v l.length (cellsOf l) hv a m.length cap (cellsOf m) Pg hnews (kN m) KZ aJ hbase;refine ⟨v',w',hr,?_,?_⟩
  ·unfold Own;rw [hlen,gq];exact hown
  ·exact IV
theorem gQ (hgd:o.guard=none) (s x:Operand) (ho:o.op=.call { callee:=.builtin .append,args:=#[s,x],argTypes:=#[132,132] }) (hty:o.type=132) (base:Nat) (v x':Value) (l m:List UInt8) (hs:a.eval s=v) (hx:a.eval x=x') (hv:Own w base v l) (hX:Bytes w x' m) (hbytes:l.length+m.length≤140737488355328) (hbase:base≤w.heap.size) (h:∀v' w',Own w' base v' (l++m)→Below base w w'→wpList prog ops Q rest (a.put o.dst v') w'):wpList prog ops Q (o::rest) a w:=wpList_plain hgd fun K hK=>by obtain ⟨v',w',hr,h1,h2⟩:=rJ w base v x' l m hv hX hbytes hbase;rw [←hty] at hr;unfold Oper.wp execOp;simp only [ho,resolve,invoke,builtin,Sem.run_bind,Sem.run_pure,Result.andThen_ok,List.map_toArray,List.map_cons,List.map_nil,hs,hx,hty];rw [hty] at hr;simp only [hr];exact hK _ _ (h v' w' h1 h2)
def cu (w:World) (l:List UInt8) (e:Ending) (w':World):Prop:=∃v,e=.returned v∧Own w' w.heap.size v l∧Below w.heap.size w w'
theorem I_ {md:Region.Mode} (i j:Nat) {oi oj:Oper} {fuel:Nat} {listed:Array Bool} {a:Act} {w:World}
  (hi:ops.toList[i]? = some oi) (hj:ops.toList[j]? = some oj) (hr:Region.ready md ops listed=[i,j]) (hwi:Region.wanted oi (yielded ops a.tmps)=true) (XC:Region.wanted oj (yielded ops a.tmps)=true)
  (h1:∀K':Act→World→Prop,Shut (∀a w,S w→wpAnyH P md ops Q S fuel (listed.setIfInBounds i true) a w→K' a w)→oi.wp P a w K' Q)
  (h2:∀K':Act→World→Prop,Shut (∀a w,S w→wpAnyH P md ops Q S fuel (listed.setIfInBounds j true) a w→K' a w)→oj.wp P a w K' Q):wpAnyH P md ops Q S (fuel+1) listed a w:=
 wpAnyH_ready hr (by simp) (AllReadyH.cons Pd (fun K hK=>by rw [if_pos hwi];exact h1 K fun a w hS hh=>hK.out a w hS fun _=>hh)
  (AllReadyH.cons (by rw [←Array.getElem?_toList];exact hj) (fun K hK=>by rw [if_pos XC];exact h2 K fun a w hS hh=>hK.out a w hS fun _=>hh) AllReadyH.nil))
def ak (w:World) (g:Nat) (xs:List Value) (t:TypeId):Prop:=w.heap[g]? = some (.cells xs.toArray t (0,0))
theorem ak.lt (h:ak w g xs t):g<w.heap.size:=(Array.getElem?_eq_some_iff.1 h).1
theorem ak.cell {w:World} {g:Nat} {xs:List Value} {t:TypeId} (h:ak w g xs t) (i:Nat) (v:Value) (hi:xs[i]? = some v):w.cell? ⟨g,i,none⟩=some v:=by unfold ak at h;simp only [World.cell?,h];simpa using hi
theorem ak.below (h:ak w g xs t) (hb:Below w.heap.size w w'):ak w' g xs t:=by unfold ak;rw [hb.block g h.lt];exact h
theorem ak.new (w:World) (xs:List Value) (t:TypeId):ak (w.alloc (.cells xs.toArray t)) w.heap.size xs t:=heap_alloc_new w _
theorem ak.free (h:ak w g xs t) (i:Nat):w.frozen? ⟨g,i,none⟩=false:=by unfold ak at h;simp [World.frozen?,h]
theorem ak.set {w:World} {g:Nat} {xs:List Value} {t:TypeId} (h:ak w g xs t) (i:Nat) (v:Value):ak (w.setCell ⟨g,i,none⟩ v) g (xs.set i v) t:=by unfold ak at h ⊢;rw [heap_setCell_same w g i _ t v h];simp
theorem ak.other (h:ak w g xs t) {k:Nat} (hk:g≠k) (i:Nat) (v:Value):ak (w.setCell ⟨k,i,none⟩ v) g xs t:=by unfold ak at h ⊢;rw [heap_setCell_other w _ g v hk];exact h
def dF (a:Vc):List Value:=[.int .i64 a.p1,.int .i64 a.qc,.int .i64 a.qa,.int .i64 a.qv,.int .i64 a.p2,.int .u64 a.gr,.int .i64 a.st,.int .u64 a.sc,.int .i64 a.sp,.int .u64 a.rc,.int .i64 a.rp]
def zeroV:Vc:=⟨0,0,0,0,0,0,0,0,0,0,0⟩
theorem wH (a:Vc):(dF a).length=11:=rfl
theorem Aj (a:Vc):∀v ∈ dF a,v.oneCell'=true:=by intro v hv;unfold dF at hv;simp only [List.mem_cons,List.mem_nil_iff,or_false] at hv;rcases hv with rfl | rfl | rfl | rfl | rfl | rfl | rfl | rfl | rfl | rfl | rfl <;> rfl
theorem wG:(prog.info? 148).map (·.size)=some 11:=by kernel_rfl
theorem ak.Ak (h:ak w g xs t):w.rangeAt g 0 xs:=fun j v hj=>by rw [Nat.zero_add];exact h.cell j v hj
theorem Lc (w:World) (g:Nat) (a:Vc) (t:TypeId) (hB:ak w g (dF a) t) :
  (Instr.loadAt 148 (.pointer (some ⟨g,0,none⟩))).run prog w=.ok (.agg (dF a).toArray) w:=
 run_loadAt_mid w g 0 _ (dF a) _ hB.Ak underlying148 rfl K5
theorem kY (x:Operand) (ho:op.op=.load 148 x) (g:Nat) (hx:a.eval x=.pointer (some ⟨g,0,none⟩)) (c:Vc) (t:TypeId) (hB:ak w g (dF c) t):(execOp a.eval op).run prog w=.ok (.value (.agg (dF c).toArray)) w:=by unfold execOp;simp only [ho,hx,Sem.run_bind,Lc w g c t hB,Result.andThen_ok,Sem.run_pure]
theorem bA (hgd:op.guard=none) (x:Operand) (ho:op.op=.load 148 x)
  (g:Nat) (hx:a.eval x=.pointer (some ⟨g,0,none⟩)) (c:Vc) (t:TypeId) (hB:ak w g (dF c) t)
  (h:wpList prog ops Q rest (a.put op.dst (.agg (dF c).toArray)) w):wpList prog ops Q (op::rest) a w:=
 wpList_load_mid hgd _ x ho g 0 hx (dF c) _ hB.Ak underlying148 rfl K5 h
theorem lQ (hgd:op.guard=none) (x y:Operand) (ho:op.op=.store 148 x y)
  (g:Nat) (c old:Vc) (t:TypeId) (hx:a.eval x=.pointer (some ⟨g,0,none⟩)) (hy:a.eval y=.agg (dF c).toArray) (hB:ak w g (dF old) t)
  (h:wpList prog ops Q rest (a.put op.dst undef) (w.setRow g (dF c).toArray)):wpList prog ops Q (op::rest) a w:=
 wpList_store_row hgd _ x y ho g (dF c).toArray hx hy t (dF old).toArray hB (by rw [wG];rfl) rfl (all_oneCell_toArray (Aj c)) h
theorem ak.Ye (h:ak w g xs t) (ys:List Value):ak (w.setRow g ys.toArray) g ys t:=by exact IX
structure Cf where
 cl:Int
 po:Int
 dm:Int
 p1:Int
 p2:Int
 qc:Int
 qa:Int
 qv:Int
 so:Bool
 la:Int
 ls:Int
 ld:Int
 tm:Int
 pe:Bool
 os:Bool
 md:Int
 kp:Int
 ki:Int
 st:Int
 ut:Int
 fl:Int
 og:Int
 tr:Bool
theorem Cf.ext' {a b:Cf} (h_cl:a.cl=b.cl) (h_po:a.po=b.po) (h_dm:a.dm=b.dm) (h_p1:a.p1=b.p1) (h_p2:a.p2=b.p2) (h_qc:a.qc=b.qc) (h_qa:a.qa=b.qa) (h_qv:a.qv=b.qv) (h_so:a.so=b.so) (h_la:a.la=b.la) (h_ls:a.ls=b.ls) (h_ld:a.ld=b.ld) (h_tm:a.tm=b.tm) (h_pe:a.pe=b.pe) (h_os:a.os=b.os) (h_md:a.md=b.md) (h_kp:a.kp=b.kp) (h_ki:a.ki=b.ki) (h_st:a.st=b.st) (h_ut:a.ut=b.ut) (h_fl:a.fl=b.fl) (h_og:a.og=b.og) (h_tr:a.tr=b.tr):a=b:=by cases a;cases b;simp only at *;simp [h_cl,h_po,h_dm,h_p1,h_p2,h_qc,h_qa,h_qv,h_so,h_la,h_ls,h_ld,h_tm,h_pe,h_os,h_md,h_kp,h_ki,h_st,h_ut,h_fl,h_og,h_tr]
def cfL (c:Cf):List Value:=[.int .u64 c.cl,.int .i64 c.po,.int .i64 c.dm,.int .i64 c.p1,.int .i64 c.p2,.int .i64 c.qc,.int .i64 c.qa,.int .i64 c.qv,.bool c.so,.int .i64 c.la,.int .i64 c.ls,.int .i64 c.ld,.int .i64 c.tm,.bool c.pe,.bool c.os,.int .i64 c.md,.int .i64 c.kp,.int .i64 c.ki,.int .i64 c.st,.int .i64 c.ut,.int .i64 c.fl,.int .i64 c.og,.bool c.tr]
theorem mU (c:Cf):(cfL c).length=23:=rfl
theorem Al (c:Cf):∀v ∈ cfL c,v.oneCell'=true:=by intro v hv;unfold cfL at hv;simp only [List.mem_cons,List.mem_nil_iff,or_false] at hv;rcases hv with rfl | rfl | rfl | rfl | rfl | rfl | rfl | rfl | rfl | rfl | rfl | rfl | rfl | rfl | rfl | rfl | rfl | rfl | rfl | rfl | rfl | rfl | rfl <;> rfl
def CQ (cl:Int):Cf:=⟨cl,1,0,128,128,248,254,65535,false,1,0,0,3,false,false,5,700,300,20000,37,8,160,false⟩
def zeroC:Cf:=⟨0,0,0,0,0,0,0,0,false,0,0,0,0,false,false,0,0,0,0,0,0,0,false⟩
def gJ (c:Cf):Prop:=
 c.cl≠0∧c.cl≠18446744073709551615∧(1≤c.po∧c.po≤8)∧(0≤c.dm∧c.dm≤127)∧(0≤c.p1∧c.p1≤255)∧(0≤c.p2∧c.p2≤255)∧(0≤c.qc∧c.qc≤255)∧(0≤c.qa∧c.qa≤255)∧(0≤c.qv∧c.qv≤65535)∧(-3≤c.la∧c.la≤4)∧(-3≤c.ls∧c.ls≤4)∧(-3≤c.ld∧c.ld≤4)∧(2≤c.tm∧c.tm≤10)∧(1≤c.md∧c.md≤15)∧(0≤c.kp∧c.kp≤2000)∧(0≤c.ki∧c.ki≤2000)∧(0≤c.st∧c.st≤1000000000)∧(-32768≤c.ut∧c.ut≤32767)∧(0≤c.fl∧c.fl≤63)∧(0≤c.og∧c.og≤255)∧(c.so=true→c.po=1∧c.qc=255)
instance (c:Cf):Decidable (gJ c):=by unfold gJ;exact inferInstance
def bP (c:Cf):Int:=if gJ c then 0 else 15
theorem pJ:(prog.info? 28).map (·.size)=some 23:=by kernel_rfl
theorem ak.Ld (h:ak w g xs t):w.rangeAt g 0 xs:=fun j v hj=>by rw [Nat.zero_add];exact h.cell j v hj
theorem tJ (hgd:op.guard=none) (x:Operand) (ho:op.op=.load 28 x)
  (g:Nat) (hx:a.eval x=.pointer (some ⟨g,0,none⟩)) (c:Cf) (t:TypeId) (hB:ak w g (cfL c) t)
  (h:wpList prog ops Q rest (a.put op.dst (.agg (cfL c).toArray)) w):wpList prog ops Q (op::rest) a w:=
 wpList_load_mid hgd _ x ho g 0 hx (cfL c) _ hB.Ld underlying28 rfl (by rw [pJ,mU]) h
theorem j_ (hw:Region.wanted op (yielded ops a.tmps)=true) (x:Operand) (ho:op.op=.load 28 x) (g:Nat) (hx:a.eval x=.pointer (some ⟨g,0,none⟩)) (c:Cf) (t:TypeId) (hB:ak w g (cfL c) t) (h:wpList prog ops Q rest (a.put op.dst (.agg (cfL c).toArray)) w):wpList prog ops Q (op::rest) a w:=wpList_step fun K hK=>by rw [if_pos hw];exact wp_load_mid _ x ho g 0 hx (cfL c) _ hB.Ld underlying28 rfl (by rw [pJ,mU]) (hK _ _ h)
theorem rM (hgd:op.guard=none) (x y:Operand) (ho:op.op=.store 28 x y)
  (g:Nat) (c old:Cf) (t:TypeId) (hx:a.eval x=.pointer (some ⟨g,0,none⟩)) (hy:a.eval y=.agg (cfL c).toArray) (hB:ak w g (cfL old) t)
  (h:wpList prog ops Q rest (a.put op.dst undef) (w.setRow g (cfL c).toArray)):wpList prog ops Q (op::rest) a w:=
 wpList_store_row hgd _ x y ho g (cfL c).toArray hx hy t (cfL old).toArray hB (by rw [pJ];rfl) rfl (all_oneCell_toArray (Al c)) h
theorem ak.rowC (h:ak w g xs t) (ys:List Value):ak (w.setRow g ys.toArray) g ys t:=by exact IX
theorem Ja (c:Cf) (w:World):(Op.equalIn 10000 28 (.agg (cfL c).toArray) (.agg (cfL c).toArray)).run prog w=.ok true w:=by unfold cfL;go_simp
def qK (x:Int):Prop:=-9223372036854775808≤x∧x≤9223372036854775807
def R8 (x:Int):Prop:=0≤x∧x<18446744073709551616
def tK (a:Vc):Prop:=qK a.p1∧qK a.qc∧qK a.qa∧qK a.qv∧qK a.p2∧R8 a.gr∧qK a.st∧R8 a.sc∧qK a.sp∧R8 a.rc∧qK a.rp
instance (x:Int):Decidable (qK x):=by unfold qK;exact inferInstance
instance (x:Int):Decidable (R8 x):=by unfold R8;exact inferInstance
instance (a:Vc):Decidable (tK a):=by unfold tK;exact inferInstance
def Am (c:Cf):Vc:=⟨c.p1,c.qc,c.qa,c.qv,c.p2,c.cl,0,c.cl,0,c.cl,0⟩
def COwn:Prop:=∀(c:Cf) (w:World),R8 c.cl →
 Calls prog 113 #[.agg (cfL c).toArray] w fun e w'=>e=.returned (.agg (dF (Am c)).toArray)∧Below w.heap.size w w'
def Yf:Prop:=∀(w:World),Calls prog 166 #[.slice none 0 0] w fun e w'=>e=.returned (.int .i64 (-1))∧Below w.heap.size w w'
section
structure RowK (α:Type) where
 enc:α→List Value
 n:Nat
 pos:0<n
 len:∀a,(enc a).length=n
 one:∀a,∀u ∈ enc a,u.oneCell'=true
variable {α:Type} (K:RowK α)
def RowK.cells (l:List α):List Value:=l.flatMap K.enc
theorem RowK.aQ (l:List α):(K.cells l).length=l.length*K.n:=by
 induction l with
 | nil=>simp [RowK.cells]
 | cons a l ih=>
  have h:(K.cells (a::l)).length=(K.enc a).length+(K.cells l).length:=by exact tF
  rw [h,ih,K.len,List.length_cons,Nat.succ_mul];omega
theorem RowK.dY (l m:List α):K.cells (l++m)=K.cells l++K.cells m:=by exact tF
theorem RowK.cells_one (l:List α):∀u ∈ K.cells l,u.oneCell'=true:=by intro u hu;unfold RowK.cells at hu;rw [List.mem_flatMap] at hu;obtain ⟨a,_,ha⟩:=hu;exact K.one a u ha
theorem RowK.lU (l:List α):∀(i j:Nat) (h:i<l.length),j<K.n→(K.cells l)[i*K.n+j]? = (K.enc l[i])[j]?:=by
 induction l with
 | nil=>intro i j h;cases h
 | cons a l ih=>
  intro i j h hj;have e:K.cells (a::l)=K.enc a++K.cells l:=by exact tF
  rw [e];cases i with
  | zero=>rw [Nat.zero_mul,Nat.zero_add,List.getElem?_append_left (by rw [K.len];exact hj)];rfl
  | succ i=>rw [List.getElem?_append_right TV,K.len];rw [show (i+1)*K.n+j - K.n=i*K.n+j by rw [Nat.succ_mul];omega];rw [ih i j Pw hj];rfl
theorem RowK.mV (l:List α):∀(m:Nat),(K.cells l).take (m*K.n)=K.cells (l.take m):=by
 induction l with
 | nil=>intro m;simp [RowK.cells]
 | cons a l ih=>
  intro m;have e:K.cells (a::l)=K.enc a++K.cells l:=by exact tF
  cases m with
  | zero=>simp [RowK.cells]
  | succ m=>
   have e2:K.cells ((a::l).take (m+1))=K.enc a++K.cells (l.take m):=by exact tF
   rw [e,e2,List.take_append,K.len,List.take_of_length_le TV];rw [show (m+1)*K.n - K.n=m*K.n by rw [Nat.succ_mul];omega,ih m]
def RowK.At (w:World) (p:Option Addr) (l:List α):Prop:=
 l=[]∨∃b off,p=some ⟨b,off,none⟩∧b<w.heap.size∧∀j v,(K.cells l)[j]? = some v→w.cell? ⟨b,off+j,none⟩=some v
def RowK.Reads (w:World) (v:Value) (l:List α):Prop:=∃p cap,v=.slice p l.length cap∧l.length≤cap∧cap≤maxLen∧K.At w p l
theorem RowK.Reads.nil (w:World):K.Reads w (.slice none 0 0) []:=⟨none,0,rfl,Nat.le_refl _,Nat.zero_le _,.inl rfl⟩
theorem RowK.At.pos {K:RowK α} {p:Option Addr} {l:List α} (h:K.At w p l) (hl:0<l.length):∃b off,p=some ⟨b,off,none⟩∧b<w.heap.size∧∀j v,(K.cells l)[j]? = some v→w.cell? ⟨b,off+j,none⟩=some v:=by exact IZ
theorem RowK.At.below {K:RowK α} {p:Option Addr} {l:List α} (h:K.At w p l) (hb:Below w.heap.size w w'):K.At w' p l:=by exact Tp
theorem RowK.Reads.below {K:RowK α} {l:List α} (h:K.Reads w v l) (hb:Below w.heap.size w w'):K.Reads w' v l:=by exact KR
theorem RowK.At.take {K:RowK α} {w:World} {p:Option Addr} {l:List α} (h:K.At w p l) (m:Nat):K.At w p (l.take m):=by
 rcases h with rfl | ⟨b,off,rfl,hlt,hc⟩
 ·exact .inl (by simp)
 ·refine .inr ⟨b,off,rfl,hlt,fun j v hj=>hc j v ?_⟩;rw [←K.mV,List.getElem?_take] at hj;split at hj
  ·exact hj
  ·cases hj
theorem RowK.At.cell {K:RowK α} {w:World} {b off:Nat} {l:List α} (h:∀j v,(K.cells l)[j]? = some v→w.cell? ⟨b,off+j,none⟩=some v) (i j:Nat) (hi:i<l.length) (hj:j<K.n) (v:Value) (hv:(K.enc l[i])[j]? = some v) :
 w.cell? ⟨b,off+(i*K.n+j),none⟩=some v:=h _ _ (by rw [K.lU l i j hi hj];exact hv)
def RowK.Own (t:TypeId) (w:World) (base:Nat) (v:Value) (l:List α):Prop:=w.ownsRow base t K.n v l.length (K.cells l)
theorem RowK.Own.nil (t:TypeId) (w:World) (base:Nat):K.Own t w base (.slice none 0 0) []:=World.ownsRow_nil w base _ _
theorem RowK.Own.reads {K:RowK α} {l:List α} (h:K.Own t w base v l):K.Reads w v l:=by
 rcases id h with ⟨_,⟨rfl,hn⟩ | ⟨g,cap,cur,rfl,_,hg,h3,h4,h5,h6⟩⟩
 ·obtain rfl:l=[]:=List.eq_nil_of_length_eq_zero hn;exact RowK.Reads.nil K w
 ·refine ⟨_,_,rfl,h3,h4,.inr ⟨g,0,rfl,(Array.getElem?_eq_some_iff.1 hg).1,fun j v hj=>?_⟩⟩;have hjl:j<l.length*K.n:=by have:=(List.getElem?_eq_some_iff.1 hj).1;rwa [K.aQ] at this
  exact XG
theorem RowK.append {tS tE:TypeId} {z:Value} (hu:prog.underlying tS=some (.slice tE)) (hinfo:(prog.info? tE).map (fun i=>(i.zero,i.size,i.bytes))=some (some z,K.n,B)) (hzl:z.cells.size=K.n) (w:World) (base:Nat) (v x:Value) (l m:List α) (hv:K.Own tE w base v l) (hx:K.Reads w x m) (hbytes:(l.length+m.length)*B≤140737488355328) (qy:l.length+m.length≤140737488355328) (hbase:base≤w.heap.size):∃v' w',(Builtin.append_ #[tS,tS] tS #[v,x]).run prog w=.ok v' w'∧K.Own tE w' base v' (l++m)∧Below base w w':=by
 obtain ⟨p,cap,rfl,_,_,hat⟩:=hx;obtain ⟨i0,hi,hz0,hz1,hz2⟩:=info_parts hinfo;have hlen:(l++m).length=l.length+m.length:=List.length_append;cases p with
 | none=>
  obtain rfl:m=[]:=by exact Ag
  exact TL
 | some a=>
  have hnews:∀j u,(K.cells m)[j]? = some u→w.cell? (a.add j)=some u:=by exact Tn
  obtain ⟨v',w',hr,hown,hg,_⟩:=run_append_own (P:=prog) w base tS tS tE i0 _ K.n B hu hi hz0 hz1 hz2 hzl K.pos v l.length (K.cells l) hv a m.length cap (K.cells m) (K.aQ m) hnews (K.cells_one m) KZ hbytes hbase;refine ⟨v',w',hr,?_,?_⟩
  ·unfold RowK.Own;rw [hlen,K.dY];exact hown
  ·exact IV
theorem RowK.Jb (l:List α):∀(i j:Nat) (h:i<l.length) (u:Value) (a':α),j<K.n→(K.enc l[i]).set j u=K.enc a'→(K.cells l).set (i*K.n+j) u=K.cells (l.set i a'):=by
 induction l with
 | nil=>intro i j h;cases h
 | cons a l ih=>
  intro i j h u a' hj he;have e:K.cells (a::l)=K.enc a++K.cells l:=by exact tF
  cases i with
  | zero=>
   have e2:K.cells ((a::l).set 0 a')=K.enc a'++K.cells l:=by exact tF
   rw [e,e2,Nat.zero_mul,Nat.zero_add,List.set_append_left _ _ (by rw [K.len];exact hj)];rw [←he];rfl
  | succ i=>
   have e2:K.cells ((a::l).set (i+1) a')=K.enc a++K.cells (l.set i a'):=by exact tF
   rw [e,e2,List.set_append_right _ _ TV,K.len];rw [show (i+1)*K.n+j - K.n=i*K.n+j by rw [Nat.succ_mul];omega];rw [ih i j Pw u a' hj (by simpa using he)]
theorem RowK.Own.form {K:RowK α} {l:List α} (h:K.Own t w base v l) (hl:0<l.length):∃g cap,v=.slice (some ⟨g,0,none⟩) l.length cap∧base≤g∧g<w.heap.size∧l.length≤cap∧cap≤maxLen:=by
 rcases id h with ⟨_,⟨rfl,hn⟩ | ⟨g,cap,cur,rfl,hb,hg,h3,h4,h5,h6⟩⟩
 ·omega
 ·exact ⟨g,cap,rfl,hb,(Array.getElem?_eq_some_iff.1 hg).1,h3,h4⟩
theorem RowK.Own.cell {K:RowK α} {t:TypeId} {w:World} {base g cap:Nat} {l:List α} (h:K.Own t w base (.slice (some ⟨g,0,none⟩) l.length cap) l) (i j:Nat) (hi:i<l.length) (hj:j<K.n) (v:Value) (hv:(K.enc l[i])[j]? = some v):w.cell? ⟨g,i*K.n+j,none⟩=some v:=by
 have hlt:i*K.n+j<l.length*K.n:=by have:(i+1)*K.n≤l.length*K.n:=Nat.mul_le_mul_right _ hi;rw [Nat.succ_mul] at this;omega
 rw [World.ownsRow.cellAt h _ hlt,K.lU l i j hi hj];exact hv
theorem RowK.Own.range {K:RowK α} {l:List α} (h:K.Own t w base (.slice (some ⟨g,0,none⟩) l.length cap) l) (i:Nat) (hi:i<l.length):w.rangeAt g (i*K.n) (K.enc l[i]):=fun j v hj=>
 h.cell i j hi (by have:=(List.getElem?_eq_some_iff.1 hj).1;rwa [K.len] at this) v hj
theorem RowK.Own.free {K:RowK α} {l:List α} (h:K.Own t w base (.slice (some ⟨g,0,none⟩) l.length cap) l) (k:Nat):w.frozen? ⟨g,k,none⟩=false:=World.ownsRow.frozenAt h k
theorem RowK.Own.put {K:RowK α} {l:List α} (h:K.Own t w base (.slice (some ⟨g,0,none⟩) l.length cap) l) (i j:Nat) (hi:i<l.length) (hj:j<K.n) (u:Value) (a':α) (he:(K.enc l[i]).set j u=K.enc a'):K.Own t (w.setCell ⟨g,i*K.n+j,none⟩ u) base (.slice (some ⟨g,0,none⟩) l.length cap) (l.set i a'):=by have hs:=(World.ownsRow.stored h (i*K.n+j) u).1;unfold RowK.Own;rw [List.length_set,←K.Jb l i j hi u a' hj he];exact hs
theorem RowK.Own.below {K:RowK α} {l:List α} (h:K.Own t w base v l) (hb:Below w.heap.size w w'):K.Own t w' base v l:=by
 rcases id h with ⟨h0,⟨rfl,hn⟩ | ⟨g,cap,cur,rfl,hbg,hg,r⟩⟩
 ·exact CK
 ·exact ⟨h0,.inr ⟨g,cap,cur,rfl,hbg,by rw [hb.block g (Array.getElem?_eq_some_iff.1 hg).1];exact hg,r⟩⟩
theorem RowK.kZ {tS tE:TypeId} {z:Value} (hu:prog.underlying tS=some (.slice tE)) (hinfo:(prog.info? tE).map (fun i=>(i.zero,i.size,i.bytes))=some (some z,K.n,B)) (hzl:z.cells.size=K.n) {w:World} {ops:Array Oper} {rest:List Oper} {o:Oper} {a:Act} {Q:Exit→Act→World→Prop} (hgd:o.guard=none) (s x:Operand) (ho:o.op=.call { callee:=.builtin .append,args:=#[s,x],argTypes:=#[tS,tS] }) (hty:o.type=tS) (base:Nat) (v x':Value) (l m:List α) (hs:a.eval s=v) (hx:a.eval x=x') (hv:K.Own tE w base v l) (hX:K.Reads w x' m) (hbytes:(l.length+m.length)*B≤140737488355328) (qy:l.length+m.length≤140737488355328) (hbase:base≤w.heap.size) (h:∀v' w',K.Own tE w' base v' (l++m)→Below base w w'→wpList prog ops Q rest (a.put o.dst v') w'):wpList prog ops Q (o::rest) a w:=wpList_plain hgd fun K' hK=>by obtain ⟨v',w',hr,h1,h2⟩:=K.append hu hinfo hzl w base v x' l m hv hX hbytes qy hbase;unfold Oper.wp execOp;simp only [ho,resolve,invoke,builtin,Sem.run_bind,Sem.run_pure,Result.andThen_ok,List.map_toArray,List.map_cons,List.map_nil,hs,hx,hty];simp only [hr];exact hK _ _ (h v' w' h1 h2)
end
def kg:RowK Vc:=⟨dF,11,by decide,wH,Aj⟩
theorem CR:(prog.info? 148).map (fun i=>(i.zero,i.size,i.bytes))=some (some (.agg (dF zeroV).toArray),kg.n,88):=by kernel_rfl
abbrev G6 (c p:Int):Value:=.agg #[.int .u64 c,.int .i64 p]
def nW (a a' b b':Int):Int:=if a=b then bQ a' b' else bQ a b
theorem Jc {a a' b b':Int} (h:a=b):nW a a' b b'=bQ a' b':=if_pos h
theorem EI {a a' b b':Int} (h:a≠b):nW a a' b b'=bQ a b:=if_neg h
def tH (p:Int):Bool:=decide (0≤p∧p≤65535)
def Uc (t t' p p':Int):Bool:=(decide (t=18446744073709551615) || decide (t=p)) && (decide (t'=65535) || decide (t'=p'))
theorem iL (c p:Int) (w:World):Calls prog 199 #[G6 c p] w fun e w'=>e=.returned (.bool (tH p))∧Below w.heap.size w w':=by
 by_cases h:0≤p
 ·go_enter func199,ntmps199;go_wp2;go_ret;exact ⟨dH XL,aA _ _⟩
 ·go_enter func199,ntmps199;go_wp2;go_ret;exact ⟨dH XL,aA _ _⟩
theorem qz (w:World) (o o':Obj):Below w.heap.size w ((w.alloc o).alloc o'):=(aA w o).alloc (aA w o).size _
theorem uP (a a' b b':Int) (w:World):Calls prog 243 #[G6 a a',G6 b b'] w fun e w'=>e=.returned (.int .i64 (nW a a' b b'))∧Below w.heap.size w w':=by
 by_cases h1:a=b
 ·subst h1;rw [Jc rfl];by_cases h2:a'=b'
  ·subst h2;rw [Ai rfl];go_enter func243,ntmps243;go_wp2;go_ret;exact ⟨rfl,qz _ _ _⟩
  ·go_enter func243,ntmps243;go_wp2_with fail;refine (h_ _ _ _).mono ?_;rintro e w' ⟨rfl,rfl⟩;go_wp2_with fail;go_ret;exact ⟨rfl,qz _ _ _⟩
 ·rw [EI h1];go_enter func243,ntmps243;go_wp2_with fail;refine (rD _ _ _).mono ?_;rintro e w' ⟨rfl,rfl⟩;go_wp2_with fail;go_ret;exact ⟨rfl,qz _ _ _⟩
def dW (t:Int):Bool:=decide (0≤t∧t≤3∨8≤t∧t≤13)
def ctl (t:Int):Int:=if t=0 then 0 else if t=1 then 1 else if t=8 then 2 else if t=9 then 3 else if t=13 then 4 else if dW t then 5 else 0
theorem wO {t:Int} (h:dW t=true):t=0∨t=1∨t=2∨t=3∨t=8∨t=9∨t=10∨t=11∨t=12∨t=13:=by unfold dW at h;rw [decide_eq_true_eq] at h;omega
theorem CS {t:Int} (h:dW t=false):ctl t=0∧(t == 0)=false∧(t == 1)=false∧(t == 2)=false∧(t == 3)=false∧(t == 8)=false∧(t == 9)=false∧(t == 10)=false∧(t == 11)=false∧(t == 12)=false∧(t == 13)=false:=by
 have hc:ctl t=0:=by
  unfold ctl;rw [h];unfold dW at h;rw [decide_eq_false_iff_not] at h;repeat' split
  all_goals first | rfl | omega | contradiction
 unfold dW at h;rw [decide_eq_false_iff_not] at h;refine ⟨hc,?_,?_,?_,?_,?_,?_,?_,?_,?_,?_⟩ <;> (rw [beq_eq_false_iff_ne];omega)
theorem uQ (t:Int) (w:World):Calls prog 149 #[.int .i64 t] w fun e w'=>e=.returned (.tuple #[.int .i64 (ctl t),.bool (dW t)])∧w=w':=by
 cases h:dW t
 ·obtain ⟨hc,h0,h1,h2,h3,h8,h9,h10,h11,h12,iW⟩:=CS h;rw [hc];clear h hc;go_enter func149,ntmps149;go_wp2;go_ret2;exact ⟨rfl,rfl⟩
 ·rcases wO h with rfl | rfl | rfl | rfl | rfl | rfl | rfl | rfl | rfl | rfl
  all_goals
   clear h
   go_enter func149,ntmps149
   go_wp2
   go_ret2
   exact ⟨rfl,rfl⟩
theorem jd (t:Int) (w:World):Calls prog 151 #[.int .i64 t] w fun e w'=>e=.returned (.bool (dW t))∧w=w':=by go_enter func151,ntmps151;go_wp2_with fail;refine (uQ t _).mono ?_;exact yG
def fV (x a b:Int):Bool:=decide (a≤x∧x≤b)
theorem fF (x:Int) (w:World):Calls prog 207 #[.int .i64 x,.int .i64 1] w fun e w'=>e=.returned (.bool (fV x 0 255))∧w=w':=by
 by_cases h0:0≤x
 ·have e:fV x 0 255=decide (x<256):=by exact KS
  rw [e];clear e;go_enter func207,ntmps207;exact vw
 ·rw [show fV x 0 255=false by unfold fV;rw [decide_eq_false_iff_not];omega];go_enter func207,ntmps207;exact vw
theorem dO (x:Int) (w:World):Calls prog 207 #[.int .i64 x,.int .i64 2] w fun e w'=>e=.returned (.bool (fV x 0 65535))∧w=w':=by
 by_cases h0:0≤x
 ·have e:fV x 0 65535=decide (x<65536):=by exact KS
  rw [e];clear e;go_enter func207,ntmps207;exact vw
 ·rw [show fV x 0 65535=false by unfold fV;rw [decide_eq_false_iff_not];omega];go_enter func207,ntmps207;exact vw
theorem wP (x:Int) (w:World):Calls prog 148 #[.int .i64 x] w fun e w'=>e=.returned (.bool (fV x 34 400))∧w=w':=by
 by_cases h0:34≤x
 ·have e:fV x 34 400=decide (x≤400):=by exact KS
  rw [e];clear e;go_enter func148,ntmps148;exact vw
 ·rw [show fV x 34 400=false by unfold fV;rw [decide_eq_false_iff_not];omega];go_enter func148,ntmps148;exact vw
end Go.Proofs.YtofhdhgfcomhiaaGreat
