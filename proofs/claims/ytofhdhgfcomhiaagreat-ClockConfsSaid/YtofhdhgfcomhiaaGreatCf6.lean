/- Of what laws of the clock want, part 6: Med Cut Srv Por Identb Qualb Qualc Mgm Msg2 Stampb Body Msg3 AppZ (mini.py). -/
import Derived.Test.YtofhdhgfcomhiaaGreatCf5
namespace Go.Proofs.YtofhdhgfcomhiaaGreat
open Go.RowKit Go.Proofs
set_option maxRecDepth 100000
set_option maxHeartbeats 100000000
set_option linter.unusedVariables false
set_option linter.unusedSimpArgs false
open Tryz
variable {B:Nat} {P:Program} {Q:Exit→Act→World→Prop} {S:World→Prop} {a:Act} {b:Nat} {base:Nat} {cap:Nat} {fuel:Nat} {g:Nat} {h:Nat} {i:Nat} {l:List UInt8} {listed:Array Bool} {n:Nat} {now:Int} {o:Oper} {oi:Oper} {op:Oper} {ops:Array Oper} {p:Prop} {rest:List Oper} {t:TypeId} {v:Value} {w:World} {w':World} {xs:List Value} {α:Type}
def qA (l:List Int) (m:Int):Prop:=m ∈ l∧l.countP (fun x=>decide (x<m))≤(l.length - 1) / 2∧(l.length - 1) / 2<l.countP (fun x=>decide (x≤m))
theorem qA.perm {l s:List Int} {m:Int} (hp:l.Perm s) (h:qA l m):qA s m:=by
 refine ⟨hp.mem_iff.1 h.1,?_,?_⟩
 ·rw [←hp.countP_eq,←hp.length_eq];exact h.2.1
 ·rw [←hp.countP_eq,←hp.length_eq];exact h.2.2
theorem AA {s:List Int} (hs:s.Pairwise (· ≤ ·)) (hl:0<s.length):qA s (s.getD ((s.length - 1) / 2) 0):=by
 obtain ⟨k,hk⟩:∃k,(s.length - 1) / 2=k:=⟨_,rfl⟩;have hkl:k<s.length:=by omega
 have hg:s.getD k 0=s[k]:=by rw [List.getD_eq_getElem?_getD,List.getElem?_eq_getElem hkl];rfl
 have hlo:∀(i:Nat) (hi:i<s.length),i≤k→s[i]≤s[k]:=fun i hi hik=>by
  rcases Nat.lt_or_ge i k with h | h
  ·exact List.pairwise_iff_getElem.1 hs i k hi hkl h
  ·obtain rfl:i=k:=by omega
   exact Int.le_refl _
 have hhi:∀(i:Nat) (hi:i<s.length),k≤i→s[k]≤s[i]:=fun i hi hik=>by
  rcases Nat.lt_or_ge k i with h | h
  ·exact List.pairwise_iff_getElem.1 hs k i hkl hi h
  ·obtain rfl:i=k:=by omega
   exact Int.le_refl _
 unfold qA;rw [hk,hg];refine ⟨List.getElem_mem hkl,?_,?_⟩
 ·have e:s=s.take k++s.drop k:=(List.take_append_drop k s).symm;have z:(s.drop k).countP (fun x=>decide (x<s[k]))=0:=List.countP_eq_zero.2 fun x hx=>by obtain ⟨i,hi,rfl⟩:=List.mem_iff_getElem.1 hx;rw [List.getElem_drop];have:=hhi (k+i) (by rw [List.length_drop] at hi;omega) aJ;simp only [decide_eq_true_eq];omega
  have h1:(s.take k).countP (fun x=>decide (x<s[k]))≤(s.take k).length:=List.countP_le_length;rw [List.length_take] at h1;have h2:s.countP (fun x=>decide (x<s[k]))=(s.take k).countP (fun x=>decide (x<s[k]))+(s.drop k).countP (fun x=>decide (x<s[k])):=by rw [←List.countP_append,List.take_append_drop]
  omega
 ·have z:(s.take (k+1)).countP (fun x=>decide (x≤s[k]))=(s.take (k+1)).length:=List.countP_eq_length.2 fun x hx=>by obtain ⟨i,hi,rfl⟩:=List.mem_iff_getElem.1 hx;rw [List.getElem_take];rw [List.length_take] at hi;exact decide_eq_true (hlo i aJ aJ)
  rw [List.length_take] at z;have h2:s.countP (fun x=>decide (x≤s[k]))=(s.take (k+1)).countP (fun x=>decide (x≤s[k]))+(s.drop (k+1)).countP (fun x=>decide (x≤s[k])):=by rw [←List.countP_append,List.take_append_drop]
  omega
def AB (n:Nat) (l:List Int) (v:Int):List Int:=if n<l.length+1 then (l++[v]).drop 1 else l++[v]
theorem Hw (n:Nat) (h:1≤n) (l:List Int) (v:Int) (hl:l.length≤n):0<(AB n l v).length∧(AB n l v).length≤n:=by
 unfold AB;split
 ·rw [List.length_drop,List.length_append,List.length_singleton];omega
 ·rw [List.length_append,List.length_singleton];omega
instance (l:List Int) (m:Int):Decidable (qA l m):=by unfold qA;exact inferInstance
def LK (l:List Int) (m:Int):Prop:=if 0<l.length then qA l m else m=0
theorem LK.is {l:List Int} {a:Int} (ha:LK l a) (h:0<l.length):qA l a:=by unfold LK at ha;rwa [if_pos h] at ha
def lq (x:Int):Nat:=if x<1 then 1 else if 15<x then 15 else x.toNat
theorem zC (x:Int):1≤lq x∧lq x≤15:=by
 unfold lq;split
 ·omega
 ·split <;> omega
def LM (s:Nat×List Int):Prop:=1≤s.1∧s.1≤15∧s.2.length≤s.1
theorem LM.put {s:Nat×List Int} (h:LM s) (v:Int):LM (s.1,AB s.1 s.2 v):=⟨h.1,h.2.1,(Hw s.1 h.1 s.2 v h.2.2).2⟩
theorem LM.new (x:Int):LM (lq x,[]):=⟨(zC x).1,(zC x).2,Nat.zero_le _⟩
def YK (R:List Value→Nat×List Int→Prop):Prop:=∀(n:Int) (w:World),
 Calls prog 58 #[.int .i64 n] w fun e w'=>∃g,e=.returned (.pointer (some ⟨g,0,none⟩))∧w.heap.size≤g∧bY 195 R w' g (lq n,[])∧Below w.heap.size w w'
def YL (R:List Value→Nat×List Int→Prop):Prop:=∀(g n:Nat) (l:List Int) (w:World),bY 195 R w g (n,l)→LM (n,l) →
 Calls prog 171 #[.pointer (some ⟨g,0,none⟩)] w fun e w'=>e=.returned (.tuple #[])∧bY 195 R w' g (n,[])∧Only g w w'
def ng (v a b:Int):Int:=min (max v a) b
theorem kr {v a b:Int} (h:a≤b):a≤ng v a b∧ng v a b≤b:=by unfold ng;omega
section
structure Sv where
 kp:Int
 ki:Int
 sp:Int
 st:Int
 fq:Int
 dr:Int
 cm:Int
def uV (kp ki sp:Int):Sv:=⟨ng kp 0 2000,ng ki 0 2000,ng sp 0 1000000000,0,0,0,0⟩
def EU (s:Sv):Prop:=(0≤s.kp∧s.kp≤2000)∧(0≤s.ki∧s.ki≤2000)∧(0≤s.sp∧s.sp≤1000000000)∧(0≤s.st∧s.st≤2)∧(-512000≤s.fq∧s.fq≤512000)∧(-512000≤s.dr∧s.dr≤512000)∧(0≤s.cm∧s.cm≤4611686018427387904)
theorem LQ (kp ki sp:Int):EU (uV kp ki sp):=by have h1:=kr (v:=kp) (a:=0) (b:=2000) aX;have h2:=kr (v:=ki) (a:=0) (b:=2000) aX;have h3:=kr (v:=sp) (a:=0) (b:=1000000000) aX;exact ⟨h1,h2,h3,by show (0:Int)≤0∧(0:Int)≤2;decide,by show (-512000:Int)≤0∧(0:Int)≤512000;decide,by show (-512000:Int)≤0∧(0:Int)≤512000;decide,by show (0:Int)≤0∧(0:Int)≤4611686018427387904;decide⟩
def Sj (o:Int):Int:=ng o (-4000000000000000) 4000000000000000
def icV (i:Int):Int:=ng i 1 16000000000
def LU (s:Sv) (o:Int):Bool:=s.st == 0 || s.sp == 0 || decide (s.sp<Sj o) || decide (Sj o < -s.sp)
def rtV (o i:Int):Int:=ng ((Sj o*1000000000).tdiv (icV i)) (-512000000) 512000000
def ndV (s:Sv) (o i:Int):Int:=ng (s.dr+(s.ki*rtV o i).tdiv 1000) (-512000) 512000
def Sk (s:Sv) (o i:Int):Int:=-((s.kp*rtV o i).tdiv 1000) - ndV s o i
def frV (s:Sv) (o i:Int):Int:=if LU s o then s.fq else ng (Sk s o i) (-512000) 512000
def byV (s:Sv) (o:Int):Int:=if LU s o then -Sj o else 0
def Uu (o:Int):Bool:=decide (-100≤Sj o∧Sj o≤100)
def grB (o:Int):Bool:=decide (1000<Sj o∨Sj o < -1000)
def PN (s:Sv) (o i:Int):Sv:=if LU s o then { s with st:=1,cm:=0 } else
 { s with fq:=ng (Sk s o i) (-512000) 512000,dr:=if Sk s o i < -512000∨512000<Sk s o i then s.dr else ndV s o i,cm:=if Uu o then s.cm+1 else 0,st:=if grB o then 1 else if Uu o∧3≤s.cm+1 then 2 else s.st }
section
variable {s:Sv} {o i:Int}
theorem Uv (h:EU s) (hc:s.cm<4611686018427387904):EU (PN s o i):=by
 obtain ⟨h1,h2,h3,h4,h5,h6,h7⟩:=h;unfold PN;cases LU s o
 ·refine ⟨h1,h2,h3,?_,kr aX,?_,?_⟩
  ·show 0≤(if grB o then (1:Int) else if Uu o∧3≤s.cm+1 then 2 else s.st)∧(if grB o then (1:Int) else if Uu o∧3≤s.cm+1 then 2 else s.st)≤2;split
   ·decide
   ·split
    ·decide
    ·exact h4
  ·show -512000≤(if Sk s o i < -512000∨512000<Sk s o i then s.dr else ndV s o i)∧(if Sk s o i < -512000∨512000<Sk s o i then s.dr else ndV s o i)≤512000;split
   ·exact h6
   ·exact kr aX
  ·show 0≤(if Uu o then s.cm+1 else 0)∧(if Uu o then s.cm+1 else 0)≤4611686018427387904;split <;> omega
 ·exact ⟨h1,h2,h3,by show (0:Int)≤1∧(1:Int)≤2;decide,h5,h6,by show (0:Int)≤0∧(0:Int)≤4611686018427387904;decide⟩
end
abbrev Dh (R:List Value→Sv→Prop) (w:World) (g:Nat) (s:Sv):Prop:=bY 190 R w g s
def YM (R:List Value→Sv→Prop):Prop:=∀(kp ki sp:Int) (w:World),
 Calls prog 57 #[.int .i64 kp,.int .i64 ki,.int .i64 sp] w fun e w'=>∃g,e=.returned (.pointer (some ⟨g,0,none⟩))∧w.heap.size≤g∧Dh R w' g (uV kp ki sp)∧Below w.heap.size w w'
def YN (R:List Value→Sv→Prop):Prop:=∀(g:Nat) (s:Sv) (w:World),Dh R w g s→Calls prog 51 #[.pointer (some ⟨g,0,none⟩)] w fun e w'=>e=.returned (.int .i64 s.fq)∧Below w.heap.size w w'
end
def dD (s:Int):Bool:=decide (4≤s) && decide (s≤9)
def dL (s:Int):Bool:=(s == 4) || (decide (7≤s) && decide (s≤9))
def oh (s:Int):Bool:=(s == 8) || (s == 9)
def dR (s e:Int) (so:Bool):Int:=
 if e=1 then (if s=1 then 4 else s) else if e=2 then (if s=3 then s else 2) else if e=3 then (if s=2 then 1 else s)
 else if e=4 then (if dL s then (if so then 4 else 6) else s) else if e=5 then (if s=5 then 6 else s) else if e=6 then (if s=8 then 9 else s)
 else if e=7 then 3 else if e=8 then (if s=3 then 1 else s) else s
def dz (s d:Int) (same so:Bool):Int:=
 if dD s=false then s else if d<1 then s else if 6<d then s else if so=true∧d≠6 then 4 else if d=1 then 6 else if d=2 then 6
 else if d=3 then (if s=6 then s else 5) else if d=4 then 7 else if d=5 then 7 else if same=true∧oh s=true then s else 8
def gG (c p:Int):List UInt8:=iJ c.toNat 8++aj p 2
theorem jL (c p:Int):(gG c p).length=10:=by unfold gG;rw [List.length_append,dN,aC _ 2 aX aX];rfl
theorem box2 (w:World) (x y:Value) (t:TypeId):(∀wx,Below (w.alloc (Obj.cells #[x,y] t)).heap.size (w.alloc (Obj.cells #[x,y] t)) wx→wx.cell? ⟨w.heap.size,0,none⟩=some x)∧(∀wx,Below (w.alloc (Obj.cells #[x,y] t)).heap.size (w.alloc (Obj.cells #[x,y] t)) wx→wx.cell? ⟨w.heap.size,1,none⟩=some y):=by constructor <;> intro wx h <;> rw [h.cell (by simp)] <;> simp only [World.cell?] <;> rw [heap_alloc_new] <;> rfl
theorem jM (v:Value) (l:List UInt8) (c p:Int) (w:World) (hB:Bytes w v l) (hl:l.length≤140737488355318) (hc:0≤c):Calls prog 150 #[v,G6 c p] w (cu w (l++gG c p)):=by
 have HB:=hid fun (w':World) (h:Below w.heap.size w w')=>hB.below h;clear hB;go_enter func150,ntmps150;go_wp2_with fail;have hBW:=HB.out _ (aA w (Obj.cells #[Value.int IntKind.u64 c,Value.int IntKind.i64 p] 54));obtain ⟨hX,hY⟩:=box2 w (Value.int IntKind.u64 c) (Value.int IntKind.i64 p) 54;have HX:=hid hX;have HY:=hid hY;have hbw:=aA w (Obj.cells #[Value.int IntKind.u64 c,Value.int IntKind.i64 p] 54);clear hX hY HB;generalize (w.alloc (Obj.cells #[Value.int IntKind.u64 c,Value.int IntKind.i64 p] 54))=W at *;refine wp_region_held_drew (S:=fun w'=>Below W.drew.heap.size W.drew w') aW (Below.refl _ _) ?_;intro hHeld;have hbW:=Below.drew (Below.refl W.heap.size W);generalize W.drew=wd at *;have hcX:=fun wx h=>HX.out wx (ah hbW h);have hcY:=fun wx h=>HY.out wx (ah hbW h);refine tk [0,1,2,4,5] hHeld ?_;refine aR 3 fun K hK=>?_;go_simp;refine (tO _ l _ _ (hBW.below hbW) aJ hc).mono ?_;rintro e wx3 ⟨x3,rfl,qQ,hbel⟩;have hst3:=qQ.bytes.strs;refine hK.out _ _ hbel ?_;clear hK K;refine f_ (S':=fun w'=>Below wx3.heap.size wx3 w') (fun w' h=>ah hbel h) _ _ _ _ ?_;have hH:=Below.refl wx3.heap.size wx3;have hW:=ah hbW hbel;clear hbel hbW hHeld;have hHeld:=hH;have hbW:=hW;clear hH hW;have hsz3:=hbW.size;replace hcX:=fun wx h=>HX.out wx (ah hbW h);replace hcY:=fun wx h=>HY.out wx (ah hbW h);try simp only [Act.put,zI,bG,zS]
 refine aR 6 fun K hK=>?_;go_simp;refine (bI _ (l++iJ c.toNat 8) _ _ _ qQ.bytes (by rw [List.length_append,dN];omega)).mono ?_;rintro e wx6 ⟨x6,rfl,EW,hbel⟩;have hst6:=EW.bytes.strs;refine hK.out _ _ hbel ?_;clear hK K;refine f_ (S':=fun w'=>Below wx6.heap.size wx6 w') (fun w' h=>ah hbel h) _ _ _ _ ?_;have hH:=Below.refl wx6.heap.size wx6;have hW:=ah hbW hbel;clear hbel hbW hHeld;have hHeld:=hH;have hbW:=hW;clear hH hW;have hsz6:=hbW.size;replace hcX:=fun wx h=>HX.out wx (ah hbW h);replace hcY:=fun wx h=>HY.out wx (ah hbW h);try simp only [Act.put,zI,bG,zS]
 refine tk [7] hHeld ?_;refine wpAnyH_done aW ?_ _;go_wp2_with fail;go_ret;refine ⟨x6,rfl,?_,ah hbw hbW⟩;unfold gG;rw [←List.append_assoc];exact EW.mono (Nat.le_trans hbw.size hsz3)
theorem zD (w:World) (cs:Array Value) (t:TypeId) (i:Nat) (v:Value) (h:cs[i]? = some v):∀wx,Below (w.alloc (Obj.cells cs t)).heap.size (w.alloc (Obj.cells cs t)) wx→wx.cell? ⟨w.heap.size,i,none⟩=some v:=by intro wx hb;rw [hb.cell (by simp)];simp only [World.cell?];rw [heap_alloc_new];exact h
abbrev EX (c a v:Int):Obj:=Obj.cells #[.int .i64 c,.int .i64 a,.int .i64 v] 24
theorem LV (w:World) (c a v:Int):∃W,W=w.alloc (EX c a v)∧Below w.heap.size w W ∧
  Hid (∀wx,Below W.heap.size W wx→wx.cell? ⟨w.heap.size,0,none⟩=some (.int .i64 c))∧Hid (∀wx,Below W.heap.size W wx→wx.cell? ⟨w.heap.size,1,none⟩=some (.int .i64 a)) ∧
  Hid (∀wx,Below W.heap.size W wx→wx.cell? ⟨w.heap.size,2,none⟩=some (.int .i64 v)):=
 ⟨_,rfl,aA _ _,hid (zD _ _ _ 0 _ rfl),hid (zD _ _ _ 1 _ rfl),hid (zD _ _ _ 2 _ rfl)⟩
theorem YO (w:World) (c a v c' a' v':Int):∃W,W=(w.alloc (EX c a v)).alloc (EX c' a' v')∧Below w.heap.size w W∧Hid (∀wx,Below W.heap.size W wx→wx.cell? ⟨w.heap.size,0,none⟩=some (.int .i64 c))∧Hid (∀wx,Below W.heap.size W wx→wx.cell? ⟨w.heap.size,1,none⟩=some (.int .i64 a))∧Hid (∀wx,Below W.heap.size W wx→wx.cell? ⟨w.heap.size,2,none⟩=some (.int .i64 v))∧Hid (∀wx,Below W.heap.size W wx→wx.cell? ⟨w.heap.size+1,0,none⟩=some (.int .i64 c'))∧Hid (∀wx,Below W.heap.size W wx→wx.cell? ⟨w.heap.size+1,1,none⟩=some (.int .i64 a'))∧Hid (∀wx,Below W.heap.size W wx→wx.cell? ⟨w.heap.size+1,2,none⟩=some (.int .i64 v')):=by
 obtain ⟨W,hW,hb,h0,h1,h2⟩:=LV w c a v;have hs:W.heap.size=w.heap.size+1:=by rw [hW];simp
 obtain ⟨W',hW',hb',h3,h4,h5⟩:=LV W c' a' v';rw [hs] at h3 h4 h5;subst hW hW';exact ⟨_,rfl,ah hb hb',hid fun wx h=>h0.out wx (ah hb' h),hid fun wx h=>h1.out wx (ah hb' h),hid fun wx h=>h2.out wx (ah hb' h),h3,h4,h5⟩
theorem PO (v:Value) (zs:List Int) (w:World) (hI:Ints w v zs):Calls prog 271 #[v] w fun e w'=>e=.returned (.int .i64 (KE zs))∧w=w':=by
 obtain ⟨p,cap,rfl,hcap,hmax,hat⟩:=hI;have HAT:=hid fun h=>hat.pos h;have HO:=hid (Lg zs);have HE:=hid (show KE (zs.drop zs.length)=0 by rw [List.drop_length];rfl);have h0:KE zs=KE (zs.drop 0):=rfl;have H0:=hid h0;unfold maxLen at hmax;clear hat h0;go_enter func271,ntmps271;go_wp2_with fail;go_loop [8] (fun i=>∃k:Nat,k≤zs.length∧i=.int .i64 k∧Hid (KE zs=KE (zs.drop k))) (fun i=>zs.length - (intOf i).toNat);case atStart=>exact ⟨0,Nat.zero_le _,rfl,H0⟩
 case round=>
  obtain ⟨k,hk,rfl,hX⟩:=hrel;by_cases hlt:k<zs.length
  ·obtain ⟨b,off,rfl,hbl,hc⟩:=HAT.out aJ;have hcell:=hc k hlt;have hO:=HO.out k hlt;clear hc;by_cases hz:zs[k]=0
   ·rw [if_pos hz] at hO;have HN:=hid (hX.out.trans hO);rw [hz] at hcell;clear hO hz;exact XJ
   ·rw [if_neg hz] at hO;have HN:=hid (hX.out.trans hO);generalize zs[k]=z at *;clear hO;go_wp2_with fail;go_ret;exact ⟨bC HN.out.symm,rfl⟩
  ·obtain rfl:k=zs.length:=by omega
   go_wp2_with fail;go_ret;exact ⟨bC (by rw [hX.out,HE.out]),rfl⟩
theorem LW (w:World) (x y z:Int):Ints (w.alloc (Obj.cells #[.int .i64 x,.int .i64 y,.int .i64 z] 3)) (.slice (some ⟨w.heap.size,0,none⟩) 3 3) [x,y,z]:=by
 refine ⟨_,3,rfl,Nat.le_refl _,by simp [maxLen],.inr ⟨w.heap.size,0,rfl,by simp,fun i hi=>?_⟩⟩;rw [Nat.zero_add];match i,hi with
 | 0,_=>exact zD w _ _ 0 _ rfl _ (Below.refl _ _)
 | 1,_=>exact zD w _ _ 1 _ rfl _ (Below.refl _ _)
 | 2,_=>exact zD w _ _ 2 _ rfl _ (Below.refl _ _)
theorem rC (c a v c' a' v':Int) (w:World):Calls prog 262 #[zl c a v,zl c' a' v'] w fun e w'=>e=.returned (.int .i64 (vY c a v c' a' v'))∧Below w.heap.size w w':=by
 have HQ:=hid (zo c a v c' a' v');go_enter func262,ntmps262;go_wp2_with fail;obtain ⟨W,iX,hbw,HX,HY,HZ,HU,HV,HT⟩:=YO w c a v c' a' v';rw [←iX];clear iX;refine wp_region_held_drew (S:=fun w'=>Below W.drew.heap.size W.drew w') aW (Below.refl _ _) ?_;intro hHeld;have hbW:=Below.drew (Below.refl W.heap.size W);generalize W.drew=wd at *;have hcX:=fun wx h=>HX.out wx (ah hbW h);have hcY:=fun wx h=>HY.out wx (ah hbW h);have hcZ:=fun wx h=>HZ.out wx (ah hbW h);have hcU:=fun wx h=>HU.out wx (ah hbW h);have hcV:=fun wx h=>HV.out wx (ah hbW h);have hcT:=fun wx h=>HT.out wx (ah hbW h);refine tk [0,1,2,3,5,6,7,8,10,11,12,13] hHeld ?_;refine aR 4 fun K hK=>?_;go_simp;refine (h_ _ _ _).mono ?_;rintro e wx4 ⟨rfl,rfl⟩;refine hK.out _ _ hHeld ?_;clear hK K;try simp only [Act.put,zI,bG,zS]
 refine aR 9 fun K hK=>?_;go_simp;refine (h_ _ _ _).mono ?_;rintro e wx9 ⟨rfl,rfl⟩;refine hK.out _ _ hHeld ?_;clear hK K;try simp only [Act.put,zI,bG,zS]
 refine aR 14 fun K hK=>?_;go_simp;refine (h_ _ _ _).mono ?_;rintro e wx14 ⟨rfl,rfl⟩;refine hK.out _ _ hHeld ?_;clear hK K;try simp only [Act.put,zI,bG,zS]
 refine aR 15 fun K hK=>?_;go_simp;have hH:=hHeld.alloc hHeld.size (Obj.cells #[Value.int .i64 (bQ c c'),Value.int .i64 (bQ a a'),Value.int .i64 (bQ v v')] 3);have hints:=LW wd (bQ c c') (bQ a a') (bQ v v');refine hK.out _ _ hH ?_;clear hK K hHeld;have hHeld:=hH;clear hH;try simp only [Act.put,zI,bG,zS]
 refine aR 16 fun K hK=>?_;go_simp;refine (PO _ _ _ hints).mono ?_;rintro e wx16 ⟨rfl,rfl⟩;refine hK.out _ _ hHeld ?_;clear hK K;try simp only [Act.put,zI,bG,zS]
 refine tk [17] hHeld ?_;refine wpAnyH_done aW ?_ _;go_wp2_with fail;go_ret;exact ⟨bC HQ.out,ah hbw (ah hbW hHeld)⟩
def nG (c a v:Int):List UInt8:=aj c 1++aj a 1++aj v 2
theorem fP (x:Int):(aj x 1).length=1:=aC x 1 aX aX
theorem qB (x:Int):(aj x 2).length=2:=aC x 2 aX aX
theorem iN (c a v:Int):(nG c a v).length=4:=by unfold nG;rw [List.length_append,List.length_append,fP,fP,qB]
theorem Di (v:Value) (l:List UInt8) (c a q:Int) (w:World) (hB:Bytes w v l) (hl:l.length≤140737488355320):Calls prog 239 #[v,zl c a q] w (cu w (l++nG c a q)):=by have HB:=hid fun (w':World) (h:Below w.heap.size w w')=>hB.below h;have Hl:=hid hl;clear hB hl;go_enter func239,ntmps239;go_wp2_with fail;obtain ⟨W,iX,hbw,HX,HY,HZ⟩:=LV w c a q;rw [←iX];clear iX;refine (bI _ l c 1 _ (HB.out _ hbw) T9).mono ?_;rintro e w1 ⟨x1,rfl,iI,hb1⟩;have cY:=HY.out _ hb1;go_wp2_with fail;refine (bI _ (l++aj c 1) a 1 _ iI.bytes XW).mono ?_;rintro e w2 ⟨x2,rfl,mO,hb2⟩;have hb:=ah hb1 hb2;have cZ:=HZ.out _ hb;clear cY;go_wp2_with fail;refine (bI _ (l++aj c 1++aj a 1) q 2 _ mO.bytes XO).mono ?_;rintro e w3 ⟨x3,rfl,qQ,hb3⟩;go_wp2_with fail;go_ret;refine ⟨x3,rfl,?_,ah hbw (ah hb hb3)⟩;unfold nG;rw [←List.append_assoc,←List.append_assoc];exact qQ.mono (Nat.le_trans hbw.size hb.size)
structure Vw where
 c:Cf
 p:Pa
 off:Int
 dl:Int
 nw:Int
 st:Int
 pe:Int
 po:Int
def Uw (x:Int):Int:=if 140737488355327<x then 9223372036854775807 else if x < -140737488355328 then -9223372036854775808 else x*65536
def PU (b:Bool):Int:=if b then 1 else 0
def AJ (x:Int):List UInt8:=aj x 1++aj 0 1
def Sm (id:Int):Int:=
 if id=0∨id=8205∨id=8206 then 0 else if id=5 then 2 else if id=8192 then 20 else if id=8193 then 18 else if id=8194 then 32 else if id=8195 then 4
 else if id=8196 then 26 else if id=8207 then 10 else if 8197≤id∧id≤8208 then 2 else -1
def YP (id:Int):Bool:=decide (id=5∨id=8205∨id=8206)
def fixB (id:Int):Bool:=decide ((8192≤id∧id≤8196)∨id=8204∨id=8207)
def defS (c:Cf):List UInt8:=aj (PU (!c.os)+2*PU c.so) 1++aj 0 1++aj c.po 2++aj c.p1 1++nG c.qc c.qa c.qv++aj c.p2 1++iJ c.cl.toNat 8++aj c.dm 1++aj 0 1
def curS (v:Vw):List UInt8:=aj v.p.st 2++aj (Uw v.off) 8++aj (Uw v.dl) 8
def parS (p:Pa):List UInt8:=gG p.pc p.pp++[0,0,255,255,127,255,255,255]++aj p.p1 1++nG p.qc p.qa p.qv++aj p.p2 1++iJ p.gr.toNat 8
def timS (p:Pa):List UInt8:=aj p.ut 2++aj (p.fl % 64) 1++aj p.og 1
def porS (v:Vw):List UInt8:=gG v.c.cl v.po++aj v.st 1++aj v.c.ld 1++aj (Uw v.pe) 8++aj v.c.la 1++aj v.c.tm 1++aj v.c.ls 1++aj (1+PU v.c.pe) 1++aj v.c.ld 1++aj 2 1
def Sn (v:Vw) (id:Int):List UInt8:=
 if id=8192 then defS v.c else if id=8193 then curS v else if id=8194 then parS v.p else if id=8195 then timS v.p else if id=8196 then porS v
 else if id=8197 then AJ v.c.p1 else if id=8198 then AJ v.c.p2 else if id=8199 then AJ v.c.dm else if id=8200 then AJ (PU v.c.so) else if id=8201 then AJ v.c.la
 else if id=8202 then AJ v.c.tm else if id=8203 then AJ v.c.ls else if id=8204 then AJ 2 else if id=8207 then fJ v.nw else if id=8208 then AJ v.c.qa else []
def PV (c:Cf) (id:Int) (data:List UInt8):Cf:=
 if id=8197 then { c with p1:=aF data 0 1 } else if id=8198 then { c with p2:=aF data 0 1 } else if id=8199 then { c with dm:=aF data 0 1 }
 else if id=8200 then { c with so:=decide (aF data 0 1 % 2=1) } else if id=8201 then { c with la:=dU data 0 1 } else if id=8202 then { c with tm:=aF data 0 1 }
 else if id=8203 then { c with ls:=dU data 0 1 } else if id=8208 then { c with qa:=aF data 0 1 } else c
structure An where
 s:List UInt8
 c:Cf
 e:Int
def YQ (v:Vw) (id:Int) (d:Cf):An:=if gJ d then ⟨Sn { v with c:=d } id,d,0⟩ else ⟨[],v.c,4⟩
def EY (v:Vw) (a id:Int) (data:List UInt8):An:=
 if Sm id<0 then ⟨[],v.c,2⟩ else if a≠0∧a≠1∧a≠3 then ⟨[],v.c,6⟩ else if a=3∧id≠0∧YP id=false then ⟨[],v.c,6⟩
 else if a≠3∧YP id=true then ⟨[],v.c,6⟩ else if a=0 then ⟨Sn v id,v.c,0⟩ else if a=1∧fixB id=true then ⟨[],v.c,5⟩
 else if (data.length:Int)≠Sm id then ⟨[],v.c,3⟩ else if a=3 then ⟨data,v.c,0⟩ else YQ v id (PV v.c id data)
def perB (id:Int):Bool:=decide (id=8196∨id=8205∨id=8206)
theorem Jl (h:Hd) (d:Bd) (h':Hd) (d':Bd) (w:World):(Op.equalIn 10000 56 (.agg (aH h d).toArray) (.agg (aH h' d').toArray)).run prog w=.ok (wQ h d h' d') w:=by
 unfold wQ;obtain ⟨a0,a1,a2,a3,a4,a5,a6,a7⟩:=h;obtain ⟨b0,b1,b2,b3,b4,b5,b6,b7⟩:=h';obtain ⟨c0,c1,c2,c3,c4,c5,c6,c7,c8,c9,c10,c11,c12,c13,c14⟩:=d;obtain ⟨e0,e1,e2,e3,e4,e5,e6,e7,e8,e9,e10,e11,e12,e13,e14⟩:=d';unfold aH dn Wn;simp only [];by_cases k0:a0=b0;case neg=>(have q:(a0 == b0)=false:=nq k0);go_simp
 subst k0;by_cases k1:a1=b1;case neg=>(have q:(a1 == b1)=false:=nq k1);go_simp
 subst k1;by_cases k2:a2=b2;case neg=>(have q:(a2 == b2)=false:=nq k2);go_simp
 subst k2;by_cases k3:a3=b3;case neg=>(have q:(a3 == b3)=false:=nq k3);go_simp
 subst k3;by_cases k4:a4=b4;case neg=>(have q:(a4 == b4)=false:=nq k4);go_simp
 subst k4;by_cases k5:a5=b5;case neg=>(have q:(a5 == b5)=false:=nq k5);go_simp
 subst k5;by_cases k6:a6=b6;case neg=>(have q:(a6 == b6)=false:=nq k6);go_simp
 subst k6;by_cases k7:a7=b7;case neg=>(have q:(a7 == b7)=false:=nq k7);go_simp
 subst k7;by_cases k8:c0=e0;case neg=>(have q:(c0 == e0)=false:=nq k8);go_simp
 subst k8;by_cases k9:c1=e1;case neg=>(have q:(c1 == e1)=false:=nq k9);go_simp
 subst k9;by_cases k10:c2=e2;case neg=>(have q:(c2 == e2)=false:=nq k10);go_simp
 subst k10;by_cases k11:c3=e3;case neg=>(have q:(c3 == e3)=false:=nq k11);go_simp
 subst k11;by_cases k12:c4=e4;case neg=>(have q:(c4 == e4)=false:=nq k12);go_simp
 subst k12;by_cases k13:c5=e5;case neg=>(have q:(c5 == e5)=false:=nq k13);go_simp
 subst k13;by_cases k14:c6=e6;case neg=>(have q:(c6 == e6)=false:=nq k14);go_simp
 subst k14;by_cases k15:c7=e7;case neg=>(have q:(c7 == e7)=false:=nq k15);go_simp
 subst k15;by_cases k16:c8=e8;case neg=>(have q:(c8 == e8)=false:=nq k16);go_simp
 subst k16;by_cases k17:c9=e9;case neg=>(have q:(c9 == e9)=false:=nq k17);go_simp
 subst k17;by_cases k18:c10=e10;case neg=>(have q:(c10 == e10)=false:=nq k18);go_simp
 subst k18;by_cases k19:c11=e11;case neg=>(have q:(c11 == e11)=false:=nq k19);go_simp
 subst k19;by_cases k20:c12=e12;case neg=>(have q:(c12 == e12)=false:=nq k20);go_simp
 subst k20;by_cases k21:c13=e13;case neg=>(have q:(c13 == e13)=false:=nq k21);go_simp
 subst k21;by_cases k22:c14=e14;case neg=>(have q:(c14 == e14)=false:=nq k22);go_simp
 subst k22;go_simp
theorem AL (t:Int) (w:World):Calls prog 153 #[.int .i64 t] w fun e w'=>e=.returned (.bool (qh t))∧w=w':=by
 by_cases h0:0≤t
 ·by_cases h1:t≤4000000000000000
  ·go_enter func153,ntmps153;go_wp2;go_ret;exact ⟨dH (zw h0 h1).symm,rfl⟩
  ·go_enter func153,ntmps153;go_wp2;go_ret;exact ⟨dH (wW (.inr aJ)).symm,rfl⟩
 ·go_enter func153,ntmps153;go_wp2;go_ret;exact ⟨dH (wW (.inl aJ)).symm,rfl⟩
theorem PW (t:Int) (w:World) (h:qh t=true):Calls prog 153 #[.int .i64 t] w fun e w'=>e=.returned (.bool true)∧w=w':=by have:=AL t w;rwa [h] at this
theorem Ux (t:Int) (w:World) (h:qh t=false):Calls prog 153 #[.int .i64 t] w fun e w'=>e=.returned (.bool false)∧w=w':=by have:=AL t w;rwa [h] at this
theorem LX {w1 w2:World} {m:List UInt8} {v2:Value} (h1:Below w.heap.size w w1) (h2:Own w2 w1.heap.size v2 l) (h3:Below w1.heap.size w1 w2) (e:l=m):cu w m (.returned v2) w2:=
 ⟨v2,rfl,e▸h2.mono h1.size,ah h1 h3⟩
theorem jN (v:Value) (l:List UInt8) (t:Int) (w:World) (hB:Bytes w v l) (hl:l.length≤140737488351232):Calls prog 202 #[v,.int .i64 t] w (cu w (l++fJ t)):=by
 have hin:=Jg t;obtain ⟨Uy,hin1⟩:=hin;cases hm:qh t
 ·have hT:mY t=0:=by unfold mY;rw [hm];rfl
  have Hm:=hid hm;have HT:=hid hT;clear hm hT Uy hin1;go_enter func202,ntmps202;go_wp2_with fail;refine (Ux _ _ Hm.out).mono ?_;rintro e w' ⟨rfl,rfl⟩;go_wp2_with fail;refine (bI _ l _ _ _ hB aJ).mono ?_;rintro e w1 ⟨v1,rfl,hown,hbel⟩;go_wp2_with fail;refine (bI _ _ _ _ _ hown.bytes XM).mono ?_;rintro e w2 ⟨v2,rfl,hown2,LY⟩;go_wp2_with fail;go_ret;refine LX hbel hown2 LY ?_;unfold fJ;rw [HT.out,List.append_assoc];rfl
 ·have hT:mY t=t:=by unfold mY;rw [hm];rfl
  rw [hT] at Uy hin1;have Hm:=hid hm;have HT:=hid hT;clear hm hT;go_enter func202,ntmps202;go_wp2_with fail;refine (PW _ _ Hm.out).mono ?_;rintro e w' ⟨rfl,rfl⟩;go_wp2_with fail;refine (bI _ l _ _ _ hB aJ).mono ?_;rintro e w1 ⟨v1,rfl,hown,hbel⟩;go_wp2_with fail;refine (bI _ _ _ _ _ hown.bytes XM).mono ?_;rintro e w2 ⟨v2,rfl,hown2,LY⟩;go_wp2_with fail;go_ret;refine LX hbel hown2 LY ?_;unfold fJ;rw [HT.out,List.append_assoc]
theorem Dj (l:Int) (w:World):Calls prog 110 #[.int .i64 l] w fun e w'=>e=.returned (.int .i64 (bF l))∧w=w':=by
 by_cases h4:4≤l
 ·go_enter func110,ntmps110;go_wp2;go_ret;exact ⟨bC (by unfold bF;rw [if_pos h4]),rfl⟩
 by_cases h:l < -2
 ·have h3:(l == 3)=false:=by rw [beq_eq_false_iff_ne];omega
  have h2:(l == 2)=false:=by rw [beq_eq_false_iff_ne];omega
  have h1:(l == 1)=false:=by rw [beq_eq_false_iff_ne];omega
  have h0:(l == 0)=false:=by rw [beq_eq_false_iff_ne];omega
  have hm1:(l == -1)=false:=by rw [beq_eq_false_iff_ne];omega
  have hm2:(l == -2)=false:=by rw [beq_eq_false_iff_ne];omega
  go_enter func110,ntmps110;go_wp2;go_ret;exact ⟨bC (by unfold bF;repeat' split <;> omega),rfl⟩
 have hc:l=3∨l=2∨l=1∨l=0∨l = -1∨l = -2:=by omega
 rcases hc with rfl | rfl | rfl | rfl | rfl | rfl
 all_goals
  go_enter func110,ntmps110
  go_wp2
  go_ret
  exact ⟨rfl,rfl⟩
theorem iF (l:Int) (w:World):Calls prog 68 #[.int .i64 l] w fun e w'=>e=.returned (.int .i64 (bF l))∧w=w':=by have h:=lZ l;obtain ⟨h0,h1⟩:=h;go_enter func68,ntmps68;go_wp2_with fail;refine (Dj _ _).mono ?_;rintro e w' ⟨rfl,rfl⟩;go_wp2_with fail;go_ret;exact ⟨bC aJ,rfl⟩
def l7 (t:Int):Bool:=decide (t=0∨t=1∨t=8∨t=9∨t=3∨t=10∨t=2∨t=11)
def mK (t:Int):Bool:=decide (t=9∨t=3∨t=10∨t=12∨t=13)
def gW (t:Int):Int:=if t=2 then 10 else if t=11 then 20 else if t=13 then 4 else 0
def xq (t:Int):Int:=(if l7 t then 10 else 0)+(if mK t then 10 else 0)+gW t
theorem PX (t:Int):0≤gW t∧gW t≤20:=by unfold gW;repeat' split <;> omega
theorem vN (t:Int):0≤xq t∧xq t≤40:=by have:=PX t;unfold xq;repeat' split <;> omega
abbrev iO (t:Int):Value:=.agg #[.bool (l7 t),.bool (mK t),.int .i64 (gW t)]
theorem EZ {t:Int} (h:dW t=false):l7 t=false∧mK t=false∧gW t=0:=by
 unfold dW at h;rw [decide_eq_false_iff_not] at h;refine ⟨?_,?_,?_⟩
 ·unfold l7;rw [decide_eq_false_iff_not];omega
 ·unfold mK;rw [decide_eq_false_iff_not];omega
 ·unfold gW;rw [if_neg aJ,if_neg aJ,if_neg aJ]
theorem dh (t:Int) (w:World):Calls prog 87 #[.int .i64 t] w fun e w'=>e=.returned (iO t)∧Below w.heap.size w w':=by
 cases h:dW t
 ·obtain ⟨e1,e2,e3⟩:=EZ h;obtain ⟨hc,h0,h1,h2,h3,h8,h9,h10,h11,h12,iW⟩:=CS h;unfold iO;rw [e1,e2,e3];clear h hc e1 e2 e3;go_enter func87,ntmps87;go_wp2;exact bodyPost_ret (v:=.agg #[.bool _,.bool _,.int .i64 _]) (by simp [results,Tryz.results87,go_sem]) rfl ⟨rfl,aA _ _⟩
 ·rcases wO h with rfl | rfl | rfl | rfl | rfl | rfl | rfl | rfl | rfl | rfl
  all_goals
   clear h
   go_enter func87,ntmps87
   go_wp2
   exact bodyPost_ret (v:=.agg #[.bool _,.bool _,.int .i64 _]) (by simp [results,Tryz.results87,go_sem];decide) rfl ⟨rfl,aA _ _⟩
theorem kinds (t:Int):(l7 t=false∧mK t=false∧t≠11∧t≠13)∨(l7 t=true∧mK t=false∧t≠11∧t≠13)∨(l7 t=true∧mK t=true∧t≠11∧t≠13)∨t=11∨(l7 t=false∧mK t=true∧t≠11∧t≠13)∨t=13:=by
 by_cases h11:t=11
 ·exact .inr (.inr (.inr (.inl h11)))
 by_cases iW:t=13
 ·exact .inr (.inr (.inr (.inr (.inr iW))))
 cases l7 t <;> cases mK t <;> simp [h11,iW]
def om (t:Int) (d:Bd):Bd:=
 ⟨if l7 t then d.st else 0,if mK t then d.tc else 0,if mK t then d.tp else 0,if t=11 then d.ut else 0,if t=11 then d.p1 else 0,if t=11 then d.qc else 0,if t=11 then d.qa else 0,if t=11 then d.qv else 0,
  if t=11 then d.p2 else 0,if t=11 then d.gr else 0,if t=11 then d.sr else 0,if t=11 then d.og else 0,if t=13 then d.sh else 0,if t=13 then d.hp else 0,if t=13 then d.ac else 0⟩
theorem iG {K:Act→World→Prop} (x:Operand) (ho:op.op=.load 56 x)
  (g:Nat) (hx:a.eval x=.pointer (some ⟨g,0,none⟩)) (xs:List Value) (t:TypeId) (hB:ak w g xs t) (hl:xs.length=23)
  (h:K (a.put op.dst (.agg xs.toArray)) w):op.wp prog a w K Q:=
 wp_load_mid _ x ho g 0 hx xs _ hB.range underlying56 rfl (by rw [iM,hl]) h
section
open Go.RowKit Go.Proofs Go.Lib
theorem eZ (k:Nat):Builtin.zeroCells (Value.cells (.int .u8 0)) k=(cellsOf (List.replicate k 0)).toArray:=by
 apply Array.ext';unfold Builtin.zeroCells;show ((Array.range (k*1)).map fun i=>(#[Value.int .u8 0]:Array Value)[i % 1]!).toList=cellsOf (List.replicate k 0);apply List.ext_getElem
 ·simp [cellsOf]
 ·intro i h1 h2;simp [cellsOf,Nat.mod_one]
theorem AO (w:World) (base:Nat) (v:Value) (l:List UInt8) (k:Nat) (hv:Own w base v l) (hl0:0<l.length) (hsm:l.length+k≤1000000) (hbase:base≤w.heap.size):∃v' w',(Builtin.append_ #[132,3] 132 #[v,.int .i64 (k:Int)]).run prog w=.ok v' w'∧Own w' base v' (l++List.replicate k 0)∧Below base w w':=by
 obtain ⟨i0,hi,hz0,hz1,hz2⟩:=info_parts mR;have hlt:=fun k hk=>(World.ownsRow.lt hv k hk).1
 have hcells:=fun j u hu=>World.ownsRow.cells hv (g:=(v.ownBlock.getD 0)) (by
  rcases id hv with ⟨_,⟨_,hn⟩ | ⟨g,cap,cur,rfl,_⟩⟩
  ·omega
  ·rfl) j u hu
 have hlenr:(cellsOf (l++List.replicate k 0)).length=(l++List.replicate k 0).length*1:=by rw [aT];omega
 have hll:(l++List.replicate k 0).length=l.length+k:=by simp
 obtain ⟨hlen,⟨_,hn⟩ | ⟨g,cap,cur,rfl,hbg,hg,hnc,hcm,hcs,htake⟩⟩:=id hv
 ·omega
 have hw:IntKind.i64.wrap (k:Int)=k:=by rw [IntKind.wrap_i64];omega
 by_cases hroom:l.length+k≤cap
 ·have hst:=run_storeCells_at prog g (l.length*i0.size) 5 (cellsOf (List.replicate k 0)) 0 cur w hg (by rw [aT,List.length_replicate,hz1];omega) (kN _);simp only [Nat.add_zero] at hst;rw [hz1,Nat.mul_one] at hst;refine ⟨.slice (some ⟨g,0,none⟩) (l.length+k) cap,w.setRow g (cur.toList.take l.length++cellsOf (List.replicate k 0)++cur.toList.drop (l.length+(cellsOf (List.replicate k 0)).length)).toArray,?_,?_,below_setRow (Below.refl _ _) hbg _⟩
  ·have hneg:¬((k:Int)<0):=by omega
   have h48:¬(281474976710656<(k:Int)):=by omega
   by_cases hk:k=0
   ·subst hk;simp only [List.replicate_zero,cellsOf,List.map_nil] at hst ⊢;simp [Builtin.append_,run_underlying underlying132,run_underlying underlying3,sizeOf,typeInfo,hi,asInt,asIntOf,hw,hroom,hz1,hz2,Addr.add_lit,storeCells,hnc,hst,IntKind.wrap_i64];have he:w.setRow g cur=w:=by have:=hst;simp [storeCells] at this;exact this.symm
    try rw [he]
   ·simp [Builtin.append_,run_underlying underlying132,run_underlying underlying3,sizeOf,typeInfo,zeroValue,hi,hz0,asInt,asIntOf,hw,hneg,h48,hk,hroom,hz1,hz2,Addr.add_lit,eZ,hst]
  ·unfold Own;rw [hll];refine ⟨by rw [aT,hll];omega,.inr ⟨g,cap,_,rfl,hbg,setRow_heap w g cur _ _ _ hg,hroom,hcm,?_,?_⟩⟩
   ·simp only [List.size_toArray,List.length_append,List.length_take,List.length_drop,Array.length_toList,aT,List.length_replicate];omega
   ·rw [Nat.mul_one] at htake ⊢;rw [htake,←gq];have:=hll;rw [←hll,←aT];exact List.take_left
 ·have hk:0<k:=by omega
  have hold:(Builtin.firstCells i0.size l.length (.slice (some ⟨g,0,none⟩) l.length cap)).run prog w.drew=.ok (cellsOf l).toArray w.drew:=
   run_firstCells_some (P:=prog) w.drew i0.size l.length ⟨g,0,none⟩ l.length cap (cellsOf l) (by rw [aT,hz1];omega) (fun j u hu=>hcells j u hu)
  have hr:=run_append_grow_zeros (P:=prog) w 132 3 132 5 i0 _ .i64 _ underlying132 underlying3 hi hz0 (some ⟨g,0,none⟩) l.length cap (cellsOf l) hold k hk (by rw [hz1];decide) aJ aJ K7
   (growslice_fits aJ K7)
  refine ⟨_,_,hr,?_,?_⟩
  ·have hge:=grownCap_ge w (l.length+k) cap 5;have hcm2:grownCap w (l.length+k) cap 5≤maxLen:=grownCap_le_maxLen w (l.length+k) cap 5 KZ;unfold Own;rw [hll];refine ⟨by rw [aT,hll];omega,.inr ⟨w.heap.size,_,_,rfl,hbase,heap_alloc_new w.drew _,hge,hcm2,?_,?_⟩⟩
   ·rw [eZ,eZ];simp only [Array.size_append,List.size_toArray,aT,List.length_replicate];omega
   ·rw [eZ,eZ];simp only [Array.toList_append,List.append_assoc];rw [←List.append_assoc,←gq,Nat.mul_one,←hll,←aT];exact List.take_left
  ·exact (Below.drew (Below.refl base w)).alloc hbase _
theorem ql (hgd:o.guard=none) (s x:Operand) (ho:o.op=.call { callee:=.builtin .append,args:=#[s,x],argTypes:=#[132,3] }) (hty:o.type=132) (base:Nat) (v:Value) (l:List UInt8) (k:Nat) (K:Int) (hs:a.eval s=v) (hx:a.eval x=.int .i64 K) (hK:K=(k:Int)) (hv:Own w base v l) (hl0:0<l.length) (hsm:l.length+k≤1000000) (hbase:base≤w.heap.size) (h:∀v' w',Own w' base v' (l++List.replicate k 0)→Below base w w'→wpList prog ops Q rest (a.put o.dst v') w'):wpList prog ops Q (o::rest) a w:=by subst hK;obtain ⟨v',w',hr,h1,h2⟩:=AO w base v l k hv hl0 hsm hbase;rw [←hty] at hr;refine wpList_append_run w hgd s x _ _ ho v _ hs hx v' w' ?_ (h v' w' h1 h2);rw [hty] at hr ⊢;exact hr
end
end Go.Proofs.YtofhdhgfcomhiaaGreat
