/- Of what laws of the clock want, part 5: Obj Del ClkRef For Tim Seq Pee (mini.py). -/
import Derived.Test.YtofhdhgfcomhiaaGreatCf4
namespace Go.Proofs.YtofhdhgfcomhiaaGreat
open Go.RowKit Go.Proofs
set_option maxRecDepth 100000
set_option maxHeartbeats 100000000
set_option linter.unusedVariables false
set_option linter.unusedSimpArgs false
open Tryz
variable {B:Nat} {P:Program} {Q:Exit→Act→World→Prop} {S:World→Prop} {a:Act} {b:Nat} {base:Nat} {cap:Nat} {fuel:Nat} {g:Nat} {h:Nat} {i:Nat} {l:List UInt8} {listed:Array Bool} {n:Nat} {now:Int} {o:Oper} {oi:Oper} {op:Oper} {ops:Array Oper} {p:Prop} {rest:List Oper} {t:TypeId} {v:Value} {w:World} {w':World} {xs:List Value} {α:Type}
section
def bY {σ:Type} (T:TypeId) (R:List Value→σ→Prop) (w:World) (g:Nat) (s:σ):Prop:=∃xs,ak w g xs T∧R xs s
variable {σ:Type} {T:TypeId} {R:List Value→σ→Prop} {w w':World} {g k:Nat} {s:σ}
theorem bY.lt (h:bY T R w g s):g<w.heap.size:=by obtain ⟨xs,hB,-⟩:=h;exact hB.lt
theorem bY.below (h:bY T R w g s) (hb:Below w.heap.size w w'):bY T R w' g s:=by exact KY
theorem bY.only (h:bY T R w g s) (ho:Only k w w') (hk:g≠k):bY T R w' g s:=by obtain ⟨xs,hB,hR⟩:=h;exact ⟨xs,hB.only ho hk,hR⟩
theorem bY.setCell (h:bY T R w g s) (hk:g≠k) (i:Nat) (v:Value):bY T R (w.setCell ⟨k,i,none⟩ v) g s:=by exact TN
theorem bY.row (h:bY T R w g s) (hk:g≠k) (ys:Array Value):bY T R (w.setRow k ys) g s:=by obtain ⟨xs,hB,hR⟩:=h;unfold ak at hB;exact ⟨xs,by unfold ak;rw [setRow_other w k g ys hk];exact hB,hR⟩
theorem bY.kept {t:TypeId} (h:bY T R w g s) (hk:dV t w w') (ht:T≠t):bY T R w' g s:=by obtain ⟨xs,hB,hR⟩:=h;exact ⟨xs,hB.kept hk ht,hR⟩
theorem bY.mono {R':List Value→σ→Prop} (h:bY T R w g s) (hR:∀xs,R xs s→R' xs s):bY T R' w g s:=by obtain ⟨xs,hB,h1⟩:=h;exact ⟨xs,hB,hR xs h1⟩
theorem Only.under {a b c:World} (h:Below B a b) (k:Only g b c) (hB:B≤g) (hs:B≤b.heap.size):Below B a c:=Only.below h k hB hs
end
section
structure Xs where
 me:Int×Int
 dm:Int
 out:Option (Int×Option Int)
def Yk (at' st co:Int):Int:=wrap64 (wrap64 (at' - st) - co / 65536)
def yD (x:Xs) (n:Int):Hd×Bd:=(⟨1,x.dm,0,0,x.me.1,x.me.2,n % 65536,127⟩,vC)
def Cz (x:Xs) (n:Int):Xs:={ x with out:=some (n % 65536,none) }
def Yl (x:Xs) (n:Int):Bool:=match x.out with
 | some (s,none)=>n == s
 | _=>false
def Db (x:Xs) (n at':Int):Xs:=if Yl x n then { x with out:=some (n,some at') } else x
def Lu (x:Xs) (m:Hd×Bd):Bool:=match x.out with
 | some (s,some _)=>m.1.ty == 9 && (m.2.tc == x.me.1 && m.2.tp == x.me.2) && m.1.sq == s
 | _=>false
def He (x:Xs) (m:Hd×Bd):Int:=match x.out with
 | some (_,some t)=>if Lu x m then Yk m.2.st t m.1.co else 0
 | _=>0
def wZ (x:Xs) (m:Hd×Bd):Xs:=if Lu x m then { x with out:=none } else x
def Sb (m:Hd×Bd) (at':Int):Bool:=m.1.ty == 1 && qh at'
def Ym (m:Hd×Bd) (me:Int×Int) (at' log:Int):Hd×Bd:=if Sb m at' then (⟨9,m.1.dm,0,m.1.co,me.1,me.2,m.1.sq,log⟩,{ vC with st:=at',tc:=m.1.sc,tp:=m.1.sp }) else bO
theorem Dc:dB iw 54:=⟨⟨_,underlying54,rfl⟩,by kernel_rfl⟩
section
variable {x:Xs} {m:Hd×Bd} {n s t at':Int}
end
abbrev Uj (R:List Value→Xs→Prop) (w:World) (g:Nat) (x:Xs):Prop:=bY 228 R w g x
def Yn (R:List Value→Xs→Prop):Prop:=∀(me:Int×Int) (dm:Int) (w:World),0≤me.1∧me.1<18446744073709551616 →
 Calls prog 100 #[.agg (iw.enc me).toArray,.int .i64 dm] w fun e w'=>∃g,e=.returned (.pointer (some ⟨g,0,none⟩))∧w.heap.size≤g∧Uj R w' g ⟨me,dm,none⟩∧Below w.heap.size w w'
def CReq (R:List Value→Xs→Prop):Prop:=∀(g:Nat) (x:Xs) (n log:Int) (w:World),Uj R w g x→-9223372036854775808≤n∧n≤9223372036854775807 →
 Calls prog 176 #[.pointer (some ⟨g,0,none⟩),.int .i64 n,.int .i64 log] w fun e w'=>e=.returned (.agg (eu.enc (yD x n)).toArray)∧Uj R w' g (Cz x n)∧Only g w w'
def Yo (R:List Value→Xs→Prop):Prop:=∀(g:Nat) (x:Xs) (w:World),Uj R w g x →
 Calls prog 214 #[.pointer (some ⟨g,0,none⟩)] w fun e w'=>e=.returned (.tuple #[])∧Uj R w' g { x with out:=none }∧Only g w w'
end
def Yp (o p win:Int):List Value:=[.int .u64 o,.int .i64 p,.int .i64 (min (max win 1) 1048576),.slice none 0 0]
theorem EM (o p win:Int) (w:World):Calls prog 63 #[.int .u64 o,.int .i64 p,.int .i64 win] w fun e w'=>∃g,e=.returned (.pointer (some ⟨g,0,none⟩))∧w.heap.size≤g∧ak w' g (Yp o p win) 106∧Below w.heap.size w w':=by
 have hb:=aA w (Obj.cells (Yp o p win).toArray 106);have hB:=ak.new w (Yp o p win) 106;obtain ⟨m,hm⟩:∃m,m=min (max win 1) 1048576:=⟨_,rfl⟩;have e:Yp o p win=[.int .u64 o,.int .i64 p,.int .i64 m,.slice none 0 0]:=by rw [hm];rfl
 rw [e] at hb hB ⊢;have hc:(win<1∧m=1)∨(1≤win∧win≤1048576∧m=win)∨(1048576<win∧1≤win∧m=1048576):=by omega
 clear hm e;rcases hc with ⟨h1,rfl⟩ | ⟨h1,h2,rfl⟩ | ⟨h1,h2,rfl⟩
 all_goals
  go_enter func63,ntmps63
  go_wp2_with fail
  all_goals try (exfalso;omega)
  go_ret
  exact ⟨_,rfl,Nat.le_refl _,hB,hb⟩
theorem EN (n:Int) (w:World):Calls prog 62 #[.int .i64 n] w fun e w'=>∃g,e=.returned (.pointer (some ⟨g,0,none⟩))∧w.heap.size≤g∧Below w.heap.size w w':=by
 have hb:=fun m:Int=>aA w (Obj.cells #[.int .i64 m,.slice none 0 0] 201);go_enter func62,ntmps62;go_wp2_with fail
 all_goals
  go_ret
  exact ⟨_,rfl,Nat.le_refl _,hb _⟩
theorem qO (v a b:Int) (w:World):Calls prog 102 #[.int .i64 v,.int .i64 a,.int .i64 b] w fun e w'=>(∃x,e=.returned (.int .i64 x))∧w'=w:=by
 go_enter func102,ntmps102;go_wp2_with fail
 all_goals
  go_ret
  exact ⟨⟨_,rfl⟩,rfl⟩
theorem EO (a b c:Int) (w:World):Calls prog 61 #[.int .i64 a,.int .i64 b,.int .i64 c] w fun e w'=>∃g xs,e=.returned (.pointer (some ⟨g,0,none⟩))∧w.heap.size≤g∧ak w' g xs 91∧xs[4]? = some (.int .i64 0)∧Below w.heap.size w w':=by have hb:=fun x y z:Int=>aA w (Obj.cells #[.int .i64 x,.int .i64 y,.int .i64 z,.int .i64 0,.int .i64 0,.int .i64 0,.int .i64 0] 91);have hB:=fun x y z:Int=>ak.new w [.int .i64 x,.int .i64 y,.int .i64 z,.int .i64 0,.int .i64 0,.int .i64 0,.int .i64 0] 91;go_enter func61,ntmps61;go_wp2_with fail;refine (qO _ _ _ _).mono ?_;rintro e w1 ⟨⟨x0,rfl⟩,hz⟩;obtain rfl:=hz.symm;go_wp2_with fail;refine (qO _ _ _ _).mono ?_;rintro e w1 ⟨⟨x1,rfl⟩,hz⟩;obtain rfl:=hz.symm;go_wp2_with fail;refine (qO _ _ _ _).mono ?_;rintro e w1 ⟨⟨x2,rfl⟩,hz⟩;obtain rfl:=hz.symm;go_wp2_with fail;go_ret;exact ⟨_,_,rfl,Nat.le_refl _,hB _ _ _,rfl,hb _ _ _⟩
theorem zy (g:Nat) (cl i:Int) (w:World) (h0:w.cell? ⟨g,0,none⟩=some (.int .u64 cl)) (hi:0≤i∧i≤8):Calls prog 65 #[.pointer (some ⟨g,0,none⟩),.int .i64 i] w fun e w'=>e=.returned (.agg (iw.enc (cl,i+1)).toArray)∧Below w.heap.size w w':=by
 have hw:IntKind.i64.wrap (i+1)=i+1:=by exact yJ
 have z:=aA w (Obj.cells (iw.enc ((0:Int),(0:Int))).toArray 54);have hN:=ak.new w (iw.enc ((0:Int),(0:Int))) 54;have hlt:g<w.heap.size:=block_lt_of_cell h0;have q0:(w.alloc (Obj.cells (iw.enc ((0:Int),(0:Int))).toArray 54)).cell? ⟨g,0,none⟩=some (.int .u64 cl):=by rw [z.cell (p:=⟨g,0,none⟩) hlt];exact h0
 clear hi hlt h0;go_enter func65,ntmps65;go_upto_region 1 with fail;change Code.wp prog _ _ _ (w.alloc (Obj.cells (iw.enc ((0:Int),(0:Int))).toArray 54));generalize w.alloc (Obj.cells (iw.enc ((0:Int),(0:Int))).toArray 54)=W at *;go_wp2_with (first | (refine aD 12 ?_;refine aB (iw.enc (cl,i+1)).toArray ?_) | (refine aN ?_;refine Dc.aS (w.heap.size) ((cl,i+1)) (((0:Int),(0:Int))) hN ?_));have B:=hN.fB (iw.enc (cl,i+1));exact bodyPost_ret (v:=.agg (iw.enc (cl,i+1)).toArray) (Dc.result rfl _ _ w.heap.size _ _ rfl B) rfl ⟨rfl,below_setRow z (Nat.le_refl _) _⟩
theorem dB.Lv {K:RowK α} {T:TypeId} (hT:dB K T) {op:Oper} {a:Act} {w:World} {K':Act→World→Prop} {Q:Exit→Act→World→Prop} (x y:Operand) (ho:op.op=.store T x y)
  (g o:Nat) (c:α) (xs:List Value) (t:TypeId) (hx:a.eval x=.pointer (some ⟨g,o,none⟩)) (hy:a.eval y=.agg (K.enc c).toArray) (hB:ak w g xs t) (hn:o+K.n≤xs.length)
  (h:K' (a.put op.dst undef) (w.setCells g o (K.enc c))):op.wp prog a w K' Q:=
 wp_store_mid _ x y ho g o (K.enc c).toArray hx hy (hB.there o _ TW) TQ (all_oneCell_toArray (K.one c)) h
def OP (c:Cf) (gS gF:Nat) (v:Value):List Value:=cfL c++([.int .i64 0,.int .i64 0]++(rz (eH c)++[.pointer (some ⟨gS,0,none⟩),.pointer (some ⟨gF,0,none⟩),.int .i64 0,.int .i64 0,.bool false,v,.slice none 0 0]))
def EP:List Value:=cfL zeroC++([.int .i64 0,.int .i64 0]++(rz dK++[.pointer none,.pointer none,.int .i64 0,.int .i64 0,.bool false,.slice none 0 0,.slice none 0 0]))
def OQ:RowK (Cf×Nat×Nat):=⟨fun x=>OP x.1 x.2.1 x.2.2 (.slice none 0 0),44,by decide,fun _=>rfl,by
 intro x u hu
 simp only [OP,cfL,rz,List.cons_append,List.nil_append,List.mem_cons,List.not_mem_nil,or_false] at hu
 repeat' (rcases hu with rfl | hu)
 all_goals first | rfl | (subst hu;rfl)⟩
theorem kdT:dB OQ 88:=⟨⟨_,underlying88,rfl⟩,by kernel_rfl⟩
def Au:RowK (Int×Int×Int):=⟨fun x=>[.int .u64 x.1,.int .i64 x.2.1,.int .i64 x.2.2,.bool false,.bool false,.int .i64 0,.int .i64 0],7,by decide,fun _=>rfl,by
 intro x u hu
 simp only [List.mem_cons,List.not_mem_nil,or_false] at hu
 rcases hu with rfl | rfl | rfl | rfl | rfl | rfl | rfl <;> rfl⟩
theorem xrdT:dB Au 99:=⟨⟨_,underlying99,rfl⟩,by kernel_rfl⟩
def Av:RowK (Int×Int×Int):=⟨fun x=>[.int .u64 x.1,.int .i64 x.2.1,.int .i64 x.2.2,.bool false,.bool false,.int .i64 0,.int .i64 0,.bool false,.bool false]++(eu.enc bO++[.int .i64 0]),33,by decide,fun _=>rfl,by
 intro x u hu
 rcases List.mem_append.1 hu with hu | hu
 ·simp only [List.mem_cons,List.not_mem_nil,or_false] at hu
  rcases hu with rfl | rfl | rfl | rfl | rfl | rfl | rfl | rfl | rfl <;> rfl
 ·rcases List.mem_append.1 hu with hu | hu
  ·exact eu.one _ u hu
  ·rw [List.mem_singleton.1 hu];rfl⟩
theorem yrdT:dB Av 101:=⟨⟨_,underlying101,rfl⟩,by kernel_rfl⟩
def p59 (gT:Nat):List Value:=[.int .i64 1,.pointer (some ⟨gT,0,none⟩),.int .i64 0,.int .i64 0,.int .i64 0,.int .i64 0,.int .i64 0,.int .i64 0,.int .i64 0,.int .i64 0]++(eu.enc bO++(eu.enc bO++[.int .i64 0,.bool false,.bool false]))
def Uk:List Value:=[.int .i64 0,.int .i64 0,.bool false,.bool false]++eu.enc bO
def w_ (gT:Nat) (x y:Int×Int×Int):List Value:=p59 gT++Au.enc x++(Av.enc y++Uk)
def LA (w:World) (h:Nat):Prop:=∃xs gT o p wn,ak w h xs 103∧xs[0]? = some (.int .i64 1)∧xs[1]? = some (.pointer (some ⟨gT,0,none⟩))∧xs[100]? = some (.int .i64 0)∧ak w gT (Yp o p wn) 106
theorem LA.below {w w':World} {h:Nat} (H:LA w h) (hb:Below w.heap.size w w'):LA w' h:=by obtain ⟨xs,gT,o,p,wn,B,e0,e1,e2,T⟩:=H;exact ⟨xs,gT,o,p,wn,B.below hb,e0,e1,e2,T.below hb⟩
theorem LA.kept {w w':World} {h:Nat} {t:TypeId} (H:LA w h) (hk:dV t w w') (h1:(103:TypeId)≠t) (h2:(106:TypeId)≠t):LA w' h:=by obtain ⟨xs,gT,o,p,wn,B,e0,e1,e2,T⟩:=H;exact ⟨xs,gT,o,p,wn,B.kept hk h1,e0,e1,e2,T.kept hk h2⟩
theorem LB {ys:List Value} {u:TypeId} (B:ak w g xs t) (C:ak w h ys u) (ht:t≠u):g≠h:=by intro e;subst e;have h1:=B.symm.trans C;exact TK
theorem LA.other {w:World} {h g:Nat} {ys:List Value} {t:TypeId} (H:LA w h) (C:ak w g ys t) (h1:(103:TypeId)≠t) (h2:(106:TypeId)≠t) (i:Nat) (v:Value):LA (w.setCell ⟨g,i,none⟩ v) h:=by obtain ⟨xs,gT,o,p,wn,B,e0,e1,e2,T⟩:=H;exact ⟨xs,gT,o,p,wn,B.other (LB B C h1) i v,e0,e1,e2,T.other (LB T C h2) i v⟩
def nK (w:World) (l:List (Option Addr)):Prop:=∀q ∈ l,∃h,q=some ⟨h,0,none⟩∧LA w h
theorem uU (gT:Nat) (x y:Int×Int×Int):(w_ gT x y).length=126:=rfl
theorem Yq {gT:Nat} {x x' y:Int×Int×Int} (B:ak w h (w_ gT x y) t):ak (w.setCells h 59 (Au.enc x')) h (w_ gT x' y) t:=ak.mid (Au.enc x') (Au.enc x) (p59 gT) (Av.enc y++Uk) w rfl B
theorem Yr {gT:Nat} {x y y':Int×Int×Int} (B:ak w h (w_ gT x y) t):ak (w.setCells h 66 (Av.enc y')) h (w_ gT x y') t:=by unfold w_ at B ⊢;rw [←List.append_assoc] at B ⊢;exact ak.mid (Av.enc y') (Av.enc y) (p59 gT++Au.enc x) Uk w rfl B
theorem LC {a b c:World} (h:Only g a b) (k:Below a.heap.size b c) (hs:a.heap.size≤b.heap.size):Only g a c:=⟨k.os.trans h.os,k.tape.trans h.tape,k.output.trans h.output,Nat.le_trans hs k.size,fun i hi hn=>(k.block i hi).trans (h.block i hi hn)⟩
theorem Jj:(prog.info? 104).map (fun i=>(i.zero,i.size,i.bytes))=some (some (.pointer none),rA.n,8):=by kernel_rfl
theorem Aw:dB bT 28:=⟨⟨_,underlying28,rfl⟩,by kernel_rfl⟩
def zq:Int×Int×Int:=(0,0,0)
theorem Ay (c:Cf) (hc:1≤c.po∧c.po≤8) (g:Nat) (w:World) (hB:ak w g EP 88):Calls prog 30 #[.pointer (some ⟨g,0,none⟩),.agg (bT.enc c).toArray] w fun e w'=>e=.returned (.tuple #[])∧Only g w w'∧∃gS gF v xs l,ak w' g (OP c gS gF v) 88∧ak w' gS xs 91∧xs[4]? = some (.int .i64 0)∧rA.Reads w' v l∧(l.length:Int)=c.po∧nK w' l:=by
 obtain ⟨n,hn⟩:∃n:Nat,c.po=(n:Int):=⟨c.po.toNat,by omega⟩;have Ug:n≤8:=by omega
 have hn8I:(n:Int)≤8:=by omega
 replace hn:=hid hn;clear hc;have z:=aA w (Obj.cells (bT.enc c).toArray 28);have X:=ak.new w (bT.enc c) 28;have hg:g<w.heap.size:=hB.lt;replace hB:=hB.below z;go_enter func30,ntmps30;go_upto_region 1 with fail;change Code.wp prog _ _ _ (w.alloc (Obj.cells (bT.enc c).toArray 28));obtain ⟨gc,hgc⟩:∃gc,w.heap.size=gc:=⟨_,rfl⟩;rw [hgc] at X;rw [show (Value.pointer (some ⟨w.heap.size,0,none⟩))=Value.pointer (some ⟨gc,0,none⟩) by rw [hgc]];have lc:w.heap.size≤gc:=by omega
 have ngc:gc≠g:=by omega
 generalize w.alloc (Obj.cells (bT.enc c).toArray 28)=W at *;clear hgc;have q43:=hB.cell 43 (.slice none 0 0) rfl;go_upto_region 2 with fail;clear q43;have hbd:=Below.drew (Below.refl W.heap.size W);replace X:=X.below hbd;replace hB:=hB.below hbd;replace z:=ah z hbd;refine eU (S:=fun w'=>Below W.drew.heap.size W.drew w') (z:=17) aW ?_;have hHeld:=Below.refl W.drew.heap.size W.drew;generalize W.drew=wd at *;clear hbd;have d0:∀wx,Below wd.heap.size wd wx→wx.rangeAt gc 0 (bT.enc c):=fun wx hx=>(X.below hx).b_;have d1:∀wx,Below wd.heap.size wd wx→wx.cell? ⟨gc,15,none⟩=some (.int .i64 c.md):=fun wx hx=>(X.below hx).cell 15 _ rfl;have d2:∀wx,Below wd.heap.size wd wx→wx.cell? ⟨gc,16,none⟩=some (.int .i64 c.kp):=fun wx hx=>(X.below hx).cell 16 _ rfl;have d3:∀wx,Below wd.heap.size wd wx→wx.cell? ⟨gc,17,none⟩=some (.int .i64 c.ki):=fun wx hx=>(X.below hx).cell 17 _ rfl;have d4:∀wx,Below wd.heap.size wd wx→wx.cell? ⟨gc,18,none⟩=some (.int .i64 c.st):=fun wx hx=>(X.below hx).cell 18 _ rfl;refine tz [0] hHeld ?_;refine zt 1 hHeld ?_ (hy:=fun wx hwx=>Aw.exec (.tmp 3) rfl gc 0 rfl c (d0 wx hwx));refine zt 2 hHeld ?_ (hy:=fun wx hwx=>Aw.exec (.tmp 3) rfl gc 0 rfl c (d0 wx hwx));refine tz [4,5,6,7,8,9,11,12,14] hHeld ?_;refine aZ 3 fun K' hK=>?_;go_simp;refine (CV c wd).mono ?_;rintro e w3 ⟨rfl,b3⟩;replace hHeld:=hHeld.trans (b3.mono hHeld.size);clear b3;refine hK _ _ hHeld ?_;clear hK K';try simp only [Act.put,zI,bG,zS]
 refine aZ 10 fun K' hK=>?_;go_simp;refine (EO c.kp c.ki c.st w3).mono ?_;rintro e w4 ⟨gS,xs,rfl,lS,BS,hx4,b4⟩;replace lS:=Nat.le_trans hHeld.size lS;replace hHeld:=hHeld.trans (b4.mono hHeld.size);clear b4;refine hK _ _ hHeld ?_;clear hK K';try simp only [Act.put,zI,bG,zS]
 refine aZ 13 fun K' hK=>?_;go_simp;refine (EN c.md w4).mono ?_;rintro e w5 ⟨gF,rfl,lF,b5⟩;replace BS:=BS.below b5;replace hHeld:=hHeld.trans (b5.mono hHeld.size);clear b5 lF;refine hK _ _ hHeld ?_;clear hK K';try simp only [Act.put,zI,bG,zS]
 refine zt 15 hHeld ?_ (hy:=fun wx hwx=>bg _ _ rfl _ rfl (OQ.enc (c,gS,gF)).toArray aW);refine tz [16] hHeld ?_;refine aE 17 fun K' hK=>?_;have B5:=hB.below hHeld;have X5:=X.below hHeld;have nS:gS≠g:=by have:=z.size;omega
 refine wp_store_row _ _ _ rfl g (OQ.enc (c,gS,gF)).toArray rfl rfl 88 EP.toArray B5 (by rw [kdT.size];rfl) rfl (all_oneCell_toArray (OQ.one _)) ?_;refine hK _ _ ?_;clear hK K';have B6:=B5.fB (OQ.enc (c,gS,gF));have X6:=X5.gu ngc (OQ.enc (c,gS,gF)).toArray;have S6:=BS.gu nS (OQ.enc (c,gS,gF)).toArray;have ho:=(Only.of_below g (ah z hHeld)).row (OQ.enc (c,gS,gF)).toArray;have hs6:=(ah z hHeld).size;have Jk:w.heap.size≤(w5.setRow g (OQ.enc (c,gS,gF)).toArray).heap.size:=ho.size;generalize w5.setRow g (OQ.enc (c,gS,gF)).toArray=w6 at *;clear B5 X5 BS hs6 d0 d1 d2 d3 d4 hHeld X hB z;replace hx4:=hid hx4;go_wp2_with fail;go_loopw [5] (fun iv wr=>∃(j:Nat) (v:Value) (l:List (Option Addr)),j≤n∧iv=.int .i64 (j:Int)∧ak wr g (OP c gS gF v) 88∧rA.Own 104 wr w.heap.size v l∧l.length=j∧nK wr l∧ak wr gc (bT.enc c) 28∧ak wr gS xs 91∧Only g w wr∧w.heap.size≤wr.heap.size) (fun iv _=>n - (intOf iv).toNat);case atStart=>exact ⟨0,_,[],Nat.zero_le _,rfl,B6,RowK.Own.nil _ _ _ _,rfl,fun q h=>qx,X6,S6,ho,Jk⟩
 case round=>
  clear B6 X6 S6 ho Jk;obtain ⟨j,v,l,hj,rfl,hB,oP,hlen,hP,X,BS,ho,hs⟩:=hrel;have q1:wr.cell? ⟨gc,1,none⟩=some (.int .i64 (n:Int)):=by rw [←hn.out];exact X.cell 1 _ rfl
  by_cases hlt:j<n
  ·have PD:(j:Int)<(n:Int):=by omega
   have hw1:IntKind.i64.wrap ((j:Int)+1)=(j:Int)+1:=by exact yJ
   have Cw:0≤(j:Int)∧(j:Int)≤8:=by omega
   have Yt:=lZ c.la;have hw4:IntKind.i64.wrap (4*bF c.la)=4*bF c.la:=by exact yJ
   replace Cw:=hid Cw;replace hlen:=hid hlen;clear Yt;go_upto_region 6 with fail;clear q1;have hbd:=Below.drew (Below.refl wr.heap.size wr);replace X:=X.below hbd;replace hB:=hB.below hbd;replace BS:=BS.below hbd;replace oP:=oP.below hbd;replace hP:nK wr.drew l:=fun q h=>by obtain ⟨k,e,H⟩:=hP q h;exact ⟨k,e,H.below hbd⟩
   replace ho:=ho.next hbd;replace hs:=Nat.le_trans hs hbd.size;refine wp_region_held_drew (S:=fun w'=>Below wr.drew.heap.size wr.drew w') aW (Below.refl _ _) ?_;intro hHeld;generalize wr.drew=wd at *;clear hbd;have d1:∀wx,Below wd.heap.size wd wx→wx.cell? ⟨gc,0,none⟩=some (.int .u64 c.cl):=fun wx hx=>(X.below hx).cell 0 _ rfl;have d2:∀wx,Below wd.heap.size wd wx→wx.cell? ⟨gc,9,none⟩=some (.int .i64 c.la):=fun wx hx=>(X.below hx).cell 9 _ rfl;refine tk [0,1,2,3,4,5] hHeld ?_;refine aR 6 fun K' hK=>?_;go_simp;refine (Ao c.la wd).mono ?_;rintro e wz ⟨rfl,rfl⟩;refine hK.out _ _ hHeld ?_;clear hK K';try simp only [Act.put,zI,bG,zS]
   refine tk [7] hHeld ?_;refine aR 8 fun K' hK=>?_;go_simp;refine (EM c.cl ((j:Int)+1) (4*bF c.la) wd).mono ?_;rintro e w3 ⟨gT,rfl,lT,BT,b3⟩;replace hHeld:=b3;refine hK.out _ _ hHeld ?_;clear hK K';try simp only [Act.put,zI,bG,zS]
   refine rt 9 hHeld ?_ (hy:=fun wx hwx=>bg _ _ rfl _ rfl (w_ gT zq zq).toArray aW);refine aR 10 fun K' hK=>?_;go_simp;have z2:=aA w3 (Obj.cells (w_ gT zq zq).toArray 103);have BP:=ak.new w3 (w_ gT zq zq) 103;have nT:gT≠w3.heap.size:=Nat.ne_of_lt BT.lt;replace BT:=BT.below z2;have hH4:=hHeld.trans (z2.mono hHeld.size);refine hK.out _ (w3.alloc (Obj.cells (w_ gT zq zq).toArray 103)) hH4 ?_;clear hK K' z2;replace hHeld:=hH4;clear hH4;have lP:wd.heap.size≤w3.heap.size:=b3.size;generalize w3.alloc (Obj.cells (w_ gT zq zq).toArray 103)=w4 at *;generalize w3.heap.size=gp at *;try simp only [Act.put,zI,bG,zS]
   refine tk [11] hHeld ?_;refine wpAnyH_done aW ?_ _;have hH:=hHeld;clear hHeld d1 d2 b3 lT;go_upto_region 7 with fail;have hbd:=Below.drew (Below.refl w4.heap.size w4);replace BP:=BP.below hbd;replace BT:=BT.below hbd;replace hH:=ah hH hbd;refine eU (S:=fun w'=>Below w4.drew.heap.size w4.drew w') (z:=9) aW ?_;have hHeld:=Below.refl w4.drew.heap.size w4.drew;generalize w4.drew=wd7 at *;clear hbd;have d1:∀wx,Below wd7.heap.size wd7 wx→wx.cell? ⟨gc,2,none⟩=some (.int .i64 c.dm):=fun wx hx=>(X.below (ah hH hx)).cell 2 _ rfl;refine tz [0,1,2,4,5] hHeld ?_;refine aZ 3 fun K' hK=>?_;go_simp;refine (zy g c.cl (j:Int) wd7 ((hB.below hH).cell 0 _ rfl) Cw.out).mono ?_;rintro e w7 ⟨rfl,b7⟩;replace hHeld:=hHeld.trans (b7.mono hHeld.size);clear b7;refine hK _ _ hHeld ?_;clear hK K';try simp only [Act.put,zI,bG,zS]
   refine zt 6 hHeld ?_ (hy:=fun wx hwx=>bg _ _ rfl _ rfl (Au.enc (c.cl,(j:Int)+1,c.dm)).toArray aW);refine aZ 7 fun K' hK=>?_;go_simp;refine hK _ _ hHeld ?_;clear hK K';try simp only [Act.put,zI,bG,zS]
   refine tz [8] hHeld ?_;refine aE 9 fun K' hK=>?_;have Ul:=BP.below hHeld;refine xrdT.Lv _ _ rfl gp 59 (c.cl,(j:Int)+1,c.dm) _ _ rfl rfl Ul (by rw [uU];decide) ?_;refine hK _ _ ?_;clear hK K';have Yu:=Yq (x':=(c.cl,(j:Int)+1,c.dm)) Ul;have Yv:=ak.gD nT (Au.enc (c.cl,(j:Int)+1,c.dm)) 59 _ (BT.below hHeld);have Yw:=kP lP (Au.enc (c.cl,(j:Int)+1,c.dm)) 59 _ (ah hH hHeld);clear Ul BP BT hH hHeld d1;generalize World.setCells _ _ _ _=Um at *;have BP:=Yu;have BT:=Yv;have hH:=Yw;clear Yu Yv Yw;go_upto_region 8 with fail;have hbd:=Below.drew (Below.refl Um.heap.size Um);replace BP:=BP.below hbd;replace BT:=BT.below hbd;replace hH:=ah hH hbd;refine eU (S:=fun w'=>Below Um.drew.heap.size Um.drew w') (z:=9) aW ?_;have hHeld:=Below.refl Um.drew.heap.size Um.drew;generalize Um.drew=wd8 at *;clear hbd;have d1:∀wx,Below wd8.heap.size wd8 wx→wx.cell? ⟨gc,2,none⟩=some (.int .i64 c.dm):=fun wx hx=>(X.below (ah hH hx)).cell 2 _ rfl;refine tz [0,1,2,4,5] hHeld ?_;refine aZ 3 fun K' hK=>?_;go_simp;refine (zy g c.cl (j:Int) wd8 ((hB.below hH).cell 0 _ rfl) Cw.out).mono ?_;rintro e w8 ⟨rfl,b7⟩;replace hHeld:=hHeld.trans (b7.mono hHeld.size);clear b7;refine hK _ _ hHeld ?_;clear hK K';try simp only [Act.put,zI,bG,zS]
   refine zt 6 hHeld ?_ (hy:=fun wx hwx=>bg _ _ rfl _ rfl (Av.enc (c.cl,(j:Int)+1,c.dm)).toArray aW);refine aZ 7 fun K' hK=>?_;go_simp;refine hK _ _ hHeld ?_;clear hK K';try simp only [Act.put,zI,bG,zS]
   refine tz [8] hHeld ?_;refine aE 9 fun K' hK=>?_;have Ul:=BP.below hHeld;refine yrdT.Lv _ _ rfl gp 66 (c.cl,(j:Int)+1,c.dm) _ _ rfl rfl Ul (by rw [uU];decide) ?_;refine hK _ _ ?_;clear hK K';have Yu:=Yr (y':=(c.cl,(j:Int)+1,c.dm)) Ul;have Yv:=ak.gD nT (Av.enc (c.cl,(j:Int)+1,c.dm)) 66 _ (BT.below hHeld);have Yw:=kP lP (Av.enc (c.cl,(j:Int)+1,c.dm)) 66 _ (ah hH hHeld);clear Ul BP BT hH hHeld d1;generalize World.setCells _ _ _ _=wz8 at *;have BP:=Yu;have BT:=Yv;have hH:=Yw;clear Yu Yv Yw;go_upto_region 9 with fail;have hc:=BP.cell 103 (.int .i64 0) rfl;have hf:=BP.free 103;go_upto_region 10 with fail;clear hc hf;replace BP:=BP.set 103 (.int .i64 (-1));replace BT:=BT.other nT 103 (.int .i64 (-1));replace hH:=hH.setCell (p:=⟨gp,103,none⟩) lP (.int .i64 (-1));generalize World.setCell _ _ _=wt at *;have PR:LA wt gp:=⟨_,gT,_,_,_,BP,rfl,rfl,rfl,BT⟩;clear BP BT;have hP2:nK wt l:=fun q h=>by obtain ⟨k,e,H⟩:=hP q h;exact ⟨k,e,H.below hH⟩
   replace X:=X.below hH;replace hB:=hB.below hH;replace BS:=BS.below hH;replace oP:=oP.below hH;replace ho:=ho.next hH;replace hs:=Nat.le_trans hs hH.size;clear hP hH;have q1:=aA wt (Obj.cells #[.pointer (some ⟨gp,0,none⟩)] 104);have r1:rA.Reads (wt.alloc (Obj.cells #[.pointer (some ⟨gp,0,none⟩)] 104)) (.slice (some ⟨wt.heap.size,0,none⟩) 1 1) [some ⟨gp,0,none⟩]:=RowK.Reads.one rA wt 104 (some ⟨gp,0,none⟩) rfl;have oP1:=oP.below q1;have ER:=Nat.le_trans hs q1.size;have hB1:=hB.below q1;have c42:=hB.cell 42 v rfl;have hl8:l.length+[some (⟨gp,0,none⟩:Addr)].length≤140737488355328:=by rw [hlen.out];show j+1≤_;omega
   have hl9:(l.length+[some (⟨gp,0,none⟩:Addr)].length)*8≤140737488355328:=by rw [hlen.out];show (j+1)*8≤_;omega
   have hg42:(88:TypeId)≠104:=by decide
   go_wp2_with (at_builtin;refine RowK.bX rA underlying86 Jj rfl (o:=⟨some 74,_,_,_,_,_⟩) rfl _ _ rfl rfl w.heap.size _ _ l [some ⟨gp,0,none⟩] rfl rfl oP1 r1 hl9 hl8 ER ?_;intro vP w3 oP3 b3 k3;(obtain ⟨pP,nP,cP,rfl⟩:∃p n c,vP=.slice p n c:=(by obtain ⟨p,c,e,_⟩:=oP3.reads;exact ⟨_,_,_,e⟩));have hB3:=hB1.kept k3 hg42;have c3:=hB3.cell 42 v rfl;have f3:=hB3.free 42);have hP3:nK w3 (l++[some ⟨gp,0,none⟩]):=fun q h=>by
    rcases List.mem_append.1 h with h | h
    ·obtain ⟨k,e,H⟩:=hP2 q h;exact ⟨k,e,(H.below q1).kept k3 aX aX⟩
    ·exact ⟨gp,List.mem_singleton.1 h,(PR.below q1).kept k3 aX aX⟩
   have o4:=(Only.refl g w3).cell 42 (.slice pP nP cP);have oP4:=oP3.only o4 hB3 aX;have hP4:nK (w3.setCell ⟨g,42,none⟩ (.slice pP nP cP)) (l++[some ⟨gp,0,none⟩]):=fun q h=>by obtain ⟨k,e,H⟩:=hP3 q h;exact ⟨k,e,H.other hB3 aX aX 42 (.slice pP nP cP)⟩
   have X4:=((X.below q1).kept k3 aX).other ngc 42 (.slice pP nP cP);have S4:=((BS.below q1).kept k3 aX).other nS 42 (.slice pP nP cP);have hB4:ak (w3.setCell ⟨g,42,none⟩ (.slice pP nP cP)) g (OP c gS gF (.slice pP nP cP)) 88:=hB3.set 42 (.slice pP nP cP);have Xy:=(LC (ho.next q1) b3 ER).cell 42 (.slice pP nP cP);have hs4:w.heap.size≤(w3.setCell ⟨g,42,none⟩ (.slice pP nP cP)).heap.size:=Xy.size;clear hP3 o4 X BS hB1 hB hB3 c3 f3 c42 oP oP1 oP3 r1 b3 k3 ho hP2 PR q1 ER;go_roundw;case rel=>exact ⟨j+1,(.slice pP nP cP),l++[some ⟨gp,0,none⟩],by omega,by go_num,hB4,oP4,by rw [List.length_append,hlen.out];rfl,hP4,X4,S4,Xy,hs4⟩
   case measure=>exact vZ
  ·obtain rfl:n=j:=by omega
   go_wp2_with fail;go_end0;exact ⟨rfl,ho,gS,gF,v,xs,l,hB,BS,hx4.out,oP.reads,by rw [hlen,hn.out],hP⟩
theorem Df (c:Cf) (hc:gJ c) (w:World):Calls prog 8 #[.agg (bT.enc c).toArray] w fun e w'=>∃g gS gF v xs l,e=.returned (.tuple #[.pointer (some ⟨g,0,none⟩),.int .i64 0])∧w.heap.size≤g∧ak w' g (OP c gS gF v) 88∧ak w' gS xs 91∧xs[4]? = some (.int .i64 0)∧rA.Reads w' v l∧(l.length:Int)=c.po∧nK w' l∧Below w.heap.size w w':=by have hE:bP c=0:=if_pos hc;have hpo:1≤c.po∧c.po≤8:=hc.2.2.1;have z:=aA w (Obj.cells (bT.enc c).toArray 28);have X:=ak.new w (bT.enc c) 28;go_enter func8,ntmps8;go_upto_region 1 with fail;change Code.wp prog _ _ _ (w.alloc (Obj.cells (bT.enc c).toArray 28));obtain ⟨gx,hgx⟩:∃gx,w.heap.size=gx:=⟨_,rfl⟩;rw [hgx] at X;rw [show (Value.pointer (some ⟨w.heap.size,0,none⟩))=Value.pointer (some ⟨gx,0,none⟩) by rw [hgx]];generalize w.alloc (Obj.cells (bT.enc c).toArray 28)=W at *;clear hgx;have RX:=X.b_;go_wp2_with (refine aD 6 ?_;refine Aw.aL gx 0 (c) RX ?_);refine (rO c _).mono ?_;rintro e w1 ⟨rfl,b1⟩;rw [hE];replace X:=X.below b1;replace z:=ah z b1;clear RX b1;have z2:=aA w1 (Obj.cells EP.toArray 88);have hN:=ak.new w1 EP 88;go_upto_region 5 with (refine aD 11 ?_;refine aB (EP).toArray ?_);change Code.wp prog _ _ _ (w1.alloc (Obj.cells EP.toArray 88));replace X:=X.below z2;have lg:=z.size;replace z:=ah z z2;clear z2;generalize w1.alloc (Obj.cells EP.toArray 88)=W2 at *;generalize w1.heap.size=gk at *;have RX:=X.b_;go_wp2_with (refine aD 14 ?_;refine Aw.aL gx 0 (c) RX ?_);refine (Ay c hpo gk W2 hN).mono ?_;rintro e w3 ⟨rfl,ho,gS,gF,v,xs,l,B,BS,h4,hR,hl,hP⟩;have hb:=Only.below z ho lg z.size;clear X RX z hN ho;go_wp2_with fail;go_ret2;exact ⟨gk,gS,gF,v,xs,l,rfl,lg,B,BS,h4,hR,hl,hP,hb⟩
theorem ES (c:Cf) (hc:¬gJ c) (w:World):Calls prog 8 #[.agg (bT.enc c).toArray] w fun e w'=>e=.returned (.tuple #[.pointer none,.int .i64 15])∧Below w.heap.size w w':=by have hE:bP c=15:=if_neg hc;have z:=aA w (Obj.cells (bT.enc c).toArray 28);have X:=ak.new w (bT.enc c) 28;go_enter func8,ntmps8;go_upto_region 1 with fail;change Code.wp prog _ _ _ (w.alloc (Obj.cells (bT.enc c).toArray 28));obtain ⟨gx,hgx⟩:∃gx,w.heap.size=gx:=⟨_,rfl⟩;rw [hgx] at X;rw [show (Value.pointer (some ⟨w.heap.size,0,none⟩))=Value.pointer (some ⟨gx,0,none⟩) by rw [hgx]];generalize w.alloc (Obj.cells (bT.enc c).toArray 28)=W at *;clear hgx;have RX:=X.b_;go_wp2_with (refine aD 6 ?_;refine Aw.aL gx 0 (c) RX ?_);refine (rO c _).mono ?_;rintro e w1 ⟨rfl,b1⟩;rw [hE];replace X:=X.below b1;replace z:=ah z b1;clear RX b1;go_wp2_with fail;go_ret2;exact ⟨rfl,z⟩
section
structure Rc where
 v:Vc
 ut:Int
 fl:Int
 og:Int
 sq:Int
 fi:Int
 la:Int
structure Ft where
 own:Int
 port:Int
 win:Int
 l:List Rc
def jF (r:Rc):List Value:=dF r.v++[.int .i64 r.ut,.int .i64 r.fl,.int .i64 r.og,.int .i64 r.sq,.int .i64 r.fi,.int .i64 r.la]
theorem ET (r:Rc):(jF r).length=17:=rfl
theorem PE (r:Rc):∀v ∈ jF r,v.oneCell'=true:=by
 intro v hv;unfold jF at hv;rcases List.mem_append.1 hv with h | h
 ·exact Aj _ v h
 ·simp only [List.mem_cons,List.mem_nil_iff,or_false] at h;rcases h with rfl | rfl | rfl | rfl | rfl | rfl <;> rfl
def aV:RowK Rc:=⟨jF,17,by decide,ET,PE⟩
def au:Rc:=⟨zeroV,0,0,0,0,0,0⟩
def nZ (x:Int):Int:=if x<1 then 1 else if 1048576<x then 1048576 else x
def PG (t:Ft) (h:Hd) (d:Bd) (fi now:Int):Rc:=⟨⟨d.p1,d.qc,d.qa,d.qv,d.p2,d.gr,d.sr,h.sc,h.sp,t.own,t.port⟩,d.ut,h.fl % 64,d.og,h.sq,fi,now⟩
def Un (r:Rc) (sq now:Int):Prop:=(r.sq - sq) % 65536≤32767∨now<r.la
instance (r:Rc) (sq now:Int):Decidable (Un r sq now):=by unfold Un;exact inferInstance
def Dg (t:Ft) (h:Hd) (d:Bd) (now:Int):List Rc→Nat→List Rc×Int
 | [],n=>if 5≤n then ([],7) else ([PG t h d (-1) now],0)
 | r::rs,n=>if r.v.sc=h.sc∧r.v.sp=h.sp then (if Un r h.sq now then (r::rs,9) else (PG t h d r.la now::rs,0)) else (r::(Dg t h d now rs (n+1)).1,(Dg t h d now rs (n+1)).2)
def Hg (t:Ft) (h:Hd) (d:Bd) (now:Int):Int:=
 if h.ty≠11 then 5 else if now<0∨1099511627776<now then 1 else if h.sc=t.own∨255≤d.sr∨(h.fl / 256) % 2=1 then 11 else (Dg t h d now t.l 0).2
def Ho (t:Ft) (h:Hd) (d:Bd) (now:Int):Ft:=
 if h.ty≠11 then t else if now<0∨1099511627776<now then t else if h.sc=t.own∨255≤d.sr∨(h.fl / 256) % 2=1 then t else { t with l:=(Dg t h d now t.l 0).1 }
def pR (win at' now:Int):Bool:=decide (0≤at'∧(now≤at'∨now - at'<win))
def jq (t:Ft) (now:Int):Ft:={ t with l:=t.l.filter fun r=>pR t.win r.la now }
def n_ (t:Ft) (now:Int):List Rc:=t.l.filter fun r=>pR t.win r.fi now
def l6 (l:List Rc):Int:=cO (l.map (·.v)) l.length
def zA (l:List Rc):Rc:=if l6 l<0 then au else l.getD (l6 l).toNat au
def qj (R:List Value→Ft→Prop) (w:World) (g:Nat) (t:Ft):Prop:=∃xs,ak w g xs 169∧R xs t
variable {R:List Value→Ft→Prop}
theorem qj.lt {w:World} {g:Nat} {t:Ft} (h:qj R w g t):g<w.heap.size:=by obtain ⟨xs,hB,-⟩:=h;exact hB.lt
theorem qj.below {t:Ft} (h:qj R w g t) (hb:Below w.heap.size w w'):qj R w' g t:=by exact KY
theorem qj.setCell {w:World} {g:Nat} {t:Ft} (h:qj R w g t) {k:Nat} (hk:g≠k) (i:Nat) (v:Value):qj R (w.setCell ⟨k,i,none⟩ v) g t:=by exact TN
def Yx (R:List Value→Ft→Prop):Prop:=∀(own port win:Int) (w:World),0≤own∧own<18446744073709551616 →
 Calls prog 98 #[.int .u64 own,.int .i64 port,.int .i64 win] w fun e w'=>∃g,e=.returned (.pointer (some ⟨g,0,none⟩))∧w.heap.size≤g∧qj R w' g ⟨own,port,nZ win,[]⟩∧Below w.heap.size w w'
def Yy (R:List Value→Ft→Prop):Prop:=∀(g:Nat) (t:Ft) (w:World),qj R w g t →
 Calls prog 46 #[.pointer (some ⟨g,0,none⟩)] w fun e w'=>∃v,e=.returned v∧aV.Reads w' v t.l∧Below w.heap.size w w'
def Uo (R:List Value→Ft→Prop):Prop:=∀(g:Nat) (t:Ft) (now:Int) (w:World),qj R w g t →
 Calls prog 165 #[.pointer (some ⟨g,0,none⟩),.int .i64 now] w fun e w'=>∃v,e=.returned v∧aV.Reads w' v (n_ t now)∧Below w.heap.size w w'
def Yz (R:List Value→Ft→Prop):Prop:=∀(g:Nat) (t:Ft) (now:Int) (w:World),qj R w g t →
 Calls prog 105 #[.pointer (some ⟨g,0,none⟩),.int .i64 now] w fun e w'=>e=.returned (.tuple #[])∧qj R w' g (jq t now)∧Only g w w'
def Uq (R:List Value→Ft→Prop):Prop:=∀(g:Nat) (t:Ft) (now:Int) (w:World),qj R w g t →
 Calls prog 111 #[.pointer (some ⟨g,0,none⟩),.int .i64 now] w fun e w'=>e=.returned (.tuple #[.agg (jF (zA (n_ t now))).toArray,.bool (decide (0≤l6 (n_ t now)))])∧Below w.heap.size w w'
def PI (R:List Value→Ft→Prop):Prop:=∀(g:Nat) (t:Ft) (w:World),qj R w g t →
 Calls prog 196 #[.pointer (some ⟨g,0,none⟩)] w fun e w'=>e=.returned (.tuple #[])∧qj R w' g { t with l:=[] }∧Only g w w'
end
section
def bH (x:Int):Int:=if x<1 then 1 else if 1073741824<x then 1073741824 else x
def dw (n:Int):Int:=if n=0 then 0 else n - 1
def LD (R:List Value→Int→Prop) (w:World) (g:Nat) (n:Int):Prop:=∃xs,ak w g xs 123∧R xs n
variable {R:List Value→Int→Prop}
theorem LD.lt {w:World} {g:Nat} {n:Int} (h:LD R w g n):g<w.heap.size:=by obtain ⟨xs,hB,-⟩:=h;exact hB.lt
theorem LD.below {n:Int} (h:LD R w g n) (hb:Below w.heap.size w w'):LD R w' g n:=by exact KY
theorem LD.only {w w':World} {g k:Nat} {n:Int} (h:LD R w g n) (ho:Only k w w') (hk:g≠k):LD R w' g n:=by obtain ⟨xs,hB,hR⟩:=h;exact ⟨xs,hB.only ho hk,hR⟩
theorem LD.setCell {w:World} {g:Nat} {n:Int} (h:LD R w g n) {k:Nat} (hk:g≠k) (i:Nat) (v:Value):LD R (w.setCell ⟨k,i,none⟩ v) g n:=by exact TN
def InT (n:Int):Prop:=0≤n∧n≤1073741824
end
section
structure Ms where
 s:Option ((Hd×Bd)×Int)
 f:Option (Hd×Bd)
def j3:Ms:=⟨none,none⟩
def Ur (fl:Int):Bool:=bits .and .i64 fl 512 != 0
def zB (at' st co:Int):Int:=wrap64 (wrap64 (at' - st) - co / 65536)
def tQ (y x:Hd×Bd):Bool:=y.1.sq == x.1.sq && (y.1.sc == x.1.sc && y.1.sp == x.1.sp)
def Sc (m:Ms) (x:Hd×Bd) (at':Int):Ms:=
 if x.1.ty≠0 then m else if Ur x.1.fl=false then m else match m.f with
  | some y=>if tQ y x then j3 else { m with s:=some (x,at') }
  | none=>{ m with s:=some (x,at') }
def Sd (m:Ms) (x:Hd×Bd) (at':Int):Int:=
 if x.1.ty≠0 then 0 else if Ur x.1.fl=false then zB at' x.2.st x.1.co else match m.f with
  | some y=>if tQ y x then zB at' y.2.st (EJ x.1.co y.1.co) else 0
  | none=>0
def YA (m:Ms) (x:Hd×Bd):Bool:=
 if x.1.ty≠0 then false else if Ur x.1.fl=false then true else match m.f with
  | some y=>tQ y x
  | none=>false
def Sg (m:Ms) (x:Hd×Bd):Ms:=
 if x.1.ty≠8 then m else match m.s with
  | some (y,_)=>if tQ y x then j3 else { m with f:=some x }
  | none=>{ m with f:=some x }
def Si (m:Ms) (x:Hd×Bd):Int:=
 if x.1.ty≠8 then 0 else match m.s with
  | some (y,at')=>if tQ y x then zB at' x.2.st (EJ y.1.co x.1.co) else 0
  | none=>0
def YB (m:Ms) (x:Hd×Bd):Bool:=
 if x.1.ty≠8 then false else match m.s with
  | some (y,_)=>tQ y x
  | none=>false
def bR (a:Int):Int:=(a+1) % 65536
theorem LG (a:Int):0≤bR a∧bR a≤65535:=by unfold bR;omega
theorem PK {a s c:Int} (ha:0≤a∧a≤4000000000000000) (hs:0≤s∧s≤4000000000000000) (hc : -9223372036854775808≤c∧c≤9223372036854775807):zB a s c=a - s - c / 65536:=by unfold zB wrap64;omega
section
variable {m:Ms} {x y:Hd×Bd} {at' t:Int}
end
def YC:Prop:=∀(a:Int) (w:World),-9223372036854775808≤a∧a≤9223372036854775807→Calls prog 132 #[.int .i64 a] w fun e w'=>e=.returned (.int .i64 (bR a))∧Below w.heap.size w w'
abbrev Wo (R:List Value→Ms→Prop) (w:World) (g:Nat) (m:Ms):Prop:=bY 256 R w g m
def YD (R:List Value→Ms→Prop):Prop:=∀(w:World),
 Calls prog 99 #[] w fun e w'=>∃g,e=.returned (.pointer (some ⟨g,0,none⟩))∧w.heap.size≤g∧Wo R w' g j3∧Below w.heap.size w w'
def YE (R:List Value→Ms→Prop):Prop:=∀(g:Nat) (m:Ms) (w:World),Wo R w g m →
 Calls prog 213 #[.pointer (some ⟨g,0,none⟩)] w fun e w'=>e=.returned (.tuple #[])∧Wo R w' g j3∧Only g w w'
end
section
structure Ps where
 me:Int×Int
 dm:Int
 out:Option Int
 went:Option Int
 held:Option ((Hd×Bd)×Int)
 sp:Bool
def LH (x:Ps):Ps:=⟨x.me,x.dm,none,none,none,false⟩
def qo (x:Ps) (n:Int):Hd×Bd:=(⟨2,x.dm,0,0,x.me.1,x.me.2,n % 65536,127⟩,vC)
def uN (x:Ps) (n:Int):Ps:=⟨x.me,x.dm,some (n % 65536),none,none,false⟩
def Us (x:Ps) (n:Int):Bool:=match x.out,x.went with
 | some s,none=>n == s
 | _,_=>false
def qP (x:Ps) (n at':Int):Ps:=if Us x n then { x with went:=some at' } else x
def Ut (x:Ps) (m:Hd×Bd):Bool:=match x.out,x.went with
 | some s,some _=>m.1.ty == 3 && (m.2.tc == x.me.1 && m.2.tp == x.me.2) && m.1.sq == s
 | _,_=>false
def xg (x:Ps) (m:Hd×Bd) (at':Int):Ps:=if Ut x m then (if x.held.isNone then { x with held:=some (m,at') } else { x with sp:=true }) else x
def Hq (x:Ps) (m:Hd×Bd):Bool:=match x.out,x.went,x.held with
 | some s,some _,some (r,_)=>m.1.ty == 10 && (m.2.tc == x.me.1 && m.2.tp == x.me.2) && (!x.sp) && m.1.sq == s && (m.1.sc == r.1.sc && m.1.sp == r.1.sp)
 | _,_,_=>false
def Ht (x:Ps) (m:Hd×Bd):Int:=match x.went,x.held with
 | some t,some (r,c)=>if Hq x m then wrap64 (wrap64 (wrap64 (c - t) - wrap64 (m.2.st - r.2.st)) - EJ r.1.co m.1.co / 65536) / 2 else 0
 | _,_=>0
def xk (x:Ps) (m:Hd×Bd):Ps:=if Hq x m then LH x else x
def Hu (m:Hd×Bd) (at':Int):Bool:=m.1.ty == 2 && qh at'
def YF (m:Hd×Bd) (me:Int×Int) (at':Int):Hd×Bd:=if Hu m at' then (⟨3,m.1.dm,512,m.1.co,me.1,me.2,m.1.sq,127⟩,{ vC with st:=at',tc:=m.1.sc,tp:=m.1.sp }) else bO
def YG (m:Hd×Bd) (me:Int×Int) (at':Int):Hd×Bd:=if Hu m at' then (⟨10,m.1.dm,0,0,me.1,me.2,m.1.sq,127⟩,{ vC with st:=at',tc:=m.1.sc,tp:=m.1.sp }) else bO
theorem YH:dB iw 54:=⟨⟨_,underlying54,rfl⟩,by kernel_rfl⟩
section
variable {x:Ps} {m r:Hd×Bd} {n s t c at':Int}
end
abbrev LJ (R:List Value→Ps→Prop) (w:World) (g:Nat) (x:Ps):Prop:=bY 234 R w g x
def YI (R:List Value→Ps→Prop):Prop:=∀(me:Int×Int) (dm:Int) (w:World),0≤me.1∧me.1<18446744073709551616 →
 Calls prog 101 #[.agg (iw.enc me).toArray,.int .i64 dm] w fun e w'=>∃g,e=.returned (.pointer (some ⟨g,0,none⟩))∧w.heap.size≤g∧LJ R w' g ⟨me,dm,none,none,none,false⟩∧Below w.heap.size w w'
def YJ (R:List Value→Ps→Prop):Prop:=∀(g:Nat) (x:Ps) (n:Int) (w:World),LJ R w g x→-9223372036854775808≤n∧n≤9223372036854775807 →
 Calls prog 175 #[.pointer (some ⟨g,0,none⟩),.int .i64 n] w fun e w'=>e=.returned (.agg (eu.enc (qo x n)).toArray)∧LJ R w' g (uN x n)∧Only g w w'
end
end Go.Proofs.YtofhdhgfcomhiaaGreat
