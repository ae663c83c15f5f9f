/- Of what laws of the clock want, part 11: Clk ClkFit Foot ClkC ClkHar ClkEv ClkEv2 ClkPl ClkAl ClkBeg ClkSame (mini.py). -/
import Derived.Test.YtofhdhgfcomhiaaGreatCf10
namespace Go.Proofs.YtofhdhgfcomhiaaGreat
open Go.RowKit Go.Proofs
set_option maxRecDepth 100000
set_option maxHeartbeats 100000000
set_option linter.unusedVariables false
set_option linter.unusedSimpArgs false
open Tryz
variable {B:Nat} {P:Program} {Q:Exit→Act→World→Prop} {S:World→Prop} {a:Act} {b:Nat} {base:Nat} {cap:Nat} {fuel:Nat} {g:Nat} {h:Nat} {i:Nat} {l:List UInt8} {listed:Array Bool} {n:Nat} {now:Int} {o:Oper} {oi:Oper} {op:Oper} {ops:Array Oper} {p:Prop} {rest:List Oper} {t:TypeId} {v:Value} {w:World} {w':World} {xs:List Value} {α:Type}
structure Ev where
 kd:Int
 po:Int
 nw:Int
 ty:Int
 sq:Int
 bs:List UInt8
 cf:Cf
structure Ot where
 kd:Int
 po:Int
 n:Int
 wa:Bool
 ty:Int
 sq:Int
 bs:List UInt8
structure Pt where
 st:Int
 tab:Ft
 kK:List ((Int×Int)×List Int)
 tr:Int
 tq:Int
 ta:Int
 ts:Int
 tk:Int
 na:Int
 ns:Int
 nk:Int
 m:Ms
 x:Xs
 y:Ps
 df:Option Int
 pr:Option Int
 last:Option (Hd×Bd)
structure Kz where
 c:Cf
 tk:Int
 dr:Int
 pa:Pa
 sv:Sv
 fl:Nat×List Int
 off:Int
 de:Option Int
 ls:List Pt
def nR (t:Int):Int:=ng t 0 4000000000000000
def nu (c:Cf) (i:Nat):Int×Int:=(c.cl,(i:Int)+1)
def gK (c:Cf) (i:Nat):Pt:=
 { st:=1,tab:=⟨c.cl,(i:Int)+1,nZ (4*bF c.la),[]⟩,kK:=[],tr:=0,tq:=0,ta:=0,ts:=0,tk:=0,na:=0,ns:=0,nk:=0,m:=j3,x:=⟨nu c i,c.dm,none⟩,y:=⟨nu c i,c.dm,none,none,none,false⟩,df:=none,pr:=none,last:=none }
def ay (c:Cf):Kz:=⟨c,0,0,eH c,uV c.kp c.ki c.st,(lq c.md,[]),0,none,(List.range c.po.toNat).map (gK c)⟩
def xG (k:Kz):Kz:={ k with dr:=k.dr+1 }
def iY (i:Nat) (m:Hd×Bd) (l:List T2) (want:Bool):List Ot:=if jg m.1 m.2 l then [⟨1,(i:Int)+1,0,want,m.1.ty,m.1.sq,qU m.1 m.2 l⟩] else []
def tZ (s:Int) (p:Pt):Pt:={ p with st:=s,tab:={ p.tab with l:=[] },kK:=[],tr:=0,tq:=0,ta:=0,ts:=0,tk:=0,m:=j3,x:={ p.x with out:=none },y:=LH p.y,df:=none,pr:=none }
def zH (k:Kz) (i:Nat) (ev:Int):Kz:=match k.ls[i]? with
 | none=>k
 | some p=>if dR p.st ev k.c.so=p.st then k else { k with pa:=if oh p.st then eH k.c else k.pa,ls:=k.ls.set i (tZ (dR p.st ev k.c.so) p) }
def qV (c:Cf) (p:Pt):Pt:={ p with tr:=0,tq:=0,tk:=if c.pe then p.tk else 0,ta:=1,ts:=1 }
def mo (c:Cf) (p:Pt):Pt:={ p with tr:=bH (c.tm*bF c.la) }
def gN (now:Int) (p:Pt):Pt:=if dD p.st then { p with tab:=jq p.tab now } else p
def zJ (c:Cf) (p:Pt):Pt:=
 if dR p.st 4 c.so=6 then qV c { p with tr:=0,tab:={ p.tab with l:=[] },kK:=[],st:=dR p.st 4 c.so }
 else mo c { p with tr:=0,tab:={ p.tab with l:=[] },kK:=[],st:=dR p.st 4 c.so }
def countP (c:Cf) (now:Int) (p:Pt):Pt×Bool:=
 if p.st=1 then ({ mo c p with st:=4,tk:=if c.pe then 1 else p.tk },false)
 else if dL p.st then (if p.tr=1 then (zJ c (gN now p),oh p.st) else ({ gN now p with tr:=dw p.tr },false))
 else if p.st=5 then (if p.tq=1 then (qV c { gN now p with tq:=0,st:=6 },false) else ({ gN now p with tq:=dw p.tq },false))
 else (gN now p,false)
def xH (k:Kz):Kz:={ k with ls:=k.ls.map fun p=>(countP k.c k.tk p).1,pa:=if k.ls.any (fun p=>(countP k.c k.tk p).2) then eH k.c else k.pa }
def iP (now:Int) (p:Pt):Option Rc:=if dD p.st && decide (0≤l6 (n_ p.tab now)) then some (zA (n_ p.tab now)) else none
def FC (r:Option Rc):Pa:=match r with
 | some r=>vD r.v ⟨r.ut,r.fl,r.og⟩
 | none=>vD zeroV ⟨0,0,0⟩
def gI (k:Kz):List Int:=l5 (Am k.c) (k.ls.map fun p=>dD p.st && p.st == 4) (k.ls.map fun p=>(iP k.tk p).map Rc.v)
def qW (k:Kz):Pa:=((gI k).zip (k.ls.map (iP k.tk))).foldl (fun a x=>if x.1=6 then FC x.2 else a) (eH k.c)
def oG (k:Kz):Bool:=(qW k).pc == k.pa.pc && (qW k).pp == k.pa.pp
def qw (c:Cf) (steps s:Int) (p:Pt):Pt:=
 let q:Pt:={ p with m:=j3,x:={ p.x with out:=none },df:=none,tr:=0,tq:=0,ta:=0,ts:=0,tk:=if c.pe then p.tk else 0,st:=s }
 if s=6 then qV c q else if s=5 then { q with tq:=bH ((steps+1)*bF c.la) }
 else { mo c q with tk:=if s=8∧c.pe=false then 1 else q.tk }
def dX (c:Cf) (steps:Int) (same:Bool) (d:Int) (p:Pt):Pt:=
 if dD p.st=false then p
 else if dz p.st d same c.so≠p.st∨(dz p.st d same c.so=8∧d=6∧same=false) then qw c steps (dz p.st d same c.so) p else p
def pV (k:Kz):Kz:=
 { k with ls:=(k.ls.zip (gI k)).map fun x=>dX k.c (qW k).st (oG k) x.2 x.1,fl:=if oG k then k.fl else (k.fl.1,[]),de:=if oG k then k.de else none,pa:=qW k }
def rZ (l:List ((Int×Int)×List Int)) (a:Int×Int):List Int:=match l.find? (fun x=>x.1.1 == a.1 && x.1.2 == a.2) with
 | some x=>x.2
 | none=>[]
def iQ (a:Int×Int) (p:Pt):Bool:=p.tab.l.any fun r=>r.v.sc == a.1 && r.v.sp == a.2
def eG (k:Kz):List Int:=match k.ls.find? (iQ (k.pa.pc,k.pa.pp)) with
 | some p=>rZ p.kK (k.pa.pc,k.pa.pp)
 | none=>[]
def jr (k:Kz):List T2:=if k.c.tr && (kF (eG k++[k.c.cl])).2 then [(kF (eG k++[k.c.cl])).1] else []
def eX (k:Kz) (i:Nat) (p:Pt):Pt×List Ot:=
 if p.st=6 then (if p.ta=1 then ({ p with na:=bR p.na,ta:=bH (bF k.c.la) },iY i (wR k.c k.pa ((i:Int)+1) p.na) (jr k) false) else ({ p with ta:=dw p.ta },[])) else (p,[])
def Bw (c:Cf) (i:Nat) (n now:Int):Hd×Bd:=(⟨0,c.dm,if c.os then 0 else 512,0,c.cl,(i:Int)+1,n,c.ls⟩,{ vC with st:=if c.os then now else 0 })
def ig (k:Kz) (i:Nat) (now:Int) (p:Pt):Pt×List Ot:=
 if p.st=6 then (if p.ts=1 then ({ p with ns:=bR p.ns,ts:=bH (bF k.c.ls) },iY i (Bw k.c i p.ns now) [] (!k.c.os)) else ({ p with ts:=dw p.ts },[])) else (p,[])
def uM (c:Cf) (p:Pt):Bool:=if c.pe then dD p.st else oh p.st
def jk (k:Kz) (i:Nat) (p:Pt):Pt×List Ot:=
 if uM k.c p then
  (if p.tk=1 then
    (if k.c.pe then ({ p with x:={ p.x with dm:=k.c.dm },y:=uN { p.y with dm:=k.c.dm } p.nk,nk:=bR p.nk,tk:=bH (bF k.c.ld) },iY i (qo { p.y with dm:=k.c.dm } p.nk) [] true) else ({ p with x:=Cz { p.x with dm:=k.c.dm } p.nk,y:={ p.y with dm:=k.c.dm },nk:=bR p.nk,tk:=bH (bF k.c.ld) },iY i (yD { p.x with dm:=k.c.dm } p.nk) [] true))
   else ({ p with tk:=dw p.tk },[]))
 else (p,[])
def dI (k:Kz) (i:Nat) (now:Int) (p:Pt):Pt×List Ot:=
 ((jk k i (ig k i now (eX k i p).1).1).1,(eX k i p).2++((ig k i now (eX k i p).1).2++(jk k i (ig k i now (eX k i p).1).1).2))
def Ib (k:Kz) (now:Int):Kz×List Ot:=({ k with ls:=k.ls.mapIdx fun i p=>(dI k i now p).1 },(k.ls.mapIdx fun i p=>(dI k i now p).2).flatten)
def zK (k:Kz):Kz:={ k with tk:=min (k.tk+1) 1099511627776 }
def iR (k:Kz):Kz:=if k.tk % bF k.c.la=0 then pV k else k
def xI (k:Kz) (now:Int):Kz×List Ot:=Ib (iR (xH (zK k))) now
def MB (k:Kz) (i:Nat) (ty sq now:Int):Kz×List Ot:=match k.ls[i]? with
 | none=>(k,[])
 | some p=>
  if ty=0 then (k,if p.st=6∧k.c.os=false then iY i (⟨8,k.c.dm,0,0,k.c.cl,(i:Int)+1,sq,k.c.ls⟩,{ vC with st:=now }) [] false else [])
  else if ty=1 then ({ k with ls:=k.ls.set i { p with x:=Db p.x sq now } },[])
  else if ty=2 then ({ k with ls:=k.ls.set i { p with y:=qP p.y sq now } },[])
  else if ty=3 then (k,match p.last with
   | some m=>if m.1.sq=sq∧Hu m now=true then iY i (YG m (nu k.c i) now) [] false else []
   | none=>[])
  else (k,[])
def JA (x:Int):List Int→List Int
 | []=>[x]
 | y::t=>if x≤y then x::y::t else y::JA x t
def DF:List Int→List Int
 | []=>[]
 | x::t=>JA x (DF t)
def U4 (l:List Int):Int:=(DF l).getD ((l.length - 1) / 2) 0
def MC (p:Pt):Pt:={ p with m:=j3,x:={ p.x with out:=none },y:=LH p.y,df:=none }
def ME (so:Bool) (p:Pt):Pt:={ p with st:=dR p.st 6 so }
def U5 (n:Int):Ot:=⟨2,0,n,false,0,0,[]⟩
def U6 (n:Int):Ot:=⟨3,0,n,false,0,0,[]⟩
def Bz (c:Cf):Int:=bF c.ls*125000000
def BA (k:Kz) (i:Nat) (o:Int):Kz×List Ot:=
 if LU k.sv o then ({ k with off:=o,sv:=PN k.sv o (Bz k.c),fl:=(k.fl.1,[]),de:=none,ls:=(k.ls.map MC).modify i (ME k.c.so) },[U5 (byV k.sv o)])
 else ({ k with off:=o,sv:=PN k.sv o (Bz k.c),ls:=k.ls.modify i (ME k.c.so) },if frV k.sv o (Bz k.c)=k.sv.fq then [] else [U6 (frV k.sv o (Bz k.c))])
def Sy (k:Kz) (m:Hd×Bd):Bool:=m.1.sc == k.pa.pc && m.1.sp == k.pa.pp
def uY (s:Ms) (m:Hd×Bd) (now:Int):Ms:=if m.1.ty=8 then Sg s m else Sc s m now
def Y5 (s:Ms) (m:Hd×Bd):Bool:=if m.1.ty=8 then YB s m else YA s m
def zL (s:Ms) (m:Hd×Bd) (now:Int):Int:=if m.1.ty=8 then Si s m else Sd s m now
def BD (k:Kz) (p:Pt):Option Int:=if k.c.pe then p.pr else k.de
def BF (k:Kz) (i:Nat) (p:Pt) (m:Hd×Bd) (now:Int):Kz×List Ot:=
 if oh p.st && Sy k m then
  (if Y5 p.m m then
    (match BD k p with | some q=>BA { k with ls:=k.ls.set i { p with m:=uY p.m m now,df:=some (zL p.m m now) } } i (zL p.m m now - q) | none=>({ k with ls:=k.ls.set i { p with m:=uY p.m m now,df:=some (zL p.m m now) } },[]))
   else ({ k with ls:=k.ls.set i { p with m:=uY p.m m now } },[]))
 else (k,[])
def U7 (a b:Int):Bool:=decide (-4000000000000000≤a∧a≤4000000000000000) && decide (-4000000000000000≤b∧b≤4000000000000000)
def t_ (k:Kz) (i:Nat) (p:Pt) (m:Hd×Bd):Kz:=
 if oh p.st && (!k.c.pe && Sy k m) then
  (let k1:Kz:={ k with ls:=k.ls.set i { p with x:=wZ p.x m } };match p.df with | some a=>if Lu p.x m && U7 a (He p.x m) then { k1 with fl:=(k.fl.1,AB k.fl.1 k.fl.2 ((a+He p.x m) / 2)),de:=some (U4 (AB k.fl.1 k.fl.2 ((a+He p.x m) / 2))) } else k1 | none=>k1)
 else k
def MF (k:Kz) (i:Nat) (p:Pt) (m:Hd×Bd) (now:Int):Kz×List Ot:=
 if k.c.pe=false then (k,[])
 else if m.1.ty=2 then (if Hu m now then ({ k with ls:=k.ls.set i { p with last:=some m } },iY i (YF m (nu k.c i) now) [] true) else (k,[]))
 else if m.1.ty=3 then ({ k with ls:=k.ls.set i { p with y:=xg p.y m now } },[])
 else ({ k with ls:=k.ls.set i { p with y:=xk p.y m,pr:=if Hq p.y m then some (max (Ht p.y m) 0) else p.pr } },[])
def FD (k:Kz) (p:Pt) (m:Hd×Bd) (l:List T2):Option Pt:=
 let path:=(rY (xE l 8).1).1
 if path.any (fun z=>z == k.c.cl) then none
 else if Hg p.tab m.1 m.2 k.tk≠0 then none
 else
  let q:Pt:={ p with tab:=Ho p.tab m.1 m.2 k.tk,kK:=((m.1.sc,m.1.sp),path)::p.kK.filter (fun x=>!(x.1.1 == m.1.sc && x.1.2 == m.1.sp)) }
  some (if dL p.st then mo k.c q else q)
def MG (k:Kz) (j:Nat) (p:Pt) (now:Int):Vw:=⟨k.c,k.pa,k.off,k.de.getD 0,now,p.st,p.pr.getD 0,(j:Int)+1⟩
def FE (k:Kz) (i:Nat) (m:Hd×Bd) (ac:Int):Hd×Bd:=
 (⟨13,m.1.dm,0,0,k.c.cl,(i:Int)+1,m.1.sq,127⟩,{ vC with tc:=m.1.sc,tp:=m.1.sp,sh:=max 0 (m.2.sh - m.2.hp),hp:=max 0 (m.2.sh - m.2.hp),ac:=ac })
def FH (k:Kz) (i j:Nat) (m:Hd×Bd) (id:Int) (data:List UInt8) (now:Int):(Kz×List Ot)×Bool:=match k.ls[j]? with
 | none=>((k,[]),false)
 | some p=>
  let a:=EY (MG k j p now) m.2.ac id data
  if a.e≠0 then (({ k with c:=a.c },iY i (FE k i m 2) [(U3 a.e id).1] false),false)
  else if m.2.ac≠3 then (({ k with c:=a.c },iY i (FE k i m 2) [(H_ id a.s).1] false),false)
  else ((if id=8205 then zH { k with c:=a.c } j 8 else if id=8206 then zH { k with c:=a.c } j 7 else { k with c:=a.c },iY i (FE k i m 4) [(H_ id a.s).1] false),id == 5)
def xJ (k:Kz) (i:Nat) (m:Hd×Bd) (id:Int) (data:List UInt8) (now:Int):List Nat→(Kz×List Ot)×Bool
 | []=>((k,[]),false)
 | j::js=>
  let r:=FH k i j m id data now
  let t:=xJ r.1.1 i m id data now js
  ((t.1.1,r.1.2++t.1.2),r.2 || t.2)
def MH (k:Kz) (m:Hd×Bd):List Nat:=(List.range k.ls.length).filter fun j=>Uc m.2.tc m.2.tp k.c.cl ((j:Int)+1)
def MI (k:Kz) (i:Nat) (m:Hd×Bd) (id:Int):List Nat:=
 if perB id then MH k m else match MH k m with
  | []=>[]
  | j::js=>[if (j::js).contains i then i else j]
def onM (m:Hd×Bd):Hd×Bd:=(m.1,{ m.2 with hp:=m.2.hp - 1 })
def DI (k:Kz) (i:Nat) (m:Hd×Bd) (l:List T2):List Ot:=
 if m.2.tc≠k.c.cl∧0<m.2.hp then (k.ls.mapIdx fun j p=>if j≠i∧dD p.st=true then iY j (onM m) l false else []).flatten else []
def BG (k:Kz) (i:Nat) (m:Hd×Bd) (l:List T2) (now:Int):Kz×List Ot:=
 let t:=pU (xE l 1).1
 if t.2.2=false then (k,[])
 else if m.2.ac≠0∧m.2.ac≠1∧m.2.ac≠3 then (k,DI k i m l)
 else
  let r:=xJ k i m (t.1:Int) t.2.1 now (MI k i m (t.1:Int))
  (if r.2 then ay r.1.1.c else r.1.1,DI k i m l++r.1.2)
def FI (k:Kz) (i:Nat) (b:List UInt8) (now:Int):Kz×List Ot:=match k.ls[i]? with
 | none=>(xG k,[])
 | some p=>
  if dD p.st=false then (xG k,[])
  else if DC b k.c.dm≠0∨(Dz b k.c.dm).sc=k.c.cl then (xG k,[])
  else
   let m:Hd×Bd:=(Dz b k.c.dm,H7 b k.c.dm)
   let l:=H9 b k.c.dm
   if m.1.ty=11 then (match FD k p m l with
    | some q=>({ k with ls:=k.ls.set i q },[])
    | none=>(xG k,[]))
   else if m.1.ty=0∨m.1.ty=8 then BF k i p m now
   else if m.1.ty=1 then (k,if p.st=6∧k.c.pe=false∧Sb m now=true then iY i (Ym m (nu k.c i) now k.c.ld) [] false else [])
   else if m.1.ty=9 then (t_ k i p m,[])
   else if m.1.ty=2∨m.1.ty=3∨m.1.ty=10 then MF k i p m now
   else if m.1.ty=13 then BG k i m l now
   else (k,[])
def iT (k:Kz) (po:Int):Bool:=decide (1≤po∧po≤k.ls.length)
def qD (po:Int):Nat:=(po - 1).toNat
def r9 (k:Kz) (e:Ev):Kz×List Ot:=
 if e.kd=1 then xI k (nR e.nw)
 else if e.kd=2 then (if iT k e.po then FI k (qD e.po) e.bs (nR e.nw) else (xG k,[]))
 else if e.kd=3 then (if iT k e.po then MB k (qD e.po) e.ty e.sq (nR e.nw) else (k,[]))
 else if e.kd=4 then (ay k.c,[])
 else if e.kd=5 then (if bP e.cf=0∧e.cf.cl=k.c.cl∧e.cf.po=k.c.po then ay e.cf else xG k,[])
 else if e.kd=6 then (if iT k e.po then zH k (qD e.po) 2 else k,[])
 else if e.kd=7 then (if iT k e.po then zH k (qD e.po) 3 else k,[])
 else (k,[])
def Fit (k:Kz):Prop:=gJ k.c∧(k.ls.length:Int)=k.c.po∧0≤k.dr
structure r_ (k k':Kz):Prop where
 fit:Fit k→Fit k'
 cl:k'.c.cl=k.c.cl
 po:k'.c.po=k.c.po
theorem r_.refl (k:Kz):r_ k k:=⟨id,rfl,rfl⟩
theorem r_.trans {a b c:Kz} (h:r_ a b) (g:r_ b c):r_ a c:=⟨fun f=>g.fit (h.fit f),g.cl.trans h.cl,g.po.trans h.po⟩
theorem r_.mk' {k k':Kz} (hc:k'.c=k.c) (hl:k'.ls.length=k.ls.length) (hd:k.dr≤k'.dr):r_ k k':=
 ⟨fun ⟨f1,f2,f3⟩=>⟨by rw [hc];exact f1,by rw [hl,hc];exact f2,by omega⟩,by rw [hc],by rw [hc]⟩
theorem oH (k:Kz):(gI k).length=k.ls.length:=by unfold gI;rw [nU,List.length_map]
theorem yQ (k:Kz):r_ k (iR k):=by
 unfold iR;split
 ·exact .mk' rfl (by show ((k.ls.zip (gI k)).map _).length=_;rw [List.length_map,List.length_zip,oH,Nat.min_self]) (Int.le_refl _)
 ·exact .refl k
theorem JB (c:Cf) (id:Int) (data:List UInt8):(PV c id data).cl=c.cl∧(PV c id data).po=c.po:=by
 unfold PV;repeat' split
 all_goals exact ⟨rfl,rfl⟩
theorem MJ (v:Vw) (a id:Int) (data:List UInt8):(EY v a id data).c=v.c∨(gJ (EY v a id data).c∧(EY v a id data).c.cl=v.c.cl∧(EY v a id data).c.po=v.c.po):=by
 unfold EY;repeat' split
 all_goals first
  | exact .inl rfl
  | skip
 unfold YQ;split
 ·rename_i h;exact .inr ⟨h,JB _ _ _⟩
 ·exact .inl rfl
section
structure bW (F:Nat→Prop) (w w':World):Prop where
 os:w'.os=w.os
 tape:w'.tape=w.tape
 output:w'.output=w.output
 size:w.heap.size≤w'.heap.size
 block:∀k,k<w.heap.size→¬F k→w'.heap[k]? = w.heap[k]?
theorem bW.refl (F:Nat→Prop) (w:World):bW F w w:=⟨rfl,rfl,rfl,Nat.le_refl _,fun _ _ _=>rfl⟩
theorem bW.of_below {F:Nat→Prop} (h:Below w.heap.size w w'):bW F w w':=⟨h.os,h.tape,h.output,h.size,fun k hk _=>h.block k hk⟩
theorem bW.vO {F:Nat→Prop} (h:Only g w w') (hg:F g):bW F w w':=⟨h.os,h.tape,h.output,h.size,fun k hk hF=>h.block k hk (fun e=>hF (e▸hg))⟩
theorem bW.trans {F G:Nat→Prop} {a b c:World} (h:bW F a b) (k:bW G b c) (hG:∀i,G i→F i∨a.heap.size≤i):bW F a c:=
 ⟨k.os.trans h.os,k.tape.trans h.tape,k.output.trans h.output,Nat.le_trans h.size k.size,fun i hi hF=>(k.block i (Nat.lt_of_lt_of_le hi h.size) (fun hg=>by rcases hG i hg with h | h;exact hF h;omega)).trans (h.block i hi hF)⟩
theorem bW.mono {F G:Nat→Prop} (h:bW F w w') (hG:∀i,i<w.heap.size→F i→G i):bW G w w':=⟨h.os,h.tape,h.output,h.size,fun k hk hk2=>h.block k hk (fun hF=>hk2 (hG k hk hF))⟩
theorem bW.below {F:Nat→Prop} {a b c:World} (h:Below B a b) (k:bW F b c) (hF:∀i,F i→B≤i) (hs:B≤b.heap.size):Below B a c:=
 h.trans ⟨k.os,k.tape,k.output,k.size,fun i hi=>k.block i aJ (fun hf=>by have:=hF i hf;omega)⟩
theorem bW.only (h:bW (fun k=>k=g) w w'):Only g w w':=⟨h.os,h.tape,h.output,h.size,fun k hk hne=>h.block k hk hne⟩
structure Ob (σ:Type) where
 rel:World→Nat→(Nat→Prop)→σ→Prop
 lt:∀{w:World} {g:Nat} {F:Nat→Prop} {s:σ},rel w g F s→∀k,F k→k<w.heap.size
 keep:∀{w w':World} {g:Nat} {F:Nat→Prop} {s:σ},rel w g F s→(∀k,F k→w'.heap[k]? = w.heap[k]?)→rel w' g F s
variable {σ:Type} {O:Ob σ} {w w' w0:World} {g B:Nat} {F G:Nat→Prop} {s s':σ}
theorem Ob.below (h:O.rel w g F s) (hb:Below w.heap.size w w'):O.rel w' g F s:=O.keep h fun k hk=>hb.block k (O.lt h k hk)
theorem Ob.qH (h:O.rel w g F s) (hc:bW G w w') (hd:∀k,F k→¬G k):O.rel w' g F s:=O.keep h fun k hk=>hc.block k (O.lt h k hk) (hd k hk)
def Ob.At (O:Ob σ) (B:Nat) (w:World) (g:Nat) (s:σ):Prop:=∃F,(∀k,F k→B≤k)∧O.rel w g F s
theorem Ob.At.below (h:O.At B w g s) (hb:Below w.heap.size w w'):O.At B w' g s:=by obtain ⟨F,hF,hr⟩:=h;exact ⟨F,hF,Ob.below hr hb⟩
end
def Y7 (e:Ev):List Value:=[.int .i64 e.kd,.int .i64 e.po,.int .i64 e.nw,.int .i64 e.ty,.int .i64 e.sq,.string ⟨e.bs.toArray⟩]++cfL e.cf
def otL (o:Ot):List Value:=[.int .i64 o.kd,.int .i64 o.po,.int .i64 o.n,.bool o.wa,.int .i64 o.ty,.int .i64 o.sq,.string ⟨o.bs.toArray⟩]
def Y8:RowK Ev:=⟨Y7,29,by decide,fun e=>by simp [Y7,mU],by
 intro e v hv
 rcases List.mem_append.1 hv with h | h
 ·simp only [List.mem_cons,List.not_mem_nil,or_false] at h
  rcases h with rfl | rfl | rfl | rfl | rfl | rfl <;> rfl
 ·exact Al e.cf v h⟩
def BI:RowK Ot:=⟨otL,7,by decide,fun _=>rfl,by
 intro e v hv
 simp only [otL,List.mem_cons,List.not_mem_nil,or_false] at hv
 rcases hv with rfl | rfl | rfl | rfl | rfl | rfl | rfl <;> rfl⟩
def MK:Ev:=⟨0,0,0,0,0,[],zeroC⟩
def U8:Ot:=⟨0,0,0,false,0,0,[]⟩
theorem Qb:(prog.info? 73).map (fun i=>(i.zero,i.size,i.bytes))=some (some (.agg (otL U8).toArray),BI.n,64):=by kernel_rfl
def oJ (c:Cf):Prop:=(0≤c.cl∧c.cl<18446744073709551616)∧∀x ∈ [c.po,c.dm,c.p1,c.p2,c.qc,c.qa,c.qv,c.la,c.ls,c.ld,c.tm,c.md,c.kp,c.ki,c.st,c.ut,c.fl,c.og],-9223372036854775808≤x∧x≤9223372036854775807
def ML (e:Ev):Prop:=(∀x ∈ [e.kd,e.po,e.nw,e.ty,e.sq],-9223372036854775808≤x∧x≤9223372036854775807)∧e.bs.length≤1000000∧oJ e.cf
def iU (k:Kz) (po:Int):Option Pt:=if iT k po then k.ls[qD po]? else none
def jH (k:Kz) (po:Int):Int:=match iU k po with | some p=>p.st | none=>0
def sj (k:Kz) (po:Int):Int:=match iU k po with | some p=>p.pr.getD 0 | none=>0
def BJ (k:Kz) (po:Int):List Rc:=match iU k po with | some p=>p.tab.l | none=>[]
def zM (v:Value) (F:Nat→Prop):Prop:=∀a n c,v=.slice (some a) n c→¬F a.block
def budget:Nat:=4611686018427387904
def MN (O:Ob (Kz×Nat)):Prop:=∀(c:Cf) (w:World),oJ c→gJ c →
 Calls prog 7 #[.agg (cfL c).toArray] w fun e w'=>∃g,e=.returned (.tuple #[.pointer (some ⟨g,0,none⟩),.int .i64 0])∧O.At w.heap.size w' g (ay c,0)∧Below w.heap.size w w'
def Y9:Prop:=∀(c:Cf) (w:World),oJ c→¬gJ c →
 Calls prog 7 #[.agg (cfL c).toArray] w fun e w'=>e=.returned (.tuple #[.pointer none,.int .i64 15])∧Below w.heap.size w w'
def U9 (O:Ob (Kz×Nat)):Prop:=∀(g:Nat) (F:Nat→Prop) (k:Kz) (n:Nat) (w:World),O.rel w g F (k,n)→Calls prog 14 #[.pointer (some ⟨g,0,none⟩)] w fun e w'=>e=.returned (.agg (cfL k.c).toArray)∧Below w.heap.size w w'
def Y_ (O:Ob (Kz×Nat)):Prop:=∀(g:Nat) (F:Nat→Prop) (k:Kz) (n:Nat) (w:World),O.rel w g F (k,n)→Calls prog 25 #[.pointer (some ⟨g,0,none⟩)] w fun e w'=>e=.returned (.agg (rz k.pa).toArray)∧Below w.heap.size w w'
def BM (O:Ob (Kz×Nat)):Prop:=∀(g:Nat) (F:Nat→Prop) (k:Kz) (n:Nat) (po:Int) (w:World),O.rel w g F (k,n)→Calls prog 16 #[.pointer (some ⟨g,0,none⟩),.int .i64 po] w fun e w'=>e=.returned (.int .i64 (jH k po))∧Below w.heap.size w w'
def U_ (O:Ob (Kz×Nat)):Prop:=∀(g:Nat) (F:Nat→Prop) (k:Kz) (n:Nat) (po:Int) (w:World),O.rel w g F (k,n)→Calls prog 18 #[.pointer (some ⟨g,0,none⟩),.int .i64 po] w fun e w'=>e=.returned (.int .i64 (sj k po))∧Below w.heap.size w w'
def Za (O:Ob (Kz×Nat)):Prop:=∀(g:Nat) (F:Nat→Prop) (k:Kz) (n:Nat) (w:World),O.rel w g F (k,n)→Calls prog 26 #[.pointer (some ⟨g,0,none⟩)] w fun e w'=>e=.returned (.int .i64 k.off)∧Below w.heap.size w w'
def Zb (O:Ob (Kz×Nat)):Prop:=∀(g:Nat) (F:Nat→Prop) (k:Kz) (n:Nat) (w:World),O.rel w g F (k,n)→Calls prog 31 #[.pointer (some ⟨g,0,none⟩)] w fun e w'=>e=.returned (.int .i64 (k.de.getD 0))∧Below w.heap.size w w'
def Va (O:Ob (Kz×Nat)):Prop:=∀(g:Nat) (F:Nat→Prop) (k:Kz) (n:Nat) (w:World),O.rel w g F (k,n)→Calls prog 27 #[.pointer (some ⟨g,0,none⟩)] w fun e w'=>e=.returned (.int .i64 k.sv.fq)∧Below w.heap.size w w'
def Qc (O:Ob (Kz×Nat)):Prop:=∀(g:Nat) (F:Nat→Prop) (k:Kz) (n:Nat) (w:World),O.rel w g F (k,n)→Calls prog 32 #[.pointer (some ⟨g,0,none⟩)] w fun e w'=>e=.returned (.int .i64 k.tk)∧Below w.heap.size w w'
def Qd (O:Ob (Kz×Nat)):Prop:=∀(g:Nat) (F:Nat→Prop) (k:Kz) (n:Nat) (w:World),O.rel w g F (k,n)→Calls prog 24 #[.pointer (some ⟨g,0,none⟩)] w fun e w'=>e=.returned (.int .i64 k.dr)∧Below w.heap.size w w'
def Zc (O:Ob (Kz×Nat)):Prop:=∀(g:Nat) (F:Nat→Prop) (k:Kz) (n:Nat) (po:Int) (w:World),O.rel w g F (k,n)→Calls prog 17 #[.pointer (some ⟨g,0,none⟩),.int .i64 po] w fun e w'=>∃v,e=.returned v∧aV.Reads w' v (BJ k po)∧Below w.heap.size w w'
structure FJ where
 hw:Int
 n:Int
 ap:Int
 wy:Int
 e:Ev
 m:Hd×Bd
 lp:Option Addr
 lc:Nat
 l:List T2
def lv23 (x:FJ):Value:=.slice x.lp x.l.length x.lc
def Vb (x:FJ):Bool:=decide (x.e.bs.length≤600) && decide (x.l.length≤10)
theorem RowK.Own.one (K:RowK α) (w:World) (a:α) (t:TypeId):K.Own t (w.alloc (Obj.cells (K.enc a).toArray t)) w.heap.size (.slice (some ⟨w.heap.size,0,none⟩) 1 1) [a]:=by
 have e:K.cells [a]=K.enc a:=by exact tF
 refine ⟨by rw [e,K.len];simp,.inr ⟨w.heap.size,1,(K.enc a).toArray,rfl,Nat.le_refl _,heap_alloc_new w _,Nat.le_refl _,by unfold maxLen;omega,by simp [K.len],?_⟩⟩;rw [e];show (K.enc a).take ([a].length*K.n)=_;exact List.take_of_length_le (by rw [K.len];simp)
def xorB (c:UInt8) (y:Int):UInt8:=UInt8.ofNat (bits BinOp.xor IntKind.u8 (c.toNat:Int) (IntKind.u8.wrap y)).toNat
def xorS (b:List UInt8) (i:Nat) (y:Int):List UInt8:=b.set i (xorB (b.getD i 0) y)
def Qe (x:FJ):List UInt8×Bool:=kE x.m.1 x.m.2 x.l
def Vd (x:FJ):List UInt8:=if (Qe x).2 then (if x.wy≠0 then xorS (Qe x).1 (x.ap % ((Qe x).1.length:Int)).toNat x.wy else (Qe x).1) else x.e.bs
def evsL (x:FJ):List Ev:=
 if x.hw % 4=1 then List.replicate ((x.n % 40).toNat+1) { x.e with kd:=1 }
 else if x.hw % 4=2 then [{ x.e with kd:=2,bs:=Vd x }]
 else if x.hw % 4=3 then [{ x.e with kd:=3 }]
 else [x.e]
def BB (w:World) (g:Nat) (b:List UInt8):Prop:=∃(cs:Array Value) (fr:Nat×Nat),w.heap[g]? = some (.cells cs 5 fr)∧b.length≤fr.1∧∀i (h:i<b.length),cs[i]? = some (.int .u8 (b[i].toNat:Int))
theorem BB.lt {b:List UInt8} (h:BB w g b):g<w.heap.size:=by obtain ⟨cs,fr,h1,-⟩:=h;exact (Array.getElem?_eq_some_iff.1 h1).1
theorem BB.cell {w:World} {g:Nat} {b:List UInt8} (h:BB w g b) (i:Nat) (hi:i<b.length):w.cell? ⟨g,i,none⟩=some (.int .u8 (b[i].toNat:Int)):=by obtain ⟨cs,fr,h1,-,h3⟩:=h;simp only [World.cell?,h1];simpa using h3 i hi
theorem BB.free {b:List UInt8} (h:BB w g b) (i:Nat) (hi:i<b.length):w.frozen? ⟨g,i,none⟩=false:=by
 obtain ⟨cs,fr,h1,h2,-⟩:=h;obtain ⟨lo,hi'⟩:=fr;simp only [World.frozen?,h1];have h2':b.length≤lo:=h2;have:¬lo≤i:=by omega
 simp [this]
theorem BB.set {w:World} {g:Nat} {b:List UInt8} (h:BB w g b) (i:Nat) (hi:i<b.length) (c:UInt8):BB (w.setCell ⟨g,i,none⟩ (.int .u8 (c.toNat:Int))) g (b.set i c):=by
 obtain ⟨cs,fr,h1,h2,h3⟩:=h;refine ⟨cs.setIfInBounds i (.int .u8 (c.toNat:Int)),fr,by simp [World.setCell,Array.getElem?_modify,h1],by rw [List.length_set];exact h2,fun j hj=>?_⟩;rw [List.length_set] at hj;have hjc:=h3 j hj;have hjs:=(Array.getElem?_eq_some_iff.1 hjc).1;by_cases e:i=j
 ·subst e;rw [Array.getElem?_setIfInBounds_self_of_lt hjs];simp
 ·rw [Array.getElem?_setIfInBounds_ne e,hjc];simp [List.getElem_set_ne e]
theorem BB.below {b:List UInt8} (h:BB w g b) (hb:Below w.heap.size w w'):BB w' g b:=by obtain ⟨cs,fr,h1,h2,h3⟩:=id h;exact ⟨cs,fr,by rw [hb.block g h.lt];exact h1,h2,h3⟩
theorem BB.bytes {b:List UInt8} (h:BB w g b) (hc:b.length≤cap) (hm:cap≤maxLen):Bytes w (.slice (some ⟨g,0,none⟩) b.length cap) b:=
 ⟨_,cap,rfl,hc,hm,.inr ⟨g,0,rfl,h.lt,fun i hi=>by rw [Nat.zero_add];exact h.cell i hi⟩⟩
def stK (s:Kz×Nat) (e:Ev):Kz×Nat:=((r9 s.1 e).1,s.2+1)
def Qf (s:Kz×Nat) (l:List Ev):Kz×Nat:=l.foldl stK s
theorem MO (l:List Ev):∀s:Kz×Nat,(Qf s l).2=s.2+l.length:=by
 induction l with
 | nil=>intro s;rfl
 | cons e l ih=>intro s;show (Qf (stK s e) l).2=_;rw [ih];show s.2+1+l.length=s.2+(l.length+1);omega
theorem Qg {cl:Int} (h0:0≤cl) (h1:cl<18446744073709551616):oJ (CQ cl):=by simp only [oJ,CQ,List.forall_mem_cons,List.not_mem_nil,false_imp_iff,implies_true,and_true];omega
def FK (w:World) (x:FJ):Prop:=kD w (lv23 x) x.l∧(∀q ∈ x.l,q.2.length≤9223372036854775807)∧H6 x.m.1 x.m.2∧(Vb x=true→∀e ∈ evsL x,ML e)
theorem FK.below {w w':World} {x:FJ} (h:FK w x) (hb:Below w.heap.size w w'):FK w' x:=⟨kD.below h.1 hb,h.2⟩
theorem Ob.At.low {σ:Type} {O:Ob σ} {B':Nat} {s:σ} (h:O.At B w g s) (hB:B'≤B):O.At B' w g s:=by obtain ⟨F,hF,hr⟩:=h;exact ⟨F,fun k hk=>Nat.le_trans hB (hF k hk),hr⟩
theorem RowK.Reads.qH {K:RowK α} {F:Nat→Prop} {l:List α} (h:K.Reads w v l) (hc:bW F w w') (hf:zM v F):K.Reads w' v l:=by
 obtain ⟨p,cap,rfl,h1,h2,h3⟩:=h;refine ⟨p,cap,rfl,h1,h2,?_⟩;rcases h3 with h3 | ⟨b,off,rfl,hb,hcl⟩
 ·exact .inl h3
 ·refine .inr ⟨b,off,rfl,Nat.lt_of_lt_of_le hb hc.size,fun j u hu=>?_⟩;have hk:=hc.block b hb (hf _ _ _ rfl);have:=hcl j u hu;simp only [World.cell?,hk] at this ⊢;exact this
theorem RowK.Own.zM {α:Type} {K:RowK α} {t:TypeId} {w:World} {base:Nat} {v:Value} {l:List α} {F:Nat→Prop} (h:K.Own t w base v l) (hF:∀k,F k→k<base):zM v F:=by
 intro a n c he hk;rcases id h with ⟨h0,⟨rfl,hn⟩ | ⟨g,cap,cur,rfl,hbg,r⟩⟩
 ·injection he with h1 h2 h3;cases h1
 ·injection he with h1 h2 h3;injection h1 with h1;subst h1;have:=hF _ hk;have h2:base≤g:=hbg;exact absurd this (Nat.not_lt.2 h2)
theorem FL (a:Pa):G8 a a=true:=by unfold G8;simp
structure MP (O:Ob (Kz×Nat)):Prop where
 DJ:U9 O
 MQ:Y_ O
 MR:Za O
 MS:Zb O
 DK:Va O
 MU:Qc O
 Zd:Qd O
 Ez:BM O
 Td:U_ O
 Te:Zc O
theorem oK {c:Cf} {p:Int} (h1:1≤p) (h2:p≤c.po):iU (ay c) p=some (gK c (qD p)):=by
 have hp:qD p<c.po.toNat:=by unfold qD;omega
 have ht:iT (ay c) p=true:=decide_eq_true (by
  show 1≤p∧p≤(((List.range c.po.toNat).map (gK c)).length:Int)
  rw [List.length_map,List.length_range]
  omega)
 unfold iU;rw [ht,if_pos rfl];show ((List.range c.po.toNat).map (gK c))[qD p]? = _;rw [List.getElem?_map,List.getElem?_range hp];rfl
theorem BN {c:Cf} {p:Int} (h1:1≤p) (h2:p≤c.po):jH (ay c) p=1:=by unfold jH;rw [oK h1 h2];rfl
theorem DL {c:Cf} {p:Int} (h1:1≤p) (h2:p≤c.po):sj (ay c) p=0:=by unfold sj;rw [oK h1 h2];rfl
theorem FM {c:Cf} {p:Int} (h1:1≤p) (h2:p≤c.po):BJ (ay c) p=[]:=by unfold BJ;rw [oK h1 h2];rfl
theorem paTq:dB j4 69:=⟨⟨_,underlying69,rfl⟩,by kernel_rfl⟩
theorem JC {c:Cf} {gS gF:Nat} (B:ak w g (OP c gS gF v) t):w.rangeAt g 25 (j4.enc (eH c)):=fun j u hj=>B.cell (25+j) u (by rcases j with _ | _ | _ | _ | _ | _ | _ | _ | _ | _ | _ | _ | j <;> first | exact hj | (simp [j4,rz] at hj))
theorem Qh {c:Cf} {gS gF:Nat} (B:ak w g (OP c gS gF v) t):w.rangeAt g 0 (bT.enc c):=ak.bB [] (bT.enc c) _ B
theorem Qi {o k:Nat} {l:List (Option Addr)} {q:Option Addr} (h:rA.Reads w (.slice (some ⟨b,o,none⟩) n cap) l) (hk:l[k]? = some q):w.cell? ⟨b,o+k,none⟩=some (.pointer q):=by obtain ⟨p,cap',he,-,-,hat⟩:=h;cases he;have hl:=(List.getElem?_eq_some_iff.1 hk).1;obtain ⟨b',o',e,-,hrow⟩:=hat.pos aJ;cases e;refine hrow k _ ?_;have h1:=rA.lU l k 0 hl aX;rw [show k*rA.n+0=k from by show k*1+0=k;omega] at h1;rw [h1,(List.getElem?_eq_some_iff.1 hk).2];rfl
theorem JD {c:Cf} (hc:0≤c.po) {p:Int} (h:p<1∨c.po<p):iU (ay c) p=none:=by
 have ht:iT (ay c) p=false:=decide_eq_false (by
  show ¬(1≤p∧p≤(((List.range c.po.toNat).map (gK c)).length:Int))
  rw [List.length_map,List.length_range]
  omega)
 unfold iU;rw [ht];rfl
theorem rE (v:Value) (w:World) (hv:aV.Reads w v []):Calls prog 33 #[v,.slice none 0 0] w fun e w'=>e=.returned (.bool true)∧w'=w:=by
 obtain ⟨p,cap,rfl,-,-,-⟩:=hv;go_enter func33,ntmps33;go_wp2_with fail;go_loopw [5] (fun iv wr=>iv=.int .i64 0∧wr=w) (fun _ _=>0);case atStart=>exact ⟨rfl,rfl⟩
 case round =>obtain ⟨rfl,rfl⟩:=hrel;exact Eu
theorem yR {O:Ob (Kz×Nat)} (T:MP O) (gk:Nat) (F:Nat→Prop) (c:Cf) (hpo:1≤c.po∧c.po≤8) (m gd gS gF:Nat) (v:Value) (xs:List Value) (l:List (Option Addr)) (w:World) (hO:O.rel w gk F (ay c,m)) (B:ak w gd (OP c gS gF v) 88) (BS:ak w gS xs 91) (h4:xs[4]? = some (.int .i64 0)) (hR:rA.Reads w v l) (hl:(l.length:Int)=c.po) (hP:nK w l):Calls prog 9 #[.pointer (some ⟨gk,0,none⟩),.pointer (some ⟨gd,0,none⟩)] w fun e w'=>e=.returned (.bool true)∧Below w.heap.size w w':=by
 obtain ⟨n,hn⟩:∃n:Nat,l.length=n:=⟨_,rfl⟩;rw [hn] at hl;have hnp:1≤n∧n≤8:=by omega
 obtain ⟨vp,cap,rfl,-,-,hat⟩:=id hR;obtain ⟨vb,vo,rfl,-⟩:=hat.pos aJ;rw [hn] at B hR;clear hat;have hb:=Below.refl w.heap.size w;have hSC:∀wx:World,(Op.equalIn 10000 28 (.agg (bT.enc c).toArray) (.agg (bT.enc c).toArray)).run prog wx=.ok true wx:=fun wx=>Ja c wx;have hSP:∀wx:World,(Op.equalIn 10000 69 (.agg (j4.enc (eH c)).toArray) (.agg (j4.enc (eH c)).toArray)).run prog wx=.ok true wx:=fun wx=>(Lf (eH c) (eH c) wx).trans (by rw [FL]);have DJ:∀wx,O.rel wx gk F (ay c,m)→Calls prog 14 #[.pointer (some ⟨gk,0,none⟩)] wx fun e w'=>e=.returned (.agg (bT.enc c).toArray)∧Below wx.heap.size wx w':=fun wx h=>T.DJ gk F (ay c) m wx h;have MQ:∀wx,O.rel wx gk F (ay c,m)→Calls prog 25 #[.pointer (some ⟨gk,0,none⟩)] wx fun e w'=>e=.returned (.agg (j4.enc (eH c)).toArray)∧Below wx.heap.size wx w':=fun wx h=>T.MQ gk F (ay c) m wx h;have MR:∀wx,O.rel wx gk F (ay c,m)→Calls prog 26 #[.pointer (some ⟨gk,0,none⟩)] wx fun e w'=>e=.returned (.int .i64 0)∧Below wx.heap.size wx w':=fun wx h=>T.MR gk F (ay c) m wx h;have MS:∀wx,O.rel wx gk F (ay c,m)→Calls prog 31 #[.pointer (some ⟨gk,0,none⟩)] wx fun e w'=>e=.returned (.int .i64 0)∧Below wx.heap.size wx w':=fun wx h=>T.MS gk F (ay c) m wx h;have DK:∀wx,O.rel wx gk F (ay c,m)→Calls prog 27 #[.pointer (some ⟨gk,0,none⟩)] wx fun e w'=>e=.returned (.int .i64 0)∧Below wx.heap.size wx w':=fun wx h=>T.DK gk F (ay c) m wx h;have MU:∀wx,O.rel wx gk F (ay c,m)→Calls prog 32 #[.pointer (some ⟨gk,0,none⟩)] wx fun e w'=>e=.returned (.int .i64 0)∧Below wx.heap.size wx w':=fun wx h=>T.MU gk F (ay c) m wx h;have Zd:∀wx,O.rel wx gk F (ay c,m)→Calls prog 24 #[.pointer (some ⟨gk,0,none⟩)] wx fun e w'=>e=.returned (.int .i64 0)∧Below wx.heap.size wx w':=fun wx h=>T.Zd gk F (ay c) m wx h;go_enter func9,ntmps9;simp only [List.append];go_upto_region 1 with fail;have hbd:=Below.drew (Below.refl w.heap.size w);have bq:=hbd;replace hO:=Ob.below hO bq;replace B:=B.below bq;replace BS:=BS.below bq;replace hR:=hR.below bq;replace hP:nK w.drew l:=fun q h=>by obtain ⟨k,e,H⟩:=hP q h;exact ⟨k,e,H.below bq⟩
 replace hb:=ah hb bq;clear bq;refine wp_region_held_drew (S:=fun w'=>Below w.drew.heap.size w.drew w') aW (Below.refl _ _) ?_;intro hHeld;generalize w.drew=wd at *;clear hbd;have dC:∀wx,Below wd.heap.size wd wx→wx.rangeAt gd 0 (bT.enc c):=fun wx hx=>Qh (B.below hx);have dP:∀wx,Below wd.heap.size wd wx→wx.rangeAt gd 25 (j4.enc (eH c)):=fun wx hx=>JC (B.below hx);have d7:∀wx,Below wd.heap.size wd wx→wx.cell? ⟨gd,37,none⟩=some (.pointer (some ⟨gS,0,none⟩)):=fun wx hx=>(B.below hx).cell 37 _ rfl;have d8:∀wx,Below wd.heap.size wd wx→wx.cell? ⟨gS,4,none⟩=some (.int .i64 0):=fun wx hx=>(BS.below hx).cell 4 _ h4;have e39:∀wx,Below wd.heap.size wd wx→wx.cell? ⟨gd,39,none⟩=some (.int .i64 0):=fun wx hx=>(B.below hx).cell 39 _ rfl;have e40:∀wx,Below wd.heap.size wd wx→wx.cell? ⟨gd,40,none⟩=some (.int .i64 0):=fun wx hx=>(B.below hx).cell 40 _ rfl;have e23:∀wx,Below wd.heap.size wd wx→wx.cell? ⟨gd,23,none⟩=some (.int .i64 0):=fun wx hx=>(B.below hx).cell 23 _ rfl;have e24:∀wx,Below wd.heap.size wd wx→wx.cell? ⟨gd,24,none⟩=some (.int .i64 0):=fun wx hx=>(B.below hx).cell 24 _ rfl;refine tk [0,1,2,3,5,6,7] hHeld ?_;refine rt 8 hHeld ?_ (hy:=fun wx hwx=>Aw.exec (.tmp 17) rfl gd 0 rfl c (dC wx hwx));refine aR 4 fun K' hK=>?_;go_simp;refine (DJ _ (Ob.below hO hHeld)).mono ?_;rintro e wq ⟨rfl,bq⟩;replace hHeld:=hHeld.trans (bq.mono hHeld.size);clear bq;refine hK.out _ _ hHeld ?_;clear hK K';try simp only [Act.put,zI,bG,zS]
 refine tk [9,10,11,12,14,15,16] hHeld ?_;refine rt 17 hHeld ?_ (hy:=fun wx hwx=>paTq.exec (.tmp 26) rfl gd 25 rfl (eH c) (dP wx hwx));refine aR 13 fun K' hK=>?_;go_simp;refine (MQ _ (Ob.below hO hHeld)).mono ?_;rintro e wq ⟨rfl,bq⟩;replace hHeld:=hHeld.trans (bq.mono hHeld.size);clear bq;refine hK.out _ _ hHeld ?_;clear hK K';try simp only [Act.put,zI,bG,zS]
 refine tk [18,19,20,21,23,24,25,26] hHeld ?_;refine aR 22 fun K' hK=>?_;go_simp;refine (MR _ (Ob.below hO hHeld)).mono ?_;rintro e wq ⟨rfl,bq⟩;replace hHeld:=hHeld.trans (bq.mono hHeld.size);clear bq;refine hK.out _ _ hHeld ?_;clear hK K';try simp only [Act.put,zI,bG,zS]
 refine tk [27,28,29,30,32,33,34,35] hHeld ?_;refine aR 31 fun K' hK=>?_;go_simp;refine (MS _ (Ob.below hO hHeld)).mono ?_;rintro e wq ⟨rfl,bq⟩;replace hHeld:=hHeld.trans (bq.mono hHeld.size);clear bq;refine hK.out _ _ hHeld ?_;clear hK K';try simp only [Act.put,zI,bG,zS]
 refine tk [36,37,38,39,41,42,43,44,45,46,47] hHeld ?_;refine aR 40 fun K' hK=>?_;go_simp;refine (DK _ (Ob.below hO hHeld)).mono ?_;rintro e wq ⟨rfl,bq⟩;replace hHeld:=hHeld.trans (bq.mono hHeld.size);clear bq;refine hK.out _ _ hHeld ?_;clear hK K';try simp only [Act.put,zI,bG,zS]
 refine tk [48,49,50,51,53,54,55,56] hHeld ?_;refine aR 52 fun K' hK=>?_;go_simp;refine (MU _ (Ob.below hO hHeld)).mono ?_;rintro e wq ⟨rfl,bq⟩;replace hHeld:=hHeld.trans (bq.mono hHeld.size);clear bq;refine hK.out _ _ hHeld ?_;clear hK K';try simp only [Act.put,zI,bG,zS]
 refine tk [57,58,59,60,62,63,64,65] hHeld ?_;refine aR 61 fun K' hK=>?_;go_simp;refine (Zd _ (Ob.below hO hHeld)).mono ?_;rintro e wq ⟨rfl,bq⟩;replace hHeld:=hHeld.trans (bq.mono hHeld.size);clear bq;refine hK.out _ _ hHeld ?_;clear hK K';try simp only [Act.put,zI,bG,zS]
 refine tk [66,67] hHeld ?_;refine wpAnyH_done aW ?_ _;have bq:=hHeld;replace hO:=Ob.below hO bq;replace B:=B.below bq;replace BS:=BS.below bq;replace hR:=hR.below bq;replace hP:nK _ l:=fun q h=>by obtain ⟨k,e,H⟩:=hP q h;exact ⟨k,e,H.below bq⟩
 replace hb:=ah hb bq;clear bq;clear hHeld dC dP d7 d8 e39 e40 e23 e24;clear DJ MQ MR MS DK MU Zd;go_wp2_with fail;clear hSC hSP h4;replace hl:=hid hl;replace hn:=hid hn;replace hpo:=hid hpo;go_loopw [5] (fun iv wr=>∃i:Nat,i≤n+2∧iv=.int .i64 (i:Int)∧O.rel wr gk F (ay c,m)∧ak wr gd (OP c gS gF (.slice (some ⟨vb,vo,none⟩) n cap)) 88∧ak wr gS xs 91∧rA.Reads wr (.slice (some ⟨vb,vo,none⟩) n cap) l∧nK wr l∧Below w.heap.size w wr) (fun iv _=>n+2 - (intOf iv).toNat);case atStart=>exact ⟨0,Nat.zero_le _,rfl,hO,B,BS,hR,hP,hb⟩
 case round=>
  clear hO B BS hR hP hb;obtain ⟨i,hi,rfl,hO,B,BS,hR,hP,hb⟩:=hrel;have hl1:=hl.out;have hn1:=hn.out;have Ve:=hpo.out;have c42:=B.cell 42 (.slice (some ⟨vb,vo,none⟩) n cap) rfl;have hw1:IntKind.i64.wrap ((n:Int)+1)=(n:Int)+1:=by exact yJ
  have hwi:IntKind.i64.wrap ((i:Int)+1)=(i:Int)+1:=by exact yJ
  by_cases hlt:i≤n+1
  ·have PD:(i:Int)≤(n:Int)+1:=by omega
   by_cases hin:1≤i∧i≤n
   ·have h1I:1≤(i:Int):=by omega
    have h2I:(i:Int)≤(n:Int):=by omega
    have es:jH (ay c) (i:Int)=1:=BN h1I aJ;have ep:sj (ay c) (i:Int)=0:=DL h1I aJ;have ef:BJ (ay c) (i:Int)=[]:=FM h1I aJ;obtain ⟨k,hk⟩:∃k:Nat,i=k+1:=⟨i - 1,by omega⟩;have hwk:IntKind.i64.wrap ((i:Int) - 1)=(k:Int):=by exact yJ
    have hkl:k<l.length:=by omega
    have Wq:(k:Int)<(n:Int):=by omega
    obtain ⟨q,hq⟩:∃q,l[k]? = some q:=⟨_,List.getElem?_eq_getElem hkl⟩;obtain ⟨h',rfl,ys,gT,o',p',wn,BP,e0,e1,e2,BT⟩:=hP q (List.mem_of_getElem? hq);replace hq:=hid hq;replace hk:=hid hk;clear hin hkl hl1 hn1 Ve;go_upto_region 10 with fail;clear c42;have hbd:=Below.drew (Below.refl wr.heap.size wr);have bq:=hbd;replace hO:=Ob.below hO bq;replace B:=B.below bq;replace BS:=BS.below bq;replace hR:=hR.below bq;replace hP:nK wr.drew l:=fun q h=>by obtain ⟨k,e,H⟩:=hP q h;exact ⟨k,e,H.below bq⟩
    replace hb:=ah hb bq;clear bq;replace BP:=BP.below hbd;replace BT:=BT.below hbd;refine wp_region_held_drew (S:=fun w'=>Below wr.drew.heap.size wr.drew w') aW (Below.refl _ _) ?_;intro hHeld;generalize wr.drew=wd at *;clear hbd;have d0:∀wx,Below wd.heap.size wd wx→wx.cell? ⟨gd,42,none⟩=some (.slice (some ⟨vb,vo,none⟩) n cap):=fun wx hx=>(B.below hx).cell 42 _ rfl;have d1:∀wx,Below wd.heap.size wd wx→wx.cell? ⟨vb,vo+k,none⟩=some (.pointer (some ⟨h',0,none⟩)):=fun wx hx=>Qi (hR.below hx) hq.out;have d2:∀wx,Below wd.heap.size wd wx→wx.cell? ⟨h',0,none⟩=some (.int .i64 1):=fun wx hx=>(BP.below hx).cell 0 _ e0;have d3:∀wx,Below wd.heap.size wd wx→wx.cell? ⟨h',100,none⟩=some (.int .i64 0):=fun wx hx=>(BP.below hx).cell 100 _ e2;have d4:∀wx,Below wd.heap.size wd wx→wx.cell? ⟨h',1,none⟩=some (.pointer (some ⟨gT,0,none⟩)):=fun wx hx=>(BP.below hx).cell 1 _ e1;have d5:∀wx,Below wd.heap.size wd wx→wx.cell? ⟨gT,3,none⟩=some (.slice none 0 0):=fun wx hx=>(BT.below hx).cell 3 _ rfl;refine tk [0,1,2,3,4,5,6,7,8,9,10,11,12,13,14,15,16,17,18,19,20,21,22,23,24,25,26,27,28,29,30,31,32,33,34,35,36,37,38] hHeld ?_;refine wpAnyH_done aW ?_ _;clear d0 d1 d2 d3 d4 d5 hHeld BP BT e0 e1 e2;exact Xd
   ·have ho:=JD (c:=c) aJ (p:=(i:Int)) aJ;have es:jH (ay c) (i:Int)=0:=by unfold jH;rw [ho]
    have ep:sj (ay c) (i:Int)=0:=by unfold sj;rw [ho]
    have ef:BJ (ay c) (i:Int)=[]:=by unfold BJ;rw [ho]
    clear ho hl1 hn1 Ve;by_cases h0:i=0
    ·subst h0;go_wp2_with fail;refine (T.Ez gk F (ay c) m ((0:Nat):Int) _ hO).mono ?_;rintro e wa ⟨rfl,bq⟩;rw [es];replace hO:=Ob.below hO bq;replace B:=B.below bq;replace BS:=BS.below bq;replace hR:=hR.below bq;replace hP:nK wa l:=fun q h=>by obtain ⟨k,e,H⟩:=hP q h;exact ⟨k,e,H.below bq⟩
     replace hb:=ah hb bq;clear bq;go_wp2_with fail;refine (T.Td gk F (ay c) m ((0:Nat):Int) _ hO).mono ?_;rintro e wb ⟨rfl,bq⟩;rw [ep];replace hO:=Ob.below hO bq;replace B:=B.below bq;replace BS:=BS.below bq;replace hR:=hR.below bq;replace hP:nK wb l:=fun q h=>by obtain ⟨k,e,H⟩:=hP q h;exact ⟨k,e,H.below bq⟩
     replace hb:=ah hb bq;clear bq;go_wp2_with fail;refine (T.Te gk F (ay c) m ((0:Nat):Int) _ hO).mono ?_;rintro e wc ⟨vf,rfl,hvf,bq⟩;rw [ef] at hvf;replace hO:=Ob.below hO bq;replace B:=B.below bq;replace BS:=BS.below bq;replace hR:=hR.below bq;replace hP:nK wc l:=fun q h=>by obtain ⟨k,e,H⟩:=hP q h;exact ⟨k,e,H.below bq⟩
     replace hb:=ah hb bq;clear bq;go_wp2_with fail;refine (rE vf _ hvf).mono ?_;rintro e wz ⟨rfl,hz⟩;obtain rfl:=hz.symm;go_wp2_with fail;go_roundw;case rel=>exact ⟨0+1,by omega,by go_num,hO,B,BS,hR,hP,hb⟩
     case measure=>exact vZ
    ·have hin1:i=n+1:=by omega
     have h1I:1≤(i:Int):=by omega
     have h2I:¬(i:Int)≤(n:Int):=by omega
     replace hin1:=hid hin1;clear hin h0;exact Xd
  ·have PD:¬(i:Int)≤(n:Int)+1:=by omega
   clear hl1 hn1 Ve;exact I4
end Go.Proofs.YtofhdhgfcomhiaaGreat
