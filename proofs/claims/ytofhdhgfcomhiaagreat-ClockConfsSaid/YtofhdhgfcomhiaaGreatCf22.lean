/- Of what laws of the clock want, part 22: DecOwn4 ForOwn5 (mini.py). -/
import Derived.Test.YtofhdhgfcomhiaaGreatCf16
import Derived.Test.YtofhdhgfcomhiaaGreatCf21
namespace Go.Proofs.YtofhdhgfcomhiaaGreat
open Go.RowKit Go.Proofs
set_option maxRecDepth 100000
set_option maxHeartbeats 100000000
set_option linter.unusedVariables false
set_option linter.unusedSimpArgs false
open Tryz
variable {B:Nat} {P:Program} {Q:Exit→Act→World→Prop} {S:World→Prop} {a:Act} {b:Nat} {base:Nat} {cap:Nat} {fuel:Nat} {g:Nat} {h:Nat} {i:Nat} {l:List UInt8} {listed:Array Bool} {n:Nat} {now:Int} {o:Oper} {oi:Oper} {op:Oper} {ops:Array Oper} {p:Prop} {rest:List Oper} {t:TypeId} {v:Value} {w:World} {w':World} {xs:List Value} {α:Type}
def ZI:Prop:=∀(d:Vc) (lv pv:Value) (bs:List Bool) (ps:List (Option Addr)) (os:List (Option Vc)) (w:World),tK d→KG.Reads w lv bs→rA.Reads w pv ps→Ji w ps os→os.length≤12→(∀a,some a ∈ os→tK a) →
 Calls prog 112 #[.agg (dF d).toArray,lv,pv] w fun e w'=>∃x,e=.returned (.tuple #[x,.int .i64 (bE (os.take 8) (os.take 8).length)])∧jV.Own 3 w' w.heap.size x (l5 d bs (os.take 8))∧Below w.heap.size w w'
theorem RA:ZI:=by
 intro d lv pv bs ps os w hdi hLr hR hP hos hin;obtain ⟨pb,capb,rfl,hcapb,ZJ,ZK⟩:=hLr;obtain ⟨p,cap,rfl,hcap,hmax,hat⟩:=id hR;have hd:qK d.st:=hdi.2.2.2.2.2.2.1;obtain ⟨B0,hB0⟩:∃B0,B0=w.heap.size:=⟨_,rfl⟩;have HBL:=hid fun h=>RowK.At.pos (K:=KG) ZK h;have HLo:=hid fun h=>RowK.At.pos (K:=rA) hat h;have HB0:=hid hB0;have ZH:B0≤w.heap.size:=Nat.le_of_eq hB0;have VL:=ak.new w (dF d) 148;have P8:Below B0 w (w.alloc (Obj.cells (dF d).toArray 148)):=by rw [hB0];exact aA w _
 have RB:B0≤(w.alloc (Obj.cells (dF d).toArray 148)).heap.size:=by rw [hB0];exact (aA w _).size
 have WM:=aA w (Obj.cells (dF d).toArray 148);have HR:=hid hR;have HP:=hid hP;have RD:=hid hin;unfold maxLen at hmax ZJ;obtain ⟨OZ,hOZ⟩:∃OZ,OZ=os.take 8:=⟨_,rfl⟩;rw [←hOZ];have HOZ:=hid hOZ;clear hat ZK hR hP hdi hin hB0 hOZ;go_enter func112,ntmps112;go_upto_region 1 with fail;change Code.wp prog _ _ _ (w.alloc (Obj.cells (dF d).toArray 148));generalize w.alloc (Obj.cells (dF d).toArray 148)=W at *;obtain ⟨G,hG⟩:∃G,G=w.heap.size:=⟨_,rfl⟩;rw [←hG] at VL;rw [←hG];clear hG;by_cases h8:8<ps.length
 ·have Zu:(8:Int)<(ps.length:Int):=by omega
  have h8n:¬(ps.length:Int)≤8:=by omega
  have h8c:(8:Int)≤(cap:Int):=by omega
  obtain ⟨PS,yg⟩:∃PS,PS=ps.take 8:=⟨_,rfl⟩;obtain ⟨OS,yj⟩:∃OS,OS=os.take 8:=⟨_,rfl⟩;have hPL:PS.length=8:=by rw [yg,List.length_take];omega
  have ZL:=hid (show OZ=OS from by rw [HOZ.out,yj]);have rH:=hid (show Ji w PS OS from by rw [yg,yj];exact HP.out.take 8);have hR0:rA.Reads w (.slice p 8 cap) PS:=by rw [yg];exact HR.out.cut 8 aJ
  have HLL:=hid fun (h:0<PS.length)=>(show ∃b off,p=some ⟨b,off,none⟩∧b<B0∧∀(wx:World),Below B0 w wx→∀i (h:i<PS.length),wx.cell? ⟨b,off+i,none⟩=some (.pointer PS[i]) from by
   obtain ⟨p',cap',he,-,-,hat⟩:=hR0
   simp only [Value.slice.injEq] at he
   obtain ⟨rfl,-,-⟩:=he
   obtain ⟨b,off,he,hbl,hrow⟩:=RowK.At.pos (K:=rA) hat h
   refine ⟨b,off,he,by rw [HB0.out];exact hbl,fun wx hx i hi=>?_⟩
   rw [hx.cell (p:=⟨b,off+i,none⟩) X_]
   exact rP rfl hrow i hi _ rfl)
  have H8:OS.length≤8:=by rw [yj,List.length_take];omega
  have yI:=hid fun a (ha:some a ∈ OS)=>(show tK a from RD.out a (List.mem_of_mem_take (by rw [←yj];exact ha)));have hRS:=hR0.below WM;have VN:=rH.out.below WM;have hB:=VL;have hb:=P8;have hbs:=RB;clear hR0 VL P8 RB WM;have WO:=hid (show (PS.length:Int)=8 from by rw [hPL];rfl);have hNp:=hid h8;clear h8 yg yj hPL HLo RD HR;go_wp2_with fail
  all_goals first
   | omega
   | skip
  refine (yc _ PS OS _ hRS VN H8 yI.out).mono ?_;rintro e w2 ⟨rfl,b2⟩;have hb2:=hb.trans (b2.mono hbs);have NW:=Nat.le_trans hbs b2.size;have hB2:=hB.below b2;have hPS2:=VN.below b2;obtain ⟨BO,IC⟩:∃BO,BO=bE OS OS.length:=⟨_,rfl⟩;rw [←IC];have Gx:=hid (nY OS OS.length);rw [←IC] at Gx;have NY:Ap OS=if BO<0 then none else jU OS BO:=by rw [IC];rfl
  have ZM:=hid IC;have Co:=hid NY;have HL:=hid fun (h:0<PS.length)=>(show ∃b off,p=some ⟨b,off,none⟩∧b<B0∧∀(wx:World),Below B0 w wx→∀i (h:i<PS.length),wx.cell? ⟨b,off+i,none⟩=some (.pointer PS[i]) from HLL.out h);clear NY IC hb hbs hB VN hRS b2;go_upto_if 22 with fail;go_cut [9] (fun qv w'=>w2=w'∧∃qb,qv=.pointer qb∧rQ w qb (Ap OS));case first=>
   rcases Gx.out with ⟨h1,h2⟩ | ⟨h1,h2,b,h3⟩
   ·obtain rfl:=h1;clear HL;go_wp2_with fail;go_meet;exact ⟨rfl,none,rfl,by rw [Co.out];exact trivial⟩
   ·obtain ⟨K,hK⟩:=Int.eq_ofNat_of_zero_le h1;have D9:K<OS.length:=by omega
    have KI:K<PS.length:=by rw [rH.out.1];exact D9
    have hT:=hid (Co.out.trans (if_neg aJ));subst hK;have hKn:¬(K:Int) = -1:=by omega
    have hKb:((K:Int) != -1)=true:=by simp
    have hpt:rQ w PS[K] OS[K]:=rH.out.2 K KI D9;obtain ⟨bb,off,hpe,hbl,hrow⟩:=HL.out aJ;subst hpe;have hcell:=hrow w2 hb2 K KI;obtain ⟨q,hq⟩:∃q,PS[K]=q:=⟨_,rfl⟩;obtain ⟨o,hoe⟩:∃o,OS[K]=o:=⟨_,rfl⟩;rw [hq] at hcell hpt;rw [hoe] at hpt;have hKI:(K:Int)<((8:Int):Int):=by have:=WO.out;omega
    have VO:=hid hpt;have hT2:=hid ((hT.out.trans (pO OS K D9)).trans hoe);clear hrow hq hoe hpt h1 h2 h3 D9 KI HL;go_wp2_with fail;go_meet;exact ⟨rfl,q,rfl,by rw [hT2.out];exact VO.out⟩
  case rest=>
   obtain ⟨rfl,qb,rfl,ZN⟩:=hcut;have sU:=hid fun (wx:World) (h:Below B0 w wx)=>ZN.below (by rw [HB0.out] at h;exact h);have Gy:=sU.out _ hb2;obtain ⟨TO,Gt⟩:∃TO,TO=Ap OS:=⟨_,rfl⟩;rw [←Gt] at Gy sU
   have ZO:=hid fun a (ha:TO=some a)=>(show qK a.st from by
    rw [Gt,Co.out] at ha
    split at ha
    ·cases ha
    ·exact (yI.out a (NU ha)).2.2.2.2.2.2.1)
   have HTE:=hid Gt;have hI0:=RowK.Own.nil jV 3 w2 B0;clear Gx Co Gt ZN;go_wp2_with fail;go_loopw [10,29] (fun av iv wr=>∃n:Nat,n≤PS.length∧iv=.int .i64 (n:Int)∧jV.Own 3 wr B0 av ((l5 d bs OS).take n)∧Below B0 w wr∧B0≤wr.heap.size∧ak wr G (dF d) 148∧rQ wr qb TO) (fun _ iv _=>PS.length - (intOf iv).toNat);case atStart=>exact ⟨0,Nat.zero_le _,rfl,hI0,hb2,NW,hB2,Gy⟩
   case round=>
    clear hb2 NW hB2 Gy hI0;obtain ⟨n,hn,rfl,oI,hb,hbs,hB,Kk⟩:=hrel;by_cases hlt:n<PS.length
    ·have hnI:(n:Int)<((8:Int):Int):=by have:=WO.out;omega
     have Ug:n<8:=by have:=rH.out.1;have:=H8;omega
     have hno:n<OS.length:=by rw [←rH.out.1];exact hlt
     obtain ⟨bb,off,hpe,hbl,hrow⟩:=HL.out aJ;have hcell:=hrow wr hb n hlt;have hpt:rQ w PS[n] OS[n]:=rH.out.2 n hlt hno;have ho:=pO OS n hno;have hmem:OS[n] ∈ OS:=List.getElem_mem hno;have HST:=hid (z8 d bs OS n hno);rw [←ZM.out,←HTE.out,ho] at HST;obtain ⟨q,hq⟩:∃q,PS[n]=q:=⟨_,rfl⟩;obtain ⟨o,hoe⟩:∃o,OS[n]=o:=⟨_,rfl⟩;rw [hq] at hcell hpt;rw [hoe] at hpt HST hmem;replace hpt:=hpt.below (by rw [HB0.out] at hb;exact hb);have NZ:((l5 d bs OS).take n).length≤8:=by rw [List.length_take];omega
     have hnn:=hid (And.intro hlt hn);subst hpe;clear hrow hq hoe hn hlt hno ho;generalize (l5 d bs OS).take n=LT at *;have RF:=hid NZ;clear NZ;by_cases hlj:n<bs.length
     ·have VP:(n:Int)<(bs.length:Int):=by omega
      obtain ⟨bq,N7,hqe,hbq,Ej⟩:=HBL.out aJ;have hbc:wr.cell? ⟨bq,N7+n,none⟩=some (.bool (bs.getD n false)):=by rw [hb.cell (p:=⟨bq,N7+n,none⟩) (by show bq<B0;have:=HB0.out;omega)];exact G_ Ej n hlj
      clear Ej hlj;subst hqe;generalize bs.getD n false=C8 at *;have yt:=hid fun (wx:World) (h2:rQ wx qb TO) (h3:rQ wx q o) (he:Bool)=>vT d C8 he TO o qb q wx hd h2 h3 ZO.out (fun a ha=>(yI.out a Po).2.2.2.2.2.2.1);clear hmem;go_wp2_with (refine aD 45 ?_;refine bA (op:=⟨some 45,.load _ _,_,_,_,_⟩) bn _ bn G bn (d) _ hB ?_);refine (yt.out _ Kk hpt _).mono ?_;rintro e w3 ⟨rfl,b3⟩;clear yt;rw [vU];have hst:=HST.out;generalize qL d C8 TO o (decide ((n:Int)=BO))=Z at *;have hb3:=hb.trans (b3.mono hbs);have o3:=oI.below b3;have hB3:=hB.below b3;have sP:=Nat.le_trans hbs b3.size;have Gz:=Kk.below b3;clear oI hb hbs hB Kk b3 hpt;have z4:=aA w3 (Obj.cells (jV.enc Z).toArray 3);have sQ:=sD Z w3;have r5:jV.Reads (w3.alloc (Obj.cells (jV.enc Z).toArray 3)) (.slice (some ⟨w3.heap.size,0,none⟩) 1 1) [Z]:=jV.kU w3 Z 3;generalize w3.alloc (Obj.cells (jV.enc Z).toArray 3)=W4 at *;have o5:=o3.below z4;have Iq:=hB3.below z4;have VQ:=Gz.below z4;have sS:=Nat.le_trans sP z4.size;have hl1:(LT.length+[Z].length)*8≤140737488355328:=by have:=RF.out;rw [List.length_singleton];omega
      have hl2:LT.length+[Z].length≤140737488355328:=by have:=RF.out;rw [List.length_singleton];omega
      go_wp2_with (first | (refine aD 53 ?_;refine aI #[(0,.int .i64 Z)] sQ ?_) | (refine aD 54 ?_;refine jV.bX underlying39 oW rfl (o:=⟨some 54,_,_,_,_,_⟩) rfl _ _ rfl rfl B0 _ _ LT [Z] rfl rfl o5 r5 hl1 hl2 sS ?_;intro vI w6 o6 b6 k6));have hb6:=(hb3.trans (z4.mono sP)).trans b6;have Cn:=Nat.le_trans sS b6.size;have VR:=Iq.kept k6 Ei;have GA:=sU.out _ hb6;go_roundw;case rel=>exact ⟨n+1,hnn.out.1,by go_num,by rw [hst];exact o6,hb6,Cn,VR,GA⟩
      case measure=>(have:=hnn.out;simp [intOf] <;> omega)
     ·have VP:¬(n:Int)<(bs.length:Int):=by omega
      have hgd:=zx bs n aJ;rw [hgd] at HST;clear hlj hgd;have yt:=hid fun (wx:World) (h2:rQ wx qb TO) (h3:rQ wx q o) (he:Bool)=>vT d false he TO o qb q wx hd h2 h3 ZO.out (fun a ha=>(yI.out a Po).2.2.2.2.2.2.1);clear hmem;go_wp2_with (refine aD 45 ?_;refine bA (op:=⟨some 45,.load _ _,_,_,_,_⟩) bn _ bn G bn (d) _ hB ?_);refine (yt.out _ Kk hpt _).mono ?_;rintro e w3 ⟨rfl,b3⟩;clear yt;rw [vU];have hst:=HST.out;generalize qL d false TO o (decide ((n:Int)=BO))=Z at *;have hb3:=hb.trans (b3.mono hbs);have o3:=oI.below b3;have hB3:=hB.below b3;have sP:=Nat.le_trans hbs b3.size;have Gz:=Kk.below b3;clear oI hb hbs hB Kk b3 hpt;have z4:=aA w3 (Obj.cells (jV.enc Z).toArray 3);have sQ:=sD Z w3;have r5:jV.Reads (w3.alloc (Obj.cells (jV.enc Z).toArray 3)) (.slice (some ⟨w3.heap.size,0,none⟩) 1 1) [Z]:=jV.kU w3 Z 3;generalize w3.alloc (Obj.cells (jV.enc Z).toArray 3)=W4 at *;have o5:=o3.below z4;have Iq:=hB3.below z4;have VQ:=Gz.below z4;have sS:=Nat.le_trans sP z4.size;have hl1:(LT.length+[Z].length)*8≤140737488355328:=by have:=RF.out;rw [List.length_singleton];omega
      have hl2:LT.length+[Z].length≤140737488355328:=by have:=RF.out;rw [List.length_singleton];omega
      go_wp2_with (first | (refine aD 53 ?_;refine aI #[(0,.int .i64 Z)] sQ ?_) | (refine aD 54 ?_;refine jV.bX underlying39 oW rfl (o:=⟨some 54,_,_,_,_,_⟩) rfl _ _ rfl rfl B0 _ _ LT [Z] rfl rfl o5 r5 hl1 hl2 sS ?_;intro vI w6 o6 b6 k6));have hb6:=(hb3.trans (z4.mono sP)).trans b6;have Cn:=Nat.le_trans sS b6.size;have VR:=Iq.kept k6 Ei;have GA:=sU.out _ hb6;go_roundw;case rel=>exact ⟨n+1,hnn.out.1,by go_num,by rw [hst];exact o6,hb6,Cn,VR,GA⟩
      case measure=>(have:=hnn.out;simp [intOf] <;> omega)
    ·obtain rfl:n=PS.length:=by omega
     have hfull:(l5 d bs OS).take PS.length=l5 d bs OS:=List.take_of_length_le XY;rw [hfull] at oI;have HR:=hid oI;have VT:=hid ZM.out;clear hlt hn HL oI hfull;have hnI:¬(PS.length:Int)<8:=by have:=WO.out;omega
     go_wp2_with fail;go_ret2;have e2:=VT.out.symm;rw [←ZL.out] at e2;have e3:=HR.out;rw [←ZL.out] at e3;rw [HB0.out] at hb e3;rw [e2];exact ⟨_,rfl,e3,hb⟩
 ·have Zu:¬(8:Int)<(ps.length:Int):=by omega
  have h8n:(ps.length:Int)≤8:=by omega
  have h8c:(ps.length:Int)≤(cap:Int):=by omega
  obtain ⟨PS,yg⟩:∃PS,PS=ps:=⟨_,rfl⟩;obtain ⟨OS,yj⟩:∃OS,OS=os:=⟨_,rfl⟩;have ZL:=hid (show OZ=OS from by rw [HOZ.out,yj];exact List.take_of_length_le (by have:=HP.out.1;omega));have rH:=hid (show Ji w PS OS from by rw [yg,yj];exact HP.out);have hR0:rA.Reads w (.slice p PS.length cap) PS:=by rw [yg];exact HR.out
  have HLL:=hid fun (h:0<PS.length)=>(show ∃b off,p=some ⟨b,off,none⟩∧b<B0∧∀(wx:World),Below B0 w wx→∀i (h:i<PS.length),wx.cell? ⟨b,off+i,none⟩=some (.pointer PS[i]) from by
   obtain ⟨p',cap',he,-,-,hat⟩:=hR0
   simp only [Value.slice.injEq] at he
   obtain ⟨rfl,-,-⟩:=he
   obtain ⟨b,off,he,hbl,hrow⟩:=RowK.At.pos (K:=rA) hat h
   refine ⟨b,off,he,by rw [HB0.out];exact hbl,fun wx hx i hi=>?_⟩
   rw [hx.cell (p:=⟨b,off+i,none⟩) X_]
   exact rP rfl hrow i hi _ rfl)
  have H8:OS.length≤8:=by rw [yj];have:=HP.out.1;omega
  have yI:=hid fun a (ha:some a ∈ OS)=>(show tK a from RD.out a (by rw [←yj];exact ha));have hRS:=hR0.below WM;have VN:=rH.out.below WM;have hB:=VL;have hb:=P8;have hbs:=RB;clear hR0 VL P8 RB WM;have WO:=hid (show (PS.length:Int)≤8 from by rw [yg];exact h8n);rw [←yg] at Zu h8n h8c;rw [←yg];clear h8 yg yj HLo RD HR;go_wp2_with fail
  all_goals first
   | omega
   | skip
  refine (yc _ PS OS _ hRS VN H8 yI.out).mono ?_;rintro e w2 ⟨rfl,b2⟩;have hb2:=hb.trans (b2.mono hbs);have NW:=Nat.le_trans hbs b2.size;have hB2:=hB.below b2;have hPS2:=VN.below b2;obtain ⟨BO,IC⟩:∃BO,BO=bE OS OS.length:=⟨_,rfl⟩;rw [←IC];have Gx:=hid (nY OS OS.length);rw [←IC] at Gx;have NY:Ap OS=if BO<0 then none else jU OS BO:=by rw [IC];rfl
  have ZM:=hid IC;have Co:=hid NY;have HL:=hid fun (h:0<PS.length)=>(show ∃b off,p=some ⟨b,off,none⟩∧b<B0∧∀(wx:World),Below B0 w wx→∀i (h:i<PS.length),wx.cell? ⟨b,off+i,none⟩=some (.pointer PS[i]) from HLL.out h);clear NY IC hb hbs hB VN hRS b2;go_upto_if 22 with fail;go_cut [9] (fun qv w'=>w2=w'∧∃qb,qv=.pointer qb∧rQ w qb (Ap OS));case first=>
   rcases Gx.out with ⟨h1,h2⟩ | ⟨h1,h2,b,h3⟩
   ·obtain rfl:=h1;clear HL;go_wp2_with fail;go_meet;exact ⟨rfl,none,rfl,by rw [Co.out];exact trivial⟩
   ·obtain ⟨K,hK⟩:=Int.eq_ofNat_of_zero_le h1;have D9:K<OS.length:=by omega
    have KI:K<PS.length:=by rw [rH.out.1];exact D9
    have hT:=hid (Co.out.trans (if_neg aJ));subst hK;have hKn:¬(K:Int) = -1:=by omega
    have hKb:((K:Int) != -1)=true:=by simp
    have hpt:rQ w PS[K] OS[K]:=rH.out.2 K KI D9;obtain ⟨bb,off,hpe,hbl,hrow⟩:=HL.out aJ;subst hpe;have hcell:=hrow w2 hb2 K KI;obtain ⟨q,hq⟩:∃q,PS[K]=q:=⟨_,rfl⟩;obtain ⟨o,hoe⟩:∃o,OS[K]=o:=⟨_,rfl⟩;rw [hq] at hcell hpt;rw [hoe] at hpt;have hKI:(K:Int)<(PS.length:Int):=by have:=WO.out;omega
    have VO:=hid hpt;have hT2:=hid ((hT.out.trans (pO OS K D9)).trans hoe);clear hrow hq hoe hpt h1 h2 h3 D9 KI HL;go_wp2_with fail;go_meet;exact ⟨rfl,q,rfl,by rw [hT2.out];exact VO.out⟩
  case rest=>
   obtain ⟨rfl,qb,rfl,ZN⟩:=hcut;have sU:=hid fun (wx:World) (h:Below B0 w wx)=>ZN.below (by rw [HB0.out] at h;exact h);have Gy:=sU.out _ hb2;obtain ⟨TO,Gt⟩:∃TO,TO=Ap OS:=⟨_,rfl⟩;rw [←Gt] at Gy sU
   have ZO:=hid fun a (ha:TO=some a)=>(show qK a.st from by
    rw [Gt,Co.out] at ha
    split at ha
    ·cases ha
    ·exact (yI.out a (NU ha)).2.2.2.2.2.2.1)
   have HTE:=hid Gt;have hI0:=RowK.Own.nil jV 3 w2 B0;clear Gx Co Gt ZN;go_wp2_with fail;go_loopw [10,29] (fun av iv wr=>∃n:Nat,n≤PS.length∧iv=.int .i64 (n:Int)∧jV.Own 3 wr B0 av ((l5 d bs OS).take n)∧Below B0 w wr∧B0≤wr.heap.size∧ak wr G (dF d) 148∧rQ wr qb TO) (fun _ iv _=>PS.length - (intOf iv).toNat);case atStart=>exact ⟨0,Nat.zero_le _,rfl,hI0,hb2,NW,hB2,Gy⟩
   case round=>
    clear hb2 NW hB2 Gy hI0;obtain ⟨n,hn,rfl,oI,hb,hbs,hB,Kk⟩:=hrel;by_cases hlt:n<PS.length
    ·have hnI:(n:Int)<(PS.length:Int):=by have:=WO.out;omega
     have Ug:n<8:=by have:=rH.out.1;have:=H8;omega
     have hno:n<OS.length:=by rw [←rH.out.1];exact hlt
     obtain ⟨bb,off,hpe,hbl,hrow⟩:=HL.out aJ;have hcell:=hrow wr hb n hlt;have hpt:rQ w PS[n] OS[n]:=rH.out.2 n hlt hno;have ho:=pO OS n hno;have hmem:OS[n] ∈ OS:=List.getElem_mem hno;have HST:=hid (z8 d bs OS n hno);rw [←ZM.out,←HTE.out,ho] at HST;obtain ⟨q,hq⟩:∃q,PS[n]=q:=⟨_,rfl⟩;obtain ⟨o,hoe⟩:∃o,OS[n]=o:=⟨_,rfl⟩;rw [hq] at hcell hpt;rw [hoe] at hpt HST hmem;replace hpt:=hpt.below (by rw [HB0.out] at hb;exact hb);have NZ:((l5 d bs OS).take n).length≤8:=by rw [List.length_take];omega
     have hnn:=hid (And.intro hlt hn);subst hpe;clear hrow hq hoe hn hlt hno ho;generalize (l5 d bs OS).take n=LT at *;have RF:=hid NZ;clear NZ;by_cases hlj:n<bs.length
     ·have VP:(n:Int)<(bs.length:Int):=by omega
      obtain ⟨bq,N7,hqe,hbq,Ej⟩:=HBL.out aJ;have hbc:wr.cell? ⟨bq,N7+n,none⟩=some (.bool (bs.getD n false)):=by rw [hb.cell (p:=⟨bq,N7+n,none⟩) (by show bq<B0;have:=HB0.out;omega)];exact G_ Ej n hlj
      clear Ej hlj;subst hqe;generalize bs.getD n false=C8 at *;have yt:=hid fun (wx:World) (h2:rQ wx qb TO) (h3:rQ wx q o) (he:Bool)=>vT d C8 he TO o qb q wx hd h2 h3 ZO.out (fun a ha=>(yI.out a Po).2.2.2.2.2.2.1);clear hmem;go_wp2_with (refine aD 45 ?_;refine bA (op:=⟨some 45,.load _ _,_,_,_,_⟩) bn _ bn G bn (d) _ hB ?_);refine (yt.out _ Kk hpt _).mono ?_;rintro e w3 ⟨rfl,b3⟩;clear yt;rw [vU];have hst:=HST.out;generalize qL d C8 TO o (decide ((n:Int)=BO))=Z at *;have hb3:=hb.trans (b3.mono hbs);have o3:=oI.below b3;have hB3:=hB.below b3;have sP:=Nat.le_trans hbs b3.size;have Gz:=Kk.below b3;clear oI hb hbs hB Kk b3 hpt;have z4:=aA w3 (Obj.cells (jV.enc Z).toArray 3);have sQ:=sD Z w3;have r5:jV.Reads (w3.alloc (Obj.cells (jV.enc Z).toArray 3)) (.slice (some ⟨w3.heap.size,0,none⟩) 1 1) [Z]:=jV.kU w3 Z 3;generalize w3.alloc (Obj.cells (jV.enc Z).toArray 3)=W4 at *;have o5:=o3.below z4;have Iq:=hB3.below z4;have VQ:=Gz.below z4;have sS:=Nat.le_trans sP z4.size;have hl1:(LT.length+[Z].length)*8≤140737488355328:=by have:=RF.out;rw [List.length_singleton];omega
      have hl2:LT.length+[Z].length≤140737488355328:=by have:=RF.out;rw [List.length_singleton];omega
      go_wp2_with (first | (refine aD 53 ?_;refine aI #[(0,.int .i64 Z)] sQ ?_) | (refine aD 54 ?_;refine jV.bX underlying39 oW rfl (o:=⟨some 54,_,_,_,_,_⟩) rfl _ _ rfl rfl B0 _ _ LT [Z] rfl rfl o5 r5 hl1 hl2 sS ?_;intro vI w6 o6 b6 k6));have hb6:=(hb3.trans (z4.mono sP)).trans b6;have Cn:=Nat.le_trans sS b6.size;have VR:=Iq.kept k6 Ei;have GA:=sU.out _ hb6;go_roundw;case rel=>exact ⟨n+1,hnn.out.1,by go_num,by rw [hst];exact o6,hb6,Cn,VR,GA⟩
      case measure=>(have:=hnn.out;simp [intOf] <;> omega)
     ·have VP:¬(n:Int)<(bs.length:Int):=by omega
      have hgd:=zx bs n aJ;rw [hgd] at HST;clear hlj hgd;have yt:=hid fun (wx:World) (h2:rQ wx qb TO) (h3:rQ wx q o) (he:Bool)=>vT d false he TO o qb q wx hd h2 h3 ZO.out (fun a ha=>(yI.out a Po).2.2.2.2.2.2.1);clear hmem;go_wp2_with (refine aD 45 ?_;refine bA (op:=⟨some 45,.load _ _,_,_,_,_⟩) bn _ bn G bn (d) _ hB ?_);refine (yt.out _ Kk hpt _).mono ?_;rintro e w3 ⟨rfl,b3⟩;clear yt;rw [vU];have hst:=HST.out;generalize qL d false TO o (decide ((n:Int)=BO))=Z at *;have hb3:=hb.trans (b3.mono hbs);have o3:=oI.below b3;have hB3:=hB.below b3;have sP:=Nat.le_trans hbs b3.size;have Gz:=Kk.below b3;clear oI hb hbs hB Kk b3 hpt;have z4:=aA w3 (Obj.cells (jV.enc Z).toArray 3);have sQ:=sD Z w3;have r5:jV.Reads (w3.alloc (Obj.cells (jV.enc Z).toArray 3)) (.slice (some ⟨w3.heap.size,0,none⟩) 1 1) [Z]:=jV.kU w3 Z 3;generalize w3.alloc (Obj.cells (jV.enc Z).toArray 3)=W4 at *;have o5:=o3.below z4;have Iq:=hB3.below z4;have VQ:=Gz.below z4;have sS:=Nat.le_trans sP z4.size;have hl1:(LT.length+[Z].length)*8≤140737488355328:=by have:=RF.out;rw [List.length_singleton];omega
      have hl2:LT.length+[Z].length≤140737488355328:=by have:=RF.out;rw [List.length_singleton];omega
      go_wp2_with (first | (refine aD 53 ?_;refine aI #[(0,.int .i64 Z)] sQ ?_) | (refine aD 54 ?_;refine jV.bX underlying39 oW rfl (o:=⟨some 54,_,_,_,_,_⟩) rfl _ _ rfl rfl B0 _ _ LT [Z] rfl rfl o5 r5 hl1 hl2 sS ?_;intro vI w6 o6 b6 k6));have hb6:=(hb3.trans (z4.mono sP)).trans b6;have Cn:=Nat.le_trans sS b6.size;have VR:=Iq.kept k6 Ei;have GA:=sU.out _ hb6;go_roundw;case rel=>exact ⟨n+1,hnn.out.1,by go_num,by rw [hst];exact o6,hb6,Cn,VR,GA⟩
      case measure=>(have:=hnn.out;simp [intOf] <;> omega)
    ·obtain rfl:n=PS.length:=by omega
     have hfull:(l5 d bs OS).take PS.length=l5 d bs OS:=List.take_of_length_le XY;rw [hfull] at oI;have HR:=hid oI;have VT:=hid ZM.out;clear hlt hn HL oI hfull;go_wp2_with fail;go_ret2;have e2:=VT.out.symm;rw [←ZL.out] at e2;have e3:=HR.out;rw [←ZL.out] at e3;rw [HB0.out] at hb e3;rw [e2];exact ⟨_,rfl,e3,hb⟩
theorem ZP:dB kg 148:=⟨⟨_,underlying148,rfl⟩,by kernel_rfl⟩
theorem ak.RG {r:Rc} (h:ak w g (jF r) t):w.rangeAt g 0 (kg.enc r.v):=fun j v hj=>by rw [Nat.zero_add];have hjl:j<(dF r.v).length:=(List.getElem?_eq_some_iff.1 hj).1;refine h.cell j v ?_;unfold jF;rw [List.getElem?_append_left hjl];exact hj
theorem map_take {l:List Rc} {k:Nat} (h:k<l.length) (r:Rc) (hr:l[k]=r):(l.take (k+1)).map (·.v)=(l.take k).map (·.v)++[r.v]:=by subst hr;rw [fE l k h,List.map_append];rfl
theorem N8:Uq nM:=by
 intro g t now w FA;have h5:(n_ t now).length≤5:=by obtain ⟨rs,-,hn,-⟩:=fC FA;exact Nat.le_trans (List.length_filter_le _ _) hn
 have hst:∀r ∈ n_ t now,qK r.v.st:=by obtain ⟨rs,-,-,-,-,-,hin⟩:=fC FA;intro r hr;exact (hin r (List.mem_filter.1 hr).1).1
 have HQ:=hid fun (wx:World) (hx:qj nM wx g t)=>Nw g t now wx hx;generalize n_ t now=L at *;have HS:=hid hst;have HN:=hid h5;clear hst h5;obtain ⟨B,hB⟩:∃B,l6 L=B:=⟨_,rfl⟩;obtain ⟨R0,hR0⟩:∃R0,zA L=R0:=⟨_,rfl⟩;rw [hB,hR0];have N9:(L.length=0∧l6 L = -1)∨(0≤l6 L∧l6 L<L.length):=jo _ L.length;have RH:R0=if l6 L<0 then au else L.getD (l6 L).toNat au:=hR0.symm
 rw [hB] at N9 RH;have hBG:cO (L.map (·.v)) L.length=B:=hB;have ZQ:=hid N9;have HBR:=hid RH;have HBG:=hid hBG;clear hB hR0 N9 RH hBG;go_enter func111,ntmps111;go_upto_region 1 with fail;have z0:=aA w (Obj.cells (jF au).toArray 150);have hX0:=ak.new w (jF au) 150;change Code.wp prog _ _ _ (w.alloc (Obj.cells (jF au).toArray 150));have FA0:=FA.below z0;have hG:w.heap.size≤w.heap.size:=Nat.le_refl _;generalize w.alloc (Obj.cells (jF au).toArray 150)=W0 at *;obtain ⟨G,hGe⟩:∃G,w.heap.size=G:=⟨_,rfl⟩;rw [hGe];rw [hGe] at hX0;go_wp2_with fail;refine (HQ.out _ FA0).mono ?_;rintro e w1 ⟨v,rfl,hR,b1⟩;have hX:=hX0.below b1;have hb0:=ah z0 b1;have hRR:=hid fun (wx:World) (h:Below w1.heap.size w1 wx)=>hR.below h;obtain ⟨p,cap,rfl,hcap,hmax,hat⟩:=hR;have HAT:=hid fun h=>RowK.At.pos (K:=aV) hat h;unfold maxLen at hmax;clear hat FA0 FA hX0 z0 b1 HQ;have hown:=RowK.Own.nil kg 148 w1 w1.heap.size;have HX:=hid hX;clear hX;go_wp2_with fail;go_loopw [7,16] (fun s i wr=>∃k:Nat,k≤L.length∧i=.int .i64 k∧kg.Own 148 wr w1.heap.size s ((L.take k).map (·.v))∧Below w1.heap.size w1 wr) (fun _ i _=>L.length - (intOf i).toNat);case atStart=>exact ⟨0,Nat.zero_le _,rfl,by simpa using hown,Below.refl _ _⟩
 case round=>
  clear hown;obtain ⟨k,hk,rfl,hown,hb⟩:=hrel;by_cases hlt:k<L.length
  ·obtain ⟨b,off,rfl,hbl,hrow⟩:=HAT.out aJ;clear hrow;have Wq:(k:Int)<(L.length:Int):=by omega
   have OW:wr.rangeAt b (off+k*17) (jF L[k]):=(hRR.out _ hb).range k hlt;obtain ⟨r,hr⟩:∃r,L[k]=r:=⟨_,rfl⟩;have hsn:=hid (map_take hlt r hr);have hml:((L.take k).map (·.v)).length≤5:=by rw [List.length_map,List.length_take];have:=HN.out;omega
   rw [hr] at OW;have Rb:=hid hlt;generalize (L.take k).map (·.v)=m at *;clear hr hk;have z1:=aA wr (Obj.cells (jF au).toArray 150);have hX:=ak.new wr (jF au) 150;go_upto_region 6 with (first | (refine aD 19 ?_;refine oL.aL b (off+k*17) r OW ?_) | (refine aN ?_;refine oL.aS wr.heap.size r au hX ?_));have hZ:=hX.fB (jF r);have hW2:=below_setRow z1 (Nat.le_refl _) (jF r).toArray;change Code.wp prog _ _ _ ((wr.alloc (Obj.cells (jF au).toArray 150)).setRow wr.heap.size (jF r).toArray);generalize (wr.alloc (Obj.cells (jF au).toArray 150)).setRow wr.heap.size (jF r).toArray=W3 at *;replace hown:=hown.below hW2;replace hb:=ah hb hW2;generalize wr.heap.size=g9 at *;clear z1 hX OW hW2 hlt;have z2:=aA W3 (Obj.cells (dF r.v).toArray 148);have hlit:=Io r.v W3;have VA:kg.Reads (W3.alloc (Obj.cells (dF r.v).toArray 148)) (.slice (some ⟨W3.heap.size,0,none⟩) 1 1) [r.v]:=kg.kU W3 r.v 148;generalize W3.alloc (Obj.cells (dF r.v).toArray 148)=W4 at *;have mO:=hown.below z2;have hb2:=ah hb z2;have hbs:=hb2.size;have hl1:(m.length+[r.v].length)*88≤140737488355328:=by rw [List.length_singleton];omega
   have hl2:m.length+[r.v].length≤140737488355328:=by rw [List.length_singleton];omega
   generalize W3.heap.size=g8 at *;have hZv:=hZ.RG;clear hml hZ;go_upto_region 7 with (first | (refine aD 22 ?_;refine ZP.aL g9 0 r.v hZv ?_) | (refine aD 23 ?_;refine aI #[(0,.agg (dF r.v).toArray)] hlit ?_) | (refine aD 24 ?_;refine kg.kZ underlying258 CR rfl (o:=⟨some 24,_,_,_,_,_⟩) rfl _ _ rfl rfl w1.heap.size _ _ m [r.v] rfl rfl mO VA hl1 hl2 hbs ?_;intro v' w' own' F7));go_wp2_with fail;go_roundw;case rel=>exact ⟨k+1,Rb.out,by go_num,by rw [hsn.out];exact own',hb2.trans F7⟩
   case measure=>(have:=Rb.out;simp [intOf] <;> omega)
  ·obtain rfl:k=L.length:=by omega
   rw [List.take_length] at hown;clear hlt hk;go_wp2_with fail
   refine (D8 _ (L.map (·.v)) _ hown.reads (by rw [List.length_map];have:=HN.out;omega) (by
    intro a ha
    obtain ⟨r,hr,rfl⟩:=List.mem_map.1 ha
    exact HS.out r hr)).mono ?_
   rintro e w2 ⟨rfl,b2⟩;rw [List.length_map];have WI:=(HX.out.below hb).below b2;have hb3:=ah hb b2;have hbw:=ah hb0 hb3;rw [HBG.out];have N9:=ZQ.out;have RH:=HBR.out;clear HBG ZQ HBR;rcases N9 with ⟨hL0,rfl⟩ | ⟨hB0,hB1⟩
   ·rw [if_pos aX] at RH;subst RH;clear hL0;go_wp2_with (first | (refine aD 30 ?_;refine aB (aV.enc au).toArray ?_) | (refine aN ?_;refine oL.aS G au au WI ?_));exact bodyPost_ret (v:=.tuple #[.agg (aV.enc au).toArray,.bool false]) (oL.G7 rfl _ _ G _ _ _ rfl rfl (WI.fB _)) rfl ⟨rfl,below_setRow hbw aJ _⟩
   ·obtain ⟨K,rfl⟩:=Int.eq_ofNat_of_zero_le hB0;have D9:K<L.length:=by omega
    have hlt0:((K:Int)<0)=False:=eq_false aJ;obtain ⟨b,off,rfl,hbl,hrow⟩:=HAT.out aJ;clear hrow;have OW:w2.rangeAt b (off+K*17) (jF L[K]):=(hRR.out _ hb3).range K D9;have hg:L.getD K au=L[K]:=by rw [List.getD_eq_getElem?_getD,List.getElem?_eq_getElem D9];rfl
    rw [if_neg aJ,Int.toNat_natCast,hg] at RH;have hdec:=hid (show decide ((0:Int)≤(K:Int))=true from decide_eq_true aJ);have hK0:((K:Int)<0)=False:=eq_false aJ;rw [←RH] at OW;clear hg RH hB0 hB1 hlt0;go_wp2_with (first | (refine aD 34 ?_;refine oL.aL b (off+K*17) R0 OW ?_) | (refine aN ?_;refine oL.aS G R0 au WI ?_));exact bodyPost_ret (v:=.tuple #[.agg (aV.enc R0).toArray,.bool true]) (oL.G7 rfl _ _ G _ _ _ rfl rfl (WI.fB _)) rfl ⟨by rw [hdec.out];rfl,below_setRow hbw aJ _⟩
end Go.Proofs.YtofhdhgfcomhiaaGreat
