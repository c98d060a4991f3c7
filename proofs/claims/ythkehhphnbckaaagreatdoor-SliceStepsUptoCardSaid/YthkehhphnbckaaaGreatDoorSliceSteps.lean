import Derived.Test.YthkehhphnbckaaaGreatDoorMbm
import Derived.Test.YthkehhphnbckaaaGreatDoorMbp
namespace Go.Proofs.YthkehhphnbckaaaGreatDoor.lawSliceSteps
open Go.Lib (hid)
open Go.RowKit Go.Shelf Go.Maps
theorem Zcbi {w:World} {v:Value} {xs:List Nat} (h:IsInts w v xs):∃a c,v = .slice a xs.length c/\xs.length<=c/\c<=maxLen/\∀(j:Nat) x,xs[j]? =some x->∃b o,a=some ⟨b,o,none⟩/\b<w.heap.size/\∀V,Below w.heap.size w V->V.cell? ⟨b,o+j,none⟩=some (.int .i64 (x:Int)):=by
 obtain⟨a,c,rfl,h1,h2,h3⟩:=h;refine⟨a,c,rfl,h1,h2,λj x hx=>?_⟩;obtain⟨b,o,e,hb,hc⟩:=h3 (by rintro rfl;simp at hx);exact⟨b,o,e,hb,λV hV=>(hV.cell (p:=⟨b,o+j,none⟩) hb).trans (hc j x hx)⟩
set_option maxHeartbeats 16000000
set_option maxRecDepth 100000
theorem law (x:RuleS) (a1 a2 a3 a4:Option Addr) (c1 c2 c3 c4:Nat) (w:World) (hI:RuleI w [.string x.name,.slice a1 x.ins.length c1,.slice a2 x.outs.length c2,.slice a3 x.after.length c3,.slice a4 x.steps.length c4] x) (hs:SmallR x 1048576) (hG:GP w.heap.size w):
  Calls Tryz.prog 6 #[.agg (Zbiz x a1 a2 a3 a4 c1 c2 c3 c4)] w λe w'=>e = .returned (.bool true)/\Below w.heap.size w w':=by
 have mixed:Tryz.prog.follows .mixedOrders=true:=by kernel_rfl
 obtain⟨W0,hW0⟩:∃V,w.alloc (.cells (Zbiz x a1 a2 a3 a4 c1 c2 c3 c4) 33)=V:=⟨_,rfl⟩;obtain⟨B,hB⟩:∃m,w.heap.size=m:=⟨_,rfl⟩;have hb0:Below B w W0:=by rw[<-hW0,<-hB];exact(Below.refl _ _).alloc (Nat.le_refl _) _
 have hs0:W0.heap.size=B+1:=by rw[<-hW0];simp[hB]
 have hx0:W0.heap[B]? =some (.cells (Zbiz x a1 a2 a3 a4 c1 c2 c3 c4) 33):=by rw[<-hW0,<-hB];exact alloc_at w _
 rw[hB]at hG;have CB:=hid (Zfc W0 ((hG.below hb0).up (by omega)));have HFIN:Hid (∀V,Below B w V->Below w.heap.size w V):=hid (by rw[hB];exact λ_ h=>h);have CL:Hid (∀V,Below B w V->Calls Tryz.prog 21 #[.agg (Zbiz x a1 a2 a3 a4 c1 c2 c3 c4)] V (Zcbb x V)):=hid λV hV=>Zcbh x a1 a2 a3 a4 c1 c2 c3 c4 V (hI.below (by rw[hB];exact hV)) hs
 unfold Zcbb at CL;obtain⟨y,hy⟩:∃y,cutR x=y:=⟨_,rfl⟩;have hym:SmallR y 1048576:=by rw[<-hy];exact Zbma hs
 have HYM:=hid hym;rw[hy]at CL;obtain⟨D,hD⟩:∃D,decide (Zbip y=0)=D:=⟨_,rfl⟩;rw[hD]at CL;have HDD:=hid hD;have HW0:=hid hW0;have HB:=hid hB;have HB0:=hid hb0;have HS0:=hid hs0;have HXD:Hid (∀V,Below W0.heap.size W0 V->V.heap[B]? =some (.cells (Zbiz x a1 a2 a3 a4 c1 c2 c3 c4) 33)):=hid λV hV=>(hV.block B (by omega)).trans hx0
 clear hI hs hG hW0 hB hb0 hs0 hx0 hy hym hD
 go_enter Tryz.func6,Tryz.ntmps6
 go_wp2_with fail
 rw[HW0.out,HB.out];refine CB.out.mono ?_;rintro e w1 ⟨rfl,hb1⟩;have h01:Below B w w1:=HB0.out.trans (hb1.mono (by have:=HS0.out;omega));have hs1:B+1<=w1.heap.size:=by have:=hb1.size;have:=HS0.out;omega
 obtain⟨d0,d1,d2,d3,d4,_⟩:=cells5 (HXD.out w1 hb1);have H01:=hid h01;have HS1:=hid hs1;have H1:=hid hb1;clear h01 hs1 hb1
 go_wp2_with fail
 refine(CL.out w1 H01.out).mono ?_;rintro e w2 ⟨b1,b2,b3,b4,e1,e2,e3,e4,rfl,hra,hb2⟩;have hx2:=HXD.out w2 (H1.out.trans (hb2.mono H1.out.size));have h02:Below B w w2:=H01.out.trans (hb2.mono (by have:=HS1.out;omega));obtain⟨hbR,hxR,hR⟩:=Zgd hra hx2 HS1.out;obtain⟨f0,f1,f2,f3,f4,_⟩:=cells5 hx2;obtain⟨w3,hw3⟩:∃V,boxR w2 B y.name (.slice b1 y.ins.length e1) (.slice b2 y.outs.length e2) (.slice b3 y.after.length e3) (.slice b4 y.steps.length e4)=V:=⟨_,rfl⟩;rw[hw3]at hbR hxR hR;unfold boxR at hw3;have h03:Below B w w3:=h02.trans hbR;have H03:=hid h03;have HS3:Hid (B+1<=w3.heap.size):=hid (by have:=HS1.out;have:=hb2.size;have:=hbR.size;omega);have HD:Hid (∀V,Below w3.heap.size w3 V->(V.cell? ⟨B,0,none⟩=some (.string y.name)/\V.cell? ⟨B,1,none⟩=some (.slice b1 y.ins.length e1)/\V.cell? ⟨B,2,none⟩=some (.slice b2 y.outs.length e2)/\V.cell? ⟨B,3,none⟩=some (.slice b3 y.after.length e3)/\V.cell? ⟨B,4,none⟩=some (.slice b4 y.steps.length e4))/\
   RuleI V [.string y.name,.slice b1 y.ins.length e1,.slice b2 y.outs.length e2,.slice b3 y.after.length e3,.slice b4 y.steps.length e4] y):=by
  show ∀V,_;intro V hV;have hs:=HS3.out;obtain⟨g0,g1,g2,g3,g4,_⟩:=cells5 ((hV.block B (by omega)).trans hxR);exact⟨⟨g0,g1,g2,g3,g4⟩,hR.below hV⟩
 obtain⟨_,_,_,_,q,hi1,hi2,hi3,hi4⟩:=id hR;simp only[List.cons.injEq,and_true,true_and]at q;obtain⟨rfl,rfl,rfl,rfl⟩:=q;obtain⟨_,_,q,hol,hom,hO⟩:=Zua hi2;injection q with q1 q2 q3
 subst q1 q3;obtain⟨_,_,q,hsl,hsm,hST⟩:=Zbpc hi4;injection q with q1 q2 q3
 subst q1 q3;have HO:=hid hO;have HST:=hid hST;have HI1:=hid hi1;have hns:=HYM.out.few;have hno:=HYM.out.outs.1;clear hra hb2 hx2 h02 hbR hxR hR d0 d1 d2 d3 d4 h03 hi1 hi2 hi3 hi4 hO hST q2
 go_upto_region 5 with fail
 try rw[hw3]
 clear hw3 f0 f1 f2 f3 f4
 cases D with
 | false=>
  go_wp2;go_ret;exact⟨rfl,HFIN.out _ H03.out⟩
 | true=>
 have hN:Zbj y:=Zcbk (of_decide_eq_true HDD.out);have HN:=hid hN;clear hN HDD;obtain⟨⟨g0,g1,g2,g3,g4⟩,_⟩:=HD.out w3 (Below.refl _ _);have CST:Hid (∀(o:ByteArray) V,Below w3.heap.size w3 V->o.size<=1048576->Calls Tryz.prog 22 #[.agg (Zbiz y b1 b2 b3 b4 e1 e2 e3 e4),.string o] V (Zce V (whL true 0 (Zcbl [o] y.steps)))):=by
  show ∀(o:ByteArray) V,_;intro o V hV ho;have:=Zblu y b1 b2 b3 b4 e1 e2 e3 e4 o V (HD.out V hV).2 HYM.out (by unfold maxLen;omega);rw[Zcbp]at this;exact this
 have CRD:Hid (∀(o:ByteArray) V,Below w3.heap.size w3 V->o.size<=1048576->Calls Tryz.prog 24 #[.agg (Zbiz y b1 b2 b3 b4 e1 e2 e3 e4),.string o] V (Zbt V y [o])):=by
  show ∀(o:ByteArray) V,_;exact λo V hV ho=>Zblt y b1 b2 b3 b4 e1 e2 e3 e4 o V (HD.out V hV).2 HYM.out (by unfold maxLen;omega)
 have CAL:Hid (∀V,Below w3.heap.size w3 V->Calls Tryz.prog 25 #[.agg (Zbiz y b1 b2 b3 b4 e1 e2 e3 e4)] V (Zbt V y y.outs)):=by
  show ∀V,_;exact λV hV=>Zblq y b1 b2 b3 b4 e1 e2 e3 e4 V (HD.out V hV).2 HYM.out
 unfold Zce at CST;unfold Zbt at CRD CAL;have HFI:Hid (∀v' l s w',IsStrs w' v' l->Calls Tryz.prog 23 #[v',.string s] w' λe w''=>e = .returned (.int .i64 (Zoi l s))/\w''=w'):=by
  show ∀v' l s w',_;exact λv' l s w' h=>Zhe v' l s w' h
 have hmk:=λW=>Zyd y.steps.length (by omega) W
 unfold maxLen at hom hsm;go_wp2
 go_loopw [29] (λiv wr=>∃i:Nat,i<=y.outs.length/\iv = .int .i64 (i:Int)/\Below w3.heap.size w3 wr) (λiv _=>y.outs.length-(intOf iv).toNat)
 case atStart=>exact⟨0,Nat.zero_le _,rfl,Below.refl _ _⟩
 case round=>
  obtain⟨i,hi,rfl,hbr⟩:=hrel
  by_cases hlt:i<y.outs.length
  rotate_left
  ·have hi1:¬(i:Int)<(y.outs.length:Int):=by omega
   have hf:=HFIN.out _ (H03.out.trans (hbr.mono (by have:=HS3.out;omega)));go_wp2;go_ret;exact⟨rfl,hf⟩
  obtain⟨WR,rfl⟩:∃V,V=wr:=⟨_,rfl⟩;obtain⟨o,ho⟩:∃o,y.outs[i]? =some o:=⟨y.outs[i]'hlt,List.getElem?_eq_getElem _⟩;have hos:=HYM.out.outs.2 o (List.mem_of_getElem? ho);have HOM:=hid (List.mem_of_getElem? ho);obtain⟨gb,go,q,hc⟩:=HO.out i o ho;subst q;have hc:=hc _ hbr;obtain⟨⟨f0,f1,f2,f3,f4⟩,_⟩:=HD.out WR hbr;have hi1:(i:Int)<(y.outs.length:Int):=by omega
  have hi0:(0:Int)<=(i:Int):=by omega
  have CS:=hid (CST.out o WR hbr hos);have HBR:=hid hbr;have HOS:=hid hos;clear ho hos hbr
  go_wp2_with fail
  refine CS.out.mono ?_;rintro e w4 ⟨v4,rfl,hin,hb4⟩;obtain⟨MS,hMS⟩:∃M,Zcbl [o] y.steps=M:=⟨_,rfl⟩;have hML:MS.length=y.steps.length:=by rw[<-hMS,<-Zcbp,Zbal]
  have hLAW:∀(k:Nat) s,y.steps[k]? =some s->MS[k]? =some (decide (s.out=o)||anyQ s.out y.steps MS):=λk s hs=>by rw[<-hMS];exact Zcbo HN.out o hs
  rw[hMS]at hin;obtain⟨la,lc,rfl,hl1,hl2,hLC⟩:=Zcbi hin;have hNEW:∀(j k:Nat),(whL true 0 MS)[j]? =some k->k<MS.length/\(setM MS ((whL true 0 MS).take j))[k]? =some false/\setM MS ((whL true 0 MS).take (j+1))=(setM MS ((whL true 0 MS).take j)).set k true:=λj k hj=>by
   obtain⟨h1,h2⟩:=Zcbu MS hj;exact⟨h1,h2,Zcbv MS _ hj⟩
  have hALL:=Zcbt MS;have hNIL:=Zcbw MS;obtain⟨KS,hKS⟩:∃l,whL true 0 MS=l:=⟨_,rfl⟩;rw[hKS]at hl1 hLC hNEW hALL⊢;have hb34:Below w3.heap.size w3 w4:=HBR.out.trans (hb4.mono HBR.out.size);obtain⟨⟨f0,f1,f2,f3,f4⟩,_⟩:=HD.out w4 hb34;have hbm:=Zgc w4 y.steps.length;obtain⟨g,hg⟩:∃g,w4.heap.size=g:=⟨_,rfl⟩;obtain⟨w5,hw5⟩:∃V,w4.alloc (.cells (madeCells #[.bool false] y.steps.length) 4)=V:=⟨_,rfl⟩;have hb45:Below g w4 w5:=by rw[<-hw5,<-hg];exact(Below.refl _ _).alloc (Nat.le_refl _) _
  have hgz:g<w5.heap.size:=by rw[<-hw5];simp[hg]
  rw[hw5,hg,<-hML,<-hNIL]at hbm;have hmk4:=hmk w4;rw[hw5,hg]at hmk4;have hG3:w3.heap.size<=g:=by rw[<-hg];exact hb34.size
  have HUPG:Hid (∀V,Below g w4 V->Below w3.heap.size w3 V):=by show ∀V,_;exact λV hV=>hb34.trans (hV.mono hG3)
  have HLC:Hid (∀(j:Nat) k,KS[j]? =some k->∃b' o',la=some ⟨b',o',none⟩/\∀V,Below g w4 V->V.cell? ⟨b',o'+j,none⟩=some (.int .i64 (k:Int))):=by
   show ∀(j:Nat) k,_;intro j k hj;obtain⟨b',o',e,hb,hc⟩:=hLC j k hj;refine⟨b',o',e,λV hV=>?_⟩;have h1:b'<g:=by rw[<-hg];exact hb
   have h2:=hV.cell (p:=⟨b',o'+j,none⟩) h1;exact h2.trans (hc w4 (Below.refl _ _))
  have HW5:=hid hw5;have HLAW:=hid hLAW;have HNEW:=hid hNEW;have HALL:=hid hALL;have HML:=hid hML;have HB45:=hid hb45;have HGZ:=hid hgz;have HBM:=hid hbm;have HG3:=hid hG3;clear hin hMS hLAW hNEW hALL hNIL hKS hLC hb4 hb45 hgz hbm hw5 hg hG3 hML hb34 hc;unfold maxLen at hl2;have hkl:KS.length<=9223372036854775807:=by omega
  clear hmk
  go_upto_region 11 with fail
  go_wp2
  try rw[HW5.out]
  clear hmk4
  go_loopw [42] (λjv wq=>∃j:Nat,j<=KS.length/\jv = .int .i64 (j:Int)/\BoolR wq g (setM MS (KS.take j))/\Below g w4 wq) (λjv _=>KS.length-(intOf jv).toNat)
  case atStart=>exact⟨0,Nat.zero_le _,rfl,HBM.out,HB45.out⟩
  case round=>
   obtain⟨j,hj,rfl,hm,hbq⟩:=hrel;obtain⟨WQ,rfl⟩:∃V,V=wr:=⟨_,rfl⟩
   by_cases hjl:j<KS.length
   ·obtain⟨k,hk⟩:∃k,KS[j]? =some k:=⟨KS[j],List.getElem?_eq_getElem hjl⟩
    obtain⟨b',o',q,hc⟩:=HLC.out j k hk;subst q;have hc:=hc _ hbq;obtain⟨hk1,hk2,hk3⟩:=HNEW.out j k hk;obtain⟨m1,m2⟩:=hm.cell hk2;have hj1:(j:Int)<(KS.length:Int):=by omega
    have hj0:(0:Int)<=(j:Int):=by omega
    have hk0:(0:Int)<=(k:Int):=by omega
    have hkn:¬(k:Int)<0:=by omega
    have hkL:(k:Int)<(y.steps.length:Int):=by rw[HML.out]at hk1;omega
    have hkG:¬(y.steps.length:Int)<=(k:Int):=by omega
    have e1:decide ((k:Int)<0)=false:=decide_eq_false hkn;have e2:decide ((y.steps.length:Int)<=(k:Int))=false:=decide_eq_false hkG;have HREL:Hid (BoolR (WQ.setCell ⟨g,k,none⟩ (.bool true)) g (setM MS (KS.take (j+1)))/\Below g w4 (WQ.setCell ⟨g,k,none⟩ (.bool true))):=hid ⟨by rw[hk3];exact hm.set k true,hbq.setCell (p:=⟨g,k,none⟩) (Nat.le_refl _) _⟩;clear hm hbq hk hk1 hk2 hk3;go_wp2;go_roundw
    case rel=>exact⟨j+1,by omega,by go_num,HREL.out.1,HREL.out.2⟩
    case measure=>simp[intOf];omega
   ·have hj1:¬(j:Int)<(KS.length:Int):=by omega
    have HM6:Hid (BoolR WQ g MS):=hid (by rw[List.take_of_length_le (by omega),HALL.out]at hm;exact hm);have HB6:=hid hbq;clear hm hbq;go_wp2
    go_loopw [66] (λkv wq=>∃k:Nat,k<=y.steps.length/\kv = .int .i64 (k:Int)/\BoolR wq g MS/\Below g w4 wq) (λkv _=>y.steps.length-(intOf kv).toNat)
    case atStart=>exact⟨0,Nat.zero_le _,rfl,HM6.out,HB6.out⟩
    case round=>
     obtain⟨k,hk,rfl,hm,hbq⟩:=hrel;obtain⟨WK,rfl⟩:∃V,V=wr:=⟨_,rfl⟩
     by_cases hkl:k<y.steps.length
     ·obtain⟨s,hs⟩:∃s,y.steps[k]? =some s:=⟨y.steps[k],List.getElem?_eq_getElem hkl⟩
      obtain⟨sb,so,_,_,_,_,q,_,_,hcs⟩:=HST.out k s hs;subst q;obtain⟨⟨f0,f1,f2,f3,f4⟩,_⟩:=HD.out WK (HUPG.out _ hbq);obtain⟨s0,_⟩:=hcs WK (HUPG.out _ hbq);have HCS:Hid (∀V,Below g w4 V->V.cell? ⟨sb,so+k*5,none⟩=some (.string s.out)):=by show ∀V,_;exact λV hV=>(hcs V (HUPG.out _ hV)).1
      have HLK:=hid (HLAW.out k s hs);have hk1:(k:Int)<(y.steps.length:Int):=by omega
      have hk0:(0:Int)<=(k:Int):=by omega
      obtain⟨q,hq⟩:∃q,(s.out.toList==o.toList)=q:=⟨_,rfl⟩;have HQ:Hid (decide (s.out=o)=q):=hid (by
       cases q with
       | true=>exact decide_eq_true (Zgx hq)
       | false=>exact decide_eq_false (Zgz hq))
      have HMK:=hid hm;have HBK:=hid hbq;clear hs hcs hm hbq;go_wp2
      go_loopw [12,79] (λav jv wq=>∃j:Nat,j<=y.steps.length/\jv = .int .i64 (j:Int)/\av = .bool (q||anyQ s.out (y.steps.take j) (MS.take j))/\BoolR wq g MS/\Below g w4 wq) (λ_ jv _=>y.steps.length-(intOf jv).toNat)
      case atStart=>exact⟨0,Nat.zero_le _,rfl,by simp[anyQ],HMK.out,HBK.out⟩
      case round=>
       obtain⟨j,hj,rfl,rfl,hm,hbq⟩:=hrel;obtain⟨WJ,rfl⟩:∃V,V=wr:=⟨_,rfl⟩
       by_cases hjl:j<y.steps.length
       ·obtain⟨t,ht⟩:∃t,y.steps[j]? =some t:=⟨y.steps[j],List.getElem?_eq_getElem hjl⟩
        obtain⟨M,hM⟩:∃M,MS[j]? =some M:=⟨MS[j]'(by rw[HML.out];exact hjl),List.getElem?_eq_getElem _⟩;obtain⟨tb,tp,ta,tc,_,_,e,_,hia,hct⟩:=HST.out j t ht;obtain⟨rfl,rfl⟩:sb=tb/\so=tp:=by simpa using e
        obtain⟨_,_,t2,_,_⟩:=hct WJ (HUPG.out _ hbq);have s0:=HCS.out WJ hbq;obtain⟨⟨f0,f1,f2,f3,f4⟩,_⟩:=HD.out WJ (HUPG.out _ hbq);obtain⟨m1,_⟩:=hm.cell hM;have HNX:=hid (Zcbe s.out y.steps MS j t M ht hM);obtain⟨A,hA⟩:∃A,(q||anyQ s.out (y.steps.take j) (MS.take j))=A:=⟨_,rfl⟩;obtain⟨F,hF⟩:∃F,Zoi t.args s.out=F:=⟨_,rfl⟩;have CF:Hid (∀n:Nat,Calls Tryz.prog 23 #[.slice ta t.args.length tc,.string s.out] (WJ.drewN n) λe w''=>e = .returned (.int .i64 F)/\w''=WJ.drewN n):=by
         show ∀n:Nat,_;intro n;rw[<-hF];exact HFI.out _ _ _ _ ((hia.below (HUPG.out _ hbq)).below (below_drewN (Below.refl _ _) n))
        have hj1:(j:Int)<(y.steps.length:Int):=by omega
        have hj0:(0:Int)<=(j:Int):=by omega
        have HEND:Hid (∀n:Nat,∃j':Nat,j'<=y.steps.length/\Value.int .i64 ((j:Int)+1) = .int .i64 (j':Int)/\Value.bool (A||(M&&decide (0<=F))) = .bool (q||anyQ s.out (y.steps.take j') (MS.take j'))/\BoolR (WJ.drewN n) g MS/\Below g w4 (WJ.drewN n)):=by
         show ∀n:Nat,_;intro n;exact⟨j+1,by omega,by go_num,by rw[HNX.out,<-Bool.or_assoc,hA,hF],hm,below_drewN hbq n⟩
        rw[hA];clear ht hM hct hia hm hbq hA hF e
        cases A with
        | true=>
         go_wp2_with fail
         go_quiet ((go_at_call 23;with_reducible refine Calls.quiet_of_same (CF.out _)))
         all_goals go_wp2
         all_goals go_roundw
         case rel=>exact HEND.out _
         case measure=>simp[intOf];omega
        | false=>
         cases M with
         | false=>
          go_wp2_with fail
          go_quiet ((go_at_call 23;with_reducible refine Calls.quiet_of_same (CF.out _)))
          all_goals go_wp2
          all_goals go_roundw
          case rel=>exact HEND.out _
          case measure=>simp[intOf];omega
         | true=>
          by_cases hF0:0<=F
          ·have hd0:decide (0<=F)=true:=decide_eq_true hF0
           rw[hd0]at HEND
           go_wp2_with fail
           go_quiet ((go_at_call 23;with_reducible refine Calls.quiet_of_same (CF.out _)))
           all_goals go_wp2
           all_goals go_roundw
           case rel=>exact HEND.out _
           case measure=>simp[intOf];omega
          ·have hd0:decide (0<=F)=false:=decide_eq_false hF0
           rw[hd0]at HEND
           go_wp2_with fail
           go_quiet ((go_at_call 23;with_reducible refine Calls.quiet_of_same (CF.out _)))
           all_goals go_wp2
           all_goals go_roundw
           case rel=>exact HEND.out _
           case measure=>simp[intOf];omega
       ·have hj1:¬(j:Int)<(y.steps.length:Int):=by omega
        obtain⟨W,hW⟩:∃W,(q||anyQ s.out (y.steps.take j) (MS.take j))=W:=⟨_,rfl⟩;have hMk:MS[k]? =some W:=by
         rw[HLK.out,HQ.out,<-hW,List.take_of_length_le (by omega),List.take_of_length_le (by rw[HML.out];omega)]
        obtain⟨m1,_⟩:=hm.cell hMk;rw[hW];have HM7:=hid hm;have HB7:=hid hbq;clear hW hMk hm hbq;go_wp2;go_roundw
        case rel=>exact⟨k+1,by omega,by go_num,HM7.out,HB7.out⟩
        case measure=>simp[intOf];omega
     ·have hk1:¬(k:Int)<(y.steps.length:Int):=by omega
      have HB8:=hid hbq;obtain⟨⟨f0,f1,f2,f3,f4⟩,_⟩:=HD.out WK (HUPG.out _ hbq);clear hm hbq
      go_wp2_with fail
      refine(CRD.out o WK (HUPG.out _ HB8.out) HOS.out).mono ?_;rintro e w6 ⟨v6,rfl,hrd,hb6⟩;have hrl:∀(j:Nat) f,(Zbgw y [o])[j]? =some f->0<=Zoi y.ins f/\0<=Zoi (Zbgw y y.outs) f:=λj f hf=>Zcbr HOM.out (List.mem_of_getElem? hf)
      obtain⟨RD,hRD⟩:∃l,Zbgw y [o]=l:=⟨_,rfl⟩;rw[hRD]at hrd hrl;obtain⟨ra,rc,rfl,hr1,hr2,hRC⟩:=Zua hrd;have HRC:=hid hRC;have HRL:=hid hrl;have HB36:=hid ((HUPG.out _ HB8.out).trans (hb6.mono (HUPG.out _ HB8.out).size));unfold maxLen at hr2;have hr3:RD.length<=9223372036854775807:=by omega
      clear hrd hrl hRD hRC hb6;go_wp2
      go_loopw [117] (λjv wq=>∃j:Nat,j<=RD.length/\jv = .int .i64 (j:Int)/\Below w6.heap.size w6 wq) (λjv _=>RD.length-(intOf jv).toNat)
      case atStart=>exact⟨0,Nat.zero_le _,rfl,Below.refl _ _⟩
      case round=>
       obtain⟨j,hj,rfl,hbq⟩:=hrel;obtain⟨WD,rfl⟩:∃V,V=wr:=⟨_,rfl⟩;have hb3:Below w3.heap.size w3 WD:=HB36.out.trans (hbq.mono HB36.out.size)
       by_cases hjl:j<RD.length
       ·obtain⟨f,hf⟩:∃f,RD[j]? =some f:=⟨RD[j],List.getElem?_eq_getElem hjl⟩
        obtain⟨fb,fo,q,hcf⟩:=HRC.out j f hf;subst q;have cf:=hcf _ hbq;obtain⟨h1,h2⟩:=HRL.out j f hf;obtain⟨⟨f0,f1,f2,f3,f4⟩,_⟩:=HD.out WD hb3;have hj1:(j:Int)<(RD.length:Int):=by omega
        have hj0:(0:Int)<=(j:Int):=by omega
        obtain⟨F1,hF1⟩:∃F,Zoi y.ins f=F:=⟨_,rfl⟩;obtain⟨F2,hF2⟩:∃F,Zoi (Zbgw y y.outs) f=F:=⟨_,rfl⟩;have C1:=hid (HFI.out _ _ f WD (HI1.out.below hb3));have C2:Hid (∀v w',IsStrs w' v (Zbgw y y.outs)->Calls Tryz.prog 23 #[v,.string f] w' λe w''=>e = .returned (.int .i64 F2)/\w''=w'):=by
         show ∀v w',_;intro v w' h;rw[<-hF2];exact HFI.out _ _ f w' h
        have CL2:=hid (CAL.out WD hb3);rw[hF1]at C1 h1;rw[hF2]at h2;have n1:¬F1<0:=by omega
        have n2:¬F2<0:=by omega
        have e1:decide (F1<0)=false:=decide_eq_false n1;have e2:decide (F2<0)=false:=decide_eq_false n2;have HBQ:=hid hbq;clear hF1 hF2 hf hcf hbq hb3
        go_wp2_with fail
        refine C1.out.mono ?_;rintro e _ ⟨rfl,rfl⟩
        go_wp2_with fail
        refine CL2.out.mono ?_;rintro e w8 ⟨v8,rfl,hv8,hb8⟩;have HB9:=hid (HBQ.out.trans (hb8.mono HBQ.out.size));have C3:=hid (C2.out v8 w8 hv8);obtain⟨v8a,v8c,rfl⟩:=Zue hv8;clear hv8 hb8
        go_wp2_with fail
        refine C3.out.mono ?_;rintro e _ ⟨rfl,rfl⟩;go_wp2;go_roundw
        case rel=>exact⟨j+1,by omega,by go_num,HB9.out⟩
        case measure=>simp[intOf];omega
       ·have hj1:¬(j:Int)<(RD.length:Int):=by omega
        have HB3:=hid hb3;clear hbq hb3;go_wp2;go_roundw
        case rel=>exact⟨i+1,by omega,by go_num,HB3.out⟩
        case measure=>simp[intOf];omega
end Go.Proofs.YthkehhphnbckaaaGreatDoor.lawSliceSteps
