import Derived.Deep.RegionHeld3
import Derived.Deep.RegionLaw
import Derived.Deep.CutBlock
import Derived.Deep.DeepCutAuto
import Derived.Test.YtmgcaldphpnfgaaGreatDoorMbp
namespace Go.Proofs.YtmgcaldphpnfgaaGreatDoor.lawCheckTurn
open Go.Lib (hid)
open Go.RowKit Go.Shelf Go.Maps
theorem Zckg {V V1 w7:World} {B:Nat} {o:Obj} {r:Option Nat} (hx:V.heap[B]? =some o) (hb1:Below V.heap.size V V1) (hgr:V1.grownBy w7 r) (hr:∀k,r=some k->k≠B):w7.heap[B]? =some o:=by
 have hB:=(Array.getElem?_eq_some_iff.1 hx).1;exact(hgr.block B (Nat.lt_of_lt_of_le hB hb1.size) (λe=>hr B e.symm rfl)).trans ((hb1.block B hB).trans hx)
set_option maxHeartbeats 16000000
set_option maxRecDepth 100000
theorem law (x:RuleS) (a1 a2 a3 a4:Option Addr) (c1 c2 c3 c4:Nat) (which:Int) (s0:ByteArray) (t:StepS) (ta tl:Option Addr) (tc td:Nat) (w:World) (hI:RuleI w [.string x.name,.slice a1 x.ins.length c1,.slice a2 x.outs.length c2,.slice a3 x.after.length c3,.slice a4 x.steps.length c4] x) (hs:SmallR x 1048576) (hz:s0.size<=maxLen) (hA:IsStrs w (.slice ta t.args.length tc) t.args) (hL:IsStrs w (.slice tl t.lits.length td) t.lits) (ht:SmallS t 1048576) (hG:GP w.heap.size w):
  Calls Tryz.prog 5 #[.agg (Zbiz x a1 a2 a3 a4 c1 c2 c3 c4),.int .i64 which,.string s0,.agg (Zbny t ta tl tc td)] w λe w'=>e = .returned (.bool true)/\Below w.heap.size w w':=by
 have mixed:Tryz.prog.follows .mixedOrders=true:=by kernel_rfl
 obtain⟨W0,hW0⟩:∃V,(w.alloc (.cells (Zbiz x a1 a2 a3 a4 c1 c2 c3 c4) 25)).alloc (.cells (Zbny t ta tl tc td) 42)=V:=⟨_,rfl⟩;obtain⟨B,hB⟩:∃m,w.heap.size=m:=⟨_,rfl⟩;have hb0:Below B w W0:=by rw[<-hW0,<-hB];exact((Below.refl _ _).alloc (Nat.le_refl _) _).alloc (by simp) _
 have hs0:W0.heap.size=B+2:=by rw[<-hW0];simp[hB]
 have hx0:W0.heap[B]? =some (.cells (Zbiz x a1 a2 a3 a4 c1 c2 c3 c4) 25):=by rw[<-hW0,<-hB,Below.heap_alloc _ _ _ (by simp)];exact alloc_at w _
 have hv0:W0.heap[B+1]? =some (.cells (Zbny t ta tl tc td) 42):=by
  have:=alloc_at (w.alloc (.cells (Zbiz x a1 a2 a3 a4 c1 c2 c3 c4) 25)) (.cells (Zbny t ta tl tc td) 42);rw[World.size_alloc,hB]at this;rw[<-hW0];exact this
 rw[hB]at hG;have CB:=hid (Zfc W0 ((hG.below hb0).up (by omega)));have HFIN:Hid (∀V,Below B w V->Below w.heap.size w V):=hid (by rw[hB];exact λ_ h=>h);have HMW:Hid (∀V,Below B w V->MayW V):=hid λV hV=>(hG.below hV).glob.max
 have CL:Hid (∀V,Below B w V->Calls Tryz.prog 13 #[.agg (Zbiz x a1 a2 a3 a4 c1 c2 c3 c4)] V (Zcbb x V)):=hid λV hV=>Zcbh x a1 a2 a3 a4 c1 c2 c3 c4 V (hI.below (by rw[hB];exact hV)) hs
 have CST:Hid (∀V,Below B w V->Calls Tryz.prog 23 #[.agg (Zbny t ta tl tc td)] V (Zbuy t V)):=hid λV hb=>Zbxx t ta tl tc td V (hA.below (by rw[hB];exact hb)) (hL.below (by rw[hB];exact hb)) ht
 unfold Zcbb at CL;unfold Zbuy at CST;obtain⟨y,hy⟩:∃y,cutR x=y:=⟨_,rfl⟩;have hym:SmallR y 1048576:=by rw[<-hy];exact Zbma hs
 have hyh:ShortR y:=by rw[<-hy];exact Zbkv x
 have HYM:=hid hym;have HYH:=hid hyh;rw[hy]at CL;obtain⟨X,hX⟩:∃X,cutS t=X:=⟨_,rfl⟩;have hXm:SmallS X 1048576:=by
  rw[<-hX];have tk:∀ {l:List ByteArray} (k:Nat),SmallL l 1048576->SmallL (l.take k) 1048576:=λk h=>⟨by rw[List.length_take];have:=h.1;omega,λz hz=>h.2 z (List.mem_of_mem_take hz)⟩
  exact⟨ht.out,tk 8 ht.args,tk 3 ht.lits,ht.op,ht.n⟩
 have hXl:X.args.length<=8/\X.lits.length<=3:=by
  rw[<-hX];exact⟨by show(t.args.take 8).length<=8;rw[List.length_take];omega,by show(t.lits.take 3).length<=3;rw[List.length_take];omega⟩
 rw[hX]at CST;obtain⟨s1,hs1⟩:∃s1:ByteArray,s0.extract 0 (min s0.size (Int.toNat 45))=s1:=⟨_,rfl⟩;have hsl:s1.size<=1048576:=by rw[<-hs1];simp;omega
 have CS:Hid (∀V,Calls Tryz.prog 22 #[.string s0,.int .i64 45] V λe w'=>e = .returned (.string s1)/\V=w'):=by
  show ∀V,_;intro V;rw[<-hs1];exact Zcaj s0 45 V hz (by decide) (by decide)
 obtain⟨D,hD⟩:∃D,decide (Zbip y=0)=D:=⟨_,rfl⟩;rw[hD]at CL;have HDD:=hid hD;have HXM:=hid hXm;have HXL:=hid hXl;have HSL:=hid hsl;have HW0:=hid hW0;have HB:=hid hB;have HB0:=hid hb0;have HS0:=hid hs0;have HXD:Hid (∀V,Below W0.heap.size W0 V->V.heap[B]? =some (.cells (Zbiz x a1 a2 a3 a4 c1 c2 c3 c4) 25)/\V.heap[B+1]? =some (.cells (Zbny t ta tl tc td) 42)):=hid λV hV=>⟨(hV.block B (by omega)).trans hx0,(hV.block (B+1) (by omega)).trans hv0⟩
 obtain⟨kk,hk⟩:∃kk:Int,(which.tmod 7+7) % 7=kk:=⟨_,rfl⟩;have hk7:0<=kk/\kk<7:=by omega
 have HK:=hid hk;have HK7:=hid hk7;clear hI hs hG hW0 hB hb0 hs0 hx0 hy hym hyh hD hA hL ht hz hv0 hX hXm hXl hs1 hsl hk hk7;have wn:=Int.tmod_lt_of_pos which (show(0:Int)<7 by omega);have wm:=Int.lt_tmod_of_pos which (show(0:Int)<7 by omega)
 go_enter Tryz.func5,Tryz.ntmps5
 go_wp2_with fail
 rw[HB.out,HW0.out];refine CB.out.mono ?_;rintro e w1 ⟨rfl,hb1⟩;have h01:Below B w w1:=HB0.out.trans (hb1.mono (by have:=HS0.out;omega));have hs1:B+2<=w1.heap.size:=by have:=hb1.size;have:=HS0.out;omega
 obtain⟨d0,d1,d2,d3,d4,_⟩:=cells5 (HXD.out w1 hb1).1;have H01:=hid h01;have HS1:=hid hs1;have H1:=hid hb1;clear h01 hs1 hb1
 go_wp2_with fail
 refine(CL.out w1 H01.out).mono ?_;rintro e w2 ⟨b1,b2,b3,b4,e1,e2,e3,e4,rfl,hra,hb2⟩;obtain⟨hx2,hv2⟩:=HXD.out w2 (H1.out.trans (hb2.mono H1.out.size));have h02:Below B w w2:=H01.out.trans (hb2.mono (by have:=HS1.out;omega));obtain⟨hbR,hxR,hR⟩:=Zgd hra hx2 (by have:=HS1.out;omega);obtain⟨f0,f1,f2,f3,f4,_⟩:=cells5 hx2;have hvR:=(Zgg w2 B y.name (.slice b1 y.ins.length e1) (.slice b2 y.outs.length e2) (.slice b3 y.after.length e3) (.slice b4 y.steps.length e4) (B+1) (by omega)).trans hv2;obtain⟨w3,hw3⟩:∃V,boxR w2 B y.name (.slice b1 y.ins.length e1) (.slice b2 y.outs.length e2) (.slice b3 y.after.length e3) (.slice b4 y.steps.length e4)=V:=⟨_,rfl⟩;rw[hw3]at hbR hxR hR hvR;unfold boxR at hw3;have h03:Below B w w3:=h02.trans hbR;have H03:=hid h03;have HS3:Hid (B+2<=w3.heap.size):=hid (by have:=HS1.out;have:=hb2.size;have:=hbR.size;omega);have HRI:=hid hR;have HXR:=hid hxR;have HVR:=hid hvR;clear hra hb2 hx2 h02 hbR hxR hR d0 d1 d2 d3 d4 h03 hvR hv2
 go_upto_region 5 with fail
 try rw[hw3]
 clear hw3 f0 f1 f2 f3 f4
 cases D with
 | false=>
  go_wp2;go_ret;exact⟨rfl,HFIN.out _ H03.out⟩
 | true=>
 have hR0:Zbip y=0:=of_decide_eq_true HDD.out;have HR0:=hid hR0;clear hR0 HDD;have CC:=hid (Zckf y _ _ _ _ w3 HRI.out HYM.out);obtain⟨g0,g1,g2,g3,g4,_⟩:=cells5 HXR.out
 go_wp2_with fail
 refine CC.out.mono ?_;rintro e w4 ⟨⟨vi,vo,vf,vs,rs,B0,rfl,h1,h2,h3,hap,hle,hsz,hlo,hown,hall⟩,hb4⟩;obtain⟨p1,n1,m1,q1⟩:=Zbig h1.1.1;obtain⟨p2,n2,m2,q2⟩:=Zbig h2.1.1;obtain⟨p3,n3,m3,q3⟩:=Zbig h3.1.1;subst q1 q2 q3;obtain⟨p4,m4,q4,hp4,_,hm4⟩:=Zbea hown;subst q4;have hrl:rs.length=y.steps.length:=hall.1;have hx4:=(hb4.block B (by have:=HS3.out;omega)).trans HXR.out;have hv4:=(hb4.block (B+1) (by have:=HS3.out;omega)).trans HVR.out;have hBS:B<w3.heap.size:=by have:=HS3.out;omega
 have hcp:CpS w3.heap.size B0 w4 y _ _ _ _ rs:=⟨h1,h2,h3,hap,hle,hsz,hlo,hown,hall⟩;obtain⟨f0,f1,f2,f3,f4,_⟩:=cells5 hx4;have hbR:=Zgf w4 B y.name (.slice p1 n1 m1) (.slice p2 n2 m2) (.slice p3 n3 m3) (.slice p4 rs.length m4);have hxR:=Zge w4 B y.name (.slice p1 n1 m1) (.slice p2 n2 m2) (.slice p3 n3 m3) (.slice p4 rs.length m4) hx4;have hoR:=Zgg w4 B y.name (.slice p1 n1 m1) (.slice p2 n2 m2) (.slice p3 n3 m3) (.slice p4 rs.length m4);have hvR:=(hoR (B+1) (by omega)).trans hv4;obtain⟨w5,hw5⟩:∃V,boxR w4 B y.name (.slice p1 n1 m1) (.slice p2 n2 m2) (.slice p3 n3 m3) (.slice p4 rs.length m4)=V:=⟨_,rfl⟩;rw[hw5]at hbR hxR hoR hvR;unfold boxR at hw5;have hcp5:CpS w3.heap.size B0 w5 y _ _ _ _ rs:=hcp.keep hBS ⟨hbR.os,hbR.tape,hbR.output,hbR.size,λk _ hn=>hoR k hn⟩;have hb5:Below B w w5:=(H03.out.trans (hb4.mono (by omega))).trans hbR;have HCP:=hid hcp5;have HX5:=hid hxR;have HV5:=hid hvR;have HB5:=hid hb5;have HBS:=hid hBS;have HRL:=hid hrl;have HP4:=hid hp4;have HM4:=hid hm4;have hn1:n1=y.ins.length:=by have:=h1.2.1;obtain⟨_,h|⟨_,_,_,q,_⟩⟩:=h1.2<;>simp_all
 subst hn1;clear h1 h2 h3 hap hle hsz hlo hown hall hb4 hx4 hv4 hBS hcp hbR hxR hoR hvR hcp5 hb5 hrl hp4 hm4 g0 g1 g2 g3 g4 CC CL
 go_upto_region 8 with fail
 try rw[hw5]
 clear hw5 f0 f1 f2 f3 f4
 go_wp2_with fail
 refine(CS.out _).mono ?_;rintro e _ ⟨rfl,rfl⟩;have CX:Hid (Calls Tryz.prog 23 #[.agg (Zbny t ta tl tc td)] w5 λe w'=>∃b1 m1 b2 m2,e = .returned (.agg (Zbny X b1 b2 m1 m2))/\StrsA (λb=>b<w5.heap.size) w' (.slice b1 X.args.length m1) X.args/\StrsA (λb=>b<w5.heap.size) w' (.slice b2 X.lits.length m2) X.lits/\Below w5.heap.size w5 w'):=hid (CST.out w5 HB5.out);obtain⟨Z,hZ⟩:∃Z,chgR kk.toNat y s1 X=Z:=⟨_,rfl⟩;have HZ:=hid hZ;have HZM:Hid (SmallR Z 1048576/\ShortR Z):=hid (by rw[<-hZ];exact⟨Zcke HR0.out HYM.out (by decide) HSL.out HXM.out,Zckd HR0.out HYH.out HXL.out⟩);clear hZ
 go_upto_block 0 with fail
 rw[HK.out]
 go_cut [] (λwc=>BoxQ B w Z wc)
 case first=>
  rcases(show kk=0∨kk=1∨kk=2∨kk=3∨kk=4∨kk=5∨kk=6 by have:=HK7.out;omega)with hq|hq|hq|hq|hq|hq|hq
  ·have HQ:=hid hq
   obtain⟨k1,k2⟩: -1<kk/\kk<1:=by omega
   clear hq;have HN:=hid (HCP.out.named HBS.out HX5.out HB5.out s1);obtain⟨f0,f1,f2,f3,f4,u0,u1,u2,u3,u4⟩:=cells5 HX5.out
   go_wp2_with fail
   go_meet;rw[<-HZ.out,HQ.out];exact HN.out
  ·have HQ:=hid hq
   obtain⟨k1,k2⟩:0<kk/\kk<2:=by omega
   clear hq;obtain⟨f0,f1,f2,f3,f4,u0,u1,u2,u3,u4⟩:=cells5 HX5.out;obtain⟨f0',f1',f2',f3',f4',_⟩:=cells5 ((Below.heap_alloc w5 (.cells #[.string s1] 9) B (Array.getElem?_eq_some_iff.1 HX5.out).1).trans HX5.out);obtain⟨i0,hi,hz0,hz1,hz2⟩:=Zsv Zsy;have HLN:Hid (y.ins.length<=10):=hid (by have:=HYH.out.ins;omega);have HOW:=hid (HCP.out.ins.2.alloc (.cells #[.string s1] 9));have HNB:Hid (∀b,(Value.slice p1 y.ins.length m1).ownBlock=some b->b≠B):=hid λb e e'=>(HCP.out.ins.1.1.2 b e).2 (by have:=HBS.out;show b<_;omega)
   go_wp2_with (at_builtin;refine Zbue _ rfl _ _ 22 rfl 0 9 i0 (.string ByteArray.empty) 1 16 Tryz.underlying22 hi hz0 hz1 hz2 rfl (by decide) _ _ _ rfl HOW.out ⟨w5.heap.size,0,none⟩ 1 1 [.string s1] rfl rfl ?d11 ?d21 (by decide) ?d31 ?d41 ?d51 ?_)
   case d11=>
    intro j u hj
    match j,hj with
    | 0,hj=>simp at hj;subst hj;simp[Addr.add]
   case d21=>intro u hu;simp at hu;subst hu;rfl
   case d31=>have:=HLN.out;unfold maxLen;omega
   case d41=>have:=HLN.out;omega
   case d51=>exact Nat.zero_le _
   intro v' w7 hown' hgrow hnew;obtain⟨aB,cB,rfl,_⟩:=Zbea hown';have HN:=hid (HCP.out.moreI HBS.out HX5.out HB5.out s1 ((Below.refl _ _).alloc (Nat.le_refl _) _) hown' hgrow λb e=>by have:=hnew b e;rw[World.size_alloc];exact this);have hx7:=Zckg HX5.out ((Below.refl _ _).alloc (Nat.le_refl _) _) hgrow HNB.out;clear f0 f1 f2 f3 f4 u0 u1 u2 u3 u4 f0' f1' f2' f3' f4' hown' hgrow hnew;obtain⟨f0,f1,f2,f3,f4,u0,u1,u2,u3,u4⟩:=cells5 hx7
   go_wp2_with fail
   go_meet;rw[<-HZ.out,HQ.out];exact HN.out
  ·have HQ:=hid hq
   obtain⟨k1,k2⟩:1<kk/\kk<3:=by omega
   clear hq;obtain⟨f0,f1,f2,f3,f4,u0,u1,u2,u3,u4⟩:=cells5 HX5.out;obtain⟨f0',f1',f2',f3',f4',_⟩:=cells5 ((Below.heap_alloc w5 (.cells #[.string s1] 9) B (Array.getElem?_eq_some_iff.1 HX5.out).1).trans HX5.out);obtain⟨i0,hi,hz0,hz1,hz2⟩:=Zsv Zsy;have HLN:Hid (y.outs.length<=10):=hid (by have:=HYH.out.outs;omega);have HOW:=hid (HCP.out.outs.2.alloc (.cells #[.string s1] 9));have HNB:Hid (∀b,(Value.slice p2 n2 m2).ownBlock=some b->b≠B):=hid λb e e'=>(HCP.out.outs.1.1.2 b e).2 (by have:=HBS.out;show b<_;omega)
   go_wp2_with (at_builtin;refine Zbue _ rfl _ _ 22 rfl 0 9 i0 (.string ByteArray.empty) 1 16 Tryz.underlying22 hi hz0 hz1 hz2 rfl (by decide) _ _ _ rfl HOW.out ⟨w5.heap.size,0,none⟩ 1 1 [.string s1] rfl rfl ?d12 ?d22 (by decide) ?d32 ?d42 ?d52 ?_)
   case d12=>
    intro j u hj
    match j,hj with
    | 0,hj=>simp at hj;subst hj;simp[Addr.add]
   case d22=>intro u hu;simp at hu;subst hu;rfl
   case d32=>have:=HLN.out;unfold maxLen;omega
   case d42=>have:=HLN.out;omega
   case d52=>exact Nat.zero_le _
   intro v' w7 hown' hgrow hnew;obtain⟨aB,cB,rfl,_⟩:=Zbea hown';have HN:=hid (HCP.out.moreO HBS.out HX5.out HB5.out s1 ((Below.refl _ _).alloc (Nat.le_refl _) _) hown' hgrow λb e=>by have:=hnew b e;rw[World.size_alloc];exact this);have hx7:=Zckg HX5.out ((Below.refl _ _).alloc (Nat.le_refl _) _) hgrow HNB.out;clear f0 f1 f2 f3 f4 u0 u1 u2 u3 u4 f0' f1' f2' f3' f4' hown' hgrow hnew;obtain⟨f0,f1,f2,f3,f4,u0,u1,u2,u3,u4⟩:=cells5 hx7
   go_wp2_with fail
   go_meet;rw[<-HZ.out,HQ.out];exact HN.out
  ·have HQ:=hid hq
   obtain⟨k1,k2⟩:2<kk/\kk<4:=by omega
   clear hq;obtain⟨f0,f1,f2,f3,f4,u0,u1,u2,u3,u4⟩:=cells5 HX5.out;obtain⟨f0',f1',f2',f3',f4',_⟩:=cells5 ((Below.heap_alloc w5 (.cells #[.string s1] 9) B (Array.getElem?_eq_some_iff.1 HX5.out).1).trans HX5.out);obtain⟨i0,hi,hz0,hz1,hz2⟩:=Zsv Zsy;have HLN:Hid (y.after.length<=10):=hid (by have:=HYH.out.after;omega);have HOW:=hid (HCP.out.after.2.alloc (.cells #[.string s1] 9));have HNB:Hid (∀b,(Value.slice p3 n3 m3).ownBlock=some b->b≠B):=hid λb e e'=>(HCP.out.after.1.1.2 b e).2 (by have:=HBS.out;show b<_;omega)
   go_wp2_with (at_builtin;refine Zbue _ rfl _ _ 22 rfl 0 9 i0 (.string ByteArray.empty) 1 16 Tryz.underlying22 hi hz0 hz1 hz2 rfl (by decide) _ _ _ rfl HOW.out ⟨w5.heap.size,0,none⟩ 1 1 [.string s1] rfl rfl ?d13 ?d23 (by decide) ?d33 ?d43 ?d53 ?_)
   case d13=>
    intro j u hj
    match j,hj with
    | 0,hj=>simp at hj;subst hj;simp[Addr.add]
   case d23=>intro u hu;simp at hu;subst hu;rfl
   case d33=>have:=HLN.out;unfold maxLen;omega
   case d43=>have:=HLN.out;omega
   case d53=>exact Nat.zero_le _
   intro v' w7 hown' hgrow hnew;obtain⟨aB,cB,rfl,_⟩:=Zbea hown';have HN:=hid (HCP.out.moreF HBS.out HX5.out HB5.out s1 ((Below.refl _ _).alloc (Nat.le_refl _) _) hown' hgrow λb e=>by have:=hnew b e;rw[World.size_alloc];exact this);have hx7:=Zckg HX5.out ((Below.refl _ _).alloc (Nat.le_refl _) _) hgrow HNB.out;clear f0 f1 f2 f3 f4 u0 u1 u2 u3 u4 f0' f1' f2' f3' f4' hown' hgrow hnew;obtain⟨f0,f1,f2,f3,f4,u0,u1,u2,u3,u4⟩:=cells5 hx7
   go_wp2_with fail
   go_meet;rw[<-HZ.out,HQ.out];exact HN.out
  ·have HQ:=hid hq
   obtain⟨k1,k2⟩:3<kk/\kk<5:=by omega
   clear hq;have hl4:∀V,Below w5.heap.size w5 V->V.cell? ⟨B,4,none⟩=some (.slice p4 rs.length m4):=λV hV=>(cells5 ((hV.block B (Array.getElem?_eq_some_iff.1 HX5.out).1).trans HX5.out)).2.2.2.2.1
   have hlv:∀V,Below w5.heap.size w5 V->V.heap[B+1]? =some (.cells (Zbny t ta tl tc td) 42):=λV hV=>(hV.block (B+1) (Array.getElem?_eq_some_iff.1 HV5.out).1).trans HV5.out
   have HOW:Hid (∀V,Below w5.heap.size w5 V->V.ownsRow B0 42 5 (.slice p4 rs.length m4) rs.length rs.flatten):=by
    show ∀V,_;exact λV hV=>Zckk HCP.out.own λb e=>hV.block b (HCP.out.own.lt b e).2
   have CX':Hid (∀V,Below w5.heap.size w5 V->Calls Tryz.prog 23 #[.agg (Zbny t ta tl tc td)] V λe w'=>∃b1 m1 b2 m2,e = .returned (.agg (Zbny X b1 b2 m1 m2))/\StrsA (λb=>b<w5.heap.size) w' (.slice b1 X.args.length m1) X.args/\StrsA (λb=>b<w5.heap.size) w' (.slice b2 X.lits.length m2) X.lits/\Below V.heap.size V w'):=by
    show ∀V,_;intro V hV;refine(CST.out V (HB5.out.trans (hV.mono (Nat.le_of_lt (Array.getElem?_eq_some_iff.1 HX5.out).1)))).mono ?_;rintro e w' ⟨b1,m1,b2,m2,rfl,h1,h2,hb⟩;have:=hV.size;exact⟨b1,m1,b2,m2,rfl,h1.mono λb _ hb=>(by show b<V.heap.size;have:b<w5.heap.size:=hb;omega),h2.mono λb _ hb=>(by show b<V.heap.size;have:b<w5.heap.size:=hb;omega),hb⟩
   obtain⟨i0,hi,hz0,hz1,hz2⟩:=Zsv Zsx;have HLN:Hid (rs.length<=14):=hid (by rw[HRL.out];exact HYH.out.steps);have HNB:Hid (∀b,(Value.slice p4 rs.length m4).ownBlock=some b->b≠B):=hid λb e e'=>by have:=(HCP.out.own.lt b e).1;have:=HCP.out.le;have:=HBS.out;omega
   have HS0':Hid (Below w5.heap.size w5 w5.drew):=hid (Below.refl _ _).drew
   go_upto_region 21 with fail
   refine Zbuk (S:=λb V=>b=false->Below w5.heap.size w5 V) (st:=5) (by kernel_rfl) ?_ (λhHeld=>?_)
   ·exact λ_=>HS0'.out
   refine Zbty (i:=0) (oi:=_) (v:=?_) (by simp only[List.getElem?_toArray,List.getElem?_cons_zero];rfl) (by kernel_rfl) (by kernel_rfl) (f:=20) (by kernel_rfl) (by kernel_rfl) (by kernel_rfl) (by kernel_rfl) (by exact λ_ _ _ h=>h) (by kernel_rfl) (Or.inl ⟨by rfl,?_⟩) (by assumption) ?_;rotate_left
   ·intro w hSw;go_simp;try with_reducible rfl
   try simp only[Act.put,List.setIfInBounds_toArray,List.set_cons_zero,List.set_cons_succ]
   refine Zbty (i:=1) (oi:=_) (v:=?_) (by simp only[List.getElem?_toArray,List.getElem?_cons_succ,List.getElem?_cons_zero];rfl) (by kernel_rfl) (by kernel_rfl) (f:=20) (by kernel_rfl) (by kernel_rfl) (by kernel_rfl) (by kernel_rfl) (by exact λ_ _ _ h=>h) (by kernel_rfl) (Or.inl ⟨by rfl,?_⟩) (by assumption) ?_;rotate_left
   ·intro w hSw;have k4:=hl4 _ (hSw rfl);go_simp;try with_reducible rfl
   try simp only[Act.put,List.setIfInBounds_toArray,List.set_cons_zero,List.set_cons_succ]
   refine Zbty (i:=2) (oi:=_) (v:=?_) (by simp only[List.getElem?_toArray,List.getElem?_cons_succ,List.getElem?_cons_zero];rfl) (by kernel_rfl) (by kernel_rfl) (f:=20) (by kernel_rfl) (by kernel_rfl) (by kernel_rfl) (by kernel_rfl) (by exact λ_ _ _ h=>h) (by kernel_rfl) (Or.inl ⟨by rfl,?_⟩) (by assumption) ?_;rotate_left
   ·intro w hSw;obtain⟨v0,v1,v2,v3,v4,_⟩:=cells5 (hlv _ (hSw rfl));go_simp;try with_reducible rfl
   try simp only[Act.put,List.setIfInBounds_toArray,List.set_cons_zero,List.set_cons_succ]
   refine Zbtx (rs:=[3]) (by kernel_rfl) (by simp) ?_;refine AllReadyS.cons (b:=false) (o:=_) (by simp only[List.getElem?_toArray,List.getElem?_cons_succ,List.getElem?_cons_zero];rfl) (by kernel_rfl) (λK hK=>?_) ?_
   ·go_simp;refine(CX'.out _ (hHeld rfl)).mono ?_;rintro e w6 ⟨b5,k5,b6,k6,rfl,h1,h2,hb⟩;have hSn:=(hHeld rfl).trans (hb.mono (hHeld rfl).size);have HA:=hid h1;have HL6:=hid h2;clear h1 h2 hb;dsimp only
    refine hK.out _ _ ?_ (λhHeld=>?_)
    ·try dsimp only
     exact λ_=>hSn
    clear hK K
    try simp only[Act.put,List.setIfInBounds_toArray,List.set_cons_zero,List.set_cons_succ]
    refine Zbtx (rs:=[4]) (by kernel_rfl) (by simp) ?_;refine AllReadyS.cons (b:=false) (o:=_) (by simp only[List.getElem?_toArray,List.getElem?_cons_succ,List.getElem?_cons_zero];rfl) (by kernel_rfl) (λK hK=>?_) ?_
    ·go_simp
     refine hK.out _ _ ?_ (λhHeld=>?_)
     ·try dsimp only
      exact λ_=>(hHeld rfl).alloc (hHeld rfl).size _
     clear hK K
     try simp only[Act.put,List.setIfInBounds_toArray,List.set_cons_zero,List.set_cons_succ]
     refine Zbtx (rs:=[5]) (by kernel_rfl) (by simp) ?_;refine AllReadyS.cons (b:=true) (o:=_) (by simp only[List.getElem?_toArray,List.getElem?_cons_succ,List.getElem?_cons_zero];rfl) (by kernel_rfl) (λK hK=>?_) ?_
     ·refine Zcjx (by rfl) _ _ _ (by rfl) B0 42 i0 (.agg #[.string ByteArray.empty,.int .i64 0,.slice none 0 0,.slice none 0 0,.int .i64 0]) 5 80 Tryz.underlying23 hi hz0 hz1 hz2 rfl (by decide) (.slice p4 rs.length m4) rs.length rs.flatten (by rfl) (HOW.out _ (hHeld rfl)) ⟨w6.heap.size,0,none⟩ 1 1 [.string X.out,.int .i64 X.op,.slice b5 X.args.length k5,.slice b6 X.lits.length k6,.int .i64 X.n] (by rfl) (by rfl) (by intro j u hj;match j,hj with|0,hj=>simp at hj;subst hj;simp[Addr.add]|1,hj=>simp at hj;subst hj;simp[Addr.add]|2,hj=>simp at hj;subst hj;simp[Addr.add]|3,hj=>simp at hj;subst hj;simp[Addr.add]|4,hj=>simp at hj;subst hj;simp[Addr.add]) (by intro u hu;simp at hu;rcases hu with rfl|rfl|rfl|rfl|rfl<;>rfl) (by have:=HLN.out;unfold maxLen;omega) (by have:=HLN.out;omega) (Nat.le_trans HCP.out.sz (hHeld rfl).size) ?_;intro v' w7 hown' hgrow hnew;obtain⟨aB,cB,rfl,_⟩:=Zbea hown';have HN:=hid (HCP.out.moreS HBS.out HX5.out HB5.out (hHeld rfl) (HA.out.keep (Zpv ((Below.refl _ _).alloc (Nat.le_refl _) _))) (HL6.out.keep (Zpv ((Below.refl _ _).alloc (Nat.le_refl _) _))) hown' hgrow hnew);have hx7:=Zckg HX5.out (hHeld rfl) hgrow HNB.out;clear hown' hgrow hnew;obtain⟨f0,f1,f2,f3,f4,u0,u1,u2,u3,u4⟩:=cells5 hx7
      refine hK.out _ _ ?_ (λhHeld=>?_)
      ·try dsimp only
       exact λe=>by cases e
      clear hK K
      try simp only[Act.put,List.setIfInBounds_toArray,List.set_cons_zero,List.set_cons_succ]
      refine Zbtz (i:=6) (oi:=_) (v:=?_) (by simp only[List.getElem?_toArray,List.getElem?_cons_succ,List.getElem?_cons_zero];rfl) (by kernel_rfl) (by kernel_rfl) (by kernel_rfl) (by kernel_rfl) (by exact λ_ _ _ h=>h) (by kernel_rfl) (Or.inl ⟨by rfl,?_⟩) (by assumption) ?_;rotate_left
      ·intro w hSw;go_simp;try with_reducible rfl
      try simp only[Act.put,List.setIfInBounds_toArray,List.set_cons_zero,List.set_cons_succ]
      refine Zbtx (rs:=[7]) (by kernel_rfl) (by simp) ?_;refine AllReadyS.cons (b:=true) (o:=_) (by simp only[List.getElem?_toArray,List.getElem?_cons_succ,List.getElem?_cons_zero];rfl) (by kernel_rfl) (λK hK=>?_) ?_
      ·go_simp
       refine hK.out _ _ ?_ (λhHeld=>?_)
       ·try dsimp only
        exact λe=>by cases e
       clear hK K
       try simp only[Act.put,List.setIfInBounds_toArray,List.set_cons_zero,List.set_cons_succ]
       refine Zbtu (by kernel_rfl) ?_ _
       go_wp2_with fail
       go_meet;rw[<-HZ.out,HQ.out];exact HN.out
      exact AllReadyS.nil
     exact AllReadyS.nil
    exact AllReadyS.nil
   exact AllReadyS.nil
  ·have HQ:=hid hq
   obtain⟨k1,k2⟩:4<kk/\kk<6:=by omega
   clear hq;have HF5:Hid (rs.length=0->Z=y):=hid λh0=>by
    have h1:y.steps = []:=List.eq_nil_of_length_eq_zero (by rw[<-HRL.out];exact h0);rw[<-HZ.out,HQ.out];show { y with steps:=Zckh s1 y.steps } =y;rw[h1];show { y with steps:=[] } =y;rw[<-h1]
   have HNX:=hid (HCP.out.box HX5.out HB5.out);obtain⟨f0,f1,f2,f3,f4,u0,u1,u2,u3,u4⟩:=cells5 HX5.out
   by_cases h0:rs.length=0
   ·have hd:decide ((0:Int)<(rs.length:Int))=false:=by simp[h0]
    have hd2:decide (0<rs.length)=false:=by simp[h0]
    have hz:¬0<rs.length:=by omega
    have HH0:=hid h0;clear h0
    go_wp2_with fail
    go_meet;rw[HF5.out HH0.out];exact HNX.out
   ·have hd:decide ((0:Int)<(rs.length:Int))=true:=by simp;omega
    have hd2:decide (0<rs.length)=true:=by simp;omega
    obtain⟨g,hg⟩:=HP4.out h0;subst hg;have hpos:0<rs.length:=by omega
    obtain⟨v0,f5,u5⟩:=HCP.out.first hpos
    have HN:=hid (HCP.out.outS HBS.out HX5.out HB5.out hpos s1);have hi1:(0:Int)<(rs.length:Int):=by omega
    clear h0
    go_wp2_with fail
    go_meet;rw[<-HZ.out,HQ.out];exact HN.out
  ·have HQ:=hid hq
   obtain⟨k1,k2⟩:5<kk/\kk<7:=by omega
   clear hq;have HF5:Hid (rs.length=0->Z=y):=hid λh0=>by
    have h1:y.steps = []:=List.eq_nil_of_length_eq_zero (by rw[<-HRL.out];exact h0);rw[<-HZ.out,HQ.out];show { y with steps:=y.steps.drop 1 } =y;rw[h1];show { y with steps:=[] } =y;rw[<-h1]
   have HNX:=hid (HCP.out.box HX5.out HB5.out);obtain⟨f0,f1,f2,f3,f4,u0,u1,u2,u3,u4⟩:=cells5 HX5.out
   by_cases h0:rs.length=0
   ·have hd:decide ((0:Int)<(rs.length:Int))=false:=by simp[h0]
    have hd2:decide (0<rs.length)=false:=by simp[h0]
    have hz:¬0<rs.length:=by omega
    have HH0:=hid h0;clear h0
    go_wp2_with fail
    go_meet;rw[HF5.out HH0.out];exact HNX.out
   ·have hd:decide ((0:Int)<(rs.length:Int))=true:=by simp;omega
    have hd2:decide (0<rs.length)=true:=by simp;omega
    have hpos:0<rs.length:=by omega
    have HN:=hid (HCP.out.dropS HBS.out HX5.out HB5.out hpos);obtain⟨g,hg⟩:=HP4.out h0;subst hg;have hi1:(1:Int)<=(rs.length:Int):=by omega
    have hi2:(1:Int)<=(m4:Int):=by have:=HM4.out;omega
    have hi3:1<=m4:=by omega
    clear h0
    by_cases hm:m4=1
    ·subst hm
     go_wp2_with fail
     go_meet;rw[<-HZ.out,HQ.out];have hr1:rs.length=1:=by have:=HM4.out;omega
     have e1:Zly 5 1 (some ⟨g,0,none⟩) rs.length 1 = .slice (some ⟨g,0,none⟩) 0 0:=by rw[hr1];rfl
     rw[e1]at HN;exact HN.out
    ·go_wp2_with fail
     go_meet;rw[<-HZ.out,HQ.out];unfold Zly at HN;rw[if_neg hm]at HN;exact HN.out
 case rest=>
  obtain⟨u1,u2,u3,u4,n1,n3,n5,n7,hx,hR,hb,hB1⟩:=hcut;obtain⟨WC,hWC⟩:∃V,wc=V:=⟨_,rfl⟩;rw[hWC]at hx hR hb hB1⊢;clear hWC;have HD:Hid (∀V,Below WC.heap.size WC V->Below B w V/\(V.cell? ⟨B,0,none⟩=some (.string Z.name)/\V.cell? ⟨B,1,none⟩=some (.slice u1 Z.ins.length n1)/\V.cell? ⟨B,2,none⟩=some (.slice u2 Z.outs.length n3)/\V.cell? ⟨B,3,none⟩=some (.slice u3 Z.after.length n5)/\V.cell? ⟨B,4,none⟩=some (.slice u4 Z.steps.length n7))/\
    RuleI V [.string Z.name,.slice u1 Z.ins.length n1,.slice u2 Z.outs.length n3,.slice u3 Z.after.length n5,.slice u4 Z.steps.length n7] Z):=by
   show ∀V,_;intro V hV;obtain⟨g0,g1,g2,g3,g4,_⟩:=cells5 ((hV.block B hB1).trans hx);exact⟨hb.trans (hV.mono (by omega)),⟨g0,g1,g2,g3,g4⟩,hR.below hV⟩
  have CK:Hid (∀V,Below WC.heap.size WC V->Calls Tryz.prog 21 #[.agg (Zbiz Z u1 u2 u3 u4 n1 n3 n5 n7)] V λe w'=>e = .returned (.int .i64 (Zbip Z))/\Below V.heap.size V w'):=by
   show ∀V,_;intro V hV;obtain⟨h1,_,h2⟩:=HD.out V hV;exact Zir Z u1 u2 u3 u4 n1 n3 n5 n7 V h2 HZM.out.1 (HMW.out V h1)
  have CR:Hid (∀V,Below WC.heap.size WC V->Calls Tryz.prog 24 #[.agg (Zbiz Z u1 u2 u3 u4 n1 n3 n5 n7)] V λe w'=>e = .returned (.int .i64 (Zbip Z))/\Below V.heap.size V w'):=by
   show ∀V,_;intro V hV;obtain⟨h1,_,h2⟩:=HD.out V hV;refine(Zhk Z _ _ _ _ V h2 HZM.out.1 HZM.out.2).mono ?_;rintro e w' ⟨⟨c,rfl,hc⟩,hb⟩;exact⟨by rw[hc.one (Zbiq Z)],hb⟩
  have HSR:Hid (Below WC.heap.size WC WC.drew):=hid (Below.refl _ _).drew;clear hx hR hb hB1
  go_upto_region 25 with fail
  refine wp_region_held_drew (S:=λV=>Below WC.heap.size WC V) (by kernel_rfl) ?_ (λhHeld=>?_)
  ·exact HSR.out
  refine tkH 0 (v:=?_) ?_ ?_;rotate_left
  ·intro w hSw;obtain⟨_,⟨p0,p1,p2,p3,p4⟩,_⟩:=HD.out _ hSw;go_simp;try with_reducible rfl
  try simp only[Act.put,List.setIfInBounds_toArray,List.set_cons_zero,List.set_cons_succ]
  refine tkH 2 (v:=?_) ?_ ?_;rotate_left
  ·intro w hSw;obtain⟨_,⟨p0,p1,p2,p3,p4⟩,_⟩:=HD.out _ hSw;go_simp;try with_reducible rfl
  try simp only[Act.put,List.setIfInBounds_toArray,List.set_cons_zero,List.set_cons_succ]
  refine rdH [1] ?_;refine rcH (λK hK=>?_) ?_
  ·go_simp;refine(CK.out _ hHeld).mono ?_;rintro e w8 ⟨rfl,hb8⟩;have HB8:=hid (hHeld.trans (hb8.mono hHeld.size));clear hb8;dsimp only
   refine hK.out _ _ ?_ (λhHeld=>?_)
   ·try dsimp only
    exact HB8.out
   clear hK K
   try simp only[Act.put,List.setIfInBounds_toArray,List.set_cons_zero,List.set_cons_succ]
   refine rdH [3] ?_;refine rcH (λK hK=>?_) ?_
   ·go_simp;refine(CR.out _ HB8.out).mono ?_;rintro e w9 ⟨rfl,hb9⟩;have HB9:=hid (HB8.out.trans (hb9.mono HB8.out.size));clear hb9;dsimp only
    refine hK.out _ _ ?_ (λhHeld=>?_)
    ·try dsimp only
     exact HB9.out
    clear hK K
    try simp only[Act.put,List.setIfInBounds_toArray,List.set_cons_zero,List.set_cons_succ]
    refine tkK 4 ?_
    try simp only[Act.put,List.setIfInBounds_toArray,List.set_cons_zero,List.set_cons_succ]
    refine rdH [5] ?_;refine rcH (λK hK=>?_) ?_
    ·go_simp
     refine hK.out _ _ ?_ (λhHeld=>?_)
     ·try dsimp only
      exact HB9.out
     clear hK K
     try simp only[Act.put,List.setIfInBounds_toArray,List.set_cons_zero,List.set_cons_succ]
     refine wpAnyH_done (by kernel_rfl) ?_ _;go_wp2;go_ret;exact⟨rfl,HFIN.out _ (HD.out _ HB9.out).1⟩
    exact AllReadyH.nil
   exact AllReadyH.nil
  exact AllReadyH.nil
end Go.Proofs.YtmgcaldphpnfgaaGreatDoor.lawCheckTurn
