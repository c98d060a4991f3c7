import Derived.Deep.RegionHeld3
import Derived.Test.YtmgcaldphpnfgaaGreatDoorMbp
namespace Go.Proofs.YtmgcaldphpnfgaaGreatDoor.lawSliceTurn
open Go.Lib (hid)
open Go.RowKit Go.Shelf Go.Maps
theorem Zcio (turn:Int) (n:Nat) (h:0<n):∃(r:Int) (t:Nat),turn.tmod n=r/\-(n:Int)<r/\r<n/\(r+n).tmod n=(t:Int)/\t<n:=by
 refine⟨turn.tmod n,((turn.tmod n+n).tmod n).toNat,rfl,?_,?_,?_,?_⟩
 ·have:=Int.lt_tmod_of_pos turn (b:=(n:Int)) (by omega);omega
 ·exact Int.tmod_lt_of_pos _ (by omega)
 ·have h1:=Int.lt_tmod_of_pos turn (b:=(n:Int)) (by omega)
  have:=Int.tmod_nonneg (n:Int) (show 0<=turn.tmod n+n by omega);omega
 ·have h1:=Int.lt_tmod_of_pos turn (b:=(n:Int)) (by omega)
  have h2:=Int.tmod_lt_of_pos (turn.tmod n+n) (b:=(n:Int)) (by omega);have h3:=Int.tmod_nonneg (n:Int) (show 0<=turn.tmod n+n by omega);omega
theorem Zcjg {y:RuleS} {vs:List ValT} (h:vs.length=y.ins.length):(runP y vs).length=y.outs.length:=by
 unfold runP;rw[if_neg (by omega),List.length_map]
set_option maxHeartbeats 16000000
set_option maxRecDepth 100000
theorem law (x:RuleS) (a1 a2 a3 a4:Option Addr) (c1 c2 c3 c4:Nat) (v:Value) (us:List ValT) (at0:Int) (u:ValT) (w:World) (hI:RuleI w [.string x.name,.slice a1 x.ins.length c1,.slice a2 x.outs.length c2,.slice a3 x.after.length c3,.slice a4 x.steps.length c4] x) (hs:SmallR x 1048576) (hV:Zbb w v us) (hvs:∀z∈us,z.2.size<=1048576) (hus:u.2.size<=1048576) (hG:GP w.heap.size w):
  Calls Tryz.prog 3 #[.agg (Zbiz x a1 a2 a3 a4 c1 c2 c3 c4),v,.int .i64 at0,.agg #[.bool u.1,.string u.2]] w λe w'=>e = .returned (.bool true)/\Below w.heap.size w w':=by
 have mixed:Tryz.prog.follows .mixedOrders=true:=by kernel_rfl
 obtain⟨W0,hW0⟩:∃V,(w.alloc (.cells (Zbiz x a1 a2 a3 a4 c1 c2 c3 c4) 25)).alloc (.cells #[.bool u.1,.string u.2] 28)=V:=⟨_,rfl⟩;obtain⟨B,hB⟩:∃m,w.heap.size=m:=⟨_,rfl⟩;have hb0:Below B w W0:=by rw[<-hW0,<-hB];exact((Below.refl _ _).alloc (Nat.le_refl _) _).alloc (by simp) _
 have hs0:W0.heap.size=B+2:=by rw[<-hW0];simp[hB]
 have hx0:W0.heap[B]? =some (.cells (Zbiz x a1 a2 a3 a4 c1 c2 c3 c4) 25):=by rw[<-hW0,<-hB,Below.heap_alloc _ _ _ (by simp)];exact alloc_at w _
 have hv0:W0.heap[B+1]? =some (.cells #[.bool u.1,.string u.2] 28):=by
  have:=alloc_at (w.alloc (.cells (Zbiz x a1 a2 a3 a4 c1 c2 c3 c4) 25)) (.cells #[.bool u.1,.string u.2] 28);rw[World.size_alloc,hB]at this;rw[<-hW0];exact this
 rw[hB]at hG;have CB:=hid (Zfc W0 ((hG.below hb0).up (by omega)));have HFIN:Hid (∀V,Below B w V->Below w.heap.size w V):=hid (by rw[hB];exact λ_ h=>h);have HGL:Hid (∀V,Below B w V->Glob V):=hid λV hV=>(hG.below hV).glob
 have CL:Hid (∀V,Below B w V->Calls Tryz.prog 13 #[.agg (Zbiz x a1 a2 a3 a4 c1 c2 c3 c4)] V (Zcbb x V)):=hid λV hV=>Zcbh x a1 a2 a3 a4 c1 c2 c3 c4 V (hI.below (by rw[hB];exact hV)) hs
 have HVS:Hid (∀V,Below B w V->Zbb V v us):=hid λV hb=>Zbsi hV (by rw[hB];exact hb)
 unfold Zcbb at CL;obtain⟨y,hy⟩:∃y,cutR x=y:=⟨_,rfl⟩;have hym:SmallR y 1048576:=by rw[<-hy];exact Zbma hs
 have hyh:ShortR y:=by rw[<-hy];exact Zbkv x
 have HYM:=hid hym;rw[hy]at CL;obtain⟨D,hD⟩:∃D,decide (Zbip y=0)=D:=⟨_,rfl⟩;rw[hD]at CL;have HDD:=hid hD;have HW0:=hid hW0;have HB:=hid hB;have HB0:=hid hb0;have HS0:=hid hs0;have HUS:=hid hus;have HVZ:=hid hvs;have HXD:Hid (∀V,Below W0.heap.size W0 V->V.heap[B]? =some (.cells (Zbiz x a1 a2 a3 a4 c1 c2 c3 c4) 25)/\V.heap[B+1]? =some (.cells #[.bool u.1,.string u.2] 28)):=hid λV hV=>⟨(hV.block B (by omega)).trans hx0,(hV.block (B+1) (by omega)).trans hv0⟩
 obtain⟨n,hnn⟩:∃n,y.ins.length=n:=⟨_,rfl⟩;have hn10:n<=10:=by rw[<-hnn];exact hyh.1
 have HNN:=hid hnn;clear hI hs hG hW0 hB hb0 hs0 hx0 hy hym hyh hD hV hvs hus hv0 hnn;obtain⟨u1,u2⟩:=u;simp only at *
 go_enter Tryz.func3,Tryz.ntmps3
 go_wp2_with fail
 rw[HB.out,HW0.out];refine CB.out.mono ?_;rintro e w1 ⟨rfl,hb1⟩;have h01:Below B w w1:=HB0.out.trans (hb1.mono (by have:=HS0.out;omega));have hs1:B+2<=w1.heap.size:=by have:=hb1.size;have:=HS0.out;omega
 obtain⟨d0,d1,d2,d3,d4,_⟩:=cells5 (HXD.out w1 hb1).1;have H01:=hid h01;have HS1:=hid hs1;have H1:=hid hb1;clear h01 hs1 hb1
 go_wp2_with fail
 refine(CL.out w1 H01.out).mono ?_;rintro e w2 ⟨b1,b2,b3,b4,e1,e2,e3,e4,rfl,hra,hb2⟩;obtain⟨hx2,hv2⟩:=HXD.out w2 (H1.out.trans (hb2.mono H1.out.size));have h02:Below B w w2:=H01.out.trans (hb2.mono (by have:=HS1.out;omega));obtain⟨hbR,hxR,hR⟩:=Zgd hra hx2 (by have:=HS1.out;omega);obtain⟨f0,f1,f2,f3,f4,_⟩:=cells5 hx2;have hvR:=(Zgg w2 B y.name (.slice b1 y.ins.length e1) (.slice b2 y.outs.length e2) (.slice b3 y.after.length e3) (.slice b4 y.steps.length e4) (B+1) (by omega)).trans hv2;obtain⟨w3,hw3⟩:∃V,boxR w2 B y.name (.slice b1 y.ins.length e1) (.slice b2 y.outs.length e2) (.slice b3 y.after.length e3) (.slice b4 y.steps.length e4)=V:=⟨_,rfl⟩;rw[hw3]at hbR hxR hR hvR;unfold boxR at hw3;have h03:Below B w w3:=h02.trans hbR;have H03:=hid h03;have HS3:Hid (B+2<=w3.heap.size):=hid (by have:=HS1.out;have:=hb2.size;have:=hbR.size;omega);obtain⟨_,_,_,_,q,hi1,hi2,_,_⟩:=id hR;simp only[List.cons.injEq,and_true,true_and]at q;obtain⟨rfl,rfl,rfl,rfl⟩:=q;obtain⟨_,_,q,hol,hom,hO⟩:=Zua hi2;injection q with q1 q2 q3
 subst q1 q3;obtain⟨_,_,q,hil,him,hN⟩:=Zua hi1;injection q with q1 q2' q3
 subst q1 q3;have HO:=hid hO;have HIN:=hid hN;have HD:Hid (∀V,Below w3.heap.size w3 V->Below B w V/\(V.cell? ⟨B,0,none⟩=some (.string y.name)/\V.cell? ⟨B,1,none⟩=some (.slice b1 n e1)/\V.cell? ⟨B,2,none⟩=some (.slice b2 y.outs.length e2)/\V.cell? ⟨B,3,none⟩=some (.slice b3 y.after.length e3)/\V.cell? ⟨B,4,none⟩=some (.slice b4 y.steps.length e4))/\
   RuleI V [.string y.name,.slice b1 y.ins.length e1,.slice b2 y.outs.length e2,.slice b3 y.after.length e3,.slice b4 y.steps.length e4] y/\(V.cell? ⟨B+1,0,none⟩=some (.bool u1)/\V.cell? ⟨B+1,1,none⟩=some (.string u2))):=by
  show ∀V,_;intro V hV;have hs:=HS3.out;obtain⟨g0,g1,g2,g3,g4,_⟩:=cells5 ((hV.block B (by omega)).trans hxR);obtain⟨k0,k1,_⟩:=Zih ((hV.block (B+1) (by omega)).trans hvR);rw[HNN.out]at g1;exact⟨H03.out.trans (hV.mono (by omega)),⟨g0,g1,g2,g3,g4⟩,hR.below hV,k0,k1⟩
 have hno:=HYM.out.outs.1;unfold maxLen at hom him;clear hra hb2 hx2 h02 hbR hxR hR d0 d1 d2 d3 d4 h03 hi1 hi2 hO hN q2 q2' hvR hv2
 go_upto_region 5 with fail
 try rw[hw3]
 clear hw3 f0 f1 f2 f3 f4;obtain⟨_,⟨g0,g1,g2,g3,g4⟩,_,_⟩:=HD.out w3 (Below.refl _ _)
 cases D with
 | false=>
  go_wp2;go_ret;exact⟨rfl,HFIN.out _ H03.out⟩
 | true=>
 by_cases hn0:n=0
 ·subst hn0
  go_wp2;go_ret;exact⟨rfl,HFIN.out _ H03.out⟩
 have hNX:Zbj y:=Zcbk (of_decide_eq_true HDD.out);have HNX:=hid hNX;clear hNX HDD;have hz:¬(n:Int)=0:=by omega
 have hgz:((n:Int)==0)=false:=by simpa using hz
 have hgz':(n==0)=false:=by simpa using hn0
 go_upto_region 7 with fail
 obtain⟨r,k,hr,hr1,hr2,hk,hkn⟩:=Zcio at0 n (by omega);have hw1:IntKind.i64.wrap r=r:=IntWalk.i64_in _ (by omega);have hw2:IntKind.i64.wrap (r+(n:Int))=r+(n:Int):=IntWalk.i64_in _ (by omega);have hw3:IntKind.i64.wrap (k:Int)=(k:Int):=IntWalk.i64_in _ (by omega);have CI:Hid (∀V,Below w3.heap.size w3 V->Calls Tryz.prog 14 #[.agg #[.string y.name,.slice b1 n e1,.slice b2 y.outs.length e2,.slice b3 y.after.length e3,.slice b4 y.steps.length e4],v] V (Zciw n us V)):=by
  show ∀V,_;intro V hV;have:=Zcjb y b1 b2 b3 b4 e1 e2 e3 e4 v us V (HVS.out V (HD.out V hV).1) (by rw[HNN.out];omega);unfold Zbiz at this;rw[HNN.out]at this;exact this
 unfold Zciw at CI;obtain⟨A,hA⟩:∃A,insV n us=A:=⟨_,rfl⟩;have hAL:A.length=n:=by rw[<-hA,Zciz]
 have hAS:∀z∈A,z.2.size<=100000000:=by rw[<-hA];exact Zcja (by decide) λz hz=>by have:=HVZ.out z hz;omega
 rw[hA]at CI;have HAL:=hid hAL;have HAS:=hid hAS;clear hA hAL hAS
 go_wp2_with fail
 go_quiet (fail)
 obtain⟨w4,hw4⟩:∃V,w3.drewN nq=V:=⟨_,rfl⟩;have hb34:Below w3.heap.size w3 w4:=by rw[<-hw4];exact below_drewN (Below.refl _ _) _
 have HB34:=hid hb34;rw[hw4];obtain⟨_,⟨g0,g1,g2,g3,g4⟩,_,k0,k1⟩:=HD.out w4 hb34;clear hw4 hb34 hr hr1 hr2 hk hw1 hw2 hw3
 go_wp2_with fail
 refine(CI.out w4 HB34.out).mono ?_;rintro e w5 ⟨ga,rfl,hrow,hg,hb5⟩;have hb35:=HB34.out.trans (hb5.mono HB34.out.size);obtain⟨_,⟨g0,g1,g2,g3,g4⟩,_,k0,k1⟩:=HD.out w5 hb35;have HRA:=hid hrow;have HGA:=hid hg;have HB35:=hid hb35;clear hrow hg hb5 hb35
 go_wp2_with fail
 refine(CI.out w5 HB35.out).mono ?_;rintro e w6 ⟨gb,rfl,hrow,hg,hb6⟩;have hb36:=HB35.out.trans (hb6.mono HB35.out.size);obtain⟨_,⟨g0,g1,g2,g3,g4⟩,_,k0,k1⟩:=HD.out w6 hb36;have hlt:=Zcjf HRA.out;have HRA6:=hid (HRA.out.heap (hb6.block ga hlt));have HNE:Hid (ga<gb):=hid (by omega);have HRB:=hid hrow;have HGB:Hid (w3.heap.size<=ga/\w3.heap.size<=gb):=hid (by have:=HGA.out;have:=HB34.out.size;omega);have HB36:=hid hb36;clear hrow hg hb6 hb36 hlt;obtain⟨w7,hw7⟩:∃V,w6.alloc (.cells #[.bool u1,.string u2] 28)=V:=⟨_,rfl⟩;have hb7:Below w6.heap.size w6 w7:=by rw[<-hw7];exact(Below.refl _ _).alloc (Nat.le_refl _) _
 have CT:=hid (Zbyb (.slice (some ⟨w6.heap.size,0,none⟩) 1 1) [(u1,u2)] w7 (Zbsg (xs:=[(u1,u2)]) (by rw[<-hw7];exact alloc_at w6 _) (by show 1<=maxLen;decide)));unfold Zbuz at CT;rw[show tenV [(u1,u2)] = [oneV (u1,u2)]from rfl]at CT;obtain⟨z,hz⟩:∃z,oneV (u1,u2)=z:=⟨_,rfl⟩;have hzs:z.2.size<=1048576:=by rw[<-hz];have:=HUS.out;unfold oneV;simp only;split;exact this;exact Nat.zero_le _
 have HZS:=hid hzs;rw[hz]at CT;have HW7:=hid hw7;have HB7:=hid hb7;clear hw7 hb7 hz hzs
 go_wp2_with fail
 rw[HW7.out];refine CT.out.mono ?_;rintro e w8 ⟨v1,rfl,hown,hb8⟩;have hb68:Below w6.heap.size w6 w8:=HB7.out.trans (hb8.mono HB7.out.size);have hb38:=HB36.out.trans (hb68.mono HB36.out.size);obtain⟨ua,uc,rfl,huc,hum,hu⟩:=Zcjm (Zbyj hown);obtain⟨ub,uo,q1,hu1⟩:=hu 0 z rfl;subst q1;obtain⟨u0c,u1c⟩:=hu1 w8 (Below.refl _ _);have hrb8:=HRB.out.heap (hb68.block gb (Zcjf HRB.out));have hra8:=HRA6.out.heap (hb68.block ga (Zcjf HRA6.out));obtain⟨a0,ha0⟩:∃a0,A[k]? =some a0:=⟨A[k]'(by rw[HAL.out];exact hkn),List.getElem?_eq_getElem _⟩;obtain⟨p0,p1,p2,p3⟩:=hrb8.cells ha0;have hset:=hrb8.set k z (by rw[HAL.out];exact hkn);obtain⟨w9,hw9⟩:∃V,(w8.setCell ⟨gb,k*2,none⟩ (.bool z.1)).setCell ⟨gb,k*2+1,none⟩ (.string z.2)=V:=⟨_,rfl⟩;rw[hw9]at hset;have hb39:Below w3.heap.size w3 w9:=by rw[<-hw9];exact(hb38.setCell (p:=⟨gb,k*2,none⟩) HGB.out.2 _).setCell (p:=⟨gb,k*2+1,none⟩) HGB.out.2 _
 have hra9:ValRow w9 ga A:=hra8.heap (by rw[<-hw9,Below.heap_setCell _ _ _ _ (by have:=HNE.out;show ga≠gb;omega),Below.heap_setCell _ _ _ _ (by have:=HNE.out;show ga≠gb;omega)]);have HW9:=hid hw9;have HB39:=hid hb39;have HSET:=hid hset;have HRA9:=hid hra9;have hk0:(0:Int)<=(k:Int):=by omega
 have hk1:(k:Int)<(n:Int):=by omega
 obtain⟨z1,z2⟩:=z;simp only[Nat.zero_mul,Nat.add_zero]at u0c u1c;simp only at *;clear hown hb8 hb68 hb38 hu hu1 hrb8 hra8 ha0 hset hw9 hb39 hra9
 go_upto_region 11 with fail
 rw[HW9.out];clear p0 p1 p2 p3 u0c u1c g0 g1 g2 g3 g4 k0 k1;have hva:Zbb w9 (.slice (some ⟨ga,0,none⟩) n n) A:=by have:=HRA9.out.vals (by rw[HAL.out];unfold maxLen;omega);rw[HAL.out]at this;exact this
 have hvb:Zbb w9 (.slice (some ⟨gb,0,none⟩) n n) (A.set k (z1,z2)):=by have:=HSET.out.vals (by rw[List.length_set,HAL.out];unfold maxLen;omega);rw[List.length_set,HAL.out]at this;exact this
 obtain⟨A',hA'⟩:∃A',A.set k (z1,z2)=A':=⟨_,rfl⟩;rw[hA']at hvb;have hAL':A'.length=n:=by rw[<-hA',List.length_set,HAL.out]
 have hAS':∀z∈A',z.2.size<=100000000:=by
  intro q hq;rw[<-hA']at hq
  rcases List.mem_or_eq_of_mem_set hq with h|h
  ·exact HAS.out q h
  ·rw[h];have:=HZS.out;simp only at this⊢;omega
 have CO1:Hid (∀V,Below w9.heap.size w9 V->Calls Tryz.prog 16 #[.agg (Zbiz y b1 b2 b3 b4 e1 e2 e3 e4),.slice (some ⟨ga,0,none⟩) n n] V (Zbn y A V)):=by
  show ∀V,_;intro V hV;obtain⟨h1,_,h2,_⟩:=HD.out V (HB39.out.trans (hV.mono HB39.out.size));exact Zbcd y b1 b2 b3 b4 e1 e2 e3 e4 _ A V h2 HYM.out (Zbsi hva hV) (by rw[HAL.out];omega) HAS.out (HGL.out V h1)
 have CO2:Hid (∀V,Below w9.heap.size w9 V->Calls Tryz.prog 16 #[.agg (Zbiz y b1 b2 b3 b4 e1 e2 e3 e4),.slice (some ⟨gb,0,none⟩) n n] V (Zbn y A' V)):=by
  show ∀V,_;intro V hV;obtain⟨h1,_,h2,_⟩:=HD.out V (HB39.out.trans (hV.mono HB39.out.size));exact Zbcd y b1 b2 b3 b4 e1 e2 e3 e4 _ A' V h2 HYM.out (Zbsi hvb hV) (by rw[hAL'];omega) hAS' (HGL.out V h1)
 unfold Zbn at CO1 CO2;have hl1:(runP y A).length=y.outs.length:=Zcjg (by rw[HAL.out,HNN.out]);have hl2:(runP y A').length=y.outs.length:=Zcjg (by rw[hAL',HNN.out]);have HTURN:Hid (∀(i:Nat) o a,y.outs[i]? =some o->y.ins[k]? =some a->Zoi (Zbgw y [o]) a<0->(runP y A)[i]? =(runP y A')[i]?):=by
  show ∀(i:Nat) o a,_;intro i o a ho ha hf;exact Zcjh HNX.out (by rw[HAL.out,HNN.out]) (by rw[hAL',HNN.out]) ha (λj hj=>by rw[<-hA',List.getElem?_set,if_neg (λe=>hj e.symm)]) ho (Zok.1 hf)
 obtain⟨X,hX⟩:∃X,runP y A=X:=⟨_,rfl⟩;obtain⟨Y,hY⟩:∃Y,runP y A'=Y:=⟨_,rfl⟩;rw[hX]at CO1 HTURN hl1;rw[hY]at CO2 HTURN hl2;have HDC:Hid (∀V,Below w9.heap.size w9 V->(V.cell? ⟨B,0,none⟩=some (.string y.name)/\V.cell? ⟨B,1,none⟩=some (.slice b1 n e1)/\V.cell? ⟨B,2,none⟩=some (.slice b2 y.outs.length e2)/\V.cell? ⟨B,3,none⟩=some (.slice b3 y.after.length e3)/\V.cell? ⟨B,4,none⟩=some (.slice b4 y.steps.length e4))):=by
  show ∀V,_;intro V hV;exact(HD.out V (HB39.out.trans (hV.mono HB39.out.size))).2.1
 have HNK:Hid (y.ins.length=n):=HNN;clear hva hvb hA' hAL' hAS' hX hY HSET HRA9 HRB HRA6 HRA CI CT CB CL HVS;rw[show Zbiz y b1 b2 b3 b4 e1 e2 e3 e4 = #[.string y.name,.slice b1 n e1,.slice b2 y.outs.length e2,.slice b3 y.after.length e3,.slice b4 y.steps.length e4] by unfold Zbiz;rw[HNN.out]]at CO1 CO2;refine wp_region_held_drew (S:=λV=>Below w9.heap.size w9 V) (by kernel_rfl) ?_ (λhHeld=>?_)
 ·exact below_drewN (Below.refl _ _) 1
 refine tkH 0 (v:=?_) ?_ ?_;rotate_left
 ·intro w hSw;obtain⟨p0,p1,p2,p3,p4⟩:=HDC.out _ hSw;go_simp;try with_reducible rfl
 try simp only[Act.put,List.setIfInBounds_toArray,List.set_cons_zero,List.set_cons_succ]
 refine tkK 1 ?_
 try simp only[Act.put,List.setIfInBounds_toArray,List.set_cons_zero,List.set_cons_succ]
 refine tkH 3 (v:=?_) ?_ ?_;rotate_left
 ·intro w hSw;obtain⟨p0,p1,p2,p3,p4⟩:=HDC.out _ hSw;go_simp;try with_reducible rfl
 try simp only[Act.put,List.setIfInBounds_toArray,List.set_cons_zero,List.set_cons_succ]
 refine tkK 4 ?_
 try simp only[Act.put,List.setIfInBounds_toArray,List.set_cons_zero,List.set_cons_succ]
 refine rdH [2] ?_;refine rcH (λK hK=>?_) ?_
 ·go_simp;refine(CO1.out _ hHeld).mono ?_;rintro e w10 ⟨xv,rfl,hxv,hb10⟩;obtain⟨xa,xc,rfl,hxc,hxm,hxx⟩:=Zcjm hxv;rw[hl1]at hxc;rw[hl1];have HXX:=hid hxx;have HB10:=hid (hHeld.trans (hb10.mono hHeld.size));clear hxv hxx hb10;dsimp only
  refine hK.out _ _ ?_ (λhHeld=>?_)
  ·try dsimp only
   exact HB10.out
  clear hK K
  try simp only[Act.put,List.setIfInBounds_toArray,List.set_cons_zero,List.set_cons_succ]
  refine rdH [5] ?_;refine rcH (λK hK=>?_) ?_
  ·go_simp;refine(CO2.out _ HB10.out).mono ?_;rintro e w11 ⟨yv,rfl,hyv,hb11⟩;obtain⟨ya,yc,rfl,hyc,hym,hyx⟩:=Zcjm hyv;rw[hl2]at hyc;rw[hl2];have HYX:=hid hyx;have HB1011:=hid hb11;have HB11:=hid (HB10.out.trans (hb11.mono HB10.out.size));clear hyv hyx hb11;dsimp only
   refine hK.out _ _ ?_ (λhHeld=>?_)
   ·try dsimp only
    exact HB11.out
   clear hK K
   try simp only[Act.put,List.setIfInBounds_toArray,List.set_cons_zero,List.set_cons_succ]
   refine rdH [6] ?_;refine rcH (λK hK=>?_) ?_
   ·go_simp
    refine hK.out _ _ ?_ (λhHeld=>?_)
    ·try dsimp only
     exact HB11.out
    clear hK K
    try simp only[Act.put,List.setIfInBounds_toArray,List.set_cons_zero,List.set_cons_succ]
    refine rdH [7] ?_;refine rcH (λK hK=>?_) ?_
    ·go_simp
     refine hK.out _ _ ?_ (λhHeld=>?_)
     ·try dsimp only
      exact HB11.out
     clear hK K
     try simp only[Act.put,List.setIfInBounds_toArray,List.set_cons_zero,List.set_cons_succ]
     refine wpAnyH_done (by kernel_rfl) ?_ _;obtain⟨g0,g1,g2,g3,g4⟩:=HDC.out w11 HB11.out;have CRD:Hid (∀(o:ByteArray) V,Below w9.heap.size w9 V->o.size<=1048576->Calls Tryz.prog 18 #[.agg #[.string y.name,.slice b1 n e1,.slice b2 y.outs.length e2,.slice b3 y.after.length e3,.slice b4 y.steps.length e4],.string o] V (Zbt V y [o])):=by
      show ∀(o:ByteArray) V,_;intro o V hV ho;have:=Zblt y b1 b2 b3 b4 e1 e2 e3 e4 o V (HD.out V (HB39.out.trans (hV.mono HB39.out.size))).2.2.1 HYM.out (by unfold maxLen;omega);unfold Zbiz at this;rw[HNK.out]at this;exact this
     unfold Zbt at CRD;have HFI:Hid (∀v' l s w',IsStrs w' v' l->Calls Tryz.prog 17 #[v',.string s] w' λe w''=>e = .returned (.int .i64 (Zoi l s))/\w''=w'):=by
      show ∀v' l s w',_;exact λv' l s w' h=>Zhe v' l s w' h
     unfold maxLen at hxm hym;go_wp2
     go_loopw [84] (λiv wr=>∃i:Nat,i<=y.outs.length/\iv = .int .i64 (i:Int)/\Below w11.heap.size w11 wr) (λiv _=>y.outs.length-(intOf iv).toNat)
     case atStart=>exact⟨0,Nat.zero_le _,rfl,Below.refl _ _⟩
     case round=>
      obtain⟨i,hi,rfl,hbr⟩:=hrel;obtain⟨WR,rfl⟩:∃V,V=wr:=⟨_,rfl⟩;have hb9:Below w9.heap.size w9 WR:=HB11.out.trans (hbr.mono HB11.out.size);have hb3:Below w3.heap.size w3 WR:=HB39.out.trans (hb9.mono HB39.out.size)
      by_cases hlt:i<y.outs.length
      rotate_left
      ·have hi1:¬(i:Int)<(y.outs.length:Int):=by omega
       have hf:=HFIN.out _ (HD.out WR hb3).1;have HF:=hid hf;clear hbr hb9 hb3 hf;go_wp2;go_ret;exact⟨rfl,HF.out⟩
      obtain⟨o,ho⟩:∃o,y.outs[i]? =some o:=⟨y.outs[i]'hlt,List.getElem?_eq_getElem _⟩;obtain⟨a,ha⟩:∃a,y.ins[k]? =some a:=⟨y.ins[k]'(by rw[HNK.out];exact hkn),List.getElem?_eq_getElem _⟩;have hos:=HYM.out.outs.2 o (List.mem_of_getElem? ho);obtain⟨ob,oo,q,hc⟩:=HO.out i o ho;subst q;have hc:=hc _ hb3;obtain⟨nb,no,q,hn⟩:=HIN.out k a ha;subst q;have hn1:∀V,Below WR.heap.size WR V->V.cell? ⟨nb,no+k,none⟩=some (.string a):=λV hV=>hn V (hb3.trans (hV.mono hb3.size))
      have hq0:∀V,Below WR.heap.size WR V->V.cell? ⟨B,0,none⟩=some (.string y.name):=λV hV=>(HDC.out V (hb9.trans (hV.mono hb9.size))).1
      have hq1:∀V,Below WR.heap.size WR V->V.cell? ⟨B,1,none⟩=some (.slice (some ⟨nb,no,none⟩) n e1):=λV hV=>(HDC.out V (hb9.trans (hV.mono hb9.size))).2.1
      have hq2:∀V,Below WR.heap.size WR V->V.cell? ⟨B,2,none⟩=some (.slice (some ⟨ob,oo,none⟩) y.outs.length e2):=λV hV=>(HDC.out V (hb9.trans (hV.mono hb9.size))).2.2.1
      have hq3:∀V,Below WR.heap.size WR V->V.cell? ⟨B,3,none⟩=some (.slice b3 y.after.length e3):=λV hV=>(HDC.out V (hb9.trans (hV.mono hb9.size))).2.2.2.1
      have hq4:∀V,Below WR.heap.size WR V->V.cell? ⟨B,4,none⟩=some (.slice b4 y.steps.length e4):=λV hV=>(HDC.out V (hb9.trans (hV.mono hb9.size))).2.2.2.2
      obtain⟨RD,hRD⟩:∃l,Zbgw y [o]=l:=⟨_,rfl⟩;obtain⟨F,hF⟩:∃F,Zoi RD a=F:=⟨_,rfl⟩;have CR:Hid (∀V,Below WR.heap.size WR V->Calls Tryz.prog 18 #[.agg #[.string y.name,.slice (some ⟨nb,no,none⟩) n e1,.slice (some ⟨ob,oo,none⟩) y.outs.length e2,.slice b3 y.after.length e3,.slice b4 y.steps.length e4],.string o] V λe w'=>∃a' c',e = .returned (.slice a' RD.length c')/\IsStrs w' (.slice a' RD.length c') RD/\Below V.heap.size V w'):=by
       show ∀V,_;intro V hV;refine(CRD.out o V (hb9.trans (hV.mono hb9.size)) hos).mono ?_;rintro e w' ⟨v',rfl,h1,h2⟩;rw[hRD]at h1;obtain⟨a',c',rfl⟩:=Zue h1;exact⟨a',c',rfl,h1,h2⟩
      have CFI:Hid (∀V a' c',IsStrs V (.slice a' RD.length c') RD->Calls Tryz.prog 17 #[.slice a' RD.length c',.string a] V λe w''=>e = .returned (.int .i64 F)/\w''=V):=by
       show ∀V a' c',_;intro V a' c' h;rw[<-hF];exact HFI.out _ _ _ _ h
      have HS0:Hid (Below WR.heap.size WR WR.drew):=hid (Below.refl _ _).drew;have hTU:F<0->X[i]? =Y[i]?:=λh=>HTURN.out i o a ho ha (by rw[hRD,hF];exact h)
      obtain⟨t,ht⟩:∃t,X[i]? =some t:=⟨X[i]'(by rw[hl1];exact hlt),List.getElem?_eq_getElem _⟩;obtain⟨t',ht'⟩:∃t,Y[i]? =some t:=⟨Y[i]'(by rw[hl2];exact hlt),List.getElem?_eq_getElem _⟩;rw[ht,ht']at hTU;obtain⟨xb,xo,q,hx⟩:=HXX.out i t ht;subst q;obtain⟨yb,yo,q,hy⟩:=HYX.out i t' ht';subst q;have HUPX:∀V,Below WR.heap.size WR V->Below w11.heap.size w11 V:=λV hV=>hbr.trans (hV.mono hbr.size)
      have hx0:∀V,Below WR.heap.size WR V->V.cell? ⟨xb,xo+i*2,none⟩=some (.bool t.1):=λV hV=>(hx V (HB1011.out.trans ((HUPX V hV).mono HB1011.out.size))).1
      have hx1:∀V,Below WR.heap.size WR V->V.cell? ⟨xb,xo+i*2+1,none⟩=some (.string t.2):=λV hV=>(hx V (HB1011.out.trans ((HUPX V hV).mono HB1011.out.size))).2
      have hy0:∀V,Below WR.heap.size WR V->V.cell? ⟨yb,yo+i*2,none⟩=some (.bool t'.1):=λV hV=>(hy V (HUPX V hV)).1
      have hy1:∀V,Below WR.heap.size WR V->V.cell? ⟨yb,yo+i*2+1,none⟩=some (.string t'.2):=λV hV=>(hy V (HUPX V hV)).2
      have hi1:(i:Int)<(y.outs.length:Int):=by omega
      have hi0:(0:Int)<=(i:Int):=by omega
      have hk0:(0:Int)<=(k:Int):=by omega
      have hk1:(k:Int)<(n:Int):=by omega
      have HUP:Hid (∀V,Below WR.heap.size WR V->Below w11.heap.size w11 V):=hid HUPX;have r2:=hq2 _ (Below.refl _ _);clear hx hy HUPX hRD hF hos hn ho ha ht ht' hb9 hb3 hbr CRD HFI
      by_cases hF0:F<0
      ·have hdF:decide (F<0)=true:=decide_eq_true hF0
       have htt:=Option.some.inj (hTU hF0);subst htt;obtain⟨t1,t2⟩:=t;simp only at hx0 hx1 hy0 hy1;have hnq:=Zcjd t1 t2;have hgd:=Zcit;clear hTU
       go_wp2_with fail
       go_region_held3 (λw'=>Below WR.heap.size WR w') (first|assumption|exact HS0.out)
        (first
         | (go_at_call 18;refine(CR.out _ HS0.out).mono ?_;rintro e w12 ⟨ra,rc,rfl,hrv,hSn⟩;have hSn:=HS0.out.trans (hSn.mono HS0.out.size);have HRV:=hid hrv;clear hrv)
         | (go_at_call 17;refine(CFI.out _ _ _ HRV.out).mono ?_;rintro e _ ⟨rfl,rfl⟩)
         | fail)
       have HSN:=hid hSn;clear hSn hq0 hq1 hq2 hq3 hq4 hx0 hx1 hy0 hy1 hn1 r2 hc;go_wp2;go_roundw
       case rel=>exact⟨i+1,by omega,by go_num,HUP.out _ HSN.out⟩
       case measure=>simp[intOf];omega
      ·have hdF:decide (F<0)=false:=decide_eq_false hF0
       have hF1:0<=F:=by omega
       clear hTU
       go_wp2_with fail
       refine wp_region_held_drew (S:=λV=>Below WR.heap.size WR V) (by kernel_rfl) ?_ (λhHeld=>?_)
       ·exact HS0.out
       refine tkH 0 (v:=?_) ?_ ?_;rotate_left
       ·intro w hSw;have p0:=hq0 _ hSw;have p1:=hq1 _ hSw;have p2:=hq2 _ hSw;have p3:=hq3 _ hSw;have p4:=hq4 _ hSw;have p5:=hn1 _ hSw;go_simp;try with_reducible rfl
       try simp only[Act.put,List.setIfInBounds_toArray,List.set_cons_zero,List.set_cons_succ]
       refine tkK 1 ?_;refine tkK 3 ?_
       try simp only[Act.put,List.setIfInBounds_toArray,List.set_cons_zero,List.set_cons_succ]
       refine tkH 4 (v:=?_) ?_ ?_;rotate_left
       ·intro w hSw;have p0:=hq0 _ hSw;have p1:=hq1 _ hSw;have p2:=hq2 _ hSw;have p3:=hq3 _ hSw;have p4:=hq4 _ hSw;have p5:=hn1 _ hSw;go_simp;try with_reducible rfl
       try simp only[Act.put,List.setIfInBounds_toArray,List.set_cons_zero,List.set_cons_succ]
       refine tkK 5 ?_;refine tkK 6 ?_
       try simp only[Act.put,List.setIfInBounds_toArray,List.set_cons_zero,List.set_cons_succ]
       refine tkH 7 (v:=?_) ?_ ?_;rotate_left
       ·intro w hSw;have p0:=hq0 _ hSw;have p1:=hq1 _ hSw;have p2:=hq2 _ hSw;have p3:=hq3 _ hSw;have p4:=hq4 _ hSw;have p5:=hn1 _ hSw;go_simp;try with_reducible rfl
       try simp only[Act.put,List.setIfInBounds_toArray,List.set_cons_zero,List.set_cons_succ]
       refine rdH [2] ?_;refine rcH (λK hK=>?_) ?_
       ·go_simp;refine(CR.out _ hHeld).mono ?_;rintro e w12 ⟨ra,rc,rfl,hrv,hSn⟩;have HB13:=hid (hHeld.trans (hSn.mono hHeld.size));have HRV:=hid hrv;clear hrv hSn;dsimp only
        refine hK.out _ _ ?_ (λhHeld=>?_)
        ·try dsimp only
         exact HB13.out
        clear hK K
        try simp only[Act.put,List.setIfInBounds_toArray,List.set_cons_zero,List.set_cons_succ]
        refine rdH [8] ?_;refine rcH (λK hK=>?_) ?_
        ·go_simp;refine(CFI.out _ _ _ HRV.out).mono ?_;rintro e _ ⟨rfl,rfl⟩;dsimp only
         refine hK.out _ _ ?_ (λhHeld=>?_)
         ·try dsimp only
          exact HB13.out
         clear hK K
         try simp only[Act.put,List.setIfInBounds_toArray,List.set_cons_zero,List.set_cons_succ]
         refine tkK 9 ?_;refine tkK 10 ?_
         try simp only[Act.put,List.setIfInBounds_toArray,List.set_cons_zero,List.set_cons_succ]
         refine tuH 11 ?_
         try simp only[Act.put,List.setIfInBounds_toArray,List.set_cons_zero,List.set_cons_succ]
         refine tuH 12 ?_
         try simp only[Act.put,List.setIfInBounds_toArray,List.set_cons_zero,List.set_cons_succ]
         refine tuH 13 ?_
         try simp only[Act.put,List.setIfInBounds_toArray,List.set_cons_zero,List.set_cons_succ]
         refine tuH 14 ?_
         try simp only[Act.put,List.setIfInBounds_toArray,List.set_cons_zero,List.set_cons_succ]
         refine tuH 15 ?_
         try simp only[Act.put,List.setIfInBounds_toArray,List.set_cons_zero,List.set_cons_succ]
         refine tuH 16 ?_
         try simp only[Act.put,List.setIfInBounds_toArray,List.set_cons_zero,List.set_cons_succ]
         refine tuH 17 ?_
         try simp only[Act.put,List.setIfInBounds_toArray,List.set_cons_zero,List.set_cons_succ]
         refine tuH 18 ?_
         try simp only[Act.put,List.setIfInBounds_toArray,List.set_cons_zero,List.set_cons_succ]
         refine tuH 19 ?_
         try simp only[Act.put,List.setIfInBounds_toArray,List.set_cons_zero,List.set_cons_succ]
         refine tkK 20 ?_
         try simp only[Act.put,List.setIfInBounds_toArray,List.set_cons_zero,List.set_cons_succ]
         refine wpAnyH_done (by kernel_rfl) ?_ _;have HSN:=hid HB13.out;clear hq0 hq1 hq2 hq3 hq4 hx0 hx1 hy0 hy1 hn1 r2 hc;go_wp2;go_roundw
         case rel=>exact⟨i+1,by omega,by go_num,HUP.out _ HSN.out⟩
         case measure=>simp[intOf];omega
        exact AllReadyH.nil
       exact AllReadyH.nil
    exact AllReadyH.nil
   exact AllReadyH.nil
  exact AllReadyH.nil
 exact AllReadyH.nil
end Go.Proofs.YtmgcaldphpnfgaaGreatDoor.lawSliceTurn
