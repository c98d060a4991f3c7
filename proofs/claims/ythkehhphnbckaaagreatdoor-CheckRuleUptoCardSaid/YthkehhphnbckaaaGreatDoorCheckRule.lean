import Derived.Deep.RegionHeld3
import Derived.Test.YthkehhphnbckaaaGreatDoorMbm
import Derived.Test.YthkehhphnbckaaaGreatDoorMbp
namespace Go.Proofs.YthkehhphnbckaaaGreatDoor.lawCheckRule
open Go.RowKit Go.Shelf
set_option maxHeartbeats 8000000
set_option maxRecDepth 100000
theorem law (x:RuleS) (a1 a2 a3 a4:Option Addr) (c1 c2 c3 c4:Nat) (w:World) (hI:RuleI w [.string x.name,.slice a1 x.ins.length c1,.slice a2 x.outs.length c2,.slice a3 x.after.length c3,.slice a4 x.steps.length c4] x) (hs:SmallR x 1048576) (hG:GP w.heap.size w):
  Calls Tryz.prog 4 #[.agg (Zbiz x a1 a2 a3 a4 c1 c2 c3 c4)] w fun e w'=>e = .returned (.bool true)∧Below w.heap.size w w':=by
 have mixed:Tryz.prog.follows .mixedOrders=true:=by kernel_rfl
 obtain⟨W0,hW0⟩:∃V,w.alloc (.cells (Zbiz x a1 a2 a3 a4 c1 c2 c3 c4) 33)=V:=⟨_,rfl⟩
 obtain⟨B,hB⟩:∃m,w.heap.size=m:=⟨_,rfl⟩
 have hb0:Below B w W0:=by rw[←hW0,←hB];exact(Below.refl _ _).alloc (Nat.le_refl _) _
 have hs0:W0.heap.size=B+1:=by rw[←hW0];simp[hB]
 have hx0:W0.heap[B]? =some (.cells (Zbiz x a1 a2 a3 a4 c1 c2 c3 c4) 33):=by rw[←hW0,←hB];exact alloc_at w _
 rw[hB]at hG
 have CB:=Lib.hid (Zfc W0 ((hG.below hb0).up (by omega)))
 have HFIN:Hid (∀V,Below B w V→Below w.heap.size w V):=Lib.hid (by rw[hB];exact fun _ h=>h)
 have HMW:Hid (∀V,Below B w V→MayW V):=Lib.hid fun V hV=>(hG.below hV).glob.max
 have CL:Hid (∀V,Below B w V→Calls Tryz.prog 15 #[.agg (Zbiz x a1 a2 a3 a4 c1 c2 c3 c4)] V fun e w'=>Zbu V w' (cutR x) e∧Below V.heap.size V w'):=Lib.hid fun V hV=>Zwx x _ _ _ _ V (hI.below (by rw[hB];exact hV)) hs
 obtain⟨y,hy⟩:∃y,cutR x=y:=⟨_,rfl⟩
 have hym:SmallR y 1048576:=by rw[←hy];exact Zbma hs
 have hyh:ShortR y:=by rw[←hy];exact Zbkv x
 have HYM:=Lib.hid hym;have HYH:=Lib.hid hyh
 rw[hy]at CL
 have HW0:=Lib.hid hW0;have HB:=Lib.hid hB;have HB0:=Lib.hid hb0;have HS0:=Lib.hid hs0
 have HXD:Hid (∀V,Below W0.heap.size W0 V→V.heap[B]? =some (.cells (Zbiz x a1 a2 a3 a4 c1 c2 c3 c4) 33)):=Lib.hid fun V hV=>(hV.block B (by omega)).trans hx0
 clear hI hs hG hW0 hB hb0 hs0 hx0 hy hym hyh
 go_enter Tryz.func4,Tryz.ntmps4
 go_wp2_with fail
 rw[HW0.out,HB.out]
 refine CB.out.mono ?_
 rintro e w1 ⟨rfl,hb1⟩
 have h01:Below B w w1:=HB0.out.trans (hb1.mono (by have:=HS0.out;omega))
 have hs1:B+1≤w1.heap.size:=by have:=hb1.size;have:=HS0.out;omega
 obtain⟨d0,d1,d2,d3,d4,_⟩:=cells5 (HXD.out w1 hb1)
 have H01:=Lib.hid h01;have HS1:=Lib.hid hs1;have H1:=Lib.hid hb1
 clear h01 hs1 hb1
 go_wp2_with fail
 refine(CL.out w1 H01.out).mono ?_
 rintro e w2 ⟨hpost,hb2⟩
 obtain⟨b1,m1,e1,b2,m2,e2,b3,m3,e3,b4,m4,e4,rfl,hra⟩:=Zbir hpost
 have hx2:=HXD.out w2 (H1.out.trans (hb2.mono H1.out.size))
 have h02:Below B w w2:=H01.out.trans (hb2.mono (by have:=HS1.out;omega))
 obtain⟨hbR,hxR,hR⟩:=Zgd hra hx2 HS1.out
 obtain⟨q1,q2,q3,q4⟩:=Zbio hra
 subst q1 q2 q3 q4
 obtain⟨f0,f1,f2,f3,f4,_⟩:=cells5 hx2
 obtain⟨w3,hw3⟩:∃V,boxR w2 B y.name (.slice b1 y.ins.length e1) (.slice b2 y.outs.length e2) (.slice b3 y.after.length e3) (.slice b4 y.steps.length e4)=V:=⟨_,rfl⟩
 rw[hw3]at hbR hxR hR
 unfold boxR at hw3
 have HW3:=Lib.hid hw3
 have h03:Below B w w3:=h02.trans hbR
 have H03:=Lib.hid h03
 have HS3:Hid (B+1≤w3.heap.size):=Lib.hid (by have:=HS1.out;have:=hb2.size;have:=hbR.size;omega)
 have HD:Hid (∀V,Below w3.heap.size w3 V→Below B w V∧(V.cell? ⟨B,0,none⟩=some (.string y.name)∧V.cell? ⟨B,1,none⟩=some (.slice b1 y.ins.length e1)∧V.cell? ⟨B,2,none⟩=some (.slice b2 y.outs.length e2)∧V.cell? ⟨B,3,none⟩=some (.slice b3 y.after.length e3)∧V.cell? ⟨B,4,none⟩=some (.slice b4 y.steps.length e4))∧
   RuleI V [.string y.name,.slice b1 y.ins.length e1,.slice b2 y.outs.length e2,.slice b3 y.after.length e3,.slice b4 y.steps.length e4] y):=by
  show ∀V,_
  intro V hV
  have hs:=HS3.out
  obtain⟨g0,g1,g2,g3,g4,_⟩:=cells5 ((hV.block B (by omega)).trans hxR)
  exact⟨h03.trans (hV.mono (by omega)),⟨g0,g1,g2,g3,g4⟩,hR.below hV⟩
 have CK:Hid (∀V,Below w3.heap.size w3 V→Calls Tryz.prog 16 #[.agg (Zbiz y b1 b2 b3 b4 e1 e2 e3 e4)] V fun e w'=>e = .returned (.int .i64 (Zbip y))∧Below V.heap.size V w'):=by
  show ∀V,_
  intro V hV
  obtain⟨h1,_,h2⟩:=HD.out V hV
  exact Zir y b1 b2 b3 b4 e1 e2 e3 e4 V h2 HYM.out (HMW.out V h1)
 have CR:Hid (∀V,Below w3.heap.size w3 V→Calls Tryz.prog 17 #[.agg (Zbiz y b1 b2 b3 b4 e1 e2 e3 e4)] V fun e w'=>e = .returned (.int .i64 (Zbip y))∧Below V.heap.size V w'):=by
  show ∀V,_
  intro V hV
  obtain⟨h1,_,h2⟩:=HD.out V hV
  refine(Zhk y _ _ _ _ V h2 HYM.out HYH.out).mono ?_
  rintro e w' ⟨⟨c,rfl,hc⟩,hb⟩
  exact⟨by rw[hc.one (Zbiq y)],hb⟩
 clear hpost hb2 hra hx2 h02 hbR hxR hR d0 d1 d2 d3 d4 h03
 go_upto_region 5 with fail
 try rw[hw3]
 clear hw3 f0 f1 f2 f3 f4
 refine wp_region_held_drew (S:=fun V=>Below w3.heap.size w3 V) (by kernel_rfl) ?_ (fun hHeld=>?_)
 ·exact below_drewN (Below.refl _ _) 1
 refine tkH 0 (v:=?_) ?_ ?_
 rotate_left
 ·intro w hSw;obtain⟨_,⟨p0,p1,p2,p3,p4⟩,_⟩:=HD.out _ hSw;go_simp;try with_reducible rfl
 try simp only[Act.put,List.setIfInBounds_toArray,List.set_cons_zero,List.set_cons_succ]
 refine tkH 2 (v:=?_) ?_ ?_
 rotate_left
 ·intro w hSw;obtain⟨_,⟨p0,p1,p2,p3,p4⟩,_⟩:=HD.out _ hSw;go_simp;try with_reducible rfl
 try simp only[Act.put,List.setIfInBounds_toArray,List.set_cons_zero,List.set_cons_succ]
 refine wpAnyH_ready (rs:=[1]) (by kernel_rfl) (by simp) ?_
 refine AllReadyH.cons (o:=_) (by simp only[List.getElem?_toArray,List.getElem?_cons_succ,List.getElem?_cons_zero];rfl) (fun K hK=>?_) ?_
 ·go_simp;refine(CK.out _ hHeld).mono ?_;rintro e w4 ⟨rfl,hb4⟩;have HB4:=Lib.hid (hHeld.trans (hb4.mono hHeld.size));clear hb4;dsimp only
  refine hK.out _ _ ?_ (fun hHeld=>?_)
  ·try dsimp only
   exact HB4.out
  clear hK K
  try simp only[Act.put,List.setIfInBounds_toArray,List.set_cons_zero,List.set_cons_succ]
  refine wpAnyH_ready (rs:=[3]) (by kernel_rfl) (by simp) ?_
  refine AllReadyH.cons (o:=_) (by simp only[List.getElem?_toArray,List.getElem?_cons_succ,List.getElem?_cons_zero];rfl) (fun K hK=>?_) ?_
  ·go_simp;refine(CR.out _ HB4.out).mono ?_;rintro e w5 ⟨rfl,hb5⟩;have HB5:=Lib.hid (HB4.out.trans (hb5.mono HB4.out.size));clear hb5;dsimp only
   refine hK.out _ _ ?_ (fun hHeld=>?_)
   ·try dsimp only
    exact HB5.out
   clear hK K
   try simp only[Act.put,List.setIfInBounds_toArray,List.set_cons_zero,List.set_cons_succ]
   refine tkH 4 (v:=?_) ?_ ?_
   rotate_left
   ·intro w hSw;go_simp;try with_reducible rfl
   try simp only[Act.put,List.setIfInBounds_toArray,List.set_cons_zero,List.set_cons_succ]
   refine wpAnyH_ready (rs:=[5]) (by kernel_rfl) (by simp) ?_
   refine AllReadyH.cons (o:=_) (by simp only[List.getElem?_toArray,List.getElem?_cons_succ,List.getElem?_cons_zero];rfl) (fun K hK=>?_) ?_
   ·go_simp
    refine hK.out _ _ ?_ (fun hHeld=>?_)
    ·try dsimp only
     exact HB5.out
    clear hK K
    try simp only[Act.put,List.setIfInBounds_toArray,List.set_cons_zero,List.set_cons_succ]
    refine wpAnyH_done (by kernel_rfl) ?_ _
    go_wp2
    go_ret
    exact⟨rfl,HFIN.out _ (HD.out _ HB5.out).1⟩
   exact AllReadyH.nil
  exact AllReadyH.nil
 exact AllReadyH.nil
end Go.Proofs.YthkehhphnbckaaaGreatDoor.lawCheckRule
