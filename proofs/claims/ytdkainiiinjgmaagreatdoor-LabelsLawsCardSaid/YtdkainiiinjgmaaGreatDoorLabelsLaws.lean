import Derived.Test.YtdkainiiinjgmaaGreatDoorMap
namespace Go.Proofs.YtdkainiiinjgmaaGreatDoor.lawLabelsLaws
open Go.RowKit Go.Shelf
set_option maxHeartbeats 8000000
set_option maxRecDepth 100000
theorem law (va : Value) (xa : List Lb) (vb : Value) (xb : List Lb) (vc : Value) (xc : List Lb) (w : World) (ha : IsLabs w va xa) (hb : IsLabs w vb xb) (hc : IsLabs w vc xc) (hG : Exe.GX 5 285 Exe.opNames w) :
  Calls Tryz.prog 3 #[va, vb, vc] w fun e w' => e = .returned (.bool true) ∧ Below w.heap.size w w' := by
 obtain ⟨aa, ca, rfl, la, _, ra⟩ := ha.row
 obtain ⟨ab, cb, rfl, lb, _, rb⟩ := hb.row
 obtain ⟨ac, cc, rfl, lc', _, rc⟩ := hc.row
 have HCB := Lib.hid (Exe.beg12 hG)
 have Ra := Lib.hid ra
 have Rb := Lib.hid rb
 have Rc := Lib.hid rc
 clear ha hb hc ra rb rc hG
 go_enter Tryz.func3, Tryz.ntmps3
 go_wp2_with fail
 refine HCB.out.mono ?_
 rintro e w0 ⟨rfl, hb0⟩
 have Ra := Lib.hid (Ra.out.below hb0 (Nat.le_refl _))
 have Rb := Lib.hid (Rb.out.below hb0 (Nat.le_refl _))
 have Rc := Lib.hid (Rc.out.below hb0 (Nat.le_refl _))
 have HB := Lib.hid hb0
 clear hb0
 go_wp2_with fail
 refine (lbFew xa aa ca w0 Ra.out la).mono ?_
 rintro e w1 ⟨v, rfl, ho, hb⟩
 obtain ⟨fa, ga, rfl, hr, _⟩ := rowL_own ho
 have Ra := Lib.hid (Ra.out.below hb (Nat.le_refl _))
 have Rb := Lib.hid (Rb.out.below hb (Nat.le_refl _))
 have Rc := Lib.hid (Rc.out.below hb (Nat.le_refl _))
 have HB := Lib.hid (HB.out.trans (hb.mono HB.out.size))
 have RF := Lib.hid hr
 clear hb hr ho
 go_wp2_with fail
 have CN := lbNew (xa.take 20) fa ga w1 RF.out (by rw [List.length_take]; omega)
 rw [List.length_take] at CN
 refine CN.mono ?_
 rintro e w2 ⟨rfl, hcel, hm, hb⟩
 have Ra := Lib.hid (Ra.out.below hb (Nat.le_refl _))
 have Rb := Lib.hid (Rb.out.below hb (Nat.le_refl _))
 have Rc := Lib.hid (Rc.out.below hb (Nat.le_refl _))
 have HB := Lib.hid (HB.out.trans (hb.mono HB.out.size))
 have Sx := Lib.hid (show SetM w2 w1.heap.size (newS xa) from ⟨_, hcel, by omega, hm⟩)
 obtain ⟨px, hpx⟩ : ∃ q, q = w1.heap.size := ⟨_, rfl⟩
 rw [← hpx] at Sx
 have HPx := Lib.hid hpx
 rw [← hpx]
 clear hb hm hcel hpx RF CN
 have lx := newS_len xa
 go_wp2_with fail
 refine (lbFew xb ab cb w2 Rb.out lb).mono ?_
 rintro e w3 ⟨v, rfl, ho, hb⟩
 obtain ⟨fb, gb, rfl, hr, _⟩ := rowL_own ho
 have Ra := Lib.hid (Ra.out.below hb (Nat.le_refl _))
 have Rb := Lib.hid (Rb.out.below hb (Nat.le_refl _))
 have Rc := Lib.hid (Rc.out.below hb (Nat.le_refl _))
 have Sx := Lib.hid (Sx.out.below hb (Nat.le_refl _))
 have HB := Lib.hid (HB.out.trans (hb.mono HB.out.size))
 have RF := Lib.hid hr
 clear hb hr ho
 go_wp2_with fail
 have CN := lbNew (xb.take 20) fb gb w3 RF.out (by rw [List.length_take]; omega)
 rw [List.length_take] at CN
 refine CN.mono ?_
 rintro e w4 ⟨rfl, hcel, hm, hb⟩
 have Ra := Lib.hid (Ra.out.below hb (Nat.le_refl _))
 have Rb := Lib.hid (Rb.out.below hb (Nat.le_refl _))
 have Rc := Lib.hid (Rc.out.below hb (Nat.le_refl _))
 have Sx := Lib.hid (Sx.out.below hb (Nat.le_refl _))
 have HB := Lib.hid (HB.out.trans (hb.mono HB.out.size))
 have Sy := Lib.hid (show SetM w4 w3.heap.size (newS xb) from ⟨_, hcel, by omega, hm⟩)
 obtain ⟨py, hpy⟩ : ∃ q, q = w3.heap.size := ⟨_, rfl⟩
 rw [← hpy] at Sy
 have HPy := Lib.hid hpy
 rw [← hpy]
 clear hb hm hcel hpy RF CN
 have ly := newS_len xb
 go_wp2_with fail
 refine (lbFew xc ac cc w4 Rc.out lc').mono ?_
 rintro e w5 ⟨v, rfl, ho, hb⟩
 obtain ⟨fc, gc, rfl, hr, _⟩ := rowL_own ho
 have Ra := Lib.hid (Ra.out.below hb (Nat.le_refl _))
 have Rb := Lib.hid (Rb.out.below hb (Nat.le_refl _))
 have Rc := Lib.hid (Rc.out.below hb (Nat.le_refl _))
 have Sx := Lib.hid (Sx.out.below hb (Nat.le_refl _))
 have Sy := Lib.hid (Sy.out.below hb (Nat.le_refl _))
 have HB := Lib.hid (HB.out.trans (hb.mono HB.out.size))
 have RF := Lib.hid hr
 clear hb hr ho
 go_wp2_with fail
 have CN := lbNew (xc.take 20) fc gc w5 RF.out (by rw [List.length_take]; omega)
 rw [List.length_take] at CN
 refine CN.mono ?_
 rintro e w6 ⟨rfl, hcel, hm, hb⟩
 have Ra := Lib.hid (Ra.out.below hb (Nat.le_refl _))
 have Rb := Lib.hid (Rb.out.below hb (Nat.le_refl _))
 have Rc := Lib.hid (Rc.out.below hb (Nat.le_refl _))
 have Sx := Lib.hid (Sx.out.below hb (Nat.le_refl _))
 have Sy := Lib.hid (Sy.out.below hb (Nat.le_refl _))
 have HB := Lib.hid (HB.out.trans (hb.mono HB.out.size))
 have Sz := Lib.hid (show SetM w6 w5.heap.size (newS xc) from ⟨_, hcel, by omega, hm⟩)
 obtain ⟨pz, hpz⟩ : ∃ q, q = w5.heap.size := ⟨_, rfl⟩
 rw [← hpz] at Sz
 have HPz := Lib.hid hpz
 rw [← hpz]
 clear hb hm hcel hpz RF CN
 have lz := newS_len xc
 go_wp2_with fail
 refine (lbMeet py pz _ _ w6 Sy.out Sz.out (by omega)).mono ?_
 rintro e w7 ⟨pyz, rfl, _, hs, hb⟩
 have Ra := Lib.hid (Ra.out.below hb (Nat.le_refl _))
 have Rb := Lib.hid (Rb.out.below hb (Nat.le_refl _))
 have Rc := Lib.hid (Rc.out.below hb (Nat.le_refl _))
 have Sx := Lib.hid (Sx.out.below hb (Nat.le_refl _))
 have Sy := Lib.hid (Sy.out.below hb (Nat.le_refl _))
 have Sz := Lib.hid (Sz.out.below hb (Nat.le_refl _))
 have HB := Lib.hid (HB.out.trans (hb.mono HB.out.size))
 have Syz := Lib.hid hs
 clear hs hb
 have lyz : (meetS (newS xb) (newS xc)).length ≤ (newS xb).length := those_len _ _ _
 have Syz := Lib.hid (show SetM w7 pyz (meetS (newS xb) (newS xc)) from Syz.out)
 go_wp2_with fail
 refine (lbUnion px pyz _ _ w7 Sx.out Syz.out (by omega) (by omega)).mono ?_
 rintro e w8 ⟨pu, rfl, _, hs, hb⟩
 have Ra := Lib.hid (Ra.out.below hb (Nat.le_refl _))
 have Rb := Lib.hid (Rb.out.below hb (Nat.le_refl _))
 have Rc := Lib.hid (Rc.out.below hb (Nat.le_refl _))
 have Sx := Lib.hid (Sx.out.below hb (Nat.le_refl _))
 have Sy := Lib.hid (Sy.out.below hb (Nat.le_refl _))
 have Sz := Lib.hid (Sz.out.below hb (Nat.le_refl _))
 have Syz := Lib.hid (Syz.out.below hb (Nat.le_refl _))
 have HB := Lib.hid (HB.out.trans (hb.mono HB.out.size))
 have Su := Lib.hid hs
 clear hs hb
 have lu : (uniS (newS xa) (meetS (newS xb) (newS xc))).length ≤ (newS xa).length + (meetS (newS xb) (newS xc)).length := uniS_len _ _
 have Su := Lib.hid (show SetM w8 pu (uniS (newS xa) (meetS (newS xb) (newS xc))) from Su.out)
 go_wp2_with fail
 refine (lbUnion px py _ _ w8 Sx.out Sy.out (by omega) (by omega)).mono ?_
 rintro e w9 ⟨pxy, rfl, _, hs, hb⟩
 have Ra := Lib.hid (Ra.out.below hb (Nat.le_refl _))
 have Rb := Lib.hid (Rb.out.below hb (Nat.le_refl _))
 have Rc := Lib.hid (Rc.out.below hb (Nat.le_refl _))
 have Sx := Lib.hid (Sx.out.below hb (Nat.le_refl _))
 have Sy := Lib.hid (Sy.out.below hb (Nat.le_refl _))
 have Sz := Lib.hid (Sz.out.below hb (Nat.le_refl _))
 have Syz := Lib.hid (Syz.out.below hb (Nat.le_refl _))
 have Su := Lib.hid (Su.out.below hb (Nat.le_refl _))
 have HB := Lib.hid (HB.out.trans (hb.mono HB.out.size))
 have Sxy := Lib.hid hs
 clear hs hb
 have lxy : (uniS (newS xa) (newS xb)).length ≤ (newS xa).length + (newS xb).length := uniS_len _ _
 have Sxy := Lib.hid (show SetM w9 pxy (uniS (newS xa) (newS xb)) from Sxy.out)
 go_wp2_with fail
 refine (lbUnion px pz _ _ w9 Sx.out Sz.out (by omega) (by omega)).mono ?_
 rintro e w10 ⟨pxz, rfl, _, hs, hb⟩
 have Ra := Lib.hid (Ra.out.below hb (Nat.le_refl _))
 have Rb := Lib.hid (Rb.out.below hb (Nat.le_refl _))
 have Rc := Lib.hid (Rc.out.below hb (Nat.le_refl _))
 have Sx := Lib.hid (Sx.out.below hb (Nat.le_refl _))
 have Sy := Lib.hid (Sy.out.below hb (Nat.le_refl _))
 have Sz := Lib.hid (Sz.out.below hb (Nat.le_refl _))
 have Syz := Lib.hid (Syz.out.below hb (Nat.le_refl _))
 have Su := Lib.hid (Su.out.below hb (Nat.le_refl _))
 have Sxy := Lib.hid (Sxy.out.below hb (Nat.le_refl _))
 have HB := Lib.hid (HB.out.trans (hb.mono HB.out.size))
 have Sxz := Lib.hid hs
 clear hs hb
 have lxz : (uniS (newS xa) (newS xc)).length ≤ (newS xa).length + (newS xc).length := uniS_len _ _
 have Sxz := Lib.hid (show SetM w10 pxz (uniS (newS xa) (newS xc)) from Sxz.out)
 go_wp2_with fail
 refine (lbMeet pxy pxz _ _ w10 Sxy.out Sxz.out (by omega)).mono ?_
 rintro e w11 ⟨pv, rfl, _, hs, hb⟩
 have Ra := Lib.hid (Ra.out.below hb (Nat.le_refl _))
 have Rb := Lib.hid (Rb.out.below hb (Nat.le_refl _))
 have Rc := Lib.hid (Rc.out.below hb (Nat.le_refl _))
 have Sx := Lib.hid (Sx.out.below hb (Nat.le_refl _))
 have Sy := Lib.hid (Sy.out.below hb (Nat.le_refl _))
 have Sz := Lib.hid (Sz.out.below hb (Nat.le_refl _))
 have Syz := Lib.hid (Syz.out.below hb (Nat.le_refl _))
 have Su := Lib.hid (Su.out.below hb (Nat.le_refl _))
 have Sxy := Lib.hid (Sxy.out.below hb (Nat.le_refl _))
 have Sxz := Lib.hid (Sxz.out.below hb (Nat.le_refl _))
 have HB := Lib.hid (HB.out.trans (hb.mono HB.out.size))
 have Sv := Lib.hid hs
 clear hs hb
 have lv : (meetS (uniS (newS xa) (newS xb)) (uniS (newS xa) (newS xc))).length ≤ (uniS (newS xa) (newS xb)).length := those_len _ _ _
 have Sv := Lib.hid (show SetM w11 pv (meetS (uniS (newS xa) (newS xb)) (uniS (newS xa) (newS xc))) from Sv.out)
 go_wp2_with fail
 refine (lbUnion py pz _ _ w11 Sy.out Sz.out (by omega) (by omega)).mono ?_
 rintro e w12 ⟨pyuz, rfl, _, hs, hb⟩
 have Ra := Lib.hid (Ra.out.below hb (Nat.le_refl _))
 have Rb := Lib.hid (Rb.out.below hb (Nat.le_refl _))
 have Rc := Lib.hid (Rc.out.below hb (Nat.le_refl _))
 have Sx := Lib.hid (Sx.out.below hb (Nat.le_refl _))
 have Sy := Lib.hid (Sy.out.below hb (Nat.le_refl _))
 have Sz := Lib.hid (Sz.out.below hb (Nat.le_refl _))
 have Syz := Lib.hid (Syz.out.below hb (Nat.le_refl _))
 have Su := Lib.hid (Su.out.below hb (Nat.le_refl _))
 have Sxy := Lib.hid (Sxy.out.below hb (Nat.le_refl _))
 have Sxz := Lib.hid (Sxz.out.below hb (Nat.le_refl _))
 have Sv := Lib.hid (Sv.out.below hb (Nat.le_refl _))
 have HB := Lib.hid (HB.out.trans (hb.mono HB.out.size))
 have Syuz := Lib.hid hs
 clear hs hb
 have lyuz : (uniS (newS xb) (newS xc)).length ≤ (newS xb).length + (newS xc).length := uniS_len _ _
 have Syuz := Lib.hid (show SetM w12 pyuz (uniS (newS xb) (newS xc)) from Syuz.out)
 go_wp2_with fail
 refine (lbBut px pyuz _ _ w12 Sx.out Syuz.out (by omega)).mono ?_
 rintro e w13 ⟨pp, rfl, _, hs, hb⟩
 have Ra := Lib.hid (Ra.out.below hb (Nat.le_refl _))
 have Rb := Lib.hid (Rb.out.below hb (Nat.le_refl _))
 have Rc := Lib.hid (Rc.out.below hb (Nat.le_refl _))
 have Sx := Lib.hid (Sx.out.below hb (Nat.le_refl _))
 have Sy := Lib.hid (Sy.out.below hb (Nat.le_refl _))
 have Sz := Lib.hid (Sz.out.below hb (Nat.le_refl _))
 have Syz := Lib.hid (Syz.out.below hb (Nat.le_refl _))
 have Su := Lib.hid (Su.out.below hb (Nat.le_refl _))
 have Sxy := Lib.hid (Sxy.out.below hb (Nat.le_refl _))
 have Sxz := Lib.hid (Sxz.out.below hb (Nat.le_refl _))
 have Sv := Lib.hid (Sv.out.below hb (Nat.le_refl _))
 have Syuz := Lib.hid (Syuz.out.below hb (Nat.le_refl _))
 have HB := Lib.hid (HB.out.trans (hb.mono HB.out.size))
 have Sp := Lib.hid hs
 clear hs hb
 have lp : (butS (newS xa) (uniS (newS xb) (newS xc))).length ≤ (newS xa).length := those_len _ _ _
 have Sp := Lib.hid (show SetM w13 pp (butS (newS xa) (uniS (newS xb) (newS xc))) from Sp.out)
 go_wp2_with fail
 refine (lbBut px py _ _ w13 Sx.out Sy.out (by omega)).mono ?_
 rintro e w14 ⟨pxmy, rfl, _, hs, hb⟩
 have Ra := Lib.hid (Ra.out.below hb (Nat.le_refl _))
 have Rb := Lib.hid (Rb.out.below hb (Nat.le_refl _))
 have Rc := Lib.hid (Rc.out.below hb (Nat.le_refl _))
 have Sx := Lib.hid (Sx.out.below hb (Nat.le_refl _))
 have Sy := Lib.hid (Sy.out.below hb (Nat.le_refl _))
 have Sz := Lib.hid (Sz.out.below hb (Nat.le_refl _))
 have Syz := Lib.hid (Syz.out.below hb (Nat.le_refl _))
 have Su := Lib.hid (Su.out.below hb (Nat.le_refl _))
 have Sxy := Lib.hid (Sxy.out.below hb (Nat.le_refl _))
 have Sxz := Lib.hid (Sxz.out.below hb (Nat.le_refl _))
 have Sv := Lib.hid (Sv.out.below hb (Nat.le_refl _))
 have Syuz := Lib.hid (Syuz.out.below hb (Nat.le_refl _))
 have Sp := Lib.hid (Sp.out.below hb (Nat.le_refl _))
 have HB := Lib.hid (HB.out.trans (hb.mono HB.out.size))
 have Sxmy := Lib.hid hs
 clear hs hb
 have lxmy : (butS (newS xa) (newS xb)).length ≤ (newS xa).length := those_len _ _ _
 have Sxmy := Lib.hid (show SetM w14 pxmy (butS (newS xa) (newS xb)) from Sxmy.out)
 go_wp2_with fail
 refine (lbBut pxmy pz _ _ w14 Sxmy.out Sz.out (by omega)).mono ?_
 rintro e w15 ⟨pq, rfl, _, hs, hb⟩
 have Ra := Lib.hid (Ra.out.below hb (Nat.le_refl _))
 have Rb := Lib.hid (Rb.out.below hb (Nat.le_refl _))
 have Rc := Lib.hid (Rc.out.below hb (Nat.le_refl _))
 have Sx := Lib.hid (Sx.out.below hb (Nat.le_refl _))
 have Sy := Lib.hid (Sy.out.below hb (Nat.le_refl _))
 have Sz := Lib.hid (Sz.out.below hb (Nat.le_refl _))
 have Syz := Lib.hid (Syz.out.below hb (Nat.le_refl _))
 have Su := Lib.hid (Su.out.below hb (Nat.le_refl _))
 have Sxy := Lib.hid (Sxy.out.below hb (Nat.le_refl _))
 have Sxz := Lib.hid (Sxz.out.below hb (Nat.le_refl _))
 have Sv := Lib.hid (Sv.out.below hb (Nat.le_refl _))
 have Syuz := Lib.hid (Syuz.out.below hb (Nat.le_refl _))
 have Sp := Lib.hid (Sp.out.below hb (Nat.le_refl _))
 have Sxmy := Lib.hid (Sxmy.out.below hb (Nat.le_refl _))
 have HB := Lib.hid (HB.out.trans (hb.mono HB.out.size))
 have Sq := Lib.hid hs
 clear hs hb
 have lq : (butS (butS (newS xa) (newS xb)) (newS xc)).length ≤ (butS (newS xa) (newS xb)).length := those_len _ _ _
 have Sq := Lib.hid (show SetM w15 pq (butS (butS (newS xa) (newS xb)) (newS xc)) from Sq.out)
 go_wp2_with fail
 refine (lbMeet px py _ _ w15 Sx.out Sy.out (by omega)).mono ?_
 rintro e w16 ⟨pm, rfl, _, hs, hb⟩
 have Ra := Lib.hid (Ra.out.below hb (Nat.le_refl _))
 have Rb := Lib.hid (Rb.out.below hb (Nat.le_refl _))
 have Rc := Lib.hid (Rc.out.below hb (Nat.le_refl _))
 have Sx := Lib.hid (Sx.out.below hb (Nat.le_refl _))
 have Sy := Lib.hid (Sy.out.below hb (Nat.le_refl _))
 have Sz := Lib.hid (Sz.out.below hb (Nat.le_refl _))
 have Syz := Lib.hid (Syz.out.below hb (Nat.le_refl _))
 have Su := Lib.hid (Su.out.below hb (Nat.le_refl _))
 have Sxy := Lib.hid (Sxy.out.below hb (Nat.le_refl _))
 have Sxz := Lib.hid (Sxz.out.below hb (Nat.le_refl _))
 have Sv := Lib.hid (Sv.out.below hb (Nat.le_refl _))
 have Syuz := Lib.hid (Syuz.out.below hb (Nat.le_refl _))
 have Sp := Lib.hid (Sp.out.below hb (Nat.le_refl _))
 have Sxmy := Lib.hid (Sxmy.out.below hb (Nat.le_refl _))
 have Sq := Lib.hid (Sq.out.below hb (Nat.le_refl _))
 have HB := Lib.hid (HB.out.trans (hb.mono HB.out.size))
 have Sm := Lib.hid hs
 clear hs hb
 have lm : (meetS (newS xa) (newS xb)).length ≤ (newS xa).length := those_len _ _ _
 have Sm := Lib.hid (show SetM w16 pm (meetS (newS xa) (newS xb)) from Sm.out)
 go_wp2_with fail
 refine (lbBut px py _ _ w16 Sx.out Sy.out (by omega)).mono ?_
 rintro e w17 ⟨pxm, rfl, _, hs, hb⟩
 have Ra := Lib.hid (Ra.out.below hb (Nat.le_refl _))
 have Rb := Lib.hid (Rb.out.below hb (Nat.le_refl _))
 have Rc := Lib.hid (Rc.out.below hb (Nat.le_refl _))
 have Sx := Lib.hid (Sx.out.below hb (Nat.le_refl _))
 have Sy := Lib.hid (Sy.out.below hb (Nat.le_refl _))
 have Sz := Lib.hid (Sz.out.below hb (Nat.le_refl _))
 have Syz := Lib.hid (Syz.out.below hb (Nat.le_refl _))
 have Su := Lib.hid (Su.out.below hb (Nat.le_refl _))
 have Sxy := Lib.hid (Sxy.out.below hb (Nat.le_refl _))
 have Sxz := Lib.hid (Sxz.out.below hb (Nat.le_refl _))
 have Sv := Lib.hid (Sv.out.below hb (Nat.le_refl _))
 have Syuz := Lib.hid (Syuz.out.below hb (Nat.le_refl _))
 have Sp := Lib.hid (Sp.out.below hb (Nat.le_refl _))
 have Sxmy := Lib.hid (Sxmy.out.below hb (Nat.le_refl _))
 have Sq := Lib.hid (Sq.out.below hb (Nat.le_refl _))
 have Sm := Lib.hid (Sm.out.below hb (Nat.le_refl _))
 have HB := Lib.hid (HB.out.trans (hb.mono HB.out.size))
 have Sxm := Lib.hid hs
 clear hs hb
 have lxm : (butS (newS xa) (newS xb)).length ≤ (newS xa).length := those_len _ _ _
 have Sxm := Lib.hid (show SetM w17 pxm (butS (newS xa) (newS xb)) from Sxm.out)
 go_wp2_with fail
 refine (lbBut px pxm _ _ w17 Sx.out Sxm.out (by omega)).mono ?_
 rintro e w18 ⟨pn, rfl, _, hs, hb⟩
 have Ra := Lib.hid (Ra.out.below hb (Nat.le_refl _))
 have Rb := Lib.hid (Rb.out.below hb (Nat.le_refl _))
 have Rc := Lib.hid (Rc.out.below hb (Nat.le_refl _))
 have Sx := Lib.hid (Sx.out.below hb (Nat.le_refl _))
 have Sy := Lib.hid (Sy.out.below hb (Nat.le_refl _))
 have Sz := Lib.hid (Sz.out.below hb (Nat.le_refl _))
 have Syz := Lib.hid (Syz.out.below hb (Nat.le_refl _))
 have Su := Lib.hid (Su.out.below hb (Nat.le_refl _))
 have Sxy := Lib.hid (Sxy.out.below hb (Nat.le_refl _))
 have Sxz := Lib.hid (Sxz.out.below hb (Nat.le_refl _))
 have Sv := Lib.hid (Sv.out.below hb (Nat.le_refl _))
 have Syuz := Lib.hid (Syuz.out.below hb (Nat.le_refl _))
 have Sp := Lib.hid (Sp.out.below hb (Nat.le_refl _))
 have Sxmy := Lib.hid (Sxmy.out.below hb (Nat.le_refl _))
 have Sq := Lib.hid (Sq.out.below hb (Nat.le_refl _))
 have Sm := Lib.hid (Sm.out.below hb (Nat.le_refl _))
 have Sxm := Lib.hid (Sxm.out.below hb (Nat.le_refl _))
 have HB := Lib.hid (HB.out.trans (hb.mono HB.out.size))
 have Sn := Lib.hid hs
 clear hs hb
 have ln : (butS (newS xa) (butS (newS xa) (newS xb))).length ≤ (newS xa).length := those_len _ _ _
 have Sn := Lib.hid (show SetM w18 pn (butS (newS xa) (butS (newS xa) (newS xb))) from Sn.out)
 go_wp2_with fail
 have E1 := Lib.hid (lw_dist (newS xa) (newS xb) (newS xc))
 have E2 := Lib.hid (lw_but (newS xa) (newS xb) (newS xc))
 have E3 := Lib.hid (lw_meet (newS xa) (newS xb))
 have E4 := Lib.hid (lw_self (nodup_newS xa))
 have LEN := len_two (nodup_newS xa) (nodup_meetS (newS xb) (newS xc))
 have lM : (meetS (newS xb) (newS xc)).length ≤ (newS xb).length := those_len _ _ _
 have lXX : (meetS (newS xa) (newS xa)).length ≤ (newS xa).length := those_len _ _ _
 have lXM : (meetS (newS xa) (meetS (newS xb) (newS xc))).length ≤ (newS xa).length := those_len _ _ _
 obtain ⟨k1, hk1⟩ : ∃ k, (uniS (newS xa) (meetS (newS xb) (newS xc))).length = k := ⟨_, rfl⟩
 obtain ⟨k2, hk2⟩ : ∃ k, (meetS (newS xa) (meetS (newS xb) (newS xc))).length = k := ⟨_, rfl⟩
 obtain ⟨k3, hk3⟩ : ∃ k, (newS xa).length = k := ⟨_, rfl⟩
 obtain ⟨k4, hk4⟩ : ∃ k, (meetS (newS xb) (newS xc)).length = k := ⟨_, rfl⟩
 rw [hk1, hk2, hk3, hk4] at LEN
 have hs1 : k1 + k2 ≤ 60 := by omega
 have hs3 : k3 + k4 ≤ 60 := by omega
 have HS := Lib.hid (And.intro lx (And.intro ly (And.intro lz (And.intro lM (And.intro lu (And.intro lp (And.intro lXX lm)))))))
 have K1 := Lib.hid hk1; have K2 := Lib.hid hk2; have K3 := Lib.hid hk3; have K4 := Lib.hid hk4; have HL := Lib.hid LEN; have HS1 := Lib.hid hs1; have HS3 := Lib.hid hs3
 have hsum1 : ((k1 : Int) + (k2 : Int)) = ((k3 : Int) + (k4 : Int)) := by omega
 have HSUM := Lib.hid hsum1
 clear hk1 hk2 hk3 hk4 LEN hs1 hs3 lM lXM lXX hsum1 lx ly lz lyz lu lxy lxz lv lyuz lp lxmy lq lm lxm ln
 refine wp_region_held_drew (S := fun V => Below w18.heap.size w18 V) (by kernel_rfl) ?_ (fun hHeld => ?_)
 ·exact below_drewN (Below.refl _ _) _
 refine wpAnyH_take (i := 0) (oi := _) (v := ?_) (by simp only [List.getElem?_toArray]; rfl) (by kernel_rfl) (by kernel_rfl) (by kernel_rfl) (by exact fun _ _ _ h => h) (Or.inl ⟨by rfl, ?_⟩) (by assumption) ?_
 rotate_left
 ·intro w hSw; go_simp; try with_reducible rfl
 try simp only [Act.put, List.setIfInBounds_toArray, List.set_cons_zero, List.set_cons_succ]
 refine wpAnyH_take (i := 1) (oi := _) (v := ?_) (by simp only [List.getElem?_toArray]; rfl) (by kernel_rfl) (by kernel_rfl) (by kernel_rfl) (by exact fun _ _ _ h => h) (Or.inl ⟨by rfl, ?_⟩) (by assumption) ?_
 rotate_left
 ·intro w hSw; go_simp; try with_reducible rfl
 try simp only [Act.put, List.setIfInBounds_toArray, List.set_cons_zero, List.set_cons_succ]
 refine wpAnyH_take (i := 2) (oi := _) (v := ?_) (by simp only [List.getElem?_toArray]; rfl) (by kernel_rfl) (by kernel_rfl) (by kernel_rfl) (by exact fun _ _ _ h => h) (Or.inl ⟨by rfl, ?_⟩) (by assumption) ?_
 rotate_left
 ·intro w hSw; go_simp; try with_reducible rfl
 try simp only [Act.put, List.setIfInBounds_toArray, List.set_cons_zero, List.set_cons_succ]
 refine wpAnyH_take (i := 3) (oi := _) (v := ?_) (by simp only [List.getElem?_toArray]; rfl) (by kernel_rfl) (by kernel_rfl) (by kernel_rfl) (by exact fun _ _ _ h => h) (Or.inl ⟨by rfl, ?_⟩) (by assumption) ?_
 rotate_left
 ·intro w hSw; go_simp; try with_reducible rfl
 try simp only [Act.put, List.setIfInBounds_toArray, List.set_cons_zero, List.set_cons_succ]
 refine wpAnyH_take (i := 4) (oi := _) (v := ?_) (by simp only [List.getElem?_toArray]; rfl) (by kernel_rfl) (by kernel_rfl) (by kernel_rfl) (by exact fun _ _ _ h => h) (Or.inl ⟨by rfl, ?_⟩) (by assumption) ?_
 rotate_left
 ·intro w hSw; go_simp; try with_reducible rfl
 try simp only [Act.put, List.setIfInBounds_toArray, List.set_cons_zero, List.set_cons_succ]
 refine wpAnyH_take (i := 5) (oi := _) (v := ?_) (by simp only [List.getElem?_toArray]; rfl) (by kernel_rfl) (by kernel_rfl) (by kernel_rfl) (by exact fun _ _ _ h => h) (Or.inl ⟨by rfl, ?_⟩) (by assumption) ?_
 rotate_left
 ·intro w hSw; go_simp; try with_reducible rfl
 try simp only [Act.put, List.setIfInBounds_toArray, List.set_cons_zero, List.set_cons_succ]
 refine wpAnyH_take (i := 6) (oi := _) (v := ?_) (by simp only [List.getElem?_toArray]; rfl) (by kernel_rfl) (by kernel_rfl) (by kernel_rfl) (by exact fun _ _ _ h => h) (Or.inl ⟨by rfl, ?_⟩) (by assumption) ?_
 rotate_left
 ·intro w hSw; go_simp; try with_reducible rfl
 try simp only [Act.put, List.setIfInBounds_toArray, List.set_cons_zero, List.set_cons_succ]
 refine wpAnyH_take (i := 7) (oi := _) (v := ?_) (by simp only [List.getElem?_toArray]; rfl) (by kernel_rfl) (by kernel_rfl) (by kernel_rfl) (by exact fun _ _ _ h => h) (Or.inl ⟨by rfl, ?_⟩) (by assumption) ?_
 rotate_left
 ·intro w hSw; go_simp; try with_reducible rfl
 try simp only [Act.put, List.setIfInBounds_toArray, List.set_cons_zero, List.set_cons_succ]
 refine wpAnyH_take (i := 8) (oi := _) (v := ?_) (by simp only [List.getElem?_toArray]; rfl) (by kernel_rfl) (by kernel_rfl) (by kernel_rfl) (by exact fun _ _ _ h => h) (Or.inl ⟨by rfl, ?_⟩) (by assumption) ?_
 rotate_left
 ·intro w hSw; go_simp; try with_reducible rfl
 try simp only [Act.put, List.setIfInBounds_toArray, List.set_cons_zero, List.set_cons_succ]
 refine wpAnyH_take (i := 9) (oi := _) (v := ?_) (by simp only [List.getElem?_toArray]; rfl) (by kernel_rfl) (by kernel_rfl) (by kernel_rfl) (by exact fun _ _ _ h => h) (Or.inl ⟨by rfl, ?_⟩) (by assumption) ?_
 rotate_left
 ·intro w hSw; go_simp; try with_reducible rfl
 try simp only [Act.put, List.setIfInBounds_toArray, List.set_cons_zero, List.set_cons_succ]
 refine wpAnyH_take (i := 10) (oi := _) (v := ?_) (by simp only [List.getElem?_toArray]; rfl) (by kernel_rfl) (by kernel_rfl) (by kernel_rfl) (by exact fun _ _ _ h => h) (Or.inl ⟨by rfl, ?_⟩) (by assumption) ?_
 rotate_left
 ·intro w hSw; go_simp; try with_reducible rfl
 try simp only [Act.put, List.setIfInBounds_toArray, List.set_cons_zero, List.set_cons_succ]
 refine wpAnyH_take (i := 11) (oi := _) (v := ?_) (by simp only [List.getElem?_toArray]; rfl) (by kernel_rfl) (by kernel_rfl) (by kernel_rfl) (by exact fun _ _ _ h => h) (Or.inl ⟨by rfl, ?_⟩) (by assumption) ?_
 rotate_left
 ·intro w hSw; go_simp; try with_reducible rfl
 try simp only [Act.put, List.setIfInBounds_toArray, List.set_cons_zero, List.set_cons_succ]
 refine wpAnyH_take (i := 12) (oi := _) (v := ?_) (by simp only [List.getElem?_toArray]; rfl) (by kernel_rfl) (by kernel_rfl) (by kernel_rfl) (by exact fun _ _ _ h => h) (Or.inl ⟨by rfl, ?_⟩) (by assumption) ?_
 rotate_left
 ·intro w hSw; go_simp; try with_reducible rfl
 try simp only [Act.put, List.setIfInBounds_toArray, List.set_cons_zero, List.set_cons_succ]
 refine wpAnyH_ready (rs := [13]) (by kernel_rfl) (by simp) ?_
 refine AllReadyH.cons (o := _) (by simp only [List.getElem?_toArray]; rfl) (fun K hK => ?_) ?_
 ·go_simp; have CE := lbEq pu pv _ _ _ (Su.out.below hHeld (Nat.le_refl _)) (Sv.out.below hHeld (Nat.le_refl _)) (by have := HS.out; omega); rw [E1.out] at CE; refine CE.mono ?_; clear CE; rintro e' V1 ⟨rfl, hb1⟩; dsimp only
  refine hK.out _ _ ?_ (fun hHeld => ?_)
  ·try dsimp only
   exact hHeld.trans (hb1.mono hHeld.size)
  clear hK K
  try simp only [Act.put, List.setIfInBounds_toArray, List.set_cons_zero, List.set_cons_succ]
  refine wpAnyH_take (i := 14) (oi := _) (v := ?_) (by simp only [List.getElem?_toArray]; rfl) (by kernel_rfl) (by kernel_rfl) (by kernel_rfl) (by exact fun _ _ _ h => h) (Or.inl ⟨by rfl, ?_⟩) (by assumption) ?_
  rotate_left
  ·intro w hSw; go_simp; try with_reducible rfl
  try simp only [Act.put, List.setIfInBounds_toArray, List.set_cons_zero, List.set_cons_succ]
  refine wpAnyH_take (i := 15) (oi := _) (v := ?_) (by simp only [List.getElem?_toArray]; rfl) (by kernel_rfl) (by kernel_rfl) (by kernel_rfl) (by exact fun _ _ _ h => h) (Or.inl ⟨by rfl, ?_⟩) (by assumption) ?_
  rotate_left
  ·intro w hSw; go_simp; try with_reducible rfl
  try simp only [Act.put, List.setIfInBounds_toArray, List.set_cons_zero, List.set_cons_succ]
  refine wpAnyH_take (i := 16) (oi := _) (v := ?_) (by simp only [List.getElem?_toArray]; rfl) (by kernel_rfl) (by kernel_rfl) (by kernel_rfl) (by exact fun _ _ _ h => h) (Or.inl ⟨by rfl, ?_⟩) (by assumption) ?_
  rotate_left
  ·intro w hSw; go_simp; try with_reducible rfl
  try simp only [Act.put, List.setIfInBounds_toArray, List.set_cons_zero, List.set_cons_succ]
  refine wpAnyH_take (i := 17) (oi := _) (v := ?_) (by simp only [List.getElem?_toArray]; rfl) (by kernel_rfl) (by kernel_rfl) (by kernel_rfl) (by exact fun _ _ _ h => h) (Or.inl ⟨by rfl, ?_⟩) (by assumption) ?_
  rotate_left
  ·intro w hSw; go_simp; try with_reducible rfl
  try simp only [Act.put, List.setIfInBounds_toArray, List.set_cons_zero, List.set_cons_succ]
  refine wpAnyH_ready (rs := [18]) (by kernel_rfl) (by simp) ?_
  refine AllReadyH.cons (o := _) (by simp only [List.getElem?_toArray]; rfl) (fun K hK => ?_) ?_
  ·go_simp; have CE := lbEq pp pq _ _ _ (Sp.out.below hHeld (Nat.le_refl _)) (Sq.out.below hHeld (Nat.le_refl _)) (by have := HS.out; omega); rw [E2.out] at CE; refine CE.mono ?_; clear CE; rintro e' V1 ⟨rfl, hb1⟩; dsimp only
   refine hK.out _ _ ?_ (fun hHeld => ?_)
   ·try dsimp only
    exact hHeld.trans (hb1.mono hHeld.size)
   clear hK K
   try simp only [Act.put, List.setIfInBounds_toArray, List.set_cons_zero, List.set_cons_succ]
   refine wpAnyH_take (i := 19) (oi := _) (v := ?_) (by simp only [List.getElem?_toArray]; rfl) (by kernel_rfl) (by kernel_rfl) (by kernel_rfl) (by exact fun _ _ _ h => h) (Or.inl ⟨by rfl, ?_⟩) (by assumption) ?_
   rotate_left
   ·intro w hSw; go_simp; try with_reducible rfl
   try simp only [Act.put, List.setIfInBounds_toArray, List.set_cons_zero, List.set_cons_succ]
   refine wpAnyH_take (i := 20) (oi := _) (v := ?_) (by simp only [List.getElem?_toArray]; rfl) (by kernel_rfl) (by kernel_rfl) (by kernel_rfl) (by exact fun _ _ _ h => h) (Or.inl ⟨by rfl, ?_⟩) (by assumption) ?_
   rotate_left
   ·intro w hSw; go_simp; try with_reducible rfl
   try simp only [Act.put, List.setIfInBounds_toArray, List.set_cons_zero, List.set_cons_succ]
   refine wpAnyH_take (i := 21) (oi := _) (v := ?_) (by simp only [List.getElem?_toArray]; rfl) (by kernel_rfl) (by kernel_rfl) (by kernel_rfl) (by exact fun _ _ _ h => h) (Or.inl ⟨by rfl, ?_⟩) (by assumption) ?_
   rotate_left
   ·intro w hSw; go_simp; try with_reducible rfl
   try simp only [Act.put, List.setIfInBounds_toArray, List.set_cons_zero, List.set_cons_succ]
   refine wpAnyH_take (i := 22) (oi := _) (v := ?_) (by simp only [List.getElem?_toArray]; rfl) (by kernel_rfl) (by kernel_rfl) (by kernel_rfl) (by exact fun _ _ _ h => h) (Or.inl ⟨by rfl, ?_⟩) (by assumption) ?_
   rotate_left
   ·intro w hSw; go_simp; try with_reducible rfl
   try simp only [Act.put, List.setIfInBounds_toArray, List.set_cons_zero, List.set_cons_succ]
   refine wpAnyH_ready (rs := [23]) (by kernel_rfl) (by simp) ?_
   refine AllReadyH.cons (o := _) (by simp only [List.getElem?_toArray]; rfl) (fun K hK => ?_) ?_
   ·go_simp; have CE := lbEq pm pn _ _ _ (Sm.out.below hHeld (Nat.le_refl _)) (Sn.out.below hHeld (Nat.le_refl _)) (by have := HS.out; omega); rw [E3.out] at CE; refine CE.mono ?_; clear CE; rintro e' V1 ⟨rfl, hb1⟩; dsimp only
    refine hK.out _ _ ?_ (fun hHeld => ?_)
    ·try dsimp only
     exact hHeld.trans (hb1.mono hHeld.size)
    clear hK K
    try simp only [Act.put, List.setIfInBounds_toArray, List.set_cons_zero, List.set_cons_succ]
    refine wpAnyH_take (i := 24) (oi := _) (v := ?_) (by simp only [List.getElem?_toArray]; rfl) (by kernel_rfl) (by kernel_rfl) (by kernel_rfl) (by exact fun _ _ _ h => h) (Or.inl ⟨by rfl, ?_⟩) (by assumption) ?_
    rotate_left
    ·intro w hSw; go_simp; try with_reducible rfl
    try simp only [Act.put, List.setIfInBounds_toArray, List.set_cons_zero, List.set_cons_succ]
    refine wpAnyH_take (i := 25) (oi := _) (v := ?_) (by simp only [List.getElem?_toArray]; rfl) (by kernel_rfl) (by kernel_rfl) (by kernel_rfl) (by exact fun _ _ _ h => h) (Or.inl ⟨by rfl, ?_⟩) (by assumption) ?_
    rotate_left
    ·intro w hSw; go_simp; try with_reducible rfl
    try simp only [Act.put, List.setIfInBounds_toArray, List.set_cons_zero, List.set_cons_succ]
    refine wpAnyH_take (i := 26) (oi := _) (v := ?_) (by simp only [List.getElem?_toArray]; rfl) (by kernel_rfl) (by kernel_rfl) (by kernel_rfl) (by exact fun _ _ _ h => h) (Or.inl ⟨by rfl, ?_⟩) (by assumption) ?_
    rotate_left
    ·intro w hSw; go_simp; try with_reducible rfl
    try simp only [Act.put, List.setIfInBounds_toArray, List.set_cons_zero, List.set_cons_succ]
    refine wpAnyH_take (i := 27) (oi := _) (v := ?_) (by simp only [List.getElem?_toArray]; rfl) (by kernel_rfl) (by kernel_rfl) (by kernel_rfl) (by exact fun _ _ _ h => h) (Or.inl ⟨by rfl, ?_⟩) (by assumption) ?_
    rotate_left
    ·intro w hSw; go_simp; try with_reducible rfl
    try simp only [Act.put, List.setIfInBounds_toArray, List.set_cons_zero, List.set_cons_succ]
    refine wpAnyH_take (i := 29) (oi := _) (v := ?_) (by simp only [List.getElem?_toArray]; rfl) (by kernel_rfl) (by kernel_rfl) (by kernel_rfl) (by exact fun _ _ _ h => h) (Or.inl ⟨by rfl, ?_⟩) (by assumption) ?_
    rotate_left
    ·intro w hSw; go_simp; try with_reducible rfl
    try simp only [Act.put, List.setIfInBounds_toArray, List.set_cons_zero, List.set_cons_succ]
    refine wpAnyH_ready (rs := [28]) (by kernel_rfl) (by simp) ?_
    refine AllReadyH.cons (o := _) (by simp only [List.getElem?_toArray]; rfl) (fun K hK => ?_) ?_
    ·go_simp; refine (lbMeet px px _ _ _ (Sx.out.below hHeld (Nat.le_refl _)) (Sx.out.below hHeld (Nat.le_refl _)) (by have := HS.out; omega)).mono ?_; rintro e' V1 ⟨va, rfl, _, hsva, hb1⟩; replace hsva : SetM _ va (meetS (newS xa) (newS xa)) := hsva; dsimp only
     refine hK.out _ _ ?_ (fun hHeld => ?_)
     ·try dsimp only
      exact hHeld.trans (hb1.mono hHeld.size)
     clear hK K
     try simp only [Act.put, List.setIfInBounds_toArray, List.set_cons_zero, List.set_cons_succ]
     refine wpAnyH_ready (rs := [30]) (by kernel_rfl) (by simp) ?_
     refine AllReadyH.cons (o := _) (by simp only [List.getElem?_toArray]; rfl) (fun K hK => ?_) ?_
     ·go_simp; have CE := lbEq va px _ _ _ hsva (Sx.out.below hHeld (Nat.le_refl _)) (by have := HS.out; omega); rw [E4.out] at CE; refine CE.mono ?_; clear CE; rintro e' V1 ⟨rfl, hb1⟩; dsimp only
      refine hK.out _ _ ?_ (fun hHeld => ?_)
      ·try dsimp only
       exact hHeld.trans (hb1.mono hHeld.size)
      clear hK K
      try simp only [Act.put, List.setIfInBounds_toArray, List.set_cons_zero, List.set_cons_succ]
      refine wpAnyH_take (i := 31) (oi := _) (v := ?_) (by simp only [List.getElem?_toArray]; rfl) (by kernel_rfl) (by kernel_rfl) (by kernel_rfl) (by exact fun _ _ _ h => h) (Or.inl ⟨by rfl, ?_⟩) (by assumption) ?_
      rotate_left
      ·intro w hSw; go_simp; try with_reducible rfl
      try simp only [Act.put, List.setIfInBounds_toArray, List.set_cons_zero, List.set_cons_succ]
      refine wpAnyH_take (i := 32) (oi := _) (v := ?_) (by simp only [List.getElem?_toArray]; rfl) (by kernel_rfl) (by kernel_rfl) (by kernel_rfl) (by exact fun _ _ _ h => h) (Or.inl ⟨by rfl, ?_⟩) (by assumption) ?_
      rotate_left
      ·intro w hSw; go_simp; try with_reducible rfl
      try simp only [Act.put, List.setIfInBounds_toArray, List.set_cons_zero, List.set_cons_succ]
      refine wpAnyH_take (i := 33) (oi := _) (v := ?_) (by simp only [List.getElem?_toArray]; rfl) (by kernel_rfl) (by kernel_rfl) (by kernel_rfl) (by exact fun _ _ _ h => h) (Or.inl ⟨by rfl, ?_⟩) (by assumption) ?_
      rotate_left
      ·intro w hSw; go_simp; try with_reducible rfl
      try simp only [Act.put, List.setIfInBounds_toArray, List.set_cons_zero, List.set_cons_succ]
      refine wpAnyH_take (i := 34) (oi := _) (v := ?_) (by simp only [List.getElem?_toArray]; rfl) (by kernel_rfl) (by kernel_rfl) (by kernel_rfl) (by exact fun _ _ _ h => h) (Or.inl ⟨by rfl, ?_⟩) (by assumption) ?_
      rotate_left
      ·intro w hSw; go_simp; try with_reducible rfl
      try simp only [Act.put, List.setIfInBounds_toArray, List.set_cons_zero, List.set_cons_succ]
      refine wpAnyH_ready (rs := [35]) (by kernel_rfl) (by simp) ?_
      refine AllReadyH.cons (o := _) (by simp only [List.getElem?_toArray]; rfl) (fun K hK => ?_) ?_
      ·go_simp; refine (lbBut px px _ _ _ (Sx.out.below hHeld (Nat.le_refl _)) (Sx.out.below hHeld (Nat.le_refl _)) (by have := HS.out; omega)).mono ?_; rintro e' V1 ⟨vb, rfl, _, hsvb, hb1⟩; replace hsvb : SetM _ vb (butS (newS xa) (newS xa)) := hsvb; dsimp only
       refine hK.out _ _ ?_ (fun hHeld => ?_)
       ·try dsimp only
        exact hHeld.trans (hb1.mono hHeld.size)
       clear hK K
       try simp only [Act.put, List.setIfInBounds_toArray, List.set_cons_zero, List.set_cons_succ]
       refine wpAnyH_take (i := 36) (oi := _) (v := ?_) (by simp only [List.getElem?_toArray]; rfl) (by kernel_rfl) (by kernel_rfl) (by kernel_rfl) (by exact fun _ _ _ h => h) (Or.inl ⟨by rfl, ?_⟩) (by assumption) ?_
       rotate_left
       ·intro w hSw; go_simp; try with_reducible rfl
       try simp only [Act.put, List.setIfInBounds_toArray, List.set_cons_zero, List.set_cons_succ]
       refine wpAnyH_take (i := 37) (oi := _) (v := ?_) (by simp only [List.getElem?_toArray]; rfl) (by kernel_rfl) (by kernel_rfl) (by kernel_rfl) (by exact fun _ _ _ h => h) (Or.inl ⟨by rfl, ?_⟩) (by assumption) ?_
       rotate_left
       ·intro w hSw; go_simp; try with_reducible rfl
       try simp only [Act.put, List.setIfInBounds_toArray, List.set_cons_zero, List.set_cons_succ]
       refine wpAnyH_ready (rs := [38]) (by kernel_rfl) (by simp) ?_
       refine AllReadyH.cons (o := _) (by simp only [List.getElem?_toArray]; rfl) (fun K hK => ?_) ?_
       ·go_simp; have CE := lbLen vb _ _ hsvb.at; rw [butS_self] at CE; refine CE.mono ?_; clear CE; rintro e' V1 ⟨rfl, rfl⟩; dsimp only
        refine hK.out _ _ ?_ (fun hHeld => ?_)
        ·try dsimp only
         exact hHeld
        clear hK K
        try simp only [Act.put, List.setIfInBounds_toArray, List.set_cons_zero, List.set_cons_succ]
        refine wpAnyH_take (i := 39) (oi := _) (v := ?_) (by simp only [List.getElem?_toArray]; rfl) (by kernel_rfl) (by kernel_rfl) (by kernel_rfl) (by exact fun _ _ _ h => h) (Or.inl ⟨by rfl, ?_⟩) (by assumption) ?_
        rotate_left
        ·intro w hSw; go_simp; try with_reducible rfl
        try simp only [Act.put, List.setIfInBounds_toArray, List.set_cons_zero, List.set_cons_succ]
        refine wpAnyH_take (i := 40) (oi := _) (v := ?_) (by simp only [List.getElem?_toArray]; rfl) (by kernel_rfl) (by kernel_rfl) (by kernel_rfl) (by exact fun _ _ _ h => h) (Or.inl ⟨by rfl, ?_⟩) (by assumption) ?_
        rotate_left
        ·intro w hSw; go_simp; try with_reducible rfl
        try simp only [Act.put, List.setIfInBounds_toArray, List.set_cons_zero, List.set_cons_succ]
        refine wpAnyH_take (i := 41) (oi := _) (v := ?_) (by simp only [List.getElem?_toArray]; rfl) (by kernel_rfl) (by kernel_rfl) (by kernel_rfl) (by exact fun _ _ _ h => h) (Or.inl ⟨by rfl, ?_⟩) (by assumption) ?_
        rotate_left
        ·intro w hSw; go_simp; try with_reducible rfl
        try simp only [Act.put, List.setIfInBounds_toArray, List.set_cons_zero, List.set_cons_succ]
        refine wpAnyH_take (i := 42) (oi := _) (v := ?_) (by simp only [List.getElem?_toArray]; rfl) (by kernel_rfl) (by kernel_rfl) (by kernel_rfl) (by exact fun _ _ _ h => h) (Or.inl ⟨by rfl, ?_⟩) (by assumption) ?_
        rotate_left
        ·intro w hSw; go_simp; try with_reducible rfl
        try simp only [Act.put, List.setIfInBounds_toArray, List.set_cons_zero, List.set_cons_succ]
        refine wpAnyH_take (i := 43) (oi := _) (v := ?_) (by simp only [List.getElem?_toArray]; rfl) (by kernel_rfl) (by kernel_rfl) (by kernel_rfl) (by exact fun _ _ _ h => h) (Or.inl ⟨by rfl, ?_⟩) (by assumption) ?_
        rotate_left
        ·intro w hSw; go_simp; try with_reducible rfl
        try simp only [Act.put, List.setIfInBounds_toArray, List.set_cons_zero, List.set_cons_succ]
        refine wpAnyH_take (i := 44) (oi := _) (v := ?_) (by simp only [List.getElem?_toArray]; rfl) (by kernel_rfl) (by kernel_rfl) (by kernel_rfl) (by exact fun _ _ _ h => h) (Or.inl ⟨by rfl, ?_⟩) (by assumption) ?_
        rotate_left
        ·intro w hSw; go_simp; try with_reducible rfl
        try simp only [Act.put, List.setIfInBounds_toArray, List.set_cons_zero, List.set_cons_succ]
        refine wpAnyH_take (i := 46) (oi := _) (v := ?_) (by simp only [List.getElem?_toArray]; rfl) (by kernel_rfl) (by kernel_rfl) (by kernel_rfl) (by exact fun _ _ _ h => h) (Or.inl ⟨by rfl, ?_⟩) (by assumption) ?_
        rotate_left
        ·intro w hSw; go_simp; try with_reducible rfl
        try simp only [Act.put, List.setIfInBounds_toArray, List.set_cons_zero, List.set_cons_succ]
        refine wpAnyH_take (i := 47) (oi := _) (v := ?_) (by simp only [List.getElem?_toArray]; rfl) (by kernel_rfl) (by kernel_rfl) (by kernel_rfl) (by exact fun _ _ _ h => h) (Or.inl ⟨by rfl, ?_⟩) (by assumption) ?_
        rotate_left
        ·intro w hSw; go_simp; try with_reducible rfl
        try simp only [Act.put, List.setIfInBounds_toArray, List.set_cons_zero, List.set_cons_succ]
        refine wpAnyH_take (i := 48) (oi := _) (v := ?_) (by simp only [List.getElem?_toArray]; rfl) (by kernel_rfl) (by kernel_rfl) (by kernel_rfl) (by exact fun _ _ _ h => h) (Or.inl ⟨by rfl, ?_⟩) (by assumption) ?_
        rotate_left
        ·intro w hSw; go_simp; try with_reducible rfl
        try simp only [Act.put, List.setIfInBounds_toArray, List.set_cons_zero, List.set_cons_succ]
        refine wpAnyH_take (i := 55) (oi := _) (v := ?_) (by simp only [List.getElem?_toArray]; rfl) (by kernel_rfl) (by kernel_rfl) (by kernel_rfl) (by exact fun _ _ _ h => h) (Or.inl ⟨by rfl, ?_⟩) (by assumption) ?_
        rotate_left
        ·intro w hSw; go_simp; try with_reducible rfl
        try simp only [Act.put, List.setIfInBounds_toArray, List.set_cons_zero, List.set_cons_succ]
        refine wpAnyH_take (i := 56) (oi := _) (v := ?_) (by simp only [List.getElem?_toArray]; rfl) (by kernel_rfl) (by kernel_rfl) (by kernel_rfl) (by exact fun _ _ _ h => h) (Or.inl ⟨by rfl, ?_⟩) (by assumption) ?_
        rotate_left
        ·intro w hSw; go_simp; try with_reducible rfl
        try simp only [Act.put, List.setIfInBounds_toArray, List.set_cons_zero, List.set_cons_succ]
        refine wpAnyH_take (i := 57) (oi := _) (v := ?_) (by simp only [List.getElem?_toArray]; rfl) (by kernel_rfl) (by kernel_rfl) (by kernel_rfl) (by exact fun _ _ _ h => h) (Or.inl ⟨by rfl, ?_⟩) (by assumption) ?_
        rotate_left
        ·intro w hSw; go_simp; try with_reducible rfl
        try simp only [Act.put, List.setIfInBounds_toArray, List.set_cons_zero, List.set_cons_succ]
        refine wpAnyH_take (i := 59) (oi := _) (v := ?_) (by simp only [List.getElem?_toArray]; rfl) (by kernel_rfl) (by kernel_rfl) (by kernel_rfl) (by exact fun _ _ _ h => h) (Or.inl ⟨by rfl, ?_⟩) (by assumption) ?_
        rotate_left
        ·intro w hSw; go_simp; try with_reducible rfl
        try simp only [Act.put, List.setIfInBounds_toArray, List.set_cons_zero, List.set_cons_succ]
        refine wpAnyH_take (i := 60) (oi := _) (v := ?_) (by simp only [List.getElem?_toArray]; rfl) (by kernel_rfl) (by kernel_rfl) (by kernel_rfl) (by exact fun _ _ _ h => h) (Or.inl ⟨by rfl, ?_⟩) (by assumption) ?_
        rotate_left
        ·intro w hSw; go_simp; try with_reducible rfl
        try simp only [Act.put, List.setIfInBounds_toArray, List.set_cons_zero, List.set_cons_succ]
        refine wpAnyH_ready (rs := [45]) (by kernel_rfl) (by simp) ?_
        refine AllReadyH.cons (o := _) (by simp only [List.getElem?_toArray]; rfl) (fun K hK => ?_) ?_
        ·go_simp; have CE := lbLen pu _ _ ((Su.out.below hHeld (Nat.le_refl _))).at; rw [K1.out] at CE; refine CE.mono ?_; clear CE; rintro e' V1 ⟨rfl, rfl⟩; dsimp only
         refine hK.out _ _ ?_ (fun hHeld => ?_)
         ·try dsimp only
          exact hHeld
         clear hK K
         try simp only [Act.put, List.setIfInBounds_toArray, List.set_cons_zero, List.set_cons_succ]
         refine wpAnyH_ready (rs := [49]) (by kernel_rfl) (by simp) ?_
         refine AllReadyH.cons (o := _) (by simp only [List.getElem?_toArray]; rfl) (fun K hK => ?_) ?_
         ·go_simp; refine (lbMeet py pz _ _ _ (Sy.out.below hHeld (Nat.le_refl _)) (Sz.out.below hHeld (Nat.le_refl _)) (by have := HS.out; omega)).mono ?_; rintro e' V1 ⟨vc, rfl, _, hsvc, hb1⟩; replace hsvc : SetM _ vc ((meetS (newS xb) (newS xc))) := hsvc; dsimp only
          refine hK.out _ _ ?_ (fun hHeld => ?_)
          ·try dsimp only
           exact hHeld.trans (hb1.mono hHeld.size)
          clear hK K
          try simp only [Act.put, List.setIfInBounds_toArray, List.set_cons_zero, List.set_cons_succ]
          refine wpAnyH_ready (rs := [50]) (by kernel_rfl) (by simp) ?_
          refine AllReadyH.cons (o := _) (by simp only [List.getElem?_toArray]; rfl) (fun K hK => ?_) ?_
          ·go_simp; refine (lbMeet px vc _ _ _ (Sx.out.below hHeld (Nat.le_refl _)) hsvc (by have := HS.out; omega)).mono ?_; rintro e' V1 ⟨vd, rfl, _, hsvd, hb1⟩; replace hsvd : SetM _ vd (meetS (newS xa) (meetS (newS xb) (newS xc))) := hsvd; dsimp only
           refine hK.out _ _ ?_ (fun hHeld => ?_)
           ·try dsimp only
            exact hHeld.trans (hb1.mono hHeld.size)
           clear hK K
           try simp only [Act.put, List.setIfInBounds_toArray, List.set_cons_zero, List.set_cons_succ]
           refine wpAnyH_take (i := 51) (oi := _) (v := ?_) (by simp only [List.getElem?_toArray]; rfl) (by kernel_rfl) (by kernel_rfl) (by kernel_rfl) (by exact fun _ _ _ h => h) (Or.inl ⟨by rfl, ?_⟩) (by assumption) ?_
           rotate_left
           ·intro w hSw; go_simp; try with_reducible rfl
           try simp only [Act.put, List.setIfInBounds_toArray, List.set_cons_zero, List.set_cons_succ]
           refine wpAnyH_take (i := 52) (oi := _) (v := ?_) (by simp only [List.getElem?_toArray]; rfl) (by kernel_rfl) (by kernel_rfl) (by kernel_rfl) (by exact fun _ _ _ h => h) (Or.inl ⟨by rfl, ?_⟩) (by assumption) ?_
           rotate_left
           ·intro w hSw; go_simp; try with_reducible rfl
           try simp only [Act.put, List.setIfInBounds_toArray, List.set_cons_zero, List.set_cons_succ]
           refine wpAnyH_ready (rs := [53]) (by kernel_rfl) (by simp) ?_
           refine AllReadyH.cons (o := _) (by simp only [List.getElem?_toArray]; rfl) (fun K hK => ?_) ?_
           ·go_simp; have CE := lbLen vd _ _ hsvd.at; rw [K2.out] at CE; refine CE.mono ?_; clear CE; rintro e' V1 ⟨rfl, rfl⟩; dsimp only
            refine hK.out _ _ ?_ (fun hHeld => ?_)
            ·try dsimp only
             exact hHeld
            clear hK K
            try simp only [Act.put, List.setIfInBounds_toArray, List.set_cons_zero, List.set_cons_succ]
            refine wpAnyH_take (i := 54) (oi := _) (v := ?_) (by simp only [List.getElem?_toArray]; rfl) (by kernel_rfl) (by kernel_rfl) (by kernel_rfl) (by exact fun _ _ _ h => h) (Or.inl ⟨by rfl, ?_⟩) (by assumption) ?_
            rotate_left
            ·intro w hSw; go_simp; try with_reducible rfl
            try simp only [Act.put, List.setIfInBounds_toArray, List.set_cons_zero, List.set_cons_succ]
            refine wpAnyH_ready (rs := [58]) (by kernel_rfl) (by simp) ?_
            refine AllReadyH.cons (o := _) (by simp only [List.getElem?_toArray]; rfl) (fun K hK => ?_) ?_
            ·go_simp; have CE := lbLen px _ _ ((Sx.out.below hHeld (Nat.le_refl _))).at; rw [K3.out] at CE; refine CE.mono ?_; clear CE; rintro e' V1 ⟨rfl, rfl⟩; dsimp only
             refine hK.out _ _ ?_ (fun hHeld => ?_)
             ·try dsimp only
              exact hHeld
             clear hK K
             try simp only [Act.put, List.setIfInBounds_toArray, List.set_cons_zero, List.set_cons_succ]
             refine wpAnyH_ready (rs := [61]) (by kernel_rfl) (by simp) ?_
             refine AllReadyH.cons (o := _) (by simp only [List.getElem?_toArray]; rfl) (fun K hK => ?_) ?_
             ·go_simp; refine (lbMeet py pz _ _ _ (Sy.out.below hHeld (Nat.le_refl _)) (Sz.out.below hHeld (Nat.le_refl _)) (by have := HS.out; omega)).mono ?_; rintro e' V1 ⟨ve, rfl, _, hsve, hb1⟩; replace hsve : SetM _ ve ((meetS (newS xb) (newS xc))) := hsve; dsimp only
              refine hK.out _ _ ?_ (fun hHeld => ?_)
              ·try dsimp only
               exact hHeld.trans (hb1.mono hHeld.size)
              clear hK K
              try simp only [Act.put, List.setIfInBounds_toArray, List.set_cons_zero, List.set_cons_succ]
              refine wpAnyH_take (i := 62) (oi := _) (v := ?_) (by simp only [List.getElem?_toArray]; rfl) (by kernel_rfl) (by kernel_rfl) (by kernel_rfl) (by exact fun _ _ _ h => h) (Or.inl ⟨by rfl, ?_⟩) (by assumption) ?_
              rotate_left
              ·intro w hSw; go_simp; try with_reducible rfl
              try simp only [Act.put, List.setIfInBounds_toArray, List.set_cons_zero, List.set_cons_succ]
              refine wpAnyH_take (i := 63) (oi := _) (v := ?_) (by simp only [List.getElem?_toArray]; rfl) (by kernel_rfl) (by kernel_rfl) (by kernel_rfl) (by exact fun _ _ _ h => h) (Or.inl ⟨by rfl, ?_⟩) (by assumption) ?_
              rotate_left
              ·intro w hSw; go_simp; try with_reducible rfl
              try simp only [Act.put, List.setIfInBounds_toArray, List.set_cons_zero, List.set_cons_succ]
              refine wpAnyH_ready (rs := [64]) (by kernel_rfl) (by simp) ?_
              refine AllReadyH.cons (o := _) (by simp only [List.getElem?_toArray]; rfl) (fun K hK => ?_) ?_
              ·go_simp; have CE := lbLen ve _ _ hsve.at; rw [K4.out] at CE; refine CE.mono ?_; clear CE; rintro e' V1 ⟨rfl, rfl⟩; dsimp only
               refine hK.out _ _ ?_ (fun hHeld => ?_)
               ·try dsimp only
                exact hHeld
               clear hK K
               try simp only [Act.put, List.setIfInBounds_toArray, List.set_cons_zero, List.set_cons_succ]
               refine wpAnyH_take (i := 65) (oi := _) (v := ?_) (by simp only [List.getElem?_toArray]; rfl) (by kernel_rfl) (by kernel_rfl) (by kernel_rfl) (by exact fun _ _ _ h => h) (Or.inl ⟨by rfl, ?_⟩) (by assumption) ?_
               rotate_left
               ·intro w hSw; go_simp; try with_reducible rfl
               try simp only [Act.put, List.setIfInBounds_toArray, List.set_cons_zero, List.set_cons_succ]
               refine wpAnyH_take (i := 66) (oi := _) (v := ?_) (by simp only [List.getElem?_toArray]; rfl) (by kernel_rfl) (by kernel_rfl) (by kernel_rfl) (by exact fun _ _ _ h => h) (Or.inl ⟨by rfl, ?_⟩) (by assumption) ?_
               rotate_left
               ·intro w hSw; go_simp; try with_reducible rfl
               try simp only [Act.put, List.setIfInBounds_toArray, List.set_cons_zero, List.set_cons_succ]
               refine wpAnyH_take (i := 67) (oi := _) (v := ?_) (by simp only [List.getElem?_toArray]; rfl) (by kernel_rfl) (by kernel_rfl) (by kernel_rfl) (by exact fun _ _ _ h => h) (Or.inl ⟨by rfl, ?_⟩) (by assumption) ?_
               rotate_left
               ·intro w hSw; go_simp; try with_reducible rfl
               try simp only [Act.put, List.setIfInBounds_toArray, List.set_cons_zero, List.set_cons_succ]
               refine wpAnyH_take (i := 68) (oi := _) (v := ?_) (by simp only [List.getElem?_toArray]; rfl) (by kernel_rfl) (by kernel_rfl) (by kernel_rfl) (by exact fun _ _ _ h => h) (Or.inl ⟨by rfl, ?_⟩) (by assumption) ?_
               rotate_left
               ·intro w hSw; go_simp; try with_reducible rfl
               try simp only [Act.put, List.setIfInBounds_toArray, List.set_cons_zero, List.set_cons_succ]
               refine wpAnyH_done (by kernel_rfl) ?_ _
               go_wp2_with fail
               go_ret
               refine ⟨?_, HB.out.trans (hHeld.mono HB.out.size)⟩
               show Ending.returned (.bool (IntKind.i64.wrap ((k1 : Int) + (k2 : Int)) == IntKind.i64.wrap ((k3 : Int) + (k4 : Int)))) = _
               rw [HSUM.out, beq_self_eq_true]
              exact AllReadyH.nil
             exact AllReadyH.nil
            exact AllReadyH.nil
           exact AllReadyH.nil
          exact AllReadyH.nil
         exact AllReadyH.nil
        exact AllReadyH.nil
       exact AllReadyH.nil
      exact AllReadyH.nil
     exact AllReadyH.nil
    exact AllReadyH.nil
   exact AllReadyH.nil
  exact AllReadyH.nil
 exact AllReadyH.nil
end Go.Proofs.YtdkainiiinjgmaaGreatDoor.lawLabelsLaws
