import Derived.Deep.CutBlock
import Derived.Deep.DeepCutAuto
import Derived.Test.YtdkainiiinjgmaaGreatDoorMav
namespace Go.Proofs.YtdkainiiinjgmaaGreatDoor.lawLabelsAll
open Go.RowKit Go.Shelf
inductive HoldG (p : Prop) : Prop where
 | mk : p → HoldG p
theorem HoldG.out {p : Prop} (h : HoldG p) : p := by cases h; assumption
set_option maxHeartbeats 8000000
set_option maxRecDepth 100000
theorem law (va : Value) (xa : List Lb) (vb : Value) (xb : List Lb) (x y : Lb) (w : World) (ha : IsLabs w va xa) (_ : ∀ x ∈ xa, x.2.size ≤ 1048576) (hb : IsLabs w vb xb) (_ : ∀ x ∈ xb, x.2.size ≤ 1048576) (hx : x.2.size ≤ 1048576) (_ : y.2.size ≤ 1048576) (hG : Exe.GX 5 285 Exe.opNames w) :
  Calls Tryz.prog 5 #[va, vb, lv x, lv y] w fun e w' => e = .returned (.bool true) ∧ Below w.heap.size w w' := by
 have mixed : Tryz.prog.follows .mixedOrders = true := by kernel_rfl
 obtain ⟨aa, ca, rfl, la, _, ra⟩ := ha.row
 obtain ⟨ab, cb, rfl, lb, _, rb⟩ := hb.row
 have HCB := Lib.hid (fun (w1 : World) (h : Exe.GX 5 285 Exe.opNames w1) => Exe.beg12 h)
 have HG := Lib.hid hG
 have Ra := Lib.hid ra
 have Rb := Lib.hid rb
 have HX := Lib.hid hx
 clear ha hb ra rb hG hx
 unfold lv
 go_enter Tryz.func5, Tryz.ntmps5
 go_wp2_with fail
 obtain ⟨W0, hW0⟩ : ∃ V, V = (w.alloc (.cells #[.bool x.1, .string x.2] 38)).alloc (.cells #[.bool y.1, .string y.2] 38) := ⟨_, rfl⟩
 rw [← hW0]
 have hb0 : Below w.heap.size w W0 := by rw [hW0]; exact ((Below.refl _ _).alloc (Nat.le_refl _) _).alloc (by simp) _
 obtain ⟨gx, hgx⟩ : ∃ g, g = w.heap.size := ⟨_, rfl⟩
 have bx : BoxL W0 gx x := by
  rw [hW0, hgx]
  show ((w.alloc _).heap.push _)[_]? = _
  rw [Array.getElem?_push_lt (by simp)]
  exact Array.getElem?_eq_some_iff.1 (alloc_at w _) |>.2 ▸ rfl
 have by' : BoxL W0 (gx + 1) y := by
  rw [hW0, hgx]
  have := alloc_at (w.alloc (.cells #[.bool x.1, .string x.2] 38)) (.cells #[.bool y.1, .string y.2] 38)
  rw [World.size_alloc] at this
  exact this
 have hs0 : W0.heap.size = gx + 2 := by rw [hW0, hgx]; simp
 rw [← hgx]
 have BX := Lib.hid bx
 have BY := Lib.hid by'
 have HB := Lib.hid hb0
 have HGX := Lib.hid hs0
 have HGW := Lib.hid hgx
 replace Ra := Lib.hid (Ra.out.below hb0 (Nat.le_refl _))
 replace Rb := Lib.hid (Rb.out.below hb0 (Nat.le_refl _))
 clear hW0 hb0 bx by' hs0 hgx
 refine (HCB.out _ (HG.out.below (by decide) (HB.out.mono HG.out.size))).mono ?_
 rintro e w0 ⟨rfl, hb⟩
 have HS0 := Lib.hid hb.size
 replace BX := Lib.hid (BX.out.below hb (Nat.le_refl _))
 replace BY := Lib.hid (BY.out.below hb (Nat.le_refl _))
 replace Ra := Lib.hid (Ra.out.below hb (Nat.le_refl _))
 replace Rb := Lib.hid (Rb.out.below hb (Nat.le_refl _))
 replace HB := Lib.hid (HB.out.trans (hb.mono HB.out.size))
 clear hb HCB HG
 have HZ0 := Lib.hid HB.out.size
 go_wp2_with fail
 refine (lbFew xa aa ca w0 Ra.out la).mono ?_
 rintro e w1 ⟨v, rfl, ho, hb⟩
 obtain ⟨ya, hya⟩ : ∃ y, xa.take 20 = y := ⟨_, rfl⟩
 have lya : ya.length ≤ 20 := by rw [← hya, List.length_take]; omega
 rw [hya] at ho
 obtain ⟨fa, ga, rfl, hlca, hlma, hr, _⟩ := ownL_row ho
 replace BX := Lib.hid (BX.out.below hb (Nat.le_refl _))
 replace BY := Lib.hid (BY.out.below hb (Nat.le_refl _))
 replace Rb := Lib.hid (Rb.out.below hb (Nat.le_refl _))
 replace HB := Lib.hid (HB.out.trans (hb.mono HB.out.size))
 have Fa := Lib.hid hr
 have HBa := Lib.hid hb.size
 have HLa := Lib.hid (And.intro hlca hlma)
 clear hb hr ho hya Ra hlca hlma
 have HF1 := Lib.hid (show w0.heap.size ≤ w1.heap.size from HBa.out)
 go_wp2_with fail
 refine (lbFew xb ab cb w1 Rb.out lb).mono ?_
 rintro e w2 ⟨v, rfl, ho, hb⟩
 obtain ⟨yb, hyb⟩ : ∃ y, xb.take 20 = y := ⟨_, rfl⟩
 have lyb : yb.length ≤ 20 := by rw [← hyb, List.length_take]; omega
 rw [hyb] at ho
 obtain ⟨fb, gb, rfl, hlcb, hlmb, hr, _⟩ := ownL_row ho
 replace BX := Lib.hid (BX.out.below hb (Nat.le_refl _))
 replace BY := Lib.hid (BY.out.below hb (Nat.le_refl _))
 replace Fa := Lib.hid (Fa.out.below hb (Nat.le_refl _))
 replace HB := Lib.hid (HB.out.trans (hb.mono HB.out.size))
 have Fb := Lib.hid hr
 have HBb := Lib.hid hb.size
 have HLb := Lib.hid (And.intro hlcb hlmb)
 clear hb hr ho hyb Rb hlcb hlmb
 have HF2 := Lib.hid (show w0.heap.size ≤ w2.heap.size from Nat.le_trans HF1.out HBb.out)
 go_wp2_with fail
 have CN := lbNew ya fa ga w2 Fa.out (by omega)
 refine CN.mono ?_
 rintro e w3 ⟨rfl, hcel, hm, hb⟩
 replace BX := Lib.hid (BX.out.below hb (Nat.le_refl _))
 replace BY := Lib.hid (BY.out.below hb (Nat.le_refl _))
 replace Fa := Lib.hid (Fa.out.below hb (Nat.le_refl _))
 replace Fb := Lib.hid (Fb.out.below hb (Nat.le_refl _))
 replace HB := Lib.hid (HB.out.trans (hb.mono HB.out.size))
 obtain ⟨px, hpx⟩ : ∃ q, q = w2.heap.size := ⟨_, rfl⟩
 have Sx := Lib.hid (show SetN w3 px (addLs [] ya) from ⟨by rw [hpx]; exact hcel, by rw [hpx]; exact hm⟩)
 rw [← hpx]
 have HPx := Lib.hid hpx
 clear hb hm hcel hpx CN
 have lx := (addLs_len [] ya).2
 simp only [List.length_nil, Nat.zero_add] at lx
 have HM3 := Lib.hid Sx.out.lt
 have HW := Lib.hid (show w.heap.size + 2 ≤ px from by have := HGX.out; have := HS0.out; have := HPx.out; have := HF2.out; have := HGW.out; omega)
 have HPX := Lib.hid (show W0.heap.size ≤ px from by have := HS0.out; have := HPx.out; have := HF2.out; omega)
 go_wp2_with fail
 have CN := lbNew yb fb gb w3 Fb.out (by omega)
 refine CN.mono ?_
 rintro e w4 ⟨rfl, hcel, hm, hb⟩
 replace BX := Lib.hid (BX.out.below hb (Nat.le_refl _))
 replace BY := Lib.hid (BY.out.below hb (Nat.le_refl _))
 replace Fa := Lib.hid (Fa.out.below hb (Nat.le_refl _))
 replace Fb := Lib.hid (Fb.out.below hb (Nat.le_refl _))
 replace Sx := Lib.hid (Sx.out.below hb (Nat.le_refl _))
 replace HB := Lib.hid (HB.out.trans (hb.mono HB.out.size))
 obtain ⟨py, hpy⟩ : ∃ q, q = w3.heap.size := ⟨_, rfl⟩
 have Sy := Lib.hid (show SetN w4 py (addLs [] yb) from ⟨by rw [hpy]; exact hcel, by rw [hpy]; exact hm⟩)
 rw [← hpy]
 have HPy := Lib.hid hpy
 clear hb hm hcel hpy CN
 have ly := (addLs_len [] yb).2
 simp only [List.length_nil, Nat.zero_add] at ly
 have HN3 : Hid (px + 1 < w4.heap.size) := Lib.hid Sx.out.lt
 go_wp2_with fail
 refine (rbSet ya fa ga w4 Fa.out (by omega)).mono ?_
 rintro e w5 ⟨v, rfl, ho, hb⟩
 obtain ⟨ap, cp, rfl, hlc, hlm, hr, hbk⟩ := ownL_row ho
 replace BX := Lib.hid (BX.out.below hb (Nat.le_refl _))
 replace BY := Lib.hid (BY.out.below hb (Nat.le_refl _))
 replace Fa := Lib.hid (Fa.out.below hb (Nat.le_refl _))
 replace Fb := Lib.hid (Fb.out.below hb (Nat.le_refl _))
 replace Sx := Lib.hid (Sx.out.below hb (Nat.le_refl _))
 replace Sy := Lib.hid (Sy.out.below hb (Nat.le_refl _))
 replace HB := Lib.hid (HB.out.trans (hb.mono HB.out.size))
 have Pp := Lib.hid hr
 have Op := Lib.hid (show OwnL w4.heap.size w5 _ _ from ho)
 have HKp := Lib.hid hbk
 have HQp := Lib.hid (And.intro hlc hlm)
 clear hb hr ho hlc hlm hbk
 have HN5 : Hid (px + 1 < w5.heap.size) := Lib.hid Sx.out.lt
 go_wp2_with fail
 refine (rbSet yb fb gb w5 Fb.out (by omega)).mono ?_
 rintro e w6 ⟨v, rfl, ho, hb⟩
 obtain ⟨aq, cq, rfl, hlc, hlm, hr, hbk⟩ := ownL_row ho
 replace Op := Lib.hid (ownL_below Op.out hb)
 replace BX := Lib.hid (BX.out.below hb (Nat.le_refl _))
 replace BY := Lib.hid (BY.out.below hb (Nat.le_refl _))
 replace Fa := Lib.hid (Fa.out.below hb (Nat.le_refl _))
 replace Fb := Lib.hid (Fb.out.below hb (Nat.le_refl _))
 replace Sx := Lib.hid (Sx.out.below hb (Nat.le_refl _))
 replace Sy := Lib.hid (Sy.out.below hb (Nat.le_refl _))
 replace Pp := Lib.hid (Pp.out.below hb (Nat.le_refl _))
 replace HB := Lib.hid (HB.out.trans (hb.mono HB.out.size))
 have Pq := Lib.hid hr
 have Oq := Lib.hid (show OwnL w5.heap.size w6 _ _ from ho)
 have HKq := Lib.hid hbk
 have HQq := Lib.hid (And.intro hlc hlm)
 clear hb hr ho hlc hlm hbk
 have hlp := setL_len ya
 have hlq := setL_len yb
 have HLP := Lib.hid (And.intro hlp hlq)
 go_upto_block 0 with fail
 go_cut [14, 15] (fun mv bv wx => ∃ am cm ad cd, mv = .slice am (inF (setL yb) (setL ya)).length cm ∧ bv = .slice ad (outF (setL yb) (setL ya)).length cd ∧ RowL wx am (inF (setL yb) (setL ya)) ∧ RowL wx ad (outF (setL yb) (setL ya)) ∧ Below w6.heap.size w6 wx)
 case first =>
  have HO0 := Lib.hid (ownL_nil w6.heap.size w6)
  go_wp2_with fail
  go_loopw [14, 15, 40] (fun mv bv iv wr => ∃ k : Nat, k ≤ (setL ya).length ∧ iv = .int .i64 (k : Int) ∧ OwnL w6.heap.size wr mv (inF (setL yb) ((setL ya).take k)) ∧ OwnL w6.heap.size wr bv (outF (setL yb) ((setL ya).take k)) ∧ (∀ g, mv.ownBlock = some g → bv.ownBlock ≠ some g) ∧ Below w6.heap.size w6 wr) (fun _ _ iv _ => (setL ya).length - (intOf iv).toNat)
  case atStart => exact ⟨0, Nat.zero_le _, rfl, HO0.out, HO0.out, (fun g hg => by cases hg), Below.refl _ _⟩
  case round =>
   obtain ⟨k, hk, rfl, hm, hd, hne, hbw⟩ := hrel
   have HM := Lib.hid hm
   have HD := Lib.hid hd
   have HNE := Lib.hid hne
   have HBW := Lib.hid hbw
   clear hm hd hne hbw
   by_cases hlt : k < (setL ya).length
   ·obtain ⟨z, hz⟩ : ∃ z, (setL ya)[k]? = some z := ⟨(setL ya)[k], List.getElem?_eq_getElem hlt⟩
    have hi : (k : Int) < ((setL ya).length : Int) := by omega
    have hk0 : (0 : Int) ≤ (k : Int) := by omega
    have PR := (Pp.out.below HBW.out (Nat.le_refl _)) k z hz
    obtain ⟨zb, zo, hza, z0, z1⟩ := PR
    subst hza
    have HIN := Lib.hid (inF_next (q := setL yb) hz)
    have HOUT := Lib.hid (outF_next (q := setL yb) hz)
    have hlm : (inF (setL yb) ((setL ya).take k)).length ≤ 20 := by
     have h := List.length_filter_le (fun x => decide (0 ≤ findL (setL yb) x)) ((setL ya).take k)
     rw [List.length_take] at h
     unfold inF
     omega
    have hld : (outF (setL yb) ((setL ya).take k)).length ≤ 20 := by
     have h := List.length_filter_le (fun x => !decide (0 ≤ findL (setL yb) x)) ((setL ya).take k)
     rw [List.length_take] at h
     unfold outF
     omega
    obtain ⟨ff, hff⟩ : ∃ f, findL (setL yb) z = f := ⟨_, rfl⟩
    rw [hff] at HIN HOUT
    have HFF := Lib.hid hff
    have HLN := Lib.hid (And.intro hlm hld)
    clear hz hff hlm hld
    obtain ⟨V1, hV1⟩ : ∃ V, V = wr.alloc (.cells #[.bool z.1, .string z.2] 38) := ⟨_, rfl⟩
    have hbV : Below w6.heap.size w6 V1 := by rw [hV1]; exact HBW.out.alloc HBW.out.size _
    have hbV0 : Below wr.heap.size wr V1 := by rw [hV1]; exact (Below.refl _ _).alloc (Nat.le_refl _) _
    have hz1 : BoxL V1 wr.heap.size z := by rw [hV1]; exact alloc_at wr _
    have HBV := Lib.hid hbV
    have HBV0 := Lib.hid hbV0
    have HZ1 := Lib.hid hz1
    clear hbV hbV0 hz1
    obtain ⟨z2, z3⟩ := HZ1.out.cells
    rw [hV1] at z2 z3
    go_wp2_with fail
    rw [← hV1]
    clear z2 z3
    have CF := rbFind (setL yb) z aq cq V1 (Pq.out.below HBV.out (Nat.le_refl _)) (by omega)
    unfold lv at CF
    rw [HFF.out] at CF
    refine CF.mono ?_
    clear CF
    rintro e V2 ⟨rfl, hb2⟩
    have HB2 := Lib.hid (HBV.out.trans (hb2.mono HBV.out.size))
    have HB20 := Lib.hid (HBV0.out.trans (hb2.mono HBV0.out.size))
    have HZ2 := Lib.hid (HZ1.out.below hb2 (Nat.le_refl _))
    clear hb2 hV1
    obtain ⟨z2, z3⟩ := HZ2.out.cells
    obtain ⟨V3, hV3⟩ : ∃ V, V = V2.alloc (.cells #[.bool z.1, .string z.2] 38) := ⟨_, rfl⟩
    have hbV3 : Below wr.heap.size wr V3 := by rw [hV3]; exact HB20.out.alloc HB20.out.size _
    have hz3 : V3.heap[V2.heap.size]? = some (.cells #[.bool z.1, .string z.2] 38) := by rw [hV3]; exact alloc_at V2 _
    have hbV4 : Below w6.heap.size w6 V3 := by rw [hV3]; exact HB2.out.alloc HB2.out.size _
    by_cases hf : 0 ≤ ff
    ·have hf' : ¬ ff < 0 := by omega
     obtain ⟨v4, V4, hr4, ho4, hg4, hn4⟩ := run_append_L (ty := 22) (ys := [z]) (ownL_below HM.out hbV3) (row_lab hz3) (by have := HLN.out.1; simp only [List.length_cons, List.length_nil]; omega) hbV4.size
     have hd4 := World.ownsRow.kept (ownL_below HD.out hbV3) hg4 (by
      cases e : Value.ownBlock u15 with
      | none => exact .inl rfl
      | some b => exact .inr (fun e2 => HNE.out b e2.symm e))
     have HNE4 : Hid (∀ g, v4.ownBlock = some g → Value.ownBlock u15 ≠ some g) := by
      show ∀ g, _
      intro g hg e
      rcases hn4 g hg with h | h
      ·exact HNE.out g h e
      ·have := (World.ownsRow.lt HD.out g e).2
       have := hbV3.size
       omega
     have hb4 := hbV4.grown hg4 hbV4.size (fun b e => (World.ownsRow.lt HM.out b e).1)
     rw [if_pos hf] at HIN HOUT
     rw [List.append_nil] at HOUT
     rw [← HIN.out] at ho4
     rw [← HOUT.out] at hd4
     have HO4 := Lib.hid ho4
     have HD4 := Lib.hid hd4
     have HB4 := Lib.hid hb4
     have HR4 := Lib.hid hr4
     clear ho4 hd4 hb4 hg4 hn4 hbV3 hz3 hbV4 hr4
     go_wp2_with (at_builtin; rw [← hV3]; refine wpList_append_knownL (by rfl) _ _ _ rfl rfl rfl HR4.out ?_)
     go_wp2
     go_roundw
     case rel => exact ⟨k + 1, by omega, by go_num, HO4.out, HD4.out, HNE4.out, HB4.out⟩
     case measure => simp only [intOf]; omega
    ·have hf' : ff < 0 := by omega
     obtain ⟨v4, V4, hr4, ho4, hg4, hn4⟩ := run_append_L (ty := 22) (ys := [z]) (ownL_below HD.out hbV3) (row_lab hz3) (by have := HLN.out.2; simp only [List.length_cons, List.length_nil]; omega) hbV4.size
     have hd4 := World.ownsRow.kept (ownL_below HM.out hbV3) hg4 (by
      cases e : Value.ownBlock u14 with
      | none => exact .inl rfl
      | some b => exact .inr (fun e2 => HNE.out b e e2.symm))
     have HNE4 : Hid (∀ g, Value.ownBlock u14 = some g → v4.ownBlock ≠ some g) := by
      show ∀ g, _
      intro g e hg
      rcases hn4 g hg with h | h
      ·exact HNE.out g e h
      ·have := (World.ownsRow.lt HM.out g e).2
       have := hbV3.size
       omega
     have hb4 := hbV4.grown hg4 hbV4.size (fun b e => (World.ownsRow.lt HD.out b e).1)
     rw [if_neg hf] at HIN HOUT
     rw [List.append_nil] at HIN
     rw [← HOUT.out] at ho4
     rw [← HIN.out] at hd4
     have HO4 := Lib.hid ho4
     have HD4 := Lib.hid hd4
     have HB4 := Lib.hid hb4
     have HR4 := Lib.hid hr4
     clear ho4 hd4 hb4 hg4 hn4 hbV3 hz3 hbV4 hr4
     go_wp2_with (at_builtin; rw [← hV3]; refine wpList_append_knownL (by rfl) _ _ _ rfl rfl rfl HR4.out ?_)
     go_wp2
     go_roundw
     case rel => exact ⟨k + 1, by omega, by go_num, HD4.out, HO4.out, HNE4.out, HB4.out⟩
     case measure => simp only [intOf]; omega
   ·obtain rfl : k = (setL ya).length := by omega
    have hi : ¬ ((setL ya).length : Int) < ((setL ya).length : Int) := by omega
    rw [List.take_length] at HM HD
    obtain ⟨am, cm, e1, _, _, hr1, _⟩ := ownL_row HM.out
    obtain ⟨ad, cd, e2, _, _, hr2, _⟩ := ownL_row HD.out
    have HR1 := Lib.hid hr1
    have HR2 := Lib.hid hr2
    clear hr1 hr2 HM HD HNE
    subst e1
    subst e2
    go_wp2_with fail
    go_meet
    exact ⟨am, cm, ad, cd, rfl, rfl, HR1.out, HR2.out, HBW.out⟩
 case rest =>
  obtain ⟨am, cm, ad, cd, rfl, rfl, hrm, hrd, hb⟩ := hcut
  obtain ⟨W6, hW6⟩ : ∃ V, wc = V := ⟨_, rfl⟩
  rw [hW6] at hrm hrd hb ⊢
  have PM := Lib.hid hrm
  have PD := Lib.hid hrd
  clear hW6 hrm hrd
  have OB7 := Lib.hid hb.size
  replace Op := Lib.hid (ownL_below Op.out hb)
  replace Oq := Lib.hid (ownL_below Oq.out hb)
  replace BX := Lib.hid (BX.out.below hb (Nat.le_refl _))
  replace BY := Lib.hid (BY.out.below hb (Nat.le_refl _))
  replace Fa := Lib.hid (Fa.out.below hb (Nat.le_refl _))
  replace Fb := Lib.hid (Fb.out.below hb (Nat.le_refl _))
  replace Sx := Lib.hid (Sx.out.below hb (Nat.le_refl _))
  replace Sy := Lib.hid (Sy.out.below hb (Nat.le_refl _))
  replace Pp := Lib.hid (Pp.out.below hb (Nat.le_refl _))
  replace Pq := Lib.hid (Pq.out.below hb (Nat.le_refl _))
  replace HB := Lib.hid (HB.out.trans (hb.mono HB.out.size))
  clear hb
  go_wp2_with fail
  refine (lbUnion px py (addLs [] ya) (addLs [] yb) W6 Sx.out.set Sy.out.set (by omega) (by omega)).mono ?_
  rintro e w7 ⟨pu, rfl, _, hs, hb⟩
  replace Op := Lib.hid (ownL_below Op.out hb)
  replace Oq := Lib.hid (ownL_below Oq.out hb)
  replace BX := Lib.hid (BX.out.below hb (Nat.le_refl _))
  replace BY := Lib.hid (BY.out.below hb (Nat.le_refl _))
  replace Fa := Lib.hid (Fa.out.below hb (Nat.le_refl _))
  replace Fb := Lib.hid (Fb.out.below hb (Nat.le_refl _))
  replace Sx := Lib.hid (Sx.out.below hb (Nat.le_refl _))
  replace Sy := Lib.hid (Sy.out.below hb (Nat.le_refl _))
  replace Pp := Lib.hid (Pp.out.below hb (Nat.le_refl _))
  replace Pq := Lib.hid (Pq.out.below hb (Nat.le_refl _))
  replace PM := Lib.hid (PM.out.below hb (Nat.le_refl _))
  replace PD := Lib.hid (PD.out.below hb (Nat.le_refl _))
  replace HB := Lib.hid (HB.out.trans (hb.mono HB.out.size))
  have Su := Lib.hid (show SetM w7 pu (uniS (addLs [] ya) (addLs [] yb)) from hs)
  clear hs hb
  go_wp2_with fail
  refine (lbMeet px py (addLs [] ya) (addLs [] yb) w7 Sx.out.set Sy.out.set (by omega)).mono ?_
  rintro e w8 ⟨pm, rfl, _, hs, hb⟩
  replace Op := Lib.hid (ownL_below Op.out hb)
  replace Oq := Lib.hid (ownL_below Oq.out hb)
  replace BX := Lib.hid (BX.out.below hb (Nat.le_refl _))
  replace BY := Lib.hid (BY.out.below hb (Nat.le_refl _))
  replace Fa := Lib.hid (Fa.out.below hb (Nat.le_refl _))
  replace Fb := Lib.hid (Fb.out.below hb (Nat.le_refl _))
  replace Sx := Lib.hid (Sx.out.below hb (Nat.le_refl _))
  replace Sy := Lib.hid (Sy.out.below hb (Nat.le_refl _))
  replace Pp := Lib.hid (Pp.out.below hb (Nat.le_refl _))
  replace Pq := Lib.hid (Pq.out.below hb (Nat.le_refl _))
  replace PM := Lib.hid (PM.out.below hb (Nat.le_refl _))
  replace PD := Lib.hid (PD.out.below hb (Nat.le_refl _))
  replace Su := Lib.hid (Su.out.below hb (Nat.le_refl _))
  replace HB := Lib.hid (HB.out.trans (hb.mono HB.out.size))
  have Sm := Lib.hid (show SetM w8 pm (meetS (addLs [] ya) (addLs [] yb)) from hs)
  clear hs hb
  go_wp2_with fail
  refine (lbBut px py (addLs [] ya) (addLs [] yb) w8 Sx.out.set Sy.out.set (by omega)).mono ?_
  rintro e w9 ⟨pd, rfl, _, hs, hb⟩
  replace Op := Lib.hid (ownL_below Op.out hb)
  replace Oq := Lib.hid (ownL_below Oq.out hb)
  replace BX := Lib.hid (BX.out.below hb (Nat.le_refl _))
  replace BY := Lib.hid (BY.out.below hb (Nat.le_refl _))
  replace Fa := Lib.hid (Fa.out.below hb (Nat.le_refl _))
  replace Fb := Lib.hid (Fb.out.below hb (Nat.le_refl _))
  replace Sx := Lib.hid (Sx.out.below hb (Nat.le_refl _))
  replace Sy := Lib.hid (Sy.out.below hb (Nat.le_refl _))
  replace Pp := Lib.hid (Pp.out.below hb (Nat.le_refl _))
  replace Pq := Lib.hid (Pq.out.below hb (Nat.le_refl _))
  replace PM := Lib.hid (PM.out.below hb (Nat.le_refl _))
  replace PD := Lib.hid (PD.out.below hb (Nat.le_refl _))
  replace Su := Lib.hid (Su.out.below hb (Nat.le_refl _))
  replace Sm := Lib.hid (Sm.out.below hb (Nat.le_refl _))
  replace HB := Lib.hid (HB.out.trans (hb.mono HB.out.size))
  have Sd := Lib.hid (show SetM w9 pd (butS (addLs [] ya) (addLs [] yb)) from hs)
  clear hs hb
  have lu := uniS_len (addLs [] ya) (addLs [] yb)
  have lm : (meetS (addLs [] ya) (addLs [] yb)).length ≤ (addLs [] ya).length := those_len _ _ _
  have ld : (butS (addLs [] ya) (addLs [] yb)).length ≤ (addLs [] ya).length := those_len _ _ _
  go_wp2_with fail
  refine (lbAll px (addLs [] ya) w9 Sx.out.set (by omega)).mono ?_
  rintro e w10 ⟨a1, c1, rfl, hr, _, hb⟩
  replace Op := Lib.hid (ownL_below Op.out hb)
  replace Oq := Lib.hid (ownL_below Oq.out hb)
  replace BX := Lib.hid (BX.out.below hb (Nat.le_refl _))
  replace BY := Lib.hid (BY.out.below hb (Nat.le_refl _))
  replace Fa := Lib.hid (Fa.out.below hb (Nat.le_refl _))
  replace Fb := Lib.hid (Fb.out.below hb (Nat.le_refl _))
  replace Sx := Lib.hid (Sx.out.below hb (Nat.le_refl _))
  replace Sy := Lib.hid (Sy.out.below hb (Nat.le_refl _))
  replace Pp := Lib.hid (Pp.out.below hb (Nat.le_refl _))
  replace Pq := Lib.hid (Pq.out.below hb (Nat.le_refl _))
  replace PM := Lib.hid (PM.out.below hb (Nat.le_refl _))
  replace PD := Lib.hid (PD.out.below hb (Nat.le_refl _))
  replace Su := Lib.hid (Su.out.below hb (Nat.le_refl _))
  replace Sm := Lib.hid (Sm.out.below hb (Nat.le_refl _))
  replace Sd := Lib.hid (Sd.out.below hb (Nat.le_refl _))
  replace HB := Lib.hid (HB.out.trans (hb.mono HB.out.size))
  have R1 := Lib.hid hr
  have hlr1 : (slb (addLs [] ya)).length ≤ 40 := by rw [(slb_perm _).length_eq]; omega
  clear hr hb
  go_wp2_with fail
  have CE := rbEq (slb (addLs [] ya)) (setL ya) a1 ap c1 cp w10 R1.out Pp.out (by omega)
  rw [decide_eq_true (slb_addLs ya)] at CE
  refine CE.mono ?_
  clear CE
  rintro e w11 ⟨rfl, hb⟩
  replace Op := Lib.hid (ownL_below Op.out hb)
  replace Oq := Lib.hid (ownL_below Oq.out hb)
  replace BX := Lib.hid (BX.out.below hb (Nat.le_refl _))
  replace BY := Lib.hid (BY.out.below hb (Nat.le_refl _))
  replace Fa := Lib.hid (Fa.out.below hb (Nat.le_refl _))
  replace Fb := Lib.hid (Fb.out.below hb (Nat.le_refl _))
  replace Sx := Lib.hid (Sx.out.below hb (Nat.le_refl _))
  replace Sy := Lib.hid (Sy.out.below hb (Nat.le_refl _))
  replace Pp := Lib.hid (Pp.out.below hb (Nat.le_refl _))
  replace Pq := Lib.hid (Pq.out.below hb (Nat.le_refl _))
  replace PM := Lib.hid (PM.out.below hb (Nat.le_refl _))
  replace PD := Lib.hid (PD.out.below hb (Nat.le_refl _))
  replace Su := Lib.hid (Su.out.below hb (Nat.le_refl _))
  replace Sm := Lib.hid (Sm.out.below hb (Nat.le_refl _))
  replace Sd := Lib.hid (Sd.out.below hb (Nat.le_refl _))
  replace R1 := Lib.hid (R1.out.below hb (Nat.le_refl _))
  replace HB := Lib.hid (HB.out.trans (hb.mono HB.out.size))
  clear hb
  go_wp2_with fail
  refine (lbAll pu (uniS (addLs [] ya) (addLs [] yb)) w11 Su.out (by omega)).mono ?_
  rintro e w12 ⟨a2, c2, rfl, hr, _, hb⟩
  replace Op := Lib.hid (ownL_below Op.out hb)
  replace Oq := Lib.hid (ownL_below Oq.out hb)
  replace BX := Lib.hid (BX.out.below hb (Nat.le_refl _))
  replace BY := Lib.hid (BY.out.below hb (Nat.le_refl _))
  replace Fa := Lib.hid (Fa.out.below hb (Nat.le_refl _))
  replace Fb := Lib.hid (Fb.out.below hb (Nat.le_refl _))
  replace Sx := Lib.hid (Sx.out.below hb (Nat.le_refl _))
  replace Sy := Lib.hid (Sy.out.below hb (Nat.le_refl _))
  replace Pp := Lib.hid (Pp.out.below hb (Nat.le_refl _))
  replace Pq := Lib.hid (Pq.out.below hb (Nat.le_refl _))
  replace PM := Lib.hid (PM.out.below hb (Nat.le_refl _))
  replace PD := Lib.hid (PD.out.below hb (Nat.le_refl _))
  replace Su := Lib.hid (Su.out.below hb (Nat.le_refl _))
  replace Sm := Lib.hid (Sm.out.below hb (Nat.le_refl _))
  replace Sd := Lib.hid (Sd.out.below hb (Nat.le_refl _))
  replace HB := Lib.hid (HB.out.trans (hb.mono HB.out.size))
  have R2 := Lib.hid hr
  have hlr2 : (slb (uniS (addLs [] ya) (addLs [] yb))).length ≤ 40 := by rw [(slb_perm _).length_eq]; omega
  clear hr hb
  obtain ⟨v1, V1, hr1, ho1, hg1, _⟩ := run_append_L (ty := 22) (ys := ya) (ownL_nil w12.heap.size w12) (Fa.out.isRow HLa.out.1 HLa.out.2) (by simp only [List.length_nil]; omega) (Nat.le_refl _)
  have hb1 := below_grown0 (Below.refl w12.heap.size w12) hg1 (Nat.le_refl _)
  obtain ⟨v2, V2, hr2, ho2, hg2, _⟩ := run_append_L (ty := 22) (ys := yb) ho1 ((Fb.out.below hb1 (Nat.le_refl _)).isRow HLb.out.1 HLb.out.2) (by simp only [List.nil_append]; omega) hb1.size
  have hb := below_own hb1 hg2 hb1.size (fun k hk => (World.ownsRow.lt ho1 k hk).1)
  rw [List.nil_append] at ho2
  obtain ⟨yy, hyy⟩ : ∃ l, ya ++ yb = l := ⟨_, rfl⟩
  have hlyy : yy.length ≤ 40 := by rw [← hyy, List.length_append]; omega
  have HYY : Hid (slb (uniS (addLs [] ya) (addLs [] yb)) = setL yy) := by show _ = _; rw [← hyy]; exact la_union ya yb
  rw [hyy] at ho2
  clear hyy
  obtain ⟨ae, ce, rfl, _, _, hre, _⟩ := ownL_row ho2
  have HR1 := Lib.hid hr1
  have HR2 := Lib.hid hr2
  have RE := Lib.hid hre
  replace Op := Lib.hid (ownL_below Op.out hb)
  replace Oq := Lib.hid (ownL_below Oq.out hb)
  replace BX := Lib.hid (BX.out.below hb (Nat.le_refl _))
  replace BY := Lib.hid (BY.out.below hb (Nat.le_refl _))
  replace Fa := Lib.hid (Fa.out.below hb (Nat.le_refl _))
  replace Fb := Lib.hid (Fb.out.below hb (Nat.le_refl _))
  replace Sx := Lib.hid (Sx.out.below hb (Nat.le_refl _))
  replace Sy := Lib.hid (Sy.out.below hb (Nat.le_refl _))
  replace Pp := Lib.hid (Pp.out.below hb (Nat.le_refl _))
  replace Pq := Lib.hid (Pq.out.below hb (Nat.le_refl _))
  replace PM := Lib.hid (PM.out.below hb (Nat.le_refl _))
  replace PD := Lib.hid (PD.out.below hb (Nat.le_refl _))
  replace Su := Lib.hid (Su.out.below hb (Nat.le_refl _))
  replace Sm := Lib.hid (Sm.out.below hb (Nat.le_refl _))
  replace Sd := Lib.hid (Sd.out.below hb (Nat.le_refl _))
  replace R2 := Lib.hid (R2.out.below hb (Nat.le_refl _))
  replace HB := Lib.hid (HB.out.trans (hb.mono HB.out.size))
  clear hr1 hr2 hre ho1 ho2 hg1 hg2 hb1 hb
  go_wp2_with (at_builtin; (refine wpList_append_knownL (w := w12) ?_ _ _ 22 (by rfl) (by rfl) (by rfl) HR1.out ?_); (focus go_simp); (refine HoldG.out ?_))
  refine HoldG.mk ?_
  go_wp2_with (at_builtin; (refine wpList_append_knownL (w := V1) ?_ _ _ 22 (by rfl) (by rfl) (by rfl) HR2.out ?_); (focus go_simp); (refine HoldG.out ?_))
  refine HoldG.mk ?_
  go_wp2_with fail
  refine (rbSet yy ae ce V2 RE.out (by omega)).mono ?_
  rintro e w13 ⟨v, rfl, ho, hb⟩
  obtain ⟨as', cs', rfl, _, _, hrs, _⟩ := ownL_row ho
  replace Op := Lib.hid (ownL_below Op.out hb)
  replace Oq := Lib.hid (ownL_below Oq.out hb)
  replace BX := Lib.hid (BX.out.below hb (Nat.le_refl _))
  replace BY := Lib.hid (BY.out.below hb (Nat.le_refl _))
  replace Fa := Lib.hid (Fa.out.below hb (Nat.le_refl _))
  replace Fb := Lib.hid (Fb.out.below hb (Nat.le_refl _))
  replace Sx := Lib.hid (Sx.out.below hb (Nat.le_refl _))
  replace Sy := Lib.hid (Sy.out.below hb (Nat.le_refl _))
  replace Pp := Lib.hid (Pp.out.below hb (Nat.le_refl _))
  replace Pq := Lib.hid (Pq.out.below hb (Nat.le_refl _))
  replace PM := Lib.hid (PM.out.below hb (Nat.le_refl _))
  replace PD := Lib.hid (PD.out.below hb (Nat.le_refl _))
  replace Su := Lib.hid (Su.out.below hb (Nat.le_refl _))
  replace Sm := Lib.hid (Sm.out.below hb (Nat.le_refl _))
  replace Sd := Lib.hid (Sd.out.below hb (Nat.le_refl _))
  replace R2 := Lib.hid (R2.out.below hb (Nat.le_refl _))
  replace RE := Lib.hid (RE.out.below hb (Nat.le_refl _))
  replace HB := Lib.hid (HB.out.trans (hb.mono HB.out.size))
  have RS := Lib.hid hrs
  clear hb ho hrs
  go_wp2_with fail
  have CE := rbEq (slb (uniS (addLs [] ya) (addLs [] yb))) (setL yy) a2 as' c2 cs' w13 R2.out RS.out (by omega)
  rw [decide_eq_true HYY.out] at CE
  refine CE.mono ?_
  clear CE
  rintro e w14 ⟨rfl, hb⟩
  replace Op := Lib.hid (ownL_below Op.out hb)
  replace Oq := Lib.hid (ownL_below Oq.out hb)
  replace BX := Lib.hid (BX.out.below hb (Nat.le_refl _))
  replace BY := Lib.hid (BY.out.below hb (Nat.le_refl _))
  replace Fa := Lib.hid (Fa.out.below hb (Nat.le_refl _))
  replace Fb := Lib.hid (Fb.out.below hb (Nat.le_refl _))
  replace Sx := Lib.hid (Sx.out.below hb (Nat.le_refl _))
  replace Sy := Lib.hid (Sy.out.below hb (Nat.le_refl _))
  replace Pp := Lib.hid (Pp.out.below hb (Nat.le_refl _))
  replace Pq := Lib.hid (Pq.out.below hb (Nat.le_refl _))
  replace PM := Lib.hid (PM.out.below hb (Nat.le_refl _))
  replace PD := Lib.hid (PD.out.below hb (Nat.le_refl _))
  replace Su := Lib.hid (Su.out.below hb (Nat.le_refl _))
  replace Sm := Lib.hid (Sm.out.below hb (Nat.le_refl _))
  replace Sd := Lib.hid (Sd.out.below hb (Nat.le_refl _))
  replace R2 := Lib.hid (R2.out.below hb (Nat.le_refl _))
  replace RE := Lib.hid (RE.out.below hb (Nat.le_refl _))
  replace RS := Lib.hid (RS.out.below hb (Nat.le_refl _))
  replace HB := Lib.hid (HB.out.trans (hb.mono HB.out.size))
  clear hb
  go_wp2_with fail
  refine (lbAll pm (meetS (addLs [] ya) (addLs [] yb)) w14 Sm.out (by omega)).mono ?_
  rintro e w15 ⟨a3, c3, rfl, hr, _, hb⟩
  replace Op := Lib.hid (ownL_below Op.out hb)
  replace Oq := Lib.hid (ownL_below Oq.out hb)
  replace BX := Lib.hid (BX.out.below hb (Nat.le_refl _))
  replace BY := Lib.hid (BY.out.below hb (Nat.le_refl _))
  replace Fa := Lib.hid (Fa.out.below hb (Nat.le_refl _))
  replace Fb := Lib.hid (Fb.out.below hb (Nat.le_refl _))
  replace Sx := Lib.hid (Sx.out.below hb (Nat.le_refl _))
  replace Sy := Lib.hid (Sy.out.below hb (Nat.le_refl _))
  replace Pp := Lib.hid (Pp.out.below hb (Nat.le_refl _))
  replace Pq := Lib.hid (Pq.out.below hb (Nat.le_refl _))
  replace PM := Lib.hid (PM.out.below hb (Nat.le_refl _))
  replace PD := Lib.hid (PD.out.below hb (Nat.le_refl _))
  replace Su := Lib.hid (Su.out.below hb (Nat.le_refl _))
  replace Sm := Lib.hid (Sm.out.below hb (Nat.le_refl _))
  replace Sd := Lib.hid (Sd.out.below hb (Nat.le_refl _))
  replace HB := Lib.hid (HB.out.trans (hb.mono HB.out.size))
  have R3 := Lib.hid hr
  have hlr3 : (slb (meetS (addLs [] ya) (addLs [] yb))).length ≤ 40 := by rw [(slb_perm _).length_eq]; omega
  clear hr hb
  go_wp2_with fail
  have CE := rbEq (slb (meetS (addLs [] ya) (addLs [] yb))) (inF (setL yb) (setL ya)) a3 am c3 cm w15 R3.out PM.out (by omega)
  rw [decide_eq_true (la_meet ya yb)] at CE
  refine CE.mono ?_
  clear CE
  rintro e w16 ⟨rfl, hb⟩
  replace Op := Lib.hid (ownL_below Op.out hb)
  replace Oq := Lib.hid (ownL_below Oq.out hb)
  replace BX := Lib.hid (BX.out.below hb (Nat.le_refl _))
  replace BY := Lib.hid (BY.out.below hb (Nat.le_refl _))
  replace Fa := Lib.hid (Fa.out.below hb (Nat.le_refl _))
  replace Fb := Lib.hid (Fb.out.below hb (Nat.le_refl _))
  replace Sx := Lib.hid (Sx.out.below hb (Nat.le_refl _))
  replace Sy := Lib.hid (Sy.out.below hb (Nat.le_refl _))
  replace Pp := Lib.hid (Pp.out.below hb (Nat.le_refl _))
  replace Pq := Lib.hid (Pq.out.below hb (Nat.le_refl _))
  replace PM := Lib.hid (PM.out.below hb (Nat.le_refl _))
  replace PD := Lib.hid (PD.out.below hb (Nat.le_refl _))
  replace Su := Lib.hid (Su.out.below hb (Nat.le_refl _))
  replace Sm := Lib.hid (Sm.out.below hb (Nat.le_refl _))
  replace Sd := Lib.hid (Sd.out.below hb (Nat.le_refl _))
  replace R3 := Lib.hid (R3.out.below hb (Nat.le_refl _))
  replace HB := Lib.hid (HB.out.trans (hb.mono HB.out.size))
  clear hb
  go_wp2_with fail
  refine (lbAll pd (butS (addLs [] ya) (addLs [] yb)) w16 Sd.out (by omega)).mono ?_
  rintro e w17 ⟨a4, c4, rfl, hr, _, hb⟩
  replace Op := Lib.hid (ownL_below Op.out hb)
  replace Oq := Lib.hid (ownL_below Oq.out hb)
  replace BX := Lib.hid (BX.out.below hb (Nat.le_refl _))
  replace BY := Lib.hid (BY.out.below hb (Nat.le_refl _))
  replace Fa := Lib.hid (Fa.out.below hb (Nat.le_refl _))
  replace Fb := Lib.hid (Fb.out.below hb (Nat.le_refl _))
  replace Sx := Lib.hid (Sx.out.below hb (Nat.le_refl _))
  replace Sy := Lib.hid (Sy.out.below hb (Nat.le_refl _))
  replace Pp := Lib.hid (Pp.out.below hb (Nat.le_refl _))
  replace Pq := Lib.hid (Pq.out.below hb (Nat.le_refl _))
  replace PM := Lib.hid (PM.out.below hb (Nat.le_refl _))
  replace PD := Lib.hid (PD.out.below hb (Nat.le_refl _))
  replace Su := Lib.hid (Su.out.below hb (Nat.le_refl _))
  replace Sm := Lib.hid (Sm.out.below hb (Nat.le_refl _))
  replace Sd := Lib.hid (Sd.out.below hb (Nat.le_refl _))
  replace HB := Lib.hid (HB.out.trans (hb.mono HB.out.size))
  have R4 := Lib.hid hr
  have hlr4 : (slb (butS (addLs [] ya) (addLs [] yb))).length ≤ 40 := by rw [(slb_perm _).length_eq]; omega
  clear hr hb
  go_wp2_with fail
  have CE := rbEq (slb (butS (addLs [] ya) (addLs [] yb))) (outF (setL yb) (setL ya)) a4 ad c4 cd w17 R4.out PD.out (by omega)
  rw [decide_eq_true (la_but ya yb)] at CE
  refine CE.mono ?_
  clear CE
  rintro e w18 ⟨rfl, hb⟩
  replace Op := Lib.hid (ownL_below Op.out hb)
  replace Oq := Lib.hid (ownL_below Oq.out hb)
  replace BX := Lib.hid (BX.out.below hb (Nat.le_refl _))
  replace BY := Lib.hid (BY.out.below hb (Nat.le_refl _))
  replace Fa := Lib.hid (Fa.out.below hb (Nat.le_refl _))
  replace Fb := Lib.hid (Fb.out.below hb (Nat.le_refl _))
  replace Sx := Lib.hid (Sx.out.below hb (Nat.le_refl _))
  replace Sy := Lib.hid (Sy.out.below hb (Nat.le_refl _))
  replace Pp := Lib.hid (Pp.out.below hb (Nat.le_refl _))
  replace Pq := Lib.hid (Pq.out.below hb (Nat.le_refl _))
  replace PM := Lib.hid (PM.out.below hb (Nat.le_refl _))
  replace PD := Lib.hid (PD.out.below hb (Nat.le_refl _))
  replace Su := Lib.hid (Su.out.below hb (Nat.le_refl _))
  replace Sm := Lib.hid (Sm.out.below hb (Nat.le_refl _))
  replace Sd := Lib.hid (Sd.out.below hb (Nat.le_refl _))
  replace R4 := Lib.hid (R4.out.below hb (Nat.le_refl _))
  replace HB := Lib.hid (HB.out.trans (hb.mono HB.out.size))
  clear hb
  clear Su Sm Sd PM PD lu lm ld Fa Fb HLa HLb Pp
  obtain ⟨x0, x1⟩ := BX.out.cells
  obtain ⟨y0, y1⟩ := BY.out.cells
  obtain ⟨W8, hW8⟩ : ∃ V, V = w18.alloc (.cells #[.bool x.1, .string x.2, .bool y.1, .string y.2, .bool x.1, .string x.2] 38) := ⟨_, rfl⟩
  have hb : Below w18.heap.size w18 W8 := by rw [hW8]; exact (Below.refl _ _).alloc (Nat.le_refl _) _
  have hc8 : W8.heap[w18.heap.size]? = some (.cells #[.bool x.1, .string x.2, .bool y.1, .string y.2, .bool x.1, .string x.2] 38) := by rw [hW8]; exact alloc_at _ _
  have hr8 : RowL W8 (some { block := w18.heap.size, off := 0 }) [x, y, x] := by
   intro i z hz
   match i, hz with
   | 0, hz => cases hz; exact ⟨_, _, rfl, by simp [World.cell?, hc8], by simp [World.cell?, hc8]⟩
   | 1, hz => cases hz; exact ⟨_, _, rfl, by simp [World.cell?, hc8], by simp [World.cell?, hc8]⟩
   | 2, hz => cases hz; exact ⟨_, _, rfl, by simp [World.cell?, hc8], by simp [World.cell?, hc8]⟩
  go_wp2_with fail
  rw [← hW8]
  have hlx := Sx.out.lt
  replace Op := Lib.hid (ownL_below Op.out hb)
  replace Oq := Lib.hid (ownL_below Oq.out hb)
  replace BX := Lib.hid (BX.out.below hb (Nat.le_refl _))
  replace BY := Lib.hid (BY.out.below hb (Nat.le_refl _))
  replace Sx := Lib.hid (Sx.out.below hb (Nat.le_refl _))
  replace Sy := Lib.hid (Sy.out.below hb (Nat.le_refl _))
  replace Pq := Lib.hid (Pq.out.below hb (Nat.le_refl _))
  replace HB := Lib.hid (HB.out.trans (hb.mono HB.out.size))
  have CA := (lbAdd px (px + 1) (addLs [] ya) [x, y, x] (some { block := w18.heap.size, off := 0 }) 3 W8 Sx.out.1 (by omega) Sx.out.2 hr8 (fun _ b e => by cases e; simp only; omega) (by simp only [List.length_cons, List.length_nil]; omega))
  rw [la_len (la_add ya x y), la_len (slb_addLs ya)] at CA
  have HCA := Lib.hid CA
  clear hb hc8 hr8 hW8 x0 x1 y0 y1 CA
  refine HCA.out.mono ?_
  rintro e w30 ⟨rfl, hc9, hm9, hk9⟩
  have hg := hk9.grown (Nat.le_refl _)
  have hpxy : px + 1 < py := by have := HN3.out; have := HPy.out; have := HM3.out; omega
  have hgxx : gx + 2 ≤ px := by have := HGX.out; have := HPX.out; omega
  replace BX := Lib.hid (BX.out.grown hg (by omega))
  replace BY := Lib.hid (BY.out.grown hg (by omega))
  replace Sy := Lib.hid (Sy.out.grown hg (by omega) (by omega))
  replace Op := Lib.hid (ownL_grown Op.out hg HN3.out)
  replace Pq := Lib.hid (Pq.out.grown hg (fun b e => by have := (HKq.out b e).1; have := HN5.out; omega))
  have hs9 : SetM w30 px (addLs (addLs [] ya) [x, y, x]) := ⟨px + 1, hc9, by omega, hm9⟩
  replace HB := Lib.hid (show Below w.heap.size w w30 from ⟨hk9.os.trans HB.out.os, hk9.tape.trans HB.out.tape, hk9.output.trans HB.out.output, Nat.le_trans HB.out.size hk9.size, fun k hk => by
   rw [hk9.block k (Nat.lt_of_lt_of_le hk HB.out.size) (by have := HB.out.size; omega) (by have := HW.out; omega)]
   exact HB.out.block k hk⟩)
  replace Sx := Lib.hid hs9
  clear hc9 hm9 hk9 hg hs9 HCA hlx
  have hlt := Sx.out.lt
  have HPXW : Hid (px ≤ w30.heap.size) := Lib.hid (Nat.le_of_lt hlt)
  have hop : OwnL px w30 (.slice ap (setL ya).length cp) (setL ya) := own_lower Op.out (by have := HN3.out; omega)
  have OP := Lib.hid hop
  clear hlt hop
  go_wp2_with fail
  refine wp_region_held_drew (S := fun V => Below w30.heap.size w30 V) (by kernel_rfl) ?_ (fun hHeld => ?_)
  ·exact below_drewN (Below.refl _ _) _
  refine wpAnyH_take (i := 0) (oi := _) (v := ?_) (by simp only [List.getElem?_toArray, List.getElem?_cons_zero]; rfl) (by kernel_rfl) (by kernel_rfl) (by kernel_rfl) (by exact fun _ _ _ h => h) (Or.inl ⟨by rfl, ?_⟩) (by assumption) ?_
  rotate_left
  ·intro w hSw; go_simp; try with_reducible rfl
  try simp only [Act.put, List.setIfInBounds_toArray, List.set_cons_zero, List.set_cons_succ]
  refine wpAnyH_take (i := 1) (oi := _) (v := ?_) (by simp only [List.getElem?_toArray, List.getElem?_cons_succ, List.getElem?_cons_zero]; rfl) (by kernel_rfl) (by kernel_rfl) (by kernel_rfl) (by exact fun _ _ _ h => h) (Or.inl ⟨by rfl, ?_⟩) (by assumption) ?_
  rotate_left
  ·intro w hSw; obtain ⟨c0, c1⟩ := (BX.out.below hSw (Nat.le_refl _)).cells; go_simp; try with_reducible rfl
  try simp only [Act.put, List.setIfInBounds_toArray, List.set_cons_zero, List.set_cons_succ]
  refine wpAnyH_take (i := 3) (oi := _) (v := ?_) (by simp only [List.getElem?_toArray, List.getElem?_cons_succ, List.getElem?_cons_zero]; rfl) (by kernel_rfl) (by kernel_rfl) (by kernel_rfl) (by exact fun _ _ _ h => h) (Or.inl ⟨by rfl, ?_⟩) (by assumption) ?_
  rotate_left
  ·intro w hSw; obtain ⟨c0, c1⟩ := (BY.out.below hSw (Nat.le_refl _)).cells; go_simp; try with_reducible rfl
  try simp only [Act.put, List.setIfInBounds_toArray, List.set_cons_zero, List.set_cons_succ]
  refine wpAnyH_ready (rs := [2]) (by kernel_rfl) (by simp) ?_
  refine AllReadyH.cons (o := _) (by simp only [List.getElem?_toArray, List.getElem?_cons_succ, List.getElem?_cons_zero]; rfl) (fun K hK => ?_) ?_
  ·go_simp; have CE := rbAdd (setL ya) x (.slice ap (setL ya).length cp) px _ (ownL_below OP.out hHeld) (Nat.le_trans HPXW.out hHeld.size) (by omega); unfold lv at CE; refine CE.mono ?_; clear CE; rintro e' V1 ⟨v1, rfl, ho1, hb1⟩; dsimp only
   refine hK.out _ _ ?_ (fun hHeld => ?_)
   ·try dsimp only
    exact hHeld.trans (hb1.mono hHeld.size)
   clear hK K
   try simp only [Act.put, List.setIfInBounds_toArray, List.set_cons_zero, List.set_cons_succ]
   refine wpAnyH_ready (rs := [4]) (by kernel_rfl) (by simp) ?_
   refine AllReadyH.cons (o := _) (by simp only [List.getElem?_toArray, List.getElem?_cons_succ, List.getElem?_cons_zero]; rfl) (fun K hK => ?_) ?_
   ·go_simp; have CE := rbAdd (insL x (setL ya)) y v1 px _ ho1 (Nat.le_trans HPXW.out hHeld.size) (by have := insL_len x (setL ya); omega); unfold lv at CE; refine CE.mono ?_; clear CE; rintro e' V2 ⟨v2, rfl, ho2, hb2⟩; obtain ⟨aw, cw, rfl, _, _, hrw, _⟩ := ownL_row ho2; dsimp only
    refine hK.out _ _ ?_ (fun hHeld => ?_)
    ·try dsimp only
     exact hHeld.trans (hb2.mono hHeld.size)
    clear hK K
    try simp only [Act.put, List.setIfInBounds_toArray, List.set_cons_zero, List.set_cons_succ]
    refine wpAnyH_take (i := 5) (oi := _) (v := ?_) (by simp only [List.getElem?_toArray, List.getElem?_cons_succ, List.getElem?_cons_zero]; rfl) (by kernel_rfl) (by kernel_rfl) (by kernel_rfl) (by exact fun _ _ _ h => h) (Or.inl ⟨by rfl, ?_⟩) (by assumption) ?_
    rotate_left
    ·intro w hSw; go_simp; try with_reducible rfl
    try simp only [Act.put, List.setIfInBounds_toArray, List.set_cons_zero, List.set_cons_succ]
    refine wpAnyH_done (by kernel_rfl) ?_ _
    have hb := hHeld
    replace BX := Lib.hid (BX.out.below hb (Nat.le_refl _))
    replace BY := Lib.hid (BY.out.below hb (Nat.le_refl _))
    replace Sx := Lib.hid (Sx.out.below hb (Nat.le_refl _))
    replace Sy := Lib.hid (Sy.out.below hb (Nat.le_refl _))
    replace Pq := Lib.hid (Pq.out.below hb (Nat.le_refl _))
    replace HB := Lib.hid (HB.out.trans (hb.mono HB.out.size))
    have RW := Lib.hid hrw
    have sx : SetM V2 px (addLs (addLs [] ya) [x, y, x]) := Sx.out
    have sy : SetM V2 py (addLs [] yb) := Sy.out.set
    obtain ⟨S1, hS1⟩ : ∃ l, addLs (addLs [] ya) [x, y, x] = l := ⟨_, rfl⟩
    obtain ⟨T1, hT1⟩ : ∃ l, addLs [] yb = l := ⟨_, rfl⟩
    obtain ⟨Z1, hZ1⟩ : ∃ l, insL y (insL x (setL ya)) = l := ⟨_, rfl⟩
    obtain ⟨Q1, hQ1⟩ : ∃ l, setL yb = l := ⟨_, rfl⟩
    have e1 : slb S1 = Z1 := by rw [← hS1, ← hZ1]; exact la_add ya x y
    have e2 : slb T1 = Q1 := by rw [← hT1, ← hQ1]; exact slb_addLs yb
    have n1 : S1.Nodup := by rw [← hS1]; exact nodup_addLs (nodup_addLs List.nodup_nil)
    have n2 : T1.Nodup := by rw [← hT1]; exact nodup_addLs List.nodup_nil
    have h1 := la_eq n1 n2 e1 e2
    obtain ⟨t1, ht1⟩ : ∃ t, eqLs S1 T1 = t := ⟨_, rfl⟩
    obtain ⟨t2, ht2⟩ : ∃ t, hasL x T1 = t := ⟨_, rfl⟩
    obtain ⟨t3, ht3⟩ : ∃ t, ltL x y = t := ⟨_, rfl⟩
    obtain ⟨ff, hff⟩ : ∃ f, findL Q1 x = f := ⟨_, rfl⟩
    have h2 := la_has (x := x) e2
    rw [ht1] at h1
    rw [ht2, hff] at h2
    have h3 : hasL x S1 = true := hasL_iff.2 (by rw [← hS1]; exact mem_addLs.2 (.inr (by simp)))
    have hl1 : S1.length = Z1.length := la_len e1
    have hz1 : Z1.length ≤ 40 := by rw [← hZ1]; have := insL_len y (insL x (setL ya)); have := insL_len x (setL ya); omega
    have hq1 : Q1.length ≤ 20 := by rw [← hQ1]; omega
    rw [hZ1] at hrw
    rw [hZ1]
    rw [hQ1] at Pq ⊢
    rw [hS1] at sx
    rw [hT1] at sy
    replace RW := Lib.hid hrw
    obtain ⟨m1, hm1⟩ : ∃ m, Z1.length = m := ⟨_, rfl⟩
    obtain ⟨m0, hm0⟩ : ∃ m, (setL ya).length = m := ⟨_, rfl⟩
    have hwr : IntKind.i64.wrap ((m1 : Int) - (m0 : Int)) = (m1 : Int) - (m0 : Int) := by rw [IntKind.wrap_i64]; omega
    have SX := Lib.hid sx
    have SY := Lib.hid sy
    have H1 := Lib.hid (And.intro ht1 (And.intro h1.symm (And.intro ht2 (And.intro h2.symm (And.intro ht3 (And.intro hff (And.intro h3 (And.intro hl1 (And.intro hm1 hm0)))))))))
    have HLZ := Lib.hid (And.intro hz1 hq1)
    have HWR := Lib.hid hwr
    rw [hm1, hm0]
    clear hb hrw sx sy hS1 hT1 hZ1 hQ1 e1 e2 n1 n2 h1 ht1 ht2 ht3 hff h2 h3 hl1 hz1 hq1 hm1 hm0 hwr ho2 hb2 hHeld ho1 hb1 lx ly hlp hlq
    go_wp2_with fail
    refine wp_region_held_drew (S := fun V => Below V2.heap.size V2 V) (by kernel_rfl) ?_ (fun hHeld => ?_)
    ·exact below_drewN (Below.refl _ _) _
    refine wpAnyH_take (i := 0) (oi := _) (v := ?_) (by simp only [List.getElem?_toArray]; rfl) (by kernel_rfl) (by kernel_rfl) (by kernel_rfl) (by exact fun _ _ _ h => h) (Or.inl ⟨by rfl, ?_⟩) (by assumption) ?_
    rotate_left
    ·intro w hSw; go_simp; try with_reducible rfl
    try simp only [Act.put, List.setIfInBounds_toArray, List.set_cons_zero, List.set_cons_succ]
    refine wpAnyH_take (i := 1) (oi := _) (v := ?_) (by simp only [List.getElem?_toArray]; rfl) (by kernel_rfl) (by kernel_rfl) (by kernel_rfl) (by exact fun _ _ _ h => h) (Or.inl ⟨by rfl, ?_⟩) (by assumption) ?_
    rotate_left
    ·intro w hSw; go_simp; try with_reducible rfl
    try simp only [Act.put, List.setIfInBounds_toArray, List.set_cons_zero, List.set_cons_succ]
    refine wpAnyH_take (i := 3) (oi := _) (v := ?_) (by simp only [List.getElem?_toArray]; rfl) (by kernel_rfl) (by kernel_rfl) (by kernel_rfl) (by exact fun _ _ _ h => h) (Or.inl ⟨by rfl, ?_⟩) (by assumption) ?_
    rotate_left
    ·intro w hSw; go_simp; try with_reducible rfl
    try simp only [Act.put, List.setIfInBounds_toArray, List.set_cons_zero, List.set_cons_succ]
    refine wpAnyH_take (i := 4) (oi := _) (v := ?_) (by simp only [List.getElem?_toArray]; rfl) (by kernel_rfl) (by kernel_rfl) (by kernel_rfl) (by exact fun _ _ _ h => h) (Or.inl ⟨by rfl, ?_⟩) (by assumption) ?_
    rotate_left
    ·intro w hSw; go_simp; try with_reducible rfl
    try simp only [Act.put, List.setIfInBounds_toArray, List.set_cons_zero, List.set_cons_succ]
    refine wpAnyH_ready (rs := [2]) (by kernel_rfl) (by simp) ?_
    refine AllReadyH.cons (o := _) (by simp only [List.getElem?_toArray]; rfl) (fun K hK => ?_) ?_
    ·go_simp; have CE := lbEq px py S1 T1 _ (SX.out.below hHeld (Nat.le_refl _)) (SY.out.below hHeld (Nat.le_refl _)) (by have := HLZ.out; have := H1.out.2.2.2.2.2.2.2.1; omega); rw [H1.out.1] at CE; refine CE.mono ?_; clear CE; rintro e' V3 ⟨rfl, hb2⟩; dsimp only
     refine hK.out _ _ ?_ (fun hHeld => ?_)
     ·try dsimp only
      exact hHeld.trans (hb2.mono hHeld.size)
     clear hK K
     try simp only [Act.put, List.setIfInBounds_toArray, List.set_cons_zero, List.set_cons_succ]
     refine wpAnyH_ready (rs := [5]) (by kernel_rfl) (by simp) ?_
     refine AllReadyH.cons (o := _) (by simp only [List.getElem?_toArray]; rfl) (fun K hK => ?_) ?_
     ·go_simp; have CE := rbEq Z1 Q1 aw aq cw cq _ (RW.out.below hHeld (Nat.le_refl _)) (Pq.out.below hHeld (Nat.le_refl _)) (by have := HLZ.out; omega); rw [H1.out.2.2.2.2.2.2.2.2.1] at CE; rw [H1.out.2.1] at CE; refine CE.mono ?_; clear CE; rintro e' V4 ⟨rfl, hb5⟩; dsimp only
      refine hK.out _ _ ?_ (fun hHeld => ?_)
      ·try dsimp only
       exact hHeld.trans (hb5.mono hHeld.size)
      clear hK K
      try simp only [Act.put, List.setIfInBounds_toArray, List.set_cons_zero, List.set_cons_succ]
      refine wpAnyH_take (i := 6) (oi := _) (v := .bool true) (by simp only [List.getElem?_toArray]; rfl) (by kernel_rfl) (by kernel_rfl) (by kernel_rfl) (by exact fun _ _ _ h => h) (Or.inl ⟨by rfl, ?_⟩) (by assumption) ?_
      ·intro w hSw; go_simp; try (first | rfl | simp)
      try simp only [Act.put, List.setIfInBounds_toArray, List.set_cons_zero, List.set_cons_succ]
      refine wpAnyH_take (i := 7) (oi := _) (v := ?_) (by simp only [List.getElem?_toArray]; rfl) (by kernel_rfl) (by kernel_rfl) (by kernel_rfl) (by exact fun _ _ _ h => h) (Or.inl ⟨by rfl, ?_⟩) (by assumption) ?_
      rotate_left
      ·intro w hSw; go_simp; try with_reducible rfl
      try simp only [Act.put, List.setIfInBounds_toArray, List.set_cons_zero, List.set_cons_succ]
      refine wpAnyH_take (i := 8) (oi := _) (v := ?_) (by simp only [List.getElem?_toArray]; rfl) (by kernel_rfl) (by kernel_rfl) (by kernel_rfl) (by exact fun _ _ _ h => h) (Or.inl ⟨by rfl, ?_⟩) (by assumption) ?_
      rotate_left
      ·intro w hSw; go_simp; try with_reducible rfl
      try simp only [Act.put, List.setIfInBounds_toArray, List.set_cons_zero, List.set_cons_succ]
      refine wpAnyH_take (i := 9) (oi := _) (v := ?_) (by simp only [List.getElem?_toArray]; rfl) (by kernel_rfl) (by kernel_rfl) (by kernel_rfl) (by exact fun _ _ _ h => h) (Or.inl ⟨by rfl, ?_⟩) (by assumption) ?_
      rotate_left
      ·intro w hSw; go_simp; try with_reducible rfl
      try simp only [Act.put, List.setIfInBounds_toArray, List.set_cons_zero, List.set_cons_succ]
      refine wpAnyH_take (i := 10) (oi := _) (v := ?_) (by simp only [List.getElem?_toArray]; rfl) (by kernel_rfl) (by kernel_rfl) (by kernel_rfl) (by exact fun _ _ _ h => h) (Or.inl ⟨by rfl, ?_⟩) (by assumption) ?_
      rotate_left
      ·intro w hSw; go_simp; try with_reducible rfl
      try simp only [Act.put, List.setIfInBounds_toArray, List.set_cons_zero, List.set_cons_succ]
      refine wpAnyH_take (i := 11) (oi := _) (v := ?_) (by simp only [List.getElem?_toArray]; rfl) (by kernel_rfl) (by kernel_rfl) (by kernel_rfl) (by exact fun _ _ _ h => h) (Or.inl ⟨by rfl, ?_⟩) (by assumption) ?_
      rotate_left
      ·intro w hSw; go_simp; try with_reducible rfl
      try simp only [Act.put, List.setIfInBounds_toArray, List.set_cons_zero, List.set_cons_succ]
      refine wpAnyH_take (i := 12) (oi := _) (v := ?_) (by simp only [List.getElem?_toArray]; rfl) (by kernel_rfl) (by kernel_rfl) (by kernel_rfl) (by exact fun _ _ _ h => h) (Or.inl ⟨by rfl, ?_⟩) (by assumption) ?_
      rotate_left
      ·intro w hSw; go_simp; try with_reducible rfl
      try simp only [Act.put, List.setIfInBounds_toArray, List.set_cons_zero, List.set_cons_succ]
      refine wpAnyH_take (i := 13) (oi := _) (v := .int .i64 ((m1 : Int) - (m0 : Int))) (by simp only [List.getElem?_toArray]; rfl) (by kernel_rfl) (by kernel_rfl) (by kernel_rfl) (by exact fun _ _ _ h => h) (Or.inl ⟨by rfl, ?_⟩) (by assumption) ?_
      ·intro w hSw; go_simp; try (first | rfl | exact HWR.out | rw [HWR.out])
      try simp only [Act.put, List.setIfInBounds_toArray, List.set_cons_zero, List.set_cons_succ]
      refine wpAnyH_take (i := 14) (oi := _) (v := .bool true) (by simp only [List.getElem?_toArray]; rfl) (by kernel_rfl) (by kernel_rfl) (by kernel_rfl) (by exact fun _ _ _ h => h) (Or.inl ⟨by rfl, ?_⟩) (by assumption) ?_
      ·intro w hSw; go_simp; try (first | rfl | simp)
      try simp only [Act.put, List.setIfInBounds_toArray, List.set_cons_zero, List.set_cons_succ]
      refine wpAnyH_take (i := 15) (oi := _) (v := ?_) (by simp only [List.getElem?_toArray]; rfl) (by kernel_rfl) (by kernel_rfl) (by kernel_rfl) (by exact fun _ _ _ h => h) (Or.inl ⟨by rfl, ?_⟩) (by assumption) ?_
      rotate_left
      ·intro w hSw; go_simp; try with_reducible rfl
      try simp only [Act.put, List.setIfInBounds_toArray, List.set_cons_zero, List.set_cons_succ]
      refine wpAnyH_take (i := 16) (oi := _) (v := ?_) (by simp only [List.getElem?_toArray]; rfl) (by kernel_rfl) (by kernel_rfl) (by kernel_rfl) (by exact fun _ _ _ h => h) (Or.inl ⟨by rfl, ?_⟩) (by assumption) ?_
      rotate_left
      ·intro w hSw; go_simp; try with_reducible rfl
      try simp only [Act.put, List.setIfInBounds_toArray, List.set_cons_zero, List.set_cons_succ]
      refine wpAnyH_take (i := 17) (oi := _) (v := ?_) (by simp only [List.getElem?_toArray]; rfl) (by kernel_rfl) (by kernel_rfl) (by kernel_rfl) (by exact fun _ _ _ h => h) (Or.inl ⟨by rfl, ?_⟩) (by assumption) ?_
      rotate_left
      ·intro w hSw; go_simp; try with_reducible rfl
      try simp only [Act.put, List.setIfInBounds_toArray, List.set_cons_zero, List.set_cons_succ]
      refine wpAnyH_take (i := 18) (oi := _) (v := ?_) (by simp only [List.getElem?_toArray]; rfl) (by kernel_rfl) (by kernel_rfl) (by kernel_rfl) (by exact fun _ _ _ h => h) (Or.inl ⟨by rfl, ?_⟩) (by assumption) ?_
      rotate_left
      ·intro w hSw; go_simp; try with_reducible rfl
      try simp only [Act.put, List.setIfInBounds_toArray, List.set_cons_zero, List.set_cons_succ]
      refine wpAnyH_take (i := 19) (oi := _) (v := ?_) (by simp only [List.getElem?_toArray]; rfl) (by kernel_rfl) (by kernel_rfl) (by kernel_rfl) (by exact fun _ _ _ h => h) (Or.inl ⟨by rfl, ?_⟩) (by assumption) ?_
      rotate_left
      ·intro w hSw; go_simp; try with_reducible rfl
      try simp only [Act.put, List.setIfInBounds_toArray, List.set_cons_zero, List.set_cons_succ]
      refine wpAnyH_take (i := 21) (oi := _) (v := ?_) (by simp only [List.getElem?_toArray]; rfl) (by kernel_rfl) (by kernel_rfl) (by kernel_rfl) (by exact fun _ _ _ h => h) (Or.inl ⟨by rfl, ?_⟩) (by assumption) ?_
      rotate_left
      ·intro w hSw; go_simp; try with_reducible rfl
      try simp only [Act.put, List.setIfInBounds_toArray, List.set_cons_zero, List.set_cons_succ]
      refine wpAnyH_take (i := 22) (oi := _) (v := ?_) (by simp only [List.getElem?_toArray]; rfl) (by kernel_rfl) (by kernel_rfl) (by kernel_rfl) (by exact fun _ _ _ h => h) (Or.inl ⟨by rfl, ?_⟩) (by assumption) ?_
      rotate_left
      ·intro w hSw; go_simp; try with_reducible rfl
      try simp only [Act.put, List.setIfInBounds_toArray, List.set_cons_zero, List.set_cons_succ]
      refine wpAnyH_ready (rs := [20]) (by kernel_rfl) (by simp) ?_
      refine AllReadyH.cons (o := _) (by simp only [List.getElem?_toArray]; rfl) (fun K hK => ?_) ?_
      ·go_simp; have CE := lbLen px S1 _ (SX.out.below hHeld (Nat.le_refl _)).at; rw [H1.out.2.2.2.2.2.2.2.1, H1.out.2.2.2.2.2.2.2.2.1] at CE; refine CE.mono ?_; clear CE; rintro e' V5 ⟨rfl, rfl⟩; dsimp only
       refine hK.out _ _ ?_ (fun hHeld => ?_)
       ·try dsimp only
        exact hHeld
       clear hK K
       try simp only [Act.put, List.setIfInBounds_toArray, List.set_cons_zero, List.set_cons_succ]
       refine wpAnyH_take (i := 23) (oi := _) (v := .bool true) (by simp only [List.getElem?_toArray]; rfl) (by kernel_rfl) (by kernel_rfl) (by kernel_rfl) (by exact fun _ _ _ h => h) (Or.inl ⟨by rfl, ?_⟩) (by assumption) ?_
       ·intro w hSw; go_simp; try (first | rfl | simp)
       try simp only [Act.put, List.setIfInBounds_toArray, List.set_cons_zero, List.set_cons_succ]
       refine wpAnyH_take (i := 24) (oi := _) (v := ?_) (by simp only [List.getElem?_toArray]; rfl) (by kernel_rfl) (by kernel_rfl) (by kernel_rfl) (by exact fun _ _ _ h => h) (Or.inl ⟨by rfl, ?_⟩) (by assumption) ?_
       rotate_left
       ·intro w hSw; go_simp; try with_reducible rfl
       try simp only [Act.put, List.setIfInBounds_toArray, List.set_cons_zero, List.set_cons_succ]
       refine wpAnyH_take (i := 25) (oi := _) (v := ?_) (by simp only [List.getElem?_toArray]; rfl) (by kernel_rfl) (by kernel_rfl) (by kernel_rfl) (by exact fun _ _ _ h => h) (Or.inl ⟨by rfl, ?_⟩) (by assumption) ?_
       rotate_left
       ·intro w hSw; go_simp; try with_reducible rfl
       try simp only [Act.put, List.setIfInBounds_toArray, List.set_cons_zero, List.set_cons_succ]
       refine wpAnyH_take (i := 26) (oi := _) (v := ?_) (by simp only [List.getElem?_toArray]; rfl) (by kernel_rfl) (by kernel_rfl) (by kernel_rfl) (by exact fun _ _ _ h => h) (Or.inl ⟨by rfl, ?_⟩) (by assumption) ?_
       rotate_left
       ·intro w hSw; go_simp; try with_reducible rfl
       try simp only [Act.put, List.setIfInBounds_toArray, List.set_cons_zero, List.set_cons_succ]
       refine wpAnyH_take (i := 27) (oi := _) (v := ?_) (by simp only [List.getElem?_toArray]; rfl) (by kernel_rfl) (by kernel_rfl) (by kernel_rfl) (by exact fun _ _ _ h => h) (Or.inl ⟨by rfl, ?_⟩) (by assumption) ?_
       rotate_left
       ·intro w hSw; go_simp; try with_reducible rfl
       try simp only [Act.put, List.setIfInBounds_toArray, List.set_cons_zero, List.set_cons_succ]
       refine wpAnyH_take (i := 28) (oi := _) (v := ?_) (by simp only [List.getElem?_toArray]; rfl) (by kernel_rfl) (by kernel_rfl) (by kernel_rfl) (by exact fun _ _ _ h => h) (Or.inl ⟨by rfl, ?_⟩) (by assumption) ?_
       rotate_left
       ·intro w hSw; go_simp; try with_reducible rfl
       try simp only [Act.put, List.setIfInBounds_toArray, List.set_cons_zero, List.set_cons_succ]
       refine wpAnyH_take (i := 29) (oi := _) (v := ?_) (by simp only [List.getElem?_toArray]; rfl) (by kernel_rfl) (by kernel_rfl) (by kernel_rfl) (by exact fun _ _ _ h => h) (Or.inl ⟨by rfl, ?_⟩) (by assumption) ?_
       rotate_left
       ·intro w hSw; obtain ⟨c0, c1⟩ := (BX.out.below hSw (Nat.le_refl _)).cells; go_simp; try with_reducible rfl
       try simp only [Act.put, List.setIfInBounds_toArray, List.set_cons_zero, List.set_cons_succ]
       refine wpAnyH_ready (rs := [30]) (by kernel_rfl) (by simp) ?_
       refine AllReadyH.cons (o := _) (by simp only [List.getElem?_toArray]; rfl) (fun K hK => ?_) ?_
       ·go_simp; have CE := lbHas px S1 x _ (SX.out.below hHeld (Nat.le_refl _)).at; rw [H1.out.2.2.2.2.2.2.1] at CE; unfold lv at CE; refine CE.mono ?_; clear CE; rintro e' V6 ⟨rfl, hb30⟩; dsimp only
        refine hK.out _ _ ?_ (fun hHeld => ?_)
        ·try dsimp only
         exact hHeld.trans (hb30.mono hHeld.size)
        clear hK K
        try simp only [Act.put, List.setIfInBounds_toArray, List.set_cons_zero, List.set_cons_succ]
        refine wpAnyH_take (i := 31) (oi := _) (v := ?_) (by simp only [List.getElem?_toArray]; rfl) (by kernel_rfl) (by kernel_rfl) (by kernel_rfl) (by exact fun _ _ _ h => h) (Or.inl ⟨by rfl, ?_⟩) (by assumption) ?_
        rotate_left
        ·intro w hSw; go_simp; try with_reducible rfl
        try simp only [Act.put, List.setIfInBounds_toArray, List.set_cons_zero, List.set_cons_succ]
        refine wpAnyH_take (i := 32) (oi := _) (v := ?_) (by simp only [List.getElem?_toArray]; rfl) (by kernel_rfl) (by kernel_rfl) (by kernel_rfl) (by exact fun _ _ _ h => h) (Or.inl ⟨by rfl, ?_⟩) (by assumption) ?_
        rotate_left
        ·intro w hSw; go_simp; try with_reducible rfl
        try simp only [Act.put, List.setIfInBounds_toArray, List.set_cons_zero, List.set_cons_succ]
        refine wpAnyH_take (i := 33) (oi := _) (v := ?_) (by simp only [List.getElem?_toArray]; rfl) (by kernel_rfl) (by kernel_rfl) (by kernel_rfl) (by exact fun _ _ _ h => h) (Or.inl ⟨by rfl, ?_⟩) (by assumption) ?_
        rotate_left
        ·intro w hSw; go_simp; try with_reducible rfl
        try simp only [Act.put, List.setIfInBounds_toArray, List.set_cons_zero, List.set_cons_succ]
        refine wpAnyH_take (i := 34) (oi := _) (v := ?_) (by simp only [List.getElem?_toArray]; rfl) (by kernel_rfl) (by kernel_rfl) (by kernel_rfl) (by exact fun _ _ _ h => h) (Or.inl ⟨by rfl, ?_⟩) (by assumption) ?_
        rotate_left
        ·intro w hSw; go_simp; try with_reducible rfl
        try simp only [Act.put, List.setIfInBounds_toArray, List.set_cons_zero, List.set_cons_succ]
        refine wpAnyH_take (i := 35) (oi := _) (v := ?_) (by simp only [List.getElem?_toArray]; rfl) (by kernel_rfl) (by kernel_rfl) (by kernel_rfl) (by exact fun _ _ _ h => h) (Or.inl ⟨by rfl, ?_⟩) (by assumption) ?_
        rotate_left
        ·intro w hSw; go_simp; try with_reducible rfl
        try simp only [Act.put, List.setIfInBounds_toArray, List.set_cons_zero, List.set_cons_succ]
        refine wpAnyH_take (i := 36) (oi := _) (v := ?_) (by simp only [List.getElem?_toArray]; rfl) (by kernel_rfl) (by kernel_rfl) (by kernel_rfl) (by exact fun _ _ _ h => h) (Or.inl ⟨by rfl, ?_⟩) (by assumption) ?_
        rotate_left
        ·intro w hSw; obtain ⟨c0, c1⟩ := (BX.out.below hSw (Nat.le_refl _)).cells; go_simp; try with_reducible rfl
        try simp only [Act.put, List.setIfInBounds_toArray, List.set_cons_zero, List.set_cons_succ]
        refine wpAnyH_take (i := 38) (oi := _) (v := ?_) (by simp only [List.getElem?_toArray]; rfl) (by kernel_rfl) (by kernel_rfl) (by kernel_rfl) (by exact fun _ _ _ h => h) (Or.inl ⟨by rfl, ?_⟩) (by assumption) ?_
        rotate_left
        ·intro w hSw; go_simp; try with_reducible rfl
        try simp only [Act.put, List.setIfInBounds_toArray, List.set_cons_zero, List.set_cons_succ]
        refine wpAnyH_take (i := 39) (oi := _) (v := ?_) (by simp only [List.getElem?_toArray]; rfl) (by kernel_rfl) (by kernel_rfl) (by kernel_rfl) (by exact fun _ _ _ h => h) (Or.inl ⟨by rfl, ?_⟩) (by assumption) ?_
        rotate_left
        ·intro w hSw; obtain ⟨c0, c1⟩ := (BX.out.below hSw (Nat.le_refl _)).cells; go_simp; try with_reducible rfl
        try simp only [Act.put, List.setIfInBounds_toArray, List.set_cons_zero, List.set_cons_succ]
        refine wpAnyH_ready (rs := [37]) (by kernel_rfl) (by simp) ?_
        refine AllReadyH.cons (o := _) (by simp only [List.getElem?_toArray]; rfl) (fun K hK => ?_) ?_
        ·go_simp; have CE := lbHas py T1 x _ (SY.out.below hHeld (Nat.le_refl _)).at; rw [H1.out.2.2.1] at CE; unfold lv at CE; refine CE.mono ?_; clear CE; rintro e' V7 ⟨rfl, hb37⟩; dsimp only
         refine hK.out _ _ ?_ (fun hHeld => ?_)
         ·try dsimp only
          exact hHeld.trans (hb37.mono hHeld.size)
         clear hK K
         try simp only [Act.put, List.setIfInBounds_toArray, List.set_cons_zero, List.set_cons_succ]
         refine wpAnyH_ready (rs := [40]) (by kernel_rfl) (by simp) ?_
         refine AllReadyH.cons (o := _) (by simp only [List.getElem?_toArray]; rfl) (fun K hK => ?_) ?_
         ·go_simp; have CE := rbFind Q1 x aq cq _ (Pq.out.below hHeld (Nat.le_refl _)) (by have := HLZ.out; omega); rw [H1.out.2.2.2.2.2.1] at CE; unfold lv at CE; refine CE.mono ?_; clear CE; rintro e' V8 ⟨rfl, hb40⟩; dsimp only
          refine hK.out _ _ ?_ (fun hHeld => ?_)
          ·try dsimp only
           exact hHeld.trans (hb40.mono hHeld.size)
          clear hK K
          try simp only [Act.put, List.setIfInBounds_toArray, List.set_cons_zero, List.set_cons_succ]
          refine wpAnyH_take (i := 41) (oi := _) (v := .bool t2) (by simp only [List.getElem?_toArray]; rfl) (by kernel_rfl) (by kernel_rfl) (by kernel_rfl) (by exact fun _ _ _ h => h) (Or.inl ⟨by rfl, ?_⟩) (by assumption) ?_
          ·intro w hSw; go_simp; try (first | rfl | exact H1.out.2.2.2.1 | rw [H1.out.2.2.2.1])
          try simp only [Act.put, List.setIfInBounds_toArray, List.set_cons_zero, List.set_cons_succ]
          refine wpAnyH_take (i := 42) (oi := _) (v := .bool true) (by simp only [List.getElem?_toArray]; rfl) (by kernel_rfl) (by kernel_rfl) (by kernel_rfl) (by exact fun _ _ _ h => h) (Or.inl ⟨by rfl, ?_⟩) (by assumption) ?_
          ·intro w hSw; go_simp; try (first | rfl | simp)
          try simp only [Act.put, List.setIfInBounds_toArray, List.set_cons_zero, List.set_cons_succ]
          refine wpAnyH_take (i := 43) (oi := _) (v := ?_) (by simp only [List.getElem?_toArray]; rfl) (by kernel_rfl) (by kernel_rfl) (by kernel_rfl) (by exact fun _ _ _ h => h) (Or.inl ⟨by rfl, ?_⟩) (by assumption) ?_
          rotate_left
          ·intro w hSw; go_simp; try with_reducible rfl
          try simp only [Act.put, List.setIfInBounds_toArray, List.set_cons_zero, List.set_cons_succ]
          refine wpAnyH_take (i := 44) (oi := _) (v := ?_) (by simp only [List.getElem?_toArray]; rfl) (by kernel_rfl) (by kernel_rfl) (by kernel_rfl) (by exact fun _ _ _ h => h) (Or.inl ⟨by rfl, ?_⟩) (by assumption) ?_
          rotate_left
          ·intro w hSw; go_simp; try with_reducible rfl
          try simp only [Act.put, List.setIfInBounds_toArray, List.set_cons_zero, List.set_cons_succ]
          refine wpAnyH_take (i := 45) (oi := _) (v := ?_) (by simp only [List.getElem?_toArray]; rfl) (by kernel_rfl) (by kernel_rfl) (by kernel_rfl) (by exact fun _ _ _ h => h) (Or.inl ⟨by rfl, ?_⟩) (by assumption) ?_
          rotate_left
          ·intro w hSw; obtain ⟨c0, c1⟩ := (BX.out.below hSw (Nat.le_refl _)).cells; go_simp; try with_reducible rfl
          try simp only [Act.put, List.setIfInBounds_toArray, List.set_cons_zero, List.set_cons_succ]
          refine wpAnyH_take (i := 46) (oi := _) (v := ?_) (by simp only [List.getElem?_toArray]; rfl) (by kernel_rfl) (by kernel_rfl) (by kernel_rfl) (by exact fun _ _ _ h => h) (Or.inl ⟨by rfl, ?_⟩) (by assumption) ?_
          rotate_left
          ·intro w hSw; obtain ⟨c0, c1⟩ := (BY.out.below hSw (Nat.le_refl _)).cells; go_simp; try with_reducible rfl
          try simp only [Act.put, List.setIfInBounds_toArray, List.set_cons_zero, List.set_cons_succ]
          refine wpAnyH_take (i := 48) (oi := _) (v := ?_) (by simp only [List.getElem?_toArray]; rfl) (by kernel_rfl) (by kernel_rfl) (by kernel_rfl) (by exact fun _ _ _ h => h) (Or.inl ⟨by rfl, ?_⟩) (by assumption) ?_
          rotate_left
          ·intro w hSw; obtain ⟨c0, c1⟩ := (BX.out.below hSw (Nat.le_refl _)).cells; go_simp; try with_reducible rfl
          try simp only [Act.put, List.setIfInBounds_toArray, List.set_cons_zero, List.set_cons_succ]
          refine wpAnyH_take (i := 49) (oi := _) (v := ?_) (by simp only [List.getElem?_toArray]; rfl) (by kernel_rfl) (by kernel_rfl) (by kernel_rfl) (by exact fun _ _ _ h => h) (Or.inl ⟨by rfl, ?_⟩) (by assumption) ?_
          rotate_left
          ·intro w hSw; obtain ⟨c0, c1⟩ := (BY.out.below hSw (Nat.le_refl _)).cells; go_simp; try with_reducible rfl
          try simp only [Act.put, List.setIfInBounds_toArray, List.set_cons_zero, List.set_cons_succ]
          refine wpAnyH_ready (rs := [47]) (by kernel_rfl) (by simp) ?_
          refine AllReadyH.cons (o := _) (by simp only [List.getElem?_toArray]; rfl) (fun K hK => ?_) ?_
          ·go_simp; have CE := less_any x y; rw [H1.out.2.2.2.2.1] at CE; unfold lv at CE; refine (CE _).mono ?_; clear CE; rintro e' V9 ⟨rfl, hb47⟩; have hq47 : Below V2.heap.size V2 V9 := hb47.symm ▸ ((hHeld.alloc hHeld.size _).alloc (hHeld.alloc hHeld.size _).size _); clear hb47; dsimp only
           refine hK.out _ _ ?_ (fun hHeld => ?_)
           ·try dsimp only
            exact hq47
           clear hK K
           try simp only [Act.put, List.setIfInBounds_toArray, List.set_cons_zero, List.set_cons_succ]
           refine wpAnyH_ready (rs := [50]) (by kernel_rfl) (by simp) ?_
           refine AllReadyH.cons (o := _) (by simp only [List.getElem?_toArray]; rfl) (fun K hK => ?_) ?_
           ·go_simp; have CE := rbLess x y; rw [H1.out.2.2.2.2.1] at CE; unfold lv at CE; refine (CE _).mono ?_; clear CE; rintro e' V10 ⟨rfl, hb50⟩; have hq50 : Below V2.heap.size V2 V10 := hb50.symm ▸ ((hHeld.alloc hHeld.size _).alloc (hHeld.alloc hHeld.size _).size _); clear hb50; dsimp only
            refine hK.out _ _ ?_ (fun hHeld => ?_)
            ·try dsimp only
             exact hq50
            clear hK K
            try simp only [Act.put, List.setIfInBounds_toArray, List.set_cons_zero, List.set_cons_succ]
            refine wpAnyH_take (i := 51) (oi := _) (v := .bool true) (by simp only [List.getElem?_toArray]; rfl) (by kernel_rfl) (by kernel_rfl) (by kernel_rfl) (by exact fun _ _ _ h => h) (Or.inl ⟨by rfl, ?_⟩) (by assumption) ?_
            ·intro w hSw; go_simp; try (first | rfl | simp)
            try simp only [Act.put, List.setIfInBounds_toArray, List.set_cons_zero, List.set_cons_succ]
            refine wpAnyH_take (i := 52) (oi := _) (v := ?_) (by simp only [List.getElem?_toArray]; rfl) (by kernel_rfl) (by kernel_rfl) (by kernel_rfl) (by exact fun _ _ _ h => h) (Or.inl ⟨by rfl, ?_⟩) (by assumption) ?_
            rotate_left
            ·intro w hSw; go_simp; try with_reducible rfl
            try simp only [Act.put, List.setIfInBounds_toArray, List.set_cons_zero, List.set_cons_succ]
            refine wpAnyH_take (i := 53) (oi := _) (v := ?_) (by simp only [List.getElem?_toArray]; rfl) (by kernel_rfl) (by kernel_rfl) (by kernel_rfl) (by exact fun _ _ _ h => h) (Or.inl ⟨by rfl, ?_⟩) (by assumption) ?_
            rotate_left
            ·intro w hSw; go_simp; try with_reducible rfl
            try simp only [Act.put, List.setIfInBounds_toArray, List.set_cons_zero, List.set_cons_succ]
            refine wpAnyH_take (i := 54) (oi := _) (v := ?_) (by simp only [List.getElem?_toArray]; rfl) (by kernel_rfl) (by kernel_rfl) (by kernel_rfl) (by exact fun _ _ _ h => h) (Or.inl ⟨by rfl, ?_⟩) (by assumption) ?_
            rotate_left
            ·intro w hSw; obtain ⟨c0, c1⟩ := (BX.out.below hSw (Nat.le_refl _)).cells; go_simp; try with_reducible rfl
            try simp only [Act.put, List.setIfInBounds_toArray, List.set_cons_zero, List.set_cons_succ]
            refine wpAnyH_take (i := 56) (oi := _) (v := ?_) (by simp only [List.getElem?_toArray]; rfl) (by kernel_rfl) (by kernel_rfl) (by kernel_rfl) (by exact fun _ _ _ h => h) (Or.inl ⟨by rfl, ?_⟩) (by assumption) ?_
            rotate_left
            ·intro w hSw; obtain ⟨c0, c1⟩ := (BX.out.below hSw (Nat.le_refl _)).cells; go_simp; try with_reducible rfl
            try simp only [Act.put, List.setIfInBounds_toArray, List.set_cons_zero, List.set_cons_succ]
            refine wpAnyH_ready (rs := [55]) (by kernel_rfl) (by simp) ?_
            refine AllReadyH.cons (o := _) (by simp only [List.getElem?_toArray]; rfl) (fun K hK => ?_) ?_
            ·go_simp; have CE := fun w => name_any x w HX.out; unfold lv at CE; refine (CE _).mono ?_; clear CE; rintro e' V11 ⟨rfl, hb55⟩; have hq55 : Below V2.heap.size V2 V11 := hb55.symm ▸ (hHeld.alloc hHeld.size _); clear hb55; dsimp only
             refine hK.out _ _ ?_ (fun hHeld => ?_)
             ·try dsimp only
              exact hq55
             clear hK K
             try simp only [Act.put, List.setIfInBounds_toArray, List.set_cons_zero, List.set_cons_succ]
             refine wpAnyH_ready (rs := [57]) (by kernel_rfl) (by simp) ?_
             refine AllReadyH.cons (o := _) (by simp only [List.getElem?_toArray]; rfl) (fun K hK => ?_) ?_
             ·go_simp; have CE := fun w => rbName x w HX.out; unfold lv at CE; refine (CE _).mono ?_; clear CE; rintro e' V12 ⟨rfl, hb57⟩; have hq57 : Below V2.heap.size V2 V12 := hb57.symm ▸ (hHeld.alloc hHeld.size _); clear hb57; dsimp only
              refine hK.out _ _ ?_ (fun hHeld => ?_)
              ·try dsimp only
               exact hq57
              clear hK K
              try simp only [Act.put, List.setIfInBounds_toArray, List.set_cons_zero, List.set_cons_succ]
              refine wpAnyH_take (i := 58) (oi := _) (v := .bool true) (by simp only [List.getElem?_toArray]; rfl) (by kernel_rfl) (by kernel_rfl) (by kernel_rfl) (by exact fun _ _ _ h => h) (Or.inl ⟨by rfl, ?_⟩) (by assumption) ?_
              ·intro w hSw; go_simp; try (first | rfl | simp)
              try simp only [Act.put, List.setIfInBounds_toArray, List.set_cons_zero, List.set_cons_succ]
              refine wpAnyH_take (i := 59) (oi := _) (v := ?_) (by simp only [List.getElem?_toArray]; rfl) (by kernel_rfl) (by kernel_rfl) (by kernel_rfl) (by exact fun _ _ _ h => h) (Or.inl ⟨by rfl, ?_⟩) (by assumption) ?_
              rotate_left
              ·intro w hSw; go_simp; try with_reducible rfl
              try simp only [Act.put, List.setIfInBounds_toArray, List.set_cons_zero, List.set_cons_succ]
              refine wpAnyH_take (i := 60) (oi := _) (v := ?_) (by simp only [List.getElem?_toArray]; rfl) (by kernel_rfl) (by kernel_rfl) (by kernel_rfl) (by exact fun _ _ _ h => h) (Or.inl ⟨by rfl, ?_⟩) (by assumption) ?_
              rotate_left
              ·intro w hSw; go_simp; try with_reducible rfl
              try simp only [Act.put, List.setIfInBounds_toArray, List.set_cons_zero, List.set_cons_succ]
              refine wpAnyH_done (by kernel_rfl) ?_ _
              go_wp2_with fail
              go_ret
              exact ⟨rfl, HB.out.trans (hHeld.mono HB.out.size)⟩
             exact AllReadyH.nil
            exact AllReadyH.nil
           exact AllReadyH.nil
          exact AllReadyH.nil
         exact AllReadyH.nil
        exact AllReadyH.nil
       exact AllReadyH.nil
      exact AllReadyH.nil
     exact AllReadyH.nil
    exact AllReadyH.nil
   exact AllReadyH.nil
  exact AllReadyH.nil
end Go.Proofs.YtdkainiiinjgmaaGreatDoor.lawLabelsAll
