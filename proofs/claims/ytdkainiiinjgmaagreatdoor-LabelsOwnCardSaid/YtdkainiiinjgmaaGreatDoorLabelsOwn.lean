import Derived.Deep.CutBlock
import Derived.Deep.DeepCutAuto
import Derived.Test.YtdkainiiinjgmaaGreatDoorMap
import Derived.Test.YtdkainiiinjgmaaGreatDoorMas
namespace Go.Proofs.YtdkainiiinjgmaaGreatDoor.lawLabelsOwn
open Go.RowKit Go.Shelf
theorem own_cells {w : World} {B n : Nat} {T : TypeId} {v : Value} {xs : List Value} (h : w.ownsRow B T 2 v n xs) (hn : n ≠ 0) : ∃ g c, v = .slice (some ⟨g, 0, none⟩) n c ∧ B ≤ g ∧ g < w.heap.size ∧ (∀ j, j < n * 2 → ∃ u, w.cell? ⟨g, j, none⟩ = some u) ∧ ∀ p, w.frozen? ⟨g, p, none⟩ = false := by
 obtain ⟨hl, h⟩ := h
 rcases h with ⟨_, h0⟩ | ⟨g, cap, cur, rfl, h1, h2, h4, h5, h6, h3⟩
 ·exact absurd h0 hn
 ·refine ⟨g, cap, rfl, h1, (Array.getElem?_eq_some_iff.1 h2).1, fun j hj => ?_, fun p => by simp [World.frozen?, h2]⟩
  have hlt : j < xs.length := by omega
  obtain ⟨u, hu⟩ : ∃ u, xs[j]? = some u := ⟨xs[j], List.getElem?_eq_getElem hlt⟩
  have h7 : (cur.toList.take (n * 2))[j]? = some u := by rw [h3]; exact hu
  rw [List.getElem?_take_of_lt hj] at h7
  exact ⟨u, by simpa [World.cell?, h2] using h7⟩
set_option maxHeartbeats 8000000
set_option maxRecDepth 100000
theorem lwFile (s : ByteArray) (w : World) : Calls Tryz.prog 18 #[.string s] w fun e w' => e = .returned (.agg #[.bool false, .string s]) ∧ Below w.heap.size w w' := by
 go_enter Tryz.func18, Tryz.ntmps18
 go_wp2
 refine bodyPost_ret (results_c rfl _ _ w.heap.size _ _ _ _ rfl (alloc_at w _) Tryz.underlying38 rfl (by kernel_rfl)) rfl ?_
 exact ⟨rfl, (Below.refl _ _).alloc (Nat.le_refl _) _⟩
theorem lwRule (s : ByteArray) (w : World) : Calls Tryz.prog 19 #[.string s] w fun e w' => e = .returned (.agg #[.bool true, .string s]) ∧ Below w.heap.size w w' := by
 go_enter Tryz.func19, Tryz.ntmps19
 go_wp2
 refine bodyPost_ret (results_c rfl _ _ w.heap.size _ _ _ _ rfl (alloc_at w _) Tryz.underlying38 rfl (by kernel_rfl)) rfl ?_
 exact ⟨rfl, (Below.refl _ _).alloc (Nat.le_refl _) _⟩
theorem law (va : Value) (xa : List Lb) (vb : Value) (xb : List Lb) (w : World) (ha : IsLabs w va xa) (hb : IsLabs w vb xb) (hG : Exe.GX 5 285 Exe.opNames w) :
  Calls Tryz.prog 4 #[va, vb] w fun e w' => e = .returned (.bool true) ∧ Below w.heap.size w w' := by
 have mixed : Tryz.prog.follows .mixedOrders = true := by kernel_rfl
 obtain ⟨aa, ca, rfl, la, _, ra⟩ := ha.row
 obtain ⟨ab, cb, rfl, lb, _, rb⟩ := hb.row
 have HCB := Lib.hid (Exe.beg12 hG)
 have Ra := Lib.hid ra
 have Rb := Lib.hid rb
 clear ha hb ra rb hG
 go_enter Tryz.func4, Tryz.ntmps4
 go_wp2_with fail
 refine HCB.out.mono ?_
 rintro e w0 ⟨rfl, hb0⟩
 replace Ra := Lib.hid (Ra.out.below hb0 (Nat.le_refl _))
 replace Rb := Lib.hid (Rb.out.below hb0 (Nat.le_refl _))
 have HB := Lib.hid hb0
 clear hb0 HCB
 go_wp2_with fail
 refine (lbFew xa aa ca w0 Ra.out la).mono ?_
 rintro e w1 ⟨v, rfl, ho, hb⟩
 obtain ⟨ya, hya⟩ : ∃ y, xa.take 20 = y := ⟨_, rfl⟩
 have lya : ya.length ≤ 20 := by rw [← hya, List.length_take]; omega
 rw [hya] at ho
 obtain ⟨fa, ga, rfl, hr, _⟩ := rowL_own ho
 replace Rb := Lib.hid (Rb.out.below hb (Nat.le_refl _))
 have Fa := Lib.hid hr
 replace HB := Lib.hid (HB.out.trans (hb.mono HB.out.size))
 clear hb hr ho hya Ra
 go_wp2_with fail
 refine (lbFew xb ab cb w1 Rb.out lb).mono ?_
 rintro e w2 ⟨v, rfl, ho, hb⟩
 obtain ⟨yb, hyb⟩ : ∃ y, xb.take 20 = y := ⟨_, rfl⟩
 have lyb : yb.length ≤ 20 := by rw [← hyb, List.length_take]; omega
 rw [hyb] at ho
 obtain ⟨fb, gb, rfl, hr, _⟩ := rowL_own ho
 replace Fa := Lib.hid (Fa.out.below hb (Nat.le_refl _))
 have Fb := Lib.hid hr
 replace HB := Lib.hid (HB.out.trans (hb.mono HB.out.size))
 clear hb hr ho hyb Rb
 go_wp2_with fail
 have CN := lbNew ya fa ga w2 Fa.out (by omega)
 refine CN.mono ?_
 rintro e w3 ⟨rfl, hcel, hm, hb⟩
 replace Fa := Lib.hid (Fa.out.below hb (Nat.le_refl _))
 replace Fb := Lib.hid (Fb.out.below hb (Nat.le_refl _))
 replace HB := Lib.hid (HB.out.trans (hb.mono HB.out.size))
 obtain ⟨px, hpx⟩ : ∃ q, q = w2.heap.size := ⟨_, rfl⟩
 have Sx := Lib.hid (show SetM w3 px (addLs [] ya) from ⟨w2.heap.size + 1, by rw [hpx]; exact hcel, by omega, hm⟩)
 rw [← hpx]
 clear hb hm hcel hpx CN
 have lx := (addLs_len [] ya).2
 simp only [List.length_nil, Nat.zero_add] at lx
 go_wp2_with fail
 have CN := lbNew yb fb gb w3 Fb.out (by omega)
 refine CN.mono ?_
 rintro e w4 ⟨rfl, hcel, hm, hb⟩
 replace Fa := Lib.hid (Fa.out.below hb (Nat.le_refl _))
 replace Fb := Lib.hid (Fb.out.below hb (Nat.le_refl _))
 replace Sx := Lib.hid (Sx.out.below hb (Nat.le_refl _))
 replace HB := Lib.hid (HB.out.trans (hb.mono HB.out.size))
 obtain ⟨py, hpy⟩ : ∃ q, q = w3.heap.size := ⟨_, rfl⟩
 have Sy := Lib.hid (show SetM w4 py (addLs [] yb) from ⟨w3.heap.size + 1, by rw [hpy]; exact hcel, by omega, hm⟩)
 rw [← hpy]
 clear hb hm hcel hpy CN
 have ly := (addLs_len [] yb).2
 simp only [List.length_nil, Nat.zero_add] at ly
 obtain ⟨X, hX⟩ : ∃ l, addLs [] ya = l := ⟨_, rfl⟩
 obtain ⟨Y, hY⟩ : ∃ l, addLs [] yb = l := ⟨_, rfl⟩
 have EX : Hid (slb X = setL ya) := by show _ = _; rw [← hX]; exact slb_addLs ya
 have EY : Hid (slb Y = setL yb) := by show _ = _; rw [← hY]; exact slb_addLs yb
 rw [hX] at Sx lx
 rw [hY] at Sy ly
 clear hX hY
 have hlx := setL_len ya
 have hly := setL_len yb
 have LX : Hid ((slb X).length ≤ 20) := by show _ ≤ _; rw [EX.out]; omega
 have LY : Hid ((slb Y).length ≤ 20) := by show _ ≤ _; rw [EY.out]; omega
 go_wp2_with fail
 refine (lbAllOwn px X w4 Sx.out (by omega)).mono ?_
 rintro e w5 ⟨v, rfl, ho, hb⟩
 obtain ⟨n, hn⟩ : ∃ n, (slb X).length = n := ⟨_, rfl⟩
 have hn20 : n ≤ 20 := by rw [← hn]; exact LX.out
 rw [hn] at ho
 obtain ⟨av, cv, rfl, _, hcv, _⟩ := own_shape ho
 have HO := Lib.hid ho
 have H5 := Lib.hid hb
 clear ho hb hn
 go_upto_block 0 with fail
 go_cut [] (fun wx => Below w4.heap.size w4 wx)
 case first =>
  go_wp2_with fail
  rcases Nat.eq_zero_or_pos n with h0 | h0
  ·subst h0
   go_loopw [28] (fun iv wr => iv = .int .i64 0 ∧ Below w4.heap.size w4 wr) (fun _ _ => 0)
   case atStart => exact ⟨rfl, H5.out⟩
   case round =>
    obtain ⟨rfl, hbw⟩ := hrel
    have HBW := Lib.hid hbw
    clear hbw
    go_wp2_with fail
    go_meet
    exact HBW.out
  ·obtain ⟨g, c', q, hg1, _, hg2, hg3⟩ := own_cells HO.out (by omega)
   cases q
   have G2 := Lib.hid hg2
   have G3 := Lib.hid hg3
   clear hg2 hg3
   go_loopw [28] (fun iv wr => ∃ k : Nat, k ≤ n ∧ iv = .int .i64 (k : Int) ∧ (∀ j, j < n * 2 → ∃ u, wr.cell? ⟨g, j, none⟩ = some u) ∧ (∀ p, wr.frozen? ⟨g, p, none⟩ = false) ∧ Below w4.heap.size w4 wr) (fun iv _ => n - (intOf iv).toNat)
   case atStart => exact ⟨0, Nat.zero_le _, rfl, G2.out, G3.out, H5.out⟩
   case round =>
    obtain ⟨k, hk, rfl, hc, hf, hbw⟩ := hrel
    have HC := Lib.hid hc
    have HF := Lib.hid hf
    have HBW := Lib.hid hbw
    clear hc hf hbw
    by_cases hlt : k < n
    ·have hi : (k : Int) < (n : Int) := by omega
     have hk0 : (0 : Int) ≤ (k : Int) := by omega
     obtain ⟨u, hu⟩ := HC.out (k * 2 + 1) (by omega)
     have hfr := HF.out (k * 2 + 1)
     have HC2 : Hid (∀ j, j < n * 2 → ∃ u, (wr.setCell ⟨g, k * 2 + 1, none⟩ (.string { data := #[116, 117, 114, 110, 101, 100] })).cell? ⟨g, j, none⟩ = some u) := by
      show ∀ j, _
      intro j hj
      by_cases e : j = k * 2 + 1
      ·subst e
       exact ⟨_, World.cell?_setCell_same _ _ _ hu⟩
      ·obtain ⟨u', hu'⟩ := HC.out j hj
       exact ⟨u', by rw [World.cell?_setCell_other _ _ _ _ (by intro q; injection q with _ q; omega)]; exact hu'⟩
     have HB2 : Hid (Below w4.heap.size w4 (wr.setCell ⟨g, k * 2 + 1, none⟩ (.string { data := #[116, 117, 114, 110, 101, 100] }))) := Lib.hid (HBW.out.setCell (p := ⟨g, k * 2 + 1, none⟩) hg1 _)
     go_wp2
     go_roundw
     case rel => exact ⟨k + 1, by omega, by go_num, HC2.out, fun p => by rw [World.frozen?_setCell]; exact HF.out p, HB2.out⟩
     case measure => simp only [intOf]; omega
    ·have hi : ¬ (k : Int) < (n : Int) := by omega
     go_wp2_with fail
     go_meet
     exact HBW.out
 case rest =>
  obtain ⟨W5, hW5⟩ : ∃ V, wc = V := ⟨_, rfl⟩
  rw [hW5] at hcut ⊢
  have hb := hcut
  clear hW5 hcut H5
  replace Fa := Lib.hid (Fa.out.below hb (Nat.le_refl _))
  replace Fb := Lib.hid (Fb.out.below hb (Nat.le_refl _))
  replace Sx := Lib.hid (Sx.out.below hb (Nat.le_refl _))
  replace Sy := Lib.hid (Sy.out.below hb (Nat.le_refl _))
  replace HB := Lib.hid (HB.out.trans (hb.mono HB.out.size))
  clear hb HO
  go_wp2_with fail
  refine (lbUnion2 px py X Y W5 Sx.out Sy.out (by omega) (by omega)).mono ?_
  rintro e w6 ⟨pu, mb, rfl, hu1, hu2, hu3, hu4, hu5, hb⟩
  obtain ⟨U, hU⟩ : ∃ l, addLs (addLs [] (slb X)) (slb Y) = l := ⟨_, rfl⟩
  have lU : U.length ≤ 40 := by
   rw [← hU]
   have h1 := (addLs_len (addLs [] (slb X)) (slb Y)).2
   have h2 := (addLs_len [] (slb X)).2
   have h3 := LX.out
   have h4 := LY.out
   simp only [List.length_nil, Nat.zero_add] at h2
   omega
  rw [hU] at hu5
  have hpu := World.block_lt_of_cell? _ _ hu4
  have hmb := hu5.1.lt
  have HU4 := Lib.hid hu4; have HU5 := Lib.hid hu5; have HU := Lib.hid (And.intro hu1 (And.intro hu2 (And.intro hu3 (And.intro hpu hmb))))
  have H56 := Lib.hid hb
  clear hu1 hu2 hu3 hu4 hu5 hb hU hpu hmb
  go_wp2_with fail
  refine (lwFile _ _).mono ?_
  rintro e w7 ⟨rfl, hb⟩
  have H7 := Lib.hid hb
  clear hb
  go_wp2_with fail
  refine (lwRule _ _).mono ?_
  rintro e w8 ⟨rfl, hb⟩
  have H8 := Lib.hid (H7.out.trans (hb.mono H7.out.size))
  clear hb H7
  obtain ⟨M, hM⟩ : ∃ M : ByteArray, { data := #[109, 111, 114, 101] } = M := ⟨_, rfl⟩
  rw [hM]
  obtain ⟨W8, hW8⟩ : ∃ W, W = w8.alloc (.cells #[.bool false, .string M, .bool true, .string M] 38) := ⟨_, rfl⟩
  have hb8 : Below w6.heap.size w6 W8 := by rw [hW8]; exact H8.out.alloc H8.out.size _
  have hc8 : W8.heap[w8.heap.size]? = some (.cells #[.bool false, .string M, .bool true, .string M] 38) := by rw [hW8]; exact alloc_at w8 _
  have hr8 : RowL W8 (some { block := w8.heap.size, off := 0 }) [(false, M), (true, M)] := by
   intro i x hx
   match i, hx with
   | 0, hx => cases hx; exact ⟨_, _, rfl, by simp [World.cell?, hc8], by simp [World.cell?, hc8]⟩
   | 1, hx => cases hx; exact ⟨_, _, rfl, by simp [World.cell?, hc8], by simp [World.cell?, hc8]⟩
  have hq8 := H8.out.size
  have CA := lbAdd pu mb U [(false, M), (true, M)] (some { block := w8.heap.size, off := 0 }) 2 W8 (cell_below HU4.out hb8 HU.out.2.2.2.1) HU.out.2.2.1 (HU5.out.below hb8 HU.out.2.2.2.2) hr8 (fun _ b e => by cases e; have := HU.out; simp only; omega) (by simp only [List.length_cons, List.length_nil]; omega)
  have HCA := Lib.hid CA
  have H68 := Lib.hid hb8
  clear CA hr8 hc8 hb8 hq8
  go_wp2_with fail
  rw [← hW8]
  refine HCA.out.mono ?_
  rintro e w9 ⟨rfl, hc9, hm9, hk9⟩
  have hb : Below W5.heap.size W5 w9 := by
   refine (H56.out.trans (H68.out.mono H56.out.size)).trans ⟨hk9.os, hk9.tape, hk9.output, hk9.size, fun k hk => hk9.block k ?_ ?_ ?_⟩
   ·exact Nat.lt_of_lt_of_le hk (Nat.le_trans H56.out.size H68.out.size)
   ·have := Nat.le_trans H56.out.size H68.out.size; omega
   ·have := HU.out; omega
  have Su : Hid (SetM w9 pu (addLs U [(false, M), (true, M)])) := Lib.hid ⟨mb, hc9, HU.out.2.2.1, hm9⟩
  have HAS : Hid (hasL (false, M) (addLs U [(false, M), (true, M)]) = true) := Lib.hid (hasL_iff.2 (mem_addLs.2 (.inr (by simp))))
  replace Fa := Lib.hid (Fa.out.below hb (Nat.le_refl _))
  replace Fb := Lib.hid (Fb.out.below hb (Nat.le_refl _))
  replace Sx := Lib.hid (Sx.out.below hb (Nat.le_refl _))
  replace Sy := Lib.hid (Sy.out.below hb (Nat.le_refl _))
  replace HB := Lib.hid (HB.out.trans (hb.mono HB.out.size))
  have HM := Lib.hid hM
  clear hb hc9 hm9 hk9 HCA H68 H8 HU HU4 HU5 H56 hW8 hM
  go_wp2_with fail
  refine wp_region_held_drew (S := fun V => Below w9.heap.size w9 V) (by kernel_rfl) ?_ (fun hHeld => ?_)
  ·exact below_drewN (Below.refl _ _) _
  refine wpAnyH_take (i := 0) (oi := _) (v := ?_) (by simp only [List.getElem?_toArray, List.getElem?_cons_zero]; rfl) (by kernel_rfl) (by kernel_rfl) (by kernel_rfl) (by exact fun _ _ _ h => h) (Or.inl ⟨by rfl, ?_⟩) (by assumption) ?_
  rotate_left
  ·intro w hSw; go_simp; try with_reducible rfl
  try simp only [Act.put, List.setIfInBounds_toArray, List.set_cons_zero, List.set_cons_succ]
  refine wpAnyH_take (i := 1) (oi := _) (v := ?_) (by simp only [List.getElem?_toArray, List.getElem?_cons_succ, List.getElem?_cons_zero]; rfl) (by kernel_rfl) (by kernel_rfl) (by kernel_rfl) (by exact fun _ _ _ h => h) (Or.inl ⟨by rfl, ?_⟩) (by assumption) ?_
  rotate_left
  ·intro w hSw; go_simp; try with_reducible rfl
  try simp only [Act.put, List.setIfInBounds_toArray, List.set_cons_zero, List.set_cons_succ]
  refine wpAnyH_take (i := 2) (oi := _) (v := ?_) (by simp only [List.getElem?_toArray, List.getElem?_cons_succ, List.getElem?_cons_zero]; rfl) (by kernel_rfl) (by kernel_rfl) (by kernel_rfl) (by exact fun _ _ _ h => h) (Or.inl ⟨by rfl, ?_⟩) (by assumption) ?_
  rotate_left
  ·intro w hSw; go_simp; try with_reducible rfl
  try simp only [Act.put, List.setIfInBounds_toArray, List.set_cons_zero, List.set_cons_succ]
  refine wpAnyH_take (i := 4) (oi := _) (v := ?_) (by simp only [List.getElem?_toArray, List.getElem?_cons_succ, List.getElem?_cons_zero]; rfl) (by kernel_rfl) (by kernel_rfl) (by kernel_rfl) (by exact fun _ _ _ h => h) (Or.inl ⟨by rfl, ?_⟩) (by assumption) ?_
  rotate_left
  ·intro w hSw; go_simp; try with_reducible rfl
  try simp only [Act.put, List.setIfInBounds_toArray, List.set_cons_zero, List.set_cons_succ]
  refine wpAnyH_ready (rs := [3]) (by kernel_rfl) (by simp) ?_
  refine AllReadyH.cons (o := _) (by simp only [List.getElem?_toArray, List.getElem?_cons_succ, List.getElem?_cons_zero]; rfl) (fun K hK => ?_) ?_
  ·go_simp; refine (lbAll px X _ (Sx.out.below hHeld (Nat.le_refl _)) (by have := LX.out; omega)).mono ?_; rintro e' V1 ⟨a1, c1, rfl, hr1, _, hb1⟩; dsimp only
   refine hK.out _ _ ?_ (fun hHeld => ?_)
   ·try dsimp only
    exact hHeld.trans (hb1.mono hHeld.size)
   clear hK K
   try simp only [Act.put, List.setIfInBounds_toArray, List.set_cons_zero, List.set_cons_succ]
   refine wpAnyH_ready (rs := [5]) (by kernel_rfl) (by simp) ?_
   refine AllReadyH.cons (o := _) (by simp only [List.getElem?_toArray, List.getElem?_cons_succ, List.getElem?_cons_zero]; rfl) (fun K hK => ?_) ?_
   ·go_simp; refine (rbSet ya fa ga _ (Fa.out.below hHeld (Nat.le_refl _)) (by omega)).mono ?_; rintro e' V2 ⟨v2, rfl, ho2, hb2⟩; obtain ⟨a2, c2, rfl, _, _, hr2, _⟩ := ownL_row ho2; have hr1k := hr1.below hb2 (Nat.le_refl _); dsimp only
    refine hK.out _ _ ?_ (fun hHeld => ?_)
    ·try dsimp only
     exact hHeld.trans (hb2.mono hHeld.size)
    clear hK K
    try simp only [Act.put, List.setIfInBounds_toArray, List.set_cons_zero, List.set_cons_succ]
    refine wpAnyH_ready (rs := [6]) (by kernel_rfl) (by simp) ?_
    refine AllReadyH.cons (o := _) (by simp only [List.getElem?_toArray, List.getElem?_cons_succ, List.getElem?_cons_zero]; rfl) (fun K hK => ?_) ?_
    ·go_simp; have CE := rbEq (slb X) (setL ya) a1 a2 c1 c2 _ hr1k hr2 (by have := LX.out; have := LY.out; omega); rw [decide_eq_true EX.out] at CE; refine CE.mono ?_; clear CE; rintro e' V3 ⟨rfl, hb3⟩; dsimp only
     refine hK.out _ _ ?_ (fun hHeld => ?_)
     ·try dsimp only
      exact hHeld.trans (hb3.mono hHeld.size)
     clear hK K
     try simp only [Act.put, List.setIfInBounds_toArray, List.set_cons_zero, List.set_cons_succ]
     refine wpAnyH_take (i := 7) (oi := _) (v := ?_) (by simp only [List.getElem?_toArray, List.getElem?_cons_succ, List.getElem?_cons_zero]; rfl) (by kernel_rfl) (by kernel_rfl) (by kernel_rfl) (by exact fun _ _ _ h => h) (Or.inl ⟨by rfl, ?_⟩) (by assumption) ?_
     rotate_left
     ·intro w hSw; go_simp; try with_reducible rfl
     try simp only [Act.put, List.setIfInBounds_toArray, List.set_cons_zero, List.set_cons_succ]
     refine wpAnyH_take (i := 8) (oi := _) (v := ?_) (by simp only [List.getElem?_toArray, List.getElem?_cons_succ, List.getElem?_cons_zero]; rfl) (by kernel_rfl) (by kernel_rfl) (by kernel_rfl) (by exact fun _ _ _ h => h) (Or.inl ⟨by rfl, ?_⟩) (by assumption) ?_
     rotate_left
     ·intro w hSw; go_simp; try with_reducible rfl
     try simp only [Act.put, List.setIfInBounds_toArray, List.set_cons_zero, List.set_cons_succ]
     refine wpAnyH_take (i := 9) (oi := _) (v := ?_) (by simp only [List.getElem?_toArray, List.getElem?_cons_succ, List.getElem?_cons_zero]; rfl) (by kernel_rfl) (by kernel_rfl) (by kernel_rfl) (by exact fun _ _ _ h => h) (Or.inl ⟨by rfl, ?_⟩) (by assumption) ?_
     rotate_left
     ·intro w hSw; go_simp; try with_reducible rfl
     try simp only [Act.put, List.setIfInBounds_toArray, List.set_cons_zero, List.set_cons_succ]
     refine wpAnyH_take (i := 10) (oi := _) (v := ?_) (by simp only [List.getElem?_toArray, List.getElem?_cons_succ, List.getElem?_cons_zero]; rfl) (by kernel_rfl) (by kernel_rfl) (by kernel_rfl) (by exact fun _ _ _ h => h) (Or.inl ⟨by rfl, ?_⟩) (by assumption) ?_
     rotate_left
     ·intro w hSw; go_simp; try with_reducible rfl
     try simp only [Act.put, List.setIfInBounds_toArray, List.set_cons_zero, List.set_cons_succ]
     refine wpAnyH_take (i := 12) (oi := _) (v := ?_) (by simp only [List.getElem?_toArray, List.getElem?_cons_succ, List.getElem?_cons_zero]; rfl) (by kernel_rfl) (by kernel_rfl) (by kernel_rfl) (by exact fun _ _ _ h => h) (Or.inl ⟨by rfl, ?_⟩) (by assumption) ?_
     rotate_left
     ·intro w hSw; go_simp; try with_reducible rfl
     try simp only [Act.put, List.setIfInBounds_toArray, List.set_cons_zero, List.set_cons_succ]
     refine wpAnyH_ready (rs := [11]) (by kernel_rfl) (by simp) ?_
     refine AllReadyH.cons (o := _) (by simp only [List.getElem?_toArray, List.getElem?_cons_succ, List.getElem?_cons_zero]; rfl) (fun K hK => ?_) ?_
     ·go_simp; refine (lbAll py Y _ (Sy.out.below hHeld (Nat.le_refl _)) (by have := LX.out; omega)).mono ?_; rintro e' V4 ⟨a4, c4, rfl, hr4, _, hb4⟩; dsimp only
      refine hK.out _ _ ?_ (fun hHeld => ?_)
      ·try dsimp only
       exact hHeld.trans (hb4.mono hHeld.size)
      clear hK K
      try simp only [Act.put, List.setIfInBounds_toArray, List.set_cons_zero, List.set_cons_succ]
      refine wpAnyH_ready (rs := [13]) (by kernel_rfl) (by simp) ?_
      refine AllReadyH.cons (o := _) (by simp only [List.getElem?_toArray, List.getElem?_cons_succ, List.getElem?_cons_zero]; rfl) (fun K hK => ?_) ?_
      ·go_simp; refine (rbSet yb fb gb _ (Fb.out.below hHeld (Nat.le_refl _)) (by omega)).mono ?_; rintro e' V5 ⟨v5, rfl, ho5, hb5⟩; obtain ⟨a5, c5, rfl, _, _, hr5, _⟩ := ownL_row ho5; have hr4k := hr4.below hb5 (Nat.le_refl _); dsimp only
       refine hK.out _ _ ?_ (fun hHeld => ?_)
       ·try dsimp only
        exact hHeld.trans (hb5.mono hHeld.size)
       clear hK K
       try simp only [Act.put, List.setIfInBounds_toArray, List.set_cons_zero, List.set_cons_succ]
       refine wpAnyH_ready (rs := [14]) (by kernel_rfl) (by simp) ?_
       refine AllReadyH.cons (o := _) (by simp only [List.getElem?_toArray, List.getElem?_cons_succ, List.getElem?_cons_zero]; rfl) (fun K hK => ?_) ?_
       ·go_simp; have CE := rbEq (slb Y) (setL yb) a4 a5 c4 c5 _ hr4k hr5 (by have := LX.out; have := LY.out; omega); rw [decide_eq_true EY.out] at CE; refine CE.mono ?_; clear CE; rintro e' V6 ⟨rfl, hb6⟩; dsimp only
        refine hK.out _ _ ?_ (fun hHeld => ?_)
        ·try dsimp only
         exact hHeld.trans (hb6.mono hHeld.size)
        clear hK K
        try simp only [Act.put, List.setIfInBounds_toArray, List.set_cons_zero, List.set_cons_succ]
        refine wpAnyH_take (i := 15) (oi := _) (v := ?_) (by simp only [List.getElem?_toArray, List.getElem?_cons_succ, List.getElem?_cons_zero]; rfl) (by kernel_rfl) (by kernel_rfl) (by kernel_rfl) (by exact fun _ _ _ h => h) (Or.inl ⟨by rfl, ?_⟩) (by assumption) ?_
        rotate_left
        ·intro w hSw; go_simp; try with_reducible rfl
        try simp only [Act.put, List.setIfInBounds_toArray, List.set_cons_zero, List.set_cons_succ]
        refine wpAnyH_take (i := 16) (oi := _) (v := ?_) (by simp only [List.getElem?_toArray, List.getElem?_cons_succ, List.getElem?_cons_zero]; rfl) (by kernel_rfl) (by kernel_rfl) (by kernel_rfl) (by exact fun _ _ _ h => h) (Or.inl ⟨by rfl, ?_⟩) (by assumption) ?_
        rotate_left
        ·intro w hSw; go_simp; try with_reducible rfl
        try simp only [Act.put, List.setIfInBounds_toArray, List.set_cons_zero, List.set_cons_succ]
        refine wpAnyH_take (i := 17) (oi := _) (v := ?_) (by simp only [List.getElem?_toArray, List.getElem?_cons_succ, List.getElem?_cons_zero]; rfl) (by kernel_rfl) (by kernel_rfl) (by kernel_rfl) (by exact fun _ _ _ h => h) (Or.inl ⟨by rfl, ?_⟩) (by assumption) ?_
        rotate_left
        ·intro w hSw; go_simp; try with_reducible rfl
        try simp only [Act.put, List.setIfInBounds_toArray, List.set_cons_zero, List.set_cons_succ]
        refine wpAnyH_take (i := 18) (oi := _) (v := ?_) (by simp only [List.getElem?_toArray, List.getElem?_cons_succ, List.getElem?_cons_zero]; rfl) (by kernel_rfl) (by kernel_rfl) (by kernel_rfl) (by exact fun _ _ _ h => h) (Or.inl ⟨by rfl, ?_⟩) (by assumption) ?_
        rotate_left
        ·intro w hSw; go_simp; try with_reducible rfl
        try simp only [Act.put, List.setIfInBounds_toArray, List.set_cons_zero, List.set_cons_succ]
        refine wpAnyH_take (i := 19) (oi := _) (v := ?_) (by simp only [List.getElem?_toArray, List.getElem?_cons_succ, List.getElem?_cons_zero]; rfl) (by kernel_rfl) (by kernel_rfl) (by kernel_rfl) (by exact fun _ _ _ h => h) (Or.inl ⟨by rfl, ?_⟩) (by assumption) ?_
        rotate_left
        ·intro w hSw; go_simp; try with_reducible rfl
        try simp only [Act.put, List.setIfInBounds_toArray, List.set_cons_zero, List.set_cons_succ]
        refine wpAnyH_ready (rs := [20]) (by kernel_rfl) (by simp) ?_
        refine AllReadyH.cons (o := _) (by simp only [List.getElem?_toArray, List.getElem?_cons_succ, List.getElem?_cons_zero]; rfl) (fun K hK => ?_) ?_
        ·go_simp; refine (lwFile _ _).mono ?_; rintro e' V7 ⟨rfl, hb7⟩; rw [HM.out]; dsimp only
         refine hK.out _ _ ?_ (fun hHeld => ?_)
         ·try dsimp only
          exact hHeld.trans (hb7.mono hHeld.size)
         clear hK K
         try simp only [Act.put, List.setIfInBounds_toArray, List.set_cons_zero, List.set_cons_succ]
         refine wpAnyH_ready (rs := [21]) (by kernel_rfl) (by simp) ?_
         refine AllReadyH.cons (o := _) (by simp only [List.getElem?_toArray, List.getElem?_cons_succ, List.getElem?_cons_zero]; rfl) (fun K hK => ?_) ?_
         ·go_simp; have CE := lbHas pu _ (false, M) _ (Su.out.below hHeld (Nat.le_refl _)).at; rw [HAS.out] at CE; unfold lv at CE; refine CE.mono ?_; clear CE; rintro e' V8 ⟨rfl, hb8⟩; dsimp only
          refine hK.out _ _ ?_ (fun hHeld => ?_)
          ·try dsimp only
           exact hHeld.trans (hb8.mono hHeld.size)
          clear hK K
          try simp only [Act.put, List.setIfInBounds_toArray, List.set_cons_zero, List.set_cons_succ]
          refine wpAnyH_take (i := 22) (oi := _) (v := ?_) (by simp only [List.getElem?_toArray, List.getElem?_cons_succ, List.getElem?_cons_zero]; rfl) (by kernel_rfl) (by kernel_rfl) (by kernel_rfl) (by exact fun _ _ _ h => h) (Or.inl ⟨by rfl, ?_⟩) (by assumption) ?_
          rotate_left
          ·intro w hSw; go_simp; try with_reducible rfl
          try simp only [Act.put, List.setIfInBounds_toArray, List.set_cons_zero, List.set_cons_succ]
          refine wpAnyH_take (i := 23) (oi := _) (v := ?_) (by simp only [List.getElem?_toArray, List.getElem?_cons_succ, List.getElem?_cons_zero]; rfl) (by kernel_rfl) (by kernel_rfl) (by kernel_rfl) (by exact fun _ _ _ h => h) (Or.inl ⟨by rfl, ?_⟩) (by assumption) ?_
          rotate_left
          ·intro w hSw; go_simp; try with_reducible rfl
          try simp only [Act.put, List.setIfInBounds_toArray, List.set_cons_zero, List.set_cons_succ]
          refine wpAnyH_done (by kernel_rfl) ?_ _
          go_wp2_with fail
          go_ret
          exact ⟨rfl, HB.out.trans (hHeld.mono HB.out.size)⟩
         exact AllReadyH.nil
        exact AllReadyH.nil
       exact AllReadyH.nil
      exact AllReadyH.nil
     exact AllReadyH.nil
    exact AllReadyH.nil
   exact AllReadyH.nil
  exact AllReadyH.nil
end Go.Proofs.YtdkainiiinjgmaaGreatDoor.lawLabelsOwn
