import Derived.Test.YtdhmeganlnpohaaGreatDoorMbu
import Derived.Test.YtdhmeganlnpohaaGreatDoorMaf
namespace Go.Proofs.YtdhmeganlnpohaaGreatDoor
open Go.RowKit Go.Shelf Go.Maps
theorem rules_one {n : Nat} {W : World} (hR : BegR n W) {b : Nat} (h : W.heap[b]? = some (.cells (rBc n).toArray 45 (0, 0))) : RulesI W (.slice (some ⟨b, 0, none⟩) 1 1) [rB] := by
 refine ⟨[rBc n], rowsLit (rows := [rBc n]) (k := 5) h (by simp) (show 1 ≤ maxLen by decide), rfl, fun j r x hr hx => ?_⟩
 match j, hr, hx with
 | 0, hr, hx => cases hr; cases hx; exact hR.rule
abbrev rSc (a b c : Nat) : List Value := [.string ⟨#[115]⟩, .slice (some ⟨b, 0, none⟩) 1 1, .slice (some ⟨a, 0, none⟩) 1 1, .slice none 0 0, .slice (some ⟨c, 0, none⟩) 1 1]
theorem rules_two {n a b c d g : Nat} {W : World} (hR : BegR n W) (ha : W.heap[a]? = some (.cells #[.string ⟨#[97]⟩] 9 (0, 0))) (hb : W.heap[b]? = some (.cells #[.string ⟨#[120]⟩] 9 (0, 0))) (hc : W.heap[c]? = some (.cells #[.string ⟨#[120]⟩] 9 (0, 0))) (hd : W.heap[d]? = some (.cells #[.string ⟨#[97]⟩, .int .i64 1, .slice (some ⟨c, 0, none⟩) 1 1, .slice none 0 0, .int .i64 0] 24 (0, 0)))
  (h : W.heap[g]? = some (.cells (rSc a b d ++ rBc n).toArray 45 (0, 0))) : RulesI W (.slice (some ⟨g, 0, none⟩) 2 2) [rS, rB] := by
 have s0 := strsLit (xs := [⟨#[97]⟩]) ha (by decide); have s1 := strsLit (xs := [⟨#[120]⟩]) hb (by decide); have s2 := strsLit (xs := [⟨#[120]⟩]) hc (by decide)
 refine ⟨[rSc a b d, rBc n], rowsLit (rows := [rSc a b d, rBc n]) (k := 5) h (by simp) (show 2 ≤ maxLen by decide), rfl, fun j r x hr hx => ?_⟩
 match j, hr, hx with
 | 0, hr, hx =>
  cases hr; cases hx
  refine ⟨_, _, _, _, rfl, s1, s0, strsNil _, [[.string ⟨#[97]⟩, .int .i64 1, .slice (some ⟨c, 0, none⟩) 1 1, .slice none 0 0, .int .i64 0]], rowsLit (rows := [[.string ⟨#[97]⟩, .int .i64 1, .slice (some ⟨c, 0, none⟩) 1 1, .slice none 0 0, .int .i64 0]]) (k := 5) hd (by simp) (show 1 ≤ maxLen by decide), rfl, fun j r x hr hx => ?_⟩
  match j, hr, hx with
  | 0, hr, hx => cases hr; cases hx; exact ⟨_, _, rfl, s2, strsNil _⟩
 | 1, hr, hx => cases hr; cases hx; exact hR.rule
structure BegX (n vb vo wb wo dg : Nat) (W : World) : Prop where
 v0 : W.cell? ⟨vb, vo, none⟩ = some (.bool true)
 v1 : W.cell? ⟨vb, vo + 1, none⟩ = some (.string ⟨#[50, 10]⟩)
 v2 : W.cell? ⟨vb, vo + 2, none⟩ = some (.bool false)
 w0 : W.cell? ⟨wb, wo, none⟩ = some (.bool false)
 w3 : W.cell? ⟨wb, wo + 3, none⟩ = some (.string ⟨#[122]⟩)
 d1 : W.cell? ⟨dg, 1, none⟩ = some (.string ⟨#[50, 10]⟩)
 d3 : W.cell? ⟨dg, 3, none⟩ = some (.string ⟨#[50, 10, 49]⟩)
 d4 : W.cell? ⟨dg, 4, none⟩ = some (.bool false)
 d5 : W.cell? ⟨dg, 5, none⟩ = some (.string ⟨#[]⟩)
 r0 : W.cell? ⟨n + 1 + 1 + 1 + 1 + 1 + 1, 0, none⟩ = some (.string ⟨#[114]⟩)
 r1 : W.cell? ⟨n + 1 + 1 + 1 + 1 + 1 + 1, 1, none⟩ = some (.slice (some ⟨n, 0, none⟩) 2 2)
 r2 : W.cell? ⟨n + 1 + 1 + 1 + 1 + 1 + 1, 2, none⟩ = some (.slice (some ⟨n + 1, 0, none⟩) 2 2)
 r3 : W.cell? ⟨n + 1 + 1 + 1 + 1 + 1 + 1, 3, none⟩ = some (.slice none 0 0)
 r4 : W.cell? ⟨n + 1 + 1 + 1 + 1 + 1 + 1, 4, none⟩ = some (.slice (some ⟨n + 1 + 1 + 1 + 1 + 1, 0, none⟩) 3 3)
 s0 : W.cell? ⟨n + 1 + 1 + 1 + 1 + 1, 0, none⟩ = some (.string ⟨#[116]⟩)
 s1 : W.cell? ⟨n + 1 + 1 + 1 + 1 + 1, 1, none⟩ = some (.int .i64 3)
 s2 : W.cell? ⟨n + 1 + 1 + 1 + 1 + 1, 2, none⟩ = some (.slice (some ⟨n + 1 + 1, 0, none⟩) 1 1)
 s3 : W.cell? ⟨n + 1 + 1 + 1 + 1 + 1, 3, none⟩ = some (.slice none 0 0)
 s4 : W.cell? ⟨n + 1 + 1 + 1 + 1 + 1, 4, none⟩ = some (.int .i64 0)
set_option maxHeartbeats 32000000
set_option maxRecDepth 100000
theorem begun7_any (w : World) (hg : GP w.heap.size w) : Calls Tryz.prog 15 #[] w fun e w' => e = .returned (.bool true) ∧ Below w.heap.size w w' := by
 have mixed : Tryz.prog.follows .mixedOrders = true := by kernel_rfl
 obtain ⟨n, hnn⟩ : ∃ n, w.heap.size = n := ⟨_, rfl⟩
 obtain ⟨W1, hW1⟩ : ∃ V, begW w n = V := ⟨_, rfl⟩
 have hs1 : W1.heap.size = n + 7 := by rw [← hW1]; exact begW_size w n hnn
 have hup : ∀ W, Below (n + 7) W1 W → Below n w W := fun W hW => by
  have h1 := begW_below w n hnn
  rw [hW1] at h1
  exact h1.trans (hW.mono (by omega))
 have hB : ∀ W, Below (n + 7) W1 W → BegR n W ∧ BegCalls n W := fun W hW => by
  have hR := begR_of w n hnn W (by rw [hW1]; exact hW)
  have hu := hup W hW
  refine ⟨hR, begCalls n W hR ((hg.below (by rw [hnn]; exact hu)).up hu.size)⟩
 have hGl : ∀ W, Below (n + 7) W1 W → Glob W := fun W hW => (hg.below (by rw [hnn]; exact hup W hW)).glob
 have hcB : ∀ W : World, BegR n W → W.cell? ⟨n + 1 + 1 + 1 + 1 + 1 + 1, 0, none⟩ = some (.string ⟨#[114]⟩) ∧ W.cell? ⟨n + 1 + 1 + 1 + 1 + 1 + 1, 1, none⟩ = some (.slice (some ⟨n, 0, none⟩) 2 2) ∧ W.cell? ⟨n + 1 + 1 + 1 + 1 + 1 + 1, 2, none⟩ = some (.slice (some ⟨n + 1, 0, none⟩) 2 2) ∧ W.cell? ⟨n + 1 + 1 + 1 + 1 + 1 + 1, 3, none⟩ = some (.slice none 0 0) ∧ W.cell? ⟨n + 1 + 1 + 1 + 1 + 1 + 1, 4, none⟩ = some (.slice (some ⟨n + 1 + 1 + 1 + 1 + 1, 0, none⟩) 3 3) := fun W hR => by
  obtain ⟨q0, q1, q2, q3, q4, _⟩ := cells5 hR.box
  exact ⟨q0, q1, q2, q3, q4⟩
 have HZ : Hid (∀ W, Below (n + 7) W1 W → n + 7 ≤ W.heap.size) := Lib.hid fun W hW => by have := hW.size; omega
 have HB1 : Hid (Below (n + 7) W1 W1) := Lib.hid (Below.refl _ _)
 unfold begW begO at hW1
 simp only [List.foldl_cons, List.foldl_nil] at hW1
 have HB := Lib.hid hB; have HUP := Lib.hid hup; have HW1 := Lib.hid hW1; have HS1 := Lib.hid hs1; have HGL := Lib.hid hGl; have HCB := Lib.hid hcB
 rw [hnn]
 obtain ⟨f0, f1, f2, f3, f4⟩ := hcB W1 (hB W1 (Below.refl _ _)).1
 clear hg hB hup hW1 hs1 hGl hcB
 go_enter Tryz.func15, Tryz.ntmps15
 go_upto_region 2 with fail
 rw [HW1.out]
 obtain ⟨V2, hV2⟩ : ∃ V, W1.alloc (.cells #[.bool true, .string ⟨#[113, 10, 112]⟩, .bool true, .string ⟨#[]⟩] 34) = V := ⟨_, rfl⟩
 have hB2 : Below (n + 7) W1 V2 := by rw [← hV2]; exact (Below.refl _ _).alloc (by rw [HS1.out]; exact Nat.le_refl _) _
 have c2 := (HB.out V2 hB2).2.of (.slice (some ⟨W1.heap.size, 0, none⟩) 2 2) (valsLit (xs := [(true, ⟨#[113, 10, 112]⟩), (true, ⟨#[]⟩)]) (by rw [← hV2]; exact alloc_at W1 _) (by decide))
 have HV2 := Lib.hid hV2; have HB2 := Lib.hid hB2; have C2 := Lib.hid c2
 clear hV2 hB2 c2
 go_upto_region 3 with (go_at_call 33; rw [HV2.out]; (with_reducible refine C2.out.mono ?_); rintro e w2 ⟨v2, rfl, hv2, hb2⟩; obtain ⟨vb, vo, vc, rfl, hvc, hvm, hvx⟩ := vals_two hv2; have HVX := Lib.hid hvx; have HB3 := Lib.hid (HB2.out.trans (hb2.mono (HZ.out _ HB2.out))); clear hv2 hb2 hvx)
 have hB3 := HB3.out
 obtain ⟨f0, f1, f2, f3, f4⟩ := HCB.out w2 (HB.out w2 hB3).1
 obtain ⟨V3, hV3⟩ : ∃ V, (w2.alloc (.cells #[.string ⟨#[98]⟩] 9)).alloc (.cells #[.bool true, .string ⟨#[122]⟩] 34) = V := ⟨_, rfl⟩
 have hz2 := HZ.out w2 hB3
 have hBV3 : Below (n + 7) W1 V3 := by rw [← hV3]; exact (hB3.alloc hz2 _).alloc (by rw [World.size_alloc]; omega) _
 have c3 := (HB.out V3 hBV3).2.named (.slice (some ⟨w2.heap.size, 0, none⟩) 1 1) (.slice (some ⟨w2.heap.size + 1, 0, none⟩) 1 1) (strsLit (xs := [⟨#[98]⟩]) (by rw [← hV3]; exact allocs_get [_, _] w2 0 _ rfl) (by decide)) (valsLit (xs := [(true, ⟨#[122]⟩)]) (by rw [← hV3]; exact allocs_get [_, _] w2 1 _ rfl) (by decide))
 have h23 : Below w2.heap.size w2 V3 := by rw [← hV3]; exact ((Below.refl _ _).alloc (Nat.le_refl _) _).alloc (by simp) _
 have HV3 := Lib.hid hV3; have HBV3 := Lib.hid hBV3; have C3 := Lib.hid c3; have H23 := Lib.hid h23
 clear hV3 hBV3 c3 hB3 hz2 h23
 go_upto_region 4 with (go_at_call 35; rw [HV3.out]; (with_reducible refine C3.out.mono ?_); rintro e w3 ⟨v3, rfl, hv3, hb3⟩; obtain ⟨wb, wo, wc, rfl, hwc, hwm, hwx⟩ := vals_two hv3; have HWX := Lib.hid hwx; have HB4 := Lib.hid (HBV3.out.trans (hb3.mono (HZ.out _ HBV3.out))); have H23' : Hid (Below w2.heap.size w2 w3) := Lib.hid (H23.out.trans (hb3.mono H23.out.size)); clear hv3 hb3 hwx)
 have hB4 := HB4.out
 have hz3 := HZ.out w3 hB4
 obtain ⟨V4, hV4⟩ : ∃ V, w3.alloc (.cells #[.string ⟨#[97]⟩, .string ⟨#[50, 10, 49]⟩] 81) = V := ⟨_, rfl⟩
 have hBV4 : Below (n + 7) W1 V4 := by rw [← hV4]; exact hB4.alloc hz3 _
 have c4 := new_any (.slice (some ⟨w3.heap.size, 0, none⟩) 1 1) [(⟨#[97]⟩, ⟨#[50, 10, 49]⟩)] V4 (by rw [← hV4]; exact files_of_alloc w3 [(⟨#[97]⟩, ⟨#[50, 10, 49]⟩)] _ rfl (by decide)) (HGL.out V4 hBV4) (by intro x hx; rw [show x = (⟨#[97]⟩, ⟨#[50, 10, 49]⟩) by simpa using hx]; exact ⟨by decide, by decide⟩)
 rw [k_tree] at c4
 have h34 : Below w3.heap.size w3 V4 := by rw [← hV4]; exact (Below.refl _ _).alloc (Nat.le_refl _) _
 have HV4 := Lib.hid hV4; have HBV4 := Lib.hid hBV4; have C4 := Lib.hid c4; have H34 := Lib.hid h34
 clear hV4 hBV4 c4 hB4 hz3 h34 f0 f1 f2 f3 f4
 go_upto_region 5 with (go_at_call 52; rw [HV4.out]; (with_reducible refine C4.out.mono ?_); rintro e w4 ⟨tb, tr, rfl, hT, hb4⟩; have HT := Lib.hid hT; have HB5 := Lib.hid (HBV4.out.trans (hb4.mono (HZ.out _ HBV4.out))); have H34' : Hid (Below w3.heap.size w3 w4) := Lib.hid (H34.out.trans (hb4.mono H34.out.size)); clear hT hb4)
 go_upto_region 7 with fail
 have hB5 := HB5.out
 have hz4 := HZ.out w4 hB5
 obtain ⟨f0, f1, f2, f3, f4⟩ := HCB.out w4 (HB.out w4 hB5).1
 obtain ⟨V5, hV5⟩ : ∃ V, w4.alloc (.cells (rBc n).toArray 45) = V := ⟨_, rfl⟩
 have hBV5 : Below (n + 7) W1 V5 := by rw [← hV5]; exact hB5.alloc hz4 _
 have c5 := (HB.out V5 hBV5).2.all1 (.slice (some ⟨w4.heap.size, 0, none⟩) 1 1) (rules_one (HB.out V5 hBV5).1 (by rw [← hV5]; exact alloc_at w4 _))
 have h45 : Below w4.heap.size w4 V5 := by rw [← hV5]; exact (Below.refl _ _).alloc (Nat.le_refl _) _
 have HV5 := Lib.hid hV5; have HBV5 := Lib.hid hBV5; have C5 := Lib.hid c5; have H45 := Lib.hid h45
 clear hV5 hBV5 c5 hB5 hz4 h45
 go_upto_region 8 with (go_at_call 44; rw [HV5.out]; (with_reducible refine C5.out.mono ?_); rintro e w5 ⟨rfl, hb5⟩; have HB6 := Lib.hid (HBV5.out.trans (hb5.mono (HZ.out _ HBV5.out))); have H45' : Hid (Below w4.heap.size w4 w5) := Lib.hid (H45.out.trans (hb5.mono H45.out.size)); clear hb5)
 have hB6 := HB6.out
 have hz5 := HZ.out w5 hB6
 clear f0 f1 f2 f3 f4
 obtain ⟨m, hm⟩ : ∃ m, w5.heap.size = m := ⟨_, rfl⟩
 obtain ⟨V6, hV6⟩ : ∃ V, ((((w5.alloc (.cells #[.string ⟨#[97]⟩] 9)).alloc (.cells #[.string ⟨#[120]⟩] 9)).alloc (.cells #[.string ⟨#[120]⟩] 9)).alloc (.cells #[.string ⟨#[97]⟩, .int .i64 1, .slice (some ⟨m + 1 + 1, 0, none⟩) 1 1, .slice none 0 0, .int .i64 0] 24)).alloc (.cells (rSc m (m + 1) (m + 1 + 1 + 1) ++ rBc n).toArray 45) = V := ⟨_, rfl⟩
 obtain ⟨V6', hV6'⟩ : ∃ V, (((w5.alloc (.cells #[.string ⟨#[97]⟩] 9)).alloc (.cells #[.string ⟨#[120]⟩] 9)).alloc (.cells #[.string ⟨#[120]⟩] 9)).alloc (.cells #[.string ⟨#[97]⟩, .int .i64 1, .slice (some ⟨m + 1 + 1, 0, none⟩) 1 1, .slice none 0 0, .int .i64 0] 24) = V := ⟨_, rfl⟩
 have h56' : Below w5.heap.size w5 V6' := by rw [← hV6']; exact ((((Below.refl _ _).alloc (Nat.le_refl _) _).alloc (by simp) _).alloc (by simp <;> omega) _).alloc (by simp <;> omega) _
 have hBV6' : Below (n + 7) W1 V6' := hB6.trans (h56'.mono hz5)
 obtain ⟨f0, f1, f2, f3, f4⟩ := HCB.out V6' (HB.out V6' hBV6').1
 have hz6' := HZ.out V6' hBV6'
 have e6 : V6'.alloc (.cells (rSc m (m + 1) (m + 1 + 1 + 1) ++ rBc n).toArray 45) = V6 := by rw [← hV6', hV6]
 have hBV6 : Below (n + 7) W1 V6 := by rw [← e6]; exact hBV6'.alloc hz6' _
 have hg6 : ∀ i o, [(.cells #[.string ⟨#[97]⟩] 9 : Obj), .cells #[.string ⟨#[120]⟩] 9, .cells #[.string ⟨#[120]⟩] 9, .cells #[.string ⟨#[97]⟩, .int .i64 1, .slice (some ⟨m + 1 + 1, 0, none⟩) 1 1, .slice none 0 0, .int .i64 0] 24, .cells (rSc m (m + 1) (m + 1 + 1 + 1) ++ rBc n).toArray 45][i]? = some o → V6.heap[m + i]? = some o := fun i o ho => by
  have := allocs_get [(.cells #[.string ⟨#[97]⟩] 9 : Obj), .cells #[.string ⟨#[120]⟩] 9, .cells #[.string ⟨#[120]⟩] 9, .cells #[.string ⟨#[97]⟩, .int .i64 1, .slice (some ⟨m + 1 + 1, 0, none⟩) 1 1, .slice none 0 0, .int .i64 0] 24, .cells (rSc m (m + 1) (m + 1 + 1 + 1) ++ rBc n).toArray 45] w5 i o ho
  rw [hm] at this
  rw [← hV6]; exact this
 have c6 := (HB.out V6 hBV6).2.all2 (.slice (some ⟨m + 1 + 1 + 1 + 1, 0, none⟩) 2 2) (rules_two (HB.out V6 hBV6).1 (hg6 0 _ rfl) (hg6 1 _ rfl) (hg6 2 _ rfl) (hg6 3 _ rfl) (hg6 4 _ rfl))
 have h56 : Below w5.heap.size w5 V6 := by rw [← e6]; exact h56'.alloc h56'.size _
 have HE6 : Hid (V6'.alloc (.cells #[.string ⟨#[115]⟩, .slice (some ⟨m + 1, 0, none⟩) 1 1, .slice (some ⟨m, 0, none⟩) 1 1, .slice none 0 0, .slice (some ⟨m + 1 + 1 + 1, 0, none⟩) 1 1, .string ⟨#[114]⟩, .slice (some ⟨n, 0, none⟩) 2 2, .slice (some ⟨n + 1, 0, none⟩) 2 2, .slice none 0 0, .slice (some ⟨n + 1 + 1 + 1 + 1 + 1, 0, none⟩) 3 3] 45) = V6) := Lib.hid e6; have HV6' := Lib.hid hV6'; have HBV6 := Lib.hid hBV6; have C6 := Lib.hid c6; have H56 := Lib.hid h56; have HM := Lib.hid hm
 have hs6 : V6'.heap.size = m + 4 := by rw [← hV6']; simp [hm]
 have HS6 := Lib.hid hs6
 clear hV6 hV6' e6 hBV6 hBV6' c6 hB6 hz5 h56 h56' hg6 hz6' hs6
 rw [← HV6'.out] at f0 f1 f2 f3 f4
 go_upto_region 9 with (go_at_call 44; rw [HV6'.out]; (try rw [HE6.out]); (with_reducible refine C6.out.mono ?_); rintro e w6 ⟨rfl, hb6⟩; have HB7 := Lib.hid (HBV6.out.trans (hb6.mono (HZ.out _ HBV6.out))); have H56' : Hid (Below w5.heap.size w5 w6) := Lib.hid (H56.out.trans (hb6.mono H56.out.size)); clear hb6)
 have hB7 := HB7.out
 have hz6 := HZ.out w6 hB7
 clear f0 f1 f2 f3 f4
 obtain ⟨f0, f1, f2, f3, f4⟩ := HCB.out w6 (HB.out w6 hB7).1
 obtain ⟨V7, hV7⟩ : ∃ V, (w6.alloc (.cells (rBc n).toArray 45)).alloc (.cells #[.string ⟨#[120]⟩, .string ⟨#[97]⟩, .string ⟨#[121]⟩] 9) = V := ⟨_, rfl⟩
 have hBV7 : Below (n + 7) W1 V7 := by rw [← hV7]; exact (hB7.alloc hz6 _).alloc (by rw [World.size_alloc]; omega) _
 have h67 : Below w6.heap.size w6 V7 := by rw [← hV7]; exact ((Below.refl _ _).alloc (Nat.le_refl _) _).alloc (by simp) _
 have h46 : Below w4.heap.size w4 w6 := H45'.out.trans (H56'.out.mono H45'.out.size)
 have h47 : Below w4.heap.size w4 V7 := h46.trans (h67.mono h46.size)
 have c7 := (HB.out V7 hBV7).2.files (.slice (some ⟨w6.heap.size, 0, none⟩) 1 1) (.pointer (some ⟨tb, 0, none⟩)) (.slice (some ⟨w6.heap.size + 1, 0, none⟩) 3 3) (rules_one (HB.out V7 hBV7).1 (by rw [← hV7]; exact allocs_get [_, _] w6 0 _ rfl)) ⟨_, rfl⟩ (fun x V _ hV => read_any _ tb tr trB x V (HT.out.below (h47.trans (hV.mono h47.size)))) (strsLit (xs := [⟨#[120]⟩, ⟨#[97]⟩, ⟨#[121]⟩]) (by rw [← hV7]; exact allocs_get [_, _] w6 1 _ rfl) (by decide))
 have h26 : Below w2.heap.size w2 V7 := by
  have h24 := H23'.out.trans (H34'.out.mono H23'.out.size)
  exact h24.trans (h47.mono h24.size)
 have h37 : Below w3.heap.size w3 V7 := H34'.out.trans (h47.mono H34'.out.size)
 have HV7 := Lib.hid hV7; have HBV7 := Lib.hid hBV7; have C7 := Lib.hid c7; have H27 := Lib.hid h26; have H37 := Lib.hid h37
 clear hV7 hBV7 c7 hB7 hz6 h67 h46 h47 h26 h37
 go_upto_region 10 with (go_at_call 46; rw [HV7.out]; (with_reducible refine C7.out.mono ?_); rintro e w7 ⟨dg, rfl, hdr, hb7⟩; have HDR := Lib.hid hdr; have HB8 := Lib.hid (HBV7.out.trans (hb7.mono (HZ.out _ HBV7.out))); have H27' : Hid (Below w2.heap.size w2 w7) := Lib.hid (H27.out.trans (hb7.mono H27.out.size)); have H37' : Hid (Below w3.heap.size w3 w7) := Lib.hid (H37.out.trans (hb7.mono H37.out.size)); clear hdr hb7)
 clear f0 f1 f2 f3 f4
 have hX : ∀ W, Below w7.heap.size w7 W → BegX n vb vo wb wo dg W ∧ BegCalls n W ∧ Below n w W := fun W hW => by
  have hz7 := HZ.out w7 HB8.out
  have hBW : Below (n + 7) W1 W := HB8.out.trans (hW.mono hz7)
  obtain ⟨hR, hC⟩ := HB.out W hBW
  obtain ⟨p0, p1, p2, _⟩ := HVX.out W (H27'.out.trans (hW.mono H27'.out.size))
  obtain ⟨q0, _, _, q3⟩ := HWX.out W (H37'.out.trans (hW.mono H37'.out.size))
  have hD := HDR.out.heap (hW.block dg (by obtain ⟨_, h, _⟩ := HDR.out; exact (Array.getElem?_eq_some_iff.1 h).1))
  obtain ⟨_, d1, _, _⟩ := hD.cells (j := 0) rfl
  obtain ⟨_, d3, _, _⟩ := hD.cells (j := 1) rfl
  obtain ⟨d4, d5, _, _⟩ := hD.cells (j := 2) rfl
  obtain ⟨r0, r1, r2, r3, r4, _⟩ := cells5 hR.box
  have hst : ∀ k u, #[Value.string ⟨#[116]⟩, .int .i64 3, .slice (some ⟨n + 1 + 1, 0, none⟩) 1 1, .slice none 0 0, .int .i64 0, .string ⟨#[120]⟩, .int .i64 4, .slice (some ⟨n + 1 + 1 + 1, 0, none⟩) 1 1, .slice none 0 0, .int .i64 0, .string ⟨#[121]⟩, .int .i64 2, .slice (some ⟨n + 1 + 1 + 1 + 1, 0, none⟩) 1 1, .slice none 0 0, .int .i64 0][k]? = some u → W.cell? ⟨n + 1 + 1 + 1 + 1 + 1, k, none⟩ = some u := fun k u hu => by
   simp only [World.cell?, hR.steps, Option.isSome_none, Bool.false_eq_true, if_false]
   exact hu
  exact ⟨⟨p0, p1, p2, q0, q3, d1, d3, d4, d5, r0, r1, r2, r3, r4, hst 0 _ rfl, hst 1 _ rfl, hst 2 _ rfl, hst 3 _ rfl, hst 4 _ rfl⟩, hC, HUP.out W hBW⟩
 have he1 := eq_vals true true ⟨#[50, 10]⟩ ⟨#[50, 10]⟩
 simp only [beq_self_eq_true, Bool.and_self] at he1
 have HX := Lib.hid hX
 have HK7 : Hid (Below w7.heap.size w7 w7) := Lib.hid (Below.refl _ _)
 obtain ⟨⟨x1, x2, x3, x4, x5, x6, x7, x8, x9, y0, y1, y2, y3, y4, z0, z1, z2, z3, z4⟩, _, _⟩ := hX w7 (Below.refl _ _)
 clear hX
 go_wp2_with fail
 refine ((HX.out w7 HK7.out).2.1.beg4).mono ?_
 rintro e w8 ⟨rfl, hb⟩
 have HK8 : Hid (Below w7.heap.size w7 w8) := Lib.hid (HK7.out.trans (hb.mono HK7.out.size))
 clear hb x1 x2 x3 x4 x5 x6 x7 x8 x9 y0 y1 y2 y3 y4 z0 z1 z2 z3 z4
 obtain ⟨⟨x1, x2, x3, x4, x5, x6, x7, x8, x9, y0, y1, y2, y3, y4, z0, z1, z2, z3, z4⟩, _, _⟩ := HX.out w8 HK8.out
 go_wp2_with fail
 refine ((HX.out w8 HK8.out).2.1.steps).mono ?_
 rintro e w9 ⟨a9, c9, rfl, hb⟩
 have HK9 : Hid (Below w7.heap.size w7 w9) := Lib.hid (HK8.out.trans (hb.mono HK8.out.size))
 clear hb x1 x2 x3 x4 x5 x6 x7 x8 x9 y0 y1 y2 y3 y4 z0 z1 z2 z3 z4
 obtain ⟨⟨x1, x2, x3, x4, x5, x6, x7, x8, x9, y0, y1, y2, y3, y4, z0, z1, z2, z3, z4⟩, _, _⟩ := HX.out w9 HK9.out
 go_wp2_with fail
 refine ((HX.out w9 HK9.out).2.1.reads).mono ?_
 rintro e w10 ⟨a10, c10, rfl, hb⟩
 have HK10 : Hid (Below w7.heap.size w7 w10) := Lib.hid (HK9.out.trans (hb.mono HK9.out.size))
 clear hb x1 x2 x3 x4 x5 x6 x7 x8 x9 y0 y1 y2 y3 y4 z0 z1 z2 z3 z4
 obtain ⟨⟨x1, x2, x3, x4, x5, x6, x7, x8, x9, y0, y1, y2, y3, y4, z0, z1, z2, z3, z4⟩, _, _⟩ := HX.out w10 HK10.out
 go_wp2_with fail
 refine ((HX.out w10 HK10.out).2.1.readsAll).mono ?_
 rintro e w11 ⟨a11, c11, rfl, hb⟩
 have HK11 : Hid (Below w7.heap.size w7 w11) := Lib.hid (HK10.out.trans (hb.mono HK10.out.size))
 clear hb x1 x2 x3 x4 x5 x6 x7 x8 x9 y0 y1 y2 y3 y4 z0 z1 z2 z3 z4
 obtain ⟨⟨x1, x2, x3, x4, x5, x6, x7, x8, x9, y0, y1, y2, y3, y4, z0, z1, z2, z3, z4⟩, _, _⟩ := HX.out w11 HK11.out
 go_wp2_with fail
 refine ((HX.out w11 HK11.out).2.1.dead).mono ?_
 rintro e w12 ⟨a12, c12, rfl, hb⟩
 have HK12 : Hid (Below w7.heap.size w7 w12) := Lib.hid (HK11.out.trans (hb.mono HK11.out.size))
 clear hb x1 x2 x3 x4 x5 x6 x7 x8 x9 y0 y1 y2 y3 y4 z0 z1 z2 z3 z4
 obtain ⟨⟨x1, x2, x3, x4, x5, x6, x7, x8, x9, y0, y1, y2, y3, y4, z0, z1, z2, z3, z4⟩, _, _⟩ := HX.out w12 HK12.out
 go_wp2_with fail
 refine ((HX.out w12 HK12.out).2.1.eq).mono ?_
 rintro e w13 ⟨rfl, hb⟩
 have HK13 : Hid (Below w7.heap.size w7 w13) := Lib.hid (HK12.out.trans (hb.mono HK12.out.size))
 clear hb x1 x2 x3 x4 x5 x6 x7 x8 x9 y0 y1 y2 y3 y4 z0 z1 z2 z3 z4
 obtain ⟨⟨x1, x2, x3, x4, x5, x6, x7, x8, x9, y0, y1, y2, y3, y4, z0, z1, z2, z3, z4⟩, _, _⟩ := HX.out w13 HK13.out
 go_wp2_with fail
 refine ((HX.out w13 HK13.out).2.1.rule).mono ?_
 rintro e w14 ⟨rfl, hb⟩
 have HK14 : Hid (Below w7.heap.size w7 w14) := Lib.hid (HK13.out.trans (hb.mono HK13.out.size))
 clear hb x1 x2 x3 x4 x5 x6 x7 x8 x9 y0 y1 y2 y3 y4 z0 z1 z2 z3 z4
 obtain ⟨⟨x1, x2, x3, x4, x5, x6, x7, x8, x9, y0, y1, y2, y3, y4, z0, z1, z2, z3, z4⟩, _, _⟩ := HX.out w14 HK14.out
 go_wp2_with fail
 refine ((HX.out w14 HK14.out).2.1.may).mono ?_
 rintro e w15 ⟨rfl, hb⟩
 have HK15 : Hid (Below w7.heap.size w7 w15) := Lib.hid (HK14.out.trans (hb.mono HK14.out.size))
 clear hb x1 x2 x3 x4 x5 x6 x7 x8 x9 y0 y1 y2 y3 y4 z0 z1 z2 z3 z4
 obtain ⟨⟨x1, x2, x3, x4, x5, x6, x7, x8, x9, y0, y1, y2, y3, y4, z0, z1, z2, z3, z4⟩, _, _⟩ := HX.out w15 HK15.out
 go_wp2_with fail
 refine ((HX.out w15 HK15.out).2.1.lines).mono ?_
 rintro e w16 ⟨a16, c16, rfl, hb⟩
 have HK16 : Hid (Below w7.heap.size w7 w16) := Lib.hid (HK15.out.trans (hb.mono HK15.out.size))
 clear hb x1 x2 x3 x4 x5 x6 x7 x8 x9 y0 y1 y2 y3 y4 z0 z1 z2 z3 z4
 go_wp2
 go_ret
 exact ⟨rfl, (HX.out w16 HK16.out).2.2⟩
end Go.Proofs.YtdhmeganlnpohaaGreatDoor
