import Derived.StillTailTactics
import Derived.Test.YtdhmeganlnpohaaGreatDoorMaz
import Derived.Test.YtdhmeganlnpohaaGreatDoorMaa
namespace Go.Proofs.YtdhmeganlnpohaaGreatDoor
open Go.RowKit Go.Shelf Go.Sort
set_option maxHeartbeats 4000000
set_option maxRecDepth 100000
abbrev stepV (x : StepS) (a1 a2 : Option Addr) (c1 c2 : Nat) : Array Value := #[.string x.out, .int .i64 x.op, .slice a1 x.args.length c1, .slice a2 x.lits.length c2, .int .i64 x.n]
def ChgPost (x : StepS) (s : ByteArray) (w : World) (e : Ending) (w' : World) : Prop := e = .returned (valE (outV (doT x [s.data.toList]))) ∧ Below w.heap.size w w'
structure ChgB (w : World) (x : StepS) (a1 a2 : Option Addr) (c1 c2 : Nat) (W1 : World) : Prop where
 size : W1.heap.size = w.heap.size + 1 + 1
 below : Below w.heap.size w W1
 cells : ∀ W, Below W1.heap.size W1 W → W.cell? ⟨w.heap.size, 0, none⟩ = some (.string x.out) ∧ W.cell? ⟨w.heap.size, 1, none⟩ = some (.int .i64 x.op) ∧ W.cell? ⟨w.heap.size, 2, none⟩ = some (.slice a1 x.args.length c1) ∧ W.cell? ⟨w.heap.size, 3, none⟩ = some (.slice a2 x.lits.length c2) ∧ W.cell? ⟨w.heap.size, 4, none⟩ = some (.int .i64 x.n)
 res : ∀ W, Below W1.heap.size W1 W → W.heap[w.heap.size + 1]? = some (.cells #[.bool false, .string ⟨#[]⟩] 34)
theorem chgB (w : World) (x : StepS) (a1 a2 : Option Addr) (c1 c2 : Nat) : ChgB w x a1 a2 c1 c2 ((w.alloc (.cells (stepV x a1 a2 c1 c2) 24)).alloc (.cells #[.bool false, .string ⟨#[]⟩] 34)) := by
 have hs : ((w.alloc (.cells (stepV x a1 a2 c1 c2) 24)).alloc (.cells #[.bool false, .string ⟨#[]⟩] 34)).heap.size = w.heap.size + 1 + 1 := by simp
 refine ⟨hs, ((Below.refl _ _).alloc (Nat.le_refl _) _).alloc (by simp) _, fun W h => ?_, fun W h => ?_⟩
 ·exact stepBox w x a1 a2 c1 c2 (((Below.refl _ _).alloc (by simp) _).trans (h.mono (by rw [hs]; omega)))
 ·have := alloc_at (w.alloc (.cells (stepV x a1 a2 c1 c2) 24)) (.cells #[.bool false, .string ⟨#[]⟩] 34)
  rw [World.size_alloc] at this
  exact (h.block _ (by rw [hs]; omega)).trans this
theorem ChgB.val {w : World} {x : StepS} {a1 a2 : Option Addr} {c1 c2 : Nat} {W1 : World} (h : ChgB w x a1 a2 c1 c2 W1) {W : World} (hb : Below W1.heap.size W1 W) : W.cell? ⟨w.heap.size + 1, 0, none⟩ = some (.bool false) ∧ W.cell? ⟨w.heap.size + 1, 1, none⟩ = some (.string ⟨#[]⟩) ∧ W.frozen? ⟨w.heap.size + 1, 0, none⟩ = false ∧ W.frozen? ⟨w.heap.size + 1, 1, none⟩ = false := cells2 (h.res W hb)
theorem strs_at (W : World) (t : ByteArray) (n : Nat) (hn : W.heap.size = n) : IsStrs (W.alloc (.cells #[.string t] 9)) (.slice (some ⟨n, 0, none⟩) 1 1) [t] := by
 subst hn; exact strs_one W t (Below.refl _ _)
theorem strs_two (W : World) (t u : ByteArray) : IsStrs (W.alloc (.cells #[.string t, .string u] 9)) (.slice (some ⟨W.heap.size, 0, none⟩) 2 2) [t, u] := by
  refine ⟨_, 2, rfl, Nat.le_refl _, by decide, fun _ => ⟨W.heap.size, 0, rfl, by simp, fun j x hx => ?_⟩⟩
  have h := alloc_at W (.cells #[.string t, .string u] 9)
  obtain ⟨c0, c1, _, _⟩ := cells2 h
  match j with
  | 0 => obtain rfl : t = x := by simpa using hx
         exact c0
  | 1 => obtain rfl : u = x := by simpa using hx
         exact c1
  | j + 2 => simp at hx
theorem whole_one (W : World) (t : ByteArray) (n : Nat) (hn : W.heap.size = n) (ht : t.size ≤ 1000000000) :
  Calls Tryz.prog 87 #[.slice (some ⟨n, 0, none⟩) 1 1] (W.alloc (.cells #[.string t] 9)) fun e w' => e = .returned (valE (capV t.data.toList)) ∧ Below W.heap.size W w' := by
 have := whole_any _ [t] _ (strs_at W t n hn) (by simp) (by simpa [← Lib.size_eq] using ht)
 rw [show ([t].map (·.data.toList)).flatten = t.data.toList by simp] at this
 refine this.mono ?_
 rintro e w' ⟨rfl, hb⟩
 exact ⟨rfl, ((Below.refl _ _).alloc (Nat.le_refl _) _).trans (hb.mono (by simp))⟩
theorem chg_copy (x : StepS) (a1 a2 : Option Addr) (c1 c2 : Nat) (s : ByteArray) (w : World) (hop : x.op = 1) (hs : s.size ≤ 900000000) :
  Calls Tryz.prog 88 #[.agg (stepV x a1 a2 c1 c2), .string s] w (ChgPost x s w) := by
 have hB := chgB w x a1 a2 c1 c2
 obtain ⟨R, hR⟩ : ∃ R, outV (doT x [s.data.toList]) = R := ⟨_, rfl⟩
 unfold ChgPost
 rw [hR]
 unfold doT at hR
 rw [if_neg (by rw [hop]; decide), if_neg (by rw [hop]; decide), if_neg (by rw [hop]; decide), if_neg (by rw [hop]; decide), if_neg (by rw [hop]; decide), if_neg (by rw [hop]; decide), if_neg (by rw [hop]; decide), if_neg (by rw [hop]; decide)] at hR
 simp only [List.headD_cons, outV] at hR
 obtain ⟨W1, hW1⟩ : ∃ W1, (w.alloc (.cells (stepV x a1 a2 c1 c2) 24)).alloc (.cells #[.bool false, .string ⟨#[]⟩] 34) = W1 := ⟨_, rfl⟩
 obtain ⟨d0, d1, d2, d3, d4⟩ := hB.cells _ (Below.refl _ _)
 rw [hW1] at hB
 have HB := Lib.hid hB; have HW := Lib.hid hW1; have HR := Lib.hid hR
 have R1 : Hid (Below W1.heap.size W1 W1) := Lib.hid (Below.refl _ _)
 obtain ⟨ok, t, e1, e2⟩ := valE_two (v := capV s.data.toList)
 have cW := whole_one W1 s (w.heap.size + 1 + 1) hB.size (by omega)
 rw [e2] at cW
 have CW := Lib.hid cW; have HE := Lib.hid e1
 clear cW e1 e2
 clear hB hW1 hR
 obtain ⟨out, op, args, lits, n⟩ := x
 simp only [stepV] at d0 d1 d2 d3 d4 hop ⊢
 subst hop
 go_enter Tryz.func88, Tryz.ntmps88
 go_wp2_with fail
 rw [HW.out]
 refine CW.out.mono ?_
 rintro e w2 ⟨rfl, hb2⟩
 have H2 := Lib.hid hb2
 clear hb2 d0 d1 d2 d3 d4
 obtain ⟨g0, g1, g2, g3⟩ := HB.out.val H2.out
 have HX := Lib.hid (HB.out.res _ H2.out)
 go_wp2
 refine bodyPost_ret (results_c rfl _ _ (w.heap.size + 1) _ _ _ _ rfl (heap_set _ _ (heap_set _ _ HX.out)) Tryz.underlying34 rfl (by kernel_rfl)) rfl ?_
 exact ⟨by rw [← HR.out, HE.out]; rfl, ((HB.out.below.trans (H2.out.mono HB.out.below.size)).setCell (p := ⟨w.heap.size + 1, 0, none⟩) (Nat.le_succ _) _).setCell (p := ⟨w.heap.size + 1, 1, none⟩) (Nat.le_succ _) _⟩
theorem chg_need (x : StepS) (a1 a2 : Option Addr) (c1 c2 : Nat) (s : ByteArray) (w : World) (hop : x.op = 2) (hs : s.size ≤ 900000000) :
  Calls Tryz.prog 88 #[.agg (stepV x a1 a2 c1 c2), .string s] w (ChgPost x s w) := by
 have hB := chgB w x a1 a2 c1 c2
 obtain ⟨R, hR⟩ : ∃ R, outV (doT x [s.data.toList]) = R := ⟨_, rfl⟩
 unfold ChgPost
 rw [hR]
 unfold doT at hR
 rw [if_pos hop] at hR
 simp only [List.headD_cons] at hR
 have hR2 : (if s.data.toList = [] then noV else capV s.data.toList) = R := by
  rw [← hR]; by_cases h : s.data.toList = [] <;> simp [h, outV]
 obtain ⟨W1, hW1⟩ : ∃ W1, (w.alloc (.cells (stepV x a1 a2 c1 c2) 24)).alloc (.cells #[.bool false, .string ⟨#[]⟩] 34) = W1 := ⟨_, rfl⟩
 obtain ⟨d0, d1, d2, d3, d4⟩ := hB.cells _ (Below.refl _ _)
 rw [hW1] at hB
 have HB := Lib.hid hB; have HW := Lib.hid hW1; have HR := Lib.hid hR
 have R1 : Hid (Below W1.heap.size W1 W1) := Lib.hid (Below.refl _ _)
 have cW := need_any s W1 (by omega)
 rw [hR2] at cW
 obtain ⟨ok, t, e1, e2⟩ := valE_two (v := R)
 rw [e2] at cW
 have CW := Lib.hid cW; have HE := Lib.hid e1
 clear cW e1 e2 hR2
 clear hB hW1 hR
 obtain ⟨out, op, args, lits, n⟩ := x
 simp only [stepV] at d0 d1 d2 d3 d4 hop ⊢
 subst hop
 go_enter Tryz.func88, Tryz.ntmps88
 go_wp2_with fail
 rw [HW.out]
 refine CW.out.mono ?_
 rintro e w2 ⟨rfl, hb2⟩
 have H2 := Lib.hid hb2
 clear hb2 d0 d1 d2 d3 d4
 obtain ⟨g0, g1, g2, g3⟩ := HB.out.val H2.out
 have HX := Lib.hid (HB.out.res _ H2.out)
 go_wp2
 refine bodyPost_ret (results_c rfl _ _ (w.heap.size + 1) _ _ _ _ rfl (heap_set _ _ (heap_set _ _ HX.out)) Tryz.underlying34 rfl (by kernel_rfl)) rfl ?_
 exact ⟨by rw [HE.out]; rfl, ((HB.out.below.trans (H2.out.mono HB.out.below.size)).setCell (p := ⟨w.heap.size + 1, 0, none⟩) (Nat.le_succ _) _).setCell (p := ⟨w.heap.size + 1, 1, none⟩) (Nat.le_succ _) _⟩
theorem chg_sort (x : StepS) (a1 a2 : Option Addr) (c1 c2 : Nat) (s : ByteArray) (w : World) (hop : x.op = 3) (hs : s.size ≤ 900000000) :
  Calls Tryz.prog 88 #[.agg (stepV x a1 a2 c1 c2), .string s] w (ChgPost x s w) := by
 have hB := chgB w x a1 a2 c1 c2
 obtain ⟨R, hR⟩ : ∃ R, outV (doT x [s.data.toList]) = R := ⟨_, rfl⟩
 unfold ChgPost
 rw [hR]
 unfold doT at hR
 rw [if_neg (by rw [hop]; decide), if_pos hop] at hR
 simp only [List.headD_cons, outV] at hR
 obtain ⟨W1, hW1⟩ : ∃ W1, (w.alloc (.cells (stepV x a1 a2 c1 c2) 24)).alloc (.cells #[.bool false, .string ⟨#[]⟩] 34) = W1 := ⟨_, rfl⟩
 obtain ⟨d0, d1, d2, d3, d4⟩ := hB.cells _ (Below.refl _ _)
 rw [hW1] at hB
 have HB := Lib.hid hB; have HW := Lib.hid hW1; have HR := Lib.hid hR
 have R1 : Hid (Below W1.heap.size W1 W1) := Lib.hid (Below.refl _ _)
 have cS := stepSorted_any s W1 hs
 obtain ⟨J, hJ⟩ : ∃ J, joinN (srtL (linesL s.data.toList)) = J := ⟨_, rfl⟩
 have hJl : J.length ≤ s.size + 1 := by rw [← hJ, joinN_perm (srtL_perm' _)]; exact joinL_len s
 obtain ⟨T, hT⟩ : ∃ T : ByteArray, (⟨J.toArray⟩ : ByteArray) = T := ⟨_, rfl⟩
 rw [hJ, hT] at cS
 rw [hJ] at hR
 have HTJ := Lib.hid (show T.data.toList = J by rw [← hT])
 have HT := Lib.hid (show T.size ≤ 1000000000 by rw [← hT]; show J.toArray.size ≤ _; rw [List.size_toArray]; omega)
 have CS := Lib.hid cS
 have HR := Lib.hid hR
 clear cS hJ hJl hT
 clear hB hW1 hR
 obtain ⟨out, op, args, lits, n⟩ := x
 simp only [stepV] at d0 d1 d2 d3 d4 hop ⊢
 subst hop
 go_enter Tryz.func88, Tryz.ntmps88
 go_wp2_with fail
 rw [HW.out]
 refine CS.out.mono ?_
 rintro e w2 ⟨rfl, hb2⟩
 have H2 := Lib.hid hb2
 have cW := whole_one w2 T w2.heap.size rfl HT.out
 rw [HTJ.out, HR.out] at cW
 obtain ⟨ok, t, e1, e2⟩ := valE_two (v := R)
 rw [e2] at cW
 have CW := Lib.hid cW; have HE := Lib.hid e1
 clear hb2 cW e1 e2 d0 d1 d2 d3 d4
 go_wp2_with fail
 refine CW.out.mono ?_
 rintro e w3 ⟨rfl, hb3⟩
 have H3 := Lib.hid (H2.out.trans (hb3.mono H2.out.size))
 clear hb3
 obtain ⟨g0, g1, g2, g3⟩ := HB.out.val H3.out
 have HX := Lib.hid (HB.out.res _ H3.out)
 go_wp2
 refine bodyPost_ret (results_c rfl _ _ (w.heap.size + 1) _ _ _ _ rfl (heap_set _ _ (heap_set _ _ HX.out)) Tryz.underlying34 rfl (by kernel_rfl)) rfl ?_
 exact ⟨by rw [HE.out]; rfl, ((HB.out.below.trans (H3.out.mono HB.out.below.size)).setCell (p := ⟨w.heap.size + 1, 0, none⟩) (Nat.le_succ _) _).setCell (p := ⟨w.heap.size + 1, 1, none⟩) (Nat.le_succ _) _⟩
theorem chg_count (x : StepS) (a1 a2 : Option Addr) (c1 c2 : Nat) (s : ByteArray) (w : World) (hop : x.op = 4) (hs : s.size ≤ 900000000) (hG : Glob w) :
  Calls Tryz.prog 88 #[.agg (stepV x a1 a2 c1 c2), .string s] w (ChgPost x s w) := by
 have hB := chgB w x a1 a2 c1 c2
 obtain ⟨R, hR⟩ : ∃ R, outV (doT x [s.data.toList]) = R := ⟨_, rfl⟩
 unfold ChgPost
 rw [hR]
 unfold doT at hR
 rw [if_neg (by rw [hop]; decide), if_neg (by rw [hop]; decide), if_pos hop] at hR
 simp only [List.headD_cons, outV] at hR
 obtain ⟨W1, hW1⟩ : ∃ W1, (w.alloc (.cells (stepV x a1 a2 c1 c2) 24)).alloc (.cells #[.bool false, .string ⟨#[]⟩] 34) = W1 := ⟨_, rfl⟩
 obtain ⟨d0, d1, d2, d3, d4⟩ := hB.cells _ (Below.refl _ _)
 rw [hW1] at hB
 have HB := Lib.hid hB; have HW := Lib.hid hW1; have HR := Lib.hid hR
 have R1 : Hid (Below W1.heap.size W1 W1) := Lib.hid (Below.refl _ _)
 have CS := Lib.hid (stepLines_any s W1 (by omega))
 have HLN := Lib.hid (show (linesB s).length ≤ 900000000 by have := linesB_len s; omega)
 have HLL := Lib.hid (show (linesB s).length = (linesL s.data.toList).length by unfold linesB; rw [List.length_map])
 have hbw := hB.below
 have HG : Hid (∀ W, Below W1.heap.size W1 W → Glob W) := by show ∀ W, _; exact fun W h => hG.below (hbw.trans (h.mono hbw.size))
 have HR := Lib.hid hR
 clear hbw hG
 clear hB hW1 hR
 obtain ⟨out, op, args, lits, n⟩ := x
 simp only [stepV] at d0 d1 d2 d3 d4 hop ⊢
 subst hop
 go_enter Tryz.func88, Tryz.ntmps88
 go_wp2_with fail
 rw [HW.out]
 refine CS.out.mono ?_
 rintro e w2 ⟨v, rfl, hown, hnil, hb2⟩
 have hv : ∃ a c, v = .slice a (linesB s).length c := by
  rcases hown.2 with ⟨h, h'⟩ | ⟨g, c, cur, h, _⟩
  ·exact ⟨none, 0, by rw [h]; simp only [h']⟩
  ·exact ⟨_, _, h⟩
 obtain ⟨a, c, rfl⟩ := hv
 have H2 := Lib.hid hb2
 have hln := HLN.out
 obtain ⟨N, hN⟩ : ∃ N, (linesB s).length = N := ⟨_, rfl⟩
 rw [hN] at hln ⊢
 have HN := Lib.hid hN
 clear hown hnil hb2 hN
 have cN := number_any (N : Int) (by omega) (by omega) w2 (HG.out _ H2.out)
 have hnS : numS (N : Int) = Lib.itoa (N : Int) := by unfold numS; rw [Int.max_eq_left (by omega)]
 rw [hnS] at cN
 obtain ⟨D, hD⟩ : ∃ D : ByteArray, (⟨(Lib.itoa (N : Int)).toArray⟩ : ByteArray) = D := ⟨_, rfl⟩
 rw [hD] at cN
 have HD := Lib.hid (show D.data.toList = Lib.itoa (N : Int) by rw [← hD])
 have HDL := Lib.hid (show D.size ≤ 21 by rw [← hD]; show (Lib.itoa (N : Int)).toArray.size ≤ _; rw [List.size_toArray]; exact Lib.itoa_length_le _ (by omega) (by omega))
 have CN := Lib.hid cN
 clear cN hnS hD d0 d1 d2 d3 d4
 go_wp2_with fail
 refine CN.out.mono ?_
 rintro e w3 ⟨rfl, hb3⟩
 have H3 := Lib.hid (H2.out.trans (hb3.mono H2.out.size))
 have cW := whole_any (.slice (some ⟨w3.heap.size, 0, none⟩) 2 2) [D, ⟨#[10]⟩] (w3.alloc (.cells #[.string D, .string ⟨#[10]⟩] 9)) (strs_two w3 D ⟨#[10]⟩) (by simp) (by have := HDL.out; simp; omega)
 rw [show ([D, ⟨#[10]⟩].map (·.data.toList)).flatten = Lib.itoa ((linesL s.data.toList).length : Int) ++ [10] by rw [← HLL.out, HN.out]; simp [HD.out], HR.out] at cW
 obtain ⟨ok, t, e1, e2⟩ := valE_two (v := R)
 rw [e2] at cW
 have CW := Lib.hid cW; have HE := Lib.hid e1
 clear hb3 cW e1 e2
 go_wp2_with fail
 refine CW.out.mono ?_
 rintro e w4 ⟨rfl, hb4⟩
 have H4 := Lib.hid (H3.out.trans ((((Below.refl _ _).alloc (Nat.le_refl _) _).trans (hb4.mono (by simp))).mono H3.out.size))
 clear hb4
 obtain ⟨g0, g1, g2, g3⟩ := HB.out.val H4.out
 have HX := Lib.hid (HB.out.res _ H4.out)
 go_wp2
 refine bodyPost_ret (results_c rfl _ _ (w.heap.size + 1) _ _ _ _ rfl (heap_set _ _ (heap_set _ _ HX.out)) Tryz.underlying34 rfl (by kernel_rfl)) rfl ?_
 exact ⟨by rw [HE.out]; rfl, ((HB.out.below.trans (H4.out.mono HB.out.below.size)).setCell (p := ⟨w.heap.size + 1, 0, none⟩) (Nat.le_succ _) _).setCell (p := ⟨w.heap.size + 1, 1, none⟩) (Nat.le_succ _) _⟩
theorem chg_select (x : StepS) (a1 a2 : Option Addr) (c1 c2 : Nat) (s : ByteArray) (m : Int) (w : World) (hop : x.op = 7) (hs : s.size ≤ 900000000) (hl : IsStrs w (.slice a2 x.lits.length c2) x.lits) (hll : x.lits.length = 1) (hgb : 1 < w.heap.size) (hm : w.cell? ⟨1, 0, none⟩ = some (.int .i64 m)) :
  Calls Tryz.prog 88 #[.agg (stepV x a1 a2 c1 c2), .string s] w (ChgPost x s w) := by
 have hB := chgB w x a1 a2 c1 c2
 obtain ⟨R, hR⟩ : ∃ R, outV (doT x [s.data.toList]) = R := ⟨_, rfl⟩
 unfold ChgPost
 rw [hR]
 unfold doT at hR
 rw [if_neg (by rw [hop]; decide), if_neg (by rw [hop]; decide), if_neg (by rw [hop]; decide), if_neg (by rw [hop]; decide), if_neg (by rw [hop]; decide), if_pos hop] at hR
 simp only [List.headD_cons, outV] at hR
 obtain ⟨aa, cc, e, _, hcm, hlc⟩ := isStrs_cells hl
 cases e
 obtain ⟨l0, hl0⟩ : ∃ y, x.lits[0]? = some y := ⟨x.lits[0], List.getElem?_eq_getElem (by omega)⟩
 obtain ⟨lb, lo, hla, hlc0⟩ := hlc 0 l0 hl0
 have hlt : litT x 0 = l0.data.toList := by unfold litT; rw [List.getD_eq_getElem?_getD, hl0]; rfl
 rw [hlt] at hR
 obtain ⟨W1, hW1⟩ : ∃ W1, (w.alloc (.cells (stepV x a1 a2 c1 c2) 24)).alloc (.cells #[.bool false, .string ⟨#[]⟩] 34) = W1 := ⟨_, rfl⟩
 obtain ⟨d0, d1, d2, d3, d4⟩ := hB.cells _ (Below.refl _ _)
 rw [hW1] at hB
 have HB := Lib.hid hB; have HW := Lib.hid hW1; have HR := Lib.hid hR
 have R1 : Hid (Below W1.heap.size W1 W1) := Lib.hid (Below.refl _ _)
 have q0 := hlc0 W1 hB.below
 simp only [Nat.add_zero] at q0
 subst hla
 have cS := stepSelected_any s l0 m W1 hs (by have := hB.size; omega) ((hB.below.cell (p := ⟨_, 0, none⟩) hgb).trans hm)
 obtain ⟨J, hJ⟩ : ∃ J, joinN ((linesL s.data.toList).filter fun l => Lib.contains l l0.data.toList) = J := ⟨_, rfl⟩
 have hJl : J.length ≤ s.size + 1 := by
  rw [← hJ]
  have := sumlen_filter (fun l => Lib.contains l l0.data.toList) (linesL s.data.toList)
  have := joinL_len s
  omega
 obtain ⟨T, hT⟩ : ∃ T : ByteArray, (⟨J.toArray⟩ : ByteArray) = T := ⟨_, rfl⟩
 rw [hJ, hT] at cS
 rw [hJ] at hR
 have HTJ := Lib.hid (show T.data.toList = J by rw [← hT])
 have HT := Lib.hid (show T.size ≤ 1000000000 by rw [← hT]; show J.toArray.size ≤ _; rw [List.size_toArray]; omega)
 have CS := Lib.hid cS
 have HR := Lib.hid hR
 clear cS hJ hJl hT hlc hlc0 hlt hl hgb hm
 have q1 : ((w.alloc (.cells (stepV x (a1) (some ⟨lb, lo, none⟩) c1 c2) 24)).alloc (.cells #[.bool false, .string ⟨#[]⟩] 34)).cell? ⟨lb, lo, none⟩ = some (.string l0) := by rw [hW1]; exact q0
 have hpos : (0 : Int) < (x.lits.length : Int) := by omega
 unfold maxLen at hcm
 clear hl0
 clear hB hW1 hR
 obtain ⟨out, op, args, lits, n⟩ := x
 simp only [stepV] at d0 d1 d2 d3 d4 hop hpos hcm ⊢
 subst hop
 simp only [stepV] at q1
 clear hll
 go_enter Tryz.func88, Tryz.ntmps88
 go_wp2_with fail
 rw [HW.out]
 refine CS.out.mono ?_
 rintro e w2 ⟨rfl, hb2⟩
 have H2 := Lib.hid hb2
 have cW := whole_one w2 T w2.heap.size rfl HT.out
 rw [HTJ.out, HR.out] at cW
 obtain ⟨ok, t, e1, e2⟩ := valE_two (v := R)
 rw [e2] at cW
 have CW := Lib.hid cW; have HE := Lib.hid e1
 clear hb2 cW e1 e2 d0 d1 d2 d3 d4
 go_wp2_with fail
 refine CW.out.mono ?_
 rintro e w3 ⟨rfl, hb3⟩
 have H3 := Lib.hid (H2.out.trans (hb3.mono H2.out.size))
 clear hb3
 obtain ⟨g0, g1, g2, g3⟩ := HB.out.val H3.out
 have HX := Lib.hid (HB.out.res _ H3.out)
 go_wp2
 refine bodyPost_ret (results_c rfl _ _ (w.heap.size + 1) _ _ _ _ rfl (heap_set _ _ (heap_set _ _ HX.out)) Tryz.underlying34 rfl (by kernel_rfl)) rfl ?_
 exact ⟨by rw [HE.out]; rfl, ((HB.out.below.trans (H3.out.mono HB.out.below.size)).setCell (p := ⟨w.heap.size + 1, 0, none⟩) (Nat.le_succ _) _).setCell (p := ⟨w.heap.size + 1, 1, none⟩) (Nat.le_succ _) _⟩
theorem chg_replace (x : StepS) (a1 a2 : Option Addr) (c1 c2 : Nat) (s : ByteArray) (m : Int) (w : World) (hop : x.op = 8) (hs : s.size ≤ 900000000) (hl : IsStrs w (.slice a2 x.lits.length c2) x.lits) (hll : x.lits.length = 2) (hl100 : ∀ l ∈ x.lits, l.size ≤ 100) (hfo : firstOk x.lits = true) (hgb : 1 < w.heap.size) (hm : w.cell? ⟨1, 0, none⟩ = some (.int .i64 m)) :
  Calls Tryz.prog 88 #[.agg (stepV x a1 a2 c1 c2), .string s] w (ChgPost x s w) := by
 have hB := chgB w x a1 a2 c1 c2
 obtain ⟨R, hR⟩ : ∃ R, outV (doT x [s.data.toList]) = R := ⟨_, rfl⟩
 unfold ChgPost
 rw [hR]
 unfold doT at hR
 rw [if_neg (by rw [hop]; decide), if_neg (by rw [hop]; decide), if_neg (by rw [hop]; decide), if_neg (by rw [hop]; decide), if_neg (by rw [hop]; decide), if_neg (by rw [hop]; decide), if_pos hop] at hR
 simp only [List.headD_cons, outV] at hR
 obtain ⟨aa, cc, e, _, hcm, hlc⟩ := isStrs_cells hl
 cases e
 obtain ⟨l0, hl0⟩ : ∃ y, x.lits[0]? = some y := ⟨x.lits[0], List.getElem?_eq_getElem (by omega)⟩
 obtain ⟨lb, lo, hla, hlc0⟩ := hlc 0 l0 hl0
 obtain ⟨l1, hl1⟩ : ∃ y, x.lits[1]? = some y := ⟨x.lits[1], List.getElem?_eq_getElem (by omega)⟩
 obtain ⟨lb1, lo1, hla1, hlc1⟩ := hlc 1 l1 hl1
 have hlt : litT x 0 = l0.data.toList := by unfold litT; rw [List.getD_eq_getElem?_getD, hl0]; rfl
 have hlt1 : litT x 1 = l1.data.toList := by unfold litT; rw [List.getD_eq_getElem?_getD, hl1]; rfl
 rw [hlt, hlt1] at hR
 have h0s : 1 ≤ l0.size := by
  cases hx : x.lits with
  | nil => rw [hx] at hl0; simp at hl0
  | cons y r =>
   rw [hx] at hl0 hfo
   obtain rfl : y = l0 := by simpa using hl0
   unfold firstOk at hfo
   simp only at hfo
   rw [Lib.size_eq]
   refine List.length_pos_iff.2 fun e => ?_
   rw [ByteArray.toList_eq, e] at hfo
   simp at hfo
 have h0b := hl100 l0 (List.mem_of_getElem? hl0)
 have h1b := hl100 l1 (List.mem_of_getElem? hl1)
 obtain ⟨W1, hW1⟩ : ∃ W1, (w.alloc (.cells (stepV x a1 a2 c1 c2) 24)).alloc (.cells #[.bool false, .string ⟨#[]⟩] 34) = W1 := ⟨_, rfl⟩
 obtain ⟨d0, d1, d2, d3, d4⟩ := hB.cells _ (Below.refl _ _)
 rw [hW1] at hB
 have HB := Lib.hid hB; have HW := Lib.hid hW1; have HR := Lib.hid hR
 have R1 : Hid (Below W1.heap.size W1 W1) := Lib.hid (Below.refl _ _)
 have q0 := hlc0 W1 hB.below
 simp only [Nat.add_zero] at q0
 have q2 := hlc1 W1 hB.below
 rw [hla] at hla1
 cases hla1
 subst hla
 have cS := stepReplace_any s l0 l1 m W1.drew hs h0s (by omega) (by omega) (by show _ < W1.heap.size; have := hB.size; omega) ((hB.below.cell (p := ⟨_, 0, none⟩) hgb).trans hm)
 rw [hR] at cS
 obtain ⟨ok, t, e1, e2⟩ := valE_two (v := R)
 rw [e2] at cS
 have CS := Lib.hid cS; have HE := Lib.hid e1
 clear cS hlc hlc0 hlc1 hlt hlt1 hl hgb hm hl1 e1 e2 hfo hl100 h0s h0b h1b
 have q1 : ((w.alloc (.cells (stepV x (a1) (some ⟨lb, lo, none⟩) c1 c2) 24)).alloc (.cells #[.bool false, .string ⟨#[]⟩] 34)).cell? ⟨lb, lo, none⟩ = some (.string l0) := by rw [hW1]; exact q0
 have q3 : ((w.alloc (.cells (stepV x (a1) (some ⟨lb, lo, none⟩) c1 c2) 24)).alloc (.cells #[.bool false, .string ⟨#[]⟩] 34)).cell? ⟨lb, lo + 1, none⟩ = some (.string l1) := by rw [hW1]; exact q2
 have hpos : (1 : Int) < (x.lits.length : Int) := by omega
 unfold maxLen at hcm
 have Q1 := Lib.hid q0; have Q3 := Lib.hid q2
 clear hl0 q0 q2
 clear hB hW1 hR
 obtain ⟨out, op, args, lits, n⟩ := x
 simp only [stepV] at d0 d1 d2 d3 d4 hop hpos hcm ⊢
 subst hop
 simp only [stepV] at q1 q3
 clear hll
 go_enter Tryz.func88, Tryz.ntmps88
 go_wp2_with fail
 rw [HW.out]
 have D1 := (below_drewN (Below.refl W1.heap.size W1) 1)
 obtain ⟨d0', d1', d2', d3', d4'⟩ := HB.out.cells W1.drew D1
 have q1' : W1.drew.cell? ⟨lb, lo, none⟩ = some (.string l0) := Q1.out
 have q3' : W1.drew.cell? ⟨lb, lo + 1, none⟩ = some (.string l1) := Q3.out
 go_region_with (go_at_call 135; refine CS.out.mono ?_; rintro e w2 ⟨rfl, hb2⟩; have H2 := Lib.hid (D1.trans hb2); obtain ⟨g0, g1, g2, g3⟩ := HB.out.val H2.out)
 all_goals have HX := Lib.hid (HB.out.res _ H2.out)
 all_goals go_wp2
 all_goals refine bodyPost_ret (results_c rfl _ _ (w.heap.size + 1) _ _ _ _ rfl (heap_set _ _ (heap_set _ _ HX.out)) Tryz.underlying34 rfl (by kernel_rfl)) rfl ?_
 all_goals exact ⟨by rw [HE.out]; rfl, ((HB.out.below.trans (H2.out.mono HB.out.below.size)).setCell (p := ⟨w.heap.size + 1, 0, none⟩) (Nat.le_succ _) _).setCell (p := ⟨w.heap.size + 1, 1, none⟩) (Nat.le_succ _) _⟩
theorem chg_prefix (x : StepS) (a1 a2 : Option Addr) (c1 c2 : Nat) (s : ByteArray) (w : World) (hop : x.op = 9) (hs : s.size ≤ 900000000) (hn0 : 0 ≤ x.n) (hn1 : x.n ≤ 2000) :
  Calls Tryz.prog 88 #[.agg (stepV x a1 a2 c1 c2), .string s] w (ChgPost x s w) := by
 have hB := chgB w x a1 a2 c1 c2
 obtain ⟨R, hR⟩ : ∃ R, outV (doT x [s.data.toList]) = R := ⟨_, rfl⟩
 unfold ChgPost
 rw [hR]
 unfold doT at hR
 rw [if_neg (by rw [hop]; decide), if_neg (by rw [hop]; decide), if_neg (by rw [hop]; decide), if_neg (by rw [hop]; decide), if_neg (by rw [hop]; decide), if_neg (by rw [hop]; decide), if_neg (by rw [hop]; decide), if_pos hop] at hR
 simp only [List.headD_cons, outV] at hR
 obtain ⟨W1, hW1⟩ : ∃ W1, (w.alloc (.cells (stepV x a1 a2 c1 c2) 24)).alloc (.cells #[.bool false, .string ⟨#[]⟩] 34) = W1 := ⟨_, rfl⟩
 obtain ⟨d0, d1, d2, d3, d4⟩ := hB.cells _ (Below.refl _ _)
 rw [hW1] at hB
 have HB := Lib.hid hB; have HW := Lib.hid hW1; have HR := Lib.hid hR
 have R1 : Hid (Below W1.heap.size W1 W1) := Lib.hid (Below.refl _ _)
 obtain ⟨k, hk⟩ : ∃ k : Nat, min x.n (s.size : Int) = (k : Int) := ⟨(min x.n (s.size : Int)).toNat, by omega⟩
 have hks : k ≤ s.size := by omega
 obtain ⟨T, hT⟩ : ∃ T, s.extract 0 k = T := ⟨_, rfl⟩
 have hTe : T.data.toList = s.data.toList.take x.n.toNat := by
  rw [← hT, ByteArray.data_extract, Array.toList_extract, List.extract_eq_take_drop, List.drop_zero, Nat.sub_zero]
  have e : s.data.toList.length = s.size := by rw [Array.length_toList]; rfl
  by_cases h : x.n.toNat ≤ s.size
  ·congr 1; omega
  ·rw [List.take_of_length_le (by omega), List.take_of_length_le (by omega)]
 have hTs : T.size ≤ 900000000 := by rw [← hT, ByteArray.size_extract]; omega
 have cW := whole_one W1 T (w.heap.size + 1 + 1) hB.size (by omega)
 rw [hTe, hR] at cW
 obtain ⟨ok, t, e1, e2⟩ := valE_two (v := R)
 rw [e2] at cW
 have CW := Lib.hid cW; have HE := Lib.hid e1
 clear cW e1 e2 hTe hTs
 have hmn := hk
 have hex : s.extract 0 k = T := hT
 clear hB hW1 hR
 obtain ⟨out, op, args, lits, n⟩ := x
 simp only [stepV] at d0 d1 d2 d3 d4 hop hex hn0 hn1 hmn ⊢
 subst hop
 go_enter Tryz.func88, Tryz.ntmps88
 go_wp2_with fail
 rw [HW.out]
 refine CW.out.mono ?_
 rintro e w2 ⟨rfl, hb2⟩
 have H2 := Lib.hid hb2
 clear hb2 d0 d1 d2 d3 d4
 obtain ⟨g0, g1, g2, g3⟩ := HB.out.val H2.out
 have HX := Lib.hid (HB.out.res _ H2.out)
 go_wp2
 refine bodyPost_ret (results_c rfl _ _ (w.heap.size + 1) _ _ _ _ rfl (heap_set _ _ (heap_set _ _ HX.out)) Tryz.underlying34 rfl (by kernel_rfl)) rfl ?_
 exact ⟨by rw [HE.out]; rfl, ((HB.out.below.trans (H2.out.mono HB.out.below.size)).setCell (p := ⟨w.heap.size + 1, 0, none⟩) (Nat.le_succ _) _).setCell (p := ⟨w.heap.size + 1, 1, none⟩) (Nat.le_succ _) _⟩
end Go.Proofs.YtdhmeganlnpohaaGreatDoor
