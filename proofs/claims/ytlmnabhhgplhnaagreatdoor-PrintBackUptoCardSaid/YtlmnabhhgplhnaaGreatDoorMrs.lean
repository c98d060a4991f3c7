/- Contract of the reference's EqStrings, EqStep, where both are the same. Contract of the reference's Eq, where both lists are the same. An append of a list of rules, of none too, to a list of one's own. -/
import Derived.Test.YtlmnabhhgplhnaaGreatDoorMpri
import Derived.Deep.RegionHeld3
import Derived.Test.YtlmnabhhgplhnaaGreatDoorMpar
import Derived.Test.YtlmnabhhgplhnaaGreatDoorMwalk
namespace Go.Proofs.YtlmnabhhgplhnaaGreatDoor
open Go.RowKit Go.Shelf

set_option maxHeartbeats 2000000 in
theorem eqStrings_same (v1 v2 : Value) (xs : List ByteArray) (w : World) (h1 : IsStrs w v1 xs) (h2 : IsStrs w v2 xs) :
    Calls Tryz.prog 33 #[v1, v2] w fun e w' => e = .returned (.bool true) ∧ Below w.heap.size w w' := by
  obtain ⟨a1, c1, rfl, _, hm1, hc1⟩ := h1
  obtain ⟨a2, c2, rfl, _, hm2, hc2⟩ := h2
  have hlm : xs.length ≤ maxLen := by omega
  unfold maxLen at hlm
  have HC1 := Lib.hid hc1
  have HC2 := Lib.hid hc2
  clear hc1 hc2
  go_enter Tryz.func33, Tryz.ntmps33
  go_wp2
  go_loopw [5] (fun i wr => ∃ k : Nat, k ≤ xs.length ∧ i = .int .i64 k ∧ Below w.heap.size w wr)
    (fun i _ => xs.length - (intOf i).toNat)
  case atStart => exact ⟨0, Nat.zero_le _, rfl, Below.refl _ _⟩
  case round =>
    obtain ⟨k, hk, rfl, hnx⟩ := hrel
    have HNX := Lib.hid hnx
    clear hnx
    by_cases hlt : k < xs.length
    · obtain ⟨x, hx⟩ : ∃ x, xs[k]? = some x := ⟨xs[k], List.getElem?_eq_getElem hlt⟩
      obtain ⟨b1, o1, q1, hb1, hk1⟩ := HC1.out (by rintro e; rw [e] at hlt; simp at hlt)
      obtain ⟨b2, o2, q2, hb2, hk2⟩ := HC2.out (by rintro e; rw [e] at hlt; simp at hlt)
      subst q1 q2
      have e1 : wr.cell? ⟨b1, o1 + k, none⟩ = some (.string x) := (HNX.out.cell (p := ⟨b1, o1 + k, none⟩) hb1).trans (hk1 k x hx)
      have e2 : wr.cell? ⟨b2, o2 + k, none⟩ = some (.string x) := (HNX.out.cell (p := ⟨b2, o2 + k, none⟩) hb2).trans (hk2 k x hx)
      have hi1 : (k : Int) < (xs.length : Int) := by omega
      have hi0 : (0 : Int) ≤ (k : Int) := by omega
      have hN : Hid (∀ n, Below w.heap.size w (wr.drewN n)) := by show ∀ n, _; exact fun n => below_drewN HNX.out n
      clear hk1 hk2 hx
      go_wp2_with fail
      go_quiet (fail)
      all_goals go_wp2
      all_goals go_roundw
      case rel => exact ⟨k + 1, by omega, by go_num, hN.out _⟩
      case measure => simp [intOf]; omega
    · have hi1 : ¬ (k : Int) < (xs.length : Int) := by omega
      go_wp2
      go_ret
      exact ⟨rfl, HNX.out⟩

set_option maxHeartbeats 4000000 in
set_option maxRecDepth 100000 in
theorem eqStep_same (x : StepS) (a1 a2 a3 a4 : Option Addr) (n1 c1 n2 c2 n3 c3 n4 c4 : Nat) (w : World) (h1 : IsStrs w (.slice a1 n1 c1) x.args) (h2 : IsStrs w (.slice a2 n2 c2) x.lits) (h3 : IsStrs w (.slice a3 n3 c3) x.args) (h4 : IsStrs w (.slice a4 n4 c4) x.lits) :
    Calls Tryz.prog 34 #[.agg #[.string x.out, .int .i64 x.op, .slice a1 n1 c1, .slice a2 n2 c2, .int .i64 x.n], .agg #[.string x.out, .int .i64 x.op, .slice a3 n3 c3, .slice a4 n4 c4, .int .i64 x.n]] w fun e w' => e = .returned (.bool true) ∧ Below w.heap.size w w' := by
  have cA := fun w' (hb : Below w.heap.size w w') => eqStrings_same (.slice a1 n1 c1) (.slice a3 n3 c3) x.args w' (h1.below hb) (h3.below hb)
  have cL := fun w' (hb : Below w.heap.size w w') => eqStrings_same (.slice a2 n2 c2) (.slice a4 n4 c4) x.lits w' (h2.below hb) (h4.below hb)
  obtain ⟨o1, ho1⟩ : ∃ o : Obj, o = .cells #[.string x.out, .int .i64 x.op, .slice a1 n1 c1, .slice a2 n2 c2, .int .i64 x.n] 50 := ⟨_, rfl⟩
  obtain ⟨o2, ho2⟩ : ∃ o : Obj, o = .cells #[.string x.out, .int .i64 x.op, .slice a3 n3 c3, .slice a4 n4 c4, .int .i64 x.n] 50 := ⟨_, rfl⟩
  have hb0 : Below w.heap.size w ((w.alloc o1).alloc o2) := ((Below.refl _ _).alloc (Nat.le_refl _) _).alloc (by simp) _
  have hs0 : ((w.alloc o1).alloc o2).heap.size = w.heap.size + 2 := by simp
  have hx1 : ((w.alloc o1).alloc o2).heap[w.heap.size]? = some o1 := by rw [Below.heap_alloc _ _ _ (by simp)]; exact alloc_at w o1
  have hx2 : ((w.alloc o1).alloc o2).heap[w.heap.size + 1]? = some o2 := by
    have := alloc_at (w.alloc o1) o2
    simpa using this
  have HX1 : Hid (∀ W, Below (w.heap.size + 2) ((w.alloc o1).alloc o2) W → W.heap[w.heap.size]? = some o1) := by show ∀ W, _; exact fun W h => (h.block _ (by omega)).trans hx1
  have HX2 : Hid (∀ W, Below (w.heap.size + 2) ((w.alloc o1).alloc o2) W → W.heap[w.heap.size + 1]? = some o2) := by show ∀ W, _; exact fun W h => (h.block _ (by omega)).trans hx2
  have HUP : Hid (∀ W, Below (w.heap.size + 2) ((w.alloc o1).alloc o2) W → Below w.heap.size w W) := by show ∀ W, _; exact fun W h => hb0.trans (h.mono (by omega))
  have HS0 := Lib.hid hs0
  have HB0 := Lib.hid hb0
  have CA := Lib.hid cA
  have CL := Lib.hid cL
  clear cA cL hb0 h1 h2 h3 h4 hx1 hx2 hs0
  subst ho1 ho2
  go_enter Tryz.func34, Tryz.ntmps34
  go_wp2_with fail
  refine (CA.out _ HB0.out).mono ?_
  rintro e w2 ⟨rfl, hb2⟩
  rw [HS0.out] at hb2
  obtain ⟨d0, d1, d2, d3, d4, _⟩ := cells5 (HX1.out _ hb2)
  obtain ⟨e0, e1, e2, e3, e4, _⟩ := cells5 (HX2.out _ hb2)
  have HB2 := Lib.hid (HUP.out _ hb2)
  clear hb2
  go_wp2_with fail
  refine (CL.out _ HB2.out).mono ?_
  rintro e w3 ⟨rfl, hb3⟩
  have HB3 := Lib.hid (HB2.out.trans (hb3.mono HB2.out.size))
  clear hb3
  go_wp2
  go_ret
  exact ⟨rfl, HB3.out⟩
end Go.Proofs.YtlmnabhhgplhnaaGreatDoor
namespace Go.Proofs.YtlmnabhhgplhnaaGreatDoor
open Go.RowKit Go.Shelf

theorem two_new {w W : World} {o1 o2 : Obj} (h : ((w.alloc o1).alloc o2).drew = W) : W.heap[w.heap.size]? = some o1 ∧ W.heap[w.heap.size + 1]? = some o2 := by
  subst h
  have h1 : ((w.alloc o1).alloc o2).heap[w.heap.size]? = some o1 := by rw [Below.heap_alloc _ _ _ (by simp)]; exact alloc_at w o1
  have h2 : ((w.alloc o1).alloc o2).heap[w.heap.size + 1]? = some o2 := by
    have := alloc_at (w.alloc o1) o2
    simpa using this
  exact ⟨h1, h2⟩
theorem two_size {w W : World} {o1 o2 : Obj} (h : ((w.alloc o1).alloc o2).drew = W) : W.heap.size = w.heap.size + 2 := by
  subst h
  show ((w.alloc o1).alloc o2).heap.size = _
  simp

set_option maxHeartbeats 8000000 in
set_option maxRecDepth 100000 in
theorem eqR_same (v1 v2 : Value) (xs : List RuleS) (Av : Nat → Prop) (w : World) (h1 : RulesA Av w v1 xs) (h2 : RulesA Av w v2 xs) :
    Calls Tryz.prog 10 #[v1, v2] w fun e w' => e = .returned (.bool true) ∧ Below w.heap.size w w' := by
  obtain ⟨a1, c1, q1, _, hm1⟩ := rulesA_len h1
  obtain ⟨a2, c2, q2, _, hm2⟩ := rulesA_len h2
  subst q1 q2
  have hlm : xs.length ≤ maxLen := by omega
  unfold maxLen at hlm
  have H1 := Lib.hid h1
  have H2 := Lib.hid h2
  clear h1 h2
  go_enter Tryz.func10, Tryz.ntmps10
  go_wp2
  go_loopw [5] (fun i wr => ∃ k : Nat, k ≤ xs.length ∧ i = .int .i64 k ∧ Below w.heap.size w wr)
    (fun i _ => xs.length - (intOf i).toNat)
  case atStart => exact ⟨0, Nat.zero_le _, rfl, Below.refl _ _⟩
  case round =>
    obtain ⟨k, hk, rfl, hnx⟩ := hrel
    have hsz := hnx.size
    have HNX := Lib.hid hnx
    clear hnx
    by_cases hlt : k < xs.length
    · obtain ⟨x, hx⟩ : ∃ x, xs[k]? = some x := ⟨xs[k], List.getElem?_eq_getElem hlt⟩
      obtain ⟨b1, o1, p1, a1, n1, c1, a2, n2, c2, a3, n3, c3, a4, n4, c4, q1, hb1, hA1, hk1⟩ := rules_at H1.out hx
      obtain ⟨b2, o2, p2, g1, m1, r1, g2, m2, r2, g3, m3, r3, g4, m4, r4, q2, hb2, hA2, hk2⟩ := rules_at H2.out hx
      cases q1
      cases q2
      obtain ⟨_, _, _, _, qq1, i1, i2, i3, i4⟩ := hA1
      obtain ⟨_, _, _, _, qq2, j1, j2, j3, j4⟩ := hA2
      cases qq1
      cases qq2
      obtain ⟨_, _, qq3, _, _⟩ := stepsA_len i4
      obtain ⟨_, _, qq4, _, hsm⟩ := stepsA_len j4
      cases qq3
      cases qq4
      have hslm : x.steps.length ≤ maxLen := by omega
      unfold maxLen at hslm
      have K1 := Lib.hid (fun w' (hb : Below w.heap.size w w') => eqStrings_same (.slice a1 n1 c1) (.slice g1 m1 r1) x.ins w' (i1.isStrs.below hb) (j1.isStrs.below hb))
      have K2 := Lib.hid (fun w' (hb : Below w.heap.size w w') => eqStrings_same (.slice a2 n2 c2) (.slice g2 m2 r2) x.outs w' (i2.isStrs.below hb) (j2.isStrs.below hb))
      have K3 := Lib.hid (fun w' (hb : Below w.heap.size w w') => eqStrings_same (.slice a3 n3 c3) (.slice g3 m3 r3) x.after w' (i3.isStrs.below hb) (j3.isStrs.below hb))
      have I4 := Lib.hid i4
      have J4 := Lib.hid j4
      clear i1 i2 i3 i4 j1 j2 j3 j4 hx hsm
      have hc0 : ∀ w', Below w.heap.size w w' → w'.cell? ⟨b1, o1 + k * 5, none⟩ = some (.string x.name) := fun w' h => (hk1 w' h).1
      have hc1 : ∀ w', Below w.heap.size w w' → w'.cell? ⟨b1, o1 + k * 5 + 1, none⟩ = some (.slice a1 n1 c1) := fun w' h => (hk1 w' h).2.1
      have hc2 : ∀ w', Below w.heap.size w w' → w'.cell? ⟨b1, o1 + k * 5 + 2, none⟩ = some (.slice a2 n2 c2) := fun w' h => (hk1 w' h).2.2.1
      have hc3 : ∀ w', Below w.heap.size w w' → w'.cell? ⟨b1, o1 + k * 5 + 3, none⟩ = some (.slice a3 n3 c3) := fun w' h => (hk1 w' h).2.2.2.1
      have hc4 : ∀ w', Below w.heap.size w w' → w'.cell? ⟨b1, o1 + k * 5 + 4, none⟩ = some (.slice a4 x.steps.length c4) := fun w' h => (hk1 w' h).2.2.2.2
      have hd0 : ∀ w', Below w.heap.size w w' → w'.cell? ⟨b2, o2 + k * 5, none⟩ = some (.string x.name) := fun w' h => (hk2 w' h).1
      have hd1 : ∀ w', Below w.heap.size w w' → w'.cell? ⟨b2, o2 + k * 5 + 1, none⟩ = some (.slice g1 m1 r1) := fun w' h => (hk2 w' h).2.1
      have hd2 : ∀ w', Below w.heap.size w w' → w'.cell? ⟨b2, o2 + k * 5 + 2, none⟩ = some (.slice g2 m2 r2) := fun w' h => (hk2 w' h).2.2.1
      have hd3 : ∀ w', Below w.heap.size w w' → w'.cell? ⟨b2, o2 + k * 5 + 3, none⟩ = some (.slice g3 m3 r3) := fun w' h => (hk2 w' h).2.2.2.1
      have hd4 : ∀ w', Below w.heap.size w w' → w'.cell? ⟨b2, o2 + k * 5 + 4, none⟩ = some (.slice g4 x.steps.length r4) := fun w' h => (hk2 w' h).2.2.2.2
      have hi1 : (k : Int) < (xs.length : Int) := by omega
      have hi0 : (0 : Int) ≤ (k : Int) := by omega
      have HS0 : Hid (Below w.heap.size w wr.drew) := by show Below _ _ _; exact HNX.out.drew
      have HAL : Hid (∀ o, Below w.heap.size w (wr.alloc o).drew) := by show ∀ o, _; exact fun o => (HNX.out.alloc hsz o).drew
      have HAL2 : Hid (∀ o o', Below w.heap.size w ((wr.alloc o).alloc o').drew) := by show ∀ o o', _; exact fun o o' => ((HNX.out.alloc hsz o).alloc (HNX.out.alloc hsz o).size o').drew
      clear hk1 hk2
      go_wp2_with fail
      go_region_held3 (fun w' => Below w.heap.size w w') (first | assumption | exact HS0.out | exact HAL.out _ | exact HAL2.out _ _) (fail)
      all_goals
        first
          | (obtain ⟨W, hW⟩ : ∃ W, ((wr.alloc (.cells #[.string x.name, .slice a1 n1 c1, .slice a2 n2 c2, .slice a3 n3 c3, .slice a4 x.steps.length c4] 38)).alloc (.cells #[.string x.name, .slice g1 m1 r1, .slice g2 m2 r2, .slice g3 m3 r3, .slice g4 x.steps.length r4] 38)).drew = W := ⟨_, rfl⟩
             rw [hW]
             have hbW : Below w.heap.size w W := by rw [← hW]; exact HAL2.out _ _
             obtain ⟨hx1, hx2⟩ := two_new hW
             have hs2 := two_size hW
             obtain ⟨p, q, hp, hq⟩ : ∃ p q, wr.heap.size = p ∧ wr.heap.size + 1 = q := ⟨_, _, rfl, rfl⟩
             rw [hp] at hx1 hs2; rw [hq] at hx2
             have hpq : p < W.heap.size ∧ q < W.heap.size := by omega
             rw [hq, hp])
          | (obtain ⟨W, hW⟩ : ∃ W, ((wr.alloc (.cells #[.string x.name, .slice g1 m1 r1, .slice g2 m2 r2, .slice g3 m3 r3, .slice g4 x.steps.length r4] 38)).alloc (.cells #[.string x.name, .slice a1 n1 c1, .slice a2 n2 c2, .slice a3 n3 c3, .slice a4 x.steps.length c4] 38)).drew = W := ⟨_, rfl⟩
             rw [hW]
             have hbW : Below w.heap.size w W := by rw [← hW]; exact HAL2.out _ _
             obtain ⟨hx2, hx1⟩ := two_new hW
             have hs2 := two_size hW
             obtain ⟨p, q, hp, hq⟩ : ∃ p q, wr.heap.size + 1 = p ∧ wr.heap.size = q := ⟨_, _, rfl, rfl⟩
             rw [hq] at hx2 hs2; rw [hp] at hx1
             have hpq : p < W.heap.size ∧ q < W.heap.size := by omega
             rw [hp, hq])
        have HX1 : Hid (∀ W', Below W.heap.size W W' → W'.heap[p]? = some (.cells #[.string x.name, .slice a1 n1 c1, .slice a2 n2 c2, .slice a3 n3 c3, .slice a4 x.steps.length c4] 38)) := by show ∀ W', _; exact fun W' h => (h.block _ hpq.1).trans hx1
        have HX2 : Hid (∀ W', Below W.heap.size W W' → W'.heap[q]? = some (.cells #[.string x.name, .slice g1 m1 r1, .slice g2 m2 r2, .slice g3 m3 r3, .slice g4 x.steps.length r4] 38)) := by show ∀ W', _; exact fun W' h => (h.block _ hpq.2).trans hx2
        have HUP : Hid (∀ W', Below W.heap.size W W' → Below w.heap.size w W') := by show ∀ W', _; exact fun W' h => hbW.trans (h.mono hbW.size)
        clear hx1 hx2 hbW hs2 hp hq hpq hW hc0 hc1 hc2 hc3 hc4 hd0 hd1 hd2 hd3 hd4
        obtain ⟨d0, d1, d2, d3, d4, _⟩ := cells5 (HX1.out _ (Below.refl _ _))
        obtain ⟨e0, e1, e2, e3, e4, _⟩ := cells5 (HX2.out _ (Below.refl _ _))
        go_wp2_with fail
        refine (K1.out _ (HUP.out _ (Below.refl _ _))).mono ?_
        rintro e w2 ⟨rfl, hb2⟩
        clear d0 d1 d2 d3 d4 e0 e1 e2 e3 e4
        obtain ⟨d0, d1, d2, d3, d4, _⟩ := cells5 (HX1.out _ hb2)
        obtain ⟨e0, e1, e2, e3, e4, _⟩ := cells5 (HX2.out _ hb2)
        have HW2 := Lib.hid hb2
        have hs2 := hb2.size
        clear hb2
        go_wp2_with fail
        refine (K2.out _ (HUP.out _ HW2.out)).mono ?_
        rintro e w3 ⟨rfl, hb3⟩
        replace hb3 := HW2.out.trans (hb3.mono hs2)
        clear d0 d1 d2 d3 d4 e0 e1 e2 e3 e4 hs2
        obtain ⟨d0, d1, d2, d3, d4, _⟩ := cells5 (HX1.out _ hb3)
        obtain ⟨e0, e1, e2, e3, e4, _⟩ := cells5 (HX2.out _ hb3)
        have HW3 := Lib.hid hb3
        have hs3 := hb3.size
        clear hb3
        go_wp2_with fail
        refine (K3.out _ (HUP.out _ HW3.out)).mono ?_
        rintro e w4 ⟨rfl, hb4⟩
        replace hb4 := HW3.out.trans (hb4.mono hs3)
        clear d0 d1 d2 d3 d4 e0 e1 e2 e3 e4 hs3
        obtain ⟨d0, d1, d2, d3, d4, _⟩ := cells5 (HX1.out _ hb4)
        obtain ⟨e0, e1, e2, e3, e4, _⟩ := cells5 (HX2.out _ hb4)
        have HW4 := Lib.hid hb4
        clear hb4
        go_wp2
        clear d0 d1 d2 d3 d4 e0 e1 e2 e3 e4
        have HEND : Hid (∀ W', Below W.heap.size W W' → Below w.heap.size w W') := HUP
        go_loopw [8] (fun i wq => ∃ j : Nat, j ≤ x.steps.length ∧ i = .int .i64 j ∧ Below W.heap.size W wq)
          (fun i _ => x.steps.length - (intOf i).toNat)
        case atStart => exact ⟨0, Nat.zero_le _, rfl, HW4.out⟩
        case round =>
          obtain ⟨j, hj, rfl, hny⟩ := hrel
          obtain ⟨d0, d1, d2, d3, d4, _⟩ := cells5 (HX1.out _ hny)
          have HNY := Lib.hid hny
          by_cases hltj : j < x.steps.length
          · obtain ⟨y, hy⟩ : ∃ y, x.steps[j]? = some y := ⟨x.steps[j], List.getElem?_eq_getElem hltj⟩
            obtain ⟨y1, z1, u1, b1, l1, t1, b2, l2, t2, q1, hyb1, hYA1, hYL1, hk1⟩ := steps_at I4.out hy
            obtain ⟨y2, z2, u2, b3, l3, t3, b4, l4, t4, q2, hyb2, hYA2, hYL2, hk2⟩ := steps_at J4.out hy
            cases q1
            cases q2
            have hm4 : ∀ w', Below W.heap.size W w' → w'.cell? ⟨p, 4, none⟩ = some (.slice (some ⟨y1, z1, none⟩) x.steps.length c4) := fun w' h => by obtain ⟨_, _, _, _, z, _⟩ := cells5 (HX1.out _ h); exact z
            have hn4 : ∀ w', Below W.heap.size W w' → w'.cell? ⟨q, 4, none⟩ = some (.slice (some ⟨y2, z2, none⟩) x.steps.length r4) := fun w' h => by obtain ⟨_, _, _, _, z, _⟩ := cells5 (HX2.out _ h); exact z
            have hc0 : ∀ w', Below W.heap.size W w' → w'.cell? ⟨y1, z1 + j * 5, none⟩ = some (.string y.out) := fun w' h => (hk1 w' (HUP.out _ h)).1
            have hc1 : ∀ w', Below W.heap.size W w' → w'.cell? ⟨y1, z1 + j * 5 + 1, none⟩ = some (.int .i64 y.op) := fun w' h => (hk1 w' (HUP.out _ h)).2.1
            have hc2 : ∀ w', Below W.heap.size W w' → w'.cell? ⟨y1, z1 + j * 5 + 2, none⟩ = some (.slice b1 l1 t1) := fun w' h => (hk1 w' (HUP.out _ h)).2.2.1
            have hc3 : ∀ w', Below W.heap.size W w' → w'.cell? ⟨y1, z1 + j * 5 + 3, none⟩ = some (.slice b2 l2 t2) := fun w' h => (hk1 w' (HUP.out _ h)).2.2.2.1
            have hc4 : ∀ w', Below W.heap.size W w' → w'.cell? ⟨y1, z1 + j * 5 + 4, none⟩ = some (.int .i64 y.n) := fun w' h => (hk1 w' (HUP.out _ h)).2.2.2.2
            have hd0 : ∀ w', Below W.heap.size W w' → w'.cell? ⟨y2, z2 + j * 5, none⟩ = some (.string y.out) := fun w' h => (hk2 w' (HUP.out _ h)).1
            have hd1 : ∀ w', Below W.heap.size W w' → w'.cell? ⟨y2, z2 + j * 5 + 1, none⟩ = some (.int .i64 y.op) := fun w' h => (hk2 w' (HUP.out _ h)).2.1
            have hd2 : ∀ w', Below W.heap.size W w' → w'.cell? ⟨y2, z2 + j * 5 + 2, none⟩ = some (.slice b3 l3 t3) := fun w' h => (hk2 w' (HUP.out _ h)).2.2.1
            have hd3 : ∀ w', Below W.heap.size W w' → w'.cell? ⟨y2, z2 + j * 5 + 3, none⟩ = some (.slice b4 l4 t4) := fun w' h => (hk2 w' (HUP.out _ h)).2.2.2.1
            have hd4 : ∀ w', Below W.heap.size W w' → w'.cell? ⟨y2, z2 + j * 5 + 4, none⟩ = some (.int .i64 y.n) := fun w' h => (hk2 w' (HUP.out _ h)).2.2.2.2
            have HC : Hid (∀ w', Below W.heap.size W w' → Calls Tryz.prog 34 #[.agg #[.string y.out, .int .i64 y.op, .slice b1 l1 t1, .slice b2 l2 t2, .int .i64 y.n], .agg #[.string y.out, .int .i64 y.op, .slice b3 l3 t3, .slice b4 l4 t4, .int .i64 y.n]] w' fun e w'' => e = .returned (.bool true) ∧ Below W.heap.size W w'') := by
              show ∀ w', _
              intro w' hb
              refine (eqStep_same y b1 b2 b3 b4 l1 t1 l2 t2 l3 t3 l4 t4 w' (hYA1.isStrs.below (HUP.out _ hb)) (hYL1.isStrs.below (HUP.out _ hb)) (hYA2.isStrs.below (HUP.out _ hb)) (hYL2.isStrs.below (HUP.out _ hb))).mono ?_
              rintro e w'' ⟨h1, h2⟩
              exact ⟨h1, hb.trans (h2.mono hb.size)⟩
            have HSD : Hid (Below W.heap.size W wr.drew) := by show Below _ _ _; exact hny.drew
            have hj1 : (j : Int) < (x.steps.length : Int) := by omega
            have hj0 : (0 : Int) ≤ (j : Int) := by omega
            clear hk1 hk2 hy hYA1 hYL1 hYA2 hYL2 hny
            go_wp2_with fail
            go_region_held3 (fun w' => Below W.heap.size W w') (first | assumption | exact HSD.out)
              (first
                | (go_at_call 34; refine (HC.out _ (by assumption)).mono ?_; rintro e w5 ⟨rfl, hSn⟩)
                | fail)
            have HS5 := Lib.hid hSn
            clear hm4 hn4 hc0 hc1 hc2 hc3 hc4 hd0 hd1 hd2 hd3 hd4 hSn d0 d1 d2 d3 d4
            go_wp2
            go_roundw
            case rel => exact ⟨j + 1, by omega, by go_num, HS5.out⟩
            case measure => simp [intOf]; omega
          · have hj1 : ¬ (j : Int) < (x.steps.length : Int) := by omega
            clear hny
            go_wp2
            go_roundw
            case rel => exact ⟨k + 1, by omega, by go_num, HEND.out _ HNY.out⟩
            case measure => simp [intOf]; omega
    · have hi1 : ¬ (k : Int) < (xs.length : Int) := by omega
      go_wp2
      go_ret
      exact ⟨rfl, HNX.out⟩
end Go.Proofs.YtlmnabhhgplhnaaGreatDoor
namespace Go.Proofs.YtlmnabhhgplhnaaGreatDoor
open Go.RowKit Go.Shelf

theorem flat5 {rows : List (List Value)} (h : ∀ r ∈ rows, r.length = 5) : rows.flatten.length = rows.length * 5 := by
  induction rows with
  | nil => rfl
  | cons r rs ih =>
    rw [List.flatten_cons, List.length_append, ih fun r' hr => h r' (List.mem_cons_of_mem _ hr), h r (List.mem_cons_self ..), List.length_cons]
    omega
theorem ruleA_one {Av : Nat → Prop} {w : World} {r : List Value} {x : RuleS} (h : RuleA Av w r x) : ∀ u ∈ r, u.oneCell' = true := by
  obtain ⟨vi, vo, vf, vs, rfl, h1, h2, h3, h4⟩ := h
  obtain ⟨a1, n1, c1, q1⟩ := rowA_shape h1
  obtain ⟨a2, n2, c2, q2⟩ := rowA_shape h2
  obtain ⟨a3, n3, c3, q3⟩ := rowA_shape h3
  obtain ⟨a4, n4, c4, q4⟩ := stepsA_shape h4
  subst q1 q2 q3 q4
  intro u hu
  simp only [List.mem_cons, List.not_mem_nil, or_false] at hu
  rcases hu with rfl | rfl | rfl | rfl | rfl <;> rfl
theorem run_append_rules {w : World} {ty : TypeId} {Av : Nat → Prop} {B : Nat} {v0 v : Value} {n : Nat} {xs : List Value} {ys : List RuleS} (hown : w.ownsRow B 38 5 v0 n xs) (h : RulesA Av w v ys) (hB : B ≤ w.heap.size) (hn : n + ys.length ≤ 1000000) :
    ∃ rows v' w', (Builtin.append_ #[22, 22] ty #[v0, v]).run Tryz.prog w = .ok v' w' ∧ w'.ownsRow B 38 5 v' (n + ys.length) (xs ++ rows.flatten) ∧ w.grownBy w' v0.ownBlock ∧ rows.length = ys.length ∧ AllA (RuleA Av w) rows ys := by
  obtain ⟨i0, hi, hz0, hz1, hz2⟩ := info_of info_rule
  obtain ⟨rows, hrow, hall⟩ := h
  obtain ⟨⟨a, c, rfl, hlc, hcm, hcell⟩, _⟩ := hrow
  have h5 := hall.len fun r x h => h.len
  have hlen := hall.1
  by_cases he : rows = []
  · subst he
    have hys : ys = [] := by simpa using hlen.symm
    subst hys
    cases a with
    | none =>
      refine ⟨[], v0, w, ?_, by simpa using hown, ?_, rfl, hall⟩
      · rcases hown.2 with ⟨rfl, rfl⟩ | ⟨g, cap, cur, rfl, _, _, hnc, _⟩
        · simp [Builtin.append_, run_underlying Tryz.underlying22, sizeOf, typeInfo, hi, Builtin.lenOf, Builtin.firstCells]
        · simp [Builtin.append_, run_underlying Tryz.underlying22, sizeOf, typeInfo, hi, Builtin.lenOf, Builtin.firstCells, hnc, storeCells]
      · exact ⟨rfl, rfl, rfl, Nat.le_refl _, fun _ _ _ => rfl⟩
    | some ad =>
      obtain ⟨v', w', hr, h2, h3, _⟩ := run_append_own (P := Tryz.prog) w B 22 ty 38 i0 (.agg #[.string ByteArray.empty, .slice none 0 0, .slice none 0 0, .slice none 0 0, .slice none 0 0]) 5 112 Tryz.underlying22 hi hz0 hz1 hz2 rfl (by decide) v0 n xs hown ad 0 c [] rfl (by simp) (by simp) (by unfold maxLen; omega) (by omega) hB
      exact ⟨[], v', w', hr, by simpa using h2, h3, rfl, hall⟩
  · obtain ⟨b, o, rfl, hb, hc⟩ := hcell he
    have hnews : ∀ (j : Nat) u, rows.flatten[j]? = some u → w.cell? ((⟨b, o, none⟩ : Addr).add j) = some u := by
      intro j u hj
      have := flat_at h5 hj
      obtain ⟨r, hr, hu⟩ := this
      have h0 := hc (j / 5) r hr (j % 5) u hu
      simp only [Addr.add]
      split
      · rename_i hj0
        rw [hj0] at h0
        simpa using h0
      · rw [show o + j = o + j / 5 * 5 + j % 5 by omega]
        exact h0
    have hone : ∀ u ∈ rows.flatten, u.oneCell' = true := by
      intro u hu
      obtain ⟨r, hr, hu⟩ := List.mem_flatten.1 hu
      obtain ⟨j, hj⟩ := List.getElem?_of_mem hr
      have hlt : j < ys.length := by rw [← hlen]; exact (List.getElem?_eq_some_iff.1 hj).1
      exact ruleA_one (hall.2 j r _ hj (List.getElem?_eq_getElem hlt)) u hu
    obtain ⟨v', w', hr, h2, h3, _⟩ := run_append_own (P := Tryz.prog) w B 22 ty 38 i0 (.agg #[.string ByteArray.empty, .slice none 0 0, .slice none 0 0, .slice none 0 0, .slice none 0 0]) 5 112 Tryz.underlying22 hi hz0 hz1 hz2 rfl (by decide) v0 n xs hown ⟨b, o, none⟩ rows.length c rows.flatten (flat5 h5) hnews hone (by unfold maxLen; omega) (by omega) hB
    exact ⟨rows, v', w', hr, by rw [hlen] at h2; exact h2, h3, hlen, hall⟩
where
  flat_at {rows : List (List Value)} (h : ∀ r ∈ rows, r.length = 5) {j : Nat} {u : Value} (hj : rows.flatten[j]? = some u) : ∃ r, rows[j / 5]? = some r ∧ r[j % 5]? = some u := by
    induction rows generalizing j with
    | nil => simp at hj
    | cons r rs ih =>
      have hr := h r (List.mem_cons_self ..)
      rw [List.flatten_cons] at hj
      rcases Nat.lt_or_ge j 5 with hlt | hge
      · rw [List.getElem?_append_left (by omega)] at hj
        exact ⟨r, by rw [Nat.div_eq_of_lt hlt]; rfl, by rw [Nat.mod_eq_of_lt hlt]; exact hj⟩
      · rw [List.getElem?_append_right (by omega), hr] at hj
        obtain ⟨r', h1, h2⟩ := ih (fun r' hr' => h r' (List.mem_cons_of_mem _ hr')) hj
        refine ⟨r', ?_, ?_⟩
        · rw [show j / 5 = (j - 5) / 5 + 1 by omega, List.getElem?_cons_succ]; exact h1
        · rw [show j % 5 = (j - 5) % 5 by omega]; exact h2
/-- An append whose run is known, under a guard too. -/
theorem wpList_append_known {P : Program} {w : World} {ops : Array Oper} {rest : List Oper} {o : Oper} {a : Act} {Q : Exit → Act → World → Prop} (hg : Region.wanted o (yielded ops a.tmps) = true) (s x : Operand) (t : TypeId)
    (ho : o.op = .call { callee := .builtin .append, args := #[s, x], argTypes := #[t, t] }) {v0 vx v' : Value} {w' : World} (hs : a.eval s = v0) (hx : a.eval x = vx)
    (hr : (Builtin.append_ #[t, t] o.type #[v0, vx]).run P w = .ok v' w') (h : wpList P ops Q rest (a.put o.dst v') w') : wpList P ops Q (o :: rest) a w := by
  refine wpList_step fun K hK => ?_
  rw [if_pos hg]
  unfold Oper.wp execOp
  simp only [ho, resolve, invoke, builtin, Sem.run_bind, Sem.run_pure, Result.andThen_ok, List.map_toArray, List.map_cons, List.map_nil, hs, hx, hr]
  exact hK _ _ h
theorem rules_count (ws : List WordT) : ∀ (f : Nat) (acc : List RuleS) (s : PS), (rulesF ws f acc s).1.length ≤ acc.length + f
  | 0, _, _ => Nat.le_refl _
  | f + 1, acc, s => by
    unfold rulesF
    split
    · have := rules_count ws f (acc ++ [(ruleP ws s).1]) (ruleP ws s).2
      rw [List.length_append] at this
      simp only [List.length_cons, List.length_nil] at this
      omega
    · simp only; omega
theorem file_few {L : List UInt8} {rs : List RuleS} (h : fileS L = .ok rs) : rs.length ≤ 2 * L.length + 4 := by
  unfold fileS at h
  split at h
  · cases h
  · cases hA : allS L with
    | error p => rw [hA] at h; cases h
    | ok ws =>
      rw [hA] at h
      dsimp only at h
      have h2 := rules_count ws (2 * ws.length + 2) [] (0, false)
      have h3 := (allF_ok _ _ _ _ hA).2.2.1
      split at h
      · cases h
      · injection h with h
        subst h
        unfold rulesP
        simp only [List.length_nil] at h2
        omega
/-- Both lists, one behind the other, in one row. -/
theorem rules_both {w w1 w2 : World} {v1 v2 : Value} {xs ys : List RuleS} {r1 r2 : List (List Value)} {Av : Nat → Prop} (hall1 : AllA (RuleA Av w) r1 xs) (hall2 : AllA (RuleA Av w1) r2 ys) (hg1 : w.grownBy w1 none)
    (hg2 : w1.grownBy w2 v1.ownBlock) (ho2 : w2.ownsRow w.heap.size 38 5 v2 (xs.length + ys.length) (r1.flatten ++ r2.flatten)) (hAv : ∀ b, v1.ownBlock = some b → Av b) :
    RulesA (fun _ => False) w2 v2 (xs ++ ys) := by
  have f1 : Fr Av w w1 := fr_grown hg1 fun k e => by cases e
  have f2 : Fr Av w1 w2 := fr_grown hg2 fun k e => hAv k e
  have hb1 : AllA (RuleA (fun _ => False) w2) r1 xs := hall1.imp fun r x h => ((h.keep (f1.trans f2)).mono fun _ _ e => e.elim)
  have hb2 : AllA (RuleA (fun _ => False) w2) r2 ys := hall2.imp fun r x h => ((h.keep f2).mono fun _ _ e => e.elim)
  have hb : AllA (RuleA (fun _ => False) w2) (r1 ++ r2) (xs ++ ys) := by
    refine ⟨by simp [hb1.1, hb2.1], fun j r x hr hx => ?_⟩
    rcases Nat.lt_or_ge j r1.length with h | h
    · rw [List.getElem?_append_left h] at hr
      rw [List.getElem?_append_left (by rw [← hb1.1]; exact h)] at hx
      exact hb1.2 j r x hr hx
    · rw [List.getElem?_append_right h] at hr
      rw [List.getElem?_append_right (by rw [← hb1.1]; exact h), ← hb1.1] at hx
      exact hb2.2 _ r x hr hx
  refine ⟨r1 ++ r2, ?_, hb⟩
  have hl : (r1 ++ r2).length = xs.length + ys.length := by rw [List.length_append, hb1.1, hb2.1]
  have hrow : RowA (fun b => b < w.heap.size) w2 v2 5 (r1 ++ r2) := by
    refine rowA_own (t := 38) ?_ (hb.len fun r x h => h.len)
    rw [hl, List.flatten_append]
    exact ho2
  exact hrow.mono fun _ _ e => e.elim
end Go.Proofs.YtlmnabhhgplhnaaGreatDoor
