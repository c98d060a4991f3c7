/- The law on parts that are cut elsewhere: for every text and every two numbers the call returns true. No condition. -/
import Derived.Deep.DeepCutAuto
import Derived.Deep.RegionHeld3
import Derived.Test.YtmpiaaangbjapaaDoorMathE
import Derived.Test.YtmpiaaangbjapaaDoorShort
import Derived.Test.YtmpiaaangbjapaaDoorMathH
import Derived.Test.YtmpiaaangbjapaaDoorWalkR
namespace Go.Proofs.YtmpiaaangbjapaaDoor.lawMintUnlike
open Go.RowKit

def keyB (xs : List ByteArray) : ByteArray := ⟨(putS (xs.map (·.data.toList))).toArray⟩
theorem keyB_inj {a b : List ByteArray} (h : (keyB a).toList = (keyB b).toList) : a.map (·.data.toList) = b.map (·.data.toList) := by
  rw [Lib.toList_data, Lib.toList_data] at h
  exact putS_inj (by simpa [keyB] using h)
theorem keyB_ne {a b : List ByteArray} (h : a.length ≠ b.length) : ((keyB a).toList == (keyB b).toList) = false := by
  rw [Bool.eq_false_iff]
  intro e
  have := congrArg List.length (keyB_inj (by simpa using e))
  simp at this
  exact h this
theorem strs_new (w : World) (xs : List ByteArray) (cells : Array Value) (n : Nat) (hc : cells = (xs.map Value.string).toArray) (hn : n = xs.length) (hl : xs.length ≤ 1000) :
    IsStrs (w.alloc (.cells cells 9)) (.slice (some ⟨w.heap.size, 0, none⟩) n n) xs := by
  subst hn
  exact strs_of_alloc w xs cells hc hl
theorem strs1 (w : World) (A : ByteArray) : IsStrs (w.alloc (.cells #[.string A] 9)) (.slice (some ⟨w.heap.size, 0, none⟩) 1 1) [A] := strs_new w [A] _ 1 rfl rfl (by simp)
theorem strs2 (w : World) (A B : ByteArray) : IsStrs (w.alloc (.cells #[.string A, .string B] 9)) (.slice (some ⟨w.heap.size, 0, none⟩) 2 2) [A, B] := strs_new w [A, B] _ 2 rfl rfl (by simp)
theorem strs1' (w : World) (A : ByteArray) (k : Nat) (hk : k = w.heap.size) : IsStrs (w.alloc (.cells #[.string A] 9)) (.slice (some ⟨k, 0, none⟩) 1 1) [A] := by subst hk; exact strs1 w A
theorem strs2' (w : World) (A B : ByteArray) (k : Nat) (hk : k = w.heap.size) : IsStrs (w.alloc (.cells #[.string A, .string B] 9)) (.slice (some ⟨k, 0, none⟩) 2 2) [A, B] := by subst hk; exact strs2 w A B
theorem strs_alloc {w : World} {v : Value} {xs : List ByteArray} (h : IsStrs w v xs) (o : Obj) : IsStrs (w.alloc o) v xs := h.below ((Below.refl _ _).alloc (Nat.le_refl _) _)

theorem strs_drew {w : World} {v : Value} {xs : List ByteArray} (h : IsStrs w v xs) : IsStrs w.drew v xs := h.below (Below.refl _ _).drew
theorem up_alloc {W w : World} {o : Obj} (h : Below W.heap.size W w) : Below W.heap.size W (w.alloc o) := h.alloc h.size o

theorem key_small (xs : List ByteArray) (h : xs.length ≤ 2) (hs : ∀ x ∈ xs, x.size ≤ 40) : (putS (xs.map (·.data.toList))).length ≤ 140737488355328 := by
  have one : ∀ x : ByteArray, x.size ≤ 40 → (partS x.data.toList).length ≤ 62 := fun x hx => by
    have := part_len x.data.toList (by rw [← Lib.size_eq]; omega)
    rw [← Lib.size_eq] at this; omega
  match xs, h, hs with
  | [], _, _ => simp [putS]
  | [x], _, hs =>
    have := one x (hs x (by simp))
    simp [putS]; omega
  | [x, y], _, hs =>
    have := one x (hs x (by simp))
    have := one y (hs y (by simp))
    simp [putS]; omega

/-- What is told of a listing is told of the same one written otherwise. -/
theorem relist {P : Program} {md : Region.Mode} {ops : Array Oper} {Q : Exit → Act → World → Prop} {S : World → Prop} {n : Nat} {L : Array Bool} {a : Act} {w : World} (L' : Array Bool) (h : L = L') (H : wpAnyH P md ops Q S n L' a w) : wpAnyH P md ops Q S n L a w := h ▸ H
/-- The rest behind two calls, once for each world and each two values. -/
theorem cutRest {P : Program} {md : Region.Mode} {ops : Array Oper} {Q : Exit → Act → World → Prop} {S : World → Prop} {n : Nat} {L : Array Bool} {a : Act} {w : World} (k : Nat) (L1 : Array Bool) (f : Act → Value → Value → Act)
    (H : ∀ x y w', S w' → wpAnyH P md ops Q S k L1 (f a x y) w') (G : (∀ x y w', S w' → wpAnyH P md ops Q S k L1 (f a x y) w') → wpAnyH P md ops Q S n L a w) : wpAnyH P md ops Q S n L a w := G H

theorem short_len (s : ByteArray) (k : Nat) : (s.extract 0 k).size ≤ s.size := by rw [ByteArray.size_extract]; omega

set_option maxHeartbeats 40000000 in
set_option maxRecDepth 100000 in
theorem law (s0 : ByteArray) (a b : Int) (w : World) (hs0 : s0.size ≤ maxLen) (hG : Glob w) :
    Calls Tryd.prog 3 #[.string s0, .int .i64 a, .int .i64 b] w fun e w' => e = .returned (.bool true) ∧ Below w.heap.size w w' := by
  have HG := Lib.hid hG
  clear hG
  go_enter Tryd.func3, Tryd.ntmps3
  go_wp2_with fail
  refine (begun_any w HG.out).mono ?_
  rintro e w1 ⟨rfl, hb1⟩
  have HX1 := Lib.hid hb1
  clear hb1
  go_wp2_with fail
  refine (short_any s0 40 w1 hs0 (by omega) (by omega)).mono ?_
  rintro e w2 ⟨rfl, rfl⟩
  obtain ⟨s, hs⟩ : ∃ s, s0.extract 0 (min s0.size (40 : Int).toNat) = s := ⟨_, rfl⟩
  have hsz : s.size ≤ 40 := by rw [← hs, ByteArray.size_extract]; omega
  rw [hs]
  clear hs
  by_cases hneg : a < 0 ∨ b < 0
  · rcases hneg with h | h
    · go_wp2
      go_ret
      exact ⟨rfl, HX1.out⟩
    · by_cases h' : a < 0
      · go_wp2
        go_ret
        exact ⟨rfl, HX1.out⟩
      · go_wp2
        go_ret
        exact ⟨rfl, HX1.out⟩
  · have ha : 0 ≤ a := by omega
    have hb : 0 ≤ b := by omega
    clear hneg
    obtain ⟨p, hp, hpl⟩ : ∃ p : Nat, a.tmod ((s.size : Int) + 1) = (p : Int) ∧ p ≤ s.size := by
      have q1 := Int.tmod_lt_of_pos a (show (0 : Int) < (s.size : Int) + 1 by omega)
      have q2 := Int.tmod_nonneg ((s.size : Int) + 1) ha
      exact ⟨(a.tmod ((s.size : Int) + 1)).toNat, by omega, by omega⟩
    obtain ⟨q, hq, hql⟩ : ∃ q : Nat, b.tmod ((s.size : Int) + 1) = (q : Int) ∧ q ≤ s.size := by
      have q1 := Int.tmod_lt_of_pos b (show (0 : Int) < (s.size : Int) + 1 by omega)
      have q2 := Int.tmod_nonneg ((s.size : Int) + 1) hb
      exact ⟨(b.tmod ((s.size : Int) + 1)).toNat, by omega, by omega⟩
    have hw : IntKind.i64.wrap ((s.size : Int) + 1) = (s.size : Int) + 1 := IntWalk.i64_in _ (by omega)
    have hnz : ¬ ((s.size : Int) + 1 = 0) := by omega
    go_wp2_with fail
    go_quiet (fail)
    clear hw hnz
    go_wp2_with fail
    obtain ⟨W2, hW2⟩ : ∃ W2, w1.drewN nq = W2 := ⟨_, rfl⟩
    have hx2 : Below w.heap.size w W2 := by rw [← hW2]; exact below_drewN HX1.out nq
    rw [hW2]
    have HX2 := Lib.hid hx2
    clear hx2 hW2 HX1
    have HS0 := Lib.hid (show Below W2.heap.size W2 W2.drew from (Below.refl _ _).drew)
    have CP : Hid (∀ (wz : World) (xs : List ByteArray) (v : Value), Below W2.heap.size W2 wz → IsStrs wz v xs → xs.length ≤ 2 → (∀ x ∈ xs, x.size ≤ 40) → Calls Tryd.prog 6 #[v] wz fun e w' => e = .returned (.string (keyB xs)) ∧ Below wz.heap.size wz w') := by
      show ∀ (wz : World) (xs : List ByteArray) (v : Value), _
      exact fun wz xs v hwz hI hl hz => put_any v xs wz hI (by omega) (HG.out.below (chain HX2.out hwz)) (key_small xs hl hz)
    have SZ1 : Hid (∀ x ∈ [s.extract 0 p, s.extract p s.size], x.size ≤ 40) := by
      show ∀ x ∈ _, _
      intro x hx
      simp at hx
      rcases hx with rfl | rfl <;> (rw [ByteArray.size_extract]; omega)
    have SZ2 : Hid (∀ x ∈ [s.extract 0 q, s.extract q s.size], x.size ≤ 40) := by
      show ∀ x ∈ _, _
      intro x hx
      simp at hx
      rcases hx with rfl | rfl <;> (rw [ByteArray.size_extract]; omega)
    have SZ3 : Hid (∀ x ∈ [s], x.size ≤ 40) := by show ∀ x ∈ _, _; simpa using hsz
    have SZ4 : Hid (∀ x ∈ [s, ⟨#[]⟩], x.size ≤ 40) := by
      show ∀ x ∈ _, _
      intro x hx
      simp at hx
      rcases hx with rfl | rfl
      · exact hsz
      · decide
    have k34 : ((keyB [s]).toList == (keyB [s, ⟨#[]⟩]).toList) = false := keyB_ne (by simp)
    have k56 : ((keyB [s.extract 0 p, s.extract p s.size]).toList == (keyB [s]).toList) = false := keyB_ne (by simp)
    obtain ⟨r, hr⟩ : ∃ r, ((p : Int) == (q : Int)) = r := ⟨_, rfl⟩
    have k12 : ((keyB [s.extract 0 p, s.extract p s.size]).toList == (keyB [s.extract 0 q, s.extract q s.size]).toList) = r := by
      rw [← hr, Bool.eq_iff_iff, beq_iff_eq, beq_iff_eq]
      constructor
      · intro h
        have := keyB_inj h
        simp only [List.map_cons, List.map_nil, List.cons.injEq] at this
        have h1 := congrArg List.length this.1
        rw [← Lib.size_eq, ← Lib.size_eq, ByteArray.size_extract, ByteArray.size_extract] at h1
        omega
      · intro h
        have : p = q := by omega
        rw [this]
    have hrr : (r == r) = true := by simp
    obtain ⟨A1, hA1⟩ : ∃ A1, s.extract 0 p = A1 := ⟨_, rfl⟩
    obtain ⟨A2, hA2⟩ : ∃ A2, s.extract p s.size = A2 := ⟨_, rfl⟩
    obtain ⟨B1, hB1⟩ : ∃ B1, s.extract 0 q = B1 := ⟨_, rfl⟩
    obtain ⟨B2, hB2⟩ : ∃ B2, s.extract q s.size = B2 := ⟨_, rfl⟩
    rw [hA1, hA2] at SZ1 k12 k56
    rw [hB1, hB2] at SZ2 k12
    obtain ⟨Z, hZ⟩ : ∃ Z : ByteArray, (⟨#[]⟩ : ByteArray) = Z := ⟨_, rfl⟩
    obtain ⟨KA, hKA⟩ : ∃ KA, keyB [A1, A2] = KA := ⟨_, rfl⟩
    obtain ⟨KB, hKB⟩ : ∃ KB, keyB [B1, B2] = KB := ⟨_, rfl⟩
    obtain ⟨KS, hKS⟩ : ∃ KS, keyB [s] = KS := ⟨_, rfl⟩
    obtain ⟨KZ, hKZ⟩ : ∃ KZ, keyB [s, ⟨#[]⟩] = KZ := ⟨_, rfl⟩
    rw [hKA, hKB] at k12
    rw [hKS, hKZ] at k34
    rw [hKA, hKS] at k56
    have C1 := CP.out
    have PA : Hid (∀ (wz : World) (v : Value) (R : Ending → World → Prop), Below W2.heap.size W2 wz → IsStrs wz v [A1, A2] → (∀ w', Below W2.heap.size W2 w' → (∀ (v' : Value) (xs : List ByteArray), IsStrs wz v' xs → IsStrs w' v' xs) → R (.returned (.string KA)) w') → Calls Tryd.prog 6 #[v] wz R) := by
      show ∀ (wz : World) (v : Value) (R : Ending → World → Prop), _
      intro wz v R h1 h2 h3
      have := CP.out wz _ v h1 h2 (by simp) SZ1.out
      rw [hKA] at this
      exact this.mono (by rintro e w' ⟨rfl, hb⟩; exact h3 w' (chain h1 hb) (fun v' xs hI => hI.below hb))
    have PB : Hid (∀ (wz : World) (v : Value) (R : Ending → World → Prop), Below W2.heap.size W2 wz → IsStrs wz v [B1, B2] → (∀ w', Below W2.heap.size W2 w' → (∀ (v' : Value) (xs : List ByteArray), IsStrs wz v' xs → IsStrs w' v' xs) → R (.returned (.string KB)) w') → Calls Tryd.prog 6 #[v] wz R) := by
      show ∀ (wz : World) (v : Value) (R : Ending → World → Prop), _
      intro wz v R h1 h2 h3
      have := CP.out wz _ v h1 h2 (by simp) SZ2.out
      rw [hKB] at this
      exact this.mono (by rintro e w' ⟨rfl, hb⟩; exact h3 w' (chain h1 hb) (fun v' xs hI => hI.below hb))
    have PS : Hid (∀ (wz : World) (v : Value) (R : Ending → World → Prop), Below W2.heap.size W2 wz → IsStrs wz v [s] → (∀ w', Below W2.heap.size W2 w' → (∀ (v' : Value) (xs : List ByteArray), IsStrs wz v' xs → IsStrs w' v' xs) → R (.returned (.string KS)) w') → Calls Tryd.prog 6 #[v] wz R) := by
      show ∀ (wz : World) (v : Value) (R : Ending → World → Prop), _
      intro wz v R h1 h2 h3
      have := CP.out wz _ v h1 h2 (by simp) SZ3.out
      rw [hKS] at this
      exact this.mono (by rintro e w' ⟨rfl, hb⟩; exact h3 w' (chain h1 hb) (fun v' xs hI => hI.below hb))
    have PZ : Hid (∀ (wz : World) (v : Value) (R : Ending → World → Prop), Below W2.heap.size W2 wz → IsStrs wz v [s, ⟨#[]⟩] → (∀ w', Below W2.heap.size W2 w' → (∀ (v' : Value) (xs : List ByteArray), IsStrs wz v' xs → IsStrs w' v' xs) → R (.returned (.string KZ)) w') → Calls Tryd.prog 6 #[v] wz R) := by
      show ∀ (wz : World) (v : Value) (R : Ending → World → Prop), _
      intro wz v R h1 h2 h3
      have := CP.out wz _ v h1 h2 (by simp) SZ4.out
      rw [hKZ] at this
      exact this.mono (by rintro e w' ⟨rfl, hb⟩; exact h3 w' (chain h1 hb) (fun v' xs hI => hI.below hb))
    clear hKA hKB hKS hKZ C1 CP SZ1 SZ2 SZ3 SZ4 hZ ha hb hp hq
    have hp0 : (0 : Int) ≤ (p : Int) := by omega
    have hp1 : (p : Int) ≤ (s.size : Int) := by omega
    have hq0 : (0 : Int) ≤ (q : Int) := by omega
    have hq1 : (q : Int) ≤ (s.size : Int) := by omega
    refine wp_region_held_drew (S := fun w' => Below W2.heap.size W2 w') (by kernel_rfl) ?_ (fun hHeld => ?_)
    · exact HS0.out
    refine wpAnyH_take (i := 0) (oi := _) (v := ?_) (by simp only [List.getElem?_toArray, List.getElem?_cons_zero]; rfl) (by kernel_rfl) (by kernel_rfl) (by kernel_rfl) (by exact fun _ _ _ h => h) (Or.inl ⟨by rfl, ?_⟩) (by assumption) ?_
    rotate_left
    · intro w hSw; go_simp; try with_reducible rfl
    simp only [Act.put, List.setIfInBounds_toArray, List.set_cons_zero, List.set_cons_succ]
    refine wpAnyH_take (i := 1) (oi := _) (v := ?_) (by simp only [List.getElem?_toArray, List.getElem?_cons_succ, List.getElem?_cons_zero]; rfl) (by kernel_rfl) (by kernel_rfl) (by kernel_rfl) (by exact fun _ _ _ h => h) (Or.inl ⟨by rfl, ?_⟩) (by assumption) ?_
    rotate_left
    · intro w hSw; go_simp; try with_reducible rfl
    simp only [Act.put, List.setIfInBounds_toArray, List.set_cons_zero, List.set_cons_succ]
    refine wpAnyH_take (i := 2) (oi := _) (v := ?_) (by simp only [List.getElem?_toArray, List.getElem?_cons_succ, List.getElem?_cons_zero]; rfl) (by kernel_rfl) (by kernel_rfl) (by kernel_rfl) (by exact fun _ _ _ h => h) (Or.inl ⟨by rfl, ?_⟩) (by assumption) ?_
    rotate_left
    · intro w hSw; go_simp; try with_reducible rfl
    simp only [Act.put, List.setIfInBounds_toArray, List.set_cons_zero, List.set_cons_succ]
    refine wpAnyH_take (i := 3) (oi := _) (v := ?_) (by simp only [List.getElem?_toArray, List.getElem?_cons_succ, List.getElem?_cons_zero]; rfl) (by kernel_rfl) (by kernel_rfl) (by kernel_rfl) (by exact fun _ _ _ h => h) (Or.inl ⟨by rfl, ?_⟩) (by assumption) ?_
    rotate_left
    · intro w hSw; go_simp; try with_reducible rfl
    simp only [Act.put, List.setIfInBounds_toArray, List.set_cons_zero, List.set_cons_succ]
    refine wpAnyH_take (i := 4) (oi := _) (v := ?_) (by simp only [List.getElem?_toArray, List.getElem?_cons_succ, List.getElem?_cons_zero]; rfl) (by kernel_rfl) (by kernel_rfl) (by kernel_rfl) (by exact fun _ _ _ h => h) (Or.inl ⟨by rfl, ?_⟩) (by assumption) ?_
    rotate_left
    · intro w hSw; go_simp; try with_reducible rfl
    simp only [Act.put, List.setIfInBounds_toArray, List.set_cons_zero, List.set_cons_succ]
    refine wpAnyH_take (i := 5) (oi := _) (v := ?_) (by simp only [List.getElem?_toArray, List.getElem?_cons_succ, List.getElem?_cons_zero]; rfl) (by kernel_rfl) (by kernel_rfl) (by kernel_rfl) (by exact fun _ _ _ h => h) (Or.inl ⟨by rfl, ?_⟩) (by assumption) ?_
    rotate_left
    · intro w hSw; go_simp; try with_reducible rfl
    simp only [Act.put, List.setIfInBounds_toArray, List.set_cons_zero, List.set_cons_succ]
    refine wpAnyH_take (i := 8) (oi := _) (v := ?_) (by simp only [List.getElem?_toArray, List.getElem?_cons_succ, List.getElem?_cons_zero]; rfl) (by kernel_rfl) (by kernel_rfl) (by kernel_rfl) (by exact fun _ _ _ h => h) (Or.inl ⟨by rfl, ?_⟩) (by assumption) ?_
    rotate_left
    · intro w hSw; go_simp; try with_reducible rfl
    simp only [Act.put, List.setIfInBounds_toArray, List.set_cons_zero, List.set_cons_succ]
    refine wpAnyH_take (i := 9) (oi := _) (v := ?_) (by simp only [List.getElem?_toArray, List.getElem?_cons_succ, List.getElem?_cons_zero]; rfl) (by kernel_rfl) (by kernel_rfl) (by kernel_rfl) (by exact fun _ _ _ h => h) (Or.inl ⟨by rfl, ?_⟩) (by assumption) ?_
    rotate_left
    · intro w hSw; go_simp; try with_reducible rfl
    simp only [Act.put, List.setIfInBounds_toArray, List.set_cons_zero, List.set_cons_succ]
    refine wpAnyH_take (i := 10) (oi := _) (v := ?_) (by simp only [List.getElem?_toArray, List.getElem?_cons_succ, List.getElem?_cons_zero]; rfl) (by kernel_rfl) (by kernel_rfl) (by kernel_rfl) (by exact fun _ _ _ h => h) (Or.inl ⟨by rfl, ?_⟩) (by assumption) ?_
    rotate_left
    · intro w hSw; go_simp; try with_reducible rfl
    simp only [Act.put, List.setIfInBounds_toArray, List.set_cons_zero, List.set_cons_succ]
    refine wpAnyH_take (i := 11) (oi := _) (v := ?_) (by simp only [List.getElem?_toArray, List.getElem?_cons_succ, List.getElem?_cons_zero]; rfl) (by kernel_rfl) (by kernel_rfl) (by kernel_rfl) (by exact fun _ _ _ h => h) (Or.inl ⟨by rfl, ?_⟩) (by assumption) ?_
    rotate_left
    · intro w hSw; go_simp; try with_reducible rfl
    simp only [Act.put, List.setIfInBounds_toArray, List.set_cons_zero, List.set_cons_succ]
    refine wpAnyH_take (i := 12) (oi := _) (v := ?_) (by simp only [List.getElem?_toArray, List.getElem?_cons_succ, List.getElem?_cons_zero]; rfl) (by kernel_rfl) (by kernel_rfl) (by kernel_rfl) (by exact fun _ _ _ h => h) (Or.inl ⟨by rfl, ?_⟩) (by assumption) ?_
    rotate_left
    · intro w hSw; go_simp; try with_reducible rfl
    simp only [Act.put, List.setIfInBounds_toArray, List.set_cons_zero, List.set_cons_succ]
    refine wpAnyH_take (i := 13) (oi := _) (v := ?_) (by simp only [List.getElem?_toArray, List.getElem?_cons_succ, List.getElem?_cons_zero]; rfl) (by kernel_rfl) (by kernel_rfl) (by kernel_rfl) (by exact fun _ _ _ h => h) (Or.inl ⟨by rfl, ?_⟩) (by assumption) ?_
    rotate_left
    · intro w hSw; go_simp; try with_reducible rfl
    simp only [Act.put, List.setIfInBounds_toArray, List.set_cons_zero, List.set_cons_succ]
    refine wpAnyH_take (i := 17) (oi := _) (v := ?_) (by simp only [List.getElem?_toArray, List.getElem?_cons_succ, List.getElem?_cons_zero]; rfl) (by kernel_rfl) (by kernel_rfl) (by kernel_rfl) (by exact fun _ _ _ h => h) (Or.inl ⟨by rfl, ?_⟩) (by assumption) ?_
    rotate_left
    · intro w hSw; go_simp; try with_reducible rfl
    simp only [Act.put, List.setIfInBounds_toArray, List.set_cons_zero, List.set_cons_succ]
    refine wpAnyH_take (i := 18) (oi := _) (v := ?_) (by simp only [List.getElem?_toArray, List.getElem?_cons_succ, List.getElem?_cons_zero]; rfl) (by kernel_rfl) (by kernel_rfl) (by kernel_rfl) (by exact fun _ _ _ h => h) (Or.inl ⟨by rfl, ?_⟩) (by assumption) ?_
    rotate_left
    · intro w hSw; go_simp; try with_reducible rfl
    simp only [Act.put, List.setIfInBounds_toArray, List.set_cons_zero, List.set_cons_succ]
    refine wpAnyH_take (i := 19) (oi := _) (v := ?_) (by simp only [List.getElem?_toArray, List.getElem?_cons_succ, List.getElem?_cons_zero]; rfl) (by kernel_rfl) (by kernel_rfl) (by kernel_rfl) (by exact fun _ _ _ h => h) (Or.inl ⟨by rfl, ?_⟩) (by assumption) ?_
    rotate_left
    · intro w hSw; go_simp; try with_reducible rfl
    simp only [Act.put, List.setIfInBounds_toArray, List.set_cons_zero, List.set_cons_succ]
    refine relist #[true, true, true, true, true, true, false, false, true, true, true, true, true, true, false, false, false, true, true, true, false, false, false, false, false, false, false, false, false, false, false, false, false, false, false, false, false, false, false, false, false, false, false, false, false] (by kernel_rfl) ?_
    refine cutRest 26 #[true, true, true, true, true, true, true, true, true, true, true, true, true, true, true, true, false, true, true, true, false, false, false, false, false, false, false, false, false, false, false, false, false, false, false, false, false, false, false, false, false, false, false, false, false] (fun a x y => ((((a.put (some 35) x).put (some 36) (.string KA)).put (some 43) y).put (some 44) (.string KB))) ?_ (fun hrest1 => ?_)
    rotate_left
    · simp only [Act.put, List.setIfInBounds_toArray, List.set_cons_zero, List.set_cons_succ] at hrest1
      refine wpAnyH_ready (rs := [6, 14]) (by kernel_rfl) (by simp) ?_
      refine AllReadyH.cons (o := _) (by simp only [List.getElem?_toArray, List.getElem?_cons_succ, List.getElem?_cons_zero]; rfl) (fun K hK => ?_) ?_
      · go_simp
        refine hK.out _ _ ?_ (fun hHeld => ?_)
        · try dsimp only
          (first | assumption | exact HS0.out | (with_reducible refine Below.drew (up_alloc ?_); first | assumption | exact Below.refl _ _) | (with_reducible refine Below.drew (up_alloc (up_alloc ?_)); exact Below.refl _ _) | (with_reducible refine up_alloc ?_; assumption))
        clear hK K
        refine wpAnyH_ready (rs := [7, 14]) (by kernel_rfl) (by simp) ?_
        refine AllReadyH.cons (o := _) (by simp only [List.getElem?_toArray, List.getElem?_cons_succ, List.getElem?_cons_zero]; rfl) (fun K hK => ?_) ?_
        · go_simp; go_at_call 6; refine PA.out _ _ _ ?_ ?_ (fun w' hSn hUp => ?_); assumption; (first | (focus (with_reducible refine strs_drew (strs2' _ _ _ _ ?_); simp; done)) | (focus (with_reducible refine strs2' _ _ _ _ ?_; simp; done)) | (focus (with_reducible refine strs_drew (strs_alloc (strs2' _ _ _ _ ?_) _); simp; done)) | (focus (with_reducible refine strs_alloc (strs2' _ _ _ _ ?_) _; simp; done)) | (focus (with_reducible refine hUp _ _ (strs_drew (strs2' _ _ _ _ ?_)); simp; done)) | (focus (with_reducible refine hUp _ _ (strs2' _ _ _ _ ?_); simp; done)) | (focus (with_reducible refine hUp _ _ (strs_drew (strs_alloc (strs2' _ _ _ _ ?_) _)); simp; done)) | (focus (with_reducible refine hUp _ _ (strs_alloc (strs2' _ _ _ _ ?_) _); simp; done))); try dsimp only
          refine hK.out _ _ ?_ (fun hHeld => ?_)
          · try dsimp only
            (first | assumption | exact HS0.out | (with_reducible refine Below.drew (up_alloc ?_); first | assumption | exact Below.refl _ _) | (with_reducible refine Below.drew (up_alloc (up_alloc ?_)); exact Below.refl _ _) | (with_reducible refine up_alloc ?_; assumption))
          clear hK K
          refine wpAnyH_ready (rs := [14]) (by kernel_rfl) (by simp) ?_
          refine AllReadyH.cons (o := _) (by simp only [List.getElem?_toArray, List.getElem?_cons_succ, List.getElem?_cons_zero]; rfl) (fun K hK => ?_) ?_
          · go_simp
            refine hK.out _ _ ?_ (fun hHeld => ?_)
            · try dsimp only
              (first | assumption | exact HS0.out | (with_reducible refine Below.drew (up_alloc ?_); first | assumption | exact Below.refl _ _) | (with_reducible refine Below.drew (up_alloc (up_alloc ?_)); exact Below.refl _ _) | (with_reducible refine up_alloc ?_; assumption))
            clear hK K
            refine wpAnyH_ready (rs := [15]) (by kernel_rfl) (by simp) ?_
            refine AllReadyH.cons (o := _) (by simp only [List.getElem?_toArray, List.getElem?_cons_succ, List.getElem?_cons_zero]; rfl) (fun K hK => ?_) ?_
            · go_simp; go_at_call 6; refine PB.out _ _ _ ?_ ?_ (fun w' hSn hUp => ?_); assumption; (first | (focus (with_reducible refine strs_drew (strs2' _ _ _ _ ?_); simp; done)) | (focus (with_reducible refine strs2' _ _ _ _ ?_; simp; done)) | (focus (with_reducible refine strs_drew (strs_alloc (strs2' _ _ _ _ ?_) _); simp; done)) | (focus (with_reducible refine strs_alloc (strs2' _ _ _ _ ?_) _; simp; done)) | (focus (with_reducible refine hUp _ _ (strs_drew (strs2' _ _ _ _ ?_)); simp; done)) | (focus (with_reducible refine hUp _ _ (strs2' _ _ _ _ ?_); simp; done)) | (focus (with_reducible refine hUp _ _ (strs_drew (strs_alloc (strs2' _ _ _ _ ?_) _)); simp; done)) | (focus (with_reducible refine hUp _ _ (strs_alloc (strs2' _ _ _ _ ?_) _); simp; done))); try dsimp only
              refine hK.out _ _ ?_ (fun hHeld => ?_)
              · try dsimp only
                (first | assumption | exact HS0.out | (with_reducible refine Below.drew (up_alloc ?_); first | assumption | exact Below.refl _ _) | (with_reducible refine Below.drew (up_alloc (up_alloc ?_)); exact Below.refl _ _) | (with_reducible refine up_alloc ?_; assumption))
              clear hK K
              refine relist #[true, true, true, true, true, true, true, true, true, true, true, true, true, true, true, true, false, true, true, true, false, false, false, false, false, false, false, false, false, false, false, false, false, false, false, false, false, false, false, false, false, false, false, false, false] (by kernel_rfl) ?_
              exact hrest1 _ _ _ (by assumption)
            exact AllReadyH.nil
          exact AllReadyH.nil
        refine AllReadyH.cons (o := _) (by simp only [List.getElem?_toArray, List.getElem?_cons_succ, List.getElem?_cons_zero]; rfl) (fun K hK => ?_) ?_
        · go_simp
          refine hK.out _ _ ?_ (fun hHeld => ?_)
          · try dsimp only
            (first | assumption | exact HS0.out | (with_reducible refine Below.drew (up_alloc ?_); first | assumption | exact Below.refl _ _) | (with_reducible refine Below.drew (up_alloc (up_alloc ?_)); exact Below.refl _ _) | (with_reducible refine up_alloc ?_; assumption))
          clear hK K
          refine wpAnyH_ready (rs := [7]) (by kernel_rfl) (by simp) ?_
          refine AllReadyH.cons (o := _) (by simp only [List.getElem?_toArray, List.getElem?_cons_succ, List.getElem?_cons_zero]; rfl) (fun K hK => ?_) ?_
          · go_simp; go_at_call 6; refine PA.out _ _ _ ?_ ?_ (fun w' hSn hUp => ?_); assumption; (first | (focus (with_reducible refine strs_drew (strs2' _ _ _ _ ?_); simp; done)) | (focus (with_reducible refine strs2' _ _ _ _ ?_; simp; done)) | (focus (with_reducible refine strs_drew (strs_alloc (strs2' _ _ _ _ ?_) _); simp; done)) | (focus (with_reducible refine strs_alloc (strs2' _ _ _ _ ?_) _; simp; done)) | (focus (with_reducible refine hUp _ _ (strs_drew (strs2' _ _ _ _ ?_)); simp; done)) | (focus (with_reducible refine hUp _ _ (strs2' _ _ _ _ ?_); simp; done)) | (focus (with_reducible refine hUp _ _ (strs_drew (strs_alloc (strs2' _ _ _ _ ?_) _)); simp; done)) | (focus (with_reducible refine hUp _ _ (strs_alloc (strs2' _ _ _ _ ?_) _); simp; done))); try dsimp only
            refine hK.out _ _ ?_ (fun hHeld => ?_)
            · try dsimp only
              (first | assumption | exact HS0.out | (with_reducible refine Below.drew (up_alloc ?_); first | assumption | exact Below.refl _ _) | (with_reducible refine Below.drew (up_alloc (up_alloc ?_)); exact Below.refl _ _) | (with_reducible refine up_alloc ?_; assumption))
            clear hK K
            refine wpAnyH_ready (rs := [15]) (by kernel_rfl) (by simp) ?_
            refine AllReadyH.cons (o := _) (by simp only [List.getElem?_toArray, List.getElem?_cons_succ, List.getElem?_cons_zero]; rfl) (fun K hK => ?_) ?_
            · go_simp; go_at_call 6; refine PB.out _ _ _ ?_ ?_ (fun w' hSn hUp => ?_); assumption; (first | (focus (with_reducible refine strs_drew (strs2' _ _ _ _ ?_); simp; done)) | (focus (with_reducible refine strs2' _ _ _ _ ?_; simp; done)) | (focus (with_reducible refine strs_drew (strs_alloc (strs2' _ _ _ _ ?_) _); simp; done)) | (focus (with_reducible refine strs_alloc (strs2' _ _ _ _ ?_) _; simp; done)) | (focus (with_reducible refine hUp _ _ (strs_drew (strs2' _ _ _ _ ?_)); simp; done)) | (focus (with_reducible refine hUp _ _ (strs2' _ _ _ _ ?_); simp; done)) | (focus (with_reducible refine hUp _ _ (strs_drew (strs_alloc (strs2' _ _ _ _ ?_) _)); simp; done)) | (focus (with_reducible refine hUp _ _ (strs_alloc (strs2' _ _ _ _ ?_) _); simp; done))); try dsimp only
              refine hK.out _ _ ?_ (fun hHeld => ?_)
              · try dsimp only
                (first | assumption | exact HS0.out | (with_reducible refine Below.drew (up_alloc ?_); first | assumption | exact Below.refl _ _) | (with_reducible refine Below.drew (up_alloc (up_alloc ?_)); exact Below.refl _ _) | (with_reducible refine up_alloc ?_; assumption))
              clear hK K
              refine relist #[true, true, true, true, true, true, true, true, true, true, true, true, true, true, true, true, false, true, true, true, false, false, false, false, false, false, false, false, false, false, false, false, false, false, false, false, false, false, false, false, false, false, false, false, false] (by kernel_rfl) ?_
              exact hrest1 _ _ _ (by assumption)
            exact AllReadyH.nil
          exact AllReadyH.nil
        exact AllReadyH.nil
      refine AllReadyH.cons (o := _) (by simp only [List.getElem?_toArray, List.getElem?_cons_succ, List.getElem?_cons_zero]; rfl) (fun K hK => ?_) ?_
      · go_simp
        refine hK.out _ _ ?_ (fun hHeld => ?_)
        · try dsimp only
          (first | assumption | exact HS0.out | (with_reducible refine Below.drew (up_alloc ?_); first | assumption | exact Below.refl _ _) | (with_reducible refine Below.drew (up_alloc (up_alloc ?_)); exact Below.refl _ _) | (with_reducible refine up_alloc ?_; assumption))
        clear hK K
        refine wpAnyH_ready (rs := [6]) (by kernel_rfl) (by simp) ?_
        refine AllReadyH.cons (o := _) (by simp only [List.getElem?_toArray, List.getElem?_cons_succ, List.getElem?_cons_zero]; rfl) (fun K hK => ?_) ?_
        · go_simp
          refine hK.out _ _ ?_ (fun hHeld => ?_)
          · try dsimp only
            (first | assumption | exact HS0.out | (with_reducible refine Below.drew (up_alloc ?_); first | assumption | exact Below.refl _ _) | (with_reducible refine Below.drew (up_alloc (up_alloc ?_)); exact Below.refl _ _) | (with_reducible refine up_alloc ?_; assumption))
          clear hK K
          refine wpAnyH_ready (rs := [7]) (by kernel_rfl) (by simp) ?_
          refine AllReadyH.cons (o := _) (by simp only [List.getElem?_toArray, List.getElem?_cons_succ, List.getElem?_cons_zero]; rfl) (fun K hK => ?_) ?_
          · go_simp; go_at_call 6; refine PA.out _ _ _ ?_ ?_ (fun w' hSn hUp => ?_); assumption; (first | (focus (with_reducible refine strs_drew (strs2' _ _ _ _ ?_); simp; done)) | (focus (with_reducible refine strs2' _ _ _ _ ?_; simp; done)) | (focus (with_reducible refine strs_drew (strs_alloc (strs2' _ _ _ _ ?_) _); simp; done)) | (focus (with_reducible refine strs_alloc (strs2' _ _ _ _ ?_) _; simp; done)) | (focus (with_reducible refine hUp _ _ (strs_drew (strs2' _ _ _ _ ?_)); simp; done)) | (focus (with_reducible refine hUp _ _ (strs2' _ _ _ _ ?_); simp; done)) | (focus (with_reducible refine hUp _ _ (strs_drew (strs_alloc (strs2' _ _ _ _ ?_) _)); simp; done)) | (focus (with_reducible refine hUp _ _ (strs_alloc (strs2' _ _ _ _ ?_) _); simp; done))); try dsimp only
            refine hK.out _ _ ?_ (fun hHeld => ?_)
            · try dsimp only
              (first | assumption | exact HS0.out | (with_reducible refine Below.drew (up_alloc ?_); first | assumption | exact Below.refl _ _) | (with_reducible refine Below.drew (up_alloc (up_alloc ?_)); exact Below.refl _ _) | (with_reducible refine up_alloc ?_; assumption))
            clear hK K
            refine wpAnyH_ready (rs := [15]) (by kernel_rfl) (by simp) ?_
            refine AllReadyH.cons (o := _) (by simp only [List.getElem?_toArray, List.getElem?_cons_succ, List.getElem?_cons_zero]; rfl) (fun K hK => ?_) ?_
            · go_simp; go_at_call 6; refine PB.out _ _ _ ?_ ?_ (fun w' hSn hUp => ?_); assumption; (first | (focus (with_reducible refine strs_drew (strs2' _ _ _ _ ?_); simp; done)) | (focus (with_reducible refine strs2' _ _ _ _ ?_; simp; done)) | (focus (with_reducible refine strs_drew (strs_alloc (strs2' _ _ _ _ ?_) _); simp; done)) | (focus (with_reducible refine strs_alloc (strs2' _ _ _ _ ?_) _; simp; done)) | (focus (with_reducible refine hUp _ _ (strs_drew (strs2' _ _ _ _ ?_)); simp; done)) | (focus (with_reducible refine hUp _ _ (strs2' _ _ _ _ ?_); simp; done)) | (focus (with_reducible refine hUp _ _ (strs_drew (strs_alloc (strs2' _ _ _ _ ?_) _)); simp; done)) | (focus (with_reducible refine hUp _ _ (strs_alloc (strs2' _ _ _ _ ?_) _); simp; done))); try dsimp only
              refine hK.out _ _ ?_ (fun hHeld => ?_)
              · try dsimp only
                (first | assumption | exact HS0.out | (with_reducible refine Below.drew (up_alloc ?_); first | assumption | exact Below.refl _ _) | (with_reducible refine Below.drew (up_alloc (up_alloc ?_)); exact Below.refl _ _) | (with_reducible refine up_alloc ?_; assumption))
              clear hK K
              refine relist #[true, true, true, true, true, true, true, true, true, true, true, true, true, true, true, true, false, true, true, true, false, false, false, false, false, false, false, false, false, false, false, false, false, false, false, false, false, false, false, false, false, false, false, false, false] (by kernel_rfl) ?_
              exact hrest1 _ _ _ (by assumption)
            exact AllReadyH.nil
          exact AllReadyH.nil
        exact AllReadyH.nil
      exact AllReadyH.nil
    intro x35 x43 w9 hHeld
    simp only [Act.put, List.setIfInBounds_toArray, List.set_cons_zero, List.set_cons_succ]
    refine wpAnyH_take (i := 16) (oi := _) (v := ?_) (by simp only [List.getElem?_toArray, List.getElem?_cons_succ, List.getElem?_cons_zero]; rfl) (by kernel_rfl) (by kernel_rfl) (by kernel_rfl) (by exact fun _ _ _ h => h) (Or.inl ⟨by rfl, ?_⟩) (by assumption) ?_
    rotate_left
    · intro w hSw; go_simp; try with_reducible rfl
    simp only [Act.put, List.setIfInBounds_toArray, List.set_cons_zero, List.set_cons_succ]
    refine wpAnyH_take (i := 20) (oi := _) (v := ?_) (by simp only [List.getElem?_toArray, List.getElem?_cons_succ, List.getElem?_cons_zero]; rfl) (by kernel_rfl) (by kernel_rfl) (by kernel_rfl) (by exact fun _ _ _ h => h) (Or.inl ⟨by rfl, ?_⟩) (by assumption) ?_
    rotate_left
    · intro w hSw; go_simp; try with_reducible rfl
    simp only [Act.put, List.setIfInBounds_toArray, List.set_cons_zero, List.set_cons_succ]
    refine wpAnyH_take (i := 21) (oi := _) (v := ?_) (by simp only [List.getElem?_toArray, List.getElem?_cons_succ, List.getElem?_cons_zero]; rfl) (by kernel_rfl) (by kernel_rfl) (by kernel_rfl) (by exact fun _ _ _ h => h) (Or.inl ⟨by rfl, ?_⟩) (by assumption) ?_
    rotate_left
    · intro w hSw; go_simp; try with_reducible rfl
    simp only [Act.put, List.setIfInBounds_toArray, List.set_cons_zero, List.set_cons_succ]
    refine wpAnyH_take (i := 22) (oi := _) (v := ?_) (by simp only [List.getElem?_toArray, List.getElem?_cons_succ, List.getElem?_cons_zero]; rfl) (by kernel_rfl) (by kernel_rfl) (by kernel_rfl) (by exact fun _ _ _ h => h) (Or.inl ⟨by rfl, ?_⟩) (by assumption) ?_
    rotate_left
    · intro w hSw; go_simp; try with_reducible rfl
    simp only [Act.put, List.setIfInBounds_toArray, List.set_cons_zero, List.set_cons_succ]
    refine wpAnyH_take (i := 25) (oi := _) (v := ?_) (by simp only [List.getElem?_toArray, List.getElem?_cons_succ, List.getElem?_cons_zero]; rfl) (by kernel_rfl) (by kernel_rfl) (by kernel_rfl) (by exact fun _ _ _ h => h) (Or.inl ⟨by rfl, ?_⟩) (by assumption) ?_
    rotate_left
    · intro w hSw; go_simp; try with_reducible rfl
    simp only [Act.put, List.setIfInBounds_toArray, List.set_cons_zero, List.set_cons_succ]
    refine cutRest 17 #[true, true, true, true, true, true, true, true, true, true, true, true, true, true, true, true, true, true, true, true, true, true, true, true, true, true, true, true, false, false, false, false, false, false, false, false, false, false, false, false, false, false, false, false, false] (fun a x y => ((((a.put (some 52) x).put (some 53) (.string KS)).put (some 55) y).put (some 56) (.string KZ))) ?_ (fun hrest2 => ?_)
    rotate_left
    · simp only [Act.put, List.setIfInBounds_toArray, List.set_cons_zero, List.set_cons_succ] at hrest2
      refine wpAnyH_ready (rs := [23, 26]) (by kernel_rfl) (by simp) ?_
      refine AllReadyH.cons (o := _) (by simp only [List.getElem?_toArray, List.getElem?_cons_succ, List.getElem?_cons_zero]; rfl) (fun K hK => ?_) ?_
      · go_simp
        refine hK.out _ _ ?_ (fun hHeld => ?_)
        · try dsimp only
          (first | assumption | exact HS0.out | (with_reducible refine Below.drew (up_alloc ?_); first | assumption | exact Below.refl _ _) | (with_reducible refine Below.drew (up_alloc (up_alloc ?_)); exact Below.refl _ _) | (with_reducible refine up_alloc ?_; assumption))
        clear hK K
        refine wpAnyH_ready (rs := [24, 26]) (by kernel_rfl) (by simp) ?_
        refine AllReadyH.cons (o := _) (by simp only [List.getElem?_toArray, List.getElem?_cons_succ, List.getElem?_cons_zero]; rfl) (fun K hK => ?_) ?_
        · go_simp; go_at_call 6; refine PS.out _ _ _ ?_ ?_ (fun w' hSn hUp => ?_); assumption; (first | (focus (with_reducible refine strs_drew (strs1' _ _ _ ?_); simp; done)) | (focus (with_reducible refine strs1' _ _ _ ?_; simp; done)) | (focus (with_reducible refine strs_drew (strs_alloc (strs1' _ _ _ ?_) _); simp; done)) | (focus (with_reducible refine strs_alloc (strs1' _ _ _ ?_) _; simp; done)) | (focus (with_reducible refine hUp _ _ (strs_drew (strs1' _ _ _ ?_)); simp; done)) | (focus (with_reducible refine hUp _ _ (strs1' _ _ _ ?_); simp; done)) | (focus (with_reducible refine hUp _ _ (strs_drew (strs_alloc (strs1' _ _ _ ?_) _)); simp; done)) | (focus (with_reducible refine hUp _ _ (strs_alloc (strs1' _ _ _ ?_) _); simp; done))); try dsimp only
          refine hK.out _ _ ?_ (fun hHeld => ?_)
          · try dsimp only
            (first | assumption | exact HS0.out | (with_reducible refine Below.drew (up_alloc ?_); first | assumption | exact Below.refl _ _) | (with_reducible refine Below.drew (up_alloc (up_alloc ?_)); exact Below.refl _ _) | (with_reducible refine up_alloc ?_; assumption))
          clear hK K
          refine wpAnyH_ready (rs := [26]) (by kernel_rfl) (by simp) ?_
          refine AllReadyH.cons (o := _) (by simp only [List.getElem?_toArray, List.getElem?_cons_succ, List.getElem?_cons_zero]; rfl) (fun K hK => ?_) ?_
          · go_simp
            refine hK.out _ _ ?_ (fun hHeld => ?_)
            · try dsimp only
              (first | assumption | exact HS0.out | (with_reducible refine Below.drew (up_alloc ?_); first | assumption | exact Below.refl _ _) | (with_reducible refine Below.drew (up_alloc (up_alloc ?_)); exact Below.refl _ _) | (with_reducible refine up_alloc ?_; assumption))
            clear hK K
            refine wpAnyH_ready (rs := [27]) (by kernel_rfl) (by simp) ?_
            refine AllReadyH.cons (o := _) (by simp only [List.getElem?_toArray, List.getElem?_cons_succ, List.getElem?_cons_zero]; rfl) (fun K hK => ?_) ?_
            · go_simp; go_at_call 6; refine PZ.out _ _ _ ?_ ?_ (fun w' hSn hUp => ?_); assumption; (first | (focus (with_reducible refine strs_drew (strs2' _ _ _ _ ?_); simp; done)) | (focus (with_reducible refine strs2' _ _ _ _ ?_; simp; done)) | (focus (with_reducible refine strs_drew (strs_alloc (strs2' _ _ _ _ ?_) _); simp; done)) | (focus (with_reducible refine strs_alloc (strs2' _ _ _ _ ?_) _; simp; done)) | (focus (with_reducible refine hUp _ _ (strs_drew (strs2' _ _ _ _ ?_)); simp; done)) | (focus (with_reducible refine hUp _ _ (strs2' _ _ _ _ ?_); simp; done)) | (focus (with_reducible refine hUp _ _ (strs_drew (strs_alloc (strs2' _ _ _ _ ?_) _)); simp; done)) | (focus (with_reducible refine hUp _ _ (strs_alloc (strs2' _ _ _ _ ?_) _); simp; done))); try dsimp only
              refine hK.out _ _ ?_ (fun hHeld => ?_)
              · try dsimp only
                (first | assumption | exact HS0.out | (with_reducible refine Below.drew (up_alloc ?_); first | assumption | exact Below.refl _ _) | (with_reducible refine Below.drew (up_alloc (up_alloc ?_)); exact Below.refl _ _) | (with_reducible refine up_alloc ?_; assumption))
              clear hK K
              refine relist #[true, true, true, true, true, true, true, true, true, true, true, true, true, true, true, true, true, true, true, true, true, true, true, true, true, true, true, true, false, false, false, false, false, false, false, false, false, false, false, false, false, false, false, false, false] (by kernel_rfl) ?_
              exact hrest2 _ _ _ (by assumption)
            exact AllReadyH.nil
          exact AllReadyH.nil
        refine AllReadyH.cons (o := _) (by simp only [List.getElem?_toArray, List.getElem?_cons_succ, List.getElem?_cons_zero]; rfl) (fun K hK => ?_) ?_
        · go_simp
          refine hK.out _ _ ?_ (fun hHeld => ?_)
          · try dsimp only
            (first | assumption | exact HS0.out | (with_reducible refine Below.drew (up_alloc ?_); first | assumption | exact Below.refl _ _) | (with_reducible refine Below.drew (up_alloc (up_alloc ?_)); exact Below.refl _ _) | (with_reducible refine up_alloc ?_; assumption))
          clear hK K
          refine wpAnyH_ready (rs := [24]) (by kernel_rfl) (by simp) ?_
          refine AllReadyH.cons (o := _) (by simp only [List.getElem?_toArray, List.getElem?_cons_succ, List.getElem?_cons_zero]; rfl) (fun K hK => ?_) ?_
          · go_simp; go_at_call 6; refine PS.out _ _ _ ?_ ?_ (fun w' hSn hUp => ?_); assumption; (first | (focus (with_reducible refine strs_drew (strs1' _ _ _ ?_); simp; done)) | (focus (with_reducible refine strs1' _ _ _ ?_; simp; done)) | (focus (with_reducible refine strs_drew (strs_alloc (strs1' _ _ _ ?_) _); simp; done)) | (focus (with_reducible refine strs_alloc (strs1' _ _ _ ?_) _; simp; done)) | (focus (with_reducible refine hUp _ _ (strs_drew (strs1' _ _ _ ?_)); simp; done)) | (focus (with_reducible refine hUp _ _ (strs1' _ _ _ ?_); simp; done)) | (focus (with_reducible refine hUp _ _ (strs_drew (strs_alloc (strs1' _ _ _ ?_) _)); simp; done)) | (focus (with_reducible refine hUp _ _ (strs_alloc (strs1' _ _ _ ?_) _); simp; done))); try dsimp only
            refine hK.out _ _ ?_ (fun hHeld => ?_)
            · try dsimp only
              (first | assumption | exact HS0.out | (with_reducible refine Below.drew (up_alloc ?_); first | assumption | exact Below.refl _ _) | (with_reducible refine Below.drew (up_alloc (up_alloc ?_)); exact Below.refl _ _) | (with_reducible refine up_alloc ?_; assumption))
            clear hK K
            refine wpAnyH_ready (rs := [27]) (by kernel_rfl) (by simp) ?_
            refine AllReadyH.cons (o := _) (by simp only [List.getElem?_toArray, List.getElem?_cons_succ, List.getElem?_cons_zero]; rfl) (fun K hK => ?_) ?_
            · go_simp; go_at_call 6; refine PZ.out _ _ _ ?_ ?_ (fun w' hSn hUp => ?_); assumption; (first | (focus (with_reducible refine strs_drew (strs2' _ _ _ _ ?_); simp; done)) | (focus (with_reducible refine strs2' _ _ _ _ ?_; simp; done)) | (focus (with_reducible refine strs_drew (strs_alloc (strs2' _ _ _ _ ?_) _); simp; done)) | (focus (with_reducible refine strs_alloc (strs2' _ _ _ _ ?_) _; simp; done)) | (focus (with_reducible refine hUp _ _ (strs_drew (strs2' _ _ _ _ ?_)); simp; done)) | (focus (with_reducible refine hUp _ _ (strs2' _ _ _ _ ?_); simp; done)) | (focus (with_reducible refine hUp _ _ (strs_drew (strs_alloc (strs2' _ _ _ _ ?_) _)); simp; done)) | (focus (with_reducible refine hUp _ _ (strs_alloc (strs2' _ _ _ _ ?_) _); simp; done))); try dsimp only
              refine hK.out _ _ ?_ (fun hHeld => ?_)
              · try dsimp only
                (first | assumption | exact HS0.out | (with_reducible refine Below.drew (up_alloc ?_); first | assumption | exact Below.refl _ _) | (with_reducible refine Below.drew (up_alloc (up_alloc ?_)); exact Below.refl _ _) | (with_reducible refine up_alloc ?_; assumption))
              clear hK K
              refine relist #[true, true, true, true, true, true, true, true, true, true, true, true, true, true, true, true, true, true, true, true, true, true, true, true, true, true, true, true, false, false, false, false, false, false, false, false, false, false, false, false, false, false, false, false, false] (by kernel_rfl) ?_
              exact hrest2 _ _ _ (by assumption)
            exact AllReadyH.nil
          exact AllReadyH.nil
        exact AllReadyH.nil
      refine AllReadyH.cons (o := _) (by simp only [List.getElem?_toArray, List.getElem?_cons_succ, List.getElem?_cons_zero]; rfl) (fun K hK => ?_) ?_
      · go_simp
        refine hK.out _ _ ?_ (fun hHeld => ?_)
        · try dsimp only
          (first | assumption | exact HS0.out | (with_reducible refine Below.drew (up_alloc ?_); first | assumption | exact Below.refl _ _) | (with_reducible refine Below.drew (up_alloc (up_alloc ?_)); exact Below.refl _ _) | (with_reducible refine up_alloc ?_; assumption))
        clear hK K
        refine wpAnyH_ready (rs := [23]) (by kernel_rfl) (by simp) ?_
        refine AllReadyH.cons (o := _) (by simp only [List.getElem?_toArray, List.getElem?_cons_succ, List.getElem?_cons_zero]; rfl) (fun K hK => ?_) ?_
        · go_simp
          refine hK.out _ _ ?_ (fun hHeld => ?_)
          · try dsimp only
            (first | assumption | exact HS0.out | (with_reducible refine Below.drew (up_alloc ?_); first | assumption | exact Below.refl _ _) | (with_reducible refine Below.drew (up_alloc (up_alloc ?_)); exact Below.refl _ _) | (with_reducible refine up_alloc ?_; assumption))
          clear hK K
          refine wpAnyH_ready (rs := [24]) (by kernel_rfl) (by simp) ?_
          refine AllReadyH.cons (o := _) (by simp only [List.getElem?_toArray, List.getElem?_cons_succ, List.getElem?_cons_zero]; rfl) (fun K hK => ?_) ?_
          · go_simp; go_at_call 6; refine PS.out _ _ _ ?_ ?_ (fun w' hSn hUp => ?_); assumption; (first | (focus (with_reducible refine strs_drew (strs1' _ _ _ ?_); simp; done)) | (focus (with_reducible refine strs1' _ _ _ ?_; simp; done)) | (focus (with_reducible refine strs_drew (strs_alloc (strs1' _ _ _ ?_) _); simp; done)) | (focus (with_reducible refine strs_alloc (strs1' _ _ _ ?_) _; simp; done)) | (focus (with_reducible refine hUp _ _ (strs_drew (strs1' _ _ _ ?_)); simp; done)) | (focus (with_reducible refine hUp _ _ (strs1' _ _ _ ?_); simp; done)) | (focus (with_reducible refine hUp _ _ (strs_drew (strs_alloc (strs1' _ _ _ ?_) _)); simp; done)) | (focus (with_reducible refine hUp _ _ (strs_alloc (strs1' _ _ _ ?_) _); simp; done))); try dsimp only
            refine hK.out _ _ ?_ (fun hHeld => ?_)
            · try dsimp only
              (first | assumption | exact HS0.out | (with_reducible refine Below.drew (up_alloc ?_); first | assumption | exact Below.refl _ _) | (with_reducible refine Below.drew (up_alloc (up_alloc ?_)); exact Below.refl _ _) | (with_reducible refine up_alloc ?_; assumption))
            clear hK K
            refine wpAnyH_ready (rs := [27]) (by kernel_rfl) (by simp) ?_
            refine AllReadyH.cons (o := _) (by simp only [List.getElem?_toArray, List.getElem?_cons_succ, List.getElem?_cons_zero]; rfl) (fun K hK => ?_) ?_
            · go_simp; go_at_call 6; refine PZ.out _ _ _ ?_ ?_ (fun w' hSn hUp => ?_); assumption; (first | (focus (with_reducible refine strs_drew (strs2' _ _ _ _ ?_); simp; done)) | (focus (with_reducible refine strs2' _ _ _ _ ?_; simp; done)) | (focus (with_reducible refine strs_drew (strs_alloc (strs2' _ _ _ _ ?_) _); simp; done)) | (focus (with_reducible refine strs_alloc (strs2' _ _ _ _ ?_) _; simp; done)) | (focus (with_reducible refine hUp _ _ (strs_drew (strs2' _ _ _ _ ?_)); simp; done)) | (focus (with_reducible refine hUp _ _ (strs2' _ _ _ _ ?_); simp; done)) | (focus (with_reducible refine hUp _ _ (strs_drew (strs_alloc (strs2' _ _ _ _ ?_) _)); simp; done)) | (focus (with_reducible refine hUp _ _ (strs_alloc (strs2' _ _ _ _ ?_) _); simp; done))); try dsimp only
              refine hK.out _ _ ?_ (fun hHeld => ?_)
              · try dsimp only
                (first | assumption | exact HS0.out | (with_reducible refine Below.drew (up_alloc ?_); first | assumption | exact Below.refl _ _) | (with_reducible refine Below.drew (up_alloc (up_alloc ?_)); exact Below.refl _ _) | (with_reducible refine up_alloc ?_; assumption))
              clear hK K
              refine relist #[true, true, true, true, true, true, true, true, true, true, true, true, true, true, true, true, true, true, true, true, true, true, true, true, true, true, true, true, false, false, false, false, false, false, false, false, false, false, false, false, false, false, false, false, false] (by kernel_rfl) ?_
              exact hrest2 _ _ _ (by assumption)
            exact AllReadyH.nil
          exact AllReadyH.nil
        exact AllReadyH.nil
      exact AllReadyH.nil
    intro x52 x55 w9 hHeld
    simp only [Act.put, List.setIfInBounds_toArray, List.set_cons_zero, List.set_cons_succ]
    refine wpAnyH_take (i := 28) (oi := _) (v := ?_) (by simp only [List.getElem?_toArray, List.getElem?_cons_succ, List.getElem?_cons_zero]; rfl) (by kernel_rfl) (by kernel_rfl) (by kernel_rfl) (by exact fun _ _ _ h => h) (Or.inl ⟨by rfl, ?_⟩) (by assumption) ?_
    rotate_left
    · intro w hSw; go_simp; try with_reducible rfl
    simp only [Act.put, List.setIfInBounds_toArray, List.set_cons_zero, List.set_cons_succ]
    refine wpAnyH_take (i := 29) (oi := _) (v := ?_) (by simp only [List.getElem?_toArray, List.getElem?_cons_succ, List.getElem?_cons_zero]; rfl) (by kernel_rfl) (by kernel_rfl) (by kernel_rfl) (by exact fun _ _ _ h => h) (Or.inl ⟨by rfl, ?_⟩) (by assumption) ?_
    rotate_left
    · intro w hSw; go_simp; try with_reducible rfl
    simp only [Act.put, List.setIfInBounds_toArray, List.set_cons_zero, List.set_cons_succ]
    refine wpAnyH_take (i := 30) (oi := _) (v := ?_) (by simp only [List.getElem?_toArray, List.getElem?_cons_succ, List.getElem?_cons_zero]; rfl) (by kernel_rfl) (by kernel_rfl) (by kernel_rfl) (by exact fun _ _ _ h => h) (Or.inl ⟨by rfl, ?_⟩) (by assumption) ?_
    rotate_left
    · intro w hSw; go_simp; try with_reducible rfl
    simp only [Act.put, List.setIfInBounds_toArray, List.set_cons_zero, List.set_cons_succ]
    refine wpAnyH_take (i := 31) (oi := _) (v := ?_) (by simp only [List.getElem?_toArray, List.getElem?_cons_succ, List.getElem?_cons_zero]; rfl) (by kernel_rfl) (by kernel_rfl) (by kernel_rfl) (by exact fun _ _ _ h => h) (Or.inl ⟨by rfl, ?_⟩) (by assumption) ?_
    rotate_left
    · intro w hSw; go_simp; try with_reducible rfl
    simp only [Act.put, List.setIfInBounds_toArray, List.set_cons_zero, List.set_cons_succ]
    refine wpAnyH_take (i := 32) (oi := _) (v := ?_) (by simp only [List.getElem?_toArray, List.getElem?_cons_succ, List.getElem?_cons_zero]; rfl) (by kernel_rfl) (by kernel_rfl) (by kernel_rfl) (by exact fun _ _ _ h => h) (Or.inl ⟨by rfl, ?_⟩) (by assumption) ?_
    rotate_left
    · intro w hSw; go_simp; try with_reducible rfl
    simp only [Act.put, List.setIfInBounds_toArray, List.set_cons_zero, List.set_cons_succ]
    refine wpAnyH_take (i := 33) (oi := _) (v := ?_) (by simp only [List.getElem?_toArray, List.getElem?_cons_succ, List.getElem?_cons_zero]; rfl) (by kernel_rfl) (by kernel_rfl) (by kernel_rfl) (by exact fun _ _ _ h => h) (Or.inl ⟨by rfl, ?_⟩) (by assumption) ?_
    rotate_left
    · intro w hSw; go_simp; try with_reducible rfl
    simp only [Act.put, List.setIfInBounds_toArray, List.set_cons_zero, List.set_cons_succ]
    refine wpAnyH_take (i := 34) (oi := _) (v := ?_) (by simp only [List.getElem?_toArray, List.getElem?_cons_succ, List.getElem?_cons_zero]; rfl) (by kernel_rfl) (by kernel_rfl) (by kernel_rfl) (by exact fun _ _ _ h => h) (Or.inl ⟨by rfl, ?_⟩) (by assumption) ?_
    rotate_left
    · intro w hSw; go_simp; try with_reducible rfl
    simp only [Act.put, List.setIfInBounds_toArray, List.set_cons_zero, List.set_cons_succ]
    refine wpAnyH_take (i := 35) (oi := _) (v := ?_) (by simp only [List.getElem?_toArray, List.getElem?_cons_succ, List.getElem?_cons_zero]; rfl) (by kernel_rfl) (by kernel_rfl) (by kernel_rfl) (by exact fun _ _ _ h => h) (Or.inl ⟨by rfl, ?_⟩) (by assumption) ?_
    rotate_left
    · intro w hSw; go_simp; try with_reducible rfl
    simp only [Act.put, List.setIfInBounds_toArray, List.set_cons_zero, List.set_cons_succ]
    refine wpAnyH_take (i := 36) (oi := _) (v := ?_) (by simp only [List.getElem?_toArray, List.getElem?_cons_succ, List.getElem?_cons_zero]; rfl) (by kernel_rfl) (by kernel_rfl) (by kernel_rfl) (by exact fun _ _ _ h => h) (Or.inl ⟨by rfl, ?_⟩) (by assumption) ?_
    rotate_left
    · intro w hSw; go_simp; try with_reducible rfl
    simp only [Act.put, List.setIfInBounds_toArray, List.set_cons_zero, List.set_cons_succ]
    refine wpAnyH_take (i := 39) (oi := _) (v := ?_) (by simp only [List.getElem?_toArray, List.getElem?_cons_succ, List.getElem?_cons_zero]; rfl) (by kernel_rfl) (by kernel_rfl) (by kernel_rfl) (by exact fun _ _ _ h => h) (Or.inl ⟨by rfl, ?_⟩) (by assumption) ?_
    rotate_left
    · intro w hSw; go_simp; try with_reducible rfl
    simp only [Act.put, List.setIfInBounds_toArray, List.set_cons_zero, List.set_cons_succ]
    refine cutRest 3 #[true, true, true, true, true, true, true, true, true, true, true, true, true, true, true, true, true, true, true, true, true, true, true, true, true, true, true, true, true, true, true, true, true, true, true, true, true, true, true, true, true, true, false, false, false] (fun a x y => ((((a.put (some 66) x).put (some 67) (.string KA)).put (some 69) y).put (some 70) (.string KS))) ?_ (fun hrest3 => ?_)
    rotate_left
    · simp only [Act.put, List.setIfInBounds_toArray, List.set_cons_zero, List.set_cons_succ] at hrest3
      refine wpAnyH_ready (rs := [37, 40]) (by kernel_rfl) (by simp) ?_
      refine AllReadyH.cons (o := _) (by simp only [List.getElem?_toArray, List.getElem?_cons_succ, List.getElem?_cons_zero]; rfl) (fun K hK => ?_) ?_
      · go_simp
        refine hK.out _ _ ?_ (fun hHeld => ?_)
        · try dsimp only
          (first | assumption | exact HS0.out | (with_reducible refine Below.drew (up_alloc ?_); first | assumption | exact Below.refl _ _) | (with_reducible refine Below.drew (up_alloc (up_alloc ?_)); exact Below.refl _ _) | (with_reducible refine up_alloc ?_; assumption))
        clear hK K
        refine wpAnyH_ready (rs := [38, 40]) (by kernel_rfl) (by simp) ?_
        refine AllReadyH.cons (o := _) (by simp only [List.getElem?_toArray, List.getElem?_cons_succ, List.getElem?_cons_zero]; rfl) (fun K hK => ?_) ?_
        · go_simp; go_at_call 6; refine PA.out _ _ _ ?_ ?_ (fun w' hSn hUp => ?_); assumption; (first | (focus (with_reducible refine strs_drew (strs2' _ _ _ _ ?_); simp; done)) | (focus (with_reducible refine strs2' _ _ _ _ ?_; simp; done)) | (focus (with_reducible refine strs_drew (strs_alloc (strs2' _ _ _ _ ?_) _); simp; done)) | (focus (with_reducible refine strs_alloc (strs2' _ _ _ _ ?_) _; simp; done)) | (focus (with_reducible refine hUp _ _ (strs_drew (strs2' _ _ _ _ ?_)); simp; done)) | (focus (with_reducible refine hUp _ _ (strs2' _ _ _ _ ?_); simp; done)) | (focus (with_reducible refine hUp _ _ (strs_drew (strs_alloc (strs2' _ _ _ _ ?_) _)); simp; done)) | (focus (with_reducible refine hUp _ _ (strs_alloc (strs2' _ _ _ _ ?_) _); simp; done))); try dsimp only
          refine hK.out _ _ ?_ (fun hHeld => ?_)
          · try dsimp only
            (first | assumption | exact HS0.out | (with_reducible refine Below.drew (up_alloc ?_); first | assumption | exact Below.refl _ _) | (with_reducible refine Below.drew (up_alloc (up_alloc ?_)); exact Below.refl _ _) | (with_reducible refine up_alloc ?_; assumption))
          clear hK K
          refine wpAnyH_ready (rs := [40]) (by kernel_rfl) (by simp) ?_
          refine AllReadyH.cons (o := _) (by simp only [List.getElem?_toArray, List.getElem?_cons_succ, List.getElem?_cons_zero]; rfl) (fun K hK => ?_) ?_
          · go_simp
            refine hK.out _ _ ?_ (fun hHeld => ?_)
            · try dsimp only
              (first | assumption | exact HS0.out | (with_reducible refine Below.drew (up_alloc ?_); first | assumption | exact Below.refl _ _) | (with_reducible refine Below.drew (up_alloc (up_alloc ?_)); exact Below.refl _ _) | (with_reducible refine up_alloc ?_; assumption))
            clear hK K
            refine wpAnyH_ready (rs := [41]) (by kernel_rfl) (by simp) ?_
            refine AllReadyH.cons (o := _) (by simp only [List.getElem?_toArray, List.getElem?_cons_succ, List.getElem?_cons_zero]; rfl) (fun K hK => ?_) ?_
            · go_simp; go_at_call 6; refine PS.out _ _ _ ?_ ?_ (fun w' hSn hUp => ?_); assumption; (first | (focus (with_reducible refine strs_drew (strs1' _ _ _ ?_); simp; done)) | (focus (with_reducible refine strs1' _ _ _ ?_; simp; done)) | (focus (with_reducible refine strs_drew (strs_alloc (strs1' _ _ _ ?_) _); simp; done)) | (focus (with_reducible refine strs_alloc (strs1' _ _ _ ?_) _; simp; done)) | (focus (with_reducible refine hUp _ _ (strs_drew (strs1' _ _ _ ?_)); simp; done)) | (focus (with_reducible refine hUp _ _ (strs1' _ _ _ ?_); simp; done)) | (focus (with_reducible refine hUp _ _ (strs_drew (strs_alloc (strs1' _ _ _ ?_) _)); simp; done)) | (focus (with_reducible refine hUp _ _ (strs_alloc (strs1' _ _ _ ?_) _); simp; done))); try dsimp only
              refine hK.out _ _ ?_ (fun hHeld => ?_)
              · try dsimp only
                (first | assumption | exact HS0.out | (with_reducible refine Below.drew (up_alloc ?_); first | assumption | exact Below.refl _ _) | (with_reducible refine Below.drew (up_alloc (up_alloc ?_)); exact Below.refl _ _) | (with_reducible refine up_alloc ?_; assumption))
              clear hK K
              refine relist #[true, true, true, true, true, true, true, true, true, true, true, true, true, true, true, true, true, true, true, true, true, true, true, true, true, true, true, true, true, true, true, true, true, true, true, true, true, true, true, true, true, true, false, false, false] (by kernel_rfl) ?_
              exact hrest3 _ _ _ (by assumption)
            exact AllReadyH.nil
          exact AllReadyH.nil
        refine AllReadyH.cons (o := _) (by simp only [List.getElem?_toArray, List.getElem?_cons_succ, List.getElem?_cons_zero]; rfl) (fun K hK => ?_) ?_
        · go_simp
          refine hK.out _ _ ?_ (fun hHeld => ?_)
          · try dsimp only
            (first | assumption | exact HS0.out | (with_reducible refine Below.drew (up_alloc ?_); first | assumption | exact Below.refl _ _) | (with_reducible refine Below.drew (up_alloc (up_alloc ?_)); exact Below.refl _ _) | (with_reducible refine up_alloc ?_; assumption))
          clear hK K
          refine wpAnyH_ready (rs := [38]) (by kernel_rfl) (by simp) ?_
          refine AllReadyH.cons (o := _) (by simp only [List.getElem?_toArray, List.getElem?_cons_succ, List.getElem?_cons_zero]; rfl) (fun K hK => ?_) ?_
          · go_simp; go_at_call 6; refine PA.out _ _ _ ?_ ?_ (fun w' hSn hUp => ?_); assumption; (first | (focus (with_reducible refine strs_drew (strs2' _ _ _ _ ?_); simp; done)) | (focus (with_reducible refine strs2' _ _ _ _ ?_; simp; done)) | (focus (with_reducible refine strs_drew (strs_alloc (strs2' _ _ _ _ ?_) _); simp; done)) | (focus (with_reducible refine strs_alloc (strs2' _ _ _ _ ?_) _; simp; done)) | (focus (with_reducible refine hUp _ _ (strs_drew (strs2' _ _ _ _ ?_)); simp; done)) | (focus (with_reducible refine hUp _ _ (strs2' _ _ _ _ ?_); simp; done)) | (focus (with_reducible refine hUp _ _ (strs_drew (strs_alloc (strs2' _ _ _ _ ?_) _)); simp; done)) | (focus (with_reducible refine hUp _ _ (strs_alloc (strs2' _ _ _ _ ?_) _); simp; done))); try dsimp only
            refine hK.out _ _ ?_ (fun hHeld => ?_)
            · try dsimp only
              (first | assumption | exact HS0.out | (with_reducible refine Below.drew (up_alloc ?_); first | assumption | exact Below.refl _ _) | (with_reducible refine Below.drew (up_alloc (up_alloc ?_)); exact Below.refl _ _) | (with_reducible refine up_alloc ?_; assumption))
            clear hK K
            refine wpAnyH_ready (rs := [41]) (by kernel_rfl) (by simp) ?_
            refine AllReadyH.cons (o := _) (by simp only [List.getElem?_toArray, List.getElem?_cons_succ, List.getElem?_cons_zero]; rfl) (fun K hK => ?_) ?_
            · go_simp; go_at_call 6; refine PS.out _ _ _ ?_ ?_ (fun w' hSn hUp => ?_); assumption; (first | (focus (with_reducible refine strs_drew (strs1' _ _ _ ?_); simp; done)) | (focus (with_reducible refine strs1' _ _ _ ?_; simp; done)) | (focus (with_reducible refine strs_drew (strs_alloc (strs1' _ _ _ ?_) _); simp; done)) | (focus (with_reducible refine strs_alloc (strs1' _ _ _ ?_) _; simp; done)) | (focus (with_reducible refine hUp _ _ (strs_drew (strs1' _ _ _ ?_)); simp; done)) | (focus (with_reducible refine hUp _ _ (strs1' _ _ _ ?_); simp; done)) | (focus (with_reducible refine hUp _ _ (strs_drew (strs_alloc (strs1' _ _ _ ?_) _)); simp; done)) | (focus (with_reducible refine hUp _ _ (strs_alloc (strs1' _ _ _ ?_) _); simp; done))); try dsimp only
              refine hK.out _ _ ?_ (fun hHeld => ?_)
              · try dsimp only
                (first | assumption | exact HS0.out | (with_reducible refine Below.drew (up_alloc ?_); first | assumption | exact Below.refl _ _) | (with_reducible refine Below.drew (up_alloc (up_alloc ?_)); exact Below.refl _ _) | (with_reducible refine up_alloc ?_; assumption))
              clear hK K
              refine relist #[true, true, true, true, true, true, true, true, true, true, true, true, true, true, true, true, true, true, true, true, true, true, true, true, true, true, true, true, true, true, true, true, true, true, true, true, true, true, true, true, true, true, false, false, false] (by kernel_rfl) ?_
              exact hrest3 _ _ _ (by assumption)
            exact AllReadyH.nil
          exact AllReadyH.nil
        exact AllReadyH.nil
      refine AllReadyH.cons (o := _) (by simp only [List.getElem?_toArray, List.getElem?_cons_succ, List.getElem?_cons_zero]; rfl) (fun K hK => ?_) ?_
      · go_simp
        refine hK.out _ _ ?_ (fun hHeld => ?_)
        · try dsimp only
          (first | assumption | exact HS0.out | (with_reducible refine Below.drew (up_alloc ?_); first | assumption | exact Below.refl _ _) | (with_reducible refine Below.drew (up_alloc (up_alloc ?_)); exact Below.refl _ _) | (with_reducible refine up_alloc ?_; assumption))
        clear hK K
        refine wpAnyH_ready (rs := [37]) (by kernel_rfl) (by simp) ?_
        refine AllReadyH.cons (o := _) (by simp only [List.getElem?_toArray, List.getElem?_cons_succ, List.getElem?_cons_zero]; rfl) (fun K hK => ?_) ?_
        · go_simp
          refine hK.out _ _ ?_ (fun hHeld => ?_)
          · try dsimp only
            (first | assumption | exact HS0.out | (with_reducible refine Below.drew (up_alloc ?_); first | assumption | exact Below.refl _ _) | (with_reducible refine Below.drew (up_alloc (up_alloc ?_)); exact Below.refl _ _) | (with_reducible refine up_alloc ?_; assumption))
          clear hK K
          refine wpAnyH_ready (rs := [38]) (by kernel_rfl) (by simp) ?_
          refine AllReadyH.cons (o := _) (by simp only [List.getElem?_toArray, List.getElem?_cons_succ, List.getElem?_cons_zero]; rfl) (fun K hK => ?_) ?_
          · go_simp; go_at_call 6; refine PA.out _ _ _ ?_ ?_ (fun w' hSn hUp => ?_); assumption; (first | (focus (with_reducible refine strs_drew (strs2' _ _ _ _ ?_); simp; done)) | (focus (with_reducible refine strs2' _ _ _ _ ?_; simp; done)) | (focus (with_reducible refine strs_drew (strs_alloc (strs2' _ _ _ _ ?_) _); simp; done)) | (focus (with_reducible refine strs_alloc (strs2' _ _ _ _ ?_) _; simp; done)) | (focus (with_reducible refine hUp _ _ (strs_drew (strs2' _ _ _ _ ?_)); simp; done)) | (focus (with_reducible refine hUp _ _ (strs2' _ _ _ _ ?_); simp; done)) | (focus (with_reducible refine hUp _ _ (strs_drew (strs_alloc (strs2' _ _ _ _ ?_) _)); simp; done)) | (focus (with_reducible refine hUp _ _ (strs_alloc (strs2' _ _ _ _ ?_) _); simp; done))); try dsimp only
            refine hK.out _ _ ?_ (fun hHeld => ?_)
            · try dsimp only
              (first | assumption | exact HS0.out | (with_reducible refine Below.drew (up_alloc ?_); first | assumption | exact Below.refl _ _) | (with_reducible refine Below.drew (up_alloc (up_alloc ?_)); exact Below.refl _ _) | (with_reducible refine up_alloc ?_; assumption))
            clear hK K
            refine wpAnyH_ready (rs := [41]) (by kernel_rfl) (by simp) ?_
            refine AllReadyH.cons (o := _) (by simp only [List.getElem?_toArray, List.getElem?_cons_succ, List.getElem?_cons_zero]; rfl) (fun K hK => ?_) ?_
            · go_simp; go_at_call 6; refine PS.out _ _ _ ?_ ?_ (fun w' hSn hUp => ?_); assumption; (first | (focus (with_reducible refine strs_drew (strs1' _ _ _ ?_); simp; done)) | (focus (with_reducible refine strs1' _ _ _ ?_; simp; done)) | (focus (with_reducible refine strs_drew (strs_alloc (strs1' _ _ _ ?_) _); simp; done)) | (focus (with_reducible refine strs_alloc (strs1' _ _ _ ?_) _; simp; done)) | (focus (with_reducible refine hUp _ _ (strs_drew (strs1' _ _ _ ?_)); simp; done)) | (focus (with_reducible refine hUp _ _ (strs1' _ _ _ ?_); simp; done)) | (focus (with_reducible refine hUp _ _ (strs_drew (strs_alloc (strs1' _ _ _ ?_) _)); simp; done)) | (focus (with_reducible refine hUp _ _ (strs_alloc (strs1' _ _ _ ?_) _); simp; done))); try dsimp only
              refine hK.out _ _ ?_ (fun hHeld => ?_)
              · try dsimp only
                (first | assumption | exact HS0.out | (with_reducible refine Below.drew (up_alloc ?_); first | assumption | exact Below.refl _ _) | (with_reducible refine Below.drew (up_alloc (up_alloc ?_)); exact Below.refl _ _) | (with_reducible refine up_alloc ?_; assumption))
              clear hK K
              refine relist #[true, true, true, true, true, true, true, true, true, true, true, true, true, true, true, true, true, true, true, true, true, true, true, true, true, true, true, true, true, true, true, true, true, true, true, true, true, true, true, true, true, true, false, false, false] (by kernel_rfl) ?_
              exact hrest3 _ _ _ (by assumption)
            exact AllReadyH.nil
          exact AllReadyH.nil
        exact AllReadyH.nil
      exact AllReadyH.nil
    intro x66 x69 w9 hHeld
    simp only [Act.put, List.setIfInBounds_toArray, List.set_cons_zero, List.set_cons_succ]
    refine wpAnyH_take (i := 42) (oi := _) (v := ?_) (by simp only [List.getElem?_toArray, List.getElem?_cons_succ, List.getElem?_cons_zero]; rfl) (by kernel_rfl) (by kernel_rfl) (by kernel_rfl) (by exact fun _ _ _ h => h) (Or.inl ⟨by rfl, ?_⟩) (by assumption) ?_
    rotate_left
    · intro w hSw; go_simp; try with_reducible rfl
    simp only [Act.put, List.setIfInBounds_toArray, List.set_cons_zero, List.set_cons_succ]
    refine wpAnyH_take (i := 43) (oi := _) (v := ?_) (by simp only [List.getElem?_toArray, List.getElem?_cons_succ, List.getElem?_cons_zero]; rfl) (by kernel_rfl) (by kernel_rfl) (by kernel_rfl) (by exact fun _ _ _ h => h) (Or.inl ⟨by rfl, ?_⟩) (by assumption) ?_
    rotate_left
    · intro w hSw; go_simp; try with_reducible rfl
    simp only [Act.put, List.setIfInBounds_toArray, List.set_cons_zero, List.set_cons_succ]
    refine wpAnyH_take (i := 44) (oi := _) (v := ?_) (by simp only [List.getElem?_toArray, List.getElem?_cons_succ, List.getElem?_cons_zero]; rfl) (by kernel_rfl) (by kernel_rfl) (by kernel_rfl) (by exact fun _ _ _ h => h) (Or.inl ⟨by rfl, ?_⟩) (by assumption) ?_
    rotate_left
    · intro w hSw; go_simp; try with_reducible rfl
    simp only [Act.put, List.setIfInBounds_toArray, List.set_cons_zero, List.set_cons_succ]
    refine wpAnyH_done (by kernel_rfl) ?_ _
    have HXF := Lib.hid (chain HX2.out hHeld); clear hHeld; go_wp2; go_ret; exact ⟨rfl, HXF.out⟩
end Go.Proofs.YtmpiaaangbjapaaDoor.lawMintUnlike
