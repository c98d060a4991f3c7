/- The law LexAll: the walk. -/
import Derived.Test.YtonpgohmoeeogaaGreatDoorMbeg
import Derived.Test.YtonpgohmoeeogaaGreatDoorMref
import Derived.Test.YtonpgohmoeeogaaGreatDoorMwalk
namespace Go.Proofs.YtonpgohmoeeogaaGreatDoor.lawLexAll
open Go.RowKit Go.Shelf

/-- What both scanners tell: the same. -/
def BothE (S : List UInt8) (v : Value) (c a : Int) (w : World) : Prop :=
  match allS S with
  | .ok ws => c = 0 ∧ a = 0 ∧ IsWords w v ws
  | .error p => c = 1 ∧ a = (p : Int) ∧ v = .slice none 0 0
theorem bothE_of {S : List UInt8} {e : Ending} {w : World} (h : AllE S e w) : ∃ v c a, e = .returned (.tuple #[v, .agg #[.int .i64 c, .int .i64 a]]) ∧ (∃ x n k, v = .slice x n k) ∧ BothE S v c a w := by
  unfold AllE at h
  cases hS : allS S with
  | ok ws =>
    rw [hS] at h
    obtain ⟨v, he, hw⟩ := h
    obtain ⟨x, k, hv, _⟩ := words_shape hw
    exact ⟨v, 0, 0, he, ⟨x, _, k, hv⟩, by unfold BothE; rw [hS]; exact ⟨rfl, rfl, hw⟩⟩
  | error p =>
    rw [hS] at h
    exact ⟨_, 1, p, h, ⟨_, _, _, rfl⟩, by unfold BothE; rw [hS]; exact ⟨rfl, rfl, rfl⟩⟩
theorem words_both {S : List UInt8} {v1 v2 : Value} {c1 a1 c2 a2 : Int} {w w2 : World} (h1 : BothE S v1 c1 a1 w) (h2 : BothE S v2 c2 a2 w2) (hb : Below w.heap.size w w2) : c1 = c2 ∧ a1 = a2 ∧ ∃ ws, IsWords w2 v1 ws ∧ IsWords w2 v2 ws := by
  unfold BothE at h1 h2
  cases hS : allS S with
  | ok ws =>
    rw [hS] at h1 h2
    exact ⟨h1.1.trans h2.1.symm, h1.2.1.trans h2.2.1.symm, ws, IsRow.below h1.2.2 hb, h2.2.2⟩
  | error p =>
    rw [hS] at h1 h2
    have h0 : IsWords w2 (.slice none 0 0) [] := ⟨none, 0, rfl, by simp [wordRows], by simp [maxLen], fun h => absurd rfl h⟩
    exact ⟨h1.1.trans h2.1.symm, h1.2.1.trans h2.2.1.symm, [], by rw [h1.2.2]; exact h0, by rw [h2.2.2]; exact h0⟩

set_option maxHeartbeats 4000000 in
set_option maxRecDepth 100000 in
theorem law (s : ByteArray) (w : World) (hs : s.size ≤ maxLen) (hG : GP w.heap.size w) :
    Calls Tryz.prog 3 #[.string s] w fun e w' => e = .returned (.bool true) ∧ Below w.heap.size w w' := by
  have c0 := begun4_any w hG
  have c1 := fun w' => short_any s 200 w' hs (by omega) (by omega)
  obtain ⟨S, hS⟩ : ∃ S : ByteArray, s.extract 0 (min s.size (200 : Int).toNat) = S := ⟨_, rfl⟩
  have hsz : S.size ≤ 200 := by rw [← hS, ByteArray.size_extract]; omega
  simp only [hS] at c1
  have c2 := fun w' => lexAll_any S w' (by omega)
  have c3 := fun w' => refAll_any S w' (by omega)
  have C0 := Lib.hid c0; have C1 := Lib.hid c1; have C2 := Lib.hid c2; have C3 := Lib.hid c3
  clear c0 c1 c2 c3 hS hG
  go_enter Tryz.func3, Tryz.ntmps3
  go_wp2_with fail
  refine C0.out.mono ?_
  rintro e w1 ⟨rfl, hb1⟩
  have HB1 := Lib.hid hb1
  clear hb1
  go_wp2_with fail
  refine (C1.out _).mono ?_
  rintro e w2 ⟨rfl, rfl⟩
  go_wp2_with fail
  refine (C2.out _).mono ?_
  rintro e w2 ⟨he, hb2⟩
  obtain ⟨v2, p2, q2, rfl, ⟨x2, n2, k2, rfl⟩, hE2⟩ := bothE_of he
  have HB2 := Lib.hid (HB1.out.trans (hb2.mono HB1.out.size))
  have HE2 := Lib.hid hE2
  clear he hb2 hE2
  go_wp2_with fail
  refine (C3.out _).mono ?_
  rintro e w3 ⟨he, hb3⟩
  obtain ⟨v3, p3, q3, rfl, ⟨x3, n3, k3, rfl⟩, hE3⟩ := bothE_of he
  have hb3' : Below w2.heap.size w2 w3 := ((Below.refl _ _).alloc (Nat.le_refl _) _).trans (hb3.mono (by simp))
  obtain ⟨rfl, rfl, ws, hw2, hw3⟩ := words_both HE2.out hE3 hb3'
  have hbk := (hb3.block w2.heap.size (by simp)).trans (alloc_at w2 _)
  obtain ⟨y0, y1, _, _⟩ := cells2 hbk
  have HBK := Lib.hid hbk
  have HB3 := Lib.hid (HB2.out.trans (hb3'.mono HB2.out.size))
  have hb4 : Below w3.heap.size w3 (w3.alloc (.cells #[.int .i64 p2, .int .i64 q2] 27)) := (Below.refl _ _).alloc (Nat.le_refl _) _
  have c4 := words_same _ _ ws (w3.alloc (.cells #[.int .i64 p2, .int .i64 q2] 27)) (hw2.below hb4) (hw3.below hb4)
  have C4 := Lib.hid c4
  have hbl : w2.heap.size < w3.heap.size := Nat.lt_of_lt_of_le (by simp) hb3.size
  have HBL := Lib.hid hbl
  clear he hb3 hb3' hE3 hw2 hw3 hbk c4 hb4 hbl
  go_wp2_with fail
  refine C4.out.mono ?_
  rintro e w5 ⟨rfl, hb5⟩
  have hx1 := (hb5.block w2.heap.size (by simp; have := HBL.out; omega)).trans ((Below.heap_alloc _ _ _ HBL.out).trans HBK.out)
  have hx2 := (hb5.block w3.heap.size (by simp)).trans (alloc_at w3 _)
  obtain ⟨z0, z1, _, _⟩ := cells2 hx1
  obtain ⟨z2, z3, _, _⟩ := cells2 hx2
  have HB5 := Lib.hid ((HB3.out.alloc HB3.out.size _).trans (hb5.mono (by have := HB3.out.size; simp; omega)))
  have EQ := eql_err p2 q2
  clear hb5 hx1 hx2
  go_wp2
  go_ret
  exact ⟨rfl, HB5.out⟩
end Go.Proofs.YtonpgohmoeeogaaGreatDoor.lawLexAll
