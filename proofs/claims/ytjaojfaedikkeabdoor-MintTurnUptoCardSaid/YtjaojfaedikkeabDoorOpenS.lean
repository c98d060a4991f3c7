/- Opening an argument that is a slice of texts. -/
import Derived.Deep.Strs
import Derived.Test.YtjaojfaedikkeabDoorBulk
import Derived.Test.YtjaojfaedikkeabDoorGate
import Derived.Test.YtjaojfaedikkeabDoorWalkC
namespace Go.Proofs.YtjaojfaedikkeabDoor
open Go.ChangeShapes Go.WideShapes Go.ChangeAt Go.RowKit Go.Deep

set_option maxRecDepth 100000 in
theorem open_strings {H : Type} {enc : TypeId × Value → H} {W : World} {base : Nat} {r : Reach} {b0 : Nat} {sp : Nat → Bool} {held : Bool} {v : Value} {d : DataW H} {ps : List MemPlace}
    (hval : Value.okWide Tryd.prog W r b0 25 v) (h : DataW.Trod enc Tryd.prog W base sp held 25 v d ps) :
    ∃ xs : List ByteArray, IsStrs W v xs ∧ ∀ x ∈ xs, x.size ≤ Rows.uptoBulk d := by
  obtain ⟨a, n, c, rfl⟩ := okWide_slice Tryd.underlying25 hval
  obtain ⟨fuel, hf⟩ := h
  rcases open_strs Tryd.underlying25 Tryd.underlying9 (by kernel_rfl) hf with ⟨hcs, _⟩ | ⟨a', len, cap, m, Sx, hcs, hb, hl, hm, hmm, hd, hall⟩
  · simp [Value.cells] at hcs
    obtain ⟨rfl, rfl, rfl⟩ := hcs
    exact ⟨[], ⟨none, 0, rfl, by simp, by simp [maxLen], fun h => absurd rfl h⟩, by simp⟩
  · simp [Value.cells] at hcs
    obtain ⟨rfl, rfl, rfl⟩ := hcs
    have hnm : n ≤ m := by rw [hmm]; split <;> omega
    refine ⟨(List.range n).map Sx, ⟨some a', c, by simp, by simpa using hl, hm, fun hne => ?_⟩, ?_⟩
    · have hn : 0 < n := by
        rcases Nat.eq_zero_or_pos n with h0 | h0
        · subst h0; simp at hne
        · exact h0
      obtain ⟨b, o, sp'⟩ := a'
      have h0 := (hall 0 (by omega)).1
      have hs : sp' = none := by simpa [Addr.add] using World.cell?_spot h0
      subst hs
      refine ⟨b, o, rfl, ?_, fun j x hx => ?_⟩
      · simpa [Addr.add] using cell_lt h0
      · have hj : j < n := by have := (List.getElem?_eq_some_iff.1 hx).1; simpa using this
        rw [List.getElem?_map, List.getElem?_range hj] at hx
        simp at hx
        subst hx
        have h1 := (hall j (by omega)).1
        rw [Addr.add_lit] at h1
        exact h1
    · intro x hx
      obtain ⟨i, hi, rfl⟩ := List.mem_map.1 hx
      injection hd with hd _
      have h1 := bulk_part (show (DataW.lit (.string (Sx i).data.toList) : DataW H) ∈ (List.range n).map fun i => .lit (.string (Sx i).data.toList) from List.mem_map.2 ⟨i, hi, rfl⟩)
      have h2 := bulk_slice ((List.range n).map fun i => (DataW.lit (.string (Sx i).data.toList) : DataW H)) ((List.range (m - n)).map fun j => .lit (.string (Sx (n + j)).data.toList))
      rw [← hd] at h2
      simp only [Rows.uptoBulk] at h1
      rw [Lib.size_eq]
      omega
end Go.Proofs.YtjaojfaedikkeabDoor
