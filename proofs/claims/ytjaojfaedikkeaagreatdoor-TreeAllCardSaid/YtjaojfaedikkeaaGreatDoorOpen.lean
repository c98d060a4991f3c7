/- Opening an argument that is a slice of files. -/
import Derived.Deep.SlicePairs
import Derived.Test.YtjaojfaedikkeaaGreatDoorGate
namespace Go.Proofs.YtjaojfaedikkeaaGreatDoor
open Go.ChangeShapes Go.WideShapes Go.ChangeAt Go.RowKit Go.Deep

def strV : Value → ByteArray
  | .string s => s
  | _ => ByteArray.empty

set_option maxRecDepth 100000 in
theorem open_files {H : Type} {enc : TypeId × Value → H} {W : World} {base : Nat} {r : Reach} {b0 : Nat} {sp : Nat → Bool} {held : Bool} {v : Value} {d : DataW H} {ps : List MemPlace}
    (hval : Value.okWide Tryz.prog W r b0 22 v) (h : DataW.Trod enc Tryz.prog W base sp held 22 v d ps) :
    ∃ fs : List F2, IsFiles W v fs ∧ ∀ f ∈ fs, f.1.size ≤ maxLen ∧ f.2.size ≤ maxLen := by
  obtain ⟨a, n, c, rfl⟩ := okWide_slice Tryz.underlying22 hval
  obtain ⟨fuel, hf⟩ := h
  rcases open_slice_pairs Tryz.underlying22 Tryz.underlying33 (by kernel_rfl) rfl rfl (by kernel_rfl) (by kernel_rfl) hf with ⟨hcs, _⟩ | ⟨a', len, cap, m, k, V0, V1, D0, D1, P0, P1, hcs, hb, hl, hm, hmm, _, hall⟩
  · simp [Value.cells] at hcs
    obtain ⟨rfl, rfl, rfl⟩ := hcs
    exact ⟨[], ⟨none, 0, rfl, by simp, by simp [maxLen], fun h => absurd rfl h⟩, by simp⟩
  · simp [Value.cells] at hcs
    obtain ⟨rfl, rfl, rfl⟩ := hcs
    have hnm : n ≤ m := by rw [hmm]; split <;> omega
    have each : ∀ i, i < n → W.cell? (a'.add (i * 2)) = some (.string (strV (V0 i))) ∧ W.cell? (a'.add (i * 2 + 1)) = some (.string (strV (V1 i))) ∧ (strV (V0 i)).size ≤ maxLen ∧ (strV (V1 i)).size ≤ maxLen := by
      intro i hi
      obtain ⟨c0, c1, t0, t1⟩ := hall i (by omega)
      obtain ⟨s0, e0, _, w0⟩ := DataW.trod_string Tryz.underlying9 t0
      obtain ⟨s1, e1, _, w1⟩ := DataW.trod_string Tryz.underlying9 t1
      simp at e0 e1
      rw [e0] at c0
      rw [e1] at c1
      rw [e0, e1]
      exact ⟨c0, c1, w0, w1⟩
    refine ⟨(List.range n).map fun i => (strV (V0 i), strV (V1 i)), ⟨some a', c, by simp, by simpa using hl, hm, fun hne => ?_⟩, ?_⟩
    · have hn : 0 < n := by
        rcases Nat.eq_zero_or_pos n with h0 | h0
        · subst h0; simp at hne
        · exact h0
      obtain ⟨b, o, sp'⟩ := a'
      have h0 := (each 0 hn).1
      have hs : sp' = none := by simpa [Addr.add] using World.cell?_spot h0
      subst hs
      refine ⟨b, o, rfl, ?_, fun j x hx => ?_⟩
      · simpa [Addr.add] using cell_lt h0
      · have hj : j < n := by have := (List.getElem?_eq_some_iff.1 hx).1; simpa using this
        rw [List.getElem?_map, List.getElem?_range hj] at hx
        simp at hx
        subst hx
        obtain ⟨h1, h2, _⟩ := each j hj
        rw [Addr.add_lit] at h1 h2
        exact ⟨h1, h2⟩
    · intro f hf
      obtain ⟨i, hi, rfl⟩ := List.mem_map.1 hf
      have := each i (List.mem_range.1 hi)
      exact ⟨this.2.2.1, this.2.2.2⟩
end Go.Proofs.YtjaojfaedikkeaaGreatDoor
