/- Opening an argument that is a slice of values, or of texts. -/
import Derived.Deep.SlicePairs
import Derived.Test.YtjaojfaedikkeaaDoorGate
import Derived.Test.YtjaojfaedikkeaaDoorWalkG
namespace Go.Proofs.YtjaojfaedikkeaaDoor
open Go.ChangeShapes Go.WideShapes Go.ChangeAt Go.RowKit Go.Deep

theorem bulk_part {H : Type} {d : DataW H} {l : List (DataW H)} (h : d ∈ l) : Rows.uptoBulk d ≤ Rows.uptoBulkAll l := by
  induction l with
  | nil => cases h
  | cons x r ih =>
    simp only [Rows.uptoBulkAll]
    cases List.mem_cons.1 h with
    | inl e => subst e; omega
    | inr e => have := ih e; omega
theorem bulk_slice {H : Type} (elems spare : List (DataW H)) : Rows.uptoBulkAll elems + 1 ≤ Rows.uptoBulk (.slice elems spare) := by
  simp only [Rows.uptoBulk]
  omega

def boolV : Value → Bool
  | .bool b => b
  | _ => false
def strW : Value → ByteArray
  | .string s => s
  | _ => ByteArray.empty

set_option maxRecDepth 100000 in
theorem open_vals {H : Type} {enc : TypeId × Value → H} {W : World} {base : Nat} {r : Reach} {b0 : Nat} {sp : Nat → Bool} {held : Bool} {v : Value} {d : DataW H} {ps : List MemPlace}
    (hval : Value.okWide Tryd.prog W r b0 31 v) (h : DataW.Trod enc Tryd.prog W base sp held 31 v d ps) :
    ∃ fs : List (Bool × ByteArray), IsVals W v fs ∧ ∀ f ∈ fs, f.2.size ≤ Rows.uptoBulk d := by
  obtain ⟨a, n, c, rfl⟩ := okWide_slice Tryd.underlying31 hval
  obtain ⟨fuel, hf⟩ := h
  rcases open_slice_pairs Tryd.underlying31 Tryd.underlying34 (by kernel_rfl) rfl rfl (by kernel_rfl) (by kernel_rfl) hf with ⟨hcs, _⟩ | ⟨a', len, cap, m, k, V0, V1, D0, D1, P0, P1, hcs, hb, hl, hm, hmm, hd, hall⟩
  · simp [Value.cells] at hcs
    obtain ⟨rfl, rfl, rfl⟩ := hcs
    exact ⟨[], ⟨none, 0, rfl, by simp, by simp [maxLen], fun h => absurd rfl h⟩, by simp⟩
  · simp [Value.cells] at hcs
    obtain ⟨rfl, rfl, rfl⟩ := hcs
    have hnm : n ≤ m := by rw [hmm]; split <;> omega
    have each : ∀ i, i < n → W.cell? (a'.add (i * 2)) = some (.bool (boolV (V0 i))) ∧ W.cell? (a'.add (i * 2 + 1)) = some (.string (strW (V1 i))) ∧ D1 i = .lit (.string (strW (V1 i)).data.toList) := by
      intro i hi
      obtain ⟨c0, c1, t0, t1⟩ := hall i (by omega)
      obtain ⟨s0, e0, _⟩ := DataW.trod_bool Tryd.underlying4 t0
      obtain ⟨s1, e1, d1, w1⟩ := DataW.trod_string Tryd.underlying9 t1
      simp at e0 e1
      simp only [Prod.mk.injEq] at d1
      rw [e0] at c0
      rw [e1] at c1
      rw [e0, e1]
      exact ⟨c0, c1, d1.1⟩
    refine ⟨(List.range n).map fun i => (boolV (V0 i), strW (V1 i)), ⟨some a', c, by simp, by simpa using hl, hm, fun hne => ?_⟩, ?_⟩
    · have hn : 0 < n := by
        rcases Nat.eq_zero_or_pos n with h0 | h0
        · subst h0; simp at hne
        · exact h0
      obtain ⟨b, o, sp'⟩ := a'
      have h0 := (each 0 hn).1
      have hs : sp' = none := by simpa [Addr.add] using World.cell?_spot h0
      subst hs
      refine ⟨b, o, rfl, ?_, fun j x hx => ?_⟩
      · simpa [Addr.add] using cell_lt h0
      · have hj : j < n := by have := (List.getElem?_eq_some_iff.1 hx).1; simpa using this
        rw [List.getElem?_map, List.getElem?_range hj] at hx
        simp at hx
        subst hx
        obtain ⟨h1, h2, _⟩ := each j hj
        rw [Addr.add_lit] at h1 h2
        exact ⟨h1, h2⟩
    · intro f hf
      obtain ⟨i, hi, rfl⟩ := List.mem_map.1 hf
      have e2 := (each i (List.mem_range.1 hi)).2.2
      injection hd with hd _
      have h1 := bulk_part (show DataW.agg [D0 i, D1 i] ∈ (List.range n).map fun i => DataW.agg [D0 i, D1 i] from List.mem_map.2 ⟨i, hi, rfl⟩)
      have h2 := bulk_slice ((List.range n).map fun i => DataW.agg [D0 i, D1 i]) ((List.range (m - n)).map fun j => DataW.agg [D0 (n + j), D1 (n + j)])
      rw [← hd] at h2
      simp only [Rows.uptoBulk, Rows.uptoBulkAll, e2] at h1
      show (strW (V1 i)).size ≤ _
      rw [Lib.size_eq]
      omega
end Go.Proofs.YtjaojfaedikkeaaDoor
