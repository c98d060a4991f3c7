/- Slices of operations: what one is in a world, and opening an argument that is one. -/
import Derived.Deep.Slices
import Derived.Test.YtjaojfaedikkeaaGreatDoorOpen
namespace Go.Proofs.YtjaojfaedikkeaaGreatDoor
open Go.ChangeShapes Go.WideShapes Go.ChangeAt Go.RowKit Go.Deep

abbrev Op3 := Int × ByteArray × ByteArray

def IsOps (w : World) (v : Value) (os : List Op3) : Prop :=
  ∃ a c, v = .slice a os.length c ∧ os.length ≤ c ∧ c ≤ maxLen ∧ (os ≠ [] → ∃ b o, a = some ⟨b, o, none⟩ ∧ b < w.heap.size ∧ ∀ (j : Nat) x, os[j]? = some x → w.cell? ⟨b, o + j * 3, none⟩ = some (.int .i64 x.1) ∧ w.cell? ⟨b, o + j * 3 + 1, none⟩ = some (.string x.2.1) ∧ w.cell? ⟨b, o + j * 3 + 2, none⟩ = some (.string x.2.2))

def intV : Value → Int
  | .int _ n => n
  | _ => 0

set_option maxRecDepth 100000 in
theorem open_ops {H : Type} {enc : TypeId × Value → H} {W : World} {base : Nat} {r : Reach} {b0 : Nat} {sp : Nat → Bool} {held : Bool} {v : Value} {d : DataW H} {ps : List MemPlace}
    (hval : Value.okWide Tryz.prog W r b0 23 v) (h : DataW.Trod enc Tryz.prog W base sp held 23 v d ps) :
    ∃ os : List Op3, IsOps W v os ∧ ∀ f ∈ os, f.2.1.size ≤ maxLen ∧ f.2.2.size ≤ maxLen := by
  obtain ⟨a, n, c, rfl⟩ := okWide_slice Tryz.underlying23 hval
  obtain ⟨fuel, hf⟩ := h
  have ce : Tryz.prog.cellsOf 37 = 3 := by kernel_rfl
  rcases open_slice Tryz.underlying23 hf with ⟨hcs, _⟩ | ⟨a', len, cap, m, k, D, Pl, hcs, hb, hl, hm, hmm, _, hall⟩
  · simp [Value.cells] at hcs
    obtain ⟨rfl, rfl, rfl⟩ := hcs
    exact ⟨[], ⟨none, 0, rfl, by simp, by simp [maxLen], fun h => absurd rfl h⟩, by simp⟩
  · simp [Value.cells] at hcs
    obtain ⟨rfl, rfl, rfl⟩ := hcs
    rw [ce] at hall
    have hnm : n ≤ m := by rw [hmm]; split <;> omega
    have each : ∀ i, i < n → ∃ x : Op3, W.cell? (a'.add (i * 3)) = some (.int .i64 x.1) ∧ W.cell? (a'.add (i * 3 + 1)) = some (.string x.2.1) ∧ W.cell? (a'.add (i * 3 + 2)) = some (.string x.2.2) ∧ x.2.1.size ≤ maxLen ∧ x.2.2.size ≤ maxLen := by
      intro i hi
      obtain ⟨cs', h1, h2⟩ := hall i (by omega)
      obtain ⟨_, hlen, hcell⟩ := World.cells?_some h1
      obtain ⟨xs, k', hk, hxy, _, hxl, hf⟩ := DataW.trod_struct Tryz.underlying37 h2
      have c0 : Tryz.prog.cellsOf 3 = 1 := by kernel_rfl
      have c1 : Tryz.prog.cellsOf 9 = 1 := by kernel_rfl
      match xs, hxl, cs', hlen with
      | [y0, y1, y2], _, [v0, v1, v2], _ =>
        have g0 := hf 0 _ rfl
        have g1 := hf 1 _ rfl
        have g2 := hf 2 _ rfl
        simp [c0, c1] at g0 g1 g2
        have e0 := hcell 0 (by omega)
        have e1 := hcell 1 (by omega)
        have e2 := hcell 2 (by omega)
        obtain ⟨n0, f0, _⟩ := DataW.trod_int Tryz.underlying3 g0
        obtain ⟨s1, f1, _, w1⟩ := DataW.trod_string Tryz.underlying9 g1
        obtain ⟨s2, f2, _, w2⟩ := DataW.trod_string Tryz.underlying9 g2
        simp at f0 f1 f2
        subst f0 f1 f2
        rw [add_add] at e0 e1 e2
        exact ⟨(n0, s1, s2), by simpa using e0, by simpa using e1, by simpa using e2, w1, w2⟩
    obtain ⟨X, hX⟩ := choose_lt each
    refine ⟨(List.range n).map X, ⟨some a', c, by simp, by simpa using hl, hm, fun hne => ?_⟩, ?_⟩
    · have hn : 0 < n := by
        rcases Nat.eq_zero_or_pos n with h0 | h0
        · subst h0; simp at hne
        · exact h0
      obtain ⟨b, o, sp'⟩ := a'
      have h0 := (hX 0 hn).1
      have hs : sp' = none := by simpa [Addr.add] using World.cell?_spot h0
      subst hs
      refine ⟨b, o, rfl, ?_, fun j x hx => ?_⟩
      · simpa [Addr.add] using cell_lt h0
      · have hj : j < n := by have := (List.getElem?_eq_some_iff.1 hx).1; simpa using this
        rw [List.getElem?_map, List.getElem?_range hj] at hx
        simp at hx
        subst hx
        obtain ⟨h1, h2, h3, _⟩ := hX j hj
        rw [Addr.add_lit] at h1 h2 h3
        exact ⟨h1, h2, h3⟩
    · intro f hf
      obtain ⟨i, hi, rfl⟩ := List.mem_map.1 hf
      have := hX i (List.mem_range.1 hi)
      exact ⟨this.2.2.2.1, this.2.2.2.2⟩
end Go.Proofs.YtjaojfaedikkeaaGreatDoor
