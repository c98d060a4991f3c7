/- Contracts of package tree: all, find, Read, Len, Write. -/
import Derived.Test.YtmpiaaangbjapaaDoorWalkL
namespace Go.Proofs.YtmpiaaangbjapaaDoor
open Go.RowKit

/-- A tree in a world: its own block b, its row r. -/
def IsTree (w : World) (B b : Nat) (r : Option Nat) (fs : List F2) : Prop :=
  B ≤ b ∧ Sorted fs ∧ fs.length ≤ 60 ∧ ∃ v, w.heap[b]? = some (.cells #[v] 61 (0, 0)) ∧ OwnF w B r v fs

theorem OwnF.kept {w w' : World} {B : Nat} {r row : Option Nat} {v : Value} {fs : List F2} (h : OwnF w B r v fs) (hg : w.grownBy w' row) (hne : r = none ∨ r ≠ row) : OwnF w' B r v fs := by
  rcases h with ⟨hown, rfl⟩ | ⟨rfl, rfl, a, rfl⟩
  · exact .inl ⟨hown.kept hg hne, rfl⟩
  · exact .inr ⟨rfl, rfl, a, rfl⟩

theorem OwnF.shape {w : World} {B : Nat} {r : Option Nat} {v : Value} {fs : List F2} (h : OwnF w B r v fs) : ∃ a c, v = .slice a fs.length c ∧ fs.length ≤ c ∧ c ≤ maxLen := by
  obtain ⟨a, c, hv, h1, h2, _⟩ := h.files
  exact ⟨a, c, hv, h1, h2⟩

theorem OwnF.lt {w : World} {B : Nat} {r : Option Nat} {v : Value} {fs : List F2} (h : OwnF w B r v fs) {k : Nat} (hk : r = some k) : B ≤ k ∧ k < w.heap.size := by
  rcases h with ⟨hown, rfl⟩ | ⟨rfl, rfl, a, rfl⟩
  · exact hown.lt k hk
  · cases hk

theorem block_lt {w : World} {b : Nat} {o : Obj} (h : w.heap[b]? = some o) : b < w.heap.size := by
  rcases Nat.lt_or_ge b w.heap.size with h' | h'
  · exact h'
  · rw [Array.getElem?_eq_none h'] at h; cases h

theorem grown_below {w w' : World} (h : Below w.heap.size w w') (row : Option Nat) : w.grownBy w' row := ⟨h.os, h.tape, h.output, h.size, fun k hk _ => h.block k hk⟩

theorem IsTree.below {w w' : World} {B b : Nat} {r : Option Nat} {fs : List F2} (h : IsTree w B b r fs) (hb : Below w.heap.size w w') : IsTree w' B b r fs := by
  obtain ⟨h1, h2, h3, v, h4, h5⟩ := h
  exact ⟨h1, h2, h3, v, (hb.block b (block_lt h4)).trans h4, h5.kept (grown_below hb none) (by cases r <;> simp)⟩

theorem IsTree.ptr {w : World} {B b : Nat} {r : Option Nat} {fs : List F2} (h : IsTree w B b r fs) : ∃ a c, w.heap[b]? = some (.cells #[.slice a fs.length c] 61 (0, 0)) ∧ OwnF w B r (.slice a fs.length c) fs ∧ fs.length ≤ c ∧ c ≤ maxLen := by
  obtain ⟨_, _, _, v, h4, h5⟩ := h
  obtain ⟨a, c, rfl, h6, h7⟩ := h5.shape
  exact ⟨a, c, h4, h5, h6, h7⟩

theorem all_any (b n c : Nat) (a : Option Addr) (w : World) (h : w.heap[b]? = some (.cells #[.slice a n c] 61 (0, 0))) :
    Calls Tryd.prog 33 #[.pointer (some ⟨b, 0, none⟩)] w fun e w' => e = .returned (.slice a n c) ∧ w = w' := by
  have hc : w.cell? ⟨b, 0, none⟩ = some (.slice a n c) := by simp [World.cell?, h]
  clear h
  go_enter Tryd.func33, Tryd.ntmps33
  go_wp2
  go_ret
  exact ⟨rfl, rfl⟩

theorem all_nil (w : World) :
    Calls Tryd.prog 33 #[.pointer none] w fun e w' => e = .returned (.slice none 0 0) ∧ w = w' := by
  go_enter Tryd.func33, Tryd.ntmps33
  go_wp2
  go_ret
  exact ⟨rfl, rfl⟩

theorem find_any (B b : Nat) (r : Option Nat) (fs : List F2) (x : ByteArray) (w : World) (h : IsTree w B b r fs) :
    Calls Tryd.prog 27 #[.pointer (some ⟨b, 0, none⟩), .string x] w fun e w' => e = .returned (.tuple #[.int .i64 (posOf fs x : Nat), .bool (hasF fs x)]) ∧ Below w.heap.size w w' := by
  obtain ⟨a, c, hb, hown, hc⟩ := h.ptr
  have hA := all_any b fs.length c a w hb
  have hS := search_any _ fs x w hown.files (by have := h.2.2.1; omega) h.2.1
  obtain ⟨p, hp⟩ : ∃ p, posOf fs x = p := ⟨_, rfl⟩
  obtain ⟨q, hq⟩ : ∃ q, hasF fs x = q := ⟨_, rfl⟩
  rw [hp, hq] at hS ⊢
  clear hp hq h hown hc hb
  go_enter Tryd.func27, Tryd.ntmps27
  go_wp2_with fail
  refine hA.mono ?_
  rintro e w' ⟨rfl, rfl⟩
  go_wp2_with fail
  refine hS.mono ?_
  rintro e w' ⟨rfl, hb⟩
  go_wp2
  go_ret2
  exact ⟨rfl, hb⟩

theorem find_nil (x : ByteArray) (w : World) :
    Calls Tryd.prog 27 #[.pointer none, .string x] w fun e w' => e = .returned (.tuple #[.int .i64 0, .bool false]) ∧ Below w.heap.size w w' := by
  have hS := search_any (.slice none 0 0) [] x w ⟨none, 0, rfl, by simp, by simp [maxLen], fun h => absurd rfl h⟩ (by simp) List.Pairwise.nil
  go_enter Tryd.func27, Tryd.ntmps27
  go_wp2_with fail
  refine (all_nil w).mono ?_
  rintro e w' ⟨rfl, rfl⟩
  go_wp2_with fail
  refine hS.mono ?_
  rintro e w' ⟨rfl, hb⟩
  go_wp2
  go_ret2
  exact ⟨rfl, hb⟩

/-- What Read tells. -/
def readF (fs : List F2) (x : ByteArray) : ByteArray × Bool :=
  if hasF fs x then (match fs[posOf fs x]? with | some f => (f.2, true) | none => (ByteArray.empty, true)) else (ByteArray.empty, false)

theorem hasF_pos {fs : List F2} (hs : Sorted fs) {x : ByteArray} (h : hasF fs x = true) : ∃ f, fs[posOf fs x]? = some f ∧ f.1 = x := by
  obtain ⟨h1, h2⟩ := posOf_spec x hs
  obtain ⟨f, hf, h0⟩ := (hasF_at hs h1 h2).2 h
  exact ⟨f, hf, cmpF_zero h0⟩

theorem read_any (B b : Nat) (r : Option Nat) (fs : List F2) (x : ByteArray) (w : World) (h : IsTree w B b r fs) :
    Calls Tryd.prog 11 #[.pointer (some ⟨b, 0, none⟩), .string x] w fun e w' => e = .returned (.tuple #[.string (readF fs x).1, .bool (readF fs x).2]) ∧ Below w.heap.size w w' := by
  obtain ⟨a, c, hb, hown, hc⟩ := h.ptr
  have hF := find_any B b r fs x w h
  have hle := posOf_le fs x
  cases hq : hasF fs x with
  | false =>
    have hr : readF fs x = (ByteArray.empty, false) := by unfold readF; rw [hq]; rfl
    rw [hr]
    rw [hq] at hF
    generalize posOf fs x = p at *
    clear hr hq h hown hc hb hle
    go_enter Tryd.func11, Tryd.ntmps11
    go_wp2_with fail
    refine hF.mono ?_
    rintro e w' ⟨rfl, hb⟩
    go_wp2
    go_ret2
    exact ⟨rfl, hb⟩
  | true =>
    obtain ⟨f, hf, _⟩ := hasF_pos h.2.1 hq
    have hr : readF fs x = (f.2, true) := by unfold readF; rw [hq, hf]; rfl
    rw [hr]
    rw [hq] at hF
    obtain ⟨a', c', hv, hc1, hc2, hcell⟩ := hown.files
    cases hv
    obtain ⟨g, o, rfl, hg, hcells⟩ := hcell (by rintro rfl; simp at hf)
    have hcl := (hcells _ f hf).2
    have hpl := (List.getElem?_eq_some_iff.1 hf).1
    have hblt := block_lt hb
    generalize posOf fs x = p at *
    have h60 := h.2.2.1
    clear hr hq h hown hcells hf hcell hc
    unfold maxLen at hc2
    go_enter Tryd.func11, Tryd.ntmps11
    go_wp2_with fail
    refine hF.mono ?_
    rintro e w' ⟨rfl, hb'⟩
    have hbc : w'.cell? ⟨b, 0, none⟩ = some (.slice (some ⟨g, o, none⟩) fs.length c) := (hb'.cell (by exact hblt)).trans (by simp [World.cell?, hb])
    have hfc : w'.cell? ⟨g, o + p * 2 + 1, none⟩ = some (.string f.2) := (hb'.cell (by exact hg)).trans hcl
    go_wp2
    go_ret2
    exact ⟨rfl, hb'⟩
end Go.Proofs.YtmpiaaangbjapaaDoor
