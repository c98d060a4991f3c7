/- Plain facts on trees: what Read tells after Write and Erase. -/
import Derived.Test.YtjaojfaedikkeaaGreatDoorMathE
import Derived.Test.YtjaojfaedikkeaaGreatDoorErase
namespace Go.Proofs.YtjaojfaedikkeaaGreatDoor
open Go.Lib

theorem read_none {fs : List F2} {x : ByteArray} (h : ∀ b, (x, b) ∉ fs) : readF fs x = (ByteArray.empty, false) := by
  have hh : hasF fs x = false := by
    unfold hasF
    rw [List.any_eq_false]
    intro f hf e
    have e' : f.1 = x := ByteArray.ext (Array.toList_inj.1 (by simpa using e))
    exact h f.2 (by rw [← e']; exact hf)
  unfold readF
  rw [if_neg (by rw [hh]; decide)]
theorem read_some {fs : List F2} (hs : Sorted fs) {x b : ByteArray} (h : (x, b) ∈ fs) : readF fs x = (b, true) := by
  obtain ⟨p, hp⟩ := List.getElem?_of_mem h
  exact read_at hs hp
theorem read_same {fs gs : List F2} (hs : Sorted fs) (hg : Sorted gs) {x : ByteArray} (h : ∀ b, (x, b) ∈ fs ↔ (x, b) ∈ gs) : readF fs x = readF gs x := by
  by_cases hb : ∃ b, (x, b) ∈ fs
  · obtain ⟨b, hb⟩ := hb
    rw [read_some hs hb, read_some hg ((h b).1 hb)]
  · rw [read_none (fun b hb' => hb ⟨b, hb'⟩), read_none (fun b hb' => hb ⟨b, (h b).2 hb'⟩)]
theorem parted {fs : List F2} {p : Nat} {f : F2} (h : fs[p]? = some f) : fs = fs.take p ++ f :: fs.drop (p + 1) := by
  obtain ⟨hp, rfl⟩ := List.getElem?_eq_some_iff.1 h
  rw [← List.drop_eq_getElem_cons hp, List.take_append_drop]
theorem write_other {fs : List F2} (hs : Sorted fs) (y c : ByteArray) (hs2 : Sorted (writeF fs y c).2) {x : ByteArray} (hne : y ≠ x) : readF (writeF fs y c).2 x = readF fs x := by
  refine read_same hs2 hs fun b => ?_
  have hn : ∀ d : ByteArray, (x, b) ≠ (y, d) := fun d e => hne (Prod.mk.inj e).1.symm
  unfold writeF
  split
  · exact Iff.rfl
  · split
    · exact Iff.rfl
    · split
      · rename_i hh
        obtain ⟨f, hf, hfy⟩ := hasF_pos hs hh
        have hlt := (List.getElem?_eq_some_iff.1 hf).1
        have hf2 : (x, b) ≠ f := fun e => hne (by rw [← hfy, ← e])
        conv => rhs; rw [parted hf]
        show (x, b) ∈ fs.set (posOf fs y) (y, c) ↔ _
        rw [List.set_eq_take_append_cons_drop, if_pos hlt]
        simp [hn c, hf2]
      · split
        · exact Iff.rfl
        · show (x, b) ∈ fs.take (posOf fs y) ++ (y, c) :: fs.drop (posOf fs y) ↔ _
          have e : (x, b) ∈ fs ↔ (x, b) ∈ fs.take (posOf fs y) ∨ (x, b) ∈ fs.drop (posOf fs y) := by rw [← List.mem_append, List.take_append_drop]
          rw [e, List.mem_append, List.mem_cons]
          simp [hn c]
theorem write_fail {fs : List F2} {y c : ByteArray} (h : (writeF fs y c).1 ≠ 0) : (writeF fs y c).2 = fs := by
  revert h
  unfold writeF
  split
  · intro _; rfl
  · split
    · intro _; rfl
    · split
      · intro h; exact absurd rfl h
      · split
        · intro _; rfl
        · intro h; exact absurd rfl h
theorem erase_fail {fs : List F2} {y : ByteArray} (h : (eraseF fs y).1 ≠ 0) : (eraseF fs y).2 = fs := by
  revert h
  unfold eraseF
  split
  · intro h; exact absurd rfl h
  · intro _; rfl
theorem erase_other {fs : List F2} (hs : Sorted fs) (y : ByteArray) (hs2 : Sorted (eraseF fs y).2) {x : ByteArray} (hne : y ≠ x) : readF (eraseF fs y).2 x = readF fs x := by
  refine read_same hs2 hs fun b => ?_
  unfold eraseF
  split
  · rename_i hh
    obtain ⟨f, hf, hfy⟩ := hasF_pos hs hh
    have hf2 : (x, b) ≠ f := fun e => hne (by rw [← hfy, ← e])
    conv => rhs; rw [parted hf]
    simp [hf2]
  · exact Iff.rfl
theorem erase_read {fs : List F2} (hs : Sorted fs) {x : ByteArray} (h0 : (eraseF fs x).1 = 0) : readF (eraseF fs x).2 x = (ByteArray.empty, false) := by
  refine read_none fun b => ?_
  revert h0
  unfold eraseF
  split
  · rename_i hh
    intro _
    obtain ⟨f, hf, hfx⟩ := hasF_pos hs hh
    intro hm
    have hp := hs
    unfold Sorted at hp
    rw [parted hf, List.pairwise_append, List.pairwise_cons] at hp
    obtain ⟨_, ⟨h2, _⟩, h3⟩ := hp
    rcases List.mem_append.1 hm with hm | hm
    · have := h3 (x, b) hm f (List.mem_cons_self ..)
      unfold cmpF at this
      rw [hfx, cmp_refl] at this
      exact absurd this (by decide)
    · have := h2 (x, b) hm
      unfold cmpF at this
      rw [hfx, cmp_refl] at this
      exact absurd this (by decide)
  · intro h; simp at h
end Go.Proofs.YtjaojfaedikkeaaGreatDoor
