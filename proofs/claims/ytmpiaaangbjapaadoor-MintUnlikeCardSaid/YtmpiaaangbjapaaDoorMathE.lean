/- Plain facts on trees: what is written can be read; sizes; how long a key is. -/
import Derived.Lib.ItoaLen
import Derived.Test.YtmpiaaangbjapaaDoorWalkQ
namespace Go.Proofs.YtmpiaaangbjapaaDoor
open Go.Lib

def FOk (fs : List F2) : Prop := ∀ f ∈ fs, f.1.size ≤ 40 ∧ f.2.size ≤ 2000
theorem ok_len {x : ByteArray} (h : okName x.data.toList = true) : x.size ≤ 40 := by
  unfold okName at h
  simp only [Bool.and_eq_true, decide_eq_true_eq] at h
  rw [Lib.size_eq]; exact h.1.1
theorem FOk.write {fs : List F2} (h : FOk fs) (x b : ByteArray) : FOk (writeF fs x b).2 := by
  unfold writeF
  split
  · exact h
  · rename_i h1
    have hx := ok_len (x := x) (by simpa using h1)
    split
    · exact h
    · split
      · intro f hf
        rcases List.mem_or_eq_of_mem_set hf with hf | rfl
        · exact h f hf
        · exact ⟨hx, by show b.size ≤ 2000; omega⟩
      · split
        · exact h
        · intro f hf
          rcases List.mem_append.1 hf with hf | hf
          · exact h f (List.mem_of_mem_take hf)
          · rcases List.mem_cons.1 hf with rfl | hf
            · exact ⟨hx, by show b.size ≤ 2000; omega⟩
            · exact h f (List.mem_of_mem_drop hf)
theorem FOk.fold : ∀ (xs t : List F2) (_ : FOk t), FOk (xs.foldl (fun u f => (writeF u f.1 f.2).2) t)
  | [], _, h => h
  | x :: xs, _, h => FOk.fold xs _ (h.write x.1 x.2)
theorem FOk.new (xs : List F2) : FOk (newF xs) := FOk.fold xs [] (fun f hf => by simp at hf)
theorem part_len (p : List UInt8) (h : p.length ≤ 2000) : (partS p).length ≤ p.length + 22 := by
  unfold partS numS
  have := itoa_length_le (max (p.length : Int) 0) (by omega) (by omega)
  simp only [List.length_append, List.length_cons]
  omega
theorem key_len : ∀ (fs : List F2), FOk fs → (putS (keyL fs)).length ≤ fs.length * 2084
  | [], _ => by simp [keyL, putS]
  | f :: fs, h => by
    have ih := key_len fs (fun g hg => h g (List.mem_cons_of_mem _ hg))
    obtain ⟨h1, h2⟩ := h f (List.mem_cons_self ..)
    rw [Lib.size_eq] at h1 h2
    have e : keyL (f :: fs) = f.1.data.toList :: f.2.data.toList :: keyL fs := by simp [keyL]
    rw [e, putS_cons, putS_cons]
    have p1 := part_len f.1.data.toList (by omega)
    have p2 := part_len f.2.data.toList (by omega)
    simp only [List.length_append, List.length_cons]
    omega
theorem read_at {fs : List F2} (hs : Sorted fs) {p : Nat} {x b : ByteArray} (h : fs[p]? = some (x, b)) : readF fs x = (b, true) := by
  have hh : hasF fs x = true := List.any_eq_true.2 ⟨(x, b), List.mem_of_getElem? h, by simp⟩
  obtain ⟨f, hf, hfx⟩ := hasF_pos hs hh
  unfold readF
  rw [if_pos hh, hf]
  obtain ⟨hp, hpe⟩ := List.getElem?_eq_some_iff.1 h
  obtain ⟨hq, hqe⟩ := List.getElem?_eq_some_iff.1 hf
  have hpw := List.pairwise_iff_getElem.1 hs
  rcases Nat.lt_trichotomy p (posOf fs x) with hlt | heq | hgt
  · have := hpw p _ hp hq hlt
    rw [hpe, hqe] at this
    unfold cmpF at this
    rw [hfx, cmp_refl] at this
    exact absurd this (by decide)
  · have e := h.symm.trans (heq ▸ hf)
    injection e with e
    rw [← e]
  · have := hpw _ p hq hp hgt
    rw [hpe, hqe] at this
    unfold cmpF at this
    rw [hfx, cmp_refl] at this
    exact absurd this (by decide)
theorem read_write {fs : List F2} (hs : Sorted fs) {x b : ByteArray} (hs2 : Sorted (writeF fs x b).2) (h0 : (writeF fs x b).1 = 0) : readF (writeF fs x b).2 x = (b, true) := by
  refine read_at (p := posOf fs x) hs2 ?_
  revert h0
  unfold writeF
  split
  · intro h; simp at h
  · split
    · intro h; simp at h
    · split
      · rename_i hh
        intro _
        obtain ⟨f, hf, _⟩ := hasF_pos hs hh
        have := (List.getElem?_eq_some_iff.1 hf).1
        simp [List.getElem?_set_self this]
      · split
        · intro h; simp at h
        · intro _
          have hple := posOf_le fs x
          simp only
          rw [List.getElem?_append_right (by simp; omega)]
          simp [Nat.min_eq_left hple]
end Go.Proofs.YtmpiaaangbjapaaDoor
