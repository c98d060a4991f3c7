/- Plain facts on sorted lists of files that are set, laid in, taken out. -/
import Derived.Test.YtmpiaaangbjapaaDoorMathC
namespace Go.Proofs.YtmpiaaangbjapaaDoor

theorem mem_set_cases {α : Type} {l : List α} {p : Nat} {x y : α} (h : y ∈ l.set p x) : y = x ∨ y ∈ l := by
  rcases List.mem_or_eq_of_mem_set h with h | h
  · exact .inr h
  · exact .inl h

/-- Another content under the same name. -/
theorem sorted_set {fs : List (ByteArray × ByteArray)} (h : Sorted fs) {p : Nat} {f : ByteArray × ByteArray} (hf : fs[p]? = some f) (b : ByteArray) : Sorted (fs.set p (f.1, b)) := by
  unfold Sorted at h ⊢
  rw [List.pairwise_iff_getElem] at h ⊢
  obtain ⟨hp, rfl⟩ := List.getElem?_eq_some_iff.1 hf
  intro i j hi hj hij
  have hi' : i < fs.length := by simpa using hi
  have hj' : j < fs.length := by simpa using hj
  have hh := h i j hi' hj' hij
  rw [List.getElem_set, List.getElem_set]
  by_cases h1 : p = i
  · subst h1
    rw [if_pos rfl, if_neg (by omega)]
    exact hh
  · rw [if_neg h1]
    by_cases h2 : p = j
    · subst h2
      rw [if_pos rfl]; exact hh
    · rw [if_neg h2]; exact hh

/-- A new name at its place. -/
theorem sorted_ins {fs : List (ByteArray × ByteArray)} (h : Sorted fs) {x : ByteArray} (b : ByteArray) (hx : hasF fs x = false) : Sorted (fs.take (posOf fs x) ++ (x, b) :: fs.drop (posOf fs x)) := by
  obtain ⟨h1, h2⟩ := posOf_spec x h
  have h3 := hasF_at h h1 h2
  unfold Sorted at h ⊢
  have hd : (fs.take (posOf fs x) ++ fs.drop (posOf fs x)).Pairwise fun f g => cmpF f g.1 < 0 := by rw [List.take_append_drop]; exact h
  rw [List.pairwise_append] at hd ⊢
  obtain ⟨d1, d2, d3⟩ := hd
  have hlo : ∀ f ∈ fs.take (posOf fs x), cmpF f x < 0 := by
    intro f hf
    obtain ⟨t, ht⟩ := List.getElem?_of_mem hf
    rw [List.getElem?_take] at ht
    split at ht
    · exact h1 t f (by assumption) ht
    · cases ht
  have hhi : ∀ g ∈ fs.drop (posOf fs x), cmpF (x, b) g.1 < 0 := by
    intro g hg
    obtain ⟨t, ht⟩ := List.getElem?_of_mem hg
    rw [List.getElem?_drop] at ht
    have h4 : ¬ cmpF g x < 0 := h2 _ g (by omega) ht
    have h5 : cmpF g x ≠ 0 := by
      intro h0
      have : hasF fs x = true := by
        unfold hasF
        rw [List.any_eq_true]
        exact ⟨g, List.mem_of_getElem? ht, by rw [cmpF_zero h0]; simp⟩
      rw [hx] at this; cases this
    have h6 : cmpF (x, b) g.1 = - cmpF g x := by
      unfold cmpF
      exact cmp_anti _ _
    rw [h6]; omega
  refine ⟨d1, List.pairwise_cons.2 ⟨hhi, d2⟩, ?_⟩
  intro f hf g hg
  rcases List.mem_cons.1 hg with rfl | hg
  · exact hlo f hf
  · exact d3 f hf g hg

theorem sorted_erase {fs : List (ByteArray × ByteArray)} (h : Sorted fs) (p : Nat) : Sorted (fs.eraseIdx p) := List.Pairwise.sublist (List.eraseIdx_sublist ..) h
end Go.Proofs.YtmpiaaangbjapaaDoor
