/- Plain facts on trees' keys: in whatever order files are written the tree is one; unlike trees have unlike keys. -/
import Derived.Test.YtjaojfaedikkeaaGreatDoorMathF
import Derived.Test.YtjaojfaedikkeaaGreatDoorMathH
namespace Go.Proofs.YtjaojfaedikkeaaGreatDoor
open Go.Lib

/-- Sorted lists of the same members are one. -/
theorem sorted_eq : ∀ {fs gs : List F2}, Sorted fs → Sorted gs → (∀ f, f ∈ fs ↔ f ∈ gs) → fs = gs
  | [], [], _, _, _ => rfl
  | [], g :: gs, _, _, h => absurd ((h g).2 (by simp)) (by simp)
  | f :: fs, [], _, _, h => absurd ((h f).1 (by simp)) (by simp)
  | f :: fs, g :: gs, hf, hg, h => by
    obtain ⟨f1, f2⟩ := List.pairwise_cons.1 hf
    obtain ⟨g1, g2⟩ := List.pairwise_cons.1 hg
    have irr : ∀ x : F2, ¬ cmpF x x.1 < 0 := fun x hx => by rw [cmpF_self] at hx; exact absurd hx (by decide)
    have hfg : f = g := by
      rcases List.mem_cons.1 ((h f).1 (by simp)) with e | e
      · exact e
      · rcases List.mem_cons.1 ((h g).2 (by simp)) with e' | e'
        · exact e'.symm
        · exact absurd (cmpF_trans (f1 g e') (g1 f e)) (irr f)
    subst hfg
    have : ∀ x, x ∈ fs ↔ x ∈ gs := by
      intro x
      constructor
      · intro hx
        rcases List.mem_cons.1 ((h x).1 (List.mem_cons_of_mem _ hx)) with e | e
        · subst e; exact absurd (f1 x hx) (irr x)
        · exact e
      · intro hx
        rcases List.mem_cons.1 ((h x).2 (List.mem_cons_of_mem _ hx)) with e | e
        · subst e; exact absurd (g1 x hx) (irr x)
        · exact e
    rw [sorted_eq f2 g2 this]

theorem has_iff {fs : List F2} {x : ByteArray} : hasF fs x = true ↔ ∃ b, (x, b) ∈ fs := by
  unfold hasF
  rw [List.any_eq_true]
  constructor
  · rintro ⟨f, hf, e⟩
    have e' : f.1 = x := ByteArray.ext (Array.toList_inj.1 (by simpa using e))
    exact ⟨f.2, by rw [← e']; exact hf⟩
  · rintro ⟨b, hb⟩
    exact ⟨(x, b), hb, by simp⟩

/-- What a new name's Write leaves. -/
theorem write_mem {fs : List F2} {x b : ByteArray} (hx : hasF fs x = false) (hl : fs.length < 60) (f : F2) : f ∈ (writeF fs x b).2 ↔ f ∈ fs ∨ (f = (x, b) ∧ okName x.data.toList = true ∧ b.size ≤ 2000) := by
  unfold writeF
  rw [hx]
  split
  · rename_i h; simp [h]
  · rename_i h
    have hok : okName x.data.toList = true := by simpa using h
    split
    · simp; omega
    · rw [if_neg (by decide)]
      rw [if_neg (by omega)]
      show f ∈ fs.take (posOf fs x) ++ (x, b) :: fs.drop (posOf fs x) ↔ _
      have e : f ∈ fs ↔ f ∈ fs.take (posOf fs x) ∨ f ∈ fs.drop (posOf fs x) := by rw [← List.mem_append, List.take_append_drop]
      rw [e, List.mem_append, List.mem_cons]
      constructor
      · rintro (h | h | h)
        · exact .inl (.inl h)
        · exact .inr ⟨h, hok, by omega⟩
        · exact .inl (.inr h)
      · rintro ((h | h) | ⟨h, _⟩)
        · exact .inl h
        · exact .inr (.inr h)
        · exact .inr (.inl h)

theorem write_len (fs : List F2) (x b : ByteArray) : (writeF fs x b).2.length ≤ fs.length + 1 := by
  unfold writeF
  split
  · simp
  · split
    · simp
    · split
      · simp
      · split
        · simp
        · have := posOf_le fs x
          simp only [List.length_append, List.length_cons, List.length_take, List.length_drop]; omega

def Distinct (xs : List F2) : Prop := xs.Pairwise fun f g => f.1 ≠ g.1

theorem new_mem (n : Nat) : ∀ (xs : List F2), xs.length = n → n ≤ 60 → Distinct xs → (newF xs).length ≤ n ∧ ∀ f, f ∈ newF xs ↔ f ∈ xs ∧ okName f.1.data.toList = true ∧ f.2.size ≤ 2000 := by
  induction n with
  | zero => intro xs hl _ _; obtain rfl := List.eq_nil_of_length_eq_zero hl; simp [newF]
  | succ n ih =>
    intro xs hl hn hd
    have h0 : xs ≠ [] := by rintro rfl; simp at hl
    obtain ⟨t, c, rfl⟩ : ∃ t c, xs = t ++ [c] := ⟨xs.dropLast, xs.getLast h0, (List.dropLast_concat_getLast h0).symm⟩
    have hl' : t.length = n := by simpa using hl
    unfold Distinct at hd
    rw [List.pairwise_append] at hd
    obtain ⟨i1, i2⟩ := ih t hl' (by omega) hd.1
    have e : newF (t ++ [c]) = (writeF (newF t) c.1 c.2).2 := by unfold newF; rw [List.foldl_append]; rfl
    have hno : hasF (newF t) c.1 = false := by
      cases hh : hasF (newF t) c.1
      · rfl
      · obtain ⟨b, hb⟩ := has_iff.1 hh
        exact absurd rfl (hd.2.2 _ ((i2 _).1 hb).1 c (by simp))
    rw [e]
    refine ⟨by have := write_len (newF t) c.1 c.2; omega, fun f => ?_⟩
    rw [write_mem hno (by omega), i2, List.mem_append, List.mem_singleton]
    constructor
    · rintro (⟨h1, h2⟩ | ⟨rfl, h2⟩)
      · exact ⟨.inl h1, h2⟩
      · exact ⟨.inr rfl, h2⟩
    · rintro ⟨h1 | rfl, h2⟩
      · exact .inl ⟨h1, h2⟩
      · exact .inr ⟨rfl, h2⟩

theorem distinct_turn {xs : List F2} (h : Distinct xs) (k : Nat) : Distinct (xs.drop k ++ xs.take k) := by
  unfold Distinct at h ⊢
  have h' := h
  rw [← List.take_append_drop k xs, List.pairwise_append] at h'
  rw [List.pairwise_append]
  exact ⟨h'.2.1, h'.1, fun a ha b hb e => h'.2.2 b hb a ha e.symm⟩

/-- In whatever order files are written, the tree is one. -/
theorem new_turn {xs : List F2} (h : Distinct xs) (hl : xs.length ≤ 60) (k : Nat) (h1 : Sorted (newF xs)) (h2 : Sorted (newF (xs.drop k ++ xs.take k))) : newF (xs.drop k ++ xs.take k) = newF xs := by
  have hlen : (xs.drop k ++ xs.take k).length = xs.length := by simp only [List.length_append, List.length_drop, List.length_take]; omega
  refine sorted_eq h2 h1 fun f => ?_
  rw [(new_mem _ _ hlen hl (distinct_turn h k)).2, (new_mem _ _ rfl hl h).2]
  have : f ∈ xs ↔ f ∈ xs.take k ∨ f ∈ xs.drop k := by rw [← List.mem_append, List.take_append_drop]
  rw [this, List.mem_append, Or.comm]

theorem keyL_inj : ∀ {fs gs : List F2}, keyL fs = keyL gs → fs = gs
  | [], [], _ => rfl
  | [], g :: gs, h => by simp [keyL] at h
  | f :: fs, [], h => by simp [keyL] at h
  | f :: fs, g :: gs, h => by
    have e : ∀ (f : F2) fs, keyL (f :: fs) = f.1.data.toList :: f.2.data.toList :: keyL fs := fun f fs => by simp [keyL]
    rw [e, e] at h
    injection h with h1 h
    injection h with h2 h3
    have e1 : f.1 = g.1 := ByteArray.ext (Array.toList_inj.1 h1)
    have e2 : f.2 = g.2 := ByteArray.ext (Array.toList_inj.1 h2)
    rw [keyL_inj h3, Prod.ext e1 e2]

theorem key_inj {fs gs : List F2} (h : putS (keyL fs) = putS (keyL gs)) : fs = gs := keyL_inj (putS_inj h)

/-- Of what may be written: nothing is turned just if that was there. -/
theorem write_same {fs : List F2} (hs : Sorted fs) {x b : ByteArray} (hs2 : Sorted (writeF fs x b).2) (h0 : (writeF fs x b).1 = 0) : fs = (writeF fs x b).2 ↔ readF fs x = (b, true) := by
  constructor
  · intro h
    have := read_write hs hs2 h0
    rw [← h] at this
    exact this
  · intro h
    have hh : hasF fs x = true := by
      cases hh : hasF fs x
      · unfold readF at h; rw [hh, if_neg (by decide)] at h; simp at h
      · rfl
    obtain ⟨f, hf, hfx⟩ := hasF_pos hs hh
    have hfb : f.2 = b := by
      unfold readF at h
      rw [if_pos hh, hf] at h
      simpa using h
    revert h0
    unfold writeF
    split
    · intro h; simp at h
    · split
      · intro h; simp at h
      · intro _
        obtain ⟨hp, hpe⟩ := List.getElem?_eq_some_iff.1 hf
        have : (x, b) = fs[posOf fs x] := by rw [hpe, ← hfx, ← hfb]
        show fs = fs.set (posOf fs x) (x, b)
        have h9 := List.set_getElem_self hp
        rw [← this] at h9
        exact h9.symm
end Go.Proofs.YtjaojfaedikkeaaGreatDoor
