/- Plain facts on lists of bytes that cutting at one byte and joining give; no program is spoken of. -/
import Derived.Lib.Split
import Derived.Lib.Join
namespace Go.Proofs.YtmpiaaangbjapaaDoor
open Go.Lib

/-- A text cut at each byte d. -/
def cutAt (d : UInt8) : List UInt8 → List (List UInt8)
  | [] => [[]]
  | c :: r => if c = d then [] :: cutAt d r else
    match cutAt d r with
    | [] => [[c]]
    | p :: ps => (c :: p) :: ps

theorem cutAt_ne (d : UInt8) : ∀ s, cutAt d s ≠ []
  | [] => by simp [cutAt]
  | c :: r => by
    unfold cutAt
    split
    · simp
    · split <;> simp

theorem cutAt_miss (d : UInt8) : ∀ s : List UInt8, d ∉ s → cutAt d s = [s]
  | [], _ => rfl
  | c :: r, h => by
    have h1 : c ≠ d := fun e => h (by simp [e])
    have h2 : d ∉ r := fun e => h (by simp [e])
    unfold cutAt
    rw [if_neg h1, cutAt_miss d r h2]

theorem cutAt_hit (d : UInt8) : ∀ (a b : List UInt8), d ∉ a → cutAt d (a ++ d :: b) = a :: cutAt d b
  | [], b, _ => by simp [cutAt]
  | c :: r, b, h => by
    have h1 : c ≠ d := fun e => h (by simp [e])
    have h2 : d ∉ r := fun e => h (by simp [e])
    rw [List.cons_append, cutAt, if_neg h1, cutAt_hit d r b h2]

/-- Either the byte is not there, or the text is what stands ahead of it, it, and the rest. -/
theorem first_of (d : UInt8) : ∀ s : List UInt8, d ∉ s ∨ ∃ a b, s = a ++ d :: b ∧ d ∉ a
  | [] => .inl (by simp)
  | c :: r => by
    by_cases hc : c = d
    · exact .inr ⟨[], r, by simp [hc], by simp⟩
    · rcases first_of d r with h | ⟨a, b, h, h'⟩
      · exact .inl (by simp [h, Ne.symm hc])
      · exact .inr ⟨c :: a, b, by simp [h], by simp [h', Ne.symm hc]⟩

theorem occAt_one (s : List UInt8) (d : UInt8) (j : Nat) : occAt s [d] j = decide (s[j]? = some d) := by
  unfold occAt
  rw [Bool.eq_iff_iff, decide_eq_true_iff]
  cases h : s.drop j with
  | nil =>
    have : s[j]? = none := by rw [List.getElem?_eq_none_iff]; simpa using h
    simp [this]
  | cons x l =>
    have : s[j]? = some x := by
      have := congrArg List.head? h
      simpa using this
    rw [this]
    simp [List.isPrefixOf]
    exact eq_comm

theorem index_miss {s : List UInt8} {d : UInt8} (h : d ∉ s) : index s [d] = -1 := by
  refine index_none fun j _ => ?_
  rw [occAt_one, decide_eq_false_iff_not]
  intro e
  exact h (List.mem_of_getElem? e)

theorem index_hit {a b : List UInt8} {d : UInt8} (h : d ∉ a) : index (a ++ d :: b) [d] = (a.length : Int) := by
  refine index_first (by simp) ?_ ?_
  · rw [occAt_one]; simp
  · intro j hj
    rw [occAt_one, decide_eq_false_iff_not, List.getElem?_append_left hj]
    intro e
    exact h (List.mem_of_getElem? e)

theorem drop_hit (a b : List UInt8) (d : UInt8) : (a ++ d :: b).drop (a.length + 1) = b := by
  rw [← List.drop_drop]; simp

/-- What strings.Split tells at a separator of one byte. -/
theorem split_one (d : UInt8) : ∀ (n : Nat) (s : List UInt8), s.length ≤ n → splitK [d] 0 (count s [d]) s = cutAt d s
  | n, s, hn => by
    rcases first_of d s with h | ⟨a, b, rfl, h⟩
    · rw [count_miss (index_miss h), cutAt_miss d s h]
      rfl
    · cases n with
      | zero => simp at hn
      | succ n =>
        have hi := index_hit (b := b) h
        rw [count_hit (by simp) hi, cutAt_hit d a b h, Nat.add_comm, splitK, hi, if_neg (by simp)]
        have ih := split_one d n b (by simp at hn; omega)
        simp only [Int.toNat_natCast, List.length_cons, List.length_nil, Nat.zero_add, Nat.add_zero, drop_hit]
        rw [ih, List.take_left']
        rfl

theorem count_cut (d : UInt8) : ∀ (n : Nat) (s : List UInt8), s.length ≤ n → count s [d] + 1 = (cutAt d s).length
  | n, s, hn => by
    rcases first_of d s with h | ⟨a, b, rfl, h⟩
    · rw [count_miss (index_miss h), cutAt_miss d s h]
      rfl
    · cases n with
      | zero => simp at hn
      | succ n =>
        have hi := index_hit (b := b) h
        rw [count_hit (by simp) hi, cutAt_hit d a b h]
        have ih := count_cut d n b (by simp at hn; omega)
        simp only [List.length_cons, List.length_nil, Nat.zero_add, drop_hit]
        omega

theorem split_bytes (d : UInt8) (s : ByteArray) : (splitB ⟨#[d]⟩ 0 (countB s ⟨#[d]⟩) s).map (·.data.toList) = cutAt d s.data.toList := by
  rw [splitB_data]
  exact split_one d _ _ (Nat.le_refl _)

theorem split_count (d : UInt8) (s : ByteArray) : countB s ⟨#[d]⟩ + 1 = (cutAt d s.data.toList).length := count_cut d _ _ (Nat.le_refl _)

theorem cutAt_length_le (d : UInt8) : ∀ s : List UInt8, (cutAt d s).length ≤ s.length + 1
  | [] => by simp [cutAt]
  | c :: r => by
    have ih := cutAt_length_le d r
    unfold cutAt
    split
    · simp; omega
    · split
      · simp
      · rename_i p ps h; rw [h] at ih; simp at ih ⊢; omega

theorem cutAt_sum (d : UInt8) : ∀ s : List UInt8, ((cutAt d s).map List.length).sum + (cutAt d s).length = s.length + 1
  | [] => by simp [cutAt]
  | c :: r => by
    have ih := cutAt_sum d r
    unfold cutAt
    split
    · simp; omega
    · split
      · rename_i h; exact absurd h (cutAt_ne d r)
      · rename_i p ps h; rw [h] at ih; simp at ih ⊢; omega

theorem cutAt_len (d : UInt8) : ∀ s : List UInt8, ∀ p ∈ cutAt d s, p.length ≤ s.length
  | [] => by simp [cutAt]
  | c :: r => by
    have ih := cutAt_len d r
    unfold cutAt
    split
    · intro p hp
      rcases List.mem_cons.1 hp with rfl | hp
      · simp
      · have := ih p hp; simp; omega
    · split
      · intro p hp; simp at hp; simp [hp]
      · rename_i q ps h
        intro p hp
        rcases List.mem_cons.1 hp with rfl | hp
        · have := ih q (by simp [h]); simp; omega
        · have := ih p (by simp [h, hp]); simp; omega

theorem cutAt_join (d : UInt8) : ∀ s : List UInt8, join (cutAt d s) [d] = s
  | [] => by simp [cutAt, join]
  | c :: r => by
    have ih := cutAt_join d r
    unfold cutAt
    split
    · rename_i h
      subst h
      obtain ⟨p, ps, h⟩ : ∃ p ps, cutAt c r = p :: ps := by
        cases h : cutAt c r with
        | nil => exact absurd h (cutAt_ne c r)
        | cons p ps => exact ⟨p, ps, rfl⟩
      rw [h] at ih ⊢
      rw [join_cons] at ih ⊢
      simp only [joinTail, List.map_cons, List.flatten_cons, List.nil_append] at ih ⊢
      rw [List.append_assoc, ih]
      rfl
    · split
      · rename_i h; exact absurd h (cutAt_ne d r)
      · rename_i p ps h
        rw [h, join_cons] at ih
        rw [join_cons, List.cons_append, ih]

/-- A part has no separator in it. -/
theorem cutAt_pure (d : UInt8) : ∀ s : List UInt8, ∀ p ∈ cutAt d s, d ∉ p
  | [] => by simp [cutAt]
  | c :: r => by
    have ih := cutAt_pure d r
    unfold cutAt
    split
    · intro p hp
      rcases List.mem_cons.1 hp with rfl | hp
      · simp
      · exact ih p hp
    · rename_i hc
      split
      · intro p hp; simp at hp; simp [hp, Ne.symm hc]
      · rename_i q ps h
        intro p hp
        rcases List.mem_cons.1 hp with rfl | hp
        · have := ih q (by simp [h]); simp [this, Ne.symm hc]
        · exact ih p (by simp [h, hp])

theorem cutAt_append (d : UInt8) : ∀ (a b : List UInt8), cutAt d (a ++ d :: b) = cutAt d a ++ cutAt d b
  | [], b => by simp [cutAt]
  | c :: r, b => by
    have ih := cutAt_append d r b
    rw [List.cons_append]
    by_cases h : c = d
    · simp [cutAt, h, ih]
    · obtain ⟨p, ps, hp⟩ : ∃ p ps, cutAt d r = p :: ps := by
        cases h : cutAt d r with
        | nil => exact absurd h (cutAt_ne d r)
        | cons p ps => exact ⟨p, ps, rfl⟩
      rw [cutAt, if_neg h, ih, hp]
      simp [cutAt, h, hp]

/-- Pure parts, joined and cut, are those parts. -/
theorem cutAt_of_join (d : UInt8) : ∀ (ps : List (List UInt8)), ps ≠ [] → (∀ p ∈ ps, d ∉ p) → cutAt d (join ps [d]) = ps
  | [], h, _ => absurd rfl h
  | [p], _, h => by rw [join_one]; exact cutAt_miss d p (h p (by simp))
  | p :: q :: r, _, h => by
    have ih := cutAt_of_join d (q :: r) (by simp) (fun x hx => h x (by simp [List.mem_cons.1 hx]))
    have e : join (p :: q :: r) [d] = p ++ d :: join (q :: r) [d] := by
      rw [join_cons, join_cons]
      simp [joinTail]
    rw [e, cutAt_hit d p _ (h p (by simp)), ih]

theorem join_length (d : UInt8) : ∀ (ps : List (List UInt8)), ps ≠ [] → (join ps [d]).length + 1 = (ps.map List.length).sum + ps.length
  | [], h => absurd rfl h
  | [p], _ => by rw [join_one]; simp
  | p :: q :: r, _ => by
    have ih := join_length d (q :: r) (by simp)
    have e : join (p :: q :: r) [d] = p ++ d :: join (q :: r) [d] := by
      rw [join_cons, join_cons]
      simp [joinTail]
    rw [e]
    simp only [List.length_append, List.length_cons, List.map_cons, List.sum_cons] at ih ⊢
    omega
end Go.Proofs.YtmpiaaangbjapaaDoor
