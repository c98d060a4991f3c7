/- Plain facts on lists of bytes that cutting at one byte and joining give; no program is spoken of. Plain facts on making names plain; no program is spoken of. Plain facts on sorted lists of files by name; no program is spoken of. Plain facts on sorted lists of files that are set, laid in, taken out. Plain facts on decimal numerals: their digits, what they spell, that none is another's; no program is spoken of. -/
import Derived.Lib.Split
import Derived.Lib.Join
import Derived.Lib.Bytealg
import Derived.Lib.ItoaNum
import Derived.Lib.AtoiAllCases
namespace Go.Proofs.YtlmnabhhgplhnaaGreatDoor
open Go.Lib

/-- A text cut at each byte d. -/
def cutAt (d : UInt8) : List UInt8 → List (List UInt8)
  | [] => [[]]
  | c :: r => if c = d then [] :: cutAt d r else
    match cutAt d r with
    | [] => [[c]]
    | p :: ps => (c :: p) :: ps

theorem cutAt_ne (d : UInt8) : ∀ s, cutAt d s ≠ []
  | [] => by simp [cutAt]
  | c :: r => by
    unfold cutAt
    split
    · simp
    · split <;> simp

theorem cutAt_miss (d : UInt8) : ∀ s : List UInt8, d ∉ s → cutAt d s = [s]
  | [], _ => rfl
  | c :: r, h => by
    have h1 : c ≠ d := fun e => h (by simp [e])
    have h2 : d ∉ r := fun e => h (by simp [e])
    unfold cutAt
    rw [if_neg h1, cutAt_miss d r h2]

theorem cutAt_hit (d : UInt8) : ∀ (a b : List UInt8), d ∉ a → cutAt d (a ++ d :: b) = a :: cutAt d b
  | [], b, _ => by simp [cutAt]
  | c :: r, b, h => by
    have h1 : c ≠ d := fun e => h (by simp [e])
    have h2 : d ∉ r := fun e => h (by simp [e])
    rw [List.cons_append, cutAt, if_neg h1, cutAt_hit d r b h2]

/-- Either the byte is not there, or the text is what stands ahead of it, it, and the rest. -/
theorem first_of (d : UInt8) : ∀ s : List UInt8, d ∉ s ∨ ∃ a b, s = a ++ d :: b ∧ d ∉ a
  | [] => .inl (by simp)
  | c :: r => by
    by_cases hc : c = d
    · exact .inr ⟨[], r, by simp [hc], by simp⟩
    · rcases first_of d r with h | ⟨a, b, h, h'⟩
      · exact .inl (by simp [h, Ne.symm hc])
      · exact .inr ⟨c :: a, b, by simp [h], by simp [h', Ne.symm hc]⟩

theorem occAt_one (s : List UInt8) (d : UInt8) (j : Nat) : occAt s [d] j = decide (s[j]? = some d) := by
  unfold occAt
  rw [Bool.eq_iff_iff, decide_eq_true_iff]
  cases h : s.drop j with
  | nil =>
    have : s[j]? = none := by rw [List.getElem?_eq_none_iff]; simpa using h
    simp [this]
  | cons x l =>
    have : s[j]? = some x := by
      have := congrArg List.head? h
      simpa using this
    rw [this]
    simp [List.isPrefixOf]
    exact eq_comm

theorem index_miss {s : List UInt8} {d : UInt8} (h : d ∉ s) : index s [d] = -1 := by
  refine index_none fun j _ => ?_
  rw [occAt_one, decide_eq_false_iff_not]
  intro e
  exact h (List.mem_of_getElem? e)

theorem index_hit {a b : List UInt8} {d : UInt8} (h : d ∉ a) : index (a ++ d :: b) [d] = (a.length : Int) := by
  refine index_first (by simp) ?_ ?_
  · rw [occAt_one]; simp
  · intro j hj
    rw [occAt_one, decide_eq_false_iff_not, List.getElem?_append_left hj]
    intro e
    exact h (List.mem_of_getElem? e)

theorem drop_hit (a b : List UInt8) (d : UInt8) : (a ++ d :: b).drop (a.length + 1) = b := by
  rw [← List.drop_drop]; simp

/-- What strings.Split tells at a separator of one byte. -/
theorem split_one (d : UInt8) : ∀ (n : Nat) (s : List UInt8), s.length ≤ n → splitK [d] 0 (count s [d]) s = cutAt d s
  | n, s, hn => by
    rcases first_of d s with h | ⟨a, b, rfl, h⟩
    · rw [count_miss (index_miss h), cutAt_miss d s h]
      rfl
    · cases n with
      | zero => simp at hn
      | succ n =>
        have hi := index_hit (b := b) h
        rw [count_hit (by simp) hi, cutAt_hit d a b h, Nat.add_comm, splitK, hi, if_neg (by simp)]
        have ih := split_one d n b (by simp at hn; omega)
        simp only [Int.toNat_natCast, List.length_cons, List.length_nil, Nat.zero_add, Nat.add_zero, drop_hit]
        rw [ih, List.take_left']
        rfl

theorem count_cut (d : UInt8) : ∀ (n : Nat) (s : List UInt8), s.length ≤ n → count s [d] + 1 = (cutAt d s).length
  | n, s, hn => by
    rcases first_of d s with h | ⟨a, b, rfl, h⟩
    · rw [count_miss (index_miss h), cutAt_miss d s h]
      rfl
    · cases n with
      | zero => simp at hn
      | succ n =>
        have hi := index_hit (b := b) h
        rw [count_hit (by simp) hi, cutAt_hit d a b h]
        have ih := count_cut d n b (by simp at hn; omega)
        simp only [List.length_cons, List.length_nil, Nat.zero_add, drop_hit]
        omega

theorem split_bytes (d : UInt8) (s : ByteArray) : (splitB ⟨#[d]⟩ 0 (countB s ⟨#[d]⟩) s).map (·.data.toList) = cutAt d s.data.toList := by
  rw [splitB_data]
  exact split_one d _ _ (Nat.le_refl _)

theorem split_count (d : UInt8) (s : ByteArray) : countB s ⟨#[d]⟩ + 1 = (cutAt d s.data.toList).length := count_cut d _ _ (Nat.le_refl _)

theorem cutAt_length_le (d : UInt8) : ∀ s : List UInt8, (cutAt d s).length ≤ s.length + 1
  | [] => by simp [cutAt]
  | c :: r => by
    have ih := cutAt_length_le d r
    unfold cutAt
    split
    · simp; omega
    · split
      · simp
      · rename_i p ps h; rw [h] at ih; simp at ih ⊢; omega

theorem cutAt_sum (d : UInt8) : ∀ s : List UInt8, ((cutAt d s).map List.length).sum + (cutAt d s).length = s.length + 1
  | [] => by simp [cutAt]
  | c :: r => by
    have ih := cutAt_sum d r
    unfold cutAt
    split
    · simp; omega
    · split
      · rename_i h; exact absurd h (cutAt_ne d r)
      · rename_i p ps h; rw [h] at ih; simp at ih ⊢; omega

theorem cutAt_len (d : UInt8) : ∀ s : List UInt8, ∀ p ∈ cutAt d s, p.length ≤ s.length
  | [] => by simp [cutAt]
  | c :: r => by
    have ih := cutAt_len d r
    unfold cutAt
    split
    · intro p hp
      rcases List.mem_cons.1 hp with rfl | hp
      · simp
      · have := ih p hp; simp; omega
    · split
      · intro p hp; simp at hp; simp [hp]
      · rename_i q ps h
        intro p hp
        rcases List.mem_cons.1 hp with rfl | hp
        · have := ih q (by simp [h]); simp; omega
        · have := ih p (by simp [h, hp]); simp; omega

theorem cutAt_join (d : UInt8) : ∀ s : List UInt8, join (cutAt d s) [d] = s
  | [] => by simp [cutAt, join]
  | c :: r => by
    have ih := cutAt_join d r
    unfold cutAt
    split
    · rename_i h
      subst h
      obtain ⟨p, ps, h⟩ : ∃ p ps, cutAt c r = p :: ps := by
        cases h : cutAt c r with
        | nil => exact absurd h (cutAt_ne c r)
        | cons p ps => exact ⟨p, ps, rfl⟩
      rw [h] at ih ⊢
      rw [join_cons] at ih ⊢
      simp only [joinTail, List.map_cons, List.flatten_cons, List.nil_append] at ih ⊢
      rw [List.append_assoc, ih]
      rfl
    · split
      · rename_i h; exact absurd h (cutAt_ne d r)
      · rename_i p ps h
        rw [h, join_cons] at ih
        rw [join_cons, List.cons_append, ih]

/-- A part has no separator in it. -/
theorem cutAt_pure (d : UInt8) : ∀ s : List UInt8, ∀ p ∈ cutAt d s, d ∉ p
  | [] => by simp [cutAt]
  | c :: r => by
    have ih := cutAt_pure d r
    unfold cutAt
    split
    · intro p hp
      rcases List.mem_cons.1 hp with rfl | hp
      · simp
      · exact ih p hp
    · rename_i hc
      split
      · intro p hp; simp at hp; simp [hp, Ne.symm hc]
      · rename_i q ps h
        intro p hp
        rcases List.mem_cons.1 hp with rfl | hp
        · have := ih q (by simp [h]); simp [this, Ne.symm hc]
        · exact ih p (by simp [h, hp])

theorem cutAt_append (d : UInt8) : ∀ (a b : List UInt8), cutAt d (a ++ d :: b) = cutAt d a ++ cutAt d b
  | [], b => by simp [cutAt]
  | c :: r, b => by
    have ih := cutAt_append d r b
    rw [List.cons_append]
    by_cases h : c = d
    · simp [cutAt, h, ih]
    · obtain ⟨p, ps, hp⟩ : ∃ p ps, cutAt d r = p :: ps := by
        cases h : cutAt d r with
        | nil => exact absurd h (cutAt_ne d r)
        | cons p ps => exact ⟨p, ps, rfl⟩
      rw [cutAt, if_neg h, ih, hp]
      simp [cutAt, h, hp]

/-- Pure parts, joined and cut, are those parts. -/
theorem cutAt_of_join (d : UInt8) : ∀ (ps : List (List UInt8)), ps ≠ [] → (∀ p ∈ ps, d ∉ p) → cutAt d (join ps [d]) = ps
  | [], h, _ => absurd rfl h
  | [p], _, h => by rw [join_one]; exact cutAt_miss d p (h p (by simp))
  | p :: q :: r, _, h => by
    have ih := cutAt_of_join d (q :: r) (by simp) (fun x hx => h x (by simp [List.mem_cons.1 hx]))
    have e : join (p :: q :: r) [d] = p ++ d :: join (q :: r) [d] := by
      rw [join_cons, join_cons]
      simp [joinTail]
    rw [e, cutAt_hit d p _ (h p (by simp)), ih]

theorem join_length (d : UInt8) : ∀ (ps : List (List UInt8)), ps ≠ [] → (join ps [d]).length + 1 = (ps.map List.length).sum + ps.length
  | [], h => absurd rfl h
  | [p], _ => by rw [join_one]; simp
  | p :: q :: r, _ => by
    have ih := join_length d (q :: r) (by simp)
    have e : join (p :: q :: r) [d] = p ++ d :: join (q :: r) [d] := by
      rw [join_cons, join_cons]
      simp [joinTail]
    rw [e]
    simp only [List.length_append, List.length_cons, List.map_cons, List.sum_cons] at ih ⊢
    omega
end Go.Proofs.YtlmnabhhgplhnaaGreatDoor
namespace Go.Proofs.YtlmnabhhgplhnaaGreatDoor
open Go.Lib

/-- The parts that are left when '', '.' and '..' are taken out, from the left; none: one goes up too far. -/
def normGo (kept : List (List UInt8)) : List (List UInt8) → Option (List (List UInt8))
  | [] => some kept
  | p :: ps => if p = [] ∨ p = [46] then normGo kept ps else if p = [46, 46] then (if kept = [] then none else normGo kept.dropLast ps) else normGo (kept ++ [p]) ps

theorem normGo_skip (kept ps : List (List UInt8)) (p : List UInt8) (h : p = [] ∨ p = [46]) : normGo kept (p :: ps) = normGo kept ps := by rw [normGo, if_pos h]
theorem normGo_fall (ps : List (List UInt8)) : normGo [] ([46, 46] :: ps) = none := by rw [normGo, if_neg (by simp), if_pos rfl, if_pos rfl]
theorem normGo_up (kept ps : List (List UInt8)) (h : kept ≠ []) : normGo kept ([46, 46] :: ps) = normGo kept.dropLast ps := by rw [normGo, if_neg (by simp), if_pos rfl, if_neg h]
theorem normGo_keep (kept ps : List (List UInt8)) (p : List UInt8) (h1 : p ≠ []) (h2 : p ≠ [46]) (h3 : p ≠ [46, 46]) : normGo kept (p :: ps) = normGo (kept ++ [p]) ps := by rw [normGo, if_neg (by simp [h1, h2]), if_neg h3]
end Go.Proofs.YtlmnabhhgplhnaaGreatDoor
namespace Go.Proofs.YtlmnabhhgplhnaaGreatDoor
open Go.Lib

theorem cmp_refl : ∀ a : List UInt8, compareBytes a a = 0
  | [] => rfl
  | a :: as => by
    unfold compareBytes
    have h : ¬ a < a := by rw [UInt8.lt_iff_toNat_lt]; omega
    rw [if_neg h, if_neg h, cmp_refl as]

theorem cmp_zero : ∀ a b : List UInt8, compareBytes a b = 0 → a = b
  | [], [], _ => rfl
  | [], _ :: _, h => by simp [compareBytes] at h
  | _ :: _, [], h => by simp [compareBytes] at h
  | a :: as, b :: bs, h => by
    unfold compareBytes at h
    split at h
    · cases h
    · split at h
      · cases h
      · rename_i h1 h2
        have : a = b := UInt8.toNat_inj.1 (by rw [UInt8.lt_iff_toNat_lt] at h1 h2; omega)
        rw [this, cmp_zero as bs h]

theorem cmp_anti : ∀ a b : List UInt8, compareBytes b a = - compareBytes a b
  | [], [] => rfl
  | [], _ :: _ => rfl
  | _ :: _, [] => rfl
  | a :: as, b :: bs => by
    unfold compareBytes
    by_cases h1 : a < b
    · have h2 : ¬ b < a := by rw [UInt8.lt_iff_toNat_lt] at h1 ⊢; omega
      rw [if_pos h1, if_neg h2, if_pos h1]; rfl
    · by_cases h2 : b < a
      · rw [if_pos h2, if_neg h1, if_pos h2]
      · rw [if_neg h2, if_neg h1, if_neg h1, if_neg h2, cmp_anti as bs]

theorem cmp_trans : ∀ a b c : List UInt8, compareBytes a b < 0 → compareBytes b c < 0 → compareBytes a c < 0
  | [], [], _, h, _ => by simp [compareBytes] at h
  | [], _ :: _, [], _, h => by simp [compareBytes] at h
  | [], _ :: _, _ :: _, _, _ => by simp [compareBytes]
  | _ :: _, [], _, h, _ => by simp [compareBytes] at h
  | _ :: _, _ :: _, [], _, h => by simp [compareBytes] at h
  | a :: as, b :: bs, c :: cs, h1, h2 => by
    unfold compareBytes at h1 h2 ⊢
    simp only [UInt8.lt_iff_toNat_lt] at h1 h2 ⊢
    by_cases hab : a.toNat < b.toNat
    · by_cases hbc : b.toNat < c.toNat
      · rw [if_pos (by omega)]; decide
      · rw [if_neg hbc] at h2
        by_cases hcb : c.toNat < b.toNat
        · rw [if_pos hcb] at h2; exact absurd h2 (by decide)
        · rw [if_pos (by omega)]; decide
    · rw [if_neg hab] at h1
      by_cases hba : b.toNat < a.toNat
      · rw [if_pos hba] at h1; exact absurd h1 (by decide)
      · rw [if_neg hba] at h1
        by_cases hbc : b.toNat < c.toNat
        · rw [if_pos (by omega)]; decide
        · rw [if_neg hbc] at h2
          by_cases hcb : c.toNat < b.toNat
          · rw [if_pos hcb] at h2; exact absurd h2 (by decide)
          · rw [if_neg hcb] at h2
            rw [if_neg (by omega), if_neg (by omega)]
            exact cmp_trans as bs cs h1 h2

/-- How files' names compare with a text. -/
def cmpF (f : ByteArray × ByteArray) (x : ByteArray) : Int := compareBytes f.1.data.toList x.data.toList
def Sorted (fs : List (ByteArray × ByteArray)) : Prop := fs.Pairwise fun f g => cmpF f g.1 < 0
/-- The place of a name, and whether it is there. -/
def posOf (fs : List (ByteArray × ByteArray)) (x : ByteArray) : Nat := (fs.takeWhile fun f => decide (cmpF f x < 0)).length
def hasF (fs : List (ByteArray × ByteArray)) (x : ByteArray) : Bool := fs.any fun f => f.1.data.toList == x.data.toList

theorem cmpF_trans {f g : ByteArray × ByteArray} {x : ByteArray} (h1 : cmpF f g.1 < 0) (h2 : cmpF g x < 0) : cmpF f x < 0 := cmp_trans _ _ _ h1 h2
theorem cmpF_zero {f : ByteArray × ByteArray} {x : ByteArray} (h : cmpF f x = 0) : f.1 = x := by
  have := cmp_zero _ _ h
  exact ByteArray.ext (Array.toList_inj.1 this)
theorem cmpF_self (f : ByteArray × ByteArray) : cmpF f f.1 = 0 := cmp_refl _

theorem sorted_mono {fs : List (ByteArray × ByteArray)} (h : Sorted fs) {a b : Nat} {fa fb : ByteArray × ByteArray} (hab : a ≤ b) (ha : fs[a]? = some fa) (hb : fs[b]? = some fb) {x : ByteArray} (hx : cmpF fb x < 0) : cmpF fa x < 0 := by
  rcases Nat.lt_or_ge a b with hlt | hge
  · obtain ⟨hb', rfl⟩ := List.getElem?_eq_some_iff.1 hb
    obtain ⟨ha', rfl⟩ := List.getElem?_eq_some_iff.1 ha
    exact cmpF_trans (List.pairwise_iff_getElem.1 h a b ha' hb' hlt) hx
  · obtain rfl : a = b := by omega
    rw [ha] at hb; injection hb with hb; rw [hb]; exact hx

theorem posOf_eq {fs : List (ByteArray × ByteArray)} {x : ByteArray} : ∀ {p : Nat}, p ≤ fs.length → (∀ (t : Nat) f, t < p → fs[t]? = some f → cmpF f x < 0) → (∀ (t : Nat) f, p ≤ t → fs[t]? = some f → ¬ cmpF f x < 0) → posOf fs x = p := by
  induction fs with
  | nil => intro p hp _ _; simp at hp; simp [posOf, hp]
  | cons f fs ih =>
    intro p hp h1 h2
    cases p with
    | zero =>
      have := h2 0 f (Nat.le_refl _) rfl
      simp [posOf, this]
    | succ p =>
      have h0 := h1 0 f (Nat.succ_pos _) rfl
      have := ih (p := p) (by simpa using hp) (fun t g ht hg => h1 (t + 1) g (by omega) (by simpa using hg)) (fun t g ht hg => h2 (t + 1) g (by omega) (by simpa using hg))
      unfold posOf at this ⊢
      rw [List.takeWhile_cons, if_pos (by simpa using h0), List.length_cons, this]

theorem posOf_le (fs : List (ByteArray × ByteArray)) (x : ByteArray) : posOf fs x ≤ fs.length := by
  unfold posOf
  exact (List.takeWhile_sublist _).length_le

theorem posOf_cons (f : ByteArray × ByteArray) (fs : List (ByteArray × ByteArray)) (x : ByteArray) : posOf (f :: fs) x = if cmpF f x < 0 then posOf fs x + 1 else 0 := by
  unfold posOf
  rw [List.takeWhile_cons]
  by_cases h : cmpF f x < 0 <;> simp [h]

theorem posOf_spec (x : ByteArray) : ∀ {fs : List (ByteArray × ByteArray)}, Sorted fs → (∀ (t : Nat) f, t < posOf fs x → fs[t]? = some f → cmpF f x < 0) ∧ (∀ (t : Nat) f, posOf fs x ≤ t → fs[t]? = some f → ¬ cmpF f x < 0)
  | [], _ => ⟨fun t f _ h => by simp at h, fun t f _ h => by simp at h⟩
  | g :: gs, hs => by
    obtain ⟨ih1, ih2⟩ := posOf_spec x (List.pairwise_cons.1 hs).2
    rw [posOf_cons]
    by_cases h : cmpF g x < 0
    · rw [if_pos h]
      refine ⟨fun t f ht hf => ?_, fun t f ht hf => ?_⟩
      · cases t with
        | zero => simp at hf; rw [← hf]; exact h
        | succ t => exact ih1 t f (by omega) (by simpa using hf)
      · cases t with
        | zero => omega
        | succ t => exact ih2 t f (by omega) (by simpa using hf)
    · rw [if_neg h]
      refine ⟨fun t f ht hf => by omega, fun t f ht hf => ?_⟩
      cases t with
      | zero => simp at hf; rw [← hf]; exact h
      | succ t => exact fun hx => h (cmpF_trans ((List.pairwise_cons.1 hs).1 f (List.mem_of_getElem? (by simpa using hf))) hx)

theorem hasF_at {fs : List (ByteArray × ByteArray)} (hs : Sorted fs) {x : ByteArray} {p : Nat} (h1 : ∀ (t : Nat) f, t < p → fs[t]? = some f → cmpF f x < 0) (h2 : ∀ (t : Nat) f, p ≤ t → fs[t]? = some f → ¬ cmpF f x < 0) :
    (∃ f, fs[p]? = some f ∧ cmpF f x = 0) ↔ hasF fs x = true := by
  unfold hasF
  rw [List.any_eq_true]
  constructor
  · rintro ⟨f, hf, h0⟩
    exact ⟨f, List.mem_of_getElem? hf, by rw [cmpF_zero h0]; simp⟩
  · rintro ⟨f, hf, hx⟩
    have hx : f.1 = x := ByteArray.ext (Array.toList_inj.1 (eq_of_beq hx))
    obtain ⟨t, ht⟩ := List.getElem?_of_mem hf
    have h0 : cmpF f x = 0 := by rw [← hx]; exact cmpF_self f
    have hpt : p ≤ t := by
      rcases Nat.lt_or_ge t p with h | h
      · have := h1 t f h ht; omega
      · exact h
    rcases Nat.lt_or_ge p t with h | h
    · exfalso
      obtain ⟨ht', _⟩ := List.getElem?_eq_some_iff.1 ht
      have hp' : fs[p]? = some fs[p] := List.getElem?_eq_getElem (by omega)
      have h3 := h2 p _ (Nat.le_refl _) hp'
      have h4 : cmpF fs[p] f.1 < 0 := by
        obtain ⟨ht'', rfl⟩ := List.getElem?_eq_some_iff.1 ht
        exact List.pairwise_iff_getElem.1 hs p t (by omega) ht' h
      rw [hx] at h4
      exact h3 h4
    · obtain rfl : p = t := by omega
      exact ⟨f, ht, h0⟩
end Go.Proofs.YtlmnabhhgplhnaaGreatDoor
namespace Go.Proofs.YtlmnabhhgplhnaaGreatDoor

theorem mem_set_cases {α : Type} {l : List α} {p : Nat} {x y : α} (h : y ∈ l.set p x) : y = x ∨ y ∈ l := by
  rcases List.mem_or_eq_of_mem_set h with h | h
  · exact .inr h
  · exact .inl h

/-- Another content under the same name. -/
theorem sorted_set {fs : List (ByteArray × ByteArray)} (h : Sorted fs) {p : Nat} {f : ByteArray × ByteArray} (hf : fs[p]? = some f) (b : ByteArray) : Sorted (fs.set p (f.1, b)) := by
  unfold Sorted at h ⊢
  rw [List.pairwise_iff_getElem] at h ⊢
  obtain ⟨hp, rfl⟩ := List.getElem?_eq_some_iff.1 hf
  intro i j hi hj hij
  have hi' : i < fs.length := by simpa using hi
  have hj' : j < fs.length := by simpa using hj
  have hh := h i j hi' hj' hij
  rw [List.getElem_set, List.getElem_set]
  by_cases h1 : p = i
  · subst h1
    rw [if_pos rfl, if_neg (by omega)]
    exact hh
  · rw [if_neg h1]
    by_cases h2 : p = j
    · subst h2
      rw [if_pos rfl]; exact hh
    · rw [if_neg h2]; exact hh

/-- A new name at its place. -/
theorem sorted_ins {fs : List (ByteArray × ByteArray)} (h : Sorted fs) {x : ByteArray} (b : ByteArray) (hx : hasF fs x = false) : Sorted (fs.take (posOf fs x) ++ (x, b) :: fs.drop (posOf fs x)) := by
  obtain ⟨h1, h2⟩ := posOf_spec x h
  have h3 := hasF_at h h1 h2
  unfold Sorted at h ⊢
  have hd : (fs.take (posOf fs x) ++ fs.drop (posOf fs x)).Pairwise fun f g => cmpF f g.1 < 0 := by rw [List.take_append_drop]; exact h
  rw [List.pairwise_append] at hd ⊢
  obtain ⟨d1, d2, d3⟩ := hd
  have hlo : ∀ f ∈ fs.take (posOf fs x), cmpF f x < 0 := by
    intro f hf
    obtain ⟨t, ht⟩ := List.getElem?_of_mem hf
    rw [List.getElem?_take] at ht
    split at ht
    · exact h1 t f (by assumption) ht
    · cases ht
  have hhi : ∀ g ∈ fs.drop (posOf fs x), cmpF (x, b) g.1 < 0 := by
    intro g hg
    obtain ⟨t, ht⟩ := List.getElem?_of_mem hg
    rw [List.getElem?_drop] at ht
    have h4 : ¬ cmpF g x < 0 := h2 _ g (by omega) ht
    have h5 : cmpF g x ≠ 0 := by
      intro h0
      have : hasF fs x = true := by
        unfold hasF
        rw [List.any_eq_true]
        exact ⟨g, List.mem_of_getElem? ht, by rw [cmpF_zero h0]; simp⟩
      rw [hx] at this; cases this
    have h6 : cmpF (x, b) g.1 = - cmpF g x := by
      unfold cmpF
      exact cmp_anti _ _
    rw [h6]; omega
  refine ⟨d1, List.pairwise_cons.2 ⟨hhi, d2⟩, ?_⟩
  intro f hf g hg
  rcases List.mem_cons.1 hg with rfl | hg
  · exact hlo f hf
  · exact d3 f hf g hg

theorem sorted_erase {fs : List (ByteArray × ByteArray)} (h : Sorted fs) (p : Nat) : Sorted (fs.eraseIdx p) := List.Pairwise.sublist (List.eraseIdx_sublist ..) h
end Go.Proofs.YtlmnabhhgplhnaaGreatDoor
namespace Go.Proofs.YtlmnabhhgplhnaaGreatDoor
open Go.Lib

def isDig (c : UInt8) : Bool := decide (48 ≤ c.toNat ∧ c.toNat ≤ 57)
def digV (acc : Nat) (c : UInt8) : Nat := acc * 10 + (c.toNat - 48)
/-- What a text of digits spells. -/
def valFrom (acc : Nat) (l : List UInt8) : Nat := l.foldl digV acc
theorem valFrom_nil (acc : Nat) : valFrom acc [] = acc := rfl
theorem valFrom_cons (acc : Nat) (c : UInt8) (r : List UInt8) : valFrom acc (c :: r) = valFrom (acc * 10 + (c.toNat - 48)) r := by unfold valFrom; rw [List.foldl_cons]; rw [digV]
theorem valFrom_append (a b : List UInt8) (acc : Nat) : valFrom acc (a ++ b) = valFrom (valFrom acc a) b := List.foldl_append ..

theorem valFrom_le : ∀ (l : List UInt8) (acc : Nat), acc ≤ valFrom acc l
  | [], acc => Nat.le_refl _
  | c :: l, acc => by
    have := valFrom_le l (acc * 10 + (c.toNat - 48))
    rw [valFrom_cons]; omega

theorem dig_toNat {u : Nat} (h : u < 10) : (UInt8.ofNat (48 + u)).toNat = 48 + u := by rw [UInt8.toNat_ofNat']; omega

theorem dec_digs (u : Nat) : ∀ c ∈ decDigits u, isDig c = true := by
  induction u using Nat.strongRecOn with
  | _ u ih =>
    intro c hc
    rw [decDigits] at hc
    split at hc
    · rename_i h
      obtain rfl := List.mem_singleton.1 hc
      simp only [isDig, dig_toNat h, decide_eq_true_eq]; omega
    · rename_i h
      rcases List.mem_append.1 hc with hc | hc
      · exact ih (u / 10) (by omega) c hc
      · obtain rfl := List.mem_singleton.1 hc
        simp only [isDig, dig_toNat (show u % 10 < 10 by omega), decide_eq_true_eq]; omega

theorem dec_val (u : Nat) : valFrom 0 (decDigits u) = u := by
  induction u using Nat.strongRecOn with
  | _ u ih =>
    rw [decDigits]
    split
    · rename_i h
      simp only [valFrom_cons, valFrom_nil, dig_toNat h]; omega
    · rename_i h
      rw [valFrom_append, ih (u / 10) (by omega)]
      simp only [valFrom_cons, valFrom_nil, dig_toNat (show u % 10 < 10 by omega)]; omega

theorem dec_inj {u v : Nat} (h : decDigits u = decDigits v) : u = v := by rw [← dec_val u, h, dec_val]
theorem dec_ne (u : Nat) : decDigits u ≠ [] := by
  rw [decDigits]; split <;> simp
theorem dec_pure (u : Nat) : (58 : UInt8) ∉ decDigits u := fun h => by
  have := dec_digs u _ h
  revert this; decide

/-- Only a number below ten is spelt with a zero ahead. -/
theorem dec_head (u : Nat) (r : List UInt8) (h : decDigits u = 48 :: r) : r = [] := by
  induction u using Nat.strongRecOn generalizing r with
  | _ u ih =>
    rw [decDigits] at h
    split at h
    · injection h with _ h; exact h.symm
    · rename_i hu
      cases hd : decDigits (u / 10) with
      | nil => exact absurd hd (dec_ne _)
      | cons c t =>
        rw [hd, List.cons_append] at h
        injection h with h1 h2
        subst h1
        have := ih (u / 10) (by omega) t hd
        subst this
        have h0 : u / 10 = 0 := by
          have := dec_val (u / 10)
          rw [hd] at this
          simpa [valFrom_cons, valFrom_nil] using this.symm
        omega

/-- A numeral as it is written: digits, and no zero ahead. -/
def canon (s : List UInt8) : Prop := s ≠ [] ∧ s.all isDig = true ∧ (s.length = 1 ∨ s.head? ≠ some 48)

theorem canon_dec (u : Nat) : canon (decDigits u) := by
  refine ⟨dec_ne u, List.all_eq_true.2 (dec_digs u), ?_⟩
  cases h : decDigits u with
  | nil => exact absurd h (dec_ne u)
  | cons c t =>
    by_cases hc : c = 48
    · subst hc
      have := dec_head u t h
      subst this
      exact .inl rfl
    · exact .inr (by simpa using hc)

theorem dig_back {c : UInt8} (h : isDig c = true) : UInt8.ofNat (48 + (c.toNat - 48)) = c := by
  simp only [isDig, decide_eq_true_eq] at h
  rw [show 48 + (c.toNat - 48) = c.toNat by omega]
  exact UInt8.ofNat_toNat

theorem pos_of_head : ∀ (s : List UInt8), s ≠ [] → s.all isDig = true → s.head? ≠ some 48 → 1 ≤ valFrom 0 s
  | [], h, _, _ => absurd rfl h
  | c :: r, _, hd, hh => by
    have h1 : isDig c = true := by simp at hd; exact hd.1
    have h2 : c ≠ 48 := by simpa using hh
    have h3 : c.toNat ≠ 48 := fun e => h2 (UInt8.toNat_inj.1 e)
    simp only [isDig, decide_eq_true_eq] at h1
    have := valFrom_le r (0 * 10 + (c.toNat - 48))
    rw [valFrom_cons]; omega

theorem dec_of_rev (n : Nat) : ∀ (s : List UInt8), s.length = n → s ≠ [] → s.all isDig = true → s.head? ≠ some 48 → decDigits (valFrom 0 s) = s := by
  induction n with
  | zero => intro s hl h; exact absurd (List.eq_nil_of_length_eq_zero hl) h
  | succ n ih =>
    intro s hl h0 hd hh
    obtain ⟨t, c, rfl⟩ : ∃ t c, s = t ++ [c] := ⟨s.dropLast, s.getLast h0, (List.dropLast_concat_getLast h0).symm⟩
    rw [List.all_append] at hd
    simp only [List.all_cons, List.all_nil, Bool.and_true, Bool.and_eq_true] at hd
    have hc := hd.2
    have hc' := hc
    simp only [isDig, decide_eq_true_eq] at hc'
    rw [valFrom_append]
    cases ht : t with
    | nil =>
      subst ht
      simp only [valFrom_cons, valFrom_nil, Nat.zero_mul, Nat.zero_add, List.nil_append]
      rw [decDigits_one (by omega), dig_back hc]
    | cons a r =>
      rw [← ht]
      have hne : t ≠ [] := by rw [ht]; simp
      have hht : t.head? ≠ some 48 := by rw [ht] at hh ⊢; simpa using hh
      have hl' : t.length = n := by simpa using hl
      have h1 := pos_of_head t hne hd.1 hht
      have h2 := ih t hl' hne hd.1 hht
      simp only [valFrom_cons, valFrom_nil]
      rw [decDigits, dif_neg (by omega), show (valFrom 0 t * 10 + (c.toNat - 48)) / 10 = valFrom 0 t by omega, h2, show (valFrom 0 t * 10 + (c.toNat - 48)) % 10 = c.toNat - 48 by omega, dig_back hc]

theorem dec_of {s : List UInt8} (h : canon s) : decDigits (valFrom 0 s) = s := by
  obtain ⟨h0, hd, hl⟩ := h
  rcases hl with hl | hh
  · match s, hl with
    | [c], _ =>
      have hc : isDig c = true := by simpa using hd
      have hc' := hc
      simp only [isDig, decide_eq_true_eq] at hc'
      simp only [valFrom_cons, valFrom_nil, Nat.zero_mul, Nat.zero_add]
      rw [decDigits_one (by omega), dig_back hc]
  · exact dec_of_rev _ s rfl h0 hd hh

theorem parse_digs : ∀ (l : List UInt8) (acc : Nat), l.all isDig = true → valFrom acc l < 18446744073709551616 → parseUint10 acc l = .ok (valFrom acc l)
  | [], _, _, _ => rfl
  | c :: r, acc, hd, hv => by
    simp only [List.all_cons, Bool.and_eq_true] at hd
    have hc := hd.1
    simp only [isDig, decide_eq_true_eq] at hc
    rw [valFrom_cons] at hv
    have := valFrom_le r (acc * 10 + (c.toNat - 48))
    simp only [parseUint10, if_pos hc]
    rw [if_neg (by omega), if_neg (by omega), parse_digs r _ hd.2 hv]
    rfl

theorem atoi_digs {s : List UInt8} (h0 : s ≠ []) (hd : s.all isDig = true) (hv : valFrom 0 s < 9223372036854775808) : atoiAll s = .ok (valFrom 0 s : Nat) := by
  cases s with
  | nil => exact absurd rfl h0
  | cons c r =>
    have hc : isDig c = true := by simp at hd; exact hd.1
    simp only [isDig, decide_eq_true_eq] at hc
    rw [atoiAll_plain c r (by omega) (by omega)]
    unfold parseMag
    rw [if_neg (by simp), parse_digs _ _ hd (by omega)]
    simp only [signless]
    rw [if_neg (by omega)]

/-- The place of the first of two bytes is one. -/
theorem first_inj {d : UInt8} : ∀ {a b a' b' : List UInt8}, d ∉ a → d ∉ a' → a ++ d :: b = a' ++ d :: b' → a = a' ∧ b = b'
  | [], b, [], b', _, _, h => by simpa using h
  | [], b, c :: a', b', _, h', h => by
    rw [List.nil_append, List.cons_append] at h
    injection h with h1 _
    exact absurd (by simp [h1]) h'
  | c :: a, b, [], b', h', _, h => by
    rw [List.nil_append, List.cons_append] at h
    injection h with h1 _
    exact absurd (by simp [h1]) h'
  | c :: a, b, c' :: a', b', h1, h2, h => by
    rw [List.cons_append, List.cons_append] at h
    injection h with e1 e2
    obtain ⟨e3, e4⟩ := first_inj (fun m => h1 (by simp [m])) (fun m => h2 (by simp [m])) e2
    exact ⟨by rw [e1, e3], e4⟩
end Go.Proofs.YtlmnabhhgplhnaaGreatDoor
