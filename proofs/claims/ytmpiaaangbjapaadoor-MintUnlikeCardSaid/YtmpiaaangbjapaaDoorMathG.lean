/- Plain facts on decimal numerals: their digits, what they spell, that none is another's; no program is spoken of. -/
import Derived.Lib.ItoaNum
import Derived.Lib.AtoiAllCases
namespace Go.Proofs.YtmpiaaangbjapaaDoor
open Go.Lib

def isDig (c : UInt8) : Bool := decide (48 ≤ c.toNat ∧ c.toNat ≤ 57)
def digV (acc : Nat) (c : UInt8) : Nat := acc * 10 + (c.toNat - 48)
/-- What a text of digits spells. -/
def valFrom (acc : Nat) (l : List UInt8) : Nat := l.foldl digV acc
theorem valFrom_nil (acc : Nat) : valFrom acc [] = acc := rfl
theorem valFrom_cons (acc : Nat) (c : UInt8) (r : List UInt8) : valFrom acc (c :: r) = valFrom (acc * 10 + (c.toNat - 48)) r := by unfold valFrom; rw [List.foldl_cons]; rw [digV]
theorem valFrom_append (a b : List UInt8) (acc : Nat) : valFrom acc (a ++ b) = valFrom (valFrom acc a) b := List.foldl_append ..

theorem valFrom_le : ∀ (l : List UInt8) (acc : Nat), acc ≤ valFrom acc l
  | [], acc => Nat.le_refl _
  | c :: l, acc => by
    have := valFrom_le l (acc * 10 + (c.toNat - 48))
    rw [valFrom_cons]; omega

theorem dig_toNat {u : Nat} (h : u < 10) : (UInt8.ofNat (48 + u)).toNat = 48 + u := by rw [UInt8.toNat_ofNat']; omega

theorem dec_digs (u : Nat) : ∀ c ∈ decDigits u, isDig c = true := by
  induction u using Nat.strongRecOn with
  | _ u ih =>
    intro c hc
    rw [decDigits] at hc
    split at hc
    · rename_i h
      obtain rfl := List.mem_singleton.1 hc
      simp only [isDig, dig_toNat h, decide_eq_true_eq]; omega
    · rename_i h
      rcases List.mem_append.1 hc with hc | hc
      · exact ih (u / 10) (by omega) c hc
      · obtain rfl := List.mem_singleton.1 hc
        simp only [isDig, dig_toNat (show u % 10 < 10 by omega), decide_eq_true_eq]; omega

theorem dec_val (u : Nat) : valFrom 0 (decDigits u) = u := by
  induction u using Nat.strongRecOn with
  | _ u ih =>
    rw [decDigits]
    split
    · rename_i h
      simp only [valFrom_cons, valFrom_nil, dig_toNat h]; omega
    · rename_i h
      rw [valFrom_append, ih (u / 10) (by omega)]
      simp only [valFrom_cons, valFrom_nil, dig_toNat (show u % 10 < 10 by omega)]; omega

theorem dec_inj {u v : Nat} (h : decDigits u = decDigits v) : u = v := by rw [← dec_val u, h, dec_val]
theorem dec_ne (u : Nat) : decDigits u ≠ [] := by
  rw [decDigits]; split <;> simp
theorem dec_pure (u : Nat) : (58 : UInt8) ∉ decDigits u := fun h => by
  have := dec_digs u _ h
  revert this; decide

/-- Only a number below ten is spelt with a zero ahead. -/
theorem dec_head (u : Nat) (r : List UInt8) (h : decDigits u = 48 :: r) : r = [] := by
  induction u using Nat.strongRecOn generalizing r with
  | _ u ih =>
    rw [decDigits] at h
    split at h
    · injection h with _ h; exact h.symm
    · rename_i hu
      cases hd : decDigits (u / 10) with
      | nil => exact absurd hd (dec_ne _)
      | cons c t =>
        rw [hd, List.cons_append] at h
        injection h with h1 h2
        subst h1
        have := ih (u / 10) (by omega) t hd
        subst this
        have h0 : u / 10 = 0 := by
          have := dec_val (u / 10)
          rw [hd] at this
          simpa [valFrom_cons, valFrom_nil] using this.symm
        omega

/-- A numeral as it is written: digits, and no zero ahead. -/
def canon (s : List UInt8) : Prop := s ≠ [] ∧ s.all isDig = true ∧ (s.length = 1 ∨ s.head? ≠ some 48)

theorem canon_dec (u : Nat) : canon (decDigits u) := by
  refine ⟨dec_ne u, List.all_eq_true.2 (dec_digs u), ?_⟩
  cases h : decDigits u with
  | nil => exact absurd h (dec_ne u)
  | cons c t =>
    by_cases hc : c = 48
    · subst hc
      have := dec_head u t h
      subst this
      exact .inl rfl
    · exact .inr (by simpa using hc)

theorem dig_back {c : UInt8} (h : isDig c = true) : UInt8.ofNat (48 + (c.toNat - 48)) = c := by
  simp only [isDig, decide_eq_true_eq] at h
  rw [show 48 + (c.toNat - 48) = c.toNat by omega]
  exact UInt8.ofNat_toNat

theorem pos_of_head : ∀ (s : List UInt8), s ≠ [] → s.all isDig = true → s.head? ≠ some 48 → 1 ≤ valFrom 0 s
  | [], h, _, _ => absurd rfl h
  | c :: r, _, hd, hh => by
    have h1 : isDig c = true := by simp at hd; exact hd.1
    have h2 : c ≠ 48 := by simpa using hh
    have h3 : c.toNat ≠ 48 := fun e => h2 (UInt8.toNat_inj.1 e)
    simp only [isDig, decide_eq_true_eq] at h1
    have := valFrom_le r (0 * 10 + (c.toNat - 48))
    rw [valFrom_cons]; omega

theorem dec_of_rev (n : Nat) : ∀ (s : List UInt8), s.length = n → s ≠ [] → s.all isDig = true → s.head? ≠ some 48 → decDigits (valFrom 0 s) = s := by
  induction n with
  | zero => intro s hl h; exact absurd (List.eq_nil_of_length_eq_zero hl) h
  | succ n ih =>
    intro s hl h0 hd hh
    obtain ⟨t, c, rfl⟩ : ∃ t c, s = t ++ [c] := ⟨s.dropLast, s.getLast h0, (List.dropLast_concat_getLast h0).symm⟩
    rw [List.all_append] at hd
    simp only [List.all_cons, List.all_nil, Bool.and_true, Bool.and_eq_true] at hd
    have hc := hd.2
    have hc' := hc
    simp only [isDig, decide_eq_true_eq] at hc'
    rw [valFrom_append]
    cases ht : t with
    | nil =>
      subst ht
      simp only [valFrom_cons, valFrom_nil, Nat.zero_mul, Nat.zero_add, List.nil_append]
      rw [decDigits_one (by omega), dig_back hc]
    | cons a r =>
      rw [← ht]
      have hne : t ≠ [] := by rw [ht]; simp
      have hht : t.head? ≠ some 48 := by rw [ht] at hh ⊢; simpa using hh
      have hl' : t.length = n := by simpa using hl
      have h1 := pos_of_head t hne hd.1 hht
      have h2 := ih t hl' hne hd.1 hht
      simp only [valFrom_cons, valFrom_nil]
      rw [decDigits, dif_neg (by omega), show (valFrom 0 t * 10 + (c.toNat - 48)) / 10 = valFrom 0 t by omega, h2, show (valFrom 0 t * 10 + (c.toNat - 48)) % 10 = c.toNat - 48 by omega, dig_back hc]

theorem dec_of {s : List UInt8} (h : canon s) : decDigits (valFrom 0 s) = s := by
  obtain ⟨h0, hd, hl⟩ := h
  rcases hl with hl | hh
  · match s, hl with
    | [c], _ =>
      have hc : isDig c = true := by simpa using hd
      have hc' := hc
      simp only [isDig, decide_eq_true_eq] at hc'
      simp only [valFrom_cons, valFrom_nil, Nat.zero_mul, Nat.zero_add]
      rw [decDigits_one (by omega), dig_back hc]
  · exact dec_of_rev _ s rfl h0 hd hh

theorem parse_digs : ∀ (l : List UInt8) (acc : Nat), l.all isDig = true → valFrom acc l < 18446744073709551616 → parseUint10 acc l = .ok (valFrom acc l)
  | [], _, _, _ => rfl
  | c :: r, acc, hd, hv => by
    simp only [List.all_cons, Bool.and_eq_true] at hd
    have hc := hd.1
    simp only [isDig, decide_eq_true_eq] at hc
    rw [valFrom_cons] at hv
    have := valFrom_le r (acc * 10 + (c.toNat - 48))
    simp only [parseUint10, if_pos hc]
    rw [if_neg (by omega), if_neg (by omega), parse_digs r _ hd.2 hv]
    rfl

theorem atoi_digs {s : List UInt8} (h0 : s ≠ []) (hd : s.all isDig = true) (hv : valFrom 0 s < 9223372036854775808) : atoiAll s = .ok (valFrom 0 s : Nat) := by
  cases s with
  | nil => exact absurd rfl h0
  | cons c r =>
    have hc : isDig c = true := by simp at hd; exact hd.1
    simp only [isDig, decide_eq_true_eq] at hc
    rw [atoiAll_plain c r (by omega) (by omega)]
    unfold parseMag
    rw [if_neg (by simp), parse_digs _ _ hd (by omega)]
    simp only [signless]
    rw [if_neg (by omega)]

/-- The place of the first of two bytes is one. -/
theorem first_inj {d : UInt8} : ∀ {a b a' b' : List UInt8}, d ∉ a → d ∉ a' → a ++ d :: b = a' ++ d :: b' → a = a' ∧ b = b'
  | [], b, [], b', _, _, h => by simpa using h
  | [], b, c :: a', b', _, h', h => by
    rw [List.nil_append, List.cons_append] at h
    injection h with h1 _
    exact absurd (by simp [h1]) h'
  | c :: a, b, [], b', h', _, h => by
    rw [List.nil_append, List.cons_append] at h
    injection h with h1 _
    exact absurd (by simp [h1]) h'
  | c :: a, b, c' :: a', b', h1, h2, h => by
    rw [List.cons_append, List.cons_append] at h
    injection h with e1 e2
    obtain ⟨e3, e4⟩ := first_inj (fun m => h1 (by simp [m])) (fun m => h2 (by simp [m])) e2
    exact ⟨by rw [e1, e3], e4⟩
end Go.Proofs.YtmpiaaangbjapaaDoor
