/- Plain facts on the words of a text: where they stand, what a gap does, what a quoted text is; no program is spoken of. Plain facts: words stand one behind the other; a gap at a word's beginning turns their places alone; no program is spoken of. Plain facts: a gap at a word's beginning; a text behind another one; a quoted text; no program is spoken of. Plain facts: a text behind another one that ends with a newline; a quoted text; no program is spoken of. -/
import Derived.Test.YtlmnabhhgplhnaaGreatDoorMlex
namespace Go.Proofs.YtlmnabhhgplhnaaGreatDoor

/-! ### Fuel does not matter -/
theorem allF_fuel : ∀ (f : Nat) (a : Nat) (l : List UInt8), l.length < f → ∀ f', l.length < f' → allF f a l = allF f' a l
  | 0, _, l, h, _, _ => absurd h (by omega)
  | f + 1, _, l, h, 0, h' => absurd h' (by omega)
  | f + 1, a, l, h, f' + 1, h' => by
    rw [allF_succ, allF_succ]
    split
    · rfl
    · cases hw : wordS (l.drop (skipN false l)) with
      | none => rfl
      | some x =>
        obtain ⟨k, t, n⟩ := x
        have hp := word_pos hw
        simp only [List.length_drop] at hp
        simp only
        rw [allF_fuel f _ ((l.drop (skipN false l)).drop n) (by simp only [List.length_drop]; omega) f' (by simp only [List.length_drop]; omega)]
/-- All words from a place on. -/
def allA (a : Nat) (l : List UInt8) : Except Nat (List WordT) := allF (l.length + 1) a l
theorem allA_S (l : List UInt8) : allS l = allA 0 l := rfl
theorem allA_eq (f a : Nat) (l : List UInt8) (h : l.length < f) : allF f a l = allA a l := allF_fuel f a l h _ (by omega)
theorem allA_cons (a : Nat) (l : List UInt8) : allA a l = if l.drop (skipN false l) = [] then .ok [(4, a + skipN false l, [])] else
      match wordS (l.drop (skipN false l)) with
      | none => .error (a + skipN false l)
      | some (k, t, n) => joinW [(k, a + skipN false l, t)] (allA (a + skipN false l + n) ((l.drop (skipN false l)).drop n)) := by
  unfold allA
  rw [allF_succ]
  split
  · rfl
  · cases hw : wordS (l.drop (skipN false l)) with
    | none => rfl
    | some x =>
      obtain ⟨k, t, n⟩ := x
      have hp := word_pos hw
      simp only [List.length_drop] at hp
      simp only
      rw [allA_eq _ _ _ (by simp only [List.length_drop]; omega)]
      unfold allA joinW
      cases allF (((l.drop (skipN false l)).drop n).length + 1) (a + skipN false l + n) ((l.drop (skipN false l)).drop n) <;> rfl
theorem allA_skip (a : Nat) (l : List UInt8) : allA a l = allA (a + skipN false l) (l.drop (skipN false l)) := by
  rw [allA_cons, allA_cons (a + skipN false l), skip_idem]
  simp
theorem allA_end {a : Nat} {l : List UInt8} (h : l.drop (skipN false l) = []) : allA a l = .ok [(4, a + skipN false l, [])] := by rw [allA_cons, if_pos h]
theorem allA_bad {a : Nat} {l : List UInt8} (h : l.drop (skipN false l) ≠ []) (hw : wordS (l.drop (skipN false l)) = none) : allA a l = .error (a + skipN false l) := by rw [allA_cons, if_neg h, hw]
theorem allA_word {a n : Nat} {l t : List UInt8} {k : Int} (hw : wordS (l.drop (skipN false l)) = some (k, t, n)) :
    allA a l = joinW [(k, a + skipN false l, t)] (allA (a + skipN false l + n) (l.drop (skipN false l + n))) := by
  rw [allA_cons, if_neg, hw]
  · simp only [List.drop_drop]
  intro e
  rw [e] at hw
  simp [wordS] at hw

/-! ### Induction along the words -/
theorem words_ind {P : Nat → List UInt8 → Prop}
    (hend : ∀ a l, l.drop (skipN false l) = [] → P a l)
    (hbad : ∀ a l, l.drop (skipN false l) ≠ [] → wordS (l.drop (skipN false l)) = none → P a l)
    (hword : ∀ a l k t n, wordS (l.drop (skipN false l)) = some (k, t, n) → P (a + skipN false l + n) (l.drop (skipN false l + n)) → P a l) : ∀ (m a : Nat) (l : List UInt8), l.length ≤ m → P a l
  | 0, a, l, h => hend a l (by rw [List.eq_nil_of_length_eq_zero (Nat.le_zero.1 h)]; simp [skip_nil])
  | m + 1, a, l, h => by
    by_cases he : l.drop (skipN false l) = []
    · exact hend a l he
    · cases hw : wordS (l.drop (skipN false l)) with
      | none => exact hbad a l he hw
      | some x =>
        obtain ⟨k, t, n⟩ := x
        have hp := word_pos hw
        rw [List.length_drop] at hp
        exact hword a l k t n hw (words_ind hend hbad hword m _ _ (by rw [List.length_drop]; omega))

theorem joinW_ok {ws : List WordT} {r : Except Nat (List WordT)} {x : List WordT} (h : joinW ws r = .ok x) : ∃ y, r = .ok y ∧ x = ws ++ y := by
  unfold joinW at h
  cases r with
  | error e => cases h
  | ok y => injection h with h; exact ⟨y, rfl, h.symm⟩
theorem joinW_err {ws : List WordT} {r : Except Nat (List WordT)} {p : Nat} (h : joinW ws r = .error p) : r = .error p := by
  unfold joinW at h
  cases r with
  | error e => injection h with h; rw [h]
  | ok y => cases h

theorem drop_nil_le {l : List UInt8} (h : l.drop (skipN false l) = []) : skipN false l = l.length := by
  have h1 := skip_le l false
  have h2 := List.drop_eq_nil_iff.1 h
  omega

/-- Where there is no word, there is a byte. -/
theorem allA_err (m a : Nat) (l : List UInt8) (hm : l.length ≤ m) : ∀ p, allA a l = .error p → a ≤ p ∧ p < a + l.length := by
  revert hm
  refine words_ind (P := fun a l => ∀ p, allA a l = .error p → a ≤ p ∧ p < a + l.length) ?_ ?_ ?_ m a l
  · intro a l h p hp
    rw [allA_end h] at hp
    cases hp
  · intro a l h hw p hp
    rw [allA_bad h hw] at hp
    injection hp with hp
    have h1 := skip_le l false
    have h2 : ¬ l.length ≤ skipN false l := fun e => h (List.drop_eq_nil_of_le e)
    omega
  · intro a l k t n hw ih p hp
    rw [allA_word hw] at hp
    have h1 := ih p (joinW_err hp)
    have h2 := word_pos hw
    rw [List.length_drop] at h1 h2
    omega

/-- Where a word ends, as far as its text tells. -/
def endW (x : WordT) : Nat := if x.1 = 1 ∨ x.1 = 3 then x.2.1 + x.2.2.length else x.2.1
/-- A word stands where it was said. -/
def GoodW (L : List UInt8) (a e : Nat) (x : WordT) : Prop :=
  e ≤ x.2.1 ∧ x.2.1 ≤ a + L.length ∧ (x.1 = 1 ∨ x.1 = 2 ∨ x.1 = 3 ∨ x.1 = 4) ∧ (x.1 = 1 ∨ x.1 = 3 → x.2.2 ≠ [] ∧ x.2.1 + x.2.2.length ≤ a + L.length ∧ (L.drop (x.2.1 - a)).take x.2.2.length = x.2.2)
theorem word_good {l : List UInt8} {k : Int} {t : List UInt8} {n : Nat} (h : wordS l = some (k, t, n)) :
    (k = 1 ∨ k = 2 ∨ k = 3) ∧ (k = 1 ∨ k = 3 → t ≠ [] ∧ t.length = n ∧ l.take n = t) := by
  cases l with
  | nil => simp [wordS] at h
  | cons c r =>
    rw [wordS_cons] at h
    split at h
    · obtain ⟨x, hx, h⟩ := Option.map_eq_some_iff.1 h
      injection h with h1 h2
      subst h1
      exact ⟨.inr (.inl rfl), fun e => by rcases e with e | e <;> exact absurd e (by decide)⟩
    · split at h
      · rename_i hn
        injection h with h; injection h with h1 h; injection h with h2 h3
        subst h1 h2 h3
        refine ⟨.inl rfl, fun _ => ⟨?_, rfl, ?_⟩⟩
        · rw [List.takeWhile_cons, if_pos hn]; simp
        · have e : ∀ x : List UInt8, x.take (x.takeWhile nameB).length = x.takeWhile nameB := fun x => by
            conv => lhs; rhs; rw [← List.takeWhile_append_dropWhile (p := nameB) (l := x)]
            rw [List.take_left]
          exact e _
      · split at h
        · injection h with h; injection h with h1 h; injection h with h2 h3
          subst h1 h2 h3
          exact ⟨.inr (.inr rfl), fun _ => ⟨by simp, rfl, by simp⟩⟩
        · cases h
end Go.Proofs.YtlmnabhhgplhnaaGreatDoor
namespace Go.Proofs.YtlmnabhhgplhnaaGreatDoor

/-! ### Words stand one behind the other -/
def PlacesOK (L : List UInt8) : Nat → Option Nat → List WordT → Prop
  | _, _, [] => True
  | e, p, x :: r => e ≤ x.2.1 ∧ (∀ q, p = some q → x.1 ≠ 4 → q < x.2.1) ∧ (x.1 = 1 ∨ x.1 = 3 → x.2.2 ≠ [] ∧ x.2.1 + x.2.2.length ≤ L.length ∧ (L.drop x.2.1).take x.2.2.length = x.2.2) ∧ PlacesOK L (endW x) (some x.2.1) r

theorem places_all (L : List UInt8) (m a : Nat) (l : List UInt8) (hm : l.length ≤ m) : l = L.drop a → a ≤ L.length → ∀ e p, e ≤ a → (∀ q, p = some q → q < a) → ∀ ws, allA a l = .ok ws →
    PlacesOK L e p ws ∧ ∃ ys, ws = ys ++ [(4, L.length, [])] := by
  revert hm
  refine words_ind (P := fun a l => l = L.drop a → a ≤ L.length → ∀ e p, e ≤ a → (∀ q, p = some q → q < a) → ∀ ws, allA a l = .ok ws → PlacesOK L e p ws ∧ ∃ ys, ws = ys ++ [(4, L.length, [])]) ?_ ?_ ?_ m a l
  · intro a l h hl ha e p he hp ws hw
    rw [allA_end h] at hw
    injection hw with hw
    subst hw
    have h1 := drop_nil_le h
    have h2 : l.length = L.length - a := by rw [hl, List.length_drop]
    have h3 : a + skipN false l = L.length := by omega
    rw [h3]
    exact ⟨⟨by simp only; omega, fun q _ h => absurd rfl h, fun h => by simp at h, trivial⟩, [], rfl⟩
  · intro a l h hw hl ha e p he hp ws hws
    rw [allA_bad h hw] at hws
    cases hws
  · intro a l k t n hw ih hl ha e p he hp ws hws
    rw [allA_word hw] at hws
    obtain ⟨y, hy, rfl⟩ := joinW_ok hws
    have hpos := word_pos hw
    rw [List.length_drop] at hpos
    have hlen : l.length = L.length - a := by rw [hl, List.length_drop]
    have hg := word_good hw
    have hd : l.drop (skipN false l + n) = L.drop (a + skipN false l + n) := by rw [hl, List.drop_drop, Nat.add_assoc]
    have hle : a + skipN false l + n ≤ L.length := by omega
    have key : ∀ e', e' ≤ a + skipN false l + n → _ := fun e' he' => ih hd hle e' (some (a + skipN false l)) he' (fun q hq => by injection hq with hq; omega) y hy
    have hend : endW (k, a + skipN false l, t) ≤ a + skipN false l + n := by
      unfold endW
      simp only
      split
      · rename_i h
        have := (hg.2 h).2.1
        omega
      · omega
    obtain ⟨h1, ys, h2⟩ := key _ hend
    refine ⟨⟨by simp only; omega, fun q hq _ => by have := hp q hq; simp only; omega, fun h => ?_, h1⟩, (k, a + skipN false l, t) :: ys, by rw [h2]; rfl⟩
    obtain ⟨g1, g2, g3⟩ := hg.2 h
    simp only
    refine ⟨g1, by omega, ?_⟩
    have e : L.drop (a + skipN false l) = l.drop (skipN false l) := by
      conv => rhs; arg 2; rw [hl]
      rw [List.drop_drop]
    rw [e, g2]
    exact g3
theorem places_S {L : List UInt8} {ws : List WordT} (h : allS L = .ok ws) : PlacesOK L 0 none ws ∧ ∃ ys, ws = ys ++ [(4, L.length, [])] :=
  places_all L L.length 0 L (Nat.le_refl _) (by simp) (Nat.zero_le _) 0 none (Nat.le_refl _) (fun q h => by cases h) ws h

/-! ### Places moved -/
def shiftW (d : Nat) (x : WordT) : WordT := (x.1, x.2.1 + d, x.2.2)
def shiftE (d : Nat) : Except Nat (List WordT) → Except Nat (List WordT)
  | .error p => .error (p + d)
  | .ok ws => .ok (ws.map (shiftW d))
theorem shiftE_join (d : Nat) (ws : List WordT) (r : Except Nat (List WordT)) : shiftE d (joinW ws r) = joinW (ws.map (shiftW d)) (shiftE d r) := by
  cases r <;> simp [shiftE, joinW]
theorem allA_shift (d m a : Nat) (l : List UInt8) (hm : l.length ≤ m) : allA (a + d) l = shiftE d (allA a l) := by
  revert hm
  refine words_ind (P := fun a l => allA (a + d) l = shiftE d (allA a l)) ?_ ?_ ?_ m a l
  · intro a l h
    rw [allA_end h, allA_end h]
    simp only [shiftE, shiftW, List.map_cons, List.map_nil]
    rw [Nat.add_right_comm]
  · intro a l h hw
    rw [allA_bad h hw, allA_bad h hw]
    simp only [shiftE]
    rw [Nat.add_right_comm]
  · intro a l k t n hw ih
    rw [allA_word hw, allA_word hw, shiftE_join, ← ih]
    simp only [shiftW, List.map_cons, List.map_nil]
    rw [show a + d + skipN false l = a + skipN false l + d by omega, show a + skipN false l + d + n = a + skipN false l + n + d by omega]

/-! ### A text behind another one -/
/-- The words of a text, without their end, and what comes behind. -/
theorem skip_append : ∀ (b : Bool) (l r : List UInt8), skipN b l < l.length → skipN b (l ++ r) = skipN b l
  | b, [], r, h => by simp at h
  | b, c :: l, r, h => by
    have hf : skipN false (c :: l) < (c :: l).length → skipN false (c :: l ++ r) = skipN false (c :: l) := by
      intro h
      by_cases hb : blankB c = true
      · rw [List.cons_append, skip_blank _ hb, skip_blank _ hb]
        rw [skip_blank _ hb] at h
        rw [skip_append false l r (by simp only [List.length_cons] at h; omega)]
      · by_cases h35 : c = 35
        · rw [List.cons_append, skip_rem _ h35, skip_rem _ h35]
          rw [skip_rem _ h35] at h
          rw [skip_append true l r (by simp only [List.length_cons] at h; omega)]
        · have hb' : blankB c = false := by simpa using hb
          rw [List.cons_append, skip_stop _ hb' h35, skip_stop _ hb' h35]
    cases b with
    | false => exact hf h
    | true =>
      by_cases h10 : c = 10
      · rw [List.cons_append, skip_out _ h10, skip_out _ h10, ← List.cons_append]
        rw [skip_out _ h10] at h
        exact hf h
      · rw [List.cons_append, skip_in _ h10, skip_in _ h10]
        rw [skip_in _ h10] at h
        rw [skip_append true l r (by simp only [List.length_cons] at h; omega)]
/-- Does what was skipped end within a remark? -/
def inRem : Bool → List UInt8 → Bool
  | b, [] => b
  | false, c :: r => if blankB c then inRem false r else inRem true r
  | true, c :: r => if c = 10 then inRem false r else inRem true r
theorem skip_through : ∀ (b : Bool) (l r : List UInt8), skipN b l = l.length → skipN b (l ++ r) = l.length + skipN (inRem b l) r
  | b, [], r, _ => by cases b <;> simp [inRem]
  | false, c :: l, r, h => by
    by_cases hb : blankB c = true
    · rw [skip_blank _ hb] at h
      rw [List.cons_append, skip_blank _ hb, skip_through false l r (by simpa using h), List.length_cons]
      rw [show inRem false (c :: l) = inRem false l by rw [inRem, if_pos hb]]
      omega
    · have hb' : blankB c = false := by simpa using hb
      by_cases h35 : c = 35
      · rw [skip_rem _ h35] at h
        rw [List.cons_append, skip_rem _ h35, skip_through true l r (by simpa using h), List.length_cons]
        rw [show inRem false (c :: l) = inRem true l by rw [inRem, if_neg hb]]
        omega
      · rw [skip_stop _ hb' h35] at h; simp at h
  | true, c :: l, r, h => by
    by_cases h10 : c = 10
    · subst h10
      rw [skip_out _ rfl, skip_blank _ (by decide)] at h
      rw [List.cons_append, skip_out _ rfl, skip_blank _ (by decide), skip_through false l r (by simpa using h), List.length_cons]
      rw [show inRem true (10 :: l) = inRem false l by rw [inRem, if_pos rfl]]
      omega
    · rw [skip_in _ h10] at h
      rw [List.cons_append, skip_in _ h10, skip_through true l r (by simpa using h), List.length_cons]
      rw [show inRem true (c :: l) = inRem true l by rw [inRem, if_neg h10]]
      omega
theorem skip_self (l : List UInt8) : ∀ b, skipN b (l.take (skipN b l)) = (l.take (skipN b l)).length := by
  induction l with
  | nil => intro b; simp [skip_nil]
  | cons c r ih =>
    have hf : skipN false ((c :: r).take (skipN false (c :: r))) = ((c :: r).take (skipN false (c :: r))).length := by
      by_cases hb : blankB c = true
      · rw [skip_blank _ hb, List.take_succ_cons, skip_blank _ hb, ih false, List.length_cons]
      · by_cases h35 : c = 35
        · rw [skip_rem _ h35, List.take_succ_cons, skip_rem _ h35, ih true, List.length_cons]
        · rw [skip_stop _ (by simpa using hb) h35]; simp [skip_nil]
    intro b
    cases b with
    | false => exact hf
    | true =>
      by_cases h10 : c = 10
      · subst h10
        rw [skip_out r rfl, skip_blank r (by decide), List.take_succ_cons, skip_out _ rfl, skip_blank _ (by decide), ih false, List.length_cons]
      · rw [skip_in _ h10, List.take_succ_cons, skip_in _ h10, ih true, List.length_cons]

/-- An element goes by the bytes that it takes. -/
theorem elem_append (l r : List UInt8) (x : UInt8 × Nat) (h : elemS l = some x) : elemS (l ++ r) = some x := by
  match l, h with
  | [], h => simp [elemS] at h
  | [a], h =>
    have e : elemS [a] = if plainB a then some (a, 1) else none := by
      simp only [elemS]
      split
      · rfl
      · split <;> rfl
    rw [e] at h
    split at h
    · rename_i hp
      simp only [List.cons_append, List.nil_append, elemS, if_pos hp]
      exact h
    · cases h
  | [a, d], h =>
    simp only [List.cons_append, List.nil_append, elemS] at h ⊢
    by_cases hp : plainB a = true
    · rw [if_pos hp] at h ⊢; exact h
    · rw [if_neg hp] at h ⊢
      by_cases h92 : a = 92
      · rw [if_pos h92] at h ⊢
        by_cases h1 : d = 110
        · rw [if_pos h1] at h ⊢; exact h
        · rw [if_neg h1] at h ⊢
          by_cases h2 : d = 116
          · rw [if_pos h2] at h ⊢; exact h
          · rw [if_neg h2] at h ⊢
            by_cases h3 : d = 92 ∨ d = 34
            · rw [if_pos h3] at h ⊢; exact h
            · rw [if_neg h3] at h ⊢
              split at h <;> cases h
      · rw [if_neg h92] at h; cases h
  | [a, d, y], h =>
    simp only [List.cons_append, List.nil_append, elemS] at h ⊢
    by_cases hp : plainB a = true
    · rw [if_pos hp] at h ⊢; exact h
    · rw [if_neg hp] at h ⊢
      by_cases h92 : a = 92
      · rw [if_pos h92] at h ⊢
        by_cases h1 : d = 110
        · rw [if_pos h1] at h ⊢; exact h
        · rw [if_neg h1] at h ⊢
          by_cases h2 : d = 116
          · rw [if_pos h2] at h ⊢; exact h
          · rw [if_neg h2] at h ⊢
            by_cases h3 : d = 92 ∨ d = 34
            · rw [if_pos h3] at h ⊢; exact h
            · rw [if_neg h3] at h ⊢
              split at h <;> cases h
      · rw [if_neg h92] at h; cases h
  | a :: d :: y :: z :: t, h =>
    simp only [List.cons_append, elemS] at h ⊢
    exact h
theorem strF_append : ∀ (f : Nat) (l r : List UInt8) (x : List UInt8 × Nat), strF f l = some x → strF f (l ++ r) = some x
  | 0, _, _, _, h => by simp [strF] at h
  | f + 1, [], _, _, h => by simp [strF] at h
  | f + 1, c :: l, r, x, h => by
    rw [List.cons_append, strF_cons]
    rw [strF_cons] at h
    by_cases h34 : c = 34
    · rw [if_pos h34] at h ⊢; exact h
    · rw [if_neg h34] at h ⊢
      cases he : elemS (c :: l) with
      | none => rw [he] at h; cases h
      | some y =>
        obtain ⟨d, n⟩ := y
        have hp := elem_pos he
        have ha := elem_append _ r _ he
        rw [List.cons_append] at ha
        rw [ha]
        rw [he] at h
        simp only [Option.map_eq_some_iff] at h ⊢
        obtain ⟨z, hz, rfl⟩ := h
        refine ⟨z, ?_, rfl⟩
        rw [← List.cons_append, List.drop_append_of_le_length hp.2]
        exact strF_append f _ r z hz
theorem strF_more (f g : Nat) (l : List UInt8) (x : List UInt8 × Nat) (h : strF f l = some x) (hg : f ≤ g) : strF g l = some x := by
  induction f generalizing g l x with
  | zero => simp [strF] at h
  | succ f ih =>
    obtain ⟨g, rfl⟩ : ∃ k, g = k + 1 := ⟨g - 1, by omega⟩
    cases l with
    | nil => simp [strF] at h
    | cons c r =>
      rw [strF_cons] at h ⊢
      by_cases h34 : c = 34
      · rw [if_pos h34] at h ⊢; exact h
      · rw [if_neg h34] at h ⊢
        cases he : elemS (c :: r) with
        | none => rw [he] at h; cases h
        | some y =>
          obtain ⟨d, n⟩ := y
          rw [he] at h
          simp only [Option.map_eq_some_iff] at h ⊢
          obtain ⟨z, hz, rfl⟩ := h
          exact ⟨z, ih g _ z hz (by omega), rfl⟩
theorem strS_append (l r : List UInt8) (x : List UInt8 × Nat) (h : strS l = some x) : strS (l ++ r) = some x := by
  unfold strS at h ⊢
  exact strF_more _ _ _ _ (strF_append _ l r x h) (by rw [List.length_append]; omega)
theorem takeWhile_stop {p : UInt8 → Bool} (l r : List UInt8) (h : r = [] ∨ ∃ c t, r = c :: t ∧ p c = false) : (l ++ r).takeWhile p = l.takeWhile p := by
  induction l with
  | nil =>
    rcases h with rfl | ⟨c, t, rfl, hc⟩
    · rfl
    · simp [hc]
  | cons c l ih =>
    rw [List.cons_append, List.takeWhile_cons, List.takeWhile_cons, ih]
theorem takeWhile_prefix {p : UInt8 → Bool} : ∀ (l r : List UInt8), (l.takeWhile p).length < l.length → (l ++ r).takeWhile p = l.takeWhile p
  | [], r, h => by simp at h
  | c :: l, r, h => by
    rw [List.cons_append, List.takeWhile_cons, List.takeWhile_cons]
    by_cases hc : p c = true
    · rw [if_pos hc, if_pos hc]
      rw [List.takeWhile_cons, if_pos hc] at h
      rw [takeWhile_prefix l r (by simpa using h)]
    · rw [if_neg hc, if_neg hc]
/-- A word goes by the bytes that it takes, and a name by the next one's being none of a name's. -/
theorem word_append {l r : List UInt8} {k : Int} {t : List UInt8} {n : Nat} (h : wordS l = some (k, t, n)) (hr : k ≠ 1 ∨ n < l.length ∨ r = [] ∨ ∃ c u, r = c :: u ∧ nameB c = false) : wordS (l ++ r) = some (k, t, n) := by
  cases l with
  | nil => simp [wordS] at h
  | cons c l =>
    rw [List.cons_append, wordS_cons]
    rw [wordS_cons] at h
    by_cases h34 : c = 34
    · rw [if_pos h34] at h ⊢
      obtain ⟨x, hx, hy⟩ := Option.map_eq_some_iff.1 h
      rw [strS_append _ r _ hx, Option.map_some, hy]
    · rw [if_neg h34] at h ⊢
      by_cases hn : nameB c = true
      · rw [if_pos hn] at h ⊢
        have hw : (c :: (l ++ r)).takeWhile nameB = (c :: l).takeWhile nameB := by
          rw [← List.cons_append]
          injection h with h; injection h with h0 h; injection h with h1 h2
          rcases hr with hr | hr | hr
          · exact absurd h0.symm hr
          · exact takeWhile_prefix _ _ (by rw [h2]; exact hr)
          · exact takeWhile_stop _ _ hr
        rw [hw]; exact h
      · rw [if_neg hn] at h ⊢; exact h
theorem elem_take {l : List UInt8} {c : UInt8} {n : Nat} (h : elemS l = some (c, n)) : elemS (l.take n) = some (c, n) := by
  have hp := elem_pos h
  match l, h with
  | [], h => simp [elemS] at h
  | [a], h =>
    obtain rfl : n = 1 := by simp at hp; omega
    exact h
  | [a, d], h =>
    have hn : n = 1 ∨ n = 2 := by simp at hp; omega
    rcases hn with rfl | rfl
    · simp only [elemS] at h
      by_cases hpl : plainB a = true
      · rw [if_pos hpl] at h; simp [elemS, hpl] at h ⊢; exact h
      · rw [if_neg hpl] at h; split at h
        · split at h
          · cases h
          · split at h
            · cases h
            · split at h
              · cases h
              · split at h <;> cases h
        · cases h
    · exact h
  | [a, d, x], h =>
    simp only [elemS] at h
    by_cases hpl : plainB a = true
    · rw [if_pos hpl] at h
      injection h with h; injection h with h1 h2; subst h1 h2
      simp [elemS, hpl]
    · rw [if_neg hpl] at h
      by_cases h92 : a = 92
      · rw [if_pos h92] at h
        have h2 : n = 2 := by
          split at h
          · injection h with h; injection h with _ h; exact h.symm
          · split at h
            · injection h with h; injection h with _ h; exact h.symm
            · split at h
              · injection h with h; injection h with _ h; exact h.symm
              · split at h <;> cases h
        subst h2
        simp only [List.take_succ_cons, List.take_zero, elemS]
        rw [if_neg hpl, if_pos h92]
        split at h
        · rename_i e; rw [if_pos e]; exact h
        · rename_i e; rw [if_neg e]
          split at h
          · rename_i e; rw [if_pos e]; exact h
          · rename_i e; rw [if_neg e]
            split at h
            · rename_i e; rw [if_pos e]; exact h
            · split at h <;> cases h
      · rw [if_neg h92] at h; cases h
  | a :: d :: x :: y :: t, h =>
    simp only [elemS] at h
    by_cases hpl : plainB a = true
    · rw [if_pos hpl] at h
      injection h with h; injection h with h1 h2; subst h1 h2
      simp [elemS, hpl]
    · rw [if_neg hpl] at h
      by_cases h92 : a = 92
      · rw [if_pos h92] at h
        by_cases e1 : d = 110
        · rw [if_pos e1] at h
          injection h with h; injection h with h1 h2; subst h1 h2
          simp only [List.take_succ_cons, List.take_zero, elemS]
          rw [if_neg hpl, if_pos h92, if_pos e1]
        · rw [if_neg e1] at h
          by_cases e2 : d = 116
          · rw [if_pos e2] at h
            injection h with h; injection h with h1 h2; subst h1 h2
            simp only [List.take_succ_cons, List.take_zero, elemS]
            rw [if_neg hpl, if_pos h92, if_neg e1, if_pos e2]
          · rw [if_neg e2] at h
            by_cases e3 : d = 92 ∨ d = 34
            · rw [if_pos e3] at h
              injection h with h; injection h with h1 h2; subst h1 h2
              simp only [List.take_succ_cons, List.take_zero, elemS]
              rw [if_neg hpl, if_pos h92, if_neg e1, if_neg e2, if_pos e3]
            · rw [if_neg e3] at h
              by_cases e4 : d = 120
              · rw [if_pos e4] at h
                have h4 : n = 4 := by
                  split at h
                  · injection h with h; injection h with _ h; exact h.symm
                  · cases h
                subst h4
                simp only [List.take_succ_cons, List.take_zero, elemS]
                rw [if_neg hpl, if_pos h92, if_neg e1, if_neg e2, if_neg e3, if_pos e4]
                exact h
              · rw [if_neg e4] at h; cases h
      · rw [if_neg h92] at h; cases h
theorem strF_take : ∀ (f : Nat) (l : List UInt8) (x : List UInt8 × Nat), strF f l = some x → strF f (l.take x.2) = some x
  | 0, _, _, h => by simp [strF] at h
  | f + 1, [], _, h => by simp [strF] at h
  | f + 1, c :: l, x, h => by
    rw [strF_cons] at h
    by_cases h34 : c = 34
    · rw [if_pos h34] at h
      injection h with h; subst h
      simp only [List.take_succ_cons, List.take_zero]
      rw [strF_cons, if_pos h34]
    · rw [if_neg h34] at h
      cases he : elemS (c :: l) with
      | none => rw [he] at h; cases h
      | some y =>
        obtain ⟨d, n⟩ := y
        have hp := elem_pos he
        have ha := elem_take he
        rw [he] at h
        simp only [Option.map_eq_some_iff] at h
        obtain ⟨z, hz, rfl⟩ := h
        obtain ⟨m, rfl⟩ : ∃ m, n = m + 1 := ⟨n - 1, by omega⟩
        simp only
        rw [show m + 1 + z.2 = (m + z.2) + 1 by omega, List.take_succ_cons, strF_cons, if_neg h34]
        have ha2 : elemS (c :: l.take (m + z.2)) = some (d, m + 1) := by
          have := elem_append _ (((c :: l).drop (m + 1)).take z.2) _ ha
          rw [← List.take_add] at this
          rw [show m + 1 + z.2 = (m + z.2) + 1 by omega, List.take_succ_cons] at this
          exact this
        rw [ha2]
        simp only [Option.map_eq_some_iff]
        refine ⟨z, ?_, by rw [show m + 1 + z.2 = m + z.2 + 1 by omega]⟩
        have e : (c :: l.take (m + z.2)).drop (m + 1) = ((c :: l).drop (m + 1)).take z.2 := by
          simp only [List.drop_succ_cons]
          rw [List.drop_take]
          congr 1
          omega
        rw [e]
        exact strF_take f _ z hz
theorem takeWhile_twice {p : UInt8 → Bool} : ∀ l : List UInt8, (l.takeWhile p).takeWhile p = l.takeWhile p
  | [] => rfl
  | c :: l => by
    rw [List.takeWhile_cons]
    by_cases hc : p c = true
    · rw [if_pos hc, List.takeWhile_cons, if_pos hc, takeWhile_twice l]
    · rw [if_neg hc]; rfl
theorem word_take {l : List UInt8} {k : Int} {t : List UInt8} {n : Nat} (h : wordS l = some (k, t, n)) : wordS (l.take n) = some (k, t, n) := by
  have hp := word_pos h
  cases l with
  | nil => simp [wordS] at h
  | cons c l =>
    obtain ⟨m, rfl⟩ : ∃ m, n = m + 1 := ⟨n - 1, by omega⟩
    rw [List.take_succ_cons, wordS_cons]
    have h0 := h
    rw [wordS_cons] at h
    by_cases h34 : c = 34
    · rw [if_pos h34] at h ⊢
      obtain ⟨x, hx, hy⟩ := Option.map_eq_some_iff.1 h
      injection hy with hy1 hy; injection hy with hy2 hy3
      have hm : m = x.2 := by omega
      have := strF_take _ _ _ (show strF (l.length + 1) l = some x from hx)
      unfold strS
      rw [hm, strF_more (l.take x.2).length.succ _ _ x ?_ (Nat.le_refl _), Option.map_some]
      · rw [hy1, hy2, ← hm]
      · by_cases hl : (l.take x.2).length < l.length + 1
        · rw [strF_fuel _ _ (Nat.lt_succ_self _) (l.length + 1) hl]; exact this
        · rw [List.length_take] at hl; omega
    · rw [if_neg h34] at h ⊢
      by_cases hn : nameB c = true
      · rw [if_pos hn] at h ⊢
        have hw : (c :: l.take m).takeWhile nameB = (c :: l).takeWhile nameB := by
          have hg := word_good h0
          injection h with h; injection h with h1 h; injection h with h2 h3
          have := (hg.2 (.inl h1.symm)).2.2
          rw [List.take_succ_cons] at this
          rw [this, ← h2]
          exact takeWhile_twice _
        rw [hw]; exact h
      · rw [if_neg hn] at h ⊢; exact h
/-- Behind a name no name's byte comes. -/
theorem name_stop {l : List UInt8} {t : List UInt8} {n : Nat} (h : wordS l = some (1, t, n)) : l.drop n = [] ∨ ∃ c u, l.drop n = c :: u ∧ nameB c = false := by
  cases l with
  | nil => simp [wordS] at h
  | cons c l =>
    rw [wordS_cons] at h
    split at h
    · obtain ⟨x, hx, hy⟩ := Option.map_eq_some_iff.1 h
      injection hy with hy1 _
      exact absurd hy1 (by decide)
    · split at h
      · injection h with h; injection h with h1 h; injection h with h2 h3
        have e : (c :: l).drop n = (c :: l).dropWhile nameB := by
          conv => lhs; rw [← List.takeWhile_append_dropWhile (p := nameB) (l := c :: l)]
          rw [← h3, List.drop_left]
        rw [e]
        cases hd : (c :: l).dropWhile nameB with
        | nil => exact .inl rfl
        | cons d u =>
          refine .inr ⟨d, u, rfl, ?_⟩
          have := List.head?_dropWhile_not nameB (c :: l)
          rw [hd] at this
          simpa using this
      · split at h
        · injection h with h; injection h with h1 _
          exact absurd h1 (by decide)
        · cases h
end Go.Proofs.YtlmnabhhgplhnaaGreatDoor
namespace Go.Proofs.YtlmnabhhgplhnaaGreatDoor

theorem skip_zero {b : Bool} {c : UInt8} {r : List UInt8} (h : skipN b (c :: r) = 0) (r' : List UInt8) : skipN b (c :: r') = 0 := by
  have hf : skipN false (c :: r) = 0 → skipN false (c :: r') = 0 := by
    intro h
    by_cases hb : blankB c = true
    · rw [skip_blank _ hb] at h; omega
    · by_cases h35 : c = 35
      · rw [skip_rem _ h35] at h; omega
      · exact skip_stop _ (by simpa using hb) h35
  cases b with
  | false => exact hf h
  | true =>
    by_cases h10 : c = 10
    · rw [skip_out _ h10] at h ⊢; exact hf h
    · rw [skip_in _ h10] at h; omega
/-- The blanks ahead of a word, then other bytes of it, and whatever else. -/
theorem skip_same {l : List UInt8} {n : Nat} (h1 : 0 < n) (h2 : skipN false l + n ≤ l.length) (r : List UInt8) : skipN false (l.take (skipN false l + n) ++ r) = skipN false l := by
  obtain ⟨A, hA⟩ : ∃ A, l.take (skipN false l) = A := ⟨_, rfl⟩
  have hs : skipN false A = A.length := by rw [← hA]; exact skip_self l false
  have hl : A.length = skipN false l := by rw [← hA, List.length_take]; omega
  obtain ⟨c, D, hD⟩ : ∃ c D, l.drop (skipN false l) = c :: D := by
    cases h : l.drop (skipN false l) with
    | nil => have := congrArg List.length h; rw [List.length_drop] at this; simp at this; omega
    | cons c D => exact ⟨c, D, rfl⟩
  have h3 : skipN false l = A.length + skipN (inRem false A) (c :: D) := by
    conv => lhs; rw [← List.take_append_drop (skipN false l) l, hA, hD]
    exact skip_through false A _ hs
  have h4 : skipN (inRem false A) (c :: D) = 0 := by omega
  obtain ⟨m, rfl⟩ : ∃ m, n = m + 1 := ⟨n - 1, by omega⟩
  rw [List.take_add, hA, hD, List.take_succ_cons, List.append_assoc, skip_through false A _ hs, List.cons_append, skip_zero h4, hl, Nat.add_zero]

/-- A gap: blanks and remarks, whatever stands ahead. -/
structure Gap (g : List UInt8) : Prop where
  all : ∀ b, skipN b g = g.length
  out : ∀ b, inRem b g = false
  first : ∃ c u, g = c :: u ∧ nameB c = false
def moveW (p d : Nat) (x : WordT) : WordT := if p ≤ x.2.1 then shiftW d x else x
theorem allA_ge (m a : Nat) (l : List UInt8) (hm : l.length ≤ m) : ∀ ws, allA a l = .ok ws → ∀ x ∈ ws, a ≤ x.2.1 := by
  revert hm
  refine words_ind (P := fun a l => ∀ ws, allA a l = .ok ws → ∀ x ∈ ws, a ≤ x.2.1) ?_ ?_ ?_ m a l
  · intro a l h ws hw x hx
    rw [allA_end h] at hw
    injection hw with hw
    subst hw
    simp only [List.mem_cons, List.not_mem_nil, or_false] at hx
    subst hx
    simp
  · intro a l h hn ws hw
    rw [allA_bad h hn] at hw
    cases hw
  · intro a l k t n hw ih ws hws x hx
    rw [allA_word hw] at hws
    obtain ⟨y, hy, rfl⟩ := joinW_ok hws
    rcases List.mem_append.1 hx with hx | hx
    · simp only [List.mem_cons, List.not_mem_nil, or_false] at hx
      subst hx
      simp
    · have := ih y hy x hx
      omega
theorem gap_all {g : List UInt8} (hg : Gap g) (p m a : Nat) (l : List UInt8) (hm : l.length ≤ m) : ∀ ws, allA a l = .ok ws → (∃ x ∈ ws, x.2.1 = p) → allA a (l.take (p - a) ++ g ++ l.drop (p - a)) = .ok (ws.map (moveW p g.length)) := by
  revert hm
  refine words_ind (P := fun a l => ∀ ws, allA a l = .ok ws → (∃ x ∈ ws, x.2.1 = p) → allA a (l.take (p - a) ++ g ++ l.drop (p - a)) = .ok (ws.map (moveW p g.length))) ?_ ?_ ?_ m a l
  · intro a l h ws hw hx
    rw [allA_end h] at hw
    injection hw with hw
    subst hw
    obtain ⟨x, hx, he⟩ := hx
    simp only [List.mem_cons, List.not_mem_nil, or_false] at hx
    subst hx
    simp only at he
    have h1 := drop_nil_le h
    rw [show p - a = l.length by omega, List.take_length, List.drop_length, List.append_nil]
    have h2 : skipN false (l ++ g) = l.length + g.length := by rw [skip_through false l g h1, hg.all]
    have h3 : (l ++ g).drop (skipN false (l ++ g)) = [] := List.drop_eq_nil_of_le (by rw [h2, List.length_append]; omega)
    rw [allA_end h3, h2]
    simp only [List.map_cons, List.map_nil, moveW, shiftW]
    rw [if_pos (by omega), show a + (l.length + g.length) = a + skipN false l + g.length by omega]
  · intro a l h hn ws hw
    rw [allA_bad h hn] at hw
    cases hw
  · intro a l k t n hw ih ws hws hx
    have hall := hws
    rw [allA_word hw] at hws
    obtain ⟨y, hy, rfl⟩ := joinW_ok hws
    have hpos := word_pos hw
    rw [List.length_drop] at hpos
    have hyg := allA_ge _ _ _ (Nat.le_refl _) y hy
    by_cases hp : p = a + skipN false l
    · -- at the first word
      have hj : p - a = skipN false l := by omega
      rw [hj]
      obtain ⟨A, hA⟩ : ∃ A, l.take (skipN false l) = A := ⟨_, rfl⟩
      have hs : skipN false A = A.length := by rw [← hA]; exact skip_self l false
      have hl : A.length = skipN false l := by rw [← hA, List.length_take]; omega
      obtain ⟨D, hD⟩ : ∃ D, l.drop (skipN false l) = D := ⟨_, rfl⟩
      have h0 : skipN false D = 0 := by rw [← hD]; exact skip_idem l false
      rw [hA, hD, List.append_assoc]
      have h2 : skipN false (A ++ (g ++ D)) = A.length + g.length := by rw [skip_through false A _ hs, skip_through _ g _ (hg.all _), hg.out, h0, Nat.add_zero]
      rw [allA_skip, h2, ← List.append_assoc, List.drop_append_of_le_length (by rw [List.length_append]; omega), List.drop_eq_nil_of_le (by rw [List.length_append]; omega), List.nil_append]
      rw [hl, ← Nat.add_assoc, allA_shift g.length D.length _ D (Nat.le_refl _), ← hD, ← allA_skip, hall]
      simp only [shiftE]
      congr 1
      refine List.map_congr_left fun x hx => ?_
      unfold moveW
      rw [if_pos]
      rcases List.mem_append.1 hx with hx | hx
      · simp only [List.mem_cons, List.not_mem_nil, or_false] at hx
        subst hx
        simp only
        omega
      · have := hyg x hx
        omega
    · have hx' : ∃ x ∈ y, x.2.1 = p := by
        obtain ⟨x, hx, he⟩ := hx
        rcases List.mem_append.1 hx with hx | hx
        · simp only [List.mem_cons, List.not_mem_nil, or_false] at hx
          subst hx
          exact absurd he.symm hp
        · exact ⟨x, hx, he⟩
      have hih := ih y hy hx'
      have hge : a + skipN false l + n ≤ p := by
        obtain ⟨x, hx, he⟩ := hx'
        have := hyg x hx
        omega
      obtain ⟨l2, hl2⟩ : ∃ l2, l.drop (skipN false l + n) = l2 := ⟨_, rfl⟩
      rw [hl2] at hih
      have hj : p - a = (skipN false l + n) + (p - (a + skipN false l + n)) := by omega
      have e1 : l.take (p - a) = l.take (skipN false l + n) ++ l2.take (p - (a + skipN false l + n)) := by rw [hj, List.take_add, hl2]
      have e2 : l.drop (p - a) = l2.drop (p - (a + skipN false l + n)) := by rw [hj, ← List.drop_drop, hl2]
      obtain ⟨R, hR⟩ : ∃ R, l2.take (p - (a + skipN false l + n)) ++ g ++ l2.drop (p - (a + skipN false l + n)) = R := ⟨_, rfl⟩
      have e3 : l.take (p - a) ++ g ++ l.drop (p - a) = l.take (skipN false l + n) ++ R := by
        rw [e1, e2, ← hR]; simp only [List.append_assoc]
      rw [e3]
      rw [hR] at hih
      have hsk := skip_same (l := l) (n := n) (by omega) (by omega) R
      have hlen : (l.take (skipN false l + n)).length = skipN false l + n := by rw [List.length_take]; omega
      have hd : (l.take (skipN false l + n) ++ R).drop (skipN false l) = (l.drop (skipN false l)).take n ++ R := by
        rw [List.drop_append_of_le_length (by omega), List.drop_take, Nat.add_sub_cancel_left]
      have hw2 : wordS ((l.take (skipN false l + n) ++ R).drop (skipN false (l.take (skipN false l + n) ++ R))) = some (k, t, n) := by
        rw [hsk, hd]
        refine word_append (word_take hw) ?_
        by_cases hk : k = 1
        · subst hk
          refine .inr (.inr (.inr ?_))
          rw [← hR]
          cases hq : l2.take (p - (a + skipN false l + n)) with
          | nil =>
            obtain ⟨c, u, hc, hn⟩ := hg.first
            exact ⟨c, u ++ _, by rw [hc]; rfl, hn⟩
          | cons c u =>
            refine ⟨c, _, rfl, ?_⟩
            rcases name_stop hw with h | ⟨d, v, h, hn⟩
            · rw [List.drop_drop, hl2] at h
              rw [h] at hq; simp at hq
            · rw [List.drop_drop, hl2] at h
              rw [h] at hq
              have : c = d := by
                cases hz : p - (a + skipN false l + n) with
                | zero => rw [hz] at hq; simp at hq
                | succ z => rw [hz] at hq; simp at hq; exact hq.1.symm
              rw [this]; exact hn
        · exact .inl hk
      rw [allA_word hw2, hsk, List.drop_append_of_le_length (by omega), List.drop_eq_nil_of_le (by omega), List.nil_append, hih]
      simp only [joinW, List.map_append, List.map_cons, List.map_nil]
      congr 2
      unfold moveW
      rw [if_neg (by simp only; omega)]
end Go.Proofs.YtlmnabhhgplhnaaGreatDoor
namespace Go.Proofs.YtlmnabhhgplhnaaGreatDoor

theorem inRem_last (l : List UInt8) : ∀ b, inRem b (l ++ [10]) = false := by
  induction l with
  | nil => intro b; cases b <;> simp [inRem, blankB]
  | cons c r ih =>
    intro b
    cases b with
    | false =>
      rw [List.cons_append, inRem]
      split <;> exact ih _
    | true =>
      rw [List.cons_append, inRem]
      split <;> exact ih _
/-- It ends with a newline, or is nothing. -/
def EndsN (l : List UInt8) : Prop := l = [] ∨ ∃ r, l = r ++ [10]
theorem EndsN.drop {l : List UInt8} (h : EndsN l) (n : Nat) : EndsN (l.drop n) := by
  rcases h with rfl | ⟨r, rfl⟩
  · exact .inl (by simp)
  · by_cases hn : n ≤ r.length
    · exact .inr ⟨r.drop n, by rw [List.drop_append_of_le_length hn]⟩
    · exact .inl (List.drop_eq_nil_of_le (by simp; omega))
theorem EndsN.rem {l : List UInt8} (h : EndsN l) : inRem false l = false := by
  rcases h with rfl | ⟨r, rfl⟩
  · rfl
  · exact inRem_last r false
theorem takeWhile_all {p : UInt8 → Bool} : ∀ l : List UInt8, ∀ x ∈ l.takeWhile p, p x = true
  | [], x, h => by simp at h
  | c :: l, x, h => by
    rw [List.takeWhile_cons] at h
    split at h
    · rename_i hc
      rcases List.mem_cons.1 h with h | h
      · rw [h]; exact hc
      · exact takeWhile_all l x h
    · simp at h
theorem name_bytes {l : List UInt8} {t : List UInt8} {n : Nat} (h : wordS l = some (1, t, n)) : ∀ x ∈ l.take n, nameB x = true := by
  have hg := (word_good h).2 (.inl rfl)
  rw [hg.2.2]
  cases l with
  | nil => simp [wordS] at h
  | cons c r =>
    rw [wordS_cons] at h
    split at h
    · obtain ⟨x, hx, hy⟩ := Option.map_eq_some_iff.1 h
      injection hy with hy1 _
      exact absurd hy1 (by decide)
    · split at h
      · injection h with h; injection h with h1 h; injection h with h2 h3
        rw [← h2]
        exact takeWhile_all _
      · split at h
        · injection h with h; injection h with h1 _
          exact absurd h1 (by decide)
        · cases h
/-- Two texts, the first one of which ends with a newline. -/
theorem two_all (B : List UInt8) (m a : Nat) (l : List UInt8) (hm : l.length ≤ m) : EndsN l → ∀ ws, allA a l = .ok ws → ∃ ys, ws = ys ++ [(4, a + l.length, [])] ∧ (∀ x ∈ ys, x.1 ≠ 4) ∧ allA a (l ++ B) = joinW ys (allA (a + l.length) B) := by
  revert hm
  refine words_ind (P := fun a l => EndsN l → ∀ ws, allA a l = .ok ws → ∃ ys, ws = ys ++ [(4, a + l.length, [])] ∧ (∀ x ∈ ys, x.1 ≠ 4) ∧ allA a (l ++ B) = joinW ys (allA (a + l.length) B)) ?_ ?_ ?_ m a l
  · intro a l h he ws hw
    rw [allA_end h] at hw
    injection hw with hw
    subst hw
    have h1 := drop_nil_le h
    refine ⟨[], by rw [h1]; rfl, fun x hx => by simp at hx, ?_⟩
    have h2 : skipN false (l ++ B) = l.length + skipN false B := by rw [skip_through false l B h1, he.rem]
    rw [joinW_nil, allA_skip, h2, List.drop_append, List.drop_eq_nil_of_le (by omega), List.nil_append, allA_skip (a + l.length) B]
    rw [show l.length + skipN false B - l.length = skipN false B by omega, Nat.add_assoc]
  · intro a l h hn he ws hw
    rw [allA_bad h hn] at hw
    cases hw
  · intro a l k t n hw ih he ws hws
    rw [allA_word hw] at hws
    obtain ⟨y, hy, rfl⟩ := joinW_ok hws
    have hpos := word_pos hw
    rw [List.length_drop] at hpos
    obtain ⟨ys, hys, h4, hih⟩ := ih (he.drop _) y hy
    have hlen : a + skipN false l + n + (l.drop (skipN false l + n)).length = a + l.length := by rw [List.length_drop]; omega
    rw [hlen] at hih hys
    have hk4 : k ≠ 4 := by have := (word_good hw).1; omega
    refine ⟨(k, a + skipN false l, t) :: ys, by rw [hys]; rfl, ?_, ?_⟩
    · intro x hx
      rcases List.mem_cons.1 hx with hx | hx
      · rw [hx]; exact hk4
      · exact h4 x hx
    have e0 : l ++ B = l.take (skipN false l + n) ++ (l.drop (skipN false l + n) ++ B) := by rw [← List.append_assoc, List.take_append_drop]
    have hsk : skipN false (l ++ B) = skipN false l := by rw [e0]; exact skip_same (by omega) (by omega) _
    have hd : (l ++ B).drop (skipN false l) = l.drop (skipN false l) ++ B := List.drop_append_of_le_length (by omega)
    have hw2 : wordS ((l ++ B).drop (skipN false (l ++ B))) = some (k, t, n) := by
      rw [hsk, hd]
      refine word_append hw ?_
      by_cases hk : k = 1
      · subst hk
        refine .inr (.inl ?_)
        rcases Nat.lt_or_ge n (l.drop (skipN false l)).length with h | h
        · exact h
        · exfalso
          have hb := name_bytes hw
          rw [List.take_of_length_le h] at hb
          rcases he.drop (skipN false l) with e | ⟨r, e⟩
          · rw [e] at hw; simp [wordS] at hw
          · rw [e] at hb
            have := hb 10 (by simp)
            exact absurd this (by decide)
      · exact .inl hk
    rw [allA_word hw2, hsk, List.drop_append_of_le_length (by omega), hih, joinW_join]
    rfl

/-! ### A text in quotes -/
theorem quote_fin : ∀ n : Fin 256, elemS (quoteB (UInt8.ofNat n.val)) = some (UInt8.ofNat n.val, (quoteB (UInt8.ofNat n.val)).length) ∧ (quoteB (UInt8.ofNat n.val)).head? ≠ some 34 ∧ (quoteB (UInt8.ofNat n.val)).all (fun c => decide (32 ≤ c.toNat ∧ c.toNat ≤ 126)) = true ∧ (quoteB (UInt8.ofNat n.val)).length ≤ 4 := by decide +kernel
theorem quote_elem (c : UInt8) : elemS (quoteB c) = some (c, (quoteB c).length) ∧ (quoteB c).head? ≠ some 34 ∧ (quoteB c).all (fun c => decide (32 ≤ c.toNat ∧ c.toNat ≤ 126)) = true ∧ (quoteB c).length ≤ 4 := by
  have := quote_fin ⟨c.toNat, c.toNat_lt⟩
  simpa using this
theorem quote_body : ∀ (s r : List UInt8), strS ((s.map quoteB).flatten ++ 34 :: r) = some (s, ((s.map quoteB).flatten).length + 1)
  | [], r => by simp [strS_end]
  | c :: s, r => by
    have hc := quote_elem c
    have ha := elem_append _ ((s.map quoteB).flatten ++ 34 :: r) _ hc.1
    have hp := elem_pos hc.1
    rw [List.map_cons, List.flatten_cons, List.append_assoc]
    cases hq : quoteB c with
    | nil => rw [hq] at hp; simp at hp
    | cons d u =>
      rw [hq] at hc ha
      rw [List.cons_append] at ha ⊢
      have h34 : d ≠ 34 := fun e => hc.2.1 (by rw [e]; rfl)
      rw [strS_next h34 ha]
      rw [← List.cons_append, List.drop_left, quote_body s r, Option.map_some]
      simp only [List.length_cons, List.length_append]
      congr 2
      try omega
theorem quote_word (s r : List UInt8) : wordS (quoteS s ++ r) = some (2, s, (quoteS s).length) := by
  unfold quoteS
  rw [List.cons_append, List.cons_append, wordS_cons, if_pos rfl, List.append_assoc, List.singleton_append, quote_body, Option.map_some]
  simp
/-- A quoted text alone among words. -/
theorem quote_all (s : List UInt8) : allS (32 :: (quoteS s ++ [44])) = .ok [(2, 1, s), (3, 1 + (quoteS s).length, [44]), (4, 2 + (quoteS s).length, [])] := by
  have hq : ∃ u, quoteS s = 34 :: u := ⟨_, rfl⟩
  obtain ⟨u, hu⟩ := hq
  have hs : skipN false (32 :: (quoteS s ++ [44])) = 1 := by
    rw [skip_blank _ (by decide), hu, List.cons_append, skip_stop _ (by decide) (by decide)]
  have hw : wordS ((32 :: (quoteS s ++ [44])).drop (skipN false (32 :: (quoteS s ++ [44])))) = some (2, s, (quoteS s).length) := by
    rw [hs, List.drop_succ_cons, List.drop_zero]; exact quote_word s _
  have hs2 : skipN false [44] = 0 := skip_stop _ (by decide) (by decide)
  have hw2 : wordS (([44] : List UInt8).drop (skipN false [44])) = some (3, [44], 1) := by rw [hs2]; decide
  rw [allA_S, allA_word hw, hs, show 1 + (quoteS s).length = (quoteS s).length + 1 by omega, List.drop_succ_cons, List.drop_left]
  rw [allA_word hw2, hs2]
  rw [allA_end (by simp [skip_nil])]
  simp only [joinW, List.drop_succ_cons, List.drop_nil, skip_nil]
  simp
  omega
theorem quote_plain (s : List UInt8) : ∀ c ∈ quoteS s, 32 ≤ c.toNat ∧ c.toNat ≤ 126 := by
  intro c hc
  unfold quoteS at hc
  simp only [List.cons_append, List.mem_cons, List.mem_append, List.mem_flatten, List.mem_map, List.not_mem_nil, or_false] at hc
  rcases hc with hc | ⟨l, ⟨d, hd, rfl⟩, hc⟩ | hc
  · subst hc; decide
  · have := List.all_eq_true.1 (quote_elem d).2.2.1 c hc
    simpa using this
  · subst hc; decide
theorem quote_len (s : List UInt8) : (quoteS s).length ≤ 4 * s.length + 2 := by
  have : ∀ l : List UInt8, ((l.map quoteB).flatten).length ≤ 4 * l.length := by
    intro l
    induction l with
    | nil => simp
    | cons c l ih =>
      have := (quote_elem c).2.2.2
      simp only [List.map_cons, List.flatten_cons, List.length_append, List.length_cons] at ih ⊢
      omega
  have := this s
  unfold quoteS
  simp only [List.cons_append, List.length_cons, List.length_append, List.length_nil]
  omega
end Go.Proofs.YtlmnabhhgplhnaaGreatDoor
