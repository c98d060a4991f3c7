/- Plain facts on keys: unlike lists have unlike keys; what Get tells makes the same key; when a text is a number's. -/
import Derived.Test.YtmpiaaangbjapaaDoorWalkI
import Derived.Test.YtmpiaaangbjapaaDoorWalkG
import Derived.Test.YtmpiaaangbjapaaDoorMathG
namespace Go.Proofs.YtmpiaaangbjapaaDoor
open Go.Lib

theorem numS_nat (n : Nat) : numS (n : Int) = decDigits n := by
  unfold numS
  rw [Int.max_eq_left (by omega)]
  unfold itoa
  rw [if_neg (by omega)]
  simp

theorem partS_inj {p q r r' : List UInt8} (h : partS p ++ r = partS q ++ r') : p = q ∧ r = r' := by
  unfold partS at h
  rw [numS_nat, numS_nat, List.append_assoc, List.append_assoc, List.cons_append, List.cons_append] at h
  obtain ⟨h1, h2⟩ := first_inj (dec_pure _) (dec_pure _) h
  exact List.append_inj h2 (dec_inj h1)

theorem partS_ne (p r : List UInt8) : partS p ++ r ≠ [] := by
  unfold partS; simp

/-- Unlike lists have unlike keys. -/
theorem putS_inj : ∀ {a b : List (List UInt8)}, putS a = putS b → a = b
  | [], [], _ => rfl
  | [], q :: b, h => by rw [putS_cons] at h; exact absurd h.symm (partS_ne _ _)
  | p :: a, [], h => by rw [putS_cons] at h; exact absurd h (partS_ne _ _)
  | p :: a, q :: b, h => by
    rw [putS_cons, putS_cons] at h
    obtain ⟨h1, h2⟩ := partS_inj h
    rw [h1, putS_inj h2]

/-- A text that is a number's, up to a most. -/
def OkNum (s : List UInt8) (most : Int) : Prop := canon s ∧ valFrom 0 s < 9223372036854775808 ∧ (valFrom 0 s : Int) ≤ most

theorem getNum_yes {s : List UInt8} {most : Int} (h : OkNum s most) : getNum s most = (((valFrom 0 s : Nat) : Int), true) := by
  obtain ⟨hc, hv, hm⟩ := h
  unfold getNum
  rw [atoi_digs hc.1 hc.2.1 hv]
  simp only
  rw [if_pos ⟨hm, by rw [numS_nat]; exact dec_of hc⟩]

theorem getNum_ok {s : List UInt8} {most : Int} (h : (getNum s most).2 = true) : OkNum s most := by
  unfold getNum at h
  rcases ha : atoiAll s with v | _ | _
  · simp only [ha] at h
    split at h
    · rename_i hc
      obtain ⟨hm, hs⟩ := hc
      have hb := atoi_bounds ha
      rcases Int.lt_or_le v 0 with hneg | hpos
      · exfalso
        have h0 : numS v = numS 0 := by unfold numS; rw [Int.max_eq_right (by omega)]; rfl
        rw [h0, show (0 : Int) = ((0 : Nat) : Int) from rfl, numS_nat] at hs
        have hd : atoiAll s = .ok ((valFrom 0 s : Nat) : Int) := atoi_digs (by rw [← hs]; exact dec_ne 0) (by rw [← hs]; exact (canon_dec 0).2.1) (by rw [← hs, dec_val]; omega)
        rw [ha] at hd
        injection hd with hd
        omega
      · obtain ⟨n, rfl⟩ : ∃ n : Nat, v = (n : Int) := ⟨v.toNat, by omega⟩
        rw [numS_nat] at hs
        subst hs
        exact ⟨canon_dec n, by rw [dec_val]; omega, by rw [dec_val]; exact hm⟩
    · cases h
  · simp [ha] at h
  · simp [ha] at h

theorem getNum_no {s : List UInt8} {most : Int} (h : ¬ OkNum s most) : getNum s most = (0, false) := by
  have h2 : (getNum s most).2 = false := by
    cases hb : (getNum s most).2
    · rfl
    · exact absurd (getNum_ok hb) h
  revert h2
  unfold getNum
  rcases ha : atoiAll s with v | _ | _
  · simp only
    split
    · intro h; cases h
    · intro _; rfl
  · intro _; rfl
  · intro _; rfl

/-- The first part and the rest are what was cut. -/
theorem cutPartS_back {s p q : List UInt8} (h : cutPartS s = some (p, q)) : s = partS p ++ q := by
  rcases first_of 58 s with hm | ⟨a, b, rfl, ha⟩
  · rw [cutPartS_miss hm] at h; cases h
  · rw [cutPartS_hit ha] at h
    split at h
    · rename_i hg
      have hok := getNum_ok hg
      rw [getNum_yes hok] at h
      simp only [Int.toNat_natCast, Option.some.injEq, Prod.mk.injEq] at h
      obtain ⟨rfl, rfl⟩ := h
      have hl : (b.take (valFrom 0 a)).length = valFrom 0 a := by
        rw [List.length_take]; have := hok.2.2; omega
      unfold partS
      rw [hl, numS_nat, dec_of hok.1, List.append_assoc, List.cons_append, List.take_append_drop]
    · cases h

theorem getS_back : ∀ (n : Nat) (s : List UInt8) (l : List (List UInt8)), s.length ≤ n → getS s = some l → putS l = s
  | n, [], l, _, h => by rw [getS_nil] at h; injection h with h; rw [← h]; rfl
  | 0, c :: s, l, hn, _ => by simp at hn
  | n + 1, c :: s, l, hn, h => by
    cases hc : cutPartS (c :: s) with
    | none => rw [getS_none (by simp) hc] at h; cases h
    | some pq =>
      obtain ⟨p, q⟩ := pq
      rw [getS_some (by simp) hc] at h
      have hlt := cutPartS_lt hc
      cases hq : getS q with
      | none => rw [hq] at h; cases h
      | some l' =>
        rw [hq] at h
        simp only [Option.map_some, Option.some.injEq] at h
        subst h
        have hn' : q.length ≤ n := by simp only [List.length_cons] at hn hlt; omega
        rw [putS_cons, getS_back n q l' hn' hq, ← cutPartS_back hc]

theorem markS_inj {a b : Bool × List UInt8} (ha : a.1 = false → a.2 = []) (hb : b.1 = false → b.2 = []) (h : markS a = markS b) : a = b := by
  obtain ⟨x, l⟩ := a
  obtain ⟨y, m⟩ := b
  unfold markS at h
  cases x <;> cases y
  · have h1 : l = [] := ha rfl
    have h2 : m = [] := hb rfl
    rw [h1, h2]
  · simp at h
  · simp at h
  · simp at h; rw [h]
end Go.Proofs.YtmpiaaangbjapaaDoor
