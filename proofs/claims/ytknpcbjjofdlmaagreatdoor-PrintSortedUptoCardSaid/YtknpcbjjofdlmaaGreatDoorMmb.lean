/- The reference's Number, below a hundred. Plain facts on keys: unlike lists have unlike keys; what Get tells makes the same key; when a text is a number's. The reference's Number of any natural. -/
import Derived.Lib.SlBytesRow
import Derived.Test.YtknpcbjjofdlmaaGreatDoorMwalk
import Derived.Test.YtknpcbjjofdlmaaGreatDoorMmath
import Derived.Lib.ItoaLen
import Derived.Deep.RegionHeld3
namespace Go.Proofs.YtknpcbjjofdlmaaGreatDoor
open Go.RowKit

theorem conv_one (c : UInt8) (w : World) : (Go.convert 28 9 (.slice (some ⟨w.heap.size, 0, none⟩) 1 1)).run Tryz.prog (w.alloc (.cells #[.int .u8 c.toNat] 5)) = .ok (.string ⟨#[c]⟩) (w.alloc (.cells #[.int .u8 c.toNat] 5)) :=
  Lib.run_convert_whole (P := Tryz.prog) _ 28 5 9 (by kernel_rfl) (by kernel_rfl) (by kernel_rfl) w.heap.size 0 ⟨#[c]⟩ (fun i hi => by
    have : i = 0 := by simp [ByteArray.size] at hi; omega
    subst this
    rw [World.cell?_alloc_at _ _ _ _ rfl]; rfl) 1

/-- A number's digits, below a hundred. -/
def digB (n : Nat) : ByteArray := if n < 10 then ⟨#[UInt8.ofNat (48 + n)]⟩ else ⟨#[UInt8.ofNat (48 + n / 10), UInt8.ofNat (48 + n % 10)]⟩

set_option maxRecDepth 100000 in
theorem numR_one (n : Nat) (h : n < 10) (w : World) :
    Calls Tryz.prog 77 #[.int .i64 n] w fun e w' => e = .returned (.string (digB n)) ∧ Below w.heap.size w w' := by
  have hd : digB n = ⟨#[UInt8.ofNat (48 + n)]⟩ := by unfold digB; rw [if_pos h]
  rw [hd]
  have hc := conv_one (UInt8.ofNat (48 + n))
  have hn : (UInt8.ofNat (48 + n)).toNat = 48 + n := by rw [UInt8.toNat_ofNat']; omega
  rw [hn] at hc
  generalize UInt8.ofNat (48 + n) = c at *
  push_cast at hc
  have hcw := hc w
  clear hn hd hc
  go_enter Tryz.func77, Tryz.ntmps77
  go_wp2
  go_ret
  exact ⟨rfl, (Below.refl _ _).alloc (Nat.le_refl _) _⟩

set_option maxRecDepth 100000 in
theorem numR_any (n : Nat) (h : n < 100) (w : World) :
    Calls Tryz.prog 77 #[.int .i64 n] w fun e w' => e = .returned (.string (digB n)) ∧ Below w.heap.size w w' := by
  by_cases h10 : n < 10
  · exact numR_one n h10 w
  · have hd : digB n = digB (n / 10) ++ digB (n % 10) := by
      unfold digB
      rw [if_neg h10, if_pos (by omega), if_pos (by omega)]
      rfl
    have c1 := fun w => numR_one (n / 10) (by omega) w
    have c2 := fun w => numR_one (n % 10) (by omega) w
    have e1 : (n : Int).tdiv 10 = ((n / 10 : Nat) : Int) := by rw [Int.tdiv_eq_ediv_of_nonneg (by omega)]; omega
    have e2 : (n : Int).tmod 10 = ((n % 10 : Nat) : Int) := by rw [Int.tmod_eq_emod_of_nonneg (by omega)]; omega
    have l1 : (digB (n / 10)).size = 1 := by unfold digB; rw [if_pos (by omega)]; rfl
    have l2 : (digB (n % 10)).size = 1 := by unfold digB; rw [if_pos (by omega)]; rfl
    have hp : n / 10 < 10 := by omega
    have hq : n % 10 < 10 := by omega
    generalize digB (n / 10) = x at *
    generalize digB (n % 10) = y at *
    generalize n / 10 = p at *
    generalize n % 10 = q at *
    rw [hd]
    have C1 := Lib.hid c1
    have C2 := Lib.hid c2
    clear c1 c2 hd
    go_enter Tryz.func77, Tryz.ntmps77
    go_wp2_with fail
    refine (C1.out w).mono ?_
    rintro e w1 ⟨rfl, hb1⟩
    go_wp2_with fail
    refine (C2.out w1).mono ?_
    rintro e w2 ⟨rfl, hb2⟩
    replace hb2 := chain hb1 hb2
    clear hb1
    go_wp2
    go_ret
    exact ⟨rfl, hb2⟩
end Go.Proofs.YtknpcbjjofdlmaaGreatDoor
namespace Go.Proofs.YtknpcbjjofdlmaaGreatDoor
open Go.Lib

theorem numS_nat (n : Nat) : numS (n : Int) = decDigits n := by
  unfold numS
  rw [Int.max_eq_left (by omega)]
  unfold itoa
  rw [if_neg (by omega)]
  simp

theorem partS_inj {p q r r' : List UInt8} (h : partS p ++ r = partS q ++ r') : p = q ∧ r = r' := by
  unfold partS at h
  rw [numS_nat, numS_nat, List.append_assoc, List.append_assoc, List.cons_append, List.cons_append] at h
  obtain ⟨h1, h2⟩ := first_inj (dec_pure _) (dec_pure _) h
  exact List.append_inj h2 (dec_inj h1)

theorem partS_ne (p r : List UInt8) : partS p ++ r ≠ [] := by
  unfold partS; simp

/-- Unlike lists have unlike keys. -/
theorem putS_inj : ∀ {a b : List (List UInt8)}, putS a = putS b → a = b
  | [], [], _ => rfl
  | [], q :: b, h => by rw [putS_cons] at h; exact absurd h.symm (partS_ne _ _)
  | p :: a, [], h => by rw [putS_cons] at h; exact absurd h (partS_ne _ _)
  | p :: a, q :: b, h => by
    rw [putS_cons, putS_cons] at h
    obtain ⟨h1, h2⟩ := partS_inj h
    rw [h1, putS_inj h2]

/-- A text that is a number's, up to a most. -/
def OkNum (s : List UInt8) (most : Int) : Prop := canon s ∧ valFrom 0 s < 9223372036854775808 ∧ (valFrom 0 s : Int) ≤ most

theorem getNum_yes {s : List UInt8} {most : Int} (h : OkNum s most) : getNum s most = (((valFrom 0 s : Nat) : Int), true) := by
  obtain ⟨hc, hv, hm⟩ := h
  unfold getNum
  rw [atoi_digs hc.1 hc.2.1 hv]
  simp only
  rw [if_pos ⟨hm, by rw [numS_nat]; exact dec_of hc⟩]

theorem getNum_ok {s : List UInt8} {most : Int} (h : (getNum s most).2 = true) : OkNum s most := by
  unfold getNum at h
  rcases ha : atoiAll s with v | _ | _
  · simp only [ha] at h
    split at h
    · rename_i hc
      obtain ⟨hm, hs⟩ := hc
      have hb := atoi_bounds ha
      rcases Int.lt_or_le v 0 with hneg | hpos
      · exfalso
        have h0 : numS v = numS 0 := by unfold numS; rw [Int.max_eq_right (by omega)]; rfl
        rw [h0, show (0 : Int) = ((0 : Nat) : Int) from rfl, numS_nat] at hs
        have hd : atoiAll s = .ok ((valFrom 0 s : Nat) : Int) := atoi_digs (by rw [← hs]; exact dec_ne 0) (by rw [← hs]; exact (canon_dec 0).2.1) (by rw [← hs, dec_val]; omega)
        rw [ha] at hd
        injection hd with hd
        omega
      · obtain ⟨n, rfl⟩ : ∃ n : Nat, v = (n : Int) := ⟨v.toNat, by omega⟩
        rw [numS_nat] at hs
        subst hs
        exact ⟨canon_dec n, by rw [dec_val]; omega, by rw [dec_val]; exact hm⟩
    · cases h
  · simp [ha] at h
  · simp [ha] at h

theorem getNum_no {s : List UInt8} {most : Int} (h : ¬ OkNum s most) : getNum s most = (0, false) := by
  have h2 : (getNum s most).2 = false := by
    cases hb : (getNum s most).2
    · rfl
    · exact absurd (getNum_ok hb) h
  revert h2
  unfold getNum
  rcases ha : atoiAll s with v | _ | _
  · simp only
    split
    · intro h; cases h
    · intro _; rfl
  · intro _; rfl
  · intro _; rfl

/-- The first part and the rest are what was cut. -/
theorem cutPartS_back {s p q : List UInt8} (h : cutPartS s = some (p, q)) : s = partS p ++ q := by
  rcases first_of 58 s with hm | ⟨a, b, rfl, ha⟩
  · rw [cutPartS_miss hm] at h; cases h
  · rw [cutPartS_hit ha] at h
    split at h
    · rename_i hg
      have hok := getNum_ok hg
      rw [getNum_yes hok] at h
      simp only [Int.toNat_natCast, Option.some.injEq, Prod.mk.injEq] at h
      obtain ⟨rfl, rfl⟩ := h
      have hl : (b.take (valFrom 0 a)).length = valFrom 0 a := by
        rw [List.length_take]; have := hok.2.2; omega
      unfold partS
      rw [hl, numS_nat, dec_of hok.1, List.append_assoc, List.cons_append, List.take_append_drop]
    · cases h

theorem getS_back : ∀ (n : Nat) (s : List UInt8) (l : List (List UInt8)), s.length ≤ n → getS s = some l → putS l = s
  | n, [], l, _, h => by rw [getS_nil] at h; injection h with h; rw [← h]; rfl
  | 0, c :: s, l, hn, _ => by simp at hn
  | n + 1, c :: s, l, hn, h => by
    cases hc : cutPartS (c :: s) with
    | none => rw [getS_none (by simp) hc] at h; cases h
    | some pq =>
      obtain ⟨p, q⟩ := pq
      rw [getS_some (by simp) hc] at h
      have hlt := cutPartS_lt hc
      cases hq : getS q with
      | none => rw [hq] at h; cases h
      | some l' =>
        rw [hq] at h
        simp only [Option.map_some, Option.some.injEq] at h
        subst h
        have hn' : q.length ≤ n := by simp only [List.length_cons] at hn hlt; omega
        rw [putS_cons, getS_back n q l' hn' hq, ← cutPartS_back hc]

theorem markS_inj {a b : Bool × List UInt8} (ha : a.1 = false → a.2 = []) (hb : b.1 = false → b.2 = []) (h : markS a = markS b) : a = b := by
  obtain ⟨x, l⟩ := a
  obtain ⟨y, m⟩ := b
  unfold markS at h
  cases x <;> cases y
  · have h1 : l = [] := ha rfl
    have h2 : m = [] := hb rfl
    rw [h1, h2]
  · simp at h
  · simp at h
  · simp at h; rw [h]
end Go.Proofs.YtknpcbjjofdlmaaGreatDoor
namespace Go.Proofs.YtknpcbjjofdlmaaGreatDoor
open Go.RowKit

/-- A number's digits. -/
def decB (n : Nat) : ByteArray := ⟨(Lib.decDigits n).toArray⟩
theorem decB_small {n : Nat} (h : n < 10) : decB n = digB n := by
  unfold decB digB
  rw [if_pos h, Lib.decDigits_one h]
theorem decB_big {n : Nat} (h : ¬ n < 10) : decB n = decB (n / 10) ++ decB (n % 10) := by
  apply ByteArray.ext
  rw [ByteArray.data_append]
  apply Array.toList_inj.1
  unfold decB
  conv => lhs; rw [Lib.decDigits, dif_neg h]
  rw [Lib.decDigits_one (show n % 10 < 10 by omega)]
  simp
theorem decB_size (n : Nat) (h : n ≤ 9223372036854775807) : (decB n).size ≤ 22 := by
  have := Lib.itoa_length_le (n : Int) (by omega) (by omega)
  unfold Lib.itoa at this
  rw [if_neg (by omega)] at this
  unfold decB ByteArray.size
  simp only [List.size_toArray]
  simp only [Int.toNat_natCast] at this
  omega

def numMost : Nat := 9223372036854775807
theorem tdivmod (n : Nat) : (n : Int).tdiv 10 = ((n / 10 : Nat) : Int) ∧ (n : Int).tmod 10 = ((n % 10 : Nat) : Int) :=
  ⟨by rw [Int.tdiv_eq_ediv_of_nonneg (by omega)]; omega, by rw [Int.tmod_eq_emod_of_nonneg (by omega)]; omega⟩

set_option maxRecDepth 100000 in
theorem numR_full : ∀ (f n : Nat), n < f → n ≤ numMost → ∀ (w : World),
    Calls Tryz.prog 77 #[.int .i64 n] w fun e w' => e = .returned (.string (decB n)) ∧ Below w.heap.size w w' := by
  intro f
  induction f with
  | zero => intro n hf; omega
  | succ f ih =>
    intro n hf hm w
    by_cases h10 : n < 10
    · rw [decB_small h10]; exact numR_one n h10 w
    · have hd := decB_big h10
      have c1 := fun w => ih (n / 10) (by omega) (by omega) w
      have c2 := fun w => numR_one (n % 10) (by omega) w
      rw [← decB_small (show n % 10 < 10 by omega)] at c2
      obtain ⟨e1, e2⟩ := tdivmod n
      have l1 : (decB (n / 10)).size ≤ 22 := decB_size _ (by unfold numMost at hm; omega)
      have l2 : (decB (n % 10)).size ≤ 22 := decB_size _ (by omega)
      have hn : n ≤ 9223372036854775807 := hm
      have hp : n / 10 ≤ 922337203685477580 := by omega
      have hq : n % 10 < 10 := by omega
      clear ih hm hf
      generalize decB (n / 10) = x at *
      generalize decB (n % 10) = y at *
      generalize n / 10 = p at *
      generalize n % 10 = q at *
      rw [hd]
      have C1 := Lib.hid c1
      have C2 := Lib.hid c2
      clear c1 c2 hd
      go_enter Tryz.func77, Tryz.ntmps77
      go_wp2_with fail
      refine (C1.out w).mono ?_
      rintro e w1 ⟨rfl, hb1⟩
      go_wp2_with fail
      refine (C2.out w1).mono ?_
      rintro e w2 ⟨rfl, hb2⟩
      replace hb2 := chain hb1 hb2
      clear hb1
      go_wp2
      go_ret
      exact ⟨rfl, hb2⟩

theorem numR_any' (n : Nat) (h : n ≤ 9223372036854775807) (w : World) :
    Calls Tryz.prog 77 #[.int .i64 n] w fun e w' => e = .returned (.string (decB n)) ∧ Below w.heap.size w w' :=
  numR_full (n + 1) n (by omega) h w

theorem decB_data (n : Nat) : (decB n).data.toList = numS (n : Int) := by rw [numS_nat]; rfl
end Go.Proofs.YtknpcbjjofdlmaaGreatDoor
