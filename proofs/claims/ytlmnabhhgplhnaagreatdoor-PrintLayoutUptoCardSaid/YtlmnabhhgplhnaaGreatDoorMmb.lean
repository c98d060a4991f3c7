/- The reference's Number, below a hundred. Plain facts on keys: unlike lists have unlike keys; what Get tells makes the same key; when a text is a number's. The reference's Number of any natural. Contracts of the reference's Sign, Parts and May. -/
import Derived.Lib.SlBytesRow
import Derived.Test.YtlmnabhhgplhnaaGreatDoorMwalk
import Derived.Test.YtlmnabhhgplhnaaGreatDoorMmath
import Derived.Lib.ItoaLen
import Derived.Deep.RegionHeld3
import Derived.BigRegion
namespace Go.Proofs.YtlmnabhhgplhnaaGreatDoor
open Go.RowKit

theorem conv_one (c : UInt8) (w : World) : (Go.convert 58 9 (.slice (some ⟨w.heap.size, 0, none⟩) 1 1)).run Tryz.prog (w.alloc (.cells #[.int .u8 c.toNat] 5)) = .ok (.string ⟨#[c]⟩) (w.alloc (.cells #[.int .u8 c.toNat] 5)) :=
  Lib.run_convert_whole (P := Tryz.prog) _ 58 5 9 (by kernel_rfl) (by kernel_rfl) (by kernel_rfl) w.heap.size 0 ⟨#[c]⟩ (fun i hi => by
    have : i = 0 := by simp [ByteArray.size] at hi; omega
    subst this
    rw [World.cell?_alloc_at _ _ _ _ rfl]; rfl) 1

/-- A number's digits, below a hundred. -/
def digB (n : Nat) : ByteArray := if n < 10 then ⟨#[UInt8.ofNat (48 + n)]⟩ else ⟨#[UInt8.ofNat (48 + n / 10), UInt8.ofNat (48 + n % 10)]⟩

set_option maxRecDepth 100000 in
theorem numR_one (n : Nat) (h : n < 10) (w : World) :
    Calls Tryz.prog 67 #[.int .i64 n] w fun e w' => e = .returned (.string (digB n)) ∧ Below w.heap.size w w' := by
  have hd : digB n = ⟨#[UInt8.ofNat (48 + n)]⟩ := by unfold digB; rw [if_pos h]
  rw [hd]
  have hc := conv_one (UInt8.ofNat (48 + n))
  have hn : (UInt8.ofNat (48 + n)).toNat = 48 + n := by rw [UInt8.toNat_ofNat']; omega
  rw [hn] at hc
  generalize UInt8.ofNat (48 + n) = c at *
  push_cast at hc
  have hcw := hc w
  clear hn hd hc
  go_enter Tryz.func67, Tryz.ntmps67
  go_wp2
  go_ret
  exact ⟨rfl, (Below.refl _ _).alloc (Nat.le_refl _) _⟩

set_option maxRecDepth 100000 in
theorem numR_any (n : Nat) (h : n < 100) (w : World) :
    Calls Tryz.prog 67 #[.int .i64 n] w fun e w' => e = .returned (.string (digB n)) ∧ Below w.heap.size w w' := by
  by_cases h10 : n < 10
  · exact numR_one n h10 w
  · have hd : digB n = digB (n / 10) ++ digB (n % 10) := by
      unfold digB
      rw [if_neg h10, if_pos (by omega), if_pos (by omega)]
      rfl
    have c1 := fun w => numR_one (n / 10) (by omega) w
    have c2 := fun w => numR_one (n % 10) (by omega) w
    have e1 : (n : Int).tdiv 10 = ((n / 10 : Nat) : Int) := by rw [Int.tdiv_eq_ediv_of_nonneg (by omega)]; omega
    have e2 : (n : Int).tmod 10 = ((n % 10 : Nat) : Int) := by rw [Int.tmod_eq_emod_of_nonneg (by omega)]; omega
    have l1 : (digB (n / 10)).size = 1 := by unfold digB; rw [if_pos (by omega)]; rfl
    have l2 : (digB (n % 10)).size = 1 := by unfold digB; rw [if_pos (by omega)]; rfl
    have hp : n / 10 < 10 := by omega
    have hq : n % 10 < 10 := by omega
    generalize digB (n / 10) = x at *
    generalize digB (n % 10) = y at *
    generalize n / 10 = p at *
    generalize n % 10 = q at *
    rw [hd]
    have C1 := Lib.hid c1
    have C2 := Lib.hid c2
    clear c1 c2 hd
    go_enter Tryz.func67, Tryz.ntmps67
    go_wp2_with fail
    refine (C1.out w).mono ?_
    rintro e w1 ⟨rfl, hb1⟩
    go_wp2_with fail
    refine (C2.out w1).mono ?_
    rintro e w2 ⟨rfl, hb2⟩
    replace hb2 := chain hb1 hb2
    clear hb1
    go_wp2
    go_ret
    exact ⟨rfl, hb2⟩
end Go.Proofs.YtlmnabhhgplhnaaGreatDoor
namespace Go.Proofs.YtlmnabhhgplhnaaGreatDoor
open Go.Lib

theorem numS_nat (n : Nat) : numS (n : Int) = decDigits n := by
  unfold numS
  rw [Int.max_eq_left (by omega)]
  unfold itoa
  rw [if_neg (by omega)]
  simp

theorem partS_inj {p q r r' : List UInt8} (h : partS p ++ r = partS q ++ r') : p = q ∧ r = r' := by
  unfold partS at h
  rw [numS_nat, numS_nat, List.append_assoc, List.append_assoc, List.cons_append, List.cons_append] at h
  obtain ⟨h1, h2⟩ := first_inj (dec_pure _) (dec_pure _) h
  exact List.append_inj h2 (dec_inj h1)

theorem partS_ne (p r : List UInt8) : partS p ++ r ≠ [] := by
  unfold partS; simp

/-- Unlike lists have unlike keys. -/
theorem putS_inj : ∀ {a b : List (List UInt8)}, putS a = putS b → a = b
  | [], [], _ => rfl
  | [], q :: b, h => by rw [putS_cons] at h; exact absurd h.symm (partS_ne _ _)
  | p :: a, [], h => by rw [putS_cons] at h; exact absurd h (partS_ne _ _)
  | p :: a, q :: b, h => by
    rw [putS_cons, putS_cons] at h
    obtain ⟨h1, h2⟩ := partS_inj h
    rw [h1, putS_inj h2]

/-- A text that is a number's, up to a most. -/
def OkNum (s : List UInt8) (most : Int) : Prop := canon s ∧ valFrom 0 s < 9223372036854775808 ∧ (valFrom 0 s : Int) ≤ most

theorem getNum_yes {s : List UInt8} {most : Int} (h : OkNum s most) : getNum s most = (((valFrom 0 s : Nat) : Int), true) := by
  obtain ⟨hc, hv, hm⟩ := h
  unfold getNum
  rw [atoi_digs hc.1 hc.2.1 hv]
  simp only
  rw [if_pos ⟨hm, by rw [numS_nat]; exact dec_of hc⟩]

theorem getNum_ok {s : List UInt8} {most : Int} (h : (getNum s most).2 = true) : OkNum s most := by
  unfold getNum at h
  rcases ha : atoiAll s with v | _ | _
  · simp only [ha] at h
    split at h
    · rename_i hc
      obtain ⟨hm, hs⟩ := hc
      have hb := atoi_bounds ha
      rcases Int.lt_or_le v 0 with hneg | hpos
      · exfalso
        have h0 : numS v = numS 0 := by unfold numS; rw [Int.max_eq_right (by omega)]; rfl
        rw [h0, show (0 : Int) = ((0 : Nat) : Int) from rfl, numS_nat] at hs
        have hd : atoiAll s = .ok ((valFrom 0 s : Nat) : Int) := atoi_digs (by rw [← hs]; exact dec_ne 0) (by rw [← hs]; exact (canon_dec 0).2.1) (by rw [← hs, dec_val]; omega)
        rw [ha] at hd
        injection hd with hd
        omega
      · obtain ⟨n, rfl⟩ : ∃ n : Nat, v = (n : Int) := ⟨v.toNat, by omega⟩
        rw [numS_nat] at hs
        subst hs
        exact ⟨canon_dec n, by rw [dec_val]; omega, by rw [dec_val]; exact hm⟩
    · cases h
  · simp [ha] at h
  · simp [ha] at h

theorem getNum_no {s : List UInt8} {most : Int} (h : ¬ OkNum s most) : getNum s most = (0, false) := by
  have h2 : (getNum s most).2 = false := by
    cases hb : (getNum s most).2
    · rfl
    · exact absurd (getNum_ok hb) h
  revert h2
  unfold getNum
  rcases ha : atoiAll s with v | _ | _
  · simp only
    split
    · intro h; cases h
    · intro _; rfl
  · intro _; rfl
  · intro _; rfl

/-- The first part and the rest are what was cut. -/
theorem cutPartS_back {s p q : List UInt8} (h : cutPartS s = some (p, q)) : s = partS p ++ q := by
  rcases first_of 58 s with hm | ⟨a, b, rfl, ha⟩
  · rw [cutPartS_miss hm] at h; cases h
  · rw [cutPartS_hit ha] at h
    split at h
    · rename_i hg
      have hok := getNum_ok hg
      rw [getNum_yes hok] at h
      simp only [Int.toNat_natCast, Option.some.injEq, Prod.mk.injEq] at h
      obtain ⟨rfl, rfl⟩ := h
      have hl : (b.take (valFrom 0 a)).length = valFrom 0 a := by
        rw [List.length_take]; have := hok.2.2; omega
      unfold partS
      rw [hl, numS_nat, dec_of hok.1, List.append_assoc, List.cons_append, List.take_append_drop]
    · cases h

theorem getS_back : ∀ (n : Nat) (s : List UInt8) (l : List (List UInt8)), s.length ≤ n → getS s = some l → putS l = s
  | n, [], l, _, h => by rw [getS_nil] at h; injection h with h; rw [← h]; rfl
  | 0, c :: s, l, hn, _ => by simp at hn
  | n + 1, c :: s, l, hn, h => by
    cases hc : cutPartS (c :: s) with
    | none => rw [getS_none (by simp) hc] at h; cases h
    | some pq =>
      obtain ⟨p, q⟩ := pq
      rw [getS_some (by simp) hc] at h
      have hlt := cutPartS_lt hc
      cases hq : getS q with
      | none => rw [hq] at h; cases h
      | some l' =>
        rw [hq] at h
        simp only [Option.map_some, Option.some.injEq] at h
        subst h
        have hn' : q.length ≤ n := by simp only [List.length_cons] at hn hlt; omega
        rw [putS_cons, getS_back n q l' hn' hq, ← cutPartS_back hc]

theorem markS_inj {a b : Bool × List UInt8} (ha : a.1 = false → a.2 = []) (hb : b.1 = false → b.2 = []) (h : markS a = markS b) : a = b := by
  obtain ⟨x, l⟩ := a
  obtain ⟨y, m⟩ := b
  unfold markS at h
  cases x <;> cases y
  · have h1 : l = [] := ha rfl
    have h2 : m = [] := hb rfl
    rw [h1, h2]
  · simp at h
  · simp at h
  · simp at h; rw [h]
end Go.Proofs.YtlmnabhhgplhnaaGreatDoor
namespace Go.Proofs.YtlmnabhhgplhnaaGreatDoor
open Go.RowKit

/-- A number's digits. -/
def decB (n : Nat) : ByteArray := ⟨(Lib.decDigits n).toArray⟩
theorem decB_small {n : Nat} (h : n < 10) : decB n = digB n := by
  unfold decB digB
  rw [if_pos h, Lib.decDigits_one h]
theorem decB_big {n : Nat} (h : ¬ n < 10) : decB n = decB (n / 10) ++ decB (n % 10) := by
  apply ByteArray.ext
  rw [ByteArray.data_append]
  apply Array.toList_inj.1
  unfold decB
  conv => lhs; rw [Lib.decDigits, dif_neg h]
  rw [Lib.decDigits_one (show n % 10 < 10 by omega)]
  simp
theorem decB_size (n : Nat) (h : n ≤ 9223372036854775807) : (decB n).size ≤ 22 := by
  have := Lib.itoa_length_le (n : Int) (by omega) (by omega)
  unfold Lib.itoa at this
  rw [if_neg (by omega)] at this
  unfold decB ByteArray.size
  simp only [List.size_toArray]
  simp only [Int.toNat_natCast] at this
  omega

def numMost : Nat := 9223372036854775807
theorem tdivmod (n : Nat) : (n : Int).tdiv 10 = ((n / 10 : Nat) : Int) ∧ (n : Int).tmod 10 = ((n % 10 : Nat) : Int) :=
  ⟨by rw [Int.tdiv_eq_ediv_of_nonneg (by omega)]; omega, by rw [Int.tmod_eq_emod_of_nonneg (by omega)]; omega⟩

set_option maxRecDepth 100000 in
theorem numR_full : ∀ (f n : Nat), n < f → n ≤ numMost → ∀ (w : World),
    Calls Tryz.prog 67 #[.int .i64 n] w fun e w' => e = .returned (.string (decB n)) ∧ Below w.heap.size w w' := by
  intro f
  induction f with
  | zero => intro n hf; omega
  | succ f ih =>
    intro n hf hm w
    by_cases h10 : n < 10
    · rw [decB_small h10]; exact numR_one n h10 w
    · have hd := decB_big h10
      have c1 := fun w => ih (n / 10) (by omega) (by omega) w
      have c2 := fun w => numR_one (n % 10) (by omega) w
      rw [← decB_small (show n % 10 < 10 by omega)] at c2
      obtain ⟨e1, e2⟩ := tdivmod n
      have l1 : (decB (n / 10)).size ≤ 22 := decB_size _ (by unfold numMost at hm; omega)
      have l2 : (decB (n % 10)).size ≤ 22 := decB_size _ (by omega)
      have hn : n ≤ 9223372036854775807 := hm
      have hp : n / 10 ≤ 922337203685477580 := by omega
      have hq : n % 10 < 10 := by omega
      clear ih hm hf
      generalize decB (n / 10) = x at *
      generalize decB (n % 10) = y at *
      generalize n / 10 = p at *
      generalize n % 10 = q at *
      rw [hd]
      have C1 := Lib.hid c1
      have C2 := Lib.hid c2
      clear c1 c2 hd
      go_enter Tryz.func67, Tryz.ntmps67
      go_wp2_with fail
      refine (C1.out w).mono ?_
      rintro e w1 ⟨rfl, hb1⟩
      go_wp2_with fail
      refine (C2.out w1).mono ?_
      rintro e w2 ⟨rfl, hb2⟩
      replace hb2 := chain hb1 hb2
      clear hb1
      go_wp2
      go_ret
      exact ⟨rfl, hb2⟩

theorem numR_any' (n : Nat) (h : n ≤ 9223372036854775807) (w : World) :
    Calls Tryz.prog 67 #[.int .i64 n] w fun e w' => e = .returned (.string (decB n)) ∧ Below w.heap.size w w' :=
  numR_full (n + 1) n (by omega) h w

theorem decB_data (n : Nat) : (decB n).data.toList = numS (n : Int) := by rw [numS_nat]; rfl
end Go.Proofs.YtlmnabhhgplhnaaGreatDoor
namespace Go.Proofs.YtlmnabhhgplhnaaGreatDoor
open Go.RowKit

theorem signR_any (c : UInt8) (w : World) :
    Calls Tryz.prog 124 #[.int .u8 c.toNat] w fun e w' => e = .returned (.bool (okByte c)) ∧ w = w' := by
  have hb : c.toNat < 256 := c.toNat_lt
  go_enter Tryz.func124, Tryz.ntmps124
  go_wp2
  all_goals go_ret
  all_goals exact ⟨ret_bool (by rw [Bool.eq_iff_iff]; simp [okByte]; omega), rfl⟩

theorem cut_hit1 (d : UInt8) (t : List UInt8) : cutAt d (t ++ [d]) = cutAt d t ++ [[]] := by
  rw [cutAt_append]; rfl
theorem cut_miss1 (d c : UInt8) (h : c ≠ d) : ∀ t : List UInt8, ∃ pre last, cutAt d t = pre ++ [last] ∧ cutAt d (t ++ [c]) = pre ++ [last ++ [c]]
  | [] => ⟨[], [], rfl, by simp [cutAt, h]⟩
  | a :: r => by
    obtain ⟨pre, last, h1, h2⟩ := cut_miss1 d c h r
    by_cases ha : a = d
    · refine ⟨[] :: pre, last, ?_, ?_⟩
      · rw [cutAt, if_pos ha, h1]; rfl
      · rw [List.cons_append, cutAt, if_pos ha, h2]; rfl
    · cases pre with
      | nil =>
        refine ⟨[], a :: last, ?_, ?_⟩
        · rw [cutAt, if_neg ha, h1]; rfl
        · rw [List.cons_append, cutAt, if_neg ha, h2]; rfl
      | cons p ps =>
        refine ⟨(a :: p) :: ps, last, ?_, ?_⟩
        · rw [cutAt, if_neg ha, h1]; rfl
        · rw [List.cons_append, cutAt, if_neg ha, h2]; rfl

theorem own_str_set {w : World} {B g c : Nat} {pre : List ByteArray} {x y : ByteArray}
    (h : w.ownsRow B 9 1 (.slice (some ⟨g, 0, none⟩) (pre.length + 1) c) (pre.length + 1) ((pre ++ [x]).map Value.string)) :
    (w.setCell ⟨g, pre.length, none⟩ (.string y)).ownsRow B 9 1 (.slice (some ⟨g, 0, none⟩) (pre.length + 1) c) (pre.length + 1) ((pre ++ [y]).map Value.string) := by
  obtain ⟨hl, ⟨hv, _⟩ | ⟨g', c', cur, hv, hgB, hg, hnc, hcm, hcs, htk⟩⟩ := h
  · cases hv
  · cases hv
    rw [setCell_eq_setRow w g pre.length cur _ (0, 0) _ hg]
    refine ⟨by simp, .inr ⟨g, c, cur.setIfInBounds pre.length (.string y), rfl, hgB, setRow_heap w g _ _ _ _ hg, hnc, hcm, by simpa using hcs, ?_⟩⟩
    rw [Array.toList_setIfInBounds, List.take_set, htk]
    simp

def PartsPost (w : World) (ls : List (List UInt8)) (e : Ending) (w' : World) : Prop :=
  ∃ xs : List ByteArray, ∃ v, e = .returned v ∧ IsStrs w' v xs ∧ xs.map (·.data.toList) = ls ∧ Below w.heap.size w w'

def PartsAt (L : List UInt8) (k : Nat) (xs : List ByteArray) : Prop := xs.map (·.data.toList) = cutAt 47 (L.take k)
theorem PartsAt.hit {L : List UInt8} {k : Nat} {xs : List ByteArray} (h : PartsAt L k xs) (hk : k < L.length) (hc : L[k] = 47) : PartsAt L (k + 1) (xs ++ [(⟨#[]⟩ : ByteArray)]) := by
  unfold PartsAt at h ⊢
  rw [List.take_succ_eq_append_getElem hk, hc, cut_hit1, ← h]
  simp
theorem PartsAt.miss {L : List UInt8} {k : Nat} {xs : List ByteArray} (h : PartsAt L k xs) (hk : k < L.length) (hc : L[k] ≠ 47) :
    ∃ pre x, xs = pre ++ [x] ∧ ∀ y : ByteArray, y.data.toList = x.data.toList ++ [L[k]] → PartsAt L (k + 1) (pre ++ [y]) := by
  obtain ⟨p, l, h1, h2⟩ := cut_miss1 47 L[k] hc (L.take k)
  unfold PartsAt at h
  rw [h1] at h
  have hne : xs ≠ [] := by rintro rfl; simp at h
  refine ⟨xs.dropLast, xs.getLast hne, (List.dropLast_concat_getLast hne).symm, fun y hy => ?_⟩
  rw [← List.dropLast_concat_getLast hne, List.map_append] at h
  obtain ⟨h3, h4⟩ := List.append_inj' h rfl
  unfold PartsAt
  rw [List.take_succ_eq_append_getElem hk, h2, List.map_append, h3]
  congr 1
  simp only [List.map_cons, List.map_nil, List.cons.injEq, and_true] at h4 ⊢
  rw [hy, h4]

set_option maxHeartbeats 4000000 in
set_option maxRecDepth 100000 in
theorem partsR_any (s : ByteArray) (w : World) (hs : s.size ≤ 1000) :
    Calls Tryz.prog 123 #[.string s] w (PartsPost w (cutAt 47 s.data.toList)) := by
  obtain ⟨i0, hi, hz0, hz1, hz2⟩ := info_parts info_str
  obtain ⟨L, hL⟩ : ∃ L, s.data.toList = L := ⟨_, rfl⟩
  have hsz : s.size = L.length := by rw [← hL]; exact Lib.size_eq s
  rw [hL]
  have HL := Lib.hid hL
  have HSZ := Lib.hid hsz
  have hown0 : (w.alloc (.cells #[.string ⟨#[]⟩] 9)).ownsRow w.heap.size 9 1 (.slice (some ⟨w.heap.size, 0, none⟩) 1 1) 1 (([⟨#[]⟩] : List ByteArray).map Value.string) :=
    ⟨by simp, .inr ⟨w.heap.size, 1, #[.string ⟨#[]⟩], rfl, Nat.le_refl _, heap_alloc_new w _, Nat.le_refl _, by simp [maxLen], rfl, rfl⟩⟩
  have HOWN0 := Lib.hid hown0
  have HP0 : Hid (PartsAt L 0 [⟨#[]⟩]) := by show PartsAt _ _ _; simp [PartsAt, cutAt]
  clear hL hsz hown0
  go_enter Tryz.func123, Tryz.ntmps123
  go_wp2
  go_loopw [3, 4] (fun v i wr => ∃ (k g c : Nat) (xs : List ByteArray), k ≤ s.size ∧ i = .int .i64 k ∧ v = .slice (some ⟨g, 0, none⟩) xs.length c ∧ xs.length ≤ k + 1 ∧ 1 ≤ xs.length ∧ c ≤ maxLen ∧ xs.length ≤ c ∧
      wr.ownsRow w.heap.size 9 1 (.slice (some ⟨g, 0, none⟩) xs.length c) xs.length (xs.map Value.string) ∧ PartsAt L k xs ∧ (∀ x ∈ xs, x.size ≤ k) ∧ Below w.heap.size w wr)
    (fun _ i _ => s.size - (intOf i).toNat)
  case atStart => exact ⟨0, w.heap.size, 1, [⟨#[]⟩], Nat.zero_le _, rfl, rfl, by simp, by simp, by simp [maxLen], by simp, HOWN0.out, HP0.out, (by intro x hx; simp at hx; subst hx; decide), (Below.refl _ _).alloc (Nat.le_refl _) _⟩
  case round =>
    obtain ⟨k, g, c, xs, hk, rfl, rfl, hxk, hx1, hcm, hxc, hown, hat, hxz, hnx⟩ := hrel
    have HOWN := Lib.hid hown
    have HAT := Lib.hid hat
    have HXZ := Lib.hid hxz
    have HNX := Lib.hid hnx
    have hs1 := hnx.size
    unfold maxLen at hcm
    clear hown hat hxz hnx HOWN0 HP0
    by_cases hlt : k < s.size
    · have hlt' : k < L.length := by rw [← HSZ.out]; exact hlt
      have hget : L[k] = s[k] := by
        have := HL.out
        subst this
        rfl
      have HGET := Lib.hid hget
      clear hget
      by_cases h47 : (s[k].toNat : Int) = 47
      · have hn47 : s[k].toNat = 47 := by omega
        have hc47 : L[k] = 47 := by rw [HGET.out]; exact UInt8.toNat_inj.1 (by rw [hn47]; rfl)
        have HN := Lib.hid (HAT.out.hit hlt' hc47)
        clear hc47 hn47
        have hown2 := HOWN.out
        go_wp2_with (at_builtin; refine wpList_append_own _ rfl _ _ 35 rfl w.heap.size 9 i0 (.string ByteArray.empty) 1 16 Tryz.underlying35 hi hz0 hz1 hz2 rfl (by decide) _ _ _ rfl (hown2.alloc _) ⟨wr.heap.size, 0, none⟩ 1 1 [.string ⟨#[]⟩] rfl rfl ?c1 ?c2 ?c3 ?c4 ?c5 ?_)
        case c1 =>
          intro j u hj
          match j, hj with
          | 0, hj => simp at hj; subst hj; simp [Addr.add]
        case c2 => intro u hu; simp at hu; subst hu; rfl
        case c3 => unfold maxLen; omega
        case c4 => omega
        case c5 => simp; omega
        intro v' w3 hown' hgrow _
        have hnx' : Below w.heap.size w w3 := (HNX.out.alloc hs1 _).grown hgrow (by simp; omega) (fun g hg => (hown2.lt g hg).1)
        obtain ⟨a', c', hv, hg', hc1', hc2'⟩ := own_shape hown'
        obtain ⟨g', rfl⟩ := hg' (by omega)
        subst hv
        have HO : Hid (w3.ownsRow w.heap.size 9 1 (.slice (some ⟨g', 0, none⟩) (xs ++ [(⟨#[]⟩ : ByteArray)]).length c') (xs ++ [(⟨#[]⟩ : ByteArray)]).length ((xs ++ [(⟨#[]⟩ : ByteArray)]).map Value.string)) := by
          show w3.ownsRow _ _ _ _ _ _
          simpa using hown'
        clear hgrow hown2 hown'
        go_wp2
        go_roundw
        case rel => exact ⟨k + 1, g', c', xs ++ [(⟨#[]⟩ : ByteArray)], by omega, by go_num, by simp, by simp; omega, by simp, hc2', by simpa using hc1', HO.out, HN.out, (by
          intro x hx
          rcases List.mem_append.1 hx with h | h
          · have := HXZ.out x h; omega
          · simp at h; subst h; simp [ByteArray.size]), hnx'⟩
        case measure => simp [intOf]; omega
      · have hc47 : L[k] ≠ 47 := by rw [HGET.out]; intro e; exact h47 (by rw [e]; rfl)
        obtain ⟨pre, x, rfl, hnext⟩ := HAT.out.miss hlt' hc47
        have HNEXT := Lib.hid hnext
        have hxsz := HXZ.out x (by simp)
        obtain ⟨m, hm⟩ : ∃ m, pre.length = m := ⟨_, rfl⟩
        have hpl : (pre ++ [x]).length = m + 1 := by simp [hm]
        have hownx : wr.ownsRow w.heap.size 9 1 (.slice (some ⟨g, 0, none⟩) (pre.length + 1) c) (pre.length + 1) ((pre ++ [x]).map Value.string) := by simpa using HOWN.out
        have HOX := Lib.hid hownx
        have hcell : wr.cell? ⟨g, m, none⟩ = some (.string x) := by
          obtain ⟨_, ⟨hv, _⟩ | ⟨g', cap, cur, hv, hgB, hgh, hnc, hcm, hcs, htk⟩⟩ := hownx
          · cases hv
          · cases hv
            have : (cur.toList.take ((pre.length + 1) * 1))[m]? = some (.string x) := by rw [htk]; simp [← hm]
            rw [List.getElem?_take] at this
            split at this
            · simp only [World.cell?, hgh]; simpa using this
            · cases this
        have hfz : wr.frozen? ⟨g, m, none⟩ = false := by
          obtain ⟨_, ⟨hv, _⟩ | ⟨g', cap, cur, hv, hgB, hgh, hnc, hcm, hcs, htk⟩⟩ := hownx
          · cases hv
          · cases hv; simp [World.frozen?, hgh]
        have hgB : w.heap.size ≤ g := (hownx.lt g rfl).1
        have HM := Lib.hid hm
        rw [hpl] at hxk hx1 hxc ⊢
        have hm0 : (0 : Int) ≤ (m : Int) := by omega
        have hm1 : (m : Int) < ((m + 1 : Nat) : Int) := by omega
        have hk0 : (0 : Int) ≤ (k : Int) := by omega
        have hk1 : (k : Int) + 1 ≤ (s.size : Int) := by omega
        have hkw : IntKind.i64.wrap ((k : Int) + 1) = (k : Int) + 1 := IntWalk.i64_in _ (by omega)
        have hcat : (Op.stringOp .add x (s.extract k (k + 1))).run Tryz.prog wr.drew = .ok (.string (x ++ s.extract k (k + 1))) wr.drew := run_string_add_sum _ _ _ (by rw [ByteArray.size_extract]; omega)
        clear hnext hm hpl hownx hc47
        go_wp2_with fail
        go_region
        have HCELL := Lib.hid hcell
        clear hcat hkw hcell hfz
        have hy : (x ++ s.extract k (k + 1)).data.toList = x.data.toList ++ [L[k]] := by
          rw [ByteArray.data_append, Array.toList_append, Lib.extract_eq, HL.out]
          congr 1
          rw [List.drop_eq_getElem_cons hlt', show k + 1 - k = 1 by omega]
          rfl
        have hat' := HNEXT.out _ hy
        have hysz : (x ++ s.extract k (k + 1)).size ≤ k + 1 := by rw [ByteArray.size_append, ByteArray.size_extract]; omega
        obtain ⟨y, hyd⟩ : ∃ y, x ++ s.extract k (k + 1) = y := ⟨_, rfl⟩
        rw [hyd] at hat' hysz
        have hown' : ((wr.setCell ⟨g, m, none⟩ (.string y)).drew).ownsRow w.heap.size 9 1 (.slice (some ⟨g, 0, none⟩) (pre ++ [y]).length c) (pre ++ [y]).length ((pre ++ [y]).map Value.string) := by
          have h := own_str_set (y := y) HOX.out
          rw [HM.out] at h
          have e : (pre ++ [y]).length = m + 1 := by simp [HM.out]
          rw [e]
          exact h.drew
        have HO := Lib.hid hown'
        have HA := Lib.hid hat'
        have hnx' : Below w.heap.size w (wr.setCell ⟨g, m, none⟩ (.string y)).drew := (HNX.out.setCell hgB _).drew
        have HYD := Lib.hid hyd
        have hpy : (pre ++ [y]).length = m + 1 := by simp [HM.out]
        have HPY := Lib.hid hpy
        clear hy hat' hyd hown' hpy
        rw [HYD.out]
        go_wp2
        go_roundw
        case rel => exact ⟨k + 1, g, c, pre ++ [y], by omega, by go_num, by rw [HPY.out], by rw [HPY.out]; omega, by rw [HPY.out]; omega, by unfold maxLen; omega, by rw [HPY.out]; omega, HO.out, HA.out, (by
          intro z hz
          rcases List.mem_append.1 hz with h | h
          · have := HXZ.out z (by simp [h]); omega
          · simp at h; subst h; exact hysz), hnx'⟩
        case measure => simp [intOf]; omega
    · have hkk : k = s.size := by omega
      have hfull : xs.map (·.data.toList) = cutAt 47 L := by have := HAT.out; unfold PartsAt at this; rw [List.take_of_length_le (by have := HSZ.out; omega)] at this; exact this
      have HFU := Lib.hid hfull
      have HI := Lib.hid (strs_own HOWN.out)
      clear hfull hkk
      go_wp2
      go_ret
      exact ⟨xs, _, rfl, HI.out, HFU.out, HNX.out⟩

theorem okName_nil : okName [] = false := by decide +kernel

set_option maxHeartbeats 4000000 in
set_option maxRecDepth 100000 in
theorem mayR_any (s : ByteArray) (w : World) (hs : s.size ≤ maxLen) :
    Calls Tryz.prog 94 #[.string s] w fun e w' => e = .returned (.bool (okName s.data.toList)) ∧ Below w.heap.size w w' := by
  unfold maxLen at hs
  obtain ⟨r, hr⟩ : ∃ r, r = okName s.data.toList := ⟨_, rfl⟩
  rw [← hr]
  have HR := Lib.hid hr
  clear hr
  have hsz := Lib.hid (Lib.size_eq s)
  by_cases h1 : s.size < 1
  · have hf : r = false := by
      rw [HR.out, List.eq_nil_of_length_eq_zero (show s.data.toList.length = 0 by rw [← hsz.out]; omega), okName_nil]
    subst hf
    go_enter Tryz.func94, Tryz.ntmps94
    go_wp2
    go_ret
    exact ⟨rfl, Below.refl _ _⟩
  · by_cases h40 : 40 < s.size
    · have hf : r = false := by rw [HR.out, okName, decide_eq_false (by rw [← hsz.out]; omega)]; rfl
      subst hf
      go_enter Tryz.func94, Tryz.ntmps94
      go_wp2
      go_ret
      exact ⟨rfl, Below.refl _ _⟩
    · by_cases hcl : isCl s.data.toList = true
      · have hf : r = false := by rw [HR.out, okName, hcl]; simp
        subst hf
        have hcl' : s.toList = [114, 117, 108, 101] ∨ s.toList = [105, 110] ∨ s.toList = [111, 117, 116] ∨ s.toList = [97, 102, 116, 101, 114] := by
          rw [← Lib.toList_data] at hcl
          simp [isCl] at hcl
          rcases hcl with ((h | h) | h) | h
          · exact .inl h
          · exact .inr (.inl h)
          · exact .inr (.inr (.inl h))
          · exact .inr (.inr (.inr h))
        clear hcl HR
        rcases hcl' with h | h | h | h
        all_goals
          go_enter Tryz.func94, Tryz.ntmps94
          go_wp2
          go_ret
          exact ⟨rfl, Below.refl _ _⟩
      · have hn : (s.toList == [114, 117, 108, 101]) = false ∧ (s.toList == [105, 110]) = false ∧ (s.toList == [111, 117, 116]) = false ∧ (s.toList == [97, 102, 116, 101, 114]) = false := by
          rw [← Lib.toList_data] at hcl
          simp [isCl] at hcl
          obtain ⟨⟨⟨a1, a2⟩, a3⟩, a4⟩ := hcl
          exact ⟨by simpa using a1, by simpa using a2, by simpa using a3, by simpa using a4⟩
        obtain ⟨n1, n2, n3, n4⟩ := hn
        have hcf : isCl s.data.toList = false := by simpa using hcl
        have cP := partsR_any s w (by omega)
        have HRR : Hid (∀ xs : List ByteArray, xs.map (·.data.toList) = cutAt 47 s.data.toList → r = xs.all fun x => okPart x.data.toList) := by
          show ∀ xs : List ByteArray, _
          intro xs hx
          rw [HR.out, okName, hcf, ← hx, all_map_data, decide_eq_true (by rw [← hsz.out]; omega)]; rfl
        have HSM : Hid (∀ xs : List ByteArray, xs.map (·.data.toList) = cutAt 47 s.data.toList → xs.length ≤ 41 ∧ ∀ (k : Nat) x, xs[k]? = some x → x.size ≤ 40) := by
          show ∀ xs : List ByteArray, _
          intro xs hx
          have h1 := congrArg List.length hx
          rw [List.length_map] at h1
          have h2 := cutAt_length_le 47 s.data.toList
          rw [← hsz.out] at h2
          refine ⟨by omega, fun k x hk => ?_⟩
          have h3 : x.data.toList ∈ cutAt 47 s.data.toList := by rw [← hx]; exact List.mem_map_of_mem (List.mem_of_getElem? hk)
          have h4 := cutAt_len 47 s.data.toList _ h3
          rw [← hsz.out] at h4
          rw [Lib.size_eq x]; omega
        have CP := Lib.hid cP
        clear hcl hcf HR cP
        go_enter Tryz.func94, Tryz.ntmps94
        go_wp2_with fail
        refine CP.out.mono ?_
        rintro e w1 ⟨xs, v, rfl, hI, hx, hb1⟩
        obtain ⟨ad, cp, rfl, hc1, hc2, hcs⟩ := hI
        have HCS := Lib.hid hcs
        have hRR := HRR.out xs hx
        obtain ⟨hl41, hsm⟩ := HSM.out xs hx
        have HREQ := Lib.hid hRR
        have HSMX := Lib.hid hsm
        have HX1 := Lib.hid hb1
        clear hcs hx hRR hsm hb1 HRR HSM n1 n2 n3 n4 CP
        go_wp2_with fail
        go_loop [4] (fun i => ∃ k : Nat, k ≤ xs.length ∧ i = .int .i64 k ∧ ((xs.take k).all fun x => okPart x.data.toList) = true) (fun i => xs.length - (intOf i).toNat)
        case atStart => exact ⟨0, by omega, rfl, by simp⟩
        case round =>
          obtain ⟨k, hk, rfl, hall⟩ := hrel
          have HALL := Lib.hid hall
          clear hall
          by_cases hlt : k < xs.length
          · obtain ⟨x, hx⟩ : ∃ x, xs[k]? = some x := ⟨xs[k], List.getElem?_eq_getElem hlt⟩
            obtain ⟨bb, bo, rfl, hbb, hbc⟩ := HCS.out (by rintro rfl; simp at hlt)
            have hcx := hbc k x hx
            have hxs := HSMX.out k x hx
            have HA := Lib.hid (all_take_succ xs (fun x => okPart x.data.toList) k x hx)
            have HB := Lib.hid (all_false_at xs (fun x => okPart x.data.toList) k x hx)
            have hk0 : (0 : Int) ≤ (k : Int) := by omega
            have hk1 : (k : Int) < (xs.length : Int) := by omega
            clear hbc hx
            by_cases hsp : x.toList = [] ∨ x.toList = [46] ∨ x.toList = [46, 46]
            · have hbad : okPart x.data.toList = false := by
                rw [← Lib.toList_data]
                rcases hsp with h | h | h <;> simp [okPart, h]
              have hrf : r = false := by rw [HREQ.out, HB.out hbad]
              subst hrf
              clear hbad
              rcases hsp with h | h | h
              all_goals
                go_wp2
                go_ret
                exact ⟨rfl, HX1.out⟩
            · have e1 : x.toList.isEmpty = false := by rw [Bool.eq_false_iff]; intro h; exact hsp (.inl (by simpa using h))
              have e2 : (x.toList == [46]) = false := by rw [Bool.eq_false_iff]; intro h; exact hsp (.inr (.inl (by simpa using h)))
              have e3 : (x.toList == [46, 46]) = false := by rw [Bool.eq_false_iff]; intro h; exact hsp (.inr (.inr (by simpa using h)))
              have e0 : ¬ x.toList = [] := fun h => hsp (.inl h)
              have HOP := Lib.hid (okPart_rest (l := x.data.toList) (by rw [← Lib.toList_data]; exact hsp))
              have hxl := Lib.hid (Lib.size_eq x)
              clear hsp
              go_wp2_with fail
              go_loop [5] (fun i => ∃ j : Nat, j ≤ x.size ∧ i = .int .i64 j ∧ (x.data.toList.take j).all okByte = true) (fun i => x.size - (intOf i).toNat)
              case atStart => exact ⟨0, by omega, rfl, by simp⟩
              case round =>
                obtain ⟨j, hj, rfl, hja⟩ := hrel
                have HJA := Lib.hid hja
                clear hja
                by_cases hjlt : j < x.size
                · have hjlt' : j < x.data.toList.length := by rw [← Lib.size_eq]; exact hjlt
                  have hsucc := Lib.hid (take_all_succ x.data.toList okByte j hjlt')
                  have hfalse := Lib.hid (all_false_of x.data.toList okByte j hjlt')
                  have hget := Lib.hid (show x[j] = x.data.toList[j] from rfl)
                  obtain ⟨ok, hok⟩ : ∃ ok, okByte x[j] = ok := ⟨_, rfl⟩
                  have cS := fun w => signR_any x[j] w
                  simp only [hok] at cS
                  have HOK := Lib.hid hok
                  have CS := Lib.hid cS
                  clear hok cS
                  go_wp2_with fail
                  refine (CS.out _).mono ?_
                  rintro e w2 ⟨rfl, rfl⟩
                  cases ok
                  · have hrf : r = false := by rw [HREQ.out, HB.out (by rw [HOP.out]; exact hfalse.out (by rw [← hget.out]; exact HOK.out))]
                    subst hrf
                    go_wp2
                    go_ret
                    exact ⟨rfl, HX1.out⟩
                  · go_wp2
                    go_round
                    case rel => exact ⟨j + 1, by omega, by go_num, by rw [hsucc.out, HJA.out, ← hget.out, HOK.out]; rfl⟩
                    case measure => simp [intOf]; omega
                · have hpart : okPart x.data.toList = true := by
                    have h := HJA.out
                    rw [List.take_of_length_le (by rw [← hxl.out]; omega)] at h
                    rw [HOP.out, h]
                  have HPART := Lib.hid hpart
                  clear hpart
                  go_wp2
                  go_round
                  case rel => exact ⟨k + 1, by omega, by go_num, by rw [HA.out, HALL.out, HPART.out]; rfl⟩
                  case measure => simp [intOf]; omega
          · have hrt : r = true := by rw [HREQ.out]; have := HALL.out; rw [List.take_of_length_le (by omega)] at this; exact this
            have HRT := Lib.hid hrt
            clear hrt
            go_wp2
            go_ret
            exact ⟨ret_bool (by rw [HRT.out]), HX1.out⟩
end Go.Proofs.YtlmnabhhgplhnaaGreatDoor
