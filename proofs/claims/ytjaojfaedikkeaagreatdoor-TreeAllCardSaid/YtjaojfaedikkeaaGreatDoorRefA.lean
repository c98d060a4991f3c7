/- Contracts of the reference's Number and Put. -/
import Derived.Lib.ItoaLen
import Derived.Deep.RegionHeld3
import Derived.Test.YtjaojfaedikkeaaGreatDoorNumR
import Derived.Test.YtjaojfaedikkeaaGreatDoorMathH
namespace Go.Proofs.YtjaojfaedikkeaaGreatDoor
open Go.RowKit

/-- A number's digits. -/
def decB (n : Nat) : ByteArray := ⟨(Lib.decDigits n).toArray⟩
theorem decB_small {n : Nat} (h : n < 10) : decB n = digB n := by
  unfold decB digB
  rw [if_pos h, Lib.decDigits_one h]
theorem decB_big {n : Nat} (h : ¬ n < 10) : decB n = decB (n / 10) ++ decB (n % 10) := by
  apply ByteArray.ext
  rw [ByteArray.data_append]
  apply Array.toList_inj.1
  unfold decB
  conv => lhs; rw [Lib.decDigits, dif_neg h]
  rw [Lib.decDigits_one (show n % 10 < 10 by omega)]
  simp
theorem decB_size (n : Nat) (h : n ≤ 9223372036854775807) : (decB n).size ≤ 22 := by
  have := Lib.itoa_length_le (n : Int) (by omega) (by omega)
  unfold Lib.itoa at this
  rw [if_neg (by omega)] at this
  unfold decB ByteArray.size
  simp only [List.size_toArray]
  simp only [Int.toNat_natCast] at this
  omega

def numMost : Nat := 9223372036854775807
theorem tdivmod (n : Nat) : (n : Int).tdiv 10 = ((n / 10 : Nat) : Int) ∧ (n : Int).tmod 10 = ((n % 10 : Nat) : Int) :=
  ⟨by rw [Int.tdiv_eq_ediv_of_nonneg (by omega)]; omega, by rw [Int.tmod_eq_emod_of_nonneg (by omega)]; omega⟩

set_option maxRecDepth 100000 in
theorem numR_full : ∀ (f n : Nat), n < f → n ≤ numMost → ∀ (w : World),
    Calls Tryz.prog 46 #[.int .i64 n] w fun e w' => e = .returned (.string (decB n)) ∧ Below w.heap.size w w' := by
  intro f
  induction f with
  | zero => intro n hf; omega
  | succ f ih =>
    intro n hf hm w
    by_cases h10 : n < 10
    · rw [decB_small h10]; exact numR_one n h10 w
    · have hd := decB_big h10
      have c1 := fun w => ih (n / 10) (by omega) (by omega) w
      have c2 := fun w => numR_one (n % 10) (by omega) w
      rw [← decB_small (show n % 10 < 10 by omega)] at c2
      obtain ⟨e1, e2⟩ := tdivmod n
      have l1 : (decB (n / 10)).size ≤ 22 := decB_size _ (by unfold numMost at hm; omega)
      have l2 : (decB (n % 10)).size ≤ 22 := decB_size _ (by omega)
      have hn : n ≤ 9223372036854775807 := hm
      have hp : n / 10 ≤ 922337203685477580 := by omega
      have hq : n % 10 < 10 := by omega
      clear ih hm hf
      generalize decB (n / 10) = x at *
      generalize decB (n % 10) = y at *
      generalize n / 10 = p at *
      generalize n % 10 = q at *
      rw [hd]
      have C1 := Lib.hid c1
      have C2 := Lib.hid c2
      clear c1 c2 hd
      go_enter Tryz.func46, Tryz.ntmps46
      go_wp2_with fail
      refine (C1.out w).mono ?_
      rintro e w1 ⟨rfl, hb1⟩
      go_wp2_with fail
      refine (C2.out w1).mono ?_
      rintro e w2 ⟨rfl, hb2⟩
      replace hb2 := chain hb1 hb2
      clear hb1
      go_wp2
      go_ret
      exact ⟨rfl, hb2⟩

theorem numR_any' (n : Nat) (h : n ≤ 9223372036854775807) (w : World) :
    Calls Tryz.prog 46 #[.int .i64 n] w fun e w' => e = .returned (.string (decB n)) ∧ Below w.heap.size w w' :=
  numR_full (n + 1) n (by omega) h w

theorem decB_data (n : Nat) : (decB n).data.toList = numS (n : Int) := by rw [numS_nat]; rfl

def putB (xs : List ByteArray) : ByteArray := ⟨(putS (xs.map (·.data.toList))).toArray⟩
theorem putB_size (xs : List ByteArray) : (putB xs).size = (putS (xs.map (·.data.toList))).length := by simp [putB, ByteArray.size]
theorem putB_next (xs : List ByteArray) (k : Nat) (x : ByteArray) (h : xs[k]? = some x) : putB (xs.take k) ++ (decB x.size ++ ⟨#[58]⟩ ++ x) = putB (xs.take (k + 1)) := by
  apply ByteArray.ext
  apply Array.toList_inj.1
  have e := putS_next xs k x h
  simp only [ByteArray.data_append, Array.toList_append, decB_data]
  unfold putB
  simp only [e, List.append_assoc]

set_option maxHeartbeats 2000000 in
set_option maxRecDepth 100000 in
/-- The reference's Put. -/
theorem putR_any (v : Value) (xs : List ByteArray) (w : World) (h : IsStrs w v xs) (hN : xs.length ≤ 1000000)
    (hlen : (putB xs).size ≤ 140737488351232) :
    Calls Tryz.prog 28 #[v] w fun e w' => e = .returned (.string (putB xs)) ∧ Below w.heap.size w w' := by
  obtain ⟨a, c, rfl, h1, h1m, h2⟩ := h
  have hcells : ∀ (k : Nat) x, xs[k]? = some x → ∃ b o, a = some ⟨b, o, none⟩ ∧ b < w.heap.size ∧ w.cell? ⟨b, o + k, none⟩ = some (.string x) := by
    intro k x hx
    obtain ⟨b, o, ha, hb, hc⟩ := h2 (by rintro rfl; simp at hx)
    exact ⟨b, o, ha, hb, hc k x hx⟩
  have HC := Lib.hid hcells
  have HLE := Lib.hid hlen
  have HFULL := Lib.hid (show putB (xs.take xs.length) = putB xs by rw [List.take_length])
  have HLEN : Hid (∀ k, (putB (xs.take k)).size ≤ (putB xs).size) := by
    show ∀ k, _
    intro k
    rw [putB_size, putB_size]
    exact putS_take_le xs k
  have HNEXT : Hid (∀ k x, xs[k]? = some x → putB (xs.take k) ++ (decB x.size ++ ⟨#[58]⟩ ++ x) = putB (xs.take (k + 1))) := by
    show ∀ k x, _
    exact fun k x h => putB_next xs k x h
  have H0 : putB (xs.take 0) = ⟨#[]⟩ := by simp [putB, putS]
  clear hcells h2 hlen
  unfold maxLen at h1m
  go_enter Tryz.func28, Tryz.ntmps28
  go_wp2
  go_loopw [3, 4] (fun s i wr => ∃ k : Nat, k ≤ xs.length ∧ i = .int .i64 k ∧ s = .string (putB (xs.take k)) ∧ Below w.heap.size w wr)
    (fun _ i _ => xs.length - (intOf i).toNat)
  case atStart => exact ⟨0, Nat.zero_le _, rfl, by rw [H0], Below.refl _ _⟩
  case round =>
    obtain ⟨k, hk, rfl, rfl, hnx⟩ := hrel
    have HNX := Lib.hid hnx
    clear hnx H0
    by_cases hlt : k < xs.length
    · obtain ⟨x, hx⟩ : ∃ x, xs[k]? = some x := ⟨xs[k], List.getElem?_eq_getElem hlt⟩
      obtain ⟨b, o, ha, hb, hc⟩ := HC.out k x hx
      subst ha
      have hcx : wr.cell? ⟨b, o + k, none⟩ = some (.string x) := (HNX.out.cell (by exact hb)).trans hc
      have hnext := HNEXT.out k x hx
      have hl := HLEN.out (k + 1)
      rw [← hnext] at hl
      have hall := HLE.out
      have hxs : x.size ≤ 140737488351232 := by
        simp only [ByteArray.size_append] at hl; omega
      have hds := decB_size x.size (by omega)
      have hcur : (putB (xs.take k)).size + ((decB x.size).size + 1 + x.size) ≤ 140737488351232 := by
        simp only [ByteArray.size_append] at hl
        have : (⟨#[58]⟩ : ByteArray).size = 1 := rfl
        omega
      have cN := fun w => numR_any' x.size (by omega) w
      obtain ⟨D, hD⟩ : ∃ D, decB x.size = D := ⟨_, rfl⟩
      obtain ⟨S, hS⟩ : ∃ S, putB (xs.take k) = S := ⟨_, rfl⟩
      rw [hD] at cN hnext hds hcur
      rw [hS] at hnext hcur
      rw [hS]
      have HNEW := Lib.hid hnext
      have CN := Lib.hid cN
      have hbs : b < wr.heap.size := Nat.lt_of_lt_of_le hb HNX.out.size
      have HBS := Lib.hid hbs
      have h58 : (⟨#[58]⟩ : ByteArray).size = 1 := rfl
      have ha1 : ∀ w, (Op.stringOp .add D ⟨#[58]⟩).run Tryz.prog w = .ok (.string (D ++ ⟨#[58]⟩)) w := fun w => run_string_add_sum _ _ _ (by omega)
      have ha2 : ∀ w, (Op.stringOp .add (D ++ ⟨#[58]⟩) x).run Tryz.prog w = .ok (.string (D ++ ⟨#[58]⟩ ++ x)) w := fun w => run_string_add_sum _ _ _ (by rw [ByteArray.size_append]; omega)
      have ha3 : ∀ w, (Op.stringOp .add S (D ++ ⟨#[58]⟩ ++ x)).run Tryz.prog w = .ok (.string (S ++ (D ++ ⟨#[58]⟩ ++ x))) w := fun w => run_string_add_sum _ _ _ (by rw [ByteArray.size_append, ByteArray.size_append]; omega)
      clear hnext hl hall hc hx hb hD hS cN hbs h58
      go_wp2_with fail
      go_region_held3 (fun w' => w'.cell? ⟨b, o + k, none⟩ = some (.string x)) (first | go_keep | (rw [hb2.cell (p := ⟨b, o + k, none⟩) HBS.out]; exact hcx))
        (first | (go_at_call 46; refine (CN.out _).mono ?_; rintro e w2 ⟨rfl, hb2⟩))
      have hnx2 := chain HNX.out.drew hb2
      have HNX2 := Lib.hid hnx2
      clear hb2 hnx2
      go_wp2
      go_roundw
      case rel => exact ⟨k + 1, by omega, by go_num, by rw [← HNEW.out], HNX2.out⟩
      case measure => simp [intOf]; omega
    · have hk' : k = xs.length := by omega
      have HK := Lib.hid hk'
      clear hk'
      go_wp2
      go_ret
      exact ⟨ret_str (by rw [HK.out, HFULL.out]), HNX.out⟩
end Go.Proofs.YtjaojfaedikkeaaGreatDoor
