import Derived.Test.YtdhmeganlnpohaaGreatDoorMbv
import Derived.Test.YtdhmeganlnpohaaGreatDoorMby
namespace Go.Proofs.YtdhmeganlnpohaaGreatDoor.lawStepLines
open Go.RowKit Go.Shelf
def accS (xs : List ByteArray) (k : Nat) : List UInt8 := joinN ((xs.take k).map (·.data.toList))
theorem accS_next {xs : List ByteArray} {k : Nat} {x : ByteArray} (h : xs[k]? = some x) : accS xs (k + 1) = accS xs k ++ (x.data.toList ++ [10]) := by
 unfold accS; rw [List.take_add_one, h, List.map_append, joinN_append]; simp [joinN]
theorem bytes_ext {a b : ByteArray} (h : a.data.toList = b.data.toList) : a = b := by
 cases a; cases b; simp only at h; congr 1; exact Array.toList_inj.1 h
set_option maxHeartbeats 8000000
set_option maxRecDepth 100000
theorem law (s : ByteArray) (w : World) (hs : s.size ≤ maxLen) (hG : GP w.heap.size w) :
  Calls Tryz.prog 12 #[.string s] w fun e w' => e = .returned (.bool true) ∧ Below w.heap.size w w' := by
 have hsh := fun w => short_any s 200 w hs (by decide) (by decide)
 obtain ⟨t, ht⟩ : ∃ t : ByteArray, t = s.extract 0 (min s.size (Int.toNat 200)) := ⟨_, rfl⟩
 rw [← ht] at hsh
 have htl : t.size ≤ 200 := by rw [ht]; simp; omega
 have HSH := Lib.hid hsh
 have HTL := Lib.hid htl
 have HCB := Lib.hid (begun7_any w hG)
 clear hsh ht hG htl
 go_enter Tryz.func12, Tryz.ntmps12
 go_wp2_with fail
 refine HCB.out.mono ?_
 rintro e w1 ⟨rfl, hb1⟩
 have HB1 := Lib.hid hb1
 clear hb1
 go_wp2_with fail
 refine (HSH.out _).mono ?_
 rintro e w1' ⟨rfl, rfl⟩
 go_wp2_with fail
 refine (stepLines_any t w1 (by have := HTL.out; omega)).mono ?_
 rintro e w2 ⟨v, rfl, ho, hnil, hb2⟩
 have HB2 := Lib.hid (HB1.out.trans (hb2.mono HB1.out.size))
 obtain ⟨xs, hxs⟩ : ∃ xs, linesB t = xs := ⟨_, rfl⟩
 have hdata : xs.map (·.data.toList) = linesL t.data.toList := by rw [← hxs]; exact linesB_data t
 rw [hxs] at ho hnil
 have hlen : xs.length ≤ t.size := by
  have h1 := congrArg List.length hdata
  rw [List.length_map] at h1
  rw [h1, Lib.size_eq]; exact lines_len _
 have HX : Hid (∀ x ∈ xs, x.size ≤ 200 ∧ (10 : UInt8) ∉ x.data.toList) := by
  show ∀ x ∈ xs, _
  intro x hx
  have hm : x.data.toList ∈ linesL t.data.toList := by rw [← hdata]; exact List.mem_map_of_mem hx
  refine ⟨?_, lines_pure _ _ hm⟩
  have := lines_each _ _ hm
  have h2 := HTL.out
  rw [← Lib.size_eq, ← Lib.size_eq] at this
  omega
 obtain ⟨a, c, rfl, hlc, hcm, hcell⟩ := own_isStrs ho
 have HC := Lib.hid hcell
 have HD := Lib.hid hdata
 have HLC := Lib.hid hlc
 have htl := HTL.out
 clear hcell hdata ho hnil hb2 hxs
 go_wp2
 go_loop [4, 16] (fun sv i => ∃ (k : Nat) (T : ByteArray), k ≤ xs.length ∧ i = .int .i64 (k : Int) ∧ sv = .string T ∧ T.data.toList = accS xs k ∧ T.size ≤ k * 201) (fun _ i => xs.length - (intOf i).toNat)
 case atStart => exact ⟨0, ⟨#[]⟩, Nat.zero_le _, rfl, rfl, rfl, Nat.zero_le _⟩
 case round =>
  obtain ⟨k, T, hk, rfl, rfl, hT, hTs⟩ := hrel
  have HT := Lib.hid hT
  clear hT
  by_cases hlt : k < xs.length
  ·obtain ⟨x, hx⟩ : ∃ x, xs[k]? = some x := ⟨xs[k], List.getElem?_eq_getElem hlt⟩
   obtain ⟨b, o, rfl, hbw, hce⟩ := HC.out (by intro h; rw [h] at hlt; simp at hlt)
   have hc0 := hce k x hx
   obtain ⟨hx2, hpure⟩ := HX.out x (List.mem_of_getElem? hx)
   have hne : ∀ m (h : m < x.size), ¬ (x[m].toNat : Int) = 10 := by
    intro m h e
    apply hpure
    have h1 : x[m].toNat = 10 := by omega
    have h2 : x[m] = 10 := UInt8.toNat_inj.1 (by rw [h1]; rfl)
    rw [← h2]
    exact List.getElem_mem (l := x.data.toList) (n := m) (by rw [← Lib.size_eq]; exact h)
   have HNE := Lib.hid hne
   have HTN : Hid ((T ++ (x ++ ⟨#[10]⟩) : ByteArray).data.toList = accS xs (k + 1)) := by
    show _ = _
    rw [ByteArray.data_append, Array.toList_append, HT.out, ByteArray.data_append, Array.toList_append, accS_next hx]
   have hi1 : (k : Int) < (xs.length : Int) := by omega
   clear hce hpure hne hx
   go_wp2
   go_loop [7] (fun i => ∃ m : Nat, m ≤ x.size ∧ i = .int .i64 (m : Int)) (fun i => x.size - (intOf i).toNat)
   case atStart => exact ⟨0, Nat.zero_le _, rfl⟩
   case round =>
    obtain ⟨m, hm, rfl⟩ := hrel
    by_cases hlm : m < x.size
    ·have h10 := HNE.out m hlm
     go_wp2
     go_round
     case rel => exact ⟨m + 1, by omega, by go_num⟩
     case measure => simp [intOf]; omega
    ·go_wp2
     go_round
     case rel =>
      refine ⟨k + 1, _, by omega, by go_num, rfl, HTN.out, ?_⟩
      simp only [ByteArray.size_append, show (⟨#[10]⟩ : ByteArray).size = 1 from rfl]; omega
     case measure => simp [intOf]; omega
  ·obtain rfl : k = xs.length := by omega
   have hTl : T.data.toList = joinN (linesL t.data.toList) := by rw [HT.out, ← HD.out]; unfold accS; rw [List.take_length]
   have hi1 : ¬ (xs.length : Int) < (xs.length : Int) := by omega
   rcases join_lines t.data.toList with h | ⟨h, hl⟩
   ·obtain rfl : T = t := bytes_ext (hTl.trans h)
    have hq : (T.toList == T.toList) = true := by simp
    clear hTl h
    go_wp2
    go_ret
    exact ⟨rfl, HB2.out⟩
   ·obtain rfl : T = t ++ ⟨#[10]⟩ := bytes_ext (by rw [hTl, h, ByteArray.data_append, Array.toList_append])
    have hq : ((t ++ ⟨#[10]⟩).toList == t.toList) = false := by
     rw [ByteArray.toList_eq, ByteArray.toList_eq, ByteArray.data_append, Array.toList_append]
     simp
    have hq2 : ((t ++ ⟨#[10]⟩).toList == (t ++ ⟨#[10]⟩).toList) = true := by simp
    have h0 : t.size ≠ 0 := by
     intro h0
     have : t.data.toList = [] := List.eq_nil_of_length_eq_zero (by rw [← Lib.size_eq]; exact h0)
     rw [this, linesL_nil, joinN_nil] at h
     simp at h
    have h10 : ¬ (t[t.size - 1].toNat : Int) = 10 := by
     intro e
     apply hl
     have h1 : t[t.size - 1].toNat = 10 := by omega
     have h2 : t[t.size - 1] = 10 := UInt8.toNat_inj.1 (by rw [h1]; rfl)
     rw [← h2, List.getLast?_eq_getElem?, ← Lib.size_eq]
     exact List.getElem?_eq_getElem (l := t.data.toList) (by rw [← Lib.size_eq]; omega)
    have hfin : (((t.size : Int) == 0) || ((t[t.size - 1].toNat : Int) != 10)) = true := by
     rw [Bool.or_eq_true]; right; simpa using h10
    have HF := Lib.hid hfin
    clear hTl h hl hfin
    go_wp2
    go_ret
    exact ⟨congrArg (fun b => Ending.returned (Value.bool b)) HF.out, HB2.out⟩
end Go.Proofs.YtdhmeganlnpohaaGreatDoor.lawStepLines
