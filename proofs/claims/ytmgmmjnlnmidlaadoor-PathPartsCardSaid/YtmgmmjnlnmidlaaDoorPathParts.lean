/- The law on a name's parts: for every text the call returns true. No condition. -/
import Derived.Test.YtmgmmjnlnmidlaaDoorWalkR
namespace Go.Proofs.YtmgmmjnlnmidlaaDoor.lawPathParts
open Go.RowKit

theorem any_next (xs : List ByteArray) (k : Nat) (x : ByteArray) (h : xs[k]? = some x) : ((xs.take (k + 1)).any fun x => x.toList.isEmpty) = (((xs.take k).any fun x => x.toList.isEmpty) || x.toList.isEmpty) := by
  rw [List.take_add_one, h, List.any_append]; simp
theorem sum_next (xs : List ByteArray) (k : Nat) (x : ByteArray) (h : xs[k]? = some x) : ((xs.take (k + 1)).map ByteArray.size).sum = ((xs.take k).map ByteArray.size).sum + x.size := by
  rw [List.take_add_one, h]; simp
theorem sum_le (xs : List ByteArray) (k : Nat) : ((xs.take k).map ByteArray.size).sum ≤ (xs.map ByteArray.size).sum := by
  have e : (xs.map ByteArray.size).sum = ((xs.take k ++ xs.drop k).map ByteArray.size).sum := by rw [List.take_append_drop]
  rw [e, List.map_append, List.sum_append]; omega
theorem full_join (xs : List ByteArray) (l : List UInt8) (h : xs.map (·.data.toList) = cutAt 47 l) (hn : (xs.any fun x => x.toList.isEmpty) = false) : joinS (xs.map (·.data.toList)) = l := by
  unfold joinS
  have e : nonE (xs.map (·.data.toList)) = xs.map (·.data.toList) := by
    unfold nonE
    rw [List.filter_eq_self]
    intro a ha
    obtain ⟨x, hx, rfl⟩ := List.mem_map.1 ha
    rw [List.any_eq_false] at hn
    have := hn x hx
    rw [Lib.toList_data] at this
    simpa using this
  rw [e, h, cutAt_join]

set_option maxHeartbeats 2000000 in
theorem law (s : ByteArray) (w : World) (hs : s.size ≤ maxLen) (hG : Glob w) :
    Calls Tryd.prog 4 #[.string s] w fun e w' => e = .returned (.bool true) ∧ Below w.heap.size w w' := by
  have hsh := fun w => short_any s 60 w hs (by decide) (by decide)
  obtain ⟨t, ht⟩ : ∃ t : ByteArray, t = s.extract 0 (min s.size (Int.toNat 60)) := ⟨_, rfl⟩
  rw [← ht] at hsh
  have htl : t.size ≤ 60 := by rw [ht]; simp; omega
  have HSH := Lib.hid hsh
  have HG := Lib.hid hG
  clear hsh ht hG
  go_enter Tryd.func4, Tryd.ntmps4
  go_wp2_with fail
  refine (begun_any w HG.out).mono ?_
  rintro e w1 ⟨rfl, hb1⟩
  have hg1 := HG.out.below hb1
  obtain ⟨m, hm⟩ := hg1.max
  have HM := Lib.hid hm
  clear hm
  go_wp2_with fail
  refine (HSH.out _).mono ?_
  rintro e w1' ⟨rfl, rfl⟩
  go_wp2_with fail
  refine (parts_any t m w1 (by omega) HM.out).mono ?_
  rintro e w' ⟨xs, hx, rfl, rfl⟩
  have hlen := congrArg List.length hx
  rw [List.length_map] at hlen
  have hcl := cutAt_length_le 47 t.data.toList
  rw [← hlen, ← Lib.size_eq] at hcl
  have hsum := cutAt_sum 47 t.data.toList
  rw [← hx, sum_data, List.length_map, ← Lib.size_eq] at hsum
  have HX := Lib.hid hx
  have HSUM := Lib.hid hsum
  have hcs : ∀ (k : Nat) x, xs[k]? = some x → (w1.alloc (.cells (xs.map Value.string).toArray 9)).cell? ⟨w1.heap.size, k, none⟩ = some (.string x) := fun k x h => cell_strs w1 xs 9 k x h
  have HCS := Lib.hid hcs
  have hb2 : Below w.heap.size w (w1.alloc (.cells (xs.map Value.string).toArray 9)) := hb1.alloc hb1.size _
  have HB2 := Lib.hid hb2
  clear hcs hlen hx hsum hb2
  go_wp2
  go_loop [5, 6, 7] (fun em n i => ∃ (k : Nat) (b : Bool), k ≤ xs.length ∧ i = .int .i64 k ∧ em = .bool b ∧ b = ((xs.take k).any fun x => x.toList.isEmpty) ∧ n = .int .i64 ((xs.take k).map ByteArray.size).sum) (fun _ _ i => xs.length - (intOf i).toNat)
  case atStart => exact ⟨0, false, Nat.zero_le _, rfl, rfl, rfl, rfl⟩
  case round =>
    obtain ⟨k, b, hk, rfl, rfl, hany, rfl⟩ := hrel
    have HANY := Lib.hid hany
    have hsl := sum_le xs k
    have hst := HSUM.out
    clear hany
    obtain ⟨sm, hsm⟩ : ∃ sm, ((xs.take k).map ByteArray.size).sum = sm := ⟨_, rfl⟩
    rw [hsm] at hsl ⊢
    have HSM := Lib.hid hsm
    clear hsm
    by_cases hlt : k < xs.length
    · obtain ⟨x, hx⟩ : ∃ x, xs[k]? = some x := ⟨xs[k], List.getElem?_eq_getElem hlt⟩
      have hcell := HCS.out k x hx
      have hn1 := any_next xs k x hx
      have hn2 := sum_next xs k x hx
      have hsl2 := sum_le xs (k + 1)
      rw [hn2, HSM.out] at hsl2
      have HN1 := Lib.hid hn1
      have HN2 := Lib.hid hn2
      clear hn1 hn2 hx
      have hslx : sm + x.size ≤ 60 + 1 := by omega
      clear hst hsl hsl2
      cases b
      · by_cases he : x.toList = []
        · have he' : x.toList.isEmpty = true := by rw [he]; rfl
          go_wp2
          go_round
          case rel => exact ⟨k + 1, true, by omega, by go_num, rfl, by rw [HN1.out, ← HANY.out, he']; rfl, by rw [HN2.out, HSM.out]; go_num⟩
          case measure => simp [intOf]; omega
        · have he' : x.toList.isEmpty = false := List.isEmpty_eq_false_iff.2 he
          go_wp2
          go_round
          case rel => exact ⟨k + 1, false, by omega, by go_num, rfl, by rw [HN1.out, ← HANY.out, he']; rfl, by rw [HN2.out, HSM.out]; go_num⟩
          case measure => simp [intOf]; omega
      · go_wp2
        go_round
        case rel => exact ⟨k + 1, true, by omega, by go_num, rfl, by rw [HN1.out, ← HANY.out]; rfl, by rw [HN2.out, HSM.out]; go_num⟩
        case measure => simp [intOf]; omega
    · have hfull : xs.take k = xs := List.take_of_length_le (by omega)
      have hsm2 : sm + xs.length = t.size + 1 := by rw [← HSM.out, hfull]; exact HSUM.out
      have hxl : 1 ≤ xs.length := by
        rcases Nat.eq_zero_or_pos xs.length with h0 | h0
        · exfalso
          have := HX.out
          rw [List.eq_nil_of_length_eq_zero h0] at this
          exact cutAt_ne 47 _ this.symm
        · exact h0
      have htest : ((sm : Int) + (xs.length : Int) - 1 == (t.size : Int)) = true := by rw [beq_iff_eq]; omega
      have HT := Lib.hid htest
      clear hst hsl
      cases b
      · have hj := full_join xs _ HX.out (by rw [← hfull]; exact HANY.out.symm)
        have hS := strs_of_alloc w1 xs _ rfl (by omega)
        have cJ := join_any _ xs _ hS (by omega) (by rw [hj, ← Lib.size_eq]; omega)
        rw [hj, Lib.mk_data] at cJ
        have hd : (t.toList == t.toList) = true := by simp
        clear hfull hj hS
        go_wp2_with fail
        refine cJ.mono ?_
        rintro e w3 ⟨rfl, hb3⟩
        go_wp2
        go_ret
        exact ⟨rfl, chain HB2.out hb3⟩
      · clear hfull
        go_wp2
        go_ret
        exact ⟨rfl, HB2.out⟩
end Go.Proofs.YtmgmmjnlnmidlaaDoor.lawPathParts
