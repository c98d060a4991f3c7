/- The law ParsePrefix: the walk. -/
import Derived.Test.YtknpcbjjofdlmaaGreatDoorMbeg
import Derived.Test.YtknpcbjjofdlmaaGreatDoorRqI
import Derived.Test.YtknpcbjjofdlmaaGreatDoorFilS
import Derived.Test.YtknpcbjjofdlmaaGreatDoorMprq
namespace Go.Proofs.YtknpcbjjofdlmaaGreatDoor.lawParsePrefix
open Go.RowKit Go.Shelf

set_option maxHeartbeats 8000000 in
set_option maxRecDepth 100000 in
theorem law (v : Value) (xs : List RuleS) (at' : Int) (w : World) (hI : RulesI w v xs) (hu : xs.length ≤ 1048576 ∧ ∀ y ∈ xs, SmallR y 1048576) (hG : GP w.heap.size w) :
    Calls Tryz.prog 6 #[v, .int .i64 at'] w fun e w' => e = .returned (.bool true) ∧ Below w.heap.size w w' := by
  have C0 := Lib.hid (begun4_any w hG)
  have CL : Hid (∀ w', Below w.heap.size w w' → Calls Tryz.prog 9 #[v] w' (SortedRulesPost w' (cutRs 42 xs))) := by
    show ∀ w', _
    exact fun w' hb => lawRules_any v xs w' (hI.below hb) hu.2
  obtain ⟨ys, hys⟩ : ∃ ys, cutRs 42 xs = ys := ⟨_, rfl⟩
  have hyl : ys.length ≤ 42 := by rw [← hys, cutRs_len]; omega
  have HYS : Hid (∀ y ∈ ys, SmallR y 1048576 ∧ ShortR y) := by
    show ∀ y ∈ ys, _
    intro y hy
    rw [← hys] at hy
    obtain ⟨x, hx, rfl⟩ := List.mem_map.1 (show y ∈ (xs.take 42).map cutR from hy)
    exact ⟨small_cutR (hu.2 x (List.mem_of_mem_take hx)), short_cutR x⟩
  rw [hys] at CL
  obtain ⟨S, hS⟩ : ∃ S : ByteArray, (⟨(allQ (ys.take 2)).toArray⟩ : ByteArray) = S := ⟨_, rfl⟩
  have CA : Hid (∀ w' v', RulesI w' v' (ys.take 2) → Calls Tryz.prog 10 #[v'] w' fun e w'' => e = .returned (.string S) ∧ Below w'.heap.size w' w'') := by
    show ∀ w' v', _
    intro w' v' h
    have hl : (ys.take 2).length ≤ 2 := by rw [List.length_take]; omega
    have := allQ_any v' (ys.take 2) w' h (by omega) (fun x hx => (HYS.out x (List.mem_of_mem_take hx)).1) (allQ_len _ (by omega) fun x hx => HYS.out x (List.mem_of_mem_take hx))
    rw [hS] at this
    exact this
  have CF : Hid (∀ (x : ByteArray) w', x.size ≤ 20000 → Below w.heap.size w w' → Calls Tryz.prog 15 #[.string x] w' fun e w'' => FileE x.data.toList w' w'' e ∧ Below w'.heap.size w' w'') := by
    show ∀ (x : ByteArray) w', _
    intro x w' hx hb
    exact file_any x w' (by unfold maxLen; omega) ((hG.below hb).up hb.size)
  have CR : Hid (∀ (x : ByteArray) w', x.size ≤ 20000 → Below w.heap.size w w' → Calls Tryz.prog 11 #[.string x] w' fun e w'' => e = .returned (.bool true) ∧ Below w'.heap.size w' w'') := by
    show ∀ (x : ByteArray) w', _
    exact fun x w' hx hb => reads_any x w' (by omega) ((hG.below hb).up hb.size)
  have hSl : S.size ≤ 1000000000000 := by
    rw [← hS, arr_len]
    exact allQ_len _ (by rw [List.length_take]; omega) fun x hx => HYS.out x (List.mem_of_mem_take hx)
  clear hI hu hG hys hS
  go_enter Tryz.func6, Tryz.ntmps6
  go_wp2_with fail
  refine C0.out.mono ?_
  rintro e w1 ⟨rfl, hb1⟩
  have HB1 := Lib.hid hb1
  clear hb1
  go_wp2_with fail
  refine (CL.out _ HB1.out).mono ?_
  rintro e w2 ⟨ra, rn, rc, rfl, hown, hb2⟩
  have hri := hown.rulesA.rulesI
  obtain ⟨a', c', q, hrc, hrm⟩ := rulesI_len hri
  injection q with q1 q2 q3
  subst q2 q3
  have hrt := rulesI_take hri 2
  have HRT := Lib.hid hrt
  have HB2 := Lib.hid (HB1.out.trans (hb2.mono HB1.out.size))
  have e1 := take_len ys.length 2 2 rfl
  have k1 : (0 : Int) ≤ min (ys.length : Int) 2 := by omega
  have m1 : min (ys.length : Int) 2 ≤ (rc : Int) := by omega
  unfold maxLen at hrm
  clear hown hri hrt hb2 q1
  go_wp2_with fail
  refine (CA.out _ _ HRT.out).mono ?_
  rintro e w3 ⟨rfl, hb3⟩
  have HB3 := Lib.hid (HB2.out.trans (hb3.mono HB2.out.size))
  clear hb3 e1 k1 m1
  by_cases h0 : S.size = 0
  · have h0b : ((S.size : Int) == 0) = true := by simp [h0]
    have h0c : (S.size == 0) = true := by simp [h0]
    clear h0
    go_wp2
    go_ret
    exact ⟨rfl, HB3.out⟩
  · have h0b : ((S.size : Int) == 0) = false := by simp [h0]
    have h0c : (S.size == 0) = false := by simp [h0]
    by_cases h3 : 3000 < S.size
    · have h3b : (3000 : Int) < (S.size : Int) := by omega
      clear h0
      go_wp2
      go_ret
      exact ⟨rfl, HB3.out⟩
    · have h3b : ¬ (3000 : Int) < (S.size : Int) := by omega
      by_cases hat : at' < 0
      · clear h0
        go_wp2
        go_ret
        exact ⟨rfl, HB3.out⟩
      · have hat0 : 0 ≤ at' := by omega
        obtain ⟨p, hp, hpl⟩ : ∃ p : Nat, at'.tmod (S.size : Int) = (p : Int) ∧ p < S.size := by
          have q1 := Int.tmod_lt_of_pos at' (show (0 : Int) < (S.size : Int) by omega)
          have q2 := Int.tmod_nonneg (S.size : Int) hat0
          exact ⟨(at'.tmod (S.size : Int)).toNat, by omega, by omega⟩
        have hem : at' % (S.size : Int) = (p : Int) := by rw [← Int.tmod_eq_emod_of_nonneg hat0]; exact hp
        have hnz : ¬ (S.size : Int) = 0 := by omega
        obtain ⟨U, hU⟩ : ∃ U : ByteArray, S.extract 0 p = U := ⟨_, rfl⟩
        have hUs : U.size = p := by rw [← hU, ByteArray.size_extract]; omega
        have hp0 : (0 : Int) ≤ (p : Int) := by omega
        have hp1 : (p : Int) ≤ (S.size : Int) := by omega
        have HU := Lib.hid hU
        have HUS := Lib.hid hUs
        clear h0 hat hU hUs
        go_wp2_with fail
        rw [HU.out]
        refine (CF.out U _ (by have := HUS.out; omega) HB3.out).mono ?_
        rintro e w4 ⟨he, hb4⟩
        obtain ⟨fa, fnn, fc, k1, p1, rfl, hv1⟩ := file_shape he
        have HB4 := Lib.hid (HB3.out.trans (hb4.mono HB3.out.size))
        have HA4 := Lib.hid (HB4.out.alloc HB4.out.size (.cells #[.int .i64 k1, .int .i64 p1] 34))
        have HV1 := Lib.hid hv1
        clear he hb4 hv1
        go_wp2_with fail
        rw [HU.out]
        refine (CR.out U _ (by have := HUS.out; omega) HA4.out).mono ?_
        rintro e w5 ⟨rfl, hb5⟩
        obtain ⟨x0, x1, _, _⟩ := cells2 ((hb5.block w4.heap.size (by simp)).trans (alloc_at w4 _))
        have HB5 := Lib.hid (HA4.out.trans (hb5.mono HA4.out.size))
        clear hb5 hp hem hnz
        rcases HV1.out with ⟨x, hx, hk1, hp1', hn1⟩ | ⟨rs, hrs, hk1, hp1', hn1, _⟩
        · have hfe := file_err hx
          rw [← Lib.size_eq, HUS.out] at hfe
          have hne : (k1 == 0) = false := by
            have : k1 ≠ 0 := by rw [hk1]; exact hfe.1
            simpa using this
          have h1 : (0 : Int) ≤ p1 := by rw [hp1']; exact hfe.2.2.2 (by omega)
          have h2 : p1 ≤ (p : Int) := by rw [hp1']; exact hfe.2.2.1
          subst hn1
          clear hx hk1 hp1' hfe
          go_wp2
          go_ret
          exact ⟨rfl, HB5.out⟩
        · subst hk1
          clear hrs hp1' hn1
          go_wp2
          go_ret
          exact ⟨rfl, HB5.out⟩
end Go.Proofs.YtknpcbjjofdlmaaGreatDoor.lawParsePrefix
