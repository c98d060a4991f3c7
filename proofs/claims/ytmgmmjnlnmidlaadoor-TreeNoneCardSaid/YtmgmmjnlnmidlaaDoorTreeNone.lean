/- The law on what there is not: a nil tree, no texts. The call returns true. No condition. -/
import Derived.Test.YtmgmmjnlnmidlaaDoorWalkR
namespace Go.Proofs.YtmgmmjnlnmidlaaDoor.lawTreeNone
open Go.RowKit

theorem write_nil (x y : ByteArray) (w : World) :
    Calls Tryd.prog 25 #[.pointer none, .string x, .string y] w fun e w' => e = .returned (.int .i64 7) ∧ w = w' := by
  go_enter Tryd.func25, Tryd.ntmps25
  go_wp2
  go_ret
  exact ⟨rfl, rfl⟩
theorem erase_nil (x : ByteArray) (w : World) :
    Calls Tryd.prog 31 #[.pointer none, .string x] w fun e w' => e = .returned (.int .i64 7) ∧ w = w' := by
  go_enter Tryd.func31, Tryd.ntmps31
  go_wp2
  go_ret
  exact ⟨rfl, rfl⟩
theorem clone_nil (w : World) :
    Calls Tryd.prog 33 #[.pointer none] w fun e w' => e = .returned (.pointer none) ∧ w = w' := by
  go_enter Tryd.func33, Tryd.ntmps33
  go_wp2
  go_ret
  exact ⟨rfl, rfl⟩
theorem read_nil (x : ByteArray) (w : World) :
    Calls Tryd.prog 29 #[.pointer none, .string x] w fun e w' => e = .returned (.tuple #[.string ⟨#[]⟩, .bool false]) ∧ Below w.heap.size w w' := by
  go_enter Tryd.func29, Tryd.ntmps29
  go_wp2_with fail
  refine (find_nil x w).mono ?_
  rintro e w' ⟨rfl, hb⟩
  go_wp2
  go_ret2
  exact ⟨rfl, hb⟩

theorem strs_nil (w : World) : IsStrs w (.slice none 0 0) [] := ⟨none, 0, rfl, by simp, by simp [maxLen], fun h => absurd rfl h⟩
theorem vals_nil (w : World) : IsVals w (.slice none 0 0) [] := ⟨none, 0, rfl, by simp, by simp [maxLen], fun h => absurd rfl h⟩

set_option maxHeartbeats 4000000 in
theorem law (w : World) (hG : Glob w) :
    Calls Tryd.prog 8 #[] w fun e w' => e = .returned (.bool true) ∧ Below w.heap.size w w' := by
  have cG : ∀ w, Glob w → Calls Tryd.prog 30 #[.string ⟨#[]⟩] w fun e w' => (∃ a c, e = .returned (.tuple #[.slice a 0 c, .bool true])) ∧ Below w.heap.size w w' := fun w hg => by
    have h := get_any ⟨#[]⟩ w (by decide) hg
    rw [show (⟨#[]⟩ : ByteArray).data.toList = [] from rfl, getS_nil] at h
    refine h.mono ?_
    rintro e w' ⟨hb, a, c, xs, hxs, rfl, _⟩
    have : xs.length = 0 := by rw [← List.length_map (·.data.toList), hxs]; rfl
    exact ⟨⟨a, c, by rw [this]⟩, hb⟩
  have cL : ∀ w, Calls Tryd.prog 27 #[.pointer none] w fun e w' => e = .returned (.int .i64 0) ∧ w = w' := fun w => len_core none none 0 [] w (allIs_nil w).1
  have cN : ∀ w, Calls Tryd.prog 32 #[.pointer none] w fun e w' => (∃ a c, e = .returned (.slice a 0 c)) ∧ Below w.heap.size w w' := fun w => by
    refine (names_core none none 0 [] w (allIs_nil w).1 (allIs_nil w).2 (by decide)).mono ?_
    rintro e w' ⟨a, c, rfl, _, hb⟩
    exact ⟨⟨a, c, rfl⟩, hb⟩
  have cK : ∀ w, Glob w → Calls Tryd.prog 28 #[.pointer none] w fun e w' => e = .returned (.string ⟨#[]⟩) ∧ Below w.heap.size w w' := fun w hg => key_core none none 0 [] w (allIs_nil w).1 (allIs_nil w).2 (by decide) hg (by show (putS []).length ≤ _; simp [putS])
  have cJ : ∀ w, Calls Tryd.prog 20 #[.slice none 0 0] w fun e w' => e = .returned (.string ⟨#[]⟩) ∧ Below w.heap.size w w' := fun w => join_any _ [] w (strs_nil w) (by decide) (by show (joinS []).length ≤ _; simp [joinS, nonE, Lib.join])
  have cP : ∀ w, Glob w → Calls Tryd.prog 34 #[.slice none 0 0] w fun e w' => e = .returned (.string ⟨#[]⟩) ∧ Below w.heap.size w w' := fun w hg => put_any _ [] w (strs_nil w) (by decide) hg (by show (putS []).length ≤ _; simp [putS])
  have cV : ∀ w, Glob w → Calls Tryd.prog 22 #[.slice none 0 0] w fun e w' => e = .returned (.string ⟨#[]⟩) ∧ Below w.heap.size w w' := fun w hg => vals_any _ [] w (vals_nil w) (by decide) hg (by simp) (by show (putS []).length ≤ _; simp [putS])
  have cM : ∀ w, Glob w → Calls Tryd.prog 18 #[.string ⟨#[]⟩] w fun e w' => e = .returned (.bool false) ∧ Below w.heap.size w w' := fun w hg => by
    obtain ⟨m, hm⟩ := hg.max
    have h := may_any ⟨#[]⟩ m w (by decide) hm
    rw [show okName (⟨#[]⟩ : ByteArray).data.toList = false by decide +kernel] at h
    exact h
  have HCG := Lib.hid cG; have HL := Lib.hid cL; have HN := Lib.hid cN; have HK := Lib.hid cK; have HJ := Lib.hid cJ; have HP := Lib.hid cP; have HV := Lib.hid cV; have HM := Lib.hid cM; have HG := Lib.hid hG
  clear cG cL cN cK cJ cP cV cM hG
  go_enter Tryd.func8, Tryd.ntmps8
  go_wp2_with fail
  refine (read_nil _ w).mono ?_
  rintro e w1 ⟨rfl, hb1⟩
  go_wp2_with fail
  refine (HCG.out _ (HG.out.below hb1)).mono ?_
  rintro e w2 ⟨⟨a2, c2, rfl⟩, hb2⟩
  replace hb2 := chain hb1 hb2
  clear hb1
  go_wp2_with fail
  refine (begun_any _ (HG.out.below hb2)).mono ?_
  rintro e w3 ⟨rfl, hb3⟩
  replace hb3 := chain hb2 hb3
  clear hb2
  go_wp2_with fail
  refine (write_nil _ _ _).mono ?_
  rintro e w' ⟨rfl, rfl⟩
  go_wp2_with fail
  refine (erase_nil _ _).mono ?_
  rintro e w' ⟨rfl, rfl⟩
  go_wp2_with fail
  refine (HN.out _).mono ?_
  rintro e w4 ⟨⟨a4, c4, rfl⟩, hb4⟩
  replace hb4 := chain hb3 hb4
  clear hb3
  go_wp2_with fail
  refine (HL.out _).mono ?_
  rintro e w' ⟨rfl, rfl⟩
  go_wp2_with fail
  refine (clone_nil _).mono ?_
  rintro e w' ⟨rfl, rfl⟩
  go_wp2_with fail
  refine (HK.out _ (HG.out.below hb4)).mono ?_
  rintro e w5 ⟨rfl, hb5⟩
  replace hb5 := chain hb4 hb5
  clear hb4
  go_wp2_with fail
  refine (HJ.out _).mono ?_
  rintro e w6 ⟨rfl, hb6⟩
  replace hb6 := chain hb5 hb6
  clear hb5
  go_wp2_with fail
  refine (HP.out _ (HG.out.below hb6)).mono ?_
  rintro e w7 ⟨rfl, hb7⟩
  replace hb7 := chain hb6 hb7
  clear hb6
  go_wp2_with fail
  refine (HV.out _ (HG.out.below hb7)).mono ?_
  rintro e w8 ⟨rfl, hb8⟩
  replace hb8 := chain hb7 hb8
  clear hb7
  go_wp2_with fail
  refine (HM.out _ (HG.out.below hb8)).mono ?_
  rintro e w9 ⟨rfl, hb9⟩
  replace hb9 := chain hb8 hb9
  clear hb8
  go_wp2
  go_ret
  exact ⟨rfl, hb9⟩
end Go.Proofs.YtmgmmjnlnmidlaaDoor.lawTreeNone
