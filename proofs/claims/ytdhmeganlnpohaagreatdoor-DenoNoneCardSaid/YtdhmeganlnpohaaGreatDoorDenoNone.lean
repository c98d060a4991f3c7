import Derived.Test.YtdhmeganlnpohaaGreatDoorMbv
namespace Go.Proofs.YtdhmeganlnpohaaGreatDoor.lawDenoNone
open Go.RowKit Go.Shelf Go.Maps
theorem findNil (x : ByteArray) (w : World) : Calls Tryz.prog 206 #[.pointer none, .string x] w fun e w' => e = .returned (.tuple #[.string ⟨#[]⟩, .bool false]) ∧ Below w.heap.size w w' := by
 go_enter Tryz.func206, Tryz.ntmps206
 go_wp2_with fail
 refine (find_nil x w).mono ?_
 rintro e w' ⟨rfl, hb⟩
 go_wp2
 go_ret2
 exact ⟨rfl, hb⟩
def r0 : RuleS := ⟨⟨#[]⟩, [], [], [], []⟩
def s0 : StepS := ⟨⟨#[]⟩, 0, [], [], 0⟩
def f0 : ByteArray → ByteArray × Bool := fun _ => (⟨#[]⟩, false)
theorem k_fc : firstC (srtRules []) = [] := by
 rw [show srtRules [] = [] by simp [srtRules]]
 rfl
theorem k_all : allB [] (firstC (srtRules [])) = (0, ⟨#[]⟩) := by rw [k_fc]; kernel_rfl
theorem k_rule0 : ruleB r0 = 1 := by kernel_rfl
theorem k_may0 : mayB s0 = false := by kernel_rfl
theorem k_do0 : doV s0 [] = noV := by kernel_rfl
theorem k_lines0 : linesB ⟨#[]⟩ = [] := by kernel_rfl
theorem k_eq0 : eqV noV (false, ⟨#[120]⟩) = true := by kernel_rfl
theorem k_files0 (l : List ByteArray) : filesV [] f0 l = l.map fun _ => noV := by
 unfold filesV
 rw [if_pos (by unfold codeB; rw [k_all])]
 apply List.map_congr_left
 intro x _
 rfl
theorem fldV (a b : Value) (w : World) : Sem.run Tryz.prog (Instr.field 34 (.agg #[a, b]) 0) w = .ok a w := by
 unfold Instr.field; simp [go_sem, part, asAgg]
theorem vals0 (w : World) : IsVals w (.slice none 0 0) [] := ⟨none, 0, rfl, Nat.le_refl _, Nat.zero_le _, fun h => absurd rfl h⟩
theorem rules0 (w : World) : RulesI w (.slice none 0 0) [] := ⟨[], ⟨none, 0, rfl, Nat.le_refl _, Nat.zero_le _, fun h => absurd rfl h⟩, rfl, fun j r x hr => by simp at hr⟩
theorem steps0 (w : World) : StepsI w (.slice none 0 0) [] := ⟨[], ⟨none, 0, rfl, Nat.le_refl _, Nat.zero_le _, fun h => absurd rfl h⟩, rfl, fun j r x hr => by simp at hr⟩
set_option maxHeartbeats 8000000
set_option maxRecDepth 100000
theorem law (w : World) (hG : GP w.heap.size w) :
  Calls Tryz.prog 8 #[] w fun e w' => e = .returned (.bool true) ∧ Below w.heap.size w w' := by
 have hg : ∀ W, Below w.heap.size w W → Glob W ∧ MayW W := fun W hW => ⟨(hG.below hW).glob, (hG.below hW).glob.max⟩
 have sm0 : SmallR r0 1048576 := smallR_of (by kernel_rfl)
 have CA : Hid (∀ W, Below w.heap.size w W → Calls Tryz.prog 44 #[.slice none 0 0] W fun e w' => e = .returned (.tuple #[.int .i64 0, .string ⟨#[]⟩]) ∧ Below W.heap.size W w') := by
  show ∀ W, _
  intro W hW
  have := chkAll_any (.slice none 0 0) [] W (rules0 W) (by simp) (by decide) (hg W hW).2
  rw [k_all] at this
  exact this
 have CB : Hid (∀ W, Below w.heap.size w W → Calls Tryz.prog 15 #[] W fun e w' => e = .returned (.bool true) ∧ Below W.heap.size W w') := by
  show ∀ W, _
  intro W hW
  exact begun7_any W ((hG.below hW).up hW.size)
 have CC : Hid (∀ W, Below w.heap.size w W → Calls Tryz.prog 45 #[.slice none 0 0] W fun e w' => ∃ a c, e = .returned (.slice a 0 c) ∧ Below W.heap.size W w') := by
  show ∀ W, _
  intro W hW
  refine (chkCycle_any (.slice none 0 0) [] W (rules0 W) (by simp) (by decide) (hg W hW).2).mono ?_
  rintro e w' ⟨u, rfl, h, hb⟩
  obtain ⟨a, c, rfl⟩ := isStrs_ret h (by split; rw [k_fc]; rfl; rfl : _ = 0)
  exact ⟨a, c, rfl, hb⟩
 have CF : Hid (∀ W, Below w.heap.size w W → Calls Tryz.prog 46 #[.slice none 0 0, .pointer none, .slice none 0 0] W fun e w' => ∃ a c, e = .returned (.slice a 0 c) ∧ Below W.heap.size W w') := by
  show ∀ W, _
  intro W hW
  refine (files_any (.slice none 0 0) (.pointer none) (.slice none 0 0) [] f0 [] W (rules0 W) (by simp) (by decide) ⟨_, rfl⟩ (fun x V _ _ => findNil x V) (fun x => by show (0 : Nat) ≤ _; omega) (strsNil W) (by simp) (by decide) (hg W hW).1 (hg W hW).2).mono ?_
  rintro e w' ⟨g, rfl, _, _, hb⟩
  exact ⟨_, _, rfl, hb⟩
 have CG : Hid (∀ W, Below w.heap.size w W → Calls Tryz.prog 47 #[.slice none 0 0, .pointer none, .string ⟨#[97]⟩] W fun e w' => e = .returned (.agg #[.bool false, .string ⟨#[]⟩]) ∧ Below W.heap.size W w') := by
  show ∀ W, _
  intro W hW
  have := file_anyD (.slice none 0 0) (.pointer none) [] f0 ⟨#[97]⟩ W (rules0 W) (by simp) (by decide) ⟨_, rfl⟩ (fun x V _ _ => findNil x V) (fun x => by show (0 : Nat) ≤ _; omega) (by decide) (hg W hW).1 (hg W hW).2
  rw [k_files0] at this
  exact this
 have CR : Hid (∀ W, Below w.heap.size w W → Calls Tryz.prog 48 #[.agg #[.string ⟨#[]⟩, .slice none 0 0, .slice none 0 0, .slice none 0 0, .slice none 0 0]] W fun e w' => e = .returned (.int .i64 1) ∧ Below W.heap.size W w') := by
  show ∀ W, _
  intro W hW
  have := checkRule_any r0 none none none none 0 0 0 0 W ⟨_, _, _, _, rfl, strsNil W, strsNil W, strsNil W, steps0 W⟩ sm0 (hg W hW).2
  rw [k_rule0] at this
  exact this
 have CM : Hid (∀ W, Below w.heap.size w W → Calls Tryz.prog 19 #[.agg #[.string ⟨#[]⟩, .int .i64 0, .slice none 0 0, .slice none 0 0, .int .i64 0]] W fun e w' => e = .returned (.bool false) ∧ Below W.heap.size W w') := by
  show ∀ W, _
  intro W hW
  have := stepMay_any s0 none none 0 0 W (strsNil W) (strsNil W)
  rw [k_may0] at this
  exact this
 have CD : Hid (∀ W, Below w.heap.size w W → Calls Tryz.prog 24 #[.agg #[.string ⟨#[]⟩, .int .i64 0, .slice none 0 0, .slice none 0 0, .int .i64 0], .slice none 0 0] W fun e w' => e = .returned (.agg #[.bool false, .string ⟨#[]⟩]) ∧ Below W.heap.size W w') := by
  show ∀ W, _
  intro W hW
  have := do_any s0 none none 0 0 (.slice none 0 0) [] W (strsNil W) (strsNil W) (vals0 W) (by decide) (by simp) (hg W hW).1
  unfold DoPost at this
  rw [k_do0] at this
  exact this
 have CL : Hid (∀ W, Below w.heap.size w W → Calls Tryz.prog 22 #[.string ⟨#[]⟩] W fun e w' => ∃ a c, e = .returned (.slice a 0 c) ∧ Below W.heap.size W w') := by
  show ∀ W, _
  intro W hW
  refine (stepLines_any ⟨#[]⟩ W (by decide)).mono ?_
  rintro e w' ⟨v, rfl, _, h, hb⟩
  rw [h.2 k_lines0]
  exact ⟨_, _, rfl, hb⟩
 have CE : Hid (∀ W, Calls Tryz.prog 49 #[.agg #[.bool false, .string ⟨#[]⟩], .agg #[.bool false, .string ⟨#[120]⟩]] W fun e w' => e = .returned (.bool true) ∧ Below W.heap.size W w') := by
  show ∀ W, _
  intro W
  have := denoEq_any noV (false, ⟨#[120]⟩) W
  rw [k_eq0] at this
  exact this
 have HB0 : Hid (Below w.heap.size w w) := Lib.hid (Below.refl _ _)
 clear hg sm0 hG
 go_enter Tryz.func8, Tryz.ntmps8
 go_wp2_with fail
 refine (CA.out _ HB0.out).mono ?_
 rintro e w1 ⟨rfl, hb⟩
 have HB1 := Lib.hid hb; clear hb
 go_wp2_with fail
 refine (CB.out _ HB1.out).mono ?_
 rintro e w2 ⟨rfl, hb⟩
 have HB2 := Lib.hid (HB1.out.trans (hb.mono HB1.out.size)); clear hb
 go_wp2_with fail
 refine (CC.out _ HB2.out).mono ?_
 rintro e w3 ⟨a3, c3, rfl, hb⟩
 have HB3 := Lib.hid (HB2.out.trans (hb.mono HB2.out.size)); clear hb
 go_wp2_with fail
 refine (CF.out _ HB3.out).mono ?_
 rintro e w4 ⟨a4, c4, rfl, hb⟩
 have HB4 := Lib.hid (HB3.out.trans (hb.mono HB3.out.size)); clear hb
 go_wp2_with fail
 refine (CG.out _ HB4.out).mono ?_
 rintro e w5 ⟨rfl, hb⟩
 have HB5 := Lib.hid (HB4.out.trans (hb.mono HB4.out.size)); clear hb
 go_wp2_with fail
 rw [fldV]
 go_wp2_with fail
 refine (CR.out _ HB5.out).mono ?_
 rintro e w6 ⟨rfl, hb⟩
 have HB6 := Lib.hid (HB5.out.trans (hb.mono HB5.out.size)); clear hb
 go_wp2_with fail
 refine (CM.out _ HB6.out).mono ?_
 rintro e w7 ⟨rfl, hb⟩
 have HB7 := Lib.hid (HB6.out.trans (hb.mono HB6.out.size)); clear hb
 go_wp2_with fail
 refine (CD.out _ HB7.out).mono ?_
 rintro e w8 ⟨rfl, hb⟩
 have HB8 := Lib.hid (HB7.out.trans (hb.mono HB7.out.size)); clear hb
 go_wp2_with fail
 rw [fldV]
 go_wp2_with fail
 refine (CL.out _ HB8.out).mono ?_
 rintro e w9 ⟨a9, c9, rfl, hb⟩
 have HB9 := Lib.hid (HB8.out.trans (hb.mono HB8.out.size)); clear hb
 go_wp2_with fail
 refine (CE.out _).mono ?_
 rintro e w10 ⟨rfl, hb⟩
 have HB10 := Lib.hid (HB9.out.trans (hb.mono HB9.out.size)); clear hb
 go_wp2
 go_ret
 exact ⟨rfl, HB10.out⟩
end Go.Proofs.YtdhmeganlnpohaaGreatDoor.lawDenoNone
