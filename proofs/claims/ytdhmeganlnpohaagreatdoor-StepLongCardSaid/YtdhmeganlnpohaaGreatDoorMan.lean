import Derived.Test.YtdhmeganlnpohaaGreatDoorMam
namespace Go.Proofs.YtdhmeganlnpohaaGreatDoor
open Go.RowKit
theorem stepsA_shape {Av : Nat → Prop} {w : World} {va : Value} {xs : List StepS} (h : StepsA Av w va xs) : ∃ a n c, va = .slice a n c := by
 obtain ⟨rows, h1, _⟩ := h
 exact rowA_shape h1
def RuleA (Av : Nat → Prop) (w : World) (r : List Value) (x : RuleS) : Prop := ∃ vi vo vf vs, r = [.string x.name, vi, vo, vf, vs] ∧ StrsA Av w vi x.ins ∧ StrsA Av w vo x.outs ∧ StrsA Av w vf x.after ∧ StepsA Av w vs x.steps
def RuleE (w w' : World) (x : RuleS) (e : Ending) : Prop :=
 ∃ vi vo vf vs, e = .returned (.agg #[.string x.name, vi, vo, vf, vs]) ∧ StrsA (fun b => b < w.heap.size) w' vi x.ins ∧ StrsA (fun b => b < w.heap.size) w' vo x.outs ∧ StrsA (fun b => b < w.heap.size) w' vf x.after ∧ StepsA (fun b => b < w.heap.size) w' vs x.steps
def zRule : Array Value := #[.string ⟨#[]⟩, .slice none 0 0, .slice none 0 0, .slice none 0 0, .slice none 0 0]
theorem stepsA_fresh {w wr : World} {B : Nat} {va : Value} {xs : List StepS} (h : StepsA (fun b => b < B) wr va xs) (hB : w.heap.size + 2 ≤ B) : StepsA (fun b => b < w.heap.size + 2) wr va xs := h.mono fun b _ hb => by omega
theorem stepsA_old {w wr : World} {va : Value} {xs : List StepS} (h : StepsA (fun b => b < w.heap.size + 2) wr va xs) : StepsA (fun b => b < w.heap.size) wr va xs := h.mono fun b _ hb => by omega
theorem opt_yes {ws : List WordT} {key : ByteArray} {s : PS} (h : isKeyP ws key s = true) : optP ws key s = clauseP ws key s := by unfold optP; rw [if_pos h]
theorem opt_no {ws : List WordT} {key : ByteArray} {s : PS} (h : isKeyP ws key s = false) : optP ws key s = ([], s) := by unfold optP; rw [if_neg (by rw [h]; decide)]
set_option maxHeartbeats 4000000 in
set_option maxRecDepth 100000 in
theorem p_rule_any (p : Nat) (v : Value) (ws : List WordT) (s : PS) (w : World) (h : RS w p v ws s) :
  Calls Tryz.prog 217 #[.pointer (some ⟨p, 0, none⟩)] w fun e w' => RuleE w w' (ruleP ws s).1 e ∧ After w w' p v ws (ruleP ws s).2 := by
 have H := Lib.hid h
 have hpl := h.st.p_lt
 obtain ⟨R, hR⟩ : ∃ R, ruleP ws s = R := ⟨_, rfl⟩
 rw [hR]
 have CK : Hid (∀ key s w', RS w' p v ws s → Calls Tryz.prog 269 #[.pointer (some ⟨p, 0, none⟩), .string key] w' fun e w'' => e = .returned (.tuple #[]) ∧ After w' w'' p v ws (keyP ws key s)) := fun key s w' hr => p_key_any p v ws s key w' hr
 have CN : Hid (∀ s w', RS w' p v ws s → Calls Tryz.prog 270 #[.pointer (some ⟨p, 0, none⟩)] w' fun e w'' => e = .returned (.string (nameP ws s).1) ∧ After w' w'' p v ws (nameP ws s).2) := fun s w' hr => p_name_any p v ws s w' hr
 have CM : Hid (∀ key s w', RS w' p v ws s → Calls Tryz.prog 271 #[.pointer (some ⟨p, 0, none⟩), .string key] w' fun e w'' => e = .returned (.tuple #[]) ∧ After w' w'' p v ws (markP ws key s)) := fun key s w' hr => p_mark_any p v ws s key w' hr
 have CI : Hid (∀ key s w', RS w' p v ws s → Calls Tryz.prog 272 #[.pointer (some ⟨p, 0, none⟩), .string key] w' fun e w'' => e = .returned (.bool (isKeyP ws key s)) ∧ Below w'.heap.size w' w'') := fun key s w' hr => p_isKey_any p v ws s key w' hr.st
 have CC : Hid (∀ key s w', RS w' p v ws s → Calls Tryz.prog 273 #[.pointer (some ⟨p, 0, none⟩), .string key] w' fun e w'' => ∃ vv, e = .returned vv ∧ StrsA (fun b => b < w'.heap.size) w'' vv (clauseP ws key s).1 ∧ After w' w'' p v ws (clauseP ws key s).2) := fun key s w' hr => p_clause_any p v ws s key w' hr
 have CS : Hid (∀ s w', RS w' p v ws s → Calls Tryz.prog 274 #[.pointer (some ⟨p, 0, none⟩)] w' fun e w'' => ∃ vv, e = .returned vv ∧ StepsA (fun b => b < w'.heap.size) w'' vv (stepsP ws s).1 ∧ After w' w'' p v ws (stepsP ws s).2) := fun s w' hr => p_steps_any p v ws s w' hr
 have h0 := SM.begin (T := 45) h.st zRule zRule
 unfold zRule at h0
 have H0 := Lib.hid h0
 obtain ⟨s1, hs1⟩ : ∃ x, keyP ws kRule s = x := ⟨_, rfl⟩
 obtain ⟨x2, hx2⟩ : ∃ x, nameP ws s1 = x := ⟨_, rfl⟩
 obtain ⟨nm, s2⟩ := x2
 obtain ⟨s3, hs3⟩ : ∃ x, markP ws cOpen s2 = x := ⟨_, rfl⟩
 obtain ⟨x4, hx4⟩ : ∃ x, optP ws kIn s3 = x := ⟨_, rfl⟩
 obtain ⟨li, s4⟩ := x4
 obtain ⟨x5, hx5⟩ : ∃ x, clauseP ws kOut s4 = x := ⟨_, rfl⟩
 obtain ⟨lo, s5⟩ := x5
 obtain ⟨x6, hx6⟩ : ∃ x, optP ws kAfter s5 = x := ⟨_, rfl⟩
 obtain ⟨lf, s6⟩ := x6
 obtain ⟨x7, hx7⟩ : ∃ x, stepsP ws s6 = x := ⟨_, rfl⟩
 obtain ⟨ts, s7⟩ := x7
 have hres : R = (⟨nm, li, lo, lf, ts⟩, markP ws cClose s7) := by
  rw [← hR]; unfold ruleP; simp only [hs1, hx2, hs3, hx4, hx5, hx6, hx7]
 have HRES := Lib.hid hres
 have E1 := Lib.hid hs1
 have E2 := Lib.hid hx2
 have E3 := Lib.hid hs3
 have E4 := Lib.hid hx4
 have E5 := Lib.hid hx5
 have E6 := Lib.hid hx6
 have E7 := Lib.hid hx7
 clear hres hR hs1 hx2 hs3 hx4 hx5 hx6 hx7 h0 h
 go_enter Tryz.func217, Tryz.ntmps217
 have q1 := CK.out kRule _ _ (H0.out.rs H.out)
 rw [E1.out] at q1
 go_wp2_with fail
 refine q1.mono ?_
 rintro e w1 ⟨rfl, ha1⟩
 have m1 := H0.out.step H.out.st ha1
 have M1 := Lib.hid m1
 clear m1 ha1 q1
 have q2 := CN.out _ _ (M1.out.rs H.out)
 rw [E2.out] at q2
 go_wp2_with fail
 refine q2.mono ?_
 rintro e w2 ⟨rfl, ha2⟩
 have m2 := M1.out.step H.out.st ha2
 try clear d0 d1 d2 d3 d4 g0 g1 g2 g3 g4
 obtain ⟨d0, d1, d2, d3, d4, g0, g1, g2, g3, g4⟩ := cells5 m2.r1
 have m3 : SM 45 #[.string ⟨#[]⟩, .slice none 0 0, .slice none 0 0, .slice none 0 0, .slice none 0 0] w _ p v ws s2 #[.string nm, .slice none 0 0, .slice none 0 0, .slice none 0 0, .slice none 0 0] := m2.set H.out.st 0 (.string nm)
 have M3 := Lib.hid m3
 clear m2 m3 ha2 q2
 have q4 := CM.out cOpen _ _ (M3.out.rs H.out)
 rw [E3.out] at q4
 go_wp2_with fail
 refine q4.mono ?_
 rintro e w4 ⟨rfl, ha4⟩
 have m4 := M3.out.step H.out.st ha4
 have M4 := Lib.hid m4
 clear m4 ha4 q4
 obtain ⟨qi, hqi⟩ : ∃ x, isKeyP ws kIn s3 = x := ⟨_, rfl⟩
 have q5 := CI.out kIn _ _ (M4.out.rs H.out)
 rw [hqi] at q5
 have HKqi := Lib.hid hqi
 clear hqi
 cases qi
 ·go_wp2_with fail
  refine q5.mono ?_
  rintro e w5 ⟨rfl, hb5⟩
  have ha5 := After.of_below M4.out.af.1 hb5
  have m5 := M4.out.step H.out.st ha5
  have M5 := Lib.hid m5
  clear m5 ha5 hb5 q5
  have e4 := E4.out
  rw [opt_no HKqi.out] at e4
  injection e4 with e4 e4'
  subst e4 e4'
  have q6 := CC.out kOut _ _ (M5.out.rs H.out)
  rw [E5.out] at q6
  go_wp2_with fail
  refine q6.mono ?_
  rintro e w6 ⟨vv, rfl, hv, ha6⟩
  obtain ⟨a2, b2, c2, hvs⟩ := rowA_shape hv
  subst hvs
  have m6 := M5.out.step H.out.st ha6
  try clear d0 d1 d2 d3 d4 g0 g1 g2 g3 g4
  obtain ⟨d0, d1, d2, d3, d4, g0, g1, g2, g3, g4⟩ := cells5 m6.r1
  have SOu := Lib.hid (strsA_keep (strsA_fresh (w := w) hv M5.out.big) (fr_set (Av := fun b => b < w.heap.size + 2) (a := ⟨w.heap.size + 1, 2, none⟩) (by simp) (.slice a2 b2 c2)))
  have m7 : SM 45 #[.string ⟨#[]⟩, .slice none 0 0, .slice none 0 0, .slice none 0 0, .slice none 0 0] w _ p v ws s5 #[.string nm, .slice none 0 0, .slice a2 b2 c2, .slice none 0 0, .slice none 0 0] := m6.set H.out.st 2 (.slice a2 b2 c2)
  have M7 := Lib.hid m7
  clear m6 m7 ha6 q6 hv
  obtain ⟨qa, hqa⟩ : ∃ x, isKeyP ws kAfter s5 = x := ⟨_, rfl⟩
  have q8 := CI.out kAfter _ _ (M7.out.rs H.out)
  rw [hqa] at q8
  have HKqa := Lib.hid hqa
  clear hqa
  cases qa
  ·go_wp2_with fail
   refine q8.mono ?_
   rintro e w8 ⟨rfl, hb8⟩
   have ha8 := After.of_below M7.out.af.1 hb8
   have m8 := M7.out.step H.out.st ha8
   have M8 := Lib.hid m8
   have SOuk8 := Lib.hid (strsA_keep SOu.out (keep_after H.out.st ha8))
   clear m8 ha8 hb8 q8
   have e6 := E6.out
   rw [opt_no HKqa.out] at e6
   injection e6 with e6 e6'
   subst e6 e6'
   have q9 := CS.out _ _ (M8.out.rs H.out)
   rw [E7.out] at q9
   go_wp2_with fail
   refine q9.mono ?_
   rintro e w9 ⟨vv, rfl, hv, ha9⟩
   obtain ⟨a4, b4, c4, hvs⟩ := stepsA_shape hv
   subst hvs
   have m9 := M8.out.step H.out.st ha9
   have SOuk9 := Lib.hid (strsA_keep SOuk8.out (keep_after H.out.st ha9))
   try clear d0 d1 d2 d3 d4 g0 g1 g2 g3 g4
   obtain ⟨d0, d1, d2, d3, d4, g0, g1, g2, g3, g4⟩ := cells5 m9.r1
   have SOuk10 := Lib.hid (strsA_keep SOuk9.out (fr_set (Av := fun b => b < w.heap.size + 2) (a := ⟨w.heap.size + 1, 4, none⟩) (by simp) (.slice a4 b4 c4)))
   have STs := Lib.hid (StepsA.keep (stepsA_fresh (w := w) hv M8.out.big) (fr_set (Av := fun b => b < w.heap.size + 2) (a := ⟨w.heap.size + 1, 4, none⟩) (by simp) (.slice a4 b4 c4)))
   have m10 : SM 45 #[.string ⟨#[]⟩, .slice none 0 0, .slice none 0 0, .slice none 0 0, .slice none 0 0] w _ p v ws s7 #[.string nm, .slice none 0 0, .slice a2 b2 c2, .slice none 0 0, .slice a4 b4 c4] := m9.set H.out.st 4 (.slice a4 b4 c4)
   have M10 := Lib.hid m10
   clear m9 m10 ha9 q9 hv
   have q11 := CM.out cClose _ _ (M10.out.rs H.out)
   go_wp2_with fail
   refine q11.mono ?_
   rintro e w11 ⟨rfl, ha11⟩
   have m11 := M10.out.step H.out.st ha11
   have M11 := Lib.hid m11
   have SOuk11 := Lib.hid (strsA_keep SOuk10.out (keep_after H.out.st ha11))
   have STsk11 := Lib.hid (StepsA.keep STs.out (keep_after H.out.st ha11))
   clear m11 ha11 q11
   try clear d0 d1 d2 d3 d4 g0 g1 g2 g3 g4
   obtain ⟨d0, d1, d2, d3, d4, g0, g1, g2, g3, g4⟩ := cells5 M11.out.r1
   obtain ⟨e0, e1, e2, e3, e4, i0, i1, i2, i3, i4⟩ := cells5 M11.out.r0
   go_wp2
   refine bodyPost_ret (results_c rfl _ _ w.heap.size _ _ _ _ rfl (heap_set _ _ (heap_set _ _ (heap_set _ _ (heap_set _ _ (heap_set _ _ M11.out.r0))))) Tryz.underlying45 rfl (by kernel_rfl)) rfl ?_
   have kF : ∀ (u0 u1 u2 u3 u4 : Value), Fr (fun b => b < w.heap.size + 2) w11 (((((w11.setCell ⟨w.heap.size, 0, none⟩ u0).setCell ⟨w.heap.size, 1, none⟩ u1).setCell ⟨w.heap.size, 2, none⟩ u2).setCell ⟨w.heap.size, 3, none⟩ u3).setCell ⟨w.heap.size, 4, none⟩ u4) := fun _ _ _ _ _ => ((((fr_set (by simp) _).trans (fr_set (by simp) _)).trans (fr_set (by simp) _)).trans (fr_set (by simp) _)).trans (fr_set (by simp) _)
   rw [HRES.out]
   exact ⟨⟨_, _, _, _, rfl, strsA_nil _ _, strsA_old (strsA_keep SOuk11.out (kF _ _ _ _ _)), strsA_nil _ _, stepsA_old (StepsA.keep STsk11.out (kF _ _ _ _ _))⟩, ((((M11.out.af.set H.out.st (Nat.le_refl _) _).set H.out.st (Nat.le_refl _) _).set H.out.st (Nat.le_refl _) _).set H.out.st (Nat.le_refl _) _).set H.out.st (Nat.le_refl _) _⟩
  ·go_wp2_with fail
   refine q8.mono ?_
   rintro e w8 ⟨rfl, hb8⟩
   have ha8 := After.of_below M7.out.af.1 hb8
   have m8 := M7.out.step H.out.st ha8
   have M8 := Lib.hid m8
   have SOuk8 := Lib.hid (strsA_keep SOu.out (keep_after H.out.st ha8))
   clear m8 ha8 hb8 q8
   have e6 := E6.out
   rw [opt_yes HKqa.out] at e6
   have E6' := Lib.hid e6
   clear e6
   have q9 := CC.out kAfter _ _ (M8.out.rs H.out)
   rw [E6'.out] at q9
   go_wp2_with fail
   refine q9.mono ?_
   rintro e w9 ⟨vv, rfl, hv, ha9⟩
   obtain ⟨a3, b3, c3, hvs⟩ := rowA_shape hv
   subst hvs
   have m9 := M8.out.step H.out.st ha9
   have SOuk9 := Lib.hid (strsA_keep SOuk8.out (keep_after H.out.st ha9))
   try clear d0 d1 d2 d3 d4 g0 g1 g2 g3 g4
   obtain ⟨d0, d1, d2, d3, d4, g0, g1, g2, g3, g4⟩ := cells5 m9.r1
   have SOuk10 := Lib.hid (strsA_keep SOuk9.out (fr_set (Av := fun b => b < w.heap.size + 2) (a := ⟨w.heap.size + 1, 3, none⟩) (by simp) (.slice a3 b3 c3)))
   have SFa := Lib.hid (strsA_keep (strsA_fresh (w := w) hv M8.out.big) (fr_set (Av := fun b => b < w.heap.size + 2) (a := ⟨w.heap.size + 1, 3, none⟩) (by simp) (.slice a3 b3 c3)))
   have m10 : SM 45 #[.string ⟨#[]⟩, .slice none 0 0, .slice none 0 0, .slice none 0 0, .slice none 0 0] w _ p v ws s6 #[.string nm, .slice none 0 0, .slice a2 b2 c2, .slice a3 b3 c3, .slice none 0 0] := m9.set H.out.st 3 (.slice a3 b3 c3)
   have M10 := Lib.hid m10
   clear m9 m10 ha9 q9 hv
   have q11 := CS.out _ _ (M10.out.rs H.out)
   rw [E7.out] at q11
   go_wp2_with fail
   refine q11.mono ?_
   rintro e w11 ⟨vv, rfl, hv, ha11⟩
   obtain ⟨a4, b4, c4, hvs⟩ := stepsA_shape hv
   subst hvs
   have m11 := M10.out.step H.out.st ha11
   have SOuk11 := Lib.hid (strsA_keep SOuk10.out (keep_after H.out.st ha11))
   have SFak11 := Lib.hid (strsA_keep SFa.out (keep_after H.out.st ha11))
   try clear d0 d1 d2 d3 d4 g0 g1 g2 g3 g4
   obtain ⟨d0, d1, d2, d3, d4, g0, g1, g2, g3, g4⟩ := cells5 m11.r1
   have SOuk12 := Lib.hid (strsA_keep SOuk11.out (fr_set (Av := fun b => b < w.heap.size + 2) (a := ⟨w.heap.size + 1, 4, none⟩) (by simp) (.slice a4 b4 c4)))
   have SFak12 := Lib.hid (strsA_keep SFak11.out (fr_set (Av := fun b => b < w.heap.size + 2) (a := ⟨w.heap.size + 1, 4, none⟩) (by simp) (.slice a4 b4 c4)))
   have STs := Lib.hid (StepsA.keep (stepsA_fresh (w := w) hv M10.out.big) (fr_set (Av := fun b => b < w.heap.size + 2) (a := ⟨w.heap.size + 1, 4, none⟩) (by simp) (.slice a4 b4 c4)))
   have m12 : SM 45 #[.string ⟨#[]⟩, .slice none 0 0, .slice none 0 0, .slice none 0 0, .slice none 0 0] w _ p v ws s7 #[.string nm, .slice none 0 0, .slice a2 b2 c2, .slice a3 b3 c3, .slice a4 b4 c4] := m11.set H.out.st 4 (.slice a4 b4 c4)
   have M12 := Lib.hid m12
   clear m11 m12 ha11 q11 hv
   have q13 := CM.out cClose _ _ (M12.out.rs H.out)
   go_wp2_with fail
   refine q13.mono ?_
   rintro e w13 ⟨rfl, ha13⟩
   have m13 := M12.out.step H.out.st ha13
   have M13 := Lib.hid m13
   have SOuk13 := Lib.hid (strsA_keep SOuk12.out (keep_after H.out.st ha13))
   have SFak13 := Lib.hid (strsA_keep SFak12.out (keep_after H.out.st ha13))
   have STsk13 := Lib.hid (StepsA.keep STs.out (keep_after H.out.st ha13))
   clear m13 ha13 q13
   try clear d0 d1 d2 d3 d4 g0 g1 g2 g3 g4
   obtain ⟨d0, d1, d2, d3, d4, g0, g1, g2, g3, g4⟩ := cells5 M13.out.r1
   obtain ⟨e0, e1, e2, e3, e4, i0, i1, i2, i3, i4⟩ := cells5 M13.out.r0
   go_wp2
   refine bodyPost_ret (results_c rfl _ _ w.heap.size _ _ _ _ rfl (heap_set _ _ (heap_set _ _ (heap_set _ _ (heap_set _ _ (heap_set _ _ M13.out.r0))))) Tryz.underlying45 rfl (by kernel_rfl)) rfl ?_
   have kF : ∀ (u0 u1 u2 u3 u4 : Value), Fr (fun b => b < w.heap.size + 2) w13 (((((w13.setCell ⟨w.heap.size, 0, none⟩ u0).setCell ⟨w.heap.size, 1, none⟩ u1).setCell ⟨w.heap.size, 2, none⟩ u2).setCell ⟨w.heap.size, 3, none⟩ u3).setCell ⟨w.heap.size, 4, none⟩ u4) := fun _ _ _ _ _ => ((((fr_set (by simp) _).trans (fr_set (by simp) _)).trans (fr_set (by simp) _)).trans (fr_set (by simp) _)).trans (fr_set (by simp) _)
   rw [HRES.out]
   exact ⟨⟨_, _, _, _, rfl, strsA_nil _ _, strsA_old (strsA_keep SOuk13.out (kF _ _ _ _ _)), strsA_old (strsA_keep SFak13.out (kF _ _ _ _ _)), stepsA_old (StepsA.keep STsk13.out (kF _ _ _ _ _))⟩, ((((M13.out.af.set H.out.st (Nat.le_refl _) _).set H.out.st (Nat.le_refl _) _).set H.out.st (Nat.le_refl _) _).set H.out.st (Nat.le_refl _) _).set H.out.st (Nat.le_refl _) _⟩
 ·go_wp2_with fail
  refine q5.mono ?_
  rintro e w5 ⟨rfl, hb5⟩
  have ha5 := After.of_below M4.out.af.1 hb5
  have m5 := M4.out.step H.out.st ha5
  have M5 := Lib.hid m5
  clear m5 ha5 hb5 q5
  have e4 := E4.out
  rw [opt_yes HKqi.out] at e4
  have E4' := Lib.hid e4
  clear e4
  have q6 := CC.out kIn _ _ (M5.out.rs H.out)
  rw [E4'.out] at q6
  go_wp2_with fail
  refine q6.mono ?_
  rintro e w6 ⟨vv, rfl, hv, ha6⟩
  obtain ⟨a1, b1, c1, hvs⟩ := rowA_shape hv
  subst hvs
  have m6 := M5.out.step H.out.st ha6
  try clear d0 d1 d2 d3 d4 g0 g1 g2 g3 g4
  obtain ⟨d0, d1, d2, d3, d4, g0, g1, g2, g3, g4⟩ := cells5 m6.r1
  have SIn := Lib.hid (strsA_keep (strsA_fresh (w := w) hv M5.out.big) (fr_set (Av := fun b => b < w.heap.size + 2) (a := ⟨w.heap.size + 1, 1, none⟩) (by simp) (.slice a1 b1 c1)))
  have m7 : SM 45 #[.string ⟨#[]⟩, .slice none 0 0, .slice none 0 0, .slice none 0 0, .slice none 0 0] w _ p v ws s4 #[.string nm, .slice a1 b1 c1, .slice none 0 0, .slice none 0 0, .slice none 0 0] := m6.set H.out.st 1 (.slice a1 b1 c1)
  have M7 := Lib.hid m7
  clear m6 m7 ha6 q6 hv
  have q8 := CC.out kOut _ _ (M7.out.rs H.out)
  rw [E5.out] at q8
  go_wp2_with fail
  refine q8.mono ?_
  rintro e w8 ⟨vv, rfl, hv, ha8⟩
  obtain ⟨a2, b2, c2, hvs⟩ := rowA_shape hv
  subst hvs
  have m8 := M7.out.step H.out.st ha8
  have SInk8 := Lib.hid (strsA_keep SIn.out (keep_after H.out.st ha8))
  try clear d0 d1 d2 d3 d4 g0 g1 g2 g3 g4
  obtain ⟨d0, d1, d2, d3, d4, g0, g1, g2, g3, g4⟩ := cells5 m8.r1
  have SInk9 := Lib.hid (strsA_keep SInk8.out (fr_set (Av := fun b => b < w.heap.size + 2) (a := ⟨w.heap.size + 1, 2, none⟩) (by simp) (.slice a2 b2 c2)))
  have SOu := Lib.hid (strsA_keep (strsA_fresh (w := w) hv M7.out.big) (fr_set (Av := fun b => b < w.heap.size + 2) (a := ⟨w.heap.size + 1, 2, none⟩) (by simp) (.slice a2 b2 c2)))
  have m9 : SM 45 #[.string ⟨#[]⟩, .slice none 0 0, .slice none 0 0, .slice none 0 0, .slice none 0 0] w _ p v ws s5 #[.string nm, .slice a1 b1 c1, .slice a2 b2 c2, .slice none 0 0, .slice none 0 0] := m8.set H.out.st 2 (.slice a2 b2 c2)
  have M9 := Lib.hid m9
  clear m8 m9 ha8 q8 hv
  obtain ⟨qa, hqa⟩ : ∃ x, isKeyP ws kAfter s5 = x := ⟨_, rfl⟩
  have q10 := CI.out kAfter _ _ (M9.out.rs H.out)
  rw [hqa] at q10
  have HKqa := Lib.hid hqa
  clear hqa
  cases qa
  ·go_wp2_with fail
   refine q10.mono ?_
   rintro e w10 ⟨rfl, hb10⟩
   have ha10 := After.of_below M9.out.af.1 hb10
   have m10 := M9.out.step H.out.st ha10
   have M10 := Lib.hid m10
   have SInk10 := Lib.hid (strsA_keep SInk9.out (keep_after H.out.st ha10))
   have SOuk10 := Lib.hid (strsA_keep SOu.out (keep_after H.out.st ha10))
   clear m10 ha10 hb10 q10
   have e6 := E6.out
   rw [opt_no HKqa.out] at e6
   injection e6 with e6 e6'
   subst e6 e6'
   have q11 := CS.out _ _ (M10.out.rs H.out)
   rw [E7.out] at q11
   go_wp2_with fail
   refine q11.mono ?_
   rintro e w11 ⟨vv, rfl, hv, ha11⟩
   obtain ⟨a4, b4, c4, hvs⟩ := stepsA_shape hv
   subst hvs
   have m11 := M10.out.step H.out.st ha11
   have SInk11 := Lib.hid (strsA_keep SInk10.out (keep_after H.out.st ha11))
   have SOuk11 := Lib.hid (strsA_keep SOuk10.out (keep_after H.out.st ha11))
   try clear d0 d1 d2 d3 d4 g0 g1 g2 g3 g4
   obtain ⟨d0, d1, d2, d3, d4, g0, g1, g2, g3, g4⟩ := cells5 m11.r1
   have SInk12 := Lib.hid (strsA_keep SInk11.out (fr_set (Av := fun b => b < w.heap.size + 2) (a := ⟨w.heap.size + 1, 4, none⟩) (by simp) (.slice a4 b4 c4)))
   have SOuk12 := Lib.hid (strsA_keep SOuk11.out (fr_set (Av := fun b => b < w.heap.size + 2) (a := ⟨w.heap.size + 1, 4, none⟩) (by simp) (.slice a4 b4 c4)))
   have STs := Lib.hid (StepsA.keep (stepsA_fresh (w := w) hv M10.out.big) (fr_set (Av := fun b => b < w.heap.size + 2) (a := ⟨w.heap.size + 1, 4, none⟩) (by simp) (.slice a4 b4 c4)))
   have m12 : SM 45 #[.string ⟨#[]⟩, .slice none 0 0, .slice none 0 0, .slice none 0 0, .slice none 0 0] w _ p v ws s7 #[.string nm, .slice a1 b1 c1, .slice a2 b2 c2, .slice none 0 0, .slice a4 b4 c4] := m11.set H.out.st 4 (.slice a4 b4 c4)
   have M12 := Lib.hid m12
   clear m11 m12 ha11 q11 hv
   have q13 := CM.out cClose _ _ (M12.out.rs H.out)
   go_wp2_with fail
   refine q13.mono ?_
   rintro e w13 ⟨rfl, ha13⟩
   have m13 := M12.out.step H.out.st ha13
   have M13 := Lib.hid m13
   have SInk13 := Lib.hid (strsA_keep SInk12.out (keep_after H.out.st ha13))
   have SOuk13 := Lib.hid (strsA_keep SOuk12.out (keep_after H.out.st ha13))
   have STsk13 := Lib.hid (StepsA.keep STs.out (keep_after H.out.st ha13))
   clear m13 ha13 q13
   try clear d0 d1 d2 d3 d4 g0 g1 g2 g3 g4
   obtain ⟨d0, d1, d2, d3, d4, g0, g1, g2, g3, g4⟩ := cells5 M13.out.r1
   obtain ⟨e0, e1, e2, e3, e4, i0, i1, i2, i3, i4⟩ := cells5 M13.out.r0
   go_wp2
   refine bodyPost_ret (results_c rfl _ _ w.heap.size _ _ _ _ rfl (heap_set _ _ (heap_set _ _ (heap_set _ _ (heap_set _ _ (heap_set _ _ M13.out.r0))))) Tryz.underlying45 rfl (by kernel_rfl)) rfl ?_
   have kF : ∀ (u0 u1 u2 u3 u4 : Value), Fr (fun b => b < w.heap.size + 2) w13 (((((w13.setCell ⟨w.heap.size, 0, none⟩ u0).setCell ⟨w.heap.size, 1, none⟩ u1).setCell ⟨w.heap.size, 2, none⟩ u2).setCell ⟨w.heap.size, 3, none⟩ u3).setCell ⟨w.heap.size, 4, none⟩ u4) := fun _ _ _ _ _ => ((((fr_set (by simp) _).trans (fr_set (by simp) _)).trans (fr_set (by simp) _)).trans (fr_set (by simp) _)).trans (fr_set (by simp) _)
   rw [HRES.out]
   exact ⟨⟨_, _, _, _, rfl, strsA_old (strsA_keep SInk13.out (kF _ _ _ _ _)), strsA_old (strsA_keep SOuk13.out (kF _ _ _ _ _)), strsA_nil _ _, stepsA_old (StepsA.keep STsk13.out (kF _ _ _ _ _))⟩, ((((M13.out.af.set H.out.st (Nat.le_refl _) _).set H.out.st (Nat.le_refl _) _).set H.out.st (Nat.le_refl _) _).set H.out.st (Nat.le_refl _) _).set H.out.st (Nat.le_refl _) _⟩
  ·go_wp2_with fail
   refine q10.mono ?_
   rintro e w10 ⟨rfl, hb10⟩
   have ha10 := After.of_below M9.out.af.1 hb10
   have m10 := M9.out.step H.out.st ha10
   have M10 := Lib.hid m10
   have SInk10 := Lib.hid (strsA_keep SInk9.out (keep_after H.out.st ha10))
   have SOuk10 := Lib.hid (strsA_keep SOu.out (keep_after H.out.st ha10))
   clear m10 ha10 hb10 q10
   have e6 := E6.out
   rw [opt_yes HKqa.out] at e6
   have E6' := Lib.hid e6
   clear e6
   have q11 := CC.out kAfter _ _ (M10.out.rs H.out)
   rw [E6'.out] at q11
   go_wp2_with fail
   refine q11.mono ?_
   rintro e w11 ⟨vv, rfl, hv, ha11⟩
   obtain ⟨a3, b3, c3, hvs⟩ := rowA_shape hv
   subst hvs
   have m11 := M10.out.step H.out.st ha11
   have SInk11 := Lib.hid (strsA_keep SInk10.out (keep_after H.out.st ha11))
   have SOuk11 := Lib.hid (strsA_keep SOuk10.out (keep_after H.out.st ha11))
   try clear d0 d1 d2 d3 d4 g0 g1 g2 g3 g4
   obtain ⟨d0, d1, d2, d3, d4, g0, g1, g2, g3, g4⟩ := cells5 m11.r1
   have SInk12 := Lib.hid (strsA_keep SInk11.out (fr_set (Av := fun b => b < w.heap.size + 2) (a := ⟨w.heap.size + 1, 3, none⟩) (by simp) (.slice a3 b3 c3)))
   have SOuk12 := Lib.hid (strsA_keep SOuk11.out (fr_set (Av := fun b => b < w.heap.size + 2) (a := ⟨w.heap.size + 1, 3, none⟩) (by simp) (.slice a3 b3 c3)))
   have SFa := Lib.hid (strsA_keep (strsA_fresh (w := w) hv M10.out.big) (fr_set (Av := fun b => b < w.heap.size + 2) (a := ⟨w.heap.size + 1, 3, none⟩) (by simp) (.slice a3 b3 c3)))
   have m12 : SM 45 #[.string ⟨#[]⟩, .slice none 0 0, .slice none 0 0, .slice none 0 0, .slice none 0 0] w _ p v ws s6 #[.string nm, .slice a1 b1 c1, .slice a2 b2 c2, .slice a3 b3 c3, .slice none 0 0] := m11.set H.out.st 3 (.slice a3 b3 c3)
   have M12 := Lib.hid m12
   clear m11 m12 ha11 q11 hv
   have q13 := CS.out _ _ (M12.out.rs H.out)
   rw [E7.out] at q13
   go_wp2_with fail
   refine q13.mono ?_
   rintro e w13 ⟨vv, rfl, hv, ha13⟩
   obtain ⟨a4, b4, c4, hvs⟩ := stepsA_shape hv
   subst hvs
   have m13 := M12.out.step H.out.st ha13
   have SInk13 := Lib.hid (strsA_keep SInk12.out (keep_after H.out.st ha13))
   have SOuk13 := Lib.hid (strsA_keep SOuk12.out (keep_after H.out.st ha13))
   have SFak13 := Lib.hid (strsA_keep SFa.out (keep_after H.out.st ha13))
   try clear d0 d1 d2 d3 d4 g0 g1 g2 g3 g4
   obtain ⟨d0, d1, d2, d3, d4, g0, g1, g2, g3, g4⟩ := cells5 m13.r1
   have SInk14 := Lib.hid (strsA_keep SInk13.out (fr_set (Av := fun b => b < w.heap.size + 2) (a := ⟨w.heap.size + 1, 4, none⟩) (by simp) (.slice a4 b4 c4)))
   have SOuk14 := Lib.hid (strsA_keep SOuk13.out (fr_set (Av := fun b => b < w.heap.size + 2) (a := ⟨w.heap.size + 1, 4, none⟩) (by simp) (.slice a4 b4 c4)))
   have SFak14 := Lib.hid (strsA_keep SFak13.out (fr_set (Av := fun b => b < w.heap.size + 2) (a := ⟨w.heap.size + 1, 4, none⟩) (by simp) (.slice a4 b4 c4)))
   have STs := Lib.hid (StepsA.keep (stepsA_fresh (w := w) hv M12.out.big) (fr_set (Av := fun b => b < w.heap.size + 2) (a := ⟨w.heap.size + 1, 4, none⟩) (by simp) (.slice a4 b4 c4)))
   have m14 : SM 45 #[.string ⟨#[]⟩, .slice none 0 0, .slice none 0 0, .slice none 0 0, .slice none 0 0] w _ p v ws s7 #[.string nm, .slice a1 b1 c1, .slice a2 b2 c2, .slice a3 b3 c3, .slice a4 b4 c4] := m13.set H.out.st 4 (.slice a4 b4 c4)
   have M14 := Lib.hid m14
   clear m13 m14 ha13 q13 hv
   have q15 := CM.out cClose _ _ (M14.out.rs H.out)
   go_wp2_with fail
   refine q15.mono ?_
   rintro e w15 ⟨rfl, ha15⟩
   have m15 := M14.out.step H.out.st ha15
   have M15 := Lib.hid m15
   have SInk15 := Lib.hid (strsA_keep SInk14.out (keep_after H.out.st ha15))
   have SOuk15 := Lib.hid (strsA_keep SOuk14.out (keep_after H.out.st ha15))
   have SFak15 := Lib.hid (strsA_keep SFak14.out (keep_after H.out.st ha15))
   have STsk15 := Lib.hid (StepsA.keep STs.out (keep_after H.out.st ha15))
   clear m15 ha15 q15
   try clear d0 d1 d2 d3 d4 g0 g1 g2 g3 g4
   obtain ⟨d0, d1, d2, d3, d4, g0, g1, g2, g3, g4⟩ := cells5 M15.out.r1
   obtain ⟨e0, e1, e2, e3, e4, i0, i1, i2, i3, i4⟩ := cells5 M15.out.r0
   go_wp2
   refine bodyPost_ret (results_c rfl _ _ w.heap.size _ _ _ _ rfl (heap_set _ _ (heap_set _ _ (heap_set _ _ (heap_set _ _ (heap_set _ _ M15.out.r0))))) Tryz.underlying45 rfl (by kernel_rfl)) rfl ?_
   have kF : ∀ (u0 u1 u2 u3 u4 : Value), Fr (fun b => b < w.heap.size + 2) w15 (((((w15.setCell ⟨w.heap.size, 0, none⟩ u0).setCell ⟨w.heap.size, 1, none⟩ u1).setCell ⟨w.heap.size, 2, none⟩ u2).setCell ⟨w.heap.size, 3, none⟩ u3).setCell ⟨w.heap.size, 4, none⟩ u4) := fun _ _ _ _ _ => ((((fr_set (by simp) _).trans (fr_set (by simp) _)).trans (fr_set (by simp) _)).trans (fr_set (by simp) _)).trans (fr_set (by simp) _)
   rw [HRES.out]
   exact ⟨⟨_, _, _, _, rfl, strsA_old (strsA_keep SInk15.out (kF _ _ _ _ _)), strsA_old (strsA_keep SOuk15.out (kF _ _ _ _ _)), strsA_old (strsA_keep SFak15.out (kF _ _ _ _ _)), stepsA_old (StepsA.keep STsk15.out (kF _ _ _ _ _))⟩, ((((M15.out.af.set H.out.st (Nat.le_refl _) _).set H.out.st (Nat.le_refl _) _).set H.out.st (Nat.le_refl _) _).set H.out.st (Nat.le_refl _) _).set H.out.st (Nat.le_refl _) _⟩
end Go.Proofs.YtdhmeganlnpohaaGreatDoor
