import Derived.Test.YtdhmeganlnpohaaGreatDoorMat
import Derived.Test.YtdhmeganlnpohaaGreatDoorMaf
import Derived.Test.YtdhmeganlnpohaaGreatDoorGate
import Derived.Maps.OwnSet
import Derived.Maps.Own
import Derived.StringKeys
namespace Go.Proofs.YtdhmeganlnpohaaGreatDoor
open Go.RowKit Go.Shelf
theorem begun1_any (w : World) (hG : Glob w) : Calls Tryz.prog 119 #[] w fun e w' => e = .returned (.bool true) ∧ Below w.heap.size w w' := by
 have c := begun_any w hG
 clear hG
 go_enter Tryz.func119, Tryz.ntmps119
 go_wp2_with fail
 refine c.mono ?_
 rintro e w2 ⟨rfl, hb2⟩
 go_wp2
 go_ret
 exact ⟨rfl, hb2⟩
structure BegF (w' : World) (bl ol p3 p5 p7 g o : Nat) (x1 x2 x3 x4 : Value) (sg so : Nat) (z1 z2 : Value) (lg lo : Nat) : Prop where
 l1k : w'.cell? ⟨bl, ol + 3, none⟩ = some (.int .i64 2)
 l1t : w'.cell? ⟨bl, ol + 5, none⟩ = some (.string ⟨#[65]⟩)
 l2a : w'.cell? ⟨bl, ol + 7, none⟩ = some (.int .i64 9)
 l3k : w'.cell? ⟨bl, ol + 9, none⟩ = some (.int .i64 4)
 e3 : w'.cell? ⟨p3, 0, none⟩ = some (.int .i64 0)
 e5 : w'.cell? ⟨p5, 0, none⟩ = some (.int .i64 0)
 e7 : w'.cell? ⟨p7, 0, none⟩ = some (.int .i64 1)
 e7a : w'.cell? ⟨p7, 1, none⟩ = some (.int .i64 5)
 r0 : w'.cell? ⟨g, o, none⟩ = some (.string ⟨#[114]⟩)
 r1 : w'.cell? ⟨g, o + 1, none⟩ = some x1
 r2 : w'.cell? ⟨g, o + 2, none⟩ = some x2
 r3 : w'.cell? ⟨g, o + 3, none⟩ = some x3
 r4 : w'.cell? ⟨g, o + 4, none⟩ = some x4
 s0 : w'.cell? ⟨sg, so, none⟩ = some (.string ⟨#[120]⟩)
 s1 : w'.cell? ⟨sg, so + 1, none⟩ = some (.int .i64 7)
 s2 : w'.cell? ⟨sg, so + 2, none⟩ = some z1
 s3 : w'.cell? ⟨sg, so + 3, none⟩ = some z2
 s4 : w'.cell? ⟨sg, so + 4, none⟩ = some (.int .i64 0)
 q0 : w'.cell? ⟨lg, lo, none⟩ = some (.string ⟨#[113, 10]⟩)
theorem fit_st2 : StepFit st2 := ⟨by decide, by intro l hl; simp [st2] at hl; subst hl; decide, by decide, by rw [c_stepTx]; decide⟩
theorem fit_rl2 : RuleFit (sortR rl2) := by
 rw [c_sortR]
 refine ⟨by decide, ?_, by rw [c_ruleTx]; decide⟩
 intro x hx
 simp only [rl3, List.mem_cons, List.not_mem_nil, or_false] at hx
 subst hx
 exact fit_st2
theorem few_rl2 : FewR rl2 := by
 refine ⟨by decide, by decide, by decide, by decide, ?_⟩
 intro x hx
 simp only [rl2, List.mem_cons, List.not_mem_nil, or_false] at hx
 subst hx
 decide
set_option maxHeartbeats 8000000 in
set_option maxRecDepth 100000 in
theorem begun4_any (w : World) (hg : GP w.heap.size w) : Calls Tryz.prog 81 #[] w fun e w' => e = .returned (.bool true) ∧ Below w.heap.size w w' := by
 have c1 : ∀ W, Calls Tryz.prog 117 #[.string ⟨t1.toArray⟩] W fun e w' => AllE t1 e w' ∧ Below W.heap.size W w' := fun W => by
  have := lexAll_any ⟨t1.toArray⟩ W (by decide)
  simpa using this
 have c2 : ∀ W, Below w.heap.size w W → Calls Tryz.prog 118 #[.string ⟨t2.toArray⟩] W fun e w' => FileE t2 W w' e ∧ Below W.heap.size W w' := fun W hb => by
  have := file_any ⟨t2.toArray⟩ W (by decide) ((hg.below hb).up hb.size)
  simpa using this
 have c3 : ∀ W, Below w.heap.size w W → Calls Tryz.prog 118 #[.string ⟨t3.toArray⟩] W fun e w' => e = .returned (.tuple #[.slice none 0 0, .agg #[.int .i64 1, .int .i64 5]]) ∧ Below W.heap.size W w' := fun W hb => by
  have := file_any ⟨t3.toArray⟩ W (by decide) ((hg.below hb).up hb.size)
  refine Calls.mono (by simpa using this) ?_
  rintro e w' ⟨he, hb'⟩
  unfold FileE at he
  rw [c_file3] at he
  exact ⟨he, hb'⟩
 have c4 : ∀ W, Below w.heap.size w W → Calls Tryz.prog 119 #[] W fun e w' => e = .returned (.bool true) ∧ Below W.heap.size W w' := fun W hb => begun1_any W (hg.below hb).glob
 have c5 : ∀ W, Calls Tryz.prog 120 #[.string ⟨#[97, 34, 10]⟩] W fun e w' => e = .returned (.string ⟨#[34, 97, 92, 34, 92, 110, 34]⟩) ∧ Below W.heap.size W w' := fun W => by
  have := quote_any ⟨#[97, 34, 10]⟩ W (by decide)
  rw [show (⟨#[97, 34, 10]⟩ : ByteArray).data.toList = [97, 34, 10] from rfl, c_quote] at this
  exact this
 have c7 : ∀ W, Below w.heap.size w W → Calls Tryz.prog 122 #[.string ⟨#[99, 111, 117, 110, 116]⟩] W fun e w' => e = .returned (.int .i64 4) ∧ W = w' := fun W hb => by
  have := op_any ⟨#[99, 111, 117, 110, 116]⟩ w.heap.size W (hg.below hb)
  rw [show (⟨#[99, 111, 117, 110, 116]⟩ : ByteArray).data.toList = [99, 111, 117, 110, 116] from rfl, c_op] at this
  exact this
 have c8 : ∀ W, Below w.heap.size w W → Calls Tryz.prog 123 #[.int .i64 4] W fun e w' => e = .returned (.string ⟨#[99, 111, 117, 110, 116]⟩) ∧ W = w' := fun W hb => by
  have := opName_any 4 w.heap.size W (hg.below hb)
  rw [c_opTx] at this
  exact this
 have C1 := Lib.hid c1; have C2 := Lib.hid c2; have C3 := Lib.hid c3; have C4 := Lib.hid c4; have C5 := Lib.hid c5; have C7 := Lib.hid c7; have C8 := Lib.hid c8
 have HG := Lib.hid hg
 clear c1 c2 c3 c4 c5 c7 c8 hg
 go_enter Tryz.func81, Tryz.ntmps81
 go_wp2_with fail
 refine (C1.out _).mono ?_
 rintro e w1 ⟨he1, hb1⟩
 unfold AllE at he1
 rw [c_all1] at he1
 obtain ⟨v1, rfl, hw1⟩ := he1
 obtain ⟨vl, cl, hv, _, _, hl1⟩ := id hw1
 obtain ⟨bl, ol, rfl, hbl, hcl⟩ := hl1 (by simp [wordRows])
 subst hv
 have HW1 := Lib.hid hcl
 have HB1 := Lib.hid hb1
 clear hw1 hl1 hb1 hcl
 go_wp2_with fail
 refine (C2.out _ (HB1.out.alloc HB1.out.size _)).mono ?_
 rintro e w2 ⟨he2, hb2⟩
 unfold FileE at he2
 rw [c_file2] at he2
 obtain ⟨v2, rfl, hR⟩ := he2
 obtain ⟨g, o, cap, a1, n1, k1, a2, n2, k2, a3, n3, k3, a4, n4, k4, hv, hgl, hRu, hrc⟩ := rules_at hR (k := 0) (x := rl2) rfl
 subst hv
 obtain ⟨_, _, _, _, q, hI, hO, hF, hS⟩ := id hRu
 cases q
 obtain ⟨sg, so, scap, b1, m1, e1, b2, m2, e2, hv, hsl, hA, hL, hsc⟩ := steps_at hS (k := 0) (x := st2) rfl
 obtain ⟨rfl, rfl⟩ : a4 = some ⟨sg, so, none⟩ ∧ n4 = 1 := by cases hv; exact ⟨rfl, rfl⟩
 obtain ⟨la, lc, hv, _, _, hl3⟩ := strsA_shape hL
 obtain ⟨lg, lo, hla, hll, hlc⟩ := hl3 (by simp [st2])
 obtain ⟨rfl, rfl⟩ : b2 = some ⟨lg, lo, none⟩ ∧ m2 = 1 := by cases hv; exact ⟨hla, rfl⟩
 obtain ⟨ia, ic, hv, _, _, _⟩ := strsA_shape hI
 obtain rfl : n1 = 2 := by cases hv; rfl
 have HR := Lib.hid hR
 have HA := Lib.hid hA
 have HL := Lib.hid hL
 have HRC := Lib.hid hrc
 have HSC := Lib.hid hsc
 have HLC := Lib.hid (hlc 0 _ rfl)
 have hs2 := hb2.size
 simp at hs2
 have hbk3 := (hb2.block w1.heap.size (by simp)).trans (alloc_at w1 _)
 have HB3 := Lib.hid hbk3
 have HN2 := Lib.hid ((HB1.out.alloc HB1.out.size _).trans (hb2.mono (by have := HB1.out.size; simp; omega)))
 have HM2 : Hid (Below w1.heap.size w1 w2) := ((Below.refl _ _).alloc (Nat.le_refl _) _).trans (hb2.mono (by simp))
 clear hR hRu hI hO hF hS hA hL hl3 hlc hrc hsc hb2 hbk3
 go_wp2_with fail
 refine (C3.out _ (HN2.out.alloc HN2.out.size _)).mono ?_
 rintro e w3 ⟨rfl, hb3⟩
 have hs3 := hb3.size
 simp at hs3
 have hbk5 := (hb3.block w2.heap.size (by simp)).trans (alloc_at w2 _)
 have HB5 := Lib.hid hbk5
 have HM3 : Hid (Below w2.heap.size w2 w3) := ((Below.refl _ _).alloc (Nat.le_refl _) _).trans (hb3.mono (by simp))
 have HN3 := Lib.hid (HN2.out.trans (HM3.out.mono HN2.out.size))
 clear hb3 hbk5
 have hF : ∀ W, Below (w3.heap.size + 1) (w3.alloc (.cells #[.int .i64 1, .int .i64 5] 146)) W → BegF W bl ol w1.heap.size w2.heap.size w3.heap.size g o (.slice a1 2 k1) (.slice a2 n2 k2) (.slice a3 n3 k3) (.slice (some ⟨sg, so, none⟩) 1 k4) sg so (.slice b1 m1 e1) (.slice (some ⟨lg, lo, none⟩) 1 e2) lg lo := by
  intro W hW
  have u3 : Below w3.heap.size w3 W := ((Below.refl _ _).alloc (Nat.le_refl _) _).trans (hW.mono (by omega))
  have u2 : Below w2.heap.size w2 W := HM3.out.trans (u3.mono (by omega))
  have u1 : Below w1.heap.size w1 W := HM2.out.trans (u2.mono (by omega))
  have x7 : W.heap[w3.heap.size]? = some (.cells #[.int .i64 1, .int .i64 5] 146) := (hW.block _ (by omega)).trans (alloc_at w3 _)
  have x5 := (u3.block _ (by omega)).trans HB5.out
  have x3 := (u2.block _ (by omega)).trans HB3.out
  obtain ⟨y7, y7a, _, _⟩ := cells2 x7
  obtain ⟨y5, _, _, _⟩ := cells2 x5
  obtain ⟨y3, _, _, _⟩ := cells2 x3
  have hw : ∀ (j : Nat) r, (wordRows [(1, 0, [97]), (2, 2, [65]), (3, 9, [59]), (4, 10, [])])[j]? = some r → ∀ (i : Nat) u, r[i]? = some u → W.cell? ⟨bl, ol + j * 3 + i, none⟩ = some u := fun j r hr i u hu => (u1.cell (p := ⟨bl, ol + j * 3 + i, none⟩) hbl).trans (HW1.out j r hr i u hu)
  obtain ⟨r0, r1, r2, r3, r4⟩ := HRC.out W u2
  obtain ⟨s0, s1, s2, s3, s4⟩ := HSC.out W u2
  exact ⟨hw 1 _ rfl 0 _ rfl, hw 1 _ rfl 2 _ rfl, hw 2 _ rfl 1 _ rfl, hw 3 _ rfl 0 _ rfl, y3, y5, y7, y7a, by have h := r0; simp only [Nat.zero_mul, Nat.add_zero] at h; exact h, by have h := r1; simp only [Nat.zero_mul, Nat.add_zero] at h; exact h, by have h := r2; simp only [Nat.zero_mul, Nat.add_zero] at h; exact h, by have h := r3; simp only [Nat.zero_mul, Nat.add_zero] at h; exact h, by have h := r4; simp only [Nat.zero_mul, Nat.add_zero] at h; exact h, by have h := s0; simp only [Nat.zero_mul, Nat.add_zero] at h; exact h, by have h := s1; simp only [Nat.zero_mul, Nat.add_zero] at h; exact h, by have h := s2; simp only [Nat.zero_mul, Nat.add_zero] at h; exact h, by have h := s3; simp only [Nat.zero_mul, Nat.add_zero] at h; exact h, by have h := s4; simp only [Nat.zero_mul, Nat.add_zero] at h; exact h, (u2.cell (p := ⟨lg, lo, none⟩) hll).trans (by have h := HLC.out; simp only [Nat.add_zero] at h; exact h)⟩
 have hUP : ∀ W, Below (w3.heap.size + 1) (w3.alloc (.cells #[.int .i64 1, .int .i64 5] 146)) W → Below w.heap.size w W := fun W hW => (HN3.out.alloc HN3.out.size _).trans (hW.mono (by have := HN3.out.size; omega))
 have hU2 : ∀ W, Below (w3.heap.size + 1) (w3.alloc (.cells #[.int .i64 1, .int .i64 5] 146)) W → Below w2.heap.size w2 W := fun W hW => HM3.out.trans ((((Below.refl _ _).alloc (Nat.le_refl _) _).trans (hW.mono (by omega))).mono (by omega))
 have hb0 : Below (w3.heap.size + 1) (w3.alloc (.cells #[.int .i64 1, .int .i64 5] 146)) (w3.alloc (.cells #[.int .i64 1, .int .i64 5] 146)) := Below.refl _ _
 have HFF := Lib.hid hF
 have HUP := Lib.hid hUP
 have HU2 := Lib.hid hU2
 have HC0 := Lib.hid hb0
 obtain ⟨f1, f2, f3, f4, f5, f6, f7, f8, f9, f10, f11, f12, f13, f14, f15, f16, f17, f18, f19⟩ := hF _ hb0
 clear hF hUP hU2 hb0
 go_wp2_with fail
 refine (C4.out _ (HUP.out _ HC0.out)).mono ?_
 rintro e w4 ⟨rfl, hb4⟩
 have HC4 := Lib.hid (HC0.out.trans (hb4.mono (by simp)))
 clear hb4 f1 f2 f3 f4 f5 f6 f7 f8 f9 f10 f11 f12 f13 f14 f15 f16 f17 f18 f19
 obtain ⟨f1, f2, f3, f4, f5, f6, f7, f8, f9, f10, f11, f12, f13, f14, f15, f16, f17, f18, f19⟩ := HFF.out _ HC4.out
 go_wp2_with fail
 refine (C5.out _).mono ?_
 rintro e w5 ⟨rfl, hb5⟩
 have HC5 := Lib.hid (HC4.out.trans (hb5.mono (by have := HC4.out.size; simp at this; omega)))
 clear hb5 f1 f2 f3 f4 f5 f6 f7 f8 f9 f10 f11 f12 f13 f14 f15 f16 f17 f18 f19
 obtain ⟨f1, f2, f3, f4, f5, f6, f7, f8, f9, f10, f11, f12, f13, f14, f15, f16, f17, f18, f19⟩ := HFF.out _ HC5.out
 go_wp2_with fail
 have c6 := pfile_of (.slice (some ⟨g, o, none⟩) 1 cap) [rl2] [sortR rl2] (fun b => b < (w1.alloc (.cells #[.int .i64 0, .int .i64 0] 146)).heap.size) w.heap.size w5 (HG.out.below (HUP.out _ HC5.out)) (HUP.out _ HC5.out).size (HR.out.keep (fr_below (HU2.out _ HC5.out))) (by decide) (by decide) (fun x hx => by simp at hx; subst hx; exact few_rl2) (fun y hy => by simp at hy; subst hy; exact fit_rl2) (by rw [c_rulesTx]; decide) (sorts_tiny _ _ (by decide))
 rw [c_rulesTx] at c6
 refine c6.mono ?_
 clear c6
 rintro e w6 ⟨rfl, hb6⟩
 have HC6 := Lib.hid (HC5.out.trans (hb6.mono (by have := HC5.out.size; simp at this; omega)))
 clear hb6 f1 f2 f3 f4 f5 f6 f7 f8 f9 f10 f11 f12 f13 f14 f15 f16 f17 f18 f19
 obtain ⟨f1, f2, f3, f4, f5, f6, f7, f8, f9, f10, f11, f12, f13, f14, f15, f16, f17, f18, f19⟩ := HFF.out _ HC6.out
 go_wp2_with fail
 refine (C7.out _ (HUP.out _ HC6.out)).mono ?_
 rintro e w7 ⟨rfl, rfl⟩
 go_wp2_with fail
 refine (C8.out _ (HUP.out _ HC6.out)).mono ?_
 rintro e w8 ⟨rfl, rfl⟩
 go_wp2_with fail
 have c9 := sorted_of (.slice (some ⟨g, o, none⟩) 1 cap) [rl2] [sortR rl2] (fun b => b < (w1.alloc (.cells #[.int .i64 0, .int .i64 0] 146)).heap.size) w6 (HR.out.keep (fr_below (HU2.out _ HC6.out))) (by decide) (fun x hx => by simp at hx; subst hx; exact few_rl2) (sorts_tiny _ _ (by decide))
 refine c9.mono ?_
 clear c9
 rintro e w7 ⟨y1, y2, y3, rfl, hO7, hb7⟩
 have HO7 := Lib.hid (hO7.rulesA.mono (Av' := fun b => b < w.heap.size) fun b _ e => by have := (HUP.out _ HC6.out).size; omega)
 clear hO7
 have HC7 := Lib.hid (HC6.out.trans (hb7.mono (by have := HC6.out.size; simp at this; omega)))
 clear hb7 f1 f2 f3 f4 f5 f6 f7 f8 f9 f10 f11 f12 f13 f14 f15 f16 f17 f18 f19
 obtain ⟨f1, f2, f3, f4, f5, f6, f7, f8, f9, f10, f11, f12, f13, f14, f15, f16, f17, f18, f19⟩ := HFF.out _ HC7.out
 go_wp2_with fail
 have c9 := sorted_of (.slice (some ⟨g, o, none⟩) 1 cap) [rl2] [sortR rl2] (fun b => b < (w1.alloc (.cells #[.int .i64 0, .int .i64 0] 146)).heap.size) w7 (HR.out.keep (fr_below (HU2.out _ HC7.out))) (by decide) (fun x hx => by simp at hx; subst hx; exact few_rl2) (sorts_tiny _ _ (by decide))
 refine c9.mono ?_
 clear c9
 rintro e w8 ⟨q1, q2, q3, rfl, hO8, hb8⟩
 have c10 := eq_same _ _ [sortR rl2] (fun b => b < w.heap.size) w8 (HO7.out.keep (fr_below hb8)) (hO8.rulesA.mono (Av' := fun b => b < w.heap.size) fun b _ e => by have := (HUP.out _ HC7.out).size; omega)
 clear hO8
 have HC8 := Lib.hid (HC7.out.trans (hb8.mono (by have := HC7.out.size; simp at this; omega)))
 clear hb8 f1 f2 f3 f4 f5 f6 f7 f8 f9 f10 f11 f12 f13 f14 f15 f16 f17 f18 f19
 obtain ⟨f1, f2, f3, f4, f5, f6, f7, f8, f9, f10, f11, f12, f13, f14, f15, f16, f17, f18, f19⟩ := HFF.out _ HC8.out
 go_wp2_with fail
 refine c10.mono ?_
 clear c10
 rintro e w9 ⟨rfl, hb9⟩
 have HC9 := Lib.hid (HC8.out.trans (hb9.mono (by have := HC8.out.size; simp at this; omega)))
 clear hb9 f1 f2 f3 f4 f5 f6 f7 f8 f9 f10 f11 f12 f13 f14 f15 f16 f17 f18 f19
 obtain ⟨f1, f2, f3, f4, f5, f6, f7, f8, f9, f10, f11, f12, f13, f14, f15, f16, f17, f18, f19⟩ := HFF.out _ HC9.out
 go_wp2_with fail
 have c11 := step_any st2 (.slice b1 m1 e1) (.slice (some ⟨lg, lo, none⟩) 1 e2) w.heap.size w9 (HG.out.below (HUP.out _ HC9.out)) (HUP.out _ HC9.out).size (StrsA.isStrs (show StrsA _ w9 (.slice b1 m1 e1) st2.args from RowA.keep HA.out (fr_below (HU2.out _ HC9.out)))) (StrsA.isStrs (show StrsA _ w9 (.slice (some ⟨lg, lo, none⟩) 1 e2) st2.lits from RowA.keep HL.out (fr_below (HU2.out _ HC9.out)))) fit_st2
 rw [c_stepTx] at c11
 refine Calls.mono c11 ?_
 clear c11
 rintro e w10 ⟨rfl, hb10⟩
 have HC10 := Lib.hid (HC9.out.trans (hb10.mono (by have := HC9.out.size; simp at this; omega)))
 clear hb10
 go_wp2
 go_ret
 exact ⟨rfl, HUP.out _ HC10.out⟩
end Go.Proofs.YtdhmeganlnpohaaGreatDoor
namespace Go.Proofs.YtdhmeganlnpohaaGreatDoor
open Go.ChangeShapes Go.WideShapes Go.ChangeAt Go.RowKit
theorem cells_of_names {H : Type} {enc : TypeId × Value → H} {P : Program} {w : World} {base : Nat} {sp : Nat → Bool} {held : Bool} {fuel : Nat} {t e : TypeId} {n : Nat} {cs : List Value} {zs : List (List UInt8)} {p : List MemPlace}
  (ht : P.underlying t = some (.array n e)) (he : P.underlying e = some .string) (hce : P.cellsOf e = 1) (hct : P.cellsOf t = n)
  (h : DataW.trod enc P w base sp held fuel t cs = some (.agg (zs.map fun z => .lit (.string z)), p)) : ∀ (i : Nat) z, zs[i]? = some z → cs[i]? = some (.string ⟨z.toArray⟩) := by
 cases fuel with
 | zero => simp [DataW.trod] at h
 | succ fuel =>
  simp only [DataW.trod, ht, hce, hct, Nat.mul_one] at h
  split at h
  ·rename_i hl
   obtain ⟨xs, hm, hx⟩ := Option.map_eq_some_iff.1 h
   have hxs : xs.map (·.1) = zs.map fun z => (DataW.lit (.string z) : DataW H) := by
    have := congrArg Prod.fst hx
    simpa using this
   have hxl : xs.length = n := by simpa using Lib.mapM_length hm
   have hzl : zs.length = n := by
    have := congrArg List.length hxs
    simp at this
    omega
   intro i z hz
   have hi : i < n := by rw [← hzl]; exact (List.getElem?_eq_some_iff.1 hz).1
   obtain ⟨b, hb, hf⟩ := Lib.mapM_at hm i i (by simp [hi])
   obtain ⟨s, hc, rfl, _⟩ := DataW.trod_string he hf
   have h1 : cs[i]? = some (.string s) := by
    have := congrArg (·[0]?) hc
    simpa [List.getElem?_take, List.getElem?_drop] using this
   have h2 : (xs.map (·.1))[i]? = some (DataW.lit (.string s.data.toList) : DataW H) := by simp [hb]
   rw [hxs] at h2
   simp only [List.getElem?_map, hz, Option.map_some, Option.some.injEq, DataW.lit.injEq, Lit.string.injEq] at h2
   rw [h1, h2]
  ·cases h
theorem gp_of {W : World} (hL : laidMetH Tryz.prog laidL W) (hS : W.ShapedOpen Tryz.prog) : GP W.heap.size W := by
 have hg := glob_of hL hS
 obtain ⟨m, hm⟩ := hg.max
 obtain ⟨t1, p1, h1⟩ := hg.es
 obtain ⟨t2, p2, h2⟩ := hg.er
 rw [MakeChecks.laidMetH_plain _ _ _ (by kernel_rfl)] at hL
 obtain ⟨g', t', cs, fuel, p, hg', ht', hv, hd⟩ := Lib.laidMet.reads hL (show (_, _) ∈ laidL from .tail _ (.tail _ (.tail _ (.tail _ (.tail _ (.tail _ (.head _)))))))
 obtain rfl : 0 = g' := Option.some.inj ((show _ = some 0 by kernel_rfl : Tryz.prog.globalNamed _ = some 0).symm.trans hg')
 obtain rfl := Option.some.inj ((show (Tryz.prog.globals[0]?).map (·.type) = some 202 by kernel_rfl).symm.trans ht')
 have hc := cells_of_names Tryz.underlying202 Tryz.underlying9 (by kernel_rfl) (by kernel_rfl) (zs := opTab) hd
 have ho : ∀ (k : Nat) x, opTab[k]? = some x → W.cell? ⟨0, k, none⟩ = some (.string ⟨x.toArray⟩) := by
  intro k x hx
  have := World.var?_cell hg' hv k
  rw [this]
  have := hc k x hx
  simpa using this
 exact ⟨hg, ho, cell_lt hm, hg.top, cell_lt h1, cell_lt h2, cell_lt (ho 0 _ rfl)⟩
end Go.Proofs.YtdhmeganlnpohaaGreatDoor
namespace Go.Proofs.YtdhmeganlnpohaaGreatDoor
open Go.RowKit Go.Maps
abbrev MapL := List (ByteArray × Value)
def heldE (v : Value) : Option (DataW Value × List MemPlace) := some (.held v, [])
def litS (k : ByteArray) : Lit := .string k.data.toList
def hasM (m : MapL) (k : ByteArray) : Bool := m.any fun p => decide (p.1 = k)
def getM (m : MapL) (k : ByteArray) (z : Value) : Value := ((m.find? fun p => decide (p.1 = k)).map (·.2)).getD z
def putM (m : MapL) (k : ByteArray) (v : Value) : MapL := (k, v) :: m.filter fun p => !decide (p.1 = k)
theorem bytes_ext {a b : ByteArray} (h : a.data.toList = b.data.toList) : a = b := by
 cases a; cases b; simp only [ByteArray.mk.injEq] at h ⊢; exact Array.ext' h
theorem litS_inj {a b : ByteArray} (h : litS a = litS b) : a = b := by unfold litS at h; injection h with h; exact bytes_ext h
theorem hasM_put (m : MapL) (k k' : ByteArray) (v : Value) : hasM (putM m k v) k' = (decide (k = k') || hasM m k') := by
 unfold hasM putM
 rw [List.any_cons, List.any_filter]
 by_cases e : k = k'
 ·simp [e]
 ·rw [decide_eq_false e, Bool.false_or, Bool.false_or]
  congr 1
  funext p
  by_cases h : p.1 = k'
  ·have : ¬ p.1 = k := fun e' => e (e'.symm.trans h)
   rw [decide_eq_false this]; rfl
  ·rw [decide_eq_false h, Bool.and_false]
theorem getM_put_same (m : MapL) (k : ByteArray) (v z : Value) : getM (putM m k v) k z = v := by
 unfold getM putM
 rw [List.find?_cons_of_pos (by simp)]
 rfl
theorem getM_put_other (m : MapL) {k k' : ByteArray} (v z : Value) (h : ¬ k = k') : getM (putM m k v) k' z = getM m k' z := by
 unfold getM putM
 rw [List.find?_cons_of_neg (by simpa using h), List.find?_filter]
 congr 3
 funext p
 by_cases h2 : p.1 = k'
 ·have : ¬ p.1 = k := fun e' => h (e'.symm.trans h2)
  rw [decide_eq_false this]; simp
 ·rw [decide_eq_false h2]; simp
def KeysN (m : MapL) : Prop := m.Pairwise fun p q => ¬ p.1 = q.1
theorem KeysN.put {m : MapL} (h : KeysN m) (k : ByteArray) (v : Value) : KeysN (putM m k v) := by
 unfold KeysN putM
 rw [List.pairwise_cons]
 refine ⟨fun p hp => ?_, h.filter _⟩
 have := (List.mem_filter.1 hp).2
 simp at this
 exact fun e => this e.symm
theorem putM_len {m : MapL} (h : KeysN m) (k : ByteArray) (v : Value) : (putM m k v).length = if hasM m k then m.length else m.length + 1 := by
 unfold putM
 rw [List.length_cons]
 induction m with
 | nil => simp [hasM]
 | cons p m ih =>
  have h' := List.pairwise_cons.1 h
  by_cases e : p.1 = k
  ·have hf : m.filter (fun p => !decide (p.1 = k)) = m := List.filter_eq_self.2 fun q hq => by
    have := h'.1 q hq
    rw [e] at this
    simp
    exact fun e' => this e'.symm
   have hh : hasM (p :: m) k = true := by simp [hasM, e]
   rw [hh, List.filter_cons_of_neg (by simp [e]), hf]
   simp
  ·have hh : hasM (p :: m) k = hasM m k := by simp [hasM, e]
   rw [hh, List.filter_cons_of_pos (by simpa using e), List.length_cons]
   have := ih h'.2
   rw [this, List.length_cons]
   split <;> rfl
def MapIs (P : Program) (kt : TypeId) (w : World) (b : Nat) (m : MapL) : Prop :=
 ∃ D : DataW Value, w.ownsMap P kt heldE b m.length D ∧ (∀ k, Maps.has D (litS k) = hasM m k) ∧ (∀ k z, D.atKey (litS k) (.held z) = .held (getM m k z)) ∧ Maps.size D = m.length ∧ KeysN m
variable {P : Program} {kt t e : TypeId} {w : World} {b : Nat} {m : MapL}
theorem mapIs_made (w : World) (P : Program) (kt : TypeId) : MapIs P kt (w.alloc (.map #[] 0)) w.heap.size [] :=
 ⟨.map [], World.ownsMap_made w P kt heldE, fun _ => rfl, fun _ _ => rfl, rfl, List.Pairwise.nil⟩
theorem MapIs.lt (h : MapIs P kt w b m) : b < w.heap.size := by obtain ⟨D, h, _⟩ := h; exact h.lt
theorem MapIs.kept {w' : World} {row : Option Nat} (h : MapIs P kt w b m) (hg : w.grownBy w' row) (hne : some b ≠ row) : MapIs P kt w' b m := by
 obtain ⟨D, h, r⟩ := h; exact ⟨D, h.kept hg hne, r⟩
theorem MapIs.heap {w' : World} (h : MapIs P kt w b m) (hb : w'.heap[b]? = w.heap[b]?) : MapIs P kt w' b m := by
 obtain ⟨D, ⟨es, clock, h1, h2⟩, r⟩ := h
 exact ⟨D, ⟨es, clock, hb.trans h1, h2⟩, r⟩
theorem MapIs.below {B : Nat} {w' : World} (h : MapIs P kt w b m) (hb : Below B w w') (hlt : b < B) : MapIs P kt w' b m := h.heap (hb.block b hlt)
theorem MapIs.alloc (h : MapIs P kt w b m) (o : Obj) : MapIs P kt (w.alloc o) b m := by obtain ⟨D, h, r⟩ := h; exact ⟨D, h.alloc o, r⟩
theorem MapIs.drew (h : MapIs P kt w b m) : MapIs P kt w.drew b m := h
theorem key_mk (hk : P.underlying kt = some .string) (k : ByteArray) (hs : k.size ≤ maxLen) : keyOf P kt (.string k) = some (litS k) := WideMaps.keyOf_string_mk hk hs
theorem MapIs.look (h : MapIs P kt w b m) (hk : P.underlying kt = some .string) (ht : P.underlying t = some (.map kt e)) {z : Value} (hz : (zeroValue e).run P w = .ok z w) (k : ByteArray) (hs : k.size ≤ maxLen) :
  (Instr.lookup t (.map (some b)) (.string k) false).run P w = .ok (getM m k z) w := by
 obtain ⟨D, h, _, h2, _⟩ := h
 obtain ⟨v, ps, hrun, hv⟩ := h.lookup (Maps.string_keyed hk) ht hz (zd := .held z) (zp := []) rfl (key_mk hk k hs)
 rw [h2] at hv
 simp only [heldE, Option.some.injEq, Prod.mk.injEq, DataW.held.injEq] at hv
 rw [hrun, hv.1]
theorem MapIs.look_ok (h : MapIs P kt w b m) (hk : P.underlying kt = some .string) (ht : P.underlying t = some (.map kt e)) {z : Value} (hz : (zeroValue e).run P w = .ok z w) (k : ByteArray) (hs : k.size ≤ maxLen) :
  (Instr.lookup t (.map (some b)) (.string k) true).run P w = .ok (.tuple #[getM m k z, .bool (hasM m k)]) w := by
 obtain ⟨D, h, h1, h2, _⟩ := h
 obtain ⟨v, ps, hrun, hv⟩ := h.look_ok (Maps.string_keyed hk) ht hz (zd := .held z) (zp := []) rfl (key_mk hk k hs)
 rw [h2] at hv
 simp only [heldE, Option.some.injEq, Prod.mk.injEq, DataW.held.injEq] at hv
 rw [hrun, hv.1, h1]
theorem MapIs.len (h : MapIs P kt w b m) (ht : P.underlying t = some (.map kt e)) (ty : TypeId) : (Builtin.len_ #[t] ty #[.map (some b)]).run P w = .ok (.int .i64 (m.length : Int)) w := by
 obtain ⟨D, h, _, _, h3, _⟩ := h
 rw [h.len ht ty, h3]
theorem MapIs.put (h : MapIs P kt w b m) (hk : P.underlying kt = some .string) (ht : P.underlying t = some (.map kt e)) (hn : m.length < maxLen) (k : ByteArray) (hs : k.size ≤ maxLen) (v : Value) :
  ∃ w', (Instr.mapUpdate t (.map (some b)) (.string k) v).run P w = .ok () w' ∧ MapIs P kt w' b (putM m k v) ∧ w.mapTurned w' b := by
 obtain ⟨D, h, h1, h2, h3, hK⟩ := h
 have K := Maps.string_keyed hk
 have hT := h.tidy K
 obtain ⟨w', hrun, r1, r2⟩ := h.store K ht hn (key_mk hk k hs) (val := v) (d := .held v) (ps := []) rfl
 have hkl : WideAt.IsKeyLit (litS k) := trivial
 have hsz : Maps.size (D.put (litS k) (.held v)) = (putM m k v).length := by
  rw [Maps.size_put hT, h1, h3, putM_len hK]
 refine ⟨w', hrun, ⟨D.put (litS k) (.held v), ?_, fun k' => ?_, fun k' z => ?_, hsz, hK.put k v⟩, r2⟩
 ·obtain ⟨es, clock, a1, a2, a3, a4⟩ := r1
  refine ⟨es, clock, a1, a2, ?_, a4⟩
  have : Maps.size (D.put (litS k) (.held v)) = es.size := by rw [a4]; simp [Maps.size, length_sorted]
  omega
 ·rw [hasM_put]
  by_cases e : k = k'
  ·subst e
   rw [Maps.has_put_same hT.isMap hkl]
   simp
  ·have : ¬ litS k' = litS k := fun e' => e (litS_inj e').symm
   rw [Maps.has_put_other this, h1, decide_eq_false e, Bool.false_or]
 ·by_cases e : k = k'
  ·subst e
   rw [Maps.atKey_put_same hT.isMap hkl, getM_put_same]
  ·have : ¬ litS k' = litS k := fun e' => e (litS_inj e').symm
   rw [Maps.atKey_put_other this, h2, getM_put_other _ _ _ e]
end Go.Proofs.YtdhmeganlnpohaaGreatDoor
