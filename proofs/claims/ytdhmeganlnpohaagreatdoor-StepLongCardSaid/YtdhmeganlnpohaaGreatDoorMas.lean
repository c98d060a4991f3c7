import Derived.Test.YtdhmeganlnpohaaGreatDoorMar
namespace Go.Proofs.YtdhmeganlnpohaaGreatDoor
open Go.RowKit Go.Shelf
def FewR (r : RuleS) : Prop := r.ins.length ≤ 1000000 ∧ r.outs.length ≤ 1000000 ∧ r.after.length ≤ 1000000 ∧ r.steps.length ≤ 1000000 ∧ ∀ x ∈ r.steps, x.args.length ≤ 1000000 ∧ x.lits.length ≤ 1000000
def OneRulePost (w : World) (r : RuleS) (e : Ending) (w' : World) : Prop :=
 ∃ a1 n1 c1 a2 n2 c2 a3 n3 c3 a4 n4 c4, e = .returned (.agg #[.string r.name, .slice a1 n1 c1, .slice a2 n2 c2, .slice a3 n3 c3, .slice a4 n4 c4]) ∧
  RuleA (fun b => b < w.heap.size) w' [.string r.name, .slice a1 n1 c1, .slice a2 n2 c2, .slice a3 n3 c3, .slice a4 n4 c4] r ∧ Below w.heap.size w w'
theorem sorted_strs {w : World} {xs : List ByteArray} {e : Ending} {w' : World} (h : SortedPost w xs e w') : ∃ a n c, e = .returned (.slice a n c) ∧ StrsA (fun b => b < w.heap.size) w' (.slice a n c) (srtB xs) ∧ Below w.heap.size w w' := by
 obtain ⟨v, rfl, _, hA, hb⟩ := h
 obtain ⟨a, n, c, rfl⟩ := rowA_shape hA
 exact ⟨a, n, c, rfl, hA, hb⟩
set_option maxHeartbeats 8000000 in
set_option maxRecDepth 100000 in
theorem sortedRule_any (r : RuleS) (vi vo vf vs : Value) (Av : Nat → Prop) (w : World) (hr : RuleA Av w [.string r.name, vi, vo, vf, vs] r) (hfew : FewR r) :
  Calls Tryz.prog 176 #[.agg #[.string r.name, vi, vo, vf, vs]] w (OneRulePost w (sortR r)) := by
 obtain ⟨_, _, _, _, he, hI, hO, hF, hS⟩ := hr
 cases he
 obtain ⟨ia, inn, ic, hvi⟩ := rowA_shape hI
 obtain ⟨oa, on, oc, hvo⟩ := rowA_shape hO
 obtain ⟨fa, fnn, fc, hvf⟩ := rowA_shape hF
 obtain ⟨sa, sc, hvs, _, _⟩ := stepsA_len hS
 subst hvi hvo hvf hvs
 have c1 : ∀ w', Below w.heap.size w w' → Calls Tryz.prog 234 #[.slice ia inn ic] w' (SortedPost w' r.ins) := fun w' hb => sortedNames_any _ _ w' (hI.isStrs.below hb) (by have := hfew.1; omega)
 have c2 : ∀ w', Below w.heap.size w w' → Calls Tryz.prog 234 #[.slice oa on oc] w' (SortedPost w' r.outs) := fun w' hb => sortedNames_any _ _ w' (hO.isStrs.below hb) (by have := hfew.2.1; omega)
 have c3 : ∀ w', Below w.heap.size w w' → Calls Tryz.prog 234 #[.slice fa fnn fc] w' (SortedPost w' r.after) := fun w' hb => sortedNames_any _ _ w' (hF.isStrs.below hb) (by have := hfew.2.2.1; omega)
 have c4 : ∀ w', Below w.heap.size w w' → Calls Tryz.prog 235 #[.slice sa r.steps.length sc] w' (CloneStepsPost w' r.steps) := fun w' hb => cloneSteps_any _ _ Av w' (hS.keep (fr_below hb)) hfew.2.2.2.1 hfew.2.2.2.2
 have C1 := Lib.hid c1; have C2 := Lib.hid c2; have C3 := Lib.hid c3; have C4 := Lib.hid c4
 clear c1 c2 c3 c4 hI hO hF hS hfew
 obtain ⟨W0, hW0⟩ : ∃ W0, W0 = ((w.alloc (.cells #[.string r.name, .slice ia inn ic, .slice oa on oc, .slice fa fnn fc, .slice sa r.steps.length sc] 45)).alloc (.cells #[.string ⟨#[]⟩, .slice none 0 0, .slice none 0 0, .slice none 0 0, .slice none 0 0] 45)) := ⟨_, rfl⟩
 have hs0 : w.heap.size + 2 ≤ W0.heap.size := by rw [hW0]; simp
 have HX0 : Hid (W0.heap[w.heap.size]? = some (.cells #[.string r.name, .slice ia inn ic, .slice oa on oc, .slice fa fnn fc, .slice sa r.steps.length sc] 45)) := by
  show W0.heap[w.heap.size]? = _
  rw [hW0, Below.heap_alloc _ _ _ (by simp)]; exact alloc_at w _
 have HZ0 : Hid (W0.heap[w.heap.size + 1]? = some (.cells #[.string ⟨#[]⟩, .slice none 0 0, .slice none 0 0, .slice none 0 0, .slice none 0 0] 45)) := by
  show W0.heap[w.heap.size + 1]? = _
  have := alloc_at (w.alloc (.cells #[.string r.name, .slice ia inn ic, .slice oa on oc, .slice fa fnn fc, .slice sa r.steps.length sc] 45)) (.cells #[.string ⟨#[]⟩, .slice none 0 0, .slice none 0 0, .slice none 0 0, .slice none 0 0] 45)
  rw [hW0]
  simpa using this
 have HN0 : Hid (Below w.heap.size w W0) := by
  show Below _ _ _
  rw [hW0]; exact ((Below.refl _ _).alloc (Nat.le_refl _) _).alloc (by simp) _
 have HS0 := Lib.hid hs0
 clear hs0
 subst hW0
 go_enter Tryz.func176, Tryz.ntmps176
 go_wp2_with fail
 refine (C1.out _ HN0.out).mono ?_
 intro e v1 hpost
 obtain ⟨a1, n1, c1, rfl, hA, hb⟩ := sorted_strs hpost
 have hx := (hb.block _ (by have := HS0.out; omega)).trans HX0.out
 have hz := (hb.block _ (by have := HS0.out; omega)).trans HZ0.out
 obtain ⟨e0, e1, e2, e3, e4, f0, f1, f2, f3, f4⟩ := cells5 hx
 have HX1 : Hid ((v1.setCell ⟨w.heap.size, 1, none⟩ (.slice a1 n1 c1)).heap[w.heap.size]? = some (.cells #[.string r.name, .slice a1 n1 c1, .slice oa on oc, .slice fa fnn fc, .slice sa r.steps.length sc] 45)) := heap_set 1 (.slice a1 n1 c1) hx
 have HZ1 : Hid ((v1.setCell ⟨w.heap.size, 1, none⟩ (.slice a1 n1 c1)).heap[w.heap.size + 1]? = some (.cells #[.string ⟨#[]⟩, .slice none 0 0, .slice none 0 0, .slice none 0 0, .slice none 0 0] 45)) := (Below.heap_setCell _ _ _ _ (by simp)).trans hz
 have HN1 : Hid (Below w.heap.size w (v1.setCell ⟨w.heap.size, 1, none⟩ (.slice a1 n1 c1))) := (HN0.out.trans (hb.mono (by have := HS0.out; omega))).setCell (Nat.le_refl _) _
 have HS1 : Hid (w.heap.size + 2 ≤ (v1.setCell ⟨w.heap.size, 1, none⟩ (.slice a1 n1 c1)).heap.size) := by
  show _ ≤ _
  have h1 := HS0.out; have h2 := hb.size; simp [World.setCell]; omega
 have HL1_1 : Hid (StrsA (fun b => b < w.heap.size + 2) (v1.setCell ⟨w.heap.size, 1, none⟩ (.slice a1 n1 c1)) (.slice a1 n1 c1) (sortR r).ins) :=
  RowA.keep (RowA.mono hA fun b _ e => by have := HS0.out; omega) (fr_set (a := ⟨w.heap.size, 1, none⟩) (Av := fun b => b < w.heap.size + 2) (by show w.heap.size < w.heap.size + 2; omega) _)
 clear hpost hA hx hz hb
 go_wp2_with fail
 refine (C2.out _ HN1.out).mono ?_
 intro e v2 hpost
 obtain ⟨a2, n2, c2, rfl, hA, hb⟩ := sorted_strs hpost
 clear e0 e1 e2 e3 e4 f0 f1 f2 f3 f4
 have hx := (hb.block _ (by have := HS1.out; omega)).trans HX1.out
 have hz := (hb.block _ (by have := HS1.out; omega)).trans HZ1.out
 obtain ⟨e0, e1, e2, e3, e4, f0, f1, f2, f3, f4⟩ := cells5 hx
 have HX2 : Hid ((v2.setCell ⟨w.heap.size, 2, none⟩ (.slice a2 n2 c2)).heap[w.heap.size]? = some (.cells #[.string r.name, .slice a1 n1 c1, .slice a2 n2 c2, .slice fa fnn fc, .slice sa r.steps.length sc] 45)) := heap_set 2 (.slice a2 n2 c2) hx
 have HZ2 : Hid ((v2.setCell ⟨w.heap.size, 2, none⟩ (.slice a2 n2 c2)).heap[w.heap.size + 1]? = some (.cells #[.string ⟨#[]⟩, .slice none 0 0, .slice none 0 0, .slice none 0 0, .slice none 0 0] 45)) := (Below.heap_setCell _ _ _ _ (by simp)).trans hz
 have HN2 : Hid (Below w.heap.size w (v2.setCell ⟨w.heap.size, 2, none⟩ (.slice a2 n2 c2))) := (HN1.out.trans (hb.mono (by have := HS1.out; omega))).setCell (Nat.le_refl _) _
 have HS2 : Hid (w.heap.size + 2 ≤ (v2.setCell ⟨w.heap.size, 2, none⟩ (.slice a2 n2 c2)).heap.size) := by
  show _ ≤ _
  have h1 := HS1.out; have h2 := hb.size; simp [World.setCell]; omega
 have HL1_2 : Hid (StrsA (fun b => b < w.heap.size + 2) (v2.setCell ⟨w.heap.size, 2, none⟩ (.slice a2 n2 c2)) (.slice a1 n1 c1) (sortR r).ins) :=
  RowA.keep (RowA.keep HL1_1.out (fr_below hb)) (fr_set (a := ⟨w.heap.size, 2, none⟩) (Av := fun b => b < w.heap.size + 2) (by show w.heap.size < w.heap.size + 2; omega) _)
 have HL2_2 : Hid (StrsA (fun b => b < w.heap.size + 2) (v2.setCell ⟨w.heap.size, 2, none⟩ (.slice a2 n2 c2)) (.slice a2 n2 c2) (sortR r).outs) :=
  RowA.keep (RowA.mono hA fun b _ e => by have := HS1.out; omega) (fr_set (a := ⟨w.heap.size, 2, none⟩) (Av := fun b => b < w.heap.size + 2) (by show w.heap.size < w.heap.size + 2; omega) _)
 clear hpost hA hx hz hb
 go_wp2_with fail
 refine (C3.out _ HN2.out).mono ?_
 intro e v3 hpost
 obtain ⟨a3, n3, c3, rfl, hA, hb⟩ := sorted_strs hpost
 clear e0 e1 e2 e3 e4 f0 f1 f2 f3 f4
 have hx := (hb.block _ (by have := HS2.out; omega)).trans HX2.out
 have hz := (hb.block _ (by have := HS2.out; omega)).trans HZ2.out
 obtain ⟨e0, e1, e2, e3, e4, f0, f1, f2, f3, f4⟩ := cells5 hx
 have HX3 : Hid ((v3.setCell ⟨w.heap.size, 3, none⟩ (.slice a3 n3 c3)).heap[w.heap.size]? = some (.cells #[.string r.name, .slice a1 n1 c1, .slice a2 n2 c2, .slice a3 n3 c3, .slice sa r.steps.length sc] 45)) := heap_set 3 (.slice a3 n3 c3) hx
 have HZ3 : Hid ((v3.setCell ⟨w.heap.size, 3, none⟩ (.slice a3 n3 c3)).heap[w.heap.size + 1]? = some (.cells #[.string ⟨#[]⟩, .slice none 0 0, .slice none 0 0, .slice none 0 0, .slice none 0 0] 45)) := (Below.heap_setCell _ _ _ _ (by simp)).trans hz
 have HN3 : Hid (Below w.heap.size w (v3.setCell ⟨w.heap.size, 3, none⟩ (.slice a3 n3 c3))) := (HN2.out.trans (hb.mono (by have := HS2.out; omega))).setCell (Nat.le_refl _) _
 have HS3 : Hid (w.heap.size + 2 ≤ (v3.setCell ⟨w.heap.size, 3, none⟩ (.slice a3 n3 c3)).heap.size) := by
  show _ ≤ _
  have h1 := HS2.out; have h2 := hb.size; simp [World.setCell]; omega
 have HL1_3 : Hid (StrsA (fun b => b < w.heap.size + 2) (v3.setCell ⟨w.heap.size, 3, none⟩ (.slice a3 n3 c3)) (.slice a1 n1 c1) (sortR r).ins) :=
  RowA.keep (RowA.keep HL1_2.out (fr_below hb)) (fr_set (a := ⟨w.heap.size, 3, none⟩) (Av := fun b => b < w.heap.size + 2) (by show w.heap.size < w.heap.size + 2; omega) _)
 have HL2_3 : Hid (StrsA (fun b => b < w.heap.size + 2) (v3.setCell ⟨w.heap.size, 3, none⟩ (.slice a3 n3 c3)) (.slice a2 n2 c2) (sortR r).outs) :=
  RowA.keep (RowA.keep HL2_2.out (fr_below hb)) (fr_set (a := ⟨w.heap.size, 3, none⟩) (Av := fun b => b < w.heap.size + 2) (by show w.heap.size < w.heap.size + 2; omega) _)
 have HL3_3 : Hid (StrsA (fun b => b < w.heap.size + 2) (v3.setCell ⟨w.heap.size, 3, none⟩ (.slice a3 n3 c3)) (.slice a3 n3 c3) (sortR r).after) :=
  RowA.keep (RowA.mono hA fun b _ e => by have := HS2.out; omega) (fr_set (a := ⟨w.heap.size, 3, none⟩) (Av := fun b => b < w.heap.size + 2) (by show w.heap.size < w.heap.size + 2; omega) _)
 clear hpost hA hx hz hb
 go_wp2_with fail
 refine (C4.out _ HN3.out).mono ?_
 intro e v4 hpost
 obtain ⟨a4, n4, c4, rfl, hA, hb⟩ := hpost
 clear e0 e1 e2 e3 e4 f0 f1 f2 f3 f4
 have hx := (hb.block _ (by have := HS3.out; omega)).trans HX3.out
 have hz := (hb.block _ (by have := HS3.out; omega)).trans HZ3.out
 obtain ⟨e0, e1, e2, e3, e4, f0, f1, f2, f3, f4⟩ := cells5 hx
 have HX4 : Hid ((v4.setCell ⟨w.heap.size, 4, none⟩ (.slice a4 n4 c4)).heap[w.heap.size]? = some (.cells #[.string r.name, .slice a1 n1 c1, .slice a2 n2 c2, .slice a3 n3 c3, .slice a4 n4 c4] 45)) := heap_set 4 (.slice a4 n4 c4) hx
 have HZ4 : Hid ((v4.setCell ⟨w.heap.size, 4, none⟩ (.slice a4 n4 c4)).heap[w.heap.size + 1]? = some (.cells #[.string ⟨#[]⟩, .slice none 0 0, .slice none 0 0, .slice none 0 0, .slice none 0 0] 45)) := (Below.heap_setCell _ _ _ _ (by simp)).trans hz
 have HN4 : Hid (Below w.heap.size w (v4.setCell ⟨w.heap.size, 4, none⟩ (.slice a4 n4 c4))) := (HN3.out.trans (hb.mono (by have := HS3.out; omega))).setCell (Nat.le_refl _) _
 have HS4 : Hid (w.heap.size + 2 ≤ (v4.setCell ⟨w.heap.size, 4, none⟩ (.slice a4 n4 c4)).heap.size) := by
  show _ ≤ _
  have h1 := HS3.out; have h2 := hb.size; simp [World.setCell]; omega
 have HL1_4 : Hid (StrsA (fun b => b < w.heap.size + 2) (v4.setCell ⟨w.heap.size, 4, none⟩ (.slice a4 n4 c4)) (.slice a1 n1 c1) (sortR r).ins) :=
  RowA.keep (RowA.keep HL1_3.out (fr_below hb)) (fr_set (a := ⟨w.heap.size, 4, none⟩) (Av := fun b => b < w.heap.size + 2) (by show w.heap.size < w.heap.size + 2; omega) _)
 have HL2_4 : Hid (StrsA (fun b => b < w.heap.size + 2) (v4.setCell ⟨w.heap.size, 4, none⟩ (.slice a4 n4 c4)) (.slice a2 n2 c2) (sortR r).outs) :=
  RowA.keep (RowA.keep HL2_3.out (fr_below hb)) (fr_set (a := ⟨w.heap.size, 4, none⟩) (Av := fun b => b < w.heap.size + 2) (by show w.heap.size < w.heap.size + 2; omega) _)
 have HL3_4 : Hid (StrsA (fun b => b < w.heap.size + 2) (v4.setCell ⟨w.heap.size, 4, none⟩ (.slice a4 n4 c4)) (.slice a3 n3 c3) (sortR r).after) :=
  RowA.keep (RowA.keep HL3_3.out (fr_below hb)) (fr_set (a := ⟨w.heap.size, 4, none⟩) (Av := fun b => b < w.heap.size + 2) (by show w.heap.size < w.heap.size + 2; omega) _)
 have HL4_4 : Hid (StepsA (fun b => b < w.heap.size + 2) (v4.setCell ⟨w.heap.size, 4, none⟩ (.slice a4 n4 c4)) (.slice a4 n4 c4) (sortR r).steps) :=
  StepsA.keep (StepsA.mono hA fun b _ e => by have := HS3.out; omega) (fr_set (a := ⟨w.heap.size, 4, none⟩) (Av := fun b => b < w.heap.size + 2) (by show w.heap.size < w.heap.size + 2; omega) _)
 clear hA hx hz hb
 obtain ⟨e0, e1, e2, e3, e4, f0, f1, f2, f3, f4⟩ := cells5 HX4.out
 obtain ⟨z0, z1, z2, z3, z4, g0, g1, g2, g3, g4⟩ := cells5 HZ4.out
 go_wp2
 have hfs : ∀ (W : World) (i : Nat) (u : Value), Fr (fun b => b < w.heap.size + 2) W (W.setCell ⟨w.heap.size + 1, i, none⟩ u) := fun W i u => fr_set (a := ⟨w.heap.size + 1, i, none⟩) (Av := fun b => b < w.heap.size + 2) (by show w.heap.size + 1 < w.heap.size + 2; omega) u
 have hf := ((((hfs _ 0 (.string r.name)).trans (hfs _ 1 (.slice a1 n1 c1))).trans (hfs _ 2 (.slice a2 n2 c2))).trans (hfs _ 3 (.slice a3 n3 c3))).trans (hfs (((((v4.setCell ⟨w.heap.size, 4, none⟩ (.slice a4 n4 c4)).setCell ⟨w.heap.size + 1, 0, none⟩ (.string r.name)).setCell ⟨w.heap.size + 1, 1, none⟩ (.slice a1 n1 c1)).setCell ⟨w.heap.size + 1, 2, none⟩ (.slice a2 n2 c2)).setCell ⟨w.heap.size + 1, 3, none⟩ (.slice a3 n3 c3)) 4 (.slice a4 n4 c4))
 have hcell := heap_set 4 (.slice a4 n4 c4) (heap_set 3 (.slice a3 n3 c3) (heap_set 2 (.slice a2 n2 c2) (heap_set 1 (.slice a1 n1 c1) (heap_set 0 (.string r.name) HZ4.out))))
 have hbs : ∀ (W : World) (i : Nat) (u : Value), Below w.heap.size w W → Below w.heap.size w (W.setCell ⟨w.heap.size + 1, i, none⟩ u) := fun W i u h => h.setCell (show w.heap.size ≤ w.heap.size + 1 by omega) u
 have hn := hbs _ 4 (.slice a4 n4 c4) (hbs _ 3 (.slice a3 n3 c3) (hbs _ 2 (.slice a2 n2 c2) (hbs _ 1 (.slice a1 n1 c1) (hbs _ 0 (.string r.name) HN4.out))))
 refine bodyPost_ret (results_c rfl _ _ (w.heap.size + 1) _ _ _ _ rfl hcell Tryz.underlying45 rfl (by kernel_rfl)) rfl ?_
 refine ⟨a1, n1, c1, a2, n2, c2, a3, n3, c3, a4, n4, c4, rfl, ⟨_, _, _, _, rfl, ?_, ?_, ?_, ?_⟩, hn⟩
 ·exact RowA.mono (RowA.keep HL1_4.out hf) fun b _ e => by omega
 ·exact RowA.mono (RowA.keep HL2_4.out hf) fun b _ e => by omega
 ·exact RowA.mono (RowA.keep HL3_4.out hf) fun b _ e => by omega
 ·exact StepsA.mono (StepsA.keep HL4_4.out hf) fun b _ e => by omega
end Go.Proofs.YtdhmeganlnpohaaGreatDoor
namespace Go.Proofs.YtdhmeganlnpohaaGreatDoor
open Go.RowKit Go.Shelf
def OwnRules (B : Nat) (w : World) (v : Value) (xs : List RuleS) : Prop := ∃ rows, w.ownsRow B 45 5 v rows.length rows.flatten ∧ AllA (RuleA (AvOf B v) w) rows xs
theorem OwnRules.below {B : Nat} {w w' : World} {v : Value} {xs : List RuleS} (h : OwnRules B w v xs) (hb : Below w.heap.size w w') : OwnRules B w' v xs := by
 obtain ⟨rows, h1, h2⟩ := h
 exact ⟨rows, World.ownsRow.kept (row := none) h1 ⟨hb.os, hb.tape, hb.output, hb.size, fun k hk _ => hb.block k hk⟩ (by cases h : Value.ownBlock _ <;> simp), h2.imp fun r x h => h.keep (fr_below hb)⟩
theorem OwnRules.fr {B : Nat} {w w' : World} {v : Value} {xs : List RuleS} {Av : Nat → Prop} (h : OwnRules B w v xs) (hf : Fr Av w w') (h1 : ∀ b, Av b → AvOf B v b) (h2 : ∀ b, v.ownBlock = some b → ¬ Av b) : OwnRules B w' v xs := by
 obtain ⟨rows, hr, ha⟩ := h
 refine ⟨rows, ?_, ha.imp fun r x h => h.keep (hf.mono fun b _ e => h1 b e)⟩
 refine ⟨hr.1, ?_⟩
 rcases hr.2 with hn | ⟨g, cap, cur, rfl, hb, hg, rest⟩
 ·exact .inl hn
 ·exact .inr ⟨g, cap, cur, rfl, hb, (hf.block g (Array.getElem?_eq_some_iff.1 hg).1 (h2 g rfl)).trans hg, rest⟩
theorem OwnRules.len {B : Nat} {w : World} {v : Value} {xs : List RuleS} (h : OwnRules B w v xs) : ∃ a c, v = .slice a xs.length c := by
 obtain ⟨rows, h1, h2⟩ := h
 rcases h1.2 with ⟨rfl, h0⟩ | ⟨g, cap, cur, rfl, _⟩
 ·exact ⟨none, 0, by rw [← h2.1, h0]⟩
 ·exact ⟨_, cap, by rw [h2.1]⟩
theorem OwnRules.rulesA {B : Nat} {w : World} {v : Value} {xs : List RuleS} (h : OwnRules B w v xs) : RulesA (fun b => b < B) w v xs := by
 obtain ⟨rows, h1, h2⟩ := h
 exact ⟨rows, rowA_own h1 (h2.len fun r x h => h.len), h2.imp fun r x h => h.mono fun b _ e => .inl e⟩
theorem OwnRules.lt {B : Nat} {w : World} {v : Value} {xs : List RuleS} (h : OwnRules B w v xs) : ∀ b, v.ownBlock = some b → B ≤ b ∧ b < w.heap.size := by
 obtain ⟨rows, h1, _⟩ := h
 exact fun b e => h1.lt b e
theorem wpList_append_rule {w : World} {ops : Array Oper} {rest : List Oper} {o : Oper} {a : Act} {Q : Exit → Act → World → Prop} (hgd : o.guard = none) (s x : Operand)
  (ho : o.op = .call { callee := .builtin .append, args := #[s, x], argTypes := #[82, 82] })
  (B : Nat) (v : Value) (xs : List RuleS) (y : RuleS) (a1 a2 a3 a4 : Option Addr) (n1 c1 n2 c2 n3 c3 n4 c4 : Nat) (hs : a.eval s = v) (hown : OwnRules B w v xs) (hB : B ≤ w.heap.size) (hn : xs.length ≤ 1000000000)
  (hrl : RuleA (AvOf B v) w [.string y.name, .slice a1 n1 c1, .slice a2 n2 c2, .slice a3 n3 c3, .slice a4 n4 c4] y)
  (gx : Nat) (hx : a.eval x = .slice (some ⟨gx, 0, none⟩) 1 1) (hgx : gx = w.heap.size)
  (h : ∀ v' w', OwnRules B w' v' (xs ++ [y]) → Below B w w' → Fr (fun b => v.ownBlock = some b) w w' → (∀ b, v'.ownBlock = some b → v.ownBlock = some b ∨ w.heap.size ≤ b) → wpList Tryz.prog ops Q rest (a.put o.dst v') w') :
  wpList Tryz.prog ops Q (o :: rest) a (w.alloc (.cells #[.string y.name, .slice a1 n1 c1, .slice a2 n2 c2, .slice a3 n3 c3, .slice a4 n4 c4] 45)) := by
 subst hgx
 obtain ⟨i0, hi, hz0, hz1, hz2⟩ := info_of info_rule
 obtain ⟨rows, h1, h2⟩ := hown
 have hrl2 := h2.1
 have hfa := fr_alloc (AvOf B v) w (.cells #[.string y.name, .slice a1 n1 c1, .slice a2 n2 c2, .slice a3 n3 c3, .slice a4 n4 c4] 45)
 refine wpList_append_new _ hgd s x 82 ho B 45 i0 (.agg #[.string ByteArray.empty, .slice none 0 0, .slice none 0 0, .slice none 0 0, .slice none 0 0]) 5 112 Tryz.underlying82 hi hz0 hz1 hz2 rfl (by decide) v rows.length rows.flatten hs (h1.alloc _) ⟨w.heap.size, 0, none⟩ 1 1 [.string y.name, .slice a1 n1 c1, .slice a2 n2 c2, .slice a3 n3 c3, .slice a4 n4 c4] hx rfl ?_ ?_ (by decide) ?_ ?_ ?_ ?_
 ·intro j u hj
  match j, hj with
  | 0, hj => simp at hj; subst hj; simp [Addr.add]
  | 1, hj => simp at hj; subst hj; simp [Addr.add]
  | 2, hj => simp at hj; subst hj; simp [Addr.add]
  | 3, hj => simp at hj; subst hj; simp [Addr.add]
  | 4, hj => simp at hj; subst hj; simp [Addr.add]
 ·intro u hu; simp at hu; rcases hu with rfl | rfl | rfl | rfl | rfl <;> rfl
 ·unfold maxLen; omega
 ·omega
 ·simp; omega
 ·intro v' w' ho' hg hnew
  have h3 : AllA (RuleA (AvOf B v) w) (rows ++ [[.string y.name, .slice a1 n1 c1, .slice a2 n2 c2, .slice a3 n3 c3, .slice a4 n4 c4]]) (xs ++ [y]) := h2.snoc hrl
  have h4 := grow_rules (B := B) (v' := v') (h3.imp fun r x h => h.keep hfa) hg (fun b hb => (hnew b hb).imp id fun e => Nat.le_trans (by simp) e)
  refine h v' w' ⟨_, ?_, h4⟩ (((Below.refl B w).alloc hB _).grown hg (by simp; omega) (fun b hb => (h1.lt b hb).1)) ((fr_alloc _ w _).trans (fr_grown hg fun k e => e)) (fun b hb => (hnew b hb).imp id fun e => Nat.le_trans (by simp) e)
  rw [List.length_append, List.flatten_append]
  simpa using ho'
set_option maxHeartbeats 2000000 in
theorem insertion_tiny (v : Value) (n : Nat) (f : Value) (w : World) (hn : n ≤ 1) :
  Calls Tryz.prog 249 #[v, .int .i64 0, .int .i64 n, f] w fun e w' => e = .returned (.tuple #[]) ∧ w = w' := by
 have h1 : ¬ (1 : Int) < (n : Int) := by omega
 go_enter Tryz.func249, Tryz.ntmps249
 go_wp2
 go_loop [8] (fun i => i = .int .i64 1) (fun _ => 0)
 case atStart => rfl
 case round =>
  subst hrel
  go_wp2
  go_end0
  exact ⟨rfl, rfl⟩
set_option maxHeartbeats 2000000 in
theorem stable_tiny (v : Value) (n : Nat) (f : Value) (w : World) (hn : n ≤ 1) :
  Calls Tryz.prog 236 #[v, .int .i64 n, f] w fun e w' => e = .returned (.tuple #[]) ∧ w = w' := by
 have h1 : ¬ (20 : Int) ≤ (n : Int) := by omega
 have h2 : ¬ (20 : Int) < (n : Int) := by omega
 go_enter Tryz.func236, Tryz.ntmps236
 go_wp2
 go_loop [7, 8] (fun a b => a = .int .i64 0 ∧ b = .int .i64 20) (fun _ _ => 0)
 case atStart => exact ⟨rfl, rfl⟩
 case round =>
  obtain ⟨rfl, rfl⟩ := hrel
  go_wp2_with fail
  refine (insertion_tiny _ _ _ _ hn).mono ?_
  rintro e w2 ⟨rfl, rfl⟩
  go_wp2
  go_loop [6] (fun a => a = .int .i64 20) (fun _ => 0)
  case atStart => rfl
  case round =>
   subst hrel
   go_wp2
   go_end0
   exact ⟨rfl, rfl⟩
theorem sortStable_tiny (a : Option Addr) (n c : Nat) (f : Value) (w : World) (hn : n ≤ 1) :
  Calls Tryz.prog 177 #[.slice a n c, f] w fun e w' => e = .returned (.tuple #[]) ∧ w = w' := by
 go_enter Tryz.func177, Tryz.ntmps177
 go_wp2_with fail
 refine (stable_tiny _ _ _ _ hn).mono ?_
 rintro e w2 ⟨rfl, rfl⟩
 go_wp2
 go_end0
 exact ⟨rfl, rfl⟩
def SortPost (B : Nat) (W : World) (v : Value) (ys : List RuleS) (e : Ending) (W' : World) : Prop := e = .returned (.tuple #[]) ∧ OwnRules B W' v ys ∧ Below B W W'
def SortsTo (B : Nat) (xs ys : List RuleS) : Prop := ∀ a n c W, OwnRules B W (.slice a n c) xs → B ≤ W.heap.size → Calls Tryz.prog 177 #[.slice a n c, .func (.func 178) #[] #[]] W (SortPost B W (.slice a n c) ys)
theorem sorts_tiny (B : Nat) (xs : List RuleS) (h : xs.length ≤ 1) : SortsTo B xs xs := by
 intro a n c W hO _
 obtain ⟨a', c', e⟩ := hO.len
 cases e
 refine (sortStable_tiny _ _ _ _ _ h).mono ?_
 rintro e w' ⟨rfl, rfl⟩
 exact ⟨rfl, hO, Below.refl _ _⟩
theorem rules_at {Av : Nat → Prop} {w : World} {v : Value} {xs : List RuleS} (h : RulesA Av w v xs) {k : Nat} {x : RuleS} (hx : xs[k]? = some x) :
  ∃ g o cap a1 n1 c1 a2 n2 c2 a3 n3 c3 a4 n4 c4, v = .slice (some ⟨g, o, none⟩) xs.length cap ∧ g < w.heap.size ∧ RuleA Av w [.string x.name, .slice a1 n1 c1, .slice a2 n2 c2, .slice a3 n3 c3, .slice a4 n4 c4] x ∧ ∀ w', Below w.heap.size w w' →
   w'.cell? ⟨g, o + k * 5, none⟩ = some (.string x.name) ∧ w'.cell? ⟨g, o + k * 5 + 1, none⟩ = some (.slice a1 n1 c1) ∧ w'.cell? ⟨g, o + k * 5 + 2, none⟩ = some (.slice a2 n2 c2) ∧ w'.cell? ⟨g, o + k * 5 + 3, none⟩ = some (.slice a3 n3 c3) ∧ w'.cell? ⟨g, o + k * 5 + 4, none⟩ = some (.slice a4 n4 c4) := by
 obtain ⟨rows, hrow, hall⟩ := h
 have hk : k < rows.length := by rw [hall.1]; exact (List.getElem?_eq_some_iff.1 hx).1
 have hR := hall.2 k _ x (List.getElem?_eq_getElem hk) hx
 obtain ⟨vi, vo, vf, vs, e, h1, h2, h3, h4⟩ := id hR
 obtain ⟨g, o, cap, hv, hg', hc⟩ := row5_at hrow (k := k) (by rw [List.getElem?_eq_getElem hk, e])
 obtain ⟨a1, n1, c1, q1⟩ := rowA_shape h1
 obtain ⟨a2, n2, c2, q2⟩ := rowA_shape h2
 obtain ⟨a3, n3, c3, q3⟩ := rowA_shape h3
 obtain ⟨a4, c4, q4, _, _⟩ := stepsA_len h4
 rw [e] at hR
 subst q1 q2 q3 q4
 exact ⟨g, o, cap, a1, n1, c1, a2, n2, c2, a3, n3, c3, a4, _, c4, by rw [hv, hall.1], hg', hR, hc⟩
theorem rulesA_len {Av : Nat → Prop} {w : World} {v : Value} {xs : List RuleS} (h : RulesA Av w v xs) : ∃ a c, v = .slice a xs.length c ∧ xs.length ≤ c ∧ c ≤ maxLen := by
 obtain ⟨rows, hrow, hall⟩ := h
 rw [← hall.1]
 exact rowA_len hrow
def SortedRulesPost (w : World) (ys : List RuleS) (e : Ending) (w' : World) : Prop := ∃ a n c, e = .returned (.slice a n c) ∧ OwnRules w.heap.size w' (.slice a n c) ys ∧ Below w.heap.size w w'
set_option maxHeartbeats 8000000 in
set_option maxRecDepth 100000 in
theorem sorted_of (v : Value) (xs ys : List RuleS) (Av : Nat → Prop) (w : World) (h : RulesA Av w v xs) (hn : xs.length ≤ 1000000) (hfew : ∀ x ∈ xs, FewR x) (hsort : SortsTo w.heap.size (xs.map sortR) ys) :
  Calls Tryz.prog 125 #[v] w (SortedRulesPost w ys) := by
 obtain ⟨sa, sc, hv, hs1, hs2⟩ := rulesA_len h
 subst hv
 have hcs : ∀ (k : Nat) x, xs[k]? = some x → _ := fun k x hx => rules_at h hx
 have HCS := Lib.hid hcs
 have HFEW := Lib.hid hfew
 have HSO := Lib.hid hsort
 obtain ⟨i0, hi, hz0, hz1, hz2⟩ := info_of info_rule
 clear hcs h hfew hsort
 go_enter Tryz.func125, Tryz.ntmps125
 go_wp2_with (refine wpList_make_own _ rfl _ _ 82 rfl w.heap.size 45 i0 (.agg #[.string ByteArray.empty, .slice none 0 0, .slice none 0 0, .slice none 0 0, .slice none 0 0]) 5 Tryz.underlying82 hi hz0 hz1 .i64 .i64 (xs.length : Int) xs.length rfl rfl rfl (by rw [hz2]; omega) (by unfold maxLen; omega) (Nat.le_refl _) ?_)
 intro w1 hown1 hg1
 have hb1 : Below w.heap.size w w1 := ⟨hg1.os, hg1.tape, hg1.output, hg1.size, fun k hk => hg1.block k hk (by simp)⟩
 have HO1 : Hid (OwnRules w.heap.size w1 (.slice (some ⟨w.heap.size, 0, none⟩) 0 xs.length) []) := ⟨[], hown1, AllA.nil _⟩
 have HN1 := Lib.hid hb1
 clear hown1 hg1 hb1
 go_wp2
 go_loopw [3, 11] (fun vv i wr => ∃ k : Nat, k ≤ xs.length ∧ i = .int .i64 k ∧ OwnRules w.heap.size wr vv ((xs.take k).map sortR) ∧ Below w.heap.size w wr)
  (fun _ i _ => xs.length - (intOf i).toNat)
 case atStart => exact ⟨0, Nat.zero_le _, rfl, by simpa using HO1.out, HN1.out⟩
 case round =>
  obtain ⟨k, hk, rfl, hown, hnx⟩ := hrel
  have hsz := hnx.size
  have HO := Lib.hid hown
  have HNX := Lib.hid hnx
  clear hown hnx
  by_cases hlt : k < xs.length
  ·obtain ⟨x, hx⟩ : ∃ x, xs[k]? = some x := ⟨xs[k], List.getElem?_eq_getElem hlt⟩
   obtain ⟨g, o, cap, a1, n1, c1, a2, n2, c2, a3, n3, c3, a4, n4, c4, hv, hg, hR, hc⟩ := HCS.out k x hx
   have hi1 : (k : Int) < (xs.length : Int) := by omega
   have hfx := HFEW.out x (List.mem_of_getElem? hx)
   have htk : (xs.take (k + 1)).map sortR = (xs.take k).map sortR ++ [sortR x] := by rw [List.take_add_one, hx, List.map_append]; rfl
   obtain ⟨d0, d1, d2, d3, d4⟩ := hc _ HNX.out
   have HTK := Lib.hid htk
   have HRX := Lib.hid hR
   have HFX := Lib.hid hfx
   cases hv
   clear hc hx htk hR hfx
   obtain ⟨ob, hob⟩ : ∃ ob : Obj, ob = .cells #[.string x.name, .slice a1 n1 c1, .slice a2 n2 c2, .slice a3 n3 c3, .slice a4 n4 c4] 45 := ⟨_, rfl⟩
   have hnA : Below wr.heap.size wr (wr.alloc ob) := (Below.refl _ _).alloc (Nat.le_refl _) _
   have hup : ∀ W, Below wr.heap.size wr W → Below w.heap.size w W := fun W h => HNX.out.trans (h.mono hsz)
   have cA := sortedRule_any x (.slice a1 n1 c1) (.slice a2 n2 c2) (.slice a3 n3 c3) (.slice a4 n4 c4) Av (wr.alloc ob) (HRX.out.keep (fr_below (hup _ hnA))) HFX.out
   have HNA := Lib.hid hnA
   have HUP := Lib.hid hup
   have CA := Lib.hid cA
   clear hnA cA hup
   subst hob
   go_wp2_with fail
   refine CA.out.mono ?_
   intro e w2 hpost
   obtain ⟨b1, m1, e1, b2, m2, e2, b3, m3, e3, b4, m4, e4, rfl, hra, hb2⟩ := hpost
   have hn2 : Below wr.heap.size wr w2 := HNA.out.trans (hb2.mono (by simp))
   have hO2 := HO.out.below hn2
   have hlow := fun b hb => (HO.out.lt b hb).2
   have hra2 := RuleA.mono (Av' := AvOf w.heap.size _) hra fun b _ e => by
    rcases e with e | e
    ·simp; omega
    ·have := hlow b e; simp; omega
   have HO2 := Lib.hid hO2
   have HR2 := Lib.hid hra2
   have HN2 := Lib.hid hn2
   have HTL : Hid (((xs.take k).map sortR).length ≤ 1000000000) := by show _ ≤ _; rw [List.length_map, List.length_take]; omega
   have HS2 := Lib.hid (Nat.le_trans hsz hn2.size)
   clear hra hb2 hn2 hO2 hlow hra2 d0 d1 d2 d3 d4
   go_wp2_with (at_builtin; refine wpList_append_rule (by rfl) _ _ (by rfl) w.heap.size _ ((xs.take k).map sortR) (sortR x) b1 b2 b3 b4 m1 e1 m2 e2 m3 e3 m4 e4 (by rfl) HO2.out HS2.out HTL.out HR2.out _ (by rfl) (by simp) ?_)
   intro v' w6 hown6 hb6 _ _
   have HO6 : Hid (OwnRules w.heap.size w6 v' ((xs.take (k + 1)).map sortR)) := by show OwnRules _ _ _ _; rw [HTK.out, List.map_take]; exact hown6
   have HN6 := Lib.hid ((HUP.out _ HN2.out).trans hb6)
   clear hown6 hb6
   go_wp2
   go_roundw
   case rel => exact ⟨k + 1, by omega, by go_num, HO6.out, HN6.out⟩
   case measure => simp [intOf]; omega
  ·have hfull : xs.take k = xs := List.take_of_length_le (by omega)
   have hi1 : ¬ (k : Int) < (xs.length : Int) := by omega
   have hO := HO.out
   rw [hfull] at hO
   obtain ⟨ra, rc, hr⟩ := hO.len
   rw [List.length_map] at hr
   subst hr
   have HO := Lib.hid hO
   clear hfull hO
   go_wp2_with fail
   refine (HSO.out _ _ _ _ HO.out hsz).mono ?_
   rintro e w7 ⟨rfl, hO7, hb7⟩
   go_wp2
   go_ret
   exact ⟨_, _, _, rfl, hO7, HNX.out.trans hb7⟩
end Go.Proofs.YtdhmeganlnpohaaGreatDoor
