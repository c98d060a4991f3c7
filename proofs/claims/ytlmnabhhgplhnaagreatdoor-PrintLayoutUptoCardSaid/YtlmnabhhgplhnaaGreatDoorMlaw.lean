/- The law's Rule: a rule cut to size. The law's Rules: not too many rules, cut to size. -/
import Derived.Test.YtlmnabhhgplhnaaGreatDoorMcop
import Derived.Test.YtlmnabhhgplhnaaGreatDoorMpri
namespace Go.Proofs.YtlmnabhhgplhnaaGreatDoor
open Go.RowKit Go.Shelf


/-- The world of the loop: all that was, the lists. -/
structure LawL (W5 : World) (B : Nat) (x : RuleS) (vi vo vf vs : Value) (ys : List StepS) (wr : World) : Prop where
 below : Below B W5 wr
 ins : StrsA (fun b => b < B) wr vi (cutQ x).ins
 outs : StrsA (fun b => b < B) wr vo (cutQ x).outs
 after : StrsA (fun b => b < B) wr vf (cutQ x).after
 steps : StepsA (fun b => b < B) wr vs ys
 canw : OpenV wr vs

set_option maxHeartbeats 8000000 in
set_option maxRecDepth 100000 in
theorem lawRule_any (x : RuleS) (vi vo vf vs : Value) (w : World) (h : RuleI w [.string x.name, vi, vo, vf, vs] x) (hf : SmallR x 1048576) :
  Calls Tryz.prog 23 #[.agg #[.string x.name, vi, vo, vf, vs]] w fun e w' => RuleE w w' (cutR x) e ∧ Below w.heap.size w w' := by
 obtain ⟨_, _, _, _, q, h1, h2, h3, h4⟩ := h
 cases q
 obtain ⟨a1, c1, rfl, hle1, hmx1, _⟩ := id h1
 obtain ⟨a2, c2, rfl, hle2, hmx2, _⟩ := id h2
 obtain ⟨a3, c3, rfl, hle3, hmx3, _⟩ := id h3
 obtain ⟨rows, hrow, hall⟩ := id h4
 obtain ⟨a4, c4, rfl, hle4, hmx4, _⟩ := id hrow
 obtain ⟨ob, hob⟩ : ∃ o : Obj, o = .cells #[.string x.name, .slice a1 x.ins.length c1, .slice a2 x.outs.length c2, .slice a3 x.after.length c3, .slice a4 rows.length c4] 38 := ⟨_, rfl⟩
 obtain ⟨W1, hW1⟩ : ∃ W1, (w.alloc ob).alloc (.cells #[.string ⟨#[]⟩, .slice none 0 0, .slice none 0 0, .slice none 0 0, .slice none 0 0] 38) = W1 := ⟨_, rfl⟩
 have hb1 : Below w.heap.size w W1 := by rw [← hW1]; exact ((Below.refl _ _).alloc (Nat.le_refl _) _).alloc (by simp) _
 have hs1 : W1.heap.size = w.heap.size + 2 := by rw [← hW1]; simp
 have hx1 : W1.heap[w.heap.size]? = some ob := by rw [← hW1, Below.heap_alloc _ _ _ (by simp)]; exact alloc_at w ob
 have hx2 : W1.heap[w.heap.size + 1]? = some (.cells #[.string ⟨#[]⟩, .slice none 0 0, .slice none 0 0, .slice none 0 0, .slice none 0 0] 38) := by
  rw [← hW1]
  have := alloc_at (w.alloc ob) (.cells #[.string ⟨#[]⟩, .slice none 0 0, .slice none 0 0, .slice none 0 0, .slice none 0 0] 38)
  simpa using this
 subst hob
 have hcell : ∀ w', Below W1.heap.size W1 w' → _ := fun w' (hb : Below W1.heap.size W1 w') => cells5 ((hb.block w.heap.size (by omega)).trans hx1)
 have hc0 := fun w' hb => (hcell w' hb).1
 have hc1 := fun w' hb => (hcell w' hb).2.1
 have hc2 := fun w' hb => (hcell w' hb).2.2.1
 have hc3 := fun w' hb => (hcell w' hb).2.2.2.1
 have hc4 := fun w' hb => (hcell w' hb).2.2.2.2.1
 have HC4 := Lib.hid hc4
 have HS0 : Hid (Below W1.heap.size W1 W1.drew) := by show Below _ _ _; exact (Below.refl _ _).drew
 have HU : Hid (∀ w' o, Below W1.heap.size W1 w' → Below W1.heap.size W1 (w'.alloc o)) := by show ∀ w' o, _; exact fun w' o h => h.alloc h.size o
 have HUD : Hid (∀ o, Below W1.heap.size W1 (W1.alloc o).drew) := by show ∀ o, _; exact fun o => ((Below.refl _ _).alloc (Nat.le_refl _) o).drew
 have HB1 := Lib.hid hb1
 have H1 : Hid (∀ w', Below W1.heap.size W1 w' → IsStrs w' (.slice a1 x.ins.length c1) x.ins) := by show ∀ w', _; exact fun w' hb => h1.below (hb1.trans (hb.mono hb1.size))
 have H2 : Hid (∀ w', Below W1.heap.size W1 w' → IsStrs w' (.slice a2 x.outs.length c2) x.outs) := by show ∀ w', _; exact fun w' hb => h2.below (hb1.trans (hb.mono hb1.size))
 have H3 : Hid (∀ w', Below W1.heap.size W1 w' → IsStrs w' (.slice a3 x.after.length c3) x.after) := by show ∀ w', _; exact fun w' hb => h3.below (hb1.trans (hb.mono hb1.size))
 have H4 := Lib.hid h4
 have HX2 := Lib.hid hx2
 have HW1 := Lib.hid hW1
 have N1 := Lib.hid hf.ins.1
 have N2 := Lib.hid hf.outs.1
 have N3 := Lib.hid hf.after.1
 have HFS := Lib.hid hf
 have HS1 := Lib.hid hs1
 clear hcell h1 h2 h3 h4 hb1 hs1 hx1 hx2 hc4 hf hrow hW1
 have e1 := take_len x.ins.length 10 10 rfl
 have e2 := take_len x.outs.length 6 6 rfl
 have e3 := take_len x.after.length 10 10 rfl
 have e4 := take_len rows.length 14 14 rfl
 have k1 : (0 : Int) ≤ min (x.ins.length : Int) 10 := by omega
 have k2 : (0 : Int) ≤ min (x.outs.length : Int) 6 := by omega
 have k3 : (0 : Int) ≤ min (x.after.length : Int) 10 := by omega
 have k4 : (0 : Int) ≤ min (rows.length : Int) 14 := by omega
 have m1 : min (x.ins.length : Int) 10 ≤ (c1 : Int) := by omega
 have m2 : min (x.outs.length : Int) 6 ≤ (c2 : Int) := by omega
 have m3 : min (x.after.length : Int) 10 ≤ (c3 : Int) := by omega
 have m4 : min (rows.length : Int) 14 ≤ (c4 : Int) := by omega
 have hc4 := HC4.out
 unfold maxLen at hmx1 hmx2 hmx3 hmx4
 go_enter Tryz.func23, Tryz.ntmps23
 go_upto_region 1 with fail
 rw [HW1.out]
 refine wp_region_held_drew (S := fun w' => Below W1.heap.size W1 w') (by kernel_rfl) ?_ (fun hHeld => ?_)
 ·exact HS0.out
 refine wpAnyH_take (i := 0) (oi := _) (v := ?_) (by simp only [List.getElem?_toArray, List.getElem?_cons_zero]; rfl) (by kernel_rfl) (by kernel_rfl) (by kernel_rfl) (by exact fun _ _ _ h => h) (Or.inl ⟨by rfl, ?_⟩) (by assumption) ?_
 rotate_left
 ·intro w hSw; go_simp; try with_reducible rfl
 try simp only [Act.put, List.setIfInBounds_toArray, List.set_cons_zero, List.set_cons_succ]
 refine wpAnyH_take (i := 1) (oi := _) (v := ?_) (by simp only [List.getElem?_toArray, List.getElem?_cons_succ, List.getElem?_cons_zero]; rfl) (by kernel_rfl) (by kernel_rfl) (by kernel_rfl) (by exact fun _ _ _ h => h) (Or.inl ⟨by rfl, ?_⟩) (by assumption) ?_
 rotate_left
 ·intro w hSw; go_simp; try with_reducible rfl
 try simp only [Act.put, List.setIfInBounds_toArray, List.set_cons_zero, List.set_cons_succ]
 refine wpAnyH_take (i := 2) (oi := _) (v := ?_) (by simp only [List.getElem?_toArray, List.getElem?_cons_succ, List.getElem?_cons_zero]; rfl) (by kernel_rfl) (by kernel_rfl) (by kernel_rfl) (by exact fun _ _ _ h => h) (Or.inl ⟨by rfl, ?_⟩) (by assumption) ?_
 rotate_left
 ·intro w hSw; go_simp; try with_reducible rfl
 try simp only [Act.put, List.setIfInBounds_toArray, List.set_cons_zero, List.set_cons_succ]
 refine wpAnyH_take (i := 3) (oi := _) (v := ?_) (by simp only [List.getElem?_toArray, List.getElem?_cons_succ, List.getElem?_cons_zero]; rfl) (by kernel_rfl) (by kernel_rfl) (by kernel_rfl) (by exact fun _ _ _ h => h) (Or.inl ⟨by rfl, ?_⟩) (by assumption) ?_
 rotate_left
 ·intro w hSw; go_simp; try with_reducible rfl
 try simp only [Act.put, List.setIfInBounds_toArray, List.set_cons_zero, List.set_cons_succ]
 refine wpAnyH_take (i := 4) (oi := _) (v := ?_) (by simp only [List.getElem?_toArray, List.getElem?_cons_succ, List.getElem?_cons_zero]; rfl) (by kernel_rfl) (by kernel_rfl) (by kernel_rfl) (by exact fun _ _ _ h => h) (Or.inl ⟨by rfl, ?_⟩) (by assumption) ?_
 rotate_left
 ·intro w hSw; go_simp; try with_reducible rfl
 try simp only [Act.put, List.setIfInBounds_toArray, List.set_cons_zero, List.set_cons_succ]
 refine wpAnyH_take (i := 5) (oi := _) (v := ?_) (by simp only [List.getElem?_toArray, List.getElem?_cons_succ, List.getElem?_cons_zero]; rfl) (by kernel_rfl) (by kernel_rfl) (by kernel_rfl) (by exact fun _ _ _ h => h) (Or.inl ⟨by rfl, ?_⟩) (by assumption) ?_
 rotate_left
 ·intro w hSw; go_simp; try with_reducible rfl
 try simp only [Act.put, List.setIfInBounds_toArray, List.set_cons_zero, List.set_cons_succ]
 refine wpAnyH_take (i := 6) (oi := _) (v := ?_) (by simp only [List.getElem?_toArray, List.getElem?_cons_succ, List.getElem?_cons_zero]; rfl) (by kernel_rfl) (by kernel_rfl) (by kernel_rfl) (by exact fun _ _ _ h => h) (Or.inl ⟨by rfl, ?_⟩) (by assumption) ?_
 rotate_left
 ·intro w hSw; go_simp; try with_reducible rfl
 try simp only [Act.put, List.setIfInBounds_toArray, List.set_cons_zero, List.set_cons_succ]
 refine wpAnyH_take (i := 7) (oi := _) (v := ?_) (by simp only [List.getElem?_toArray, List.getElem?_cons_succ, List.getElem?_cons_zero]; rfl) (by kernel_rfl) (by kernel_rfl) (by kernel_rfl) (by exact fun _ _ _ h => h) (Or.inl ⟨by rfl, ?_⟩) (by assumption) ?_
 rotate_left
 ·intro w hSw; go_simp; try with_reducible rfl
 try simp only [Act.put, List.setIfInBounds_toArray, List.set_cons_zero, List.set_cons_succ]
 refine wpAnyH_take (i := 8) (oi := _) (v := ?_) (by simp only [List.getElem?_toArray, List.getElem?_cons_succ, List.getElem?_cons_zero]; rfl) (by kernel_rfl) (by kernel_rfl) (by kernel_rfl) (by exact fun _ _ _ h => h) (Or.inl ⟨by rfl, ?_⟩) (by assumption) ?_
 rotate_left
 ·intro w hSw; go_simp; try with_reducible rfl
 try simp only [Act.put, List.setIfInBounds_toArray, List.set_cons_zero, List.set_cons_succ]
 refine wpAnyH_take (i := 9) (oi := _) (v := ?_) (by simp only [List.getElem?_toArray, List.getElem?_cons_succ, List.getElem?_cons_zero]; rfl) (by kernel_rfl) (by kernel_rfl) (by kernel_rfl) (by exact fun _ _ _ h => h) (Or.inl ⟨by rfl, ?_⟩) (by assumption) ?_
 rotate_left
 ·intro w hSw; go_simp; try with_reducible rfl
 try simp only [Act.put, List.setIfInBounds_toArray, List.set_cons_zero, List.set_cons_succ]
 refine wpAnyH_take (i := 10) (oi := _) (v := ?_) (by simp only [List.getElem?_toArray, List.getElem?_cons_succ, List.getElem?_cons_zero]; rfl) (by kernel_rfl) (by kernel_rfl) (by kernel_rfl) (by exact fun _ _ _ h => h) (Or.inl ⟨by rfl, ?_⟩) (by assumption) ?_
 rotate_left
 ·intro w hSw; go_simp; try with_reducible rfl
 try simp only [Act.put, List.setIfInBounds_toArray, List.set_cons_zero, List.set_cons_succ]
 refine wpAnyH_take (i := 11) (oi := _) (v := ?_) (by simp only [List.getElem?_toArray, List.getElem?_cons_succ, List.getElem?_cons_zero]; rfl) (by kernel_rfl) (by kernel_rfl) (by kernel_rfl) (by exact fun _ _ _ h => h) (Or.inl ⟨by rfl, ?_⟩) (by assumption) ?_
 rotate_left
 ·intro w hSw; go_simp; try with_reducible rfl
 try simp only [Act.put, List.setIfInBounds_toArray, List.set_cons_zero, List.set_cons_succ]
 refine wpAnyH_take (i := 12) (oi := _) (v := ?_) (by simp only [List.getElem?_toArray, List.getElem?_cons_succ, List.getElem?_cons_zero]; rfl) (by kernel_rfl) (by kernel_rfl) (by kernel_rfl) (by exact fun _ _ _ h => h) (Or.inl ⟨by rfl, ?_⟩) (by assumption) ?_
 rotate_left
 ·intro w hSw; go_simp; try with_reducible rfl
 try simp only [Act.put, List.setIfInBounds_toArray, List.set_cons_zero, List.set_cons_succ]
 refine wpAnyH_take (i := 13) (oi := _) (v := ?_) (by simp only [List.getElem?_toArray, List.getElem?_cons_succ, List.getElem?_cons_zero]; rfl) (by kernel_rfl) (by kernel_rfl) (by kernel_rfl) (by exact fun _ _ _ h => h) (Or.inl ⟨by rfl, ?_⟩) (by assumption) ?_
 rotate_left
 ·intro w hSw; go_simp; try with_reducible rfl
 try simp only [Act.put, List.setIfInBounds_toArray, List.set_cons_zero, List.set_cons_succ]
 refine wpAnyH_take (i := 14) (oi := _) (v := ?_) (by simp only [List.getElem?_toArray, List.getElem?_cons_succ, List.getElem?_cons_zero]; rfl) (by kernel_rfl) (by kernel_rfl) (by kernel_rfl) (by exact fun _ _ _ h => h) (Or.inl ⟨by rfl, ?_⟩) (by assumption) ?_
 rotate_left
 ·intro w hSw; go_simp; try with_reducible rfl
 try simp only [Act.put, List.setIfInBounds_toArray, List.set_cons_zero, List.set_cons_succ]
 refine wpAnyH_take (i := 15) (oi := _) (v := ?_) (by simp only [List.getElem?_toArray, List.getElem?_cons_succ, List.getElem?_cons_zero]; rfl) (by kernel_rfl) (by kernel_rfl) (by kernel_rfl) (by exact fun _ _ _ h => h) (Or.inl ⟨by rfl, ?_⟩) (by assumption) ?_
 rotate_left
 ·intro w hSw; go_simp; try with_reducible rfl
 try simp only [Act.put, List.setIfInBounds_toArray, List.set_cons_zero, List.set_cons_succ]
 refine wpAnyH_take (i := 16) (oi := _) (v := ?_) (by simp only [List.getElem?_toArray, List.getElem?_cons_succ, List.getElem?_cons_zero]; rfl) (by kernel_rfl) (by kernel_rfl) (by kernel_rfl) (by exact fun _ _ _ h => h) (Or.inl ⟨by rfl, ?_⟩) (by assumption) ?_
 rotate_left
 ·intro w hSw; go_simp; try with_reducible rfl
 try simp only [Act.put, List.setIfInBounds_toArray, List.set_cons_zero, List.set_cons_succ]
 refine wpAnyH_take (i := 17) (oi := _) (v := ?_) (by simp only [List.getElem?_toArray, List.getElem?_cons_succ, List.getElem?_cons_zero]; rfl) (by kernel_rfl) (by kernel_rfl) (by kernel_rfl) (by exact fun _ _ _ h => h) (Or.inl ⟨by rfl, ?_⟩) (by assumption) ?_
 rotate_left
 ·intro w hSw; go_simp; try with_reducible rfl
 try simp only [Act.put, List.setIfInBounds_toArray, List.set_cons_zero, List.set_cons_succ]
 refine wpAnyH_take (i := 18) (oi := _) (v := ?_) (by simp only [List.getElem?_toArray, List.getElem?_cons_succ, List.getElem?_cons_zero]; rfl) (by kernel_rfl) (by kernel_rfl) (by kernel_rfl) (by exact fun _ _ _ h => h) (Or.inl ⟨by rfl, ?_⟩) (by assumption) ?_
 rotate_left
 ·intro w hSw; go_simp; try with_reducible rfl
 try simp only [Act.put, List.setIfInBounds_toArray, List.set_cons_zero, List.set_cons_succ]
 refine wpAnyH_take (i := 19) (oi := _) (v := ?_) (by simp only [List.getElem?_toArray, List.getElem?_cons_succ, List.getElem?_cons_zero]; rfl) (by kernel_rfl) (by kernel_rfl) (by kernel_rfl) (by exact fun _ _ _ h => h) (Or.inl ⟨by rfl, ?_⟩) (by assumption) ?_
 rotate_left
 ·intro w hSw; go_simp; try with_reducible rfl
 try simp only [Act.put, List.setIfInBounds_toArray, List.set_cons_zero, List.set_cons_succ]
 refine wpAnyH_take (i := 20) (oi := _) (v := ?_) (by simp only [List.getElem?_toArray, List.getElem?_cons_succ, List.getElem?_cons_zero]; rfl) (by kernel_rfl) (by kernel_rfl) (by kernel_rfl) (by exact fun _ _ _ h => h) (Or.inl ⟨by rfl, ?_⟩) (by assumption) ?_
 rotate_left
 ·intro w hSw; go_simp; try with_reducible rfl
 try simp only [Act.put, List.setIfInBounds_toArray, List.set_cons_zero, List.set_cons_succ]
 refine wpAnyH_take (i := 21) (oi := _) (v := ?_) (by simp only [List.getElem?_toArray, List.getElem?_cons_succ, List.getElem?_cons_zero]; rfl) (by kernel_rfl) (by kernel_rfl) (by kernel_rfl) (by exact fun _ _ _ h => h) (Or.inl ⟨by rfl, ?_⟩) (by assumption) ?_
 rotate_left
 ·intro w hSw; go_simp; try with_reducible rfl
 try simp only [Act.put, List.setIfInBounds_toArray, List.set_cons_zero, List.set_cons_succ]
 refine wpAnyH_take (i := 22) (oi := _) (v := ?_) (by simp only [List.getElem?_toArray, List.getElem?_cons_succ, List.getElem?_cons_zero]; rfl) (by kernel_rfl) (by kernel_rfl) (by kernel_rfl) (by exact fun _ _ _ h => h) (Or.inl ⟨by rfl, ?_⟩) (by assumption) ?_
 rotate_left
 ·intro w hSw; go_simp; try with_reducible rfl
 try simp only [Act.put, List.setIfInBounds_toArray, List.set_cons_zero, List.set_cons_succ]
 refine wpAnyH_take (i := 23) (oi := _) (v := ?_) (by simp only [List.getElem?_toArray, List.getElem?_cons_succ, List.getElem?_cons_zero]; rfl) (by kernel_rfl) (by kernel_rfl) (by kernel_rfl) (by exact fun _ _ _ h => h) (Or.inl ⟨by rfl, ?_⟩) (by assumption) ?_
 rotate_left
 ·intro w hSw; go_simp; try with_reducible rfl
 try simp only [Act.put, List.setIfInBounds_toArray, List.set_cons_zero, List.set_cons_succ]
 refine wpAnyH_take (i := 24) (oi := _) (v := ?_) (by simp only [List.getElem?_toArray, List.getElem?_cons_succ, List.getElem?_cons_zero]; rfl) (by kernel_rfl) (by kernel_rfl) (by kernel_rfl) (by exact fun _ _ _ h => h) (Or.inl ⟨by rfl, ?_⟩) (by assumption) ?_
 rotate_left
 ·intro w hSw; go_simp; try with_reducible rfl
 try simp only [Act.put, List.setIfInBounds_toArray, List.set_cons_zero, List.set_cons_succ]
 refine wpAnyH_take (i := 25) (oi := _) (v := ?_) (by simp only [List.getElem?_toArray, List.getElem?_cons_succ, List.getElem?_cons_zero]; rfl) (by kernel_rfl) (by kernel_rfl) (by kernel_rfl) (by exact fun _ _ _ h => h) (Or.inl ⟨by rfl, ?_⟩) (by assumption) ?_
 rotate_left
 ·intro w hSw; go_simp; try with_reducible rfl
 try simp only [Act.put, List.setIfInBounds_toArray, List.set_cons_zero, List.set_cons_succ]
 refine wpAnyH_take (i := 26) (oi := _) (v := ?_) (by simp only [List.getElem?_toArray, List.getElem?_cons_succ, List.getElem?_cons_zero]; rfl) (by kernel_rfl) (by kernel_rfl) (by kernel_rfl) (by exact fun _ _ _ h => h) (Or.inl ⟨by rfl, ?_⟩) (by assumption) ?_
 rotate_left
 ·intro w hSw; go_simp; try with_reducible rfl
 try simp only [Act.put, List.setIfInBounds_toArray, List.set_cons_zero, List.set_cons_succ]
 refine wpAnyH_take (i := 27) (oi := _) (v := ?_) (by simp only [List.getElem?_toArray, List.getElem?_cons_succ, List.getElem?_cons_zero]; rfl) (by kernel_rfl) (by kernel_rfl) (by kernel_rfl) (by exact fun _ _ _ h => h) (Or.inl ⟨by rfl, ?_⟩) (by assumption) ?_
 rotate_left
 ·intro w hSw; go_simp; try with_reducible rfl
 try simp only [Act.put, List.setIfInBounds_toArray, List.set_cons_zero, List.set_cons_succ]
 refine wpAnyH_take (i := 28) (oi := _) (v := ?_) (by simp only [List.getElem?_toArray, List.getElem?_cons_succ, List.getElem?_cons_zero]; rfl) (by kernel_rfl) (by kernel_rfl) (by kernel_rfl) (by exact fun _ _ _ h => h) (Or.inl ⟨by rfl, ?_⟩) (by assumption) ?_
 rotate_left
 ·intro w hSw; go_simp; try with_reducible rfl
 try simp only [Act.put, List.setIfInBounds_toArray, List.set_cons_zero, List.set_cons_succ]
 refine wpAnyH_take (i := 29) (oi := _) (v := ?_) (by simp only [List.getElem?_toArray, List.getElem?_cons_succ, List.getElem?_cons_zero]; rfl) (by kernel_rfl) (by kernel_rfl) (by kernel_rfl) (by exact fun _ _ _ h => h) (Or.inl ⟨by rfl, ?_⟩) (by assumption) ?_
 rotate_left
 ·intro w hSw; go_simp; try with_reducible rfl
 try simp only [Act.put, List.setIfInBounds_toArray, List.set_cons_zero, List.set_cons_succ]
 refine wpAnyH_take (i := 30) (oi := _) (v := ?_) (by simp only [List.getElem?_toArray, List.getElem?_cons_succ, List.getElem?_cons_zero]; rfl) (by kernel_rfl) (by kernel_rfl) (by kernel_rfl) (by exact fun _ _ _ h => h) (Or.inl ⟨by rfl, ?_⟩) (by assumption) ?_
 rotate_left
 ·intro w hSw; go_simp; try with_reducible rfl
 try simp only [Act.put, List.setIfInBounds_toArray, List.set_cons_zero, List.set_cons_succ]
 refine wpAnyH_ready (rs := [31]) (by kernel_rfl) (by simp) ?_
 refine AllReadyH.cons (o := _) (by simp only [List.getElem?_toArray, List.getElem?_cons_succ, List.getElem?_cons_zero]; rfl) (fun K hK => ?_) ?_
 ·go_simp
  refine hK.out _ _ ?_ (fun hHeld => ?_)
  ·try dsimp only
   first | exact HU.out _ _ (by assumption)
  clear hK K
  try simp only [Act.put, List.setIfInBounds_toArray, List.set_cons_zero, List.set_cons_succ]
  refine wpAnyH_ready (rs := [32]) (by kernel_rfl) (by simp) ?_
  refine AllReadyH.cons (o := _) (by simp only [List.getElem?_toArray, List.getElem?_cons_succ, List.getElem?_cons_zero]; rfl) (fun K hK => ?_) ?_
  ·go_simp
   refine hK.out _ _ ?_ (fun hHeld => ?_)
   ·try dsimp only
    exact HUD.out _
   clear hK K
   try simp only [Act.put, List.setIfInBounds_toArray, List.set_cons_zero, List.set_cons_succ]
   refine wpAnyH_done (by kernel_rfl) ?_ _
   have hx3 : ((W1.alloc (.cells #[.string x.name, .slice a1 (min 10 x.ins.length) c1, .slice a2 (min 6 x.outs.length) c2, .slice a3 (min 10 x.after.length) c3, .slice a4 (min 14 rows.length) c4] 38)).drew).heap[W1.heap.size]? = some (.cells #[.string x.name, .slice a1 (min 10 x.ins.length) c1, .slice a2 (min 6 x.outs.length) c2, .slice a3 (min 10 x.after.length) c3, .slice a4 (min 14 rows.length) c4] 38) := alloc_at W1 _
   obtain ⟨W3, hW3⟩ : ∃ V, (W1.alloc (.cells #[.string x.name, .slice a1 (min 10 x.ins.length) c1, .slice a2 (min 6 x.outs.length) c2, .slice a3 (min 10 x.after.length) c3, .slice a4 (min 14 rows.length) c4] 38)).drew = V := ⟨_, rfl⟩
   rw [hW3] at hx3 hHeld ⊢
   have hs3 : W1.heap.size < W3.heap.size := by rw [← hW3]; simp only [drew_size, alloc_size]; omega
   have HH3 := Lib.hid hHeld
   have HX3 := Lib.hid hx3
   have HS3 := Lib.hid hs3
   obtain ⟨y0, y1, y2, y3, y4, fz0, fz1, fz2, fz3, fz4⟩ := cells5 hx3
   have hrl : rows.length = x.steps.length := hall.1
   have hRI : RuleI W3 [.string (cutQ x).name, .slice a1 (min 10 x.ins.length) c1, .slice a2 (min 6 x.outs.length) c2, .slice a3 (min 10 x.after.length) c3, .slice a4 (min 14 rows.length) c4] (cutQ x) := by
    refine ⟨_, _, _, _, rfl, isStrs_take (H1.out _ hHeld) 10, isStrs_take (H2.out _ hHeld) 6, isStrs_take (H3.out _ hHeld) 10, ?_⟩
    exact stepsI_take (StepsI.below H4.out (HB1.out.trans (hHeld.mono HB1.out.size))) 14
   have hQ : SmallR (cutQ x) 1048576 := by
    have hf := HFS.out
    have tk : ∀ {l : List ByteArray} (m : Nat), SmallL l 1048576 → SmallL (l.take m) 1048576 := fun m h => ⟨by rw [List.length_take]; have := h.1; omega, fun z hz => h.2 z (List.mem_of_mem_take hz)⟩
    exact ⟨hf.name, tk 10 hf.ins, tk 6 hf.outs, tk 10 hf.after, by show (x.steps.take 14).length ≤ _; rw [List.length_take]; have := hf.few; omega, fun y hy => hf.steps y (List.mem_of_mem_take hy)⟩
   have hCP := copyR_any (cutQ x) _ _ _ _ W3 hRI hQ
   have CPY : Hid (Calls Tryz.prog 12 #[.agg #[.string x.name, .slice a1 (min 10 x.ins.length) c1, .slice a2 (min 6 x.outs.length) c2, .slice a3 (min 10 x.after.length) c3, .slice a4 (min 14 rows.length) c4]] W3 fun e w' => RuleO W3 w' (cutQ x) e ∧ Below W3.heap.size W3 w') := hCP
   clear hCP hRI hQ hHeld hW3 hx3 hs3 hc0 hc1 hc2 hc3 hc4 e1 e2 e3 e4 k1 k2 k3 k4 m1 m2 m3 m4 hall hrl
   go_wp2_with fail
   refine CPY.out.mono ?_
   rintro e w4 ⟨hRE, hb4⟩
   obtain ⟨vi, vo, vf, vs, he, ⟨hvi, _⟩, ⟨hvo, _⟩, ⟨hvf, _⟩, hvs, hop⟩ := hRE
   obtain ⟨i1, i2, i3, q⟩ := rowA_shape hvi
   subst q
   obtain ⟨j1, j2, j3, q⟩ := rowA_shape hvo
   subst q
   obtain ⟨l1, l2, l3, q⟩ := rowA_shape hvf
   subst q
   obtain ⟨s1, s3, q, hsn, hsm⟩ := stepsA_len hvs
   subst q
   obtain ⟨ys, hys⟩ : ∃ ys, (cutQ x).steps = ys := ⟨_, rfl⟩
   rw [hys] at hvs hsn hop
   have he2 : e = .returned (.agg #[.string x.name, .slice i1 i2 i3, .slice j1 j2 j3, .slice l1 l2 l3, .slice s1 ys.length s3]) := by rw [he, hys]; rfl
   clear he
   subst he2
   have HYS := Lib.hid hys
   have hx4 := (hb4.block _ HS3.out).trans HX3.out
   have hz5 := heap_set5 hx4 (.string x.name) (.slice i1 i2 i3) (.slice j1 j2 j3) (.slice l1 l2 l3) (.slice s1 ys.length s3)
   obtain ⟨x0, x1, x2, x3, x4, v0, v1, v2, v3, v4⟩ := cells5 hx4
   obtain ⟨W5, hW5⟩ : ∃ V, ((((w4.setCell ⟨W1.heap.size, 0, none⟩ (.string x.name)).setCell ⟨W1.heap.size, 1, none⟩ (.slice i1 i2 i3)).setCell ⟨W1.heap.size, 2, none⟩ (.slice j1 j2 j3)).setCell ⟨W1.heap.size, 3, none⟩ (.slice l1 l2 l3)).setCell ⟨W1.heap.size, 4, none⟩ (.slice s1 ys.length s3) = V := ⟨_, rfl⟩
   rw [hW5] at hz5
   have hfr : Fr (fun b => b < W3.heap.size) w4 W5 := by
    rw [← hW5]
    exact fr_set5 (Av := fun b => b < W3.heap.size) (w := w4) HS3.out (.string x.name) (.slice i1 i2 i3) (.slice j1 j2 j3) (.slice l1 l2 l3) (.slice s1 ys.length s3)
   have hb04 := (HB1.out.trans (HH3.out.mono HB1.out.size)).trans (hb4.mono (HB1.out.trans (HH3.out.mono HB1.out.size)).size)
   have hb5 : Below w.heap.size w W5 := by
    rw [← hW5]
    exact below_set5 hb04 HB1.out.size _ _ _ _ _
   have hout5 : W5.heap[w.heap.size + 1]? = some (.cells #[.string ⟨#[]⟩, .slice none 0 0, .slice none 0 0, .slice none 0 0, .slice none 0 0] 38) := by
    have h1 := HS1.out
    have h2 := ((hb4.block _ (by have := HS3.out; omega)).trans (HH3.out.block _ (by omega))).trans HX2.out
    rw [← hW5]
    refine Eq.trans ?_ h2
    have hne : w.heap.size + 1 ≠ W1.heap.size := by omega
    exact ((((Below.heap_setCell _ _ _ _ hne).trans (Below.heap_setCell _ _ _ _ hne)).trans (Below.heap_setCell _ _ _ _ hne)).trans (Below.heap_setCell _ _ _ _ hne)).trans (Below.heap_setCell _ _ _ _ hne)
   have HW5 := Lib.hid hW5
   have h0 : LawL W5 W3.heap.size x (.slice i1 i2 i3) (.slice j1 j2 j3) (.slice l1 l2 l3) (.slice s1 ys.length s3) ys W5 :=
    ⟨Below.refl _ _, RowA.keep hvi hfr, RowA.keep hvo hfr, RowA.keep hvf hfr, StepsA.keep hvs hfr, hop.keep (stepsA_blk hvs) hfr⟩
   have H0 := Lib.hid h0
   have HB3 : Hid (W1.heap.size < W3.heap.size ∧ w.heap.size + 2 = W1.heap.size) := by show _ ∧ _; exact ⟨HS3.out, by have := HS1.out; omega⟩
   have HZ5 := Lib.hid hz5
   have HO5 := Lib.hid hout5
   have HB5 := Lib.hid hb5
   have HS45 := Lib.hid (show W3.heap.size ≤ W5.heap.size from Nat.le_trans hb4.size hfr.size)
   have hyl : ys.length ≤ 1048576 := by rw [← hys]; show (x.steps.take 14).length ≤ _; rw [List.length_take]; have := HFS.out.few; omega
   have HSZ := HB1.out.size
   unfold maxLen at hsm
   clear hW5 hb4 hvi hvo hvf hvs hop hx4 hz5 hfr hb5 h0 hys hb04 hout5 y0 y1 y2 y3 y4 fz0 fz1 fz2 fz3 fz4
   go_wp2_with fail
   rw [HW5.out]
   clear x0 x1 x2 x3 x4 v0 v1 v2 v3 v4
   have hrec : ∀ wr, Below W3.heap.size W5 wr → _ := fun wr hb => cells5 ((hb.block W1.heap.size HS3.out).trans HZ5.out)
   have HREC := Lib.hid hrec
   obtain ⟨y0, y1, y2, y3, y4, fz0, fz1, fz2, fz3, fz4⟩ := hrec _ (Below.refl _ _)
   clear hrec
   go_wp2_with fail
   go_loopw [41] (fun i wr => ∃ k : Nat, k ≤ ys.length ∧ i = .int .i64 (k : Int) ∧ LawL W5 W3.heap.size x (.slice i1 i2 i3) (.slice j1 j2 j3) (.slice l1 l2 l3) (.slice s1 ys.length s3) (mixS k ys) wr) (fun i _ => ys.length - (intOf i).toNat)
   case atStart => exact ⟨0, Nat.zero_le _, rfl, H0.out⟩
   case round =>
    clear y0 y1 y2 y3 y4 fz0 fz1 fz2 fz3 fz4
    obtain ⟨k, hk, rfl, hL⟩ := hrel
    have HL := Lib.hid hL
    obtain ⟨y0, y1, y2, y3, y4, fz0, fz1, fz2, fz3, fz4⟩ := HREC.out _ hL.below
    by_cases hlt : k < ys.length
    ·obtain ⟨y, hy⟩ : ∃ y, ys[k]? = some y := ⟨ys[k], List.getElem?_eq_getElem hlt⟩
     have hfz := hL.canw
     obtain ⟨b0, o, p1, c5, q1, d1, hs, hqn, hnb, hbl, g1, g2, g3, g4, g5, g6, z2, z3⟩ := stepsA_at hL.steps (mixS_at hy)
     have HY := Lib.hid hy
     have HZ2 := Lib.hid z2
     have HZ3 := Lib.hid z3
     have HNB := Lib.hid hnb
     have hnx := stepsA_set2 (by rw [hs] at hL; exact hL.steps) (mixS_at hy) z2 z3 8 3
     have HNX := Lib.hid hnx
     have HNE : Hid (b0 ≠ W1.heap.size) := by show _ ≠ _; have := HS3.out; intro e; exact hnb (by omega)
     subst hs
     have hz2 := hfz _ rfl (o + k * 5 + 2)
     have hz3 := hfz _ rfl (o + k * 5 + 3)
     clear hfz
     have hi1 : (k : Int) < (ys.length : Int) := by omega
     have hi0 : (0 : Int) ≤ (k : Int) := by omega
     have e1 := take_len y.args.length 8 8 rfl
     have e2 := take_len y.lits.length 3 3 rfl
     have k1 : (0 : Int) ≤ min (y.args.length : Int) 8 := by omega
     have k2 : (0 : Int) ≤ min (y.lits.length : Int) 3 := by omega
     have m1 : min (y.args.length : Int) 8 ≤ (c5 : Int) := by omega
     have m2 : min (y.lits.length : Int) 3 ≤ (d1 : Int) := by omega
     have zd2 : (wr.drew).cell? ⟨b0, o + k * 5 + 2, none⟩ = some (.slice p1 y.args.length c5) := z2
     have zd3 : (wr.drew).cell? ⟨b0, o + k * 5 + 3, none⟩ = some (.slice q1 y.lits.length d1) := z3
     have yd4 : (wr.drew).cell? ⟨W1.heap.size, 4, none⟩ = some (.slice (some ⟨b0, o, none⟩) ys.length s3) := y4
     unfold maxLen at g2 g4 g6
     clear hL hy hnx hnb hqn
     go_wp2_with fail
     refine wp_region_S (S := fun b w' => (b = false → w' = wr.drew) ∧ w'.cell? ⟨W1.heap.size, 4, none⟩ = some (.slice (some ⟨b0, o, none⟩) ys.length s3)) (st := 38) (by kernel_rfl) ?_ (fun hHeld => ?_)
     ·exact ⟨fun _ => rfl, y4⟩
     refine wpAnyS_take (i := 0) (oi := _) (v := ?_) (by simp only [List.getElem?_toArray, List.getElem?_cons_zero]; rfl) (by kernel_rfl) (by kernel_rfl) (f := 20) (by kernel_rfl) (by kernel_rfl) (by kernel_rfl) (by kernel_rfl) (by exact fun _ _ _ h => h) (by kernel_rfl) (Or.inl ⟨by rfl, ?_⟩) (by assumption) ?_
     rotate_left
     ·intro w hSw; obtain ⟨hw1, _⟩ := hSw; obtain rfl := hw1 rfl; clear hw1; go_simp; try with_reducible rfl
     try simp only [Act.put, List.setIfInBounds_toArray, List.set_cons_zero, List.set_cons_succ]
     refine wpAnyS_take (i := 1) (oi := _) (v := ?_) (by simp only [List.getElem?_toArray, List.getElem?_cons_succ, List.getElem?_cons_zero]; rfl) (by kernel_rfl) (by kernel_rfl) (f := 20) (by kernel_rfl) (by kernel_rfl) (by kernel_rfl) (by kernel_rfl) (by exact fun _ _ _ h => h) (by kernel_rfl) (Or.inl ⟨by rfl, ?_⟩) (by assumption) ?_
     rotate_left
     ·intro w hSw; obtain ⟨hw1, _⟩ := hSw; obtain rfl := hw1 rfl; clear hw1; go_simp; try with_reducible rfl
     try simp only [Act.put, List.setIfInBounds_toArray, List.set_cons_zero, List.set_cons_succ]
     refine wpAnyS_take (i := 2) (oi := _) (v := ?_) (by simp only [List.getElem?_toArray, List.getElem?_cons_succ, List.getElem?_cons_zero]; rfl) (by kernel_rfl) (by kernel_rfl) (f := 20) (by kernel_rfl) (by kernel_rfl) (by kernel_rfl) (by kernel_rfl) (by exact fun _ _ _ h => h) (by kernel_rfl) (Or.inl ⟨by rfl, ?_⟩) (by assumption) ?_
     rotate_left
     ·intro w hSw; obtain ⟨hw1, _⟩ := hSw; obtain rfl := hw1 rfl; clear hw1; go_simp; try with_reducible rfl
     try simp only [Act.put, List.setIfInBounds_toArray, List.set_cons_zero, List.set_cons_succ]
     refine wpAnyS_take0 (i := 3) (oi := _) (v := ?_) (by simp only [List.getElem?_toArray, List.getElem?_cons_succ, List.getElem?_cons_zero]; rfl) (by kernel_rfl) (by kernel_rfl) (by kernel_rfl) (by kernel_rfl) (by exact fun _ _ _ h => h) (by kernel_rfl) (Or.inl ⟨by rfl, ?_⟩) (by assumption) ?_
     rotate_left
     ·intro w hSw; obtain ⟨_, _, hw2⟩ := hSw; go_simp; try with_reducible rfl
     try simp only [Act.put, List.setIfInBounds_toArray, List.set_cons_zero, List.set_cons_succ]
     refine wpAnyS_take0 (i := 4) (oi := _) (v := ?_) (by simp only [List.getElem?_toArray, List.getElem?_cons_succ, List.getElem?_cons_zero]; rfl) (by kernel_rfl) (by kernel_rfl) (by kernel_rfl) (by kernel_rfl) (by exact fun _ _ _ h => h) (by kernel_rfl) (Or.inl ⟨by rfl, ?_⟩) (by assumption) ?_
     rotate_left
     ·intro w hSw; obtain ⟨_, _, hw2⟩ := hSw; go_simp; try with_reducible rfl
     try simp only [Act.put, List.setIfInBounds_toArray, List.set_cons_zero, List.set_cons_succ]
     refine wpAnyS_take0 (i := 5) (oi := _) (v := ?_) (by simp only [List.getElem?_toArray, List.getElem?_cons_succ, List.getElem?_cons_zero]; rfl) (by kernel_rfl) (by kernel_rfl) (by kernel_rfl) (by kernel_rfl) (by exact fun _ _ _ h => h) (by kernel_rfl) (Or.inl ⟨by rfl, ?_⟩) (by assumption) ?_
     rotate_left
     ·intro w hSw; obtain ⟨_, _, hw2⟩ := hSw; go_simp; try with_reducible rfl
     try simp only [Act.put, List.setIfInBounds_toArray, List.set_cons_zero, List.set_cons_succ]
     refine wpAnyS_take (i := 6) (oi := _) (v := ?_) (by simp only [List.getElem?_toArray, List.getElem?_cons_succ, List.getElem?_cons_zero]; rfl) (by kernel_rfl) (by kernel_rfl) (f := 20) (by kernel_rfl) (by kernel_rfl) (by kernel_rfl) (by kernel_rfl) (by exact fun _ _ _ h => h) (by kernel_rfl) (Or.inl ⟨by rfl, ?_⟩) (by assumption) ?_
     rotate_left
     ·intro w hSw; obtain ⟨hw1, _⟩ := hSw; obtain rfl := hw1 rfl; clear hw1; go_simp; try with_reducible rfl
     try simp only [Act.put, List.setIfInBounds_toArray, List.set_cons_zero, List.set_cons_succ]
     refine wpAnyS_take (i := 7) (oi := _) (v := ?_) (by simp only [List.getElem?_toArray, List.getElem?_cons_succ, List.getElem?_cons_zero]; rfl) (by kernel_rfl) (by kernel_rfl) (f := 20) (by kernel_rfl) (by kernel_rfl) (by kernel_rfl) (by kernel_rfl) (by exact fun _ _ _ h => h) (by kernel_rfl) (Or.inl ⟨by rfl, ?_⟩) (by assumption) ?_
     rotate_left
     ·intro w hSw; obtain ⟨hw1, _⟩ := hSw; obtain rfl := hw1 rfl; clear hw1; go_simp; try with_reducible rfl
     try simp only [Act.put, List.setIfInBounds_toArray, List.set_cons_zero, List.set_cons_succ]
     refine wpAnyS_take (i := 8) (oi := _) (v := ?_) (by simp only [List.getElem?_toArray, List.getElem?_cons_succ, List.getElem?_cons_zero]; rfl) (by kernel_rfl) (by kernel_rfl) (f := 20) (by kernel_rfl) (by kernel_rfl) (by kernel_rfl) (by kernel_rfl) (by exact fun _ _ _ h => h) (by kernel_rfl) (Or.inl ⟨by rfl, ?_⟩) (by assumption) ?_
     rotate_left
     ·intro w hSw; obtain ⟨hw1, _⟩ := hSw; obtain rfl := hw1 rfl; clear hw1; go_simp; try with_reducible rfl
     try simp only [Act.put, List.setIfInBounds_toArray, List.set_cons_zero, List.set_cons_succ]
     refine wpAnyS_take (i := 9) (oi := _) (v := ?_) (by simp only [List.getElem?_toArray, List.getElem?_cons_succ, List.getElem?_cons_zero]; rfl) (by kernel_rfl) (by kernel_rfl) (f := 20) (by kernel_rfl) (by kernel_rfl) (by kernel_rfl) (by kernel_rfl) (by exact fun _ _ _ h => h) (by kernel_rfl) (Or.inl ⟨by rfl, ?_⟩) (by assumption) ?_
     rotate_left
     ·intro w hSw; obtain ⟨hw1, _⟩ := hSw; obtain rfl := hw1 rfl; clear hw1; go_simp; try with_reducible rfl
     try simp only [Act.put, List.setIfInBounds_toArray, List.set_cons_zero, List.set_cons_succ]
     refine wpAnyS_take (i := 10) (oi := _) (v := ?_) (by simp only [List.getElem?_toArray, List.getElem?_cons_succ, List.getElem?_cons_zero]; rfl) (by kernel_rfl) (by kernel_rfl) (f := 20) (by kernel_rfl) (by kernel_rfl) (by kernel_rfl) (by kernel_rfl) (by exact fun _ _ _ h => h) (by kernel_rfl) (Or.inl ⟨by rfl, ?_⟩) (by assumption) ?_
     rotate_left
     ·intro w hSw; obtain ⟨hw1, _⟩ := hSw; obtain rfl := hw1 rfl; clear hw1; go_simp; try with_reducible rfl
     try simp only [Act.put, List.setIfInBounds_toArray, List.set_cons_zero, List.set_cons_succ]
     refine wpAnyS_take (i := 11) (oi := _) (v := ?_) (by simp only [List.getElem?_toArray, List.getElem?_cons_succ, List.getElem?_cons_zero]; rfl) (by kernel_rfl) (by kernel_rfl) (f := 20) (by kernel_rfl) (by kernel_rfl) (by kernel_rfl) (by kernel_rfl) (by exact fun _ _ _ h => h) (by kernel_rfl) (Or.inl ⟨by rfl, ?_⟩) (by assumption) ?_
     rotate_left
     ·intro w hSw; obtain ⟨hw1, _⟩ := hSw; obtain rfl := hw1 rfl; clear hw1; go_simp; try with_reducible rfl
     try simp only [Act.put, List.setIfInBounds_toArray, List.set_cons_zero, List.set_cons_succ]
     refine wpAnyS_take (i := 12) (oi := _) (v := ?_) (by simp only [List.getElem?_toArray, List.getElem?_cons_succ, List.getElem?_cons_zero]; rfl) (by kernel_rfl) (by kernel_rfl) (f := 20) (by kernel_rfl) (by kernel_rfl) (by kernel_rfl) (by kernel_rfl) (by exact fun _ _ _ h => h) (by kernel_rfl) (Or.inl ⟨by rfl, ?_⟩) (by assumption) ?_
     rotate_left
     ·intro w hSw; obtain ⟨hw1, _⟩ := hSw; obtain rfl := hw1 rfl; clear hw1; go_simp; try with_reducible rfl
     try simp only [Act.put, List.setIfInBounds_toArray, List.set_cons_zero, List.set_cons_succ]
     refine wpAnyS_take (i := 13) (oi := _) (v := ?_) (by simp only [List.getElem?_toArray, List.getElem?_cons_succ, List.getElem?_cons_zero]; rfl) (by kernel_rfl) (by kernel_rfl) (f := 20) (by kernel_rfl) (by kernel_rfl) (by kernel_rfl) (by kernel_rfl) (by exact fun _ _ _ h => h) (by kernel_rfl) (Or.inl ⟨by rfl, ?_⟩) (by assumption) ?_
     rotate_left
     ·intro w hSw; obtain ⟨hw1, _⟩ := hSw; obtain rfl := hw1 rfl; clear hw1; go_simp; try with_reducible rfl
     try simp only [Act.put, List.setIfInBounds_toArray, List.set_cons_zero, List.set_cons_succ]
     refine wpAnyS_take (i := 14) (oi := _) (v := ?_) (by simp only [List.getElem?_toArray, List.getElem?_cons_succ, List.getElem?_cons_zero]; rfl) (by kernel_rfl) (by kernel_rfl) (f := 20) (by kernel_rfl) (by kernel_rfl) (by kernel_rfl) (by kernel_rfl) (by exact fun _ _ _ h => h) (by kernel_rfl) (Or.inl ⟨by rfl, ?_⟩) (by assumption) ?_
     rotate_left
     ·intro w hSw; obtain ⟨hw1, _⟩ := hSw; obtain rfl := hw1 rfl; clear hw1; go_simp; try with_reducible rfl
     try simp only [Act.put, List.setIfInBounds_toArray, List.set_cons_zero, List.set_cons_succ]
     refine wpAnyS_take (i := 15) (oi := _) (v := ?_) (by simp only [List.getElem?_toArray, List.getElem?_cons_succ, List.getElem?_cons_zero]; rfl) (by kernel_rfl) (by kernel_rfl) (f := 20) (by kernel_rfl) (by kernel_rfl) (by kernel_rfl) (by kernel_rfl) (by exact fun _ _ _ h => h) (by kernel_rfl) (Or.inl ⟨by rfl, ?_⟩) (by assumption) ?_
     rotate_left
     ·intro w hSw; obtain ⟨hw1, _⟩ := hSw; obtain rfl := hw1 rfl; clear hw1; go_simp; try with_reducible rfl
     try simp only [Act.put, List.setIfInBounds_toArray, List.set_cons_zero, List.set_cons_succ]
     refine wpAnyS_take (i := 16) (oi := _) (v := ?_) (by simp only [List.getElem?_toArray, List.getElem?_cons_succ, List.getElem?_cons_zero]; rfl) (by kernel_rfl) (by kernel_rfl) (f := 20) (by kernel_rfl) (by kernel_rfl) (by kernel_rfl) (by kernel_rfl) (by exact fun _ _ _ h => h) (by kernel_rfl) (Or.inl ⟨by rfl, ?_⟩) (by assumption) ?_
     rotate_left
     ·intro w hSw; obtain ⟨hw1, _⟩ := hSw; obtain rfl := hw1 rfl; clear hw1; go_simp; try with_reducible rfl
     try simp only [Act.put, List.setIfInBounds_toArray, List.set_cons_zero, List.set_cons_succ]
     refine wpAnyS_take (i := 17) (oi := _) (v := ?_) (by simp only [List.getElem?_toArray, List.getElem?_cons_succ, List.getElem?_cons_zero]; rfl) (by kernel_rfl) (by kernel_rfl) (f := 20) (by kernel_rfl) (by kernel_rfl) (by kernel_rfl) (by kernel_rfl) (by exact fun _ _ _ h => h) (by kernel_rfl) (Or.inl ⟨by rfl, ?_⟩) (by assumption) ?_
     rotate_left
     ·intro w hSw; obtain ⟨hw1, _⟩ := hSw; obtain rfl := hw1 rfl; clear hw1; go_simp; try with_reducible rfl
     try simp only [Act.put, List.setIfInBounds_toArray, List.set_cons_zero, List.set_cons_succ]
     refine wpAnyS_take (i := 18) (oi := _) (v := ?_) (by simp only [List.getElem?_toArray, List.getElem?_cons_succ, List.getElem?_cons_zero]; rfl) (by kernel_rfl) (by kernel_rfl) (f := 20) (by kernel_rfl) (by kernel_rfl) (by kernel_rfl) (by kernel_rfl) (by exact fun _ _ _ h => h) (by kernel_rfl) (Or.inl ⟨by rfl, ?_⟩) (by assumption) ?_
     rotate_left
     ·intro w hSw; obtain ⟨hw1, _⟩ := hSw; obtain rfl := hw1 rfl; clear hw1; go_simp; try with_reducible rfl
     try simp only [Act.put, List.setIfInBounds_toArray, List.set_cons_zero, List.set_cons_succ]
     refine wpAnyS_take (i := 19) (oi := _) (v := ?_) (by simp only [List.getElem?_toArray, List.getElem?_cons_succ, List.getElem?_cons_zero]; rfl) (by kernel_rfl) (by kernel_rfl) (f := 20) (by kernel_rfl) (by kernel_rfl) (by kernel_rfl) (by kernel_rfl) (by exact fun _ _ _ h => h) (by kernel_rfl) (Or.inl ⟨by rfl, ?_⟩) (by assumption) ?_
     rotate_left
     ·intro w hSw; obtain ⟨hw1, _⟩ := hSw; obtain rfl := hw1 rfl; clear hw1; go_simp; try with_reducible rfl
     try simp only [Act.put, List.setIfInBounds_toArray, List.set_cons_zero, List.set_cons_succ]
     refine wpAnyS_take (i := 20) (oi := _) (v := ?_) (by simp only [List.getElem?_toArray, List.getElem?_cons_succ, List.getElem?_cons_zero]; rfl) (by kernel_rfl) (by kernel_rfl) (f := 20) (by kernel_rfl) (by kernel_rfl) (by kernel_rfl) (by kernel_rfl) (by exact fun _ _ _ h => h) (by kernel_rfl) (Or.inl ⟨by rfl, ?_⟩) (by assumption) ?_
     rotate_left
     ·intro w hSw; obtain ⟨hw1, _⟩ := hSw; obtain rfl := hw1 rfl; clear hw1; go_simp; try with_reducible rfl
     try simp only [Act.put, List.setIfInBounds_toArray, List.set_cons_zero, List.set_cons_succ]
     refine wpAnyS_take (i := 21) (oi := _) (v := ?_) (by simp only [List.getElem?_toArray, List.getElem?_cons_succ, List.getElem?_cons_zero]; rfl) (by kernel_rfl) (by kernel_rfl) (f := 20) (by kernel_rfl) (by kernel_rfl) (by kernel_rfl) (by kernel_rfl) (by exact fun _ _ _ h => h) (by kernel_rfl) (Or.inl ⟨by rfl, ?_⟩) (by assumption) ?_
     rotate_left
     ·intro w hSw; obtain ⟨hw1, _⟩ := hSw; obtain rfl := hw1 rfl; clear hw1; go_simp; try with_reducible rfl
     try simp only [Act.put, List.setIfInBounds_toArray, List.set_cons_zero, List.set_cons_succ]
     refine wpAnyS_take (i := 22) (oi := _) (v := ?_) (by simp only [List.getElem?_toArray, List.getElem?_cons_succ, List.getElem?_cons_zero]; rfl) (by kernel_rfl) (by kernel_rfl) (f := 20) (by kernel_rfl) (by kernel_rfl) (by kernel_rfl) (by kernel_rfl) (by exact fun _ _ _ h => h) (by kernel_rfl) (Or.inl ⟨by rfl, ?_⟩) (by assumption) ?_
     rotate_left
     ·intro w hSw; obtain ⟨hw1, _⟩ := hSw; obtain rfl := hw1 rfl; clear hw1; go_simp; try with_reducible rfl
     try simp only [Act.put, List.setIfInBounds_toArray, List.set_cons_zero, List.set_cons_succ]
     refine wpAnyS_take (i := 23) (oi := _) (v := ?_) (by simp only [List.getElem?_toArray, List.getElem?_cons_succ, List.getElem?_cons_zero]; rfl) (by kernel_rfl) (by kernel_rfl) (f := 20) (by kernel_rfl) (by kernel_rfl) (by kernel_rfl) (by kernel_rfl) (by exact fun _ _ _ h => h) (by kernel_rfl) (Or.inl ⟨by rfl, ?_⟩) (by assumption) ?_
     rotate_left
     ·intro w hSw; obtain ⟨hw1, _⟩ := hSw; obtain rfl := hw1 rfl; clear hw1; go_simp; try with_reducible rfl
     try simp only [Act.put, List.setIfInBounds_toArray, List.set_cons_zero, List.set_cons_succ]
     refine wpAnyS_take (i := 24) (oi := _) (v := ?_) (by simp only [List.getElem?_toArray, List.getElem?_cons_succ, List.getElem?_cons_zero]; rfl) (by kernel_rfl) (by kernel_rfl) (f := 20) (by kernel_rfl) (by kernel_rfl) (by kernel_rfl) (by kernel_rfl) (by exact fun _ _ _ h => h) (by kernel_rfl) (Or.inl ⟨by rfl, ?_⟩) (by assumption) ?_
     rotate_left
     ·intro w hSw; obtain ⟨hw1, _⟩ := hSw; obtain rfl := hw1 rfl; clear hw1; go_simp; try with_reducible rfl
     try simp only [Act.put, List.setIfInBounds_toArray, List.set_cons_zero, List.set_cons_succ]
     refine wpAnyS_take (i := 25) (oi := _) (v := ?_) (by simp only [List.getElem?_toArray, List.getElem?_cons_succ, List.getElem?_cons_zero]; rfl) (by kernel_rfl) (by kernel_rfl) (f := 20) (by kernel_rfl) (by kernel_rfl) (by kernel_rfl) (by kernel_rfl) (by exact fun _ _ _ h => h) (by kernel_rfl) (Or.inl ⟨by rfl, ?_⟩) (by assumption) ?_
     rotate_left
     ·intro w hSw; obtain ⟨hw1, _⟩ := hSw; obtain rfl := hw1 rfl; clear hw1; go_simp; try with_reducible rfl
     try simp only [Act.put, List.setIfInBounds_toArray, List.set_cons_zero, List.set_cons_succ]
     refine wpAnyS_take (i := 26) (oi := _) (v := ?_) (by simp only [List.getElem?_toArray, List.getElem?_cons_succ, List.getElem?_cons_zero]; rfl) (by kernel_rfl) (by kernel_rfl) (f := 20) (by kernel_rfl) (by kernel_rfl) (by kernel_rfl) (by kernel_rfl) (by exact fun _ _ _ h => h) (by kernel_rfl) (Or.inl ⟨by rfl, ?_⟩) (by assumption) ?_
     rotate_left
     ·intro w hSw; obtain ⟨hw1, _⟩ := hSw; obtain rfl := hw1 rfl; clear hw1; go_simp; try with_reducible rfl
     try simp only [Act.put, List.setIfInBounds_toArray, List.set_cons_zero, List.set_cons_succ]
     refine wpAnyS_take (i := 27) (oi := _) (v := ?_) (by simp only [List.getElem?_toArray, List.getElem?_cons_succ, List.getElem?_cons_zero]; rfl) (by kernel_rfl) (by kernel_rfl) (f := 20) (by kernel_rfl) (by kernel_rfl) (by kernel_rfl) (by kernel_rfl) (by exact fun _ _ _ h => h) (by kernel_rfl) (Or.inl ⟨by rfl, ?_⟩) (by assumption) ?_
     rotate_left
     ·intro w hSw; obtain ⟨hw1, _⟩ := hSw; obtain rfl := hw1 rfl; clear hw1; go_simp; try with_reducible rfl
     try simp only [Act.put, List.setIfInBounds_toArray, List.set_cons_zero, List.set_cons_succ]
     refine wpAnyS_take (i := 28) (oi := _) (v := ?_) (by simp only [List.getElem?_toArray, List.getElem?_cons_succ, List.getElem?_cons_zero]; rfl) (by kernel_rfl) (by kernel_rfl) (f := 20) (by kernel_rfl) (by kernel_rfl) (by kernel_rfl) (by kernel_rfl) (by exact fun _ _ _ h => h) (by kernel_rfl) (Or.inl ⟨by rfl, ?_⟩) (by assumption) ?_
     rotate_left
     ·intro w hSw; obtain ⟨hw1, _⟩ := hSw; obtain rfl := hw1 rfl; clear hw1; go_simp; try with_reducible rfl
     try simp only [Act.put, List.setIfInBounds_toArray, List.set_cons_zero, List.set_cons_succ]
     refine wpAnyS_take (i := 29) (oi := _) (v := ?_) (by simp only [List.getElem?_toArray, List.getElem?_cons_succ, List.getElem?_cons_zero]; rfl) (by kernel_rfl) (by kernel_rfl) (f := 20) (by kernel_rfl) (by kernel_rfl) (by kernel_rfl) (by kernel_rfl) (by exact fun _ _ _ h => h) (by kernel_rfl) (Or.inl ⟨by rfl, ?_⟩) (by assumption) ?_
     rotate_left
     ·intro w hSw; obtain ⟨hw1, _⟩ := hSw; obtain rfl := hw1 rfl; clear hw1; go_simp; try with_reducible rfl
     try simp only [Act.put, List.setIfInBounds_toArray, List.set_cons_zero, List.set_cons_succ]
     refine wpAnyS_take (i := 30) (oi := _) (v := ?_) (by simp only [List.getElem?_toArray, List.getElem?_cons_succ, List.getElem?_cons_zero]; rfl) (by kernel_rfl) (by kernel_rfl) (f := 20) (by kernel_rfl) (by kernel_rfl) (by kernel_rfl) (by kernel_rfl) (by exact fun _ _ _ h => h) (by kernel_rfl) (Or.inl ⟨by rfl, ?_⟩) (by assumption) ?_
     rotate_left
     ·intro w hSw; obtain ⟨hw1, _⟩ := hSw; obtain rfl := hw1 rfl; clear hw1; go_simp; try with_reducible rfl
     try simp only [Act.put, List.setIfInBounds_toArray, List.set_cons_zero, List.set_cons_succ]
     refine wpAnyS_take (i := 31) (oi := _) (v := ?_) (by simp only [List.getElem?_toArray, List.getElem?_cons_succ, List.getElem?_cons_zero]; rfl) (by kernel_rfl) (by kernel_rfl) (f := 20) (by kernel_rfl) (by kernel_rfl) (by kernel_rfl) (by kernel_rfl) (by exact fun _ _ _ h => h) (by kernel_rfl) (Or.inl ⟨by rfl, ?_⟩) (by assumption) ?_
     rotate_left
     ·intro w hSw; obtain ⟨hw1, _⟩ := hSw; obtain rfl := hw1 rfl; clear hw1; go_simp; try with_reducible rfl
     try simp only [Act.put, List.setIfInBounds_toArray, List.set_cons_zero, List.set_cons_succ]
     refine wpAnyS_take (i := 32) (oi := _) (v := ?_) (by simp only [List.getElem?_toArray, List.getElem?_cons_succ, List.getElem?_cons_zero]; rfl) (by kernel_rfl) (by kernel_rfl) (f := 20) (by kernel_rfl) (by kernel_rfl) (by kernel_rfl) (by kernel_rfl) (by exact fun _ _ _ h => h) (by kernel_rfl) (Or.inl ⟨by rfl, ?_⟩) (by assumption) ?_
     rotate_left
     ·intro w hSw; obtain ⟨hw1, _⟩ := hSw; obtain rfl := hw1 rfl; clear hw1; go_simp; try with_reducible rfl
     try simp only [Act.put, List.setIfInBounds_toArray, List.set_cons_zero, List.set_cons_succ]
     refine wpAnyS_take0 (i := 33) (oi := _) (v := ?_) (by simp only [List.getElem?_toArray, List.getElem?_cons_succ, List.getElem?_cons_zero]; rfl) (by kernel_rfl) (by kernel_rfl) (by kernel_rfl) (by kernel_rfl) (by exact fun _ _ _ h => h) (by kernel_rfl) (Or.inl ⟨by rfl, ?_⟩) (by assumption) ?_
     rotate_left
     ·intro w hSw; obtain ⟨_, _, hw2⟩ := hSw; go_simp; try with_reducible rfl
     try simp only [Act.put, List.setIfInBounds_toArray, List.set_cons_zero, List.set_cons_succ]
     refine wpAnyS_take0 (i := 34) (oi := _) (v := ?_) (by simp only [List.getElem?_toArray, List.getElem?_cons_succ, List.getElem?_cons_zero]; rfl) (by kernel_rfl) (by kernel_rfl) (by kernel_rfl) (by kernel_rfl) (by exact fun _ _ _ h => h) (by kernel_rfl) (Or.inl ⟨by rfl, ?_⟩) (by assumption) ?_
     rotate_left
     ·intro w hSw; obtain ⟨_, _, hw2⟩ := hSw; go_simp; try with_reducible rfl
     try simp only [Act.put, List.setIfInBounds_toArray, List.set_cons_zero, List.set_cons_succ]
     refine wpAnyS_take0 (i := 35) (oi := _) (v := ?_) (by simp only [List.getElem?_toArray, List.getElem?_cons_succ, List.getElem?_cons_zero]; rfl) (by kernel_rfl) (by kernel_rfl) (by kernel_rfl) (by kernel_rfl) (by exact fun _ _ _ h => h) (by kernel_rfl) (Or.inl ⟨by rfl, ?_⟩) (by assumption) ?_
     rotate_left
     ·intro w hSw; obtain ⟨_, _, hw2⟩ := hSw; go_simp; try with_reducible rfl
     try simp only [Act.put, List.setIfInBounds_toArray, List.set_cons_zero, List.set_cons_succ]
     refine wpAnyS_take (i := 36) (oi := _) (v := ?_) (by simp only [List.getElem?_toArray, List.getElem?_cons_succ, List.getElem?_cons_zero]; rfl) (by kernel_rfl) (by kernel_rfl) (f := 20) (by kernel_rfl) (by kernel_rfl) (by kernel_rfl) (by kernel_rfl) (by exact fun _ _ _ h => h) (by kernel_rfl) (Or.inl ⟨by rfl, ?_⟩) (by assumption) ?_
     rotate_left
     ·intro w hSw; obtain ⟨hw1, _⟩ := hSw; obtain rfl := hw1 rfl; clear hw1; go_simp; try with_reducible rfl
     try simp only [Act.put, List.setIfInBounds_toArray, List.set_cons_zero, List.set_cons_succ]
     refine wpAnyS_take (i := 37) (oi := _) (v := ?_) (by simp only [List.getElem?_toArray, List.getElem?_cons_succ, List.getElem?_cons_zero]; rfl) (by kernel_rfl) (by kernel_rfl) (f := 20) (by kernel_rfl) (by kernel_rfl) (by kernel_rfl) (by kernel_rfl) (by exact fun _ _ _ h => h) (by kernel_rfl) (Or.inl ⟨by rfl, ?_⟩) (by assumption) ?_
     rotate_left
     ·intro w hSw; obtain ⟨hw1, _⟩ := hSw; obtain rfl := hw1 rfl; clear hw1; go_simp; try with_reducible rfl
     try simp only [Act.put, List.setIfInBounds_toArray, List.set_cons_zero, List.set_cons_succ]
     refine wpAnyS_ready (rs := [38]) (by kernel_rfl) (by simp) ?_
     refine AllReadyS.cons (b := true) (o := _) (by simp only [List.getElem?_toArray, List.getElem?_cons_succ, List.getElem?_cons_zero]; rfl) (by kernel_rfl) (fun K hK => ?_) ?_
     ·go_simp
      refine hK.out _ _ ?_ (fun hHeld => ?_)
      ·try dsimp only
       exact ⟨fun e => (by cases e), by rw [cell_drew, World.cell?_setCell_far _ _ _ _ HNE.out]; exact y4⟩
      clear hK K
      try simp only [Act.put, List.setIfInBounds_toArray, List.set_cons_zero, List.set_cons_succ]
      refine wpAnyS_take0 (i := 39) (oi := _) (v := ?_) (by simp only [List.getElem?_toArray, List.getElem?_cons_succ, List.getElem?_cons_zero]; rfl) (by kernel_rfl) (by kernel_rfl) (by kernel_rfl) (by kernel_rfl) (by exact fun _ _ _ h => h) (by kernel_rfl) (Or.inl ⟨by rfl, ?_⟩) (by assumption) ?_
      rotate_left
      ·intro w hSw; obtain ⟨_, _, hw2⟩ := hSw; go_simp; try with_reducible rfl
      try simp only [Act.put, List.setIfInBounds_toArray, List.set_cons_zero, List.set_cons_succ]
      refine wpAnyS_take0 (i := 40) (oi := _) (v := ?_) (by simp only [List.getElem?_toArray, List.getElem?_cons_succ, List.getElem?_cons_zero]; rfl) (by kernel_rfl) (by kernel_rfl) (by kernel_rfl) (by kernel_rfl) (by exact fun _ _ _ h => h) (by kernel_rfl) (Or.inl ⟨by rfl, ?_⟩) (by assumption) ?_
      rotate_left
      ·intro w hSw; obtain ⟨_, _, hw2⟩ := hSw; go_simp; try with_reducible rfl
      try simp only [Act.put, List.setIfInBounds_toArray, List.set_cons_zero, List.set_cons_succ]
      refine wpAnyS_ready (rs := [41]) (by kernel_rfl) (by simp) ?_
      refine AllReadyS.cons (b := true) (o := _) (by simp only [List.getElem?_toArray, List.getElem?_cons_succ, List.getElem?_cons_zero]; rfl) (by kernel_rfl) (fun K hK => ?_) ?_
      ·go_simp
       refine hK.out _ _ ?_ (fun hHeld => ?_)
       ·try dsimp only
        exact ⟨fun e => (by cases e), by rw [cell_drew, World.cell?_setCell_far _ _ _ _ HNE.out]; exact hHeld.2⟩
       clear hK K
       try simp only [Act.put, List.setIfInBounds_toArray, List.set_cons_zero, List.set_cons_succ]
       refine wpAnyS_done (by kernel_rfl) ?_ _
       have hwr := HL.out.below
       obtain ⟨W7, hW7⟩ : ∃ V, ((wr.setCell ⟨b0, o + k * 5 + 2, none⟩ (.slice p1 (min 8 y.args.length) c5)).setCell ⟨b0, o + k * 5 + 3, none⟩ (.slice q1 (min 3 y.lits.length) d1)).drew = V := ⟨_, rfl⟩
       have hfr : Fr (fun b => b = b0) wr W7 := by
        rw [← hW7]
        exact ((fr_set (Av := fun b => b = b0) (a := ⟨b0, o + k * 5 + 2, none⟩) rfl _).trans (fr_set (Av := fun b => b = b0) (a := ⟨b0, o + k * 5 + 3, none⟩) rfl _)).trans (fr_drew _ _)
       have h7 : LawL W5 W3.heap.size x (.slice i1 i2 i3) (.slice j1 j2 j3) (.slice l1 l2 l3) (.slice (some ⟨b0, o, none⟩) ys.length s3) (mixS (k + 1) ys) W7 := by
        have hset : ∀ {v : Value} {xs : List ByteArray}, StrsA (fun b => b < W3.heap.size) wr v xs → StrsA (fun b => b < W3.heap.size) W7 v xs := fun h => by
         rw [← hW7]
         refine RowA.keep (w := (wr.setCell ⟨b0, o + k * 5 + 2, none⟩ (.slice p1 (min 8 y.args.length) c5)).setCell ⟨b0, o + k * 5 + 3, none⟩ (.slice q1 (min 3 y.lits.length) d1)) ?_ (fr_drew _ _)
         exact strsA_set (strsA_set h HZ2.out (by intro s e; cases e) _) (by rw [World.cell?_setCell_other _ _ _ _ (by simp)]; exact HZ3.out) (by intro s e; cases e) _
        refine ⟨hwr.trans (hfr.below (Nat.le_trans HS45.out hwr.size) fun b hb e => by subst e; exact HNB.out hb), hset HL.out.ins, hset HL.out.outs, hset HL.out.after, ?_, fun b e i => ?_⟩
        ·have := HNX.out
         rw [← mixS_next HY.out, ← hW7]
         exact StepsA.keep this (fr_drew _ _)
        ·rw [← hW7]
         have h1 := HL.out.canw b e i
         rw [frozen_drew, World.frozen?_setCell, World.frozen?_setCell]
         exact h1
       have H7 := Lib.hid h7
       rw [hW7]
       clear hwr hW7 hfr h7 hHeld hz2 hz3 y0 y1 y2 y3 y4 fz0 fz1 fz2 fz3 fz4 z2 z3 zd2 zd3 yd4 e1 e2 k1 k2 m1 m2
       go_wp2
       go_roundw
       case rel => exact ⟨k + 1, by omega, by go_num, H7.out⟩
       case measure => simp [intOf]; omega
      exact AllReadyS.nil
     exact AllReadyS.nil
    ·obtain rfl : k = ys.length := by omega
     have hi1 : ¬ (ys.length : Int) < (ys.length : Int) := by omega
     have hout := (hL.below.block _ (by have := HB3.out; omega)).trans HO5.out
     have HOUT := Lib.hid hout
     obtain ⟨d0, d1, d2, d3, d4, e0, e1, e2, e3, e4⟩ := cells5 hout
     clear hL hout
     go_wp2
     refine bodyPost_ret (results_c rfl _ _ (w.heap.size + 1) _ _ _ _ rfl (heap_set5 HOUT.out _ _ _ _ _) Tryz.underlying38 rfl (by kernel_rfl)) rfl ?_
     have hL := HL.out
     have hS := HB3.out
     have hS5 := HS45.out
     have hfs : ∀ u0 u1 u2 u3 u4, Fr (fun b => b < W3.heap.size) wr _ := fun u0 u1 u2 u3 u4 => fr_set5 (Av := fun b => b < W3.heap.size) (w := wr) (g := w.heap.size + 1) (by omega) u0 u1 u2 u3 u4
     have hst := hL.steps
     rw [mixS_all _ (Nat.le_refl _)] at hst
     have hys : (cutR x).steps = ys.map cutS := by rw [← HYS.out]; rfl
     refine ⟨⟨_, _, _, _, rfl, RowA.mono (RowA.keep hL.ins (hfs _ _ _ _ _)) fun b _ hb => by omega, RowA.mono (RowA.keep hL.outs (hfs _ _ _ _ _)) fun b _ hb => by omega, RowA.mono (RowA.keep hL.after (hfs _ _ _ _ _)) fun b _ hb => by omega, ?_⟩,
      below_set5 (HB5.out.trans (hL.below.mono (by omega))) (by omega) _ _ _ _ _⟩
     rw [hys]
     exact (hst.keep (hfs _ _ _ _ _)).mono fun b _ hb => by omega
  exact AllReadyH.nil
 exact AllReadyH.nil
end Go.Proofs.YtlmnabhhgplhnaaGreatDoor
namespace Go.Proofs.YtlmnabhhgplhnaaGreatDoor
open Go.RowKit Go.Shelf

theorem RuleI.below {w w' : World} {r : List Value} {x : RuleS} (h : RuleI w r x) (hb : Below w.heap.size w w') : RuleI w' r x := by
 obtain ⟨vi, vo, vf, vs, rfl, h1, h2, h3, h4⟩ := h
 exact ⟨vi, vo, vf, vs, rfl, h1.below hb, h2.below hb, h3.below hb, h4.below hb⟩
theorem RuleA.ruleI {Av : Nat → Prop} {w : World} {r : List Value} {x : RuleS} (h : RuleA Av w r x) : RuleI w r x := by
 obtain ⟨vi, vo, vf, vs, rfl, h1, h2, h3, rows, h4, h5⟩ := h
 exact ⟨vi, vo, vf, vs, rfl, h1.isStrs, h2.isStrs, h3.isStrs, rows, h4.1, h5.imp fun r x h => by obtain ⟨va, vl, rfl, ha, hl⟩ := h; exact ⟨va, vl, rfl, ha.isStrs, hl.isStrs⟩⟩
theorem RulesA.rulesI {Av : Nat → Prop} {w : World} {v : Value} {xs : List RuleS} (h : RulesA Av w v xs) : RulesI w v xs := by
 obtain ⟨rows, h1, h2⟩ := h
 exact ⟨rows, h1.1, h2.imp fun r x h => h.ruleI⟩
theorem RulesI.below {w w' : World} {v : Value} {xs : List RuleS} (h : RulesI w v xs) (hb : Below w.heap.size w w') : RulesI w' v xs := by
 obtain ⟨rows, h1, h2⟩ := h
 exact ⟨rows, h1.below hb, h2.imp fun r x h => h.below hb⟩
theorem isStrs_shape {w : World} {v : Value} {xs : List ByteArray} (h : IsStrs w v xs) : ∃ a c, v = .slice a xs.length c := by
 obtain ⟨a, c, rfl, _⟩ := h
 exact ⟨a, c, rfl⟩
theorem stepsI_shape {w : World} {v : Value} {xs : List StepS} (h : StepsI w v xs) : ∃ a c, v = .slice a xs.length c := by
 obtain ⟨rows, ⟨a, c, rfl, _⟩, hall⟩ := h
 exact ⟨a, c, by rw [hall.1]⟩
theorem rulesI_len {w : World} {v : Value} {xs : List RuleS} (h : RulesI w v xs) : ∃ a c, v = .slice a xs.length c ∧ xs.length ≤ c ∧ c ≤ maxLen := by
 obtain ⟨rows, ⟨a, c, rfl, h1, h2, _⟩, hall⟩ := h
 rw [← hall.1]
 exact ⟨a, c, rfl, h1, h2⟩
theorem rulesI_at {w : World} {v : Value} {xs : List RuleS} (h : RulesI w v xs) {k : Nat} {x : RuleS} (hx : xs[k]? = some x) :
  ∃ g o cap a1 c1 a2 c2 a3 c3 a4 c4, v = .slice (some ⟨g, o, none⟩) xs.length cap ∧ g < w.heap.size ∧ RuleI w [.string x.name, .slice a1 x.ins.length c1, .slice a2 x.outs.length c2, .slice a3 x.after.length c3, .slice a4 x.steps.length c4] x ∧ ∀ w', Below w.heap.size w w' →
   w'.cell? ⟨g, o + k * 5, none⟩ = some (.string x.name) ∧ w'.cell? ⟨g, o + k * 5 + 1, none⟩ = some (.slice a1 x.ins.length c1) ∧ w'.cell? ⟨g, o + k * 5 + 2, none⟩ = some (.slice a2 x.outs.length c2) ∧ w'.cell? ⟨g, o + k * 5 + 3, none⟩ = some (.slice a3 x.after.length c3) ∧ w'.cell? ⟨g, o + k * 5 + 4, none⟩ = some (.slice a4 x.steps.length c4) := by
 obtain ⟨rows, ⟨a, c, rfl, _, _, h2⟩, hall⟩ := h
 have hk : k < rows.length := by rw [hall.1]; exact (List.getElem?_eq_some_iff.1 hx).1
 have hR := hall.2 k _ x (List.getElem?_eq_getElem hk) hx
 obtain ⟨b, o, rfl, hb, hc⟩ := h2 (by rintro rfl; simp at hk)
 obtain ⟨vi, vo, vf, vs, e, h1, h2, h3, h4⟩ := id hR
 obtain ⟨a1, c1, q1⟩ := isStrs_shape h1
 obtain ⟨a2, c2, q2⟩ := isStrs_shape h2
 obtain ⟨a3, c3, q3⟩ := isStrs_shape h3
 obtain ⟨a4, c4, q4⟩ := stepsI_shape h4
 subst q1 q2 q3 q4
 rw [e] at hR
 refine ⟨b, o, c, a1, c1, a2, c2, a3, c3, a4, c4, by rw [hall.1], hb, hR, fun w' hw => ?_⟩
 have key : ∀ (i : Nat) u, rows[k][i]? = some u → w'.cell? ⟨b, o + k * 5 + i, none⟩ = some u := fun i u hu => (hw.cell (p := ⟨b, o + k * 5 + i, none⟩) hb).trans (hc k _ (List.getElem?_eq_getElem hk) i u hu)
 rw [e] at key
 exact ⟨key 0 _ rfl, key 1 _ rfl, key 2 _ rfl, key 3 _ rfl, key 4 _ rfl⟩
/-- A part ahead of a list of rules. -/
theorem rulesI_take {w : World} {a : Option Addr} {n c : Nat} {xs : List RuleS} (h : RulesI w (.slice a n c) xs) (m : Nat) : RulesI w (.slice a (min m n) c) (xs.take m) := by
 obtain ⟨rows, ⟨a', c', q, h1, h2, h3⟩, hall⟩ := h
 injection q with q1 q2 q3
 subst q1 q3
 refine ⟨rows.take m, ⟨a, c, by rw [List.length_take, q2], by rw [List.length_take]; omega, h2, fun hne => ?_⟩, ⟨by rw [List.length_take, List.length_take, hall.1], fun j r y hr hy => ?_⟩⟩
 ·obtain ⟨b, o, ha, hb, hc⟩ := h3 (by rintro rfl; simp at hne)
  refine ⟨b, o, ha, hb, fun j x hx => hc j x ?_⟩
  rw [List.getElem?_take] at hx
  split at hx
  ·exact hx
  ·cases hx
 ·rw [List.getElem?_take] at hr hy
  split at hr
  ·rename_i hj
   rw [if_pos hj] at hy
   exact hall.2 j r y hr hy
  ·cases hr
theorem ruleE_shape {w w' : World} {x : RuleS} {e : Ending} (h : RuleE w w' x e) : ∃ b1 m1 e1 b2 m2 e2 b3 m3 e3 b4 m4 e4, e = .returned (.agg #[.string x.name, .slice b1 m1 e1, .slice b2 m2 e2, .slice b3 m3 e3, .slice b4 m4 e4]) ∧
  RuleA (fun b => b < w.heap.size) w' [.string x.name, .slice b1 m1 e1, .slice b2 m2 e2, .slice b3 m3 e3, .slice b4 m4 e4] x := by
 obtain ⟨vi, vo, vf, vs, rfl, h1, h2, h3, h4⟩ := h
 obtain ⟨b1, m1, e1, q1⟩ := rowA_shape h1
 obtain ⟨b2, m2, e2, q2⟩ := rowA_shape h2
 obtain ⟨b3, m3, e3, q3⟩ := rowA_shape h3
 obtain ⟨b4, e4, q4, _, _⟩ := stepsA_len h4
 subst q1 q2 q3 q4
 exact ⟨b1, m1, e1, b2, m2, e2, b3, m3, e3, b4, _, e4, rfl, ⟨_, _, _, _, rfl, h1, h2, h3, h4⟩⟩

/-- The first k rules, cut. -/
def cutRs (k : Nat) (xs : List RuleS) : List RuleS := (xs.take k).map cutR
theorem cutRs_next {xs : List RuleS} {k : Nat} {x : RuleS} (h : xs[k]? = some x) : cutRs (k + 1) xs = cutRs k xs ++ [cutR x] := by
 unfold cutRs; rw [List.take_add_one, h, List.map_append]; rfl
theorem cutRs_len (k : Nat) (xs : List RuleS) : (cutRs k xs).length = min k xs.length := by unfold cutRs; rw [List.length_map, List.length_take]
theorem cutRs_full {k m : Nat} {xs : List RuleS} (h : xs.length ≤ k) (h2 : xs.length ≤ m) : cutRs k xs = cutRs m xs := by
 unfold cutRs; rw [List.take_of_length_le h, List.take_of_length_le h2]

set_option maxHeartbeats 8000000 in
set_option maxRecDepth 100000 in
theorem lawRules_any (v : Value) (xs : List RuleS) (w : World) (h : RulesI w v xs) (hs : ∀ x ∈ xs, SmallR x 1048576) :
  Calls Tryz.prog 6 #[v] w (SortedRulesPost w (cutRs 42 xs)) := by
 obtain ⟨sa, sc, hv, hs1, hs2⟩ := rulesI_len h
 subst hv
 have HCS : Hid (∀ (k : Nat) x, xs[k]? = some x → _) := Lib.hid (fun k x hx => rulesI_at h (k := k) (x := x) hx)
 have HSM := Lib.hid hs
 unfold maxLen at hs2
 have HO1 : Hid (OwnRules w.heap.size w (.slice none 0 0) []) := ownRules_none _ _
 clear h hs
 go_enter Tryz.func6, Tryz.ntmps6
 go_wp2
 go_loopw [3, 4] (fun vv i wr => ∃ k : Nat, k ≤ xs.length ∧ k ≤ 42 ∧ i = .int .i64 k ∧ OwnRules w.heap.size wr vv (cutRs k xs) ∧ Below w.heap.size w wr)
  (fun _ i _ => xs.length - (intOf i).toNat)
 case atStart => exact ⟨0, Nat.zero_le _, Nat.zero_le _, rfl, HO1.out, Below.refl _ _⟩
 case round =>
  obtain ⟨k, hk, hk42, rfl, hown, hnx⟩ := hrel
  have hsz := hnx.size
  have HO := Lib.hid hown
  have HNX := Lib.hid hnx
  clear hown hnx
  by_cases hlt : k < xs.length
  ·by_cases h42 : k < 42
   ·obtain ⟨x, hx⟩ : ∃ x, xs[k]? = some x := ⟨xs[k], List.getElem?_eq_getElem hlt⟩
    obtain ⟨g, o, cap, a1, c1, a2, c2, a3, c3, a4, c4, hv, hg, hR, hc⟩ := HCS.out k x hx
    have hi1 : (k : Int) < (xs.length : Int) := by omega
    have hi2 : (k : Int) < 42 := by omega
    have hi0 : (0 : Int) ≤ (k : Int) := by omega
    have hfx := HSM.out x (List.mem_of_getElem? hx)
    have htk := cutRs_next hx
    obtain ⟨d0, d1, d2, d3, d4⟩ := hc _ HNX.out
    have HTK := Lib.hid htk
    cases hv
    have cA := lawRule_any x _ _ _ _ wr (hR.below HNX.out) hfx
    have CA := Lib.hid cA
    clear hc hx htk hR hfx cA
    go_wp2_with fail
    refine CA.out.mono ?_
    rintro e w2 ⟨hpost, hb2⟩
    obtain ⟨b1, m1, e1, b2, m2, e2, b3, m3, e3, b4, m4, e4, rfl, hra⟩ := ruleE_shape hpost
    have hO2 := HO.out.below hb2
    have hlow := fun b hb => (HO.out.lt b hb).2
    have hra2 := RuleA.mono (Av' := AvOf w.heap.size _) hra fun b _ e => by
     rcases e with e | e
     ·show b < wr.heap.size; omega
     ·exact hlow b e
    have HO2 := Lib.hid hO2
    have HR2 := Lib.hid hra2
    have HN2 := Lib.hid (HNX.out.trans (hb2.mono hsz))
    have HTL : Hid ((cutRs k xs).length ≤ 1000000000) := by show _ ≤ _; rw [cutRs_len]; omega
    have HS2 := Lib.hid (Nat.le_trans hsz hb2.size)
    clear hra hb2 hO2 hlow hra2 d0 d1 d2 d3 d4 hpost
    go_wp2_with (at_builtin; refine wpList_append_rule (by rfl) _ _ (by rfl) w.heap.size _ (cutRs k xs) (cutR x) b1 b2 b3 b4 m1 e1 m2 e2 m3 e3 m4 e4 (by rfl) HO2.out HS2.out HTL.out HR2.out _ (by rfl) (by simp) ?_)
    intro v' w6 hown6 hb6 _ _
    have HO6 : Hid (OwnRules w.heap.size w6 v' (cutRs (k + 1) xs)) := by show OwnRules _ _ _ _; rw [HTK.out]; exact hown6
    have HN6 := Lib.hid (HN2.out.trans hb6)
    clear hown6 hb6
    go_wp2
    go_roundw
    case rel => exact ⟨k + 1, by omega, by omega, by go_num, HO6.out, HN6.out⟩
    case measure => simp [intOf]; omega
   ·obtain rfl : k = 42 := by omega
    have hi1 : (42 : Int) < (xs.length : Int) := by omega
    have hi2 : ((42 : Nat) : Int) < (xs.length : Int) := by omega
    obtain ⟨a, c, q⟩ := HO.out.len
    subst q
    go_wp2
    go_ret
    exact ⟨_, _, _, rfl, HO.out, HNX.out⟩
  ·have hfull : cutRs k xs = cutRs 42 xs := cutRs_full (by omega) (by omega)
   have hi1 : ¬ (k : Int) < (xs.length : Int) := by omega
   have hO3 := HO.out
   rw [hfull] at hO3
   obtain ⟨a, c, q⟩ := hO3.len
   subst q
   have HO3 := Lib.hid hO3
   clear hfull hO3
   go_wp2
   go_ret
   exact ⟨_, _, _, rfl, HO3.out, HNX.out⟩
end Go.Proofs.YtlmnabhhgplhnaaGreatDoor
