import Derived.Test.YtdkainiiinjgmaaGreatDoorMap
import Derived.Test.YtdkainiiinjgmaaGreatDoorMas
import Derived.Lib.SmallJoins
namespace Go.Proofs.YtdkainiiinjgmaaGreatDoor
open Go.RowKit Go.Shelf
def nmL (x : Lb) : ByteArray := if x.1 then ByteArray.mk #[58] ++ x.2 else x.2
set_option maxHeartbeats 4000000 in
set_option maxRecDepth 100000 in
theorem name_any (x : Lb) (w : World) (h : x.2.size ≤ 1048576) :
  Calls Tryz.prog 27 #[lv x] w fun e w' => e = .returned (.string (nmL x)) ∧ w' = w.alloc (.cells (lc x).toArray 38) := by
 obtain ⟨a, s⟩ := x
 simp only at h
 unfold lv lc nmL
 cases a
 ·simp only [Bool.false_eq_true, if_false]
  go_enter Tryz.func27, Tryz.ntmps27
  go_wp2
  go_ret
  exact ⟨rfl, rfl⟩
 ·simp only [if_true]
  go_enter Tryz.func27, Tryz.ntmps27
  go_wp2
  go_ret
  exact ⟨rfl, rfl⟩
end Go.Proofs.YtdkainiiinjgmaaGreatDoor
namespace Go.Proofs.YtdkainiiinjgmaaGreatDoor
open Go.RowKit Go.Shelf
def BoxL (w : World) (g : Nat) (x : Lb) : Prop := w.heap[g]? = some (.cells #[.bool x.1, .string x.2] 38)
theorem BoxL.lt {w : World} {g : Nat} {x : Lb} (h : BoxL w g x) : g < w.heap.size := (Array.getElem?_eq_some_iff.1 h).1
theorem BoxL.below {w w' : World} {g B : Nat} {x : Lb} (h : BoxL w g x) (hb : Below B w w') (hB : w.heap.size ≤ B) : BoxL w' g x := (hb.block g (Nat.lt_of_lt_of_le h.lt hB)).trans h
theorem BoxL.cells {w : World} {g : Nat} {x : Lb} (h : BoxL w g x) : w.cell? { block := g, off := 0 } = some (.bool x.1) ∧ w.cell? { block := g, off := 1 } = some (.string x.2) := by
 unfold BoxL at h
 simp [World.cell?, h]
def SetN (w : World) (p : Nat) (ls : List Lb) : Prop := w.cell? { block := p, off := 0 } = some (.map (some (p + 1))) ∧ LM w (p + 1) ls
theorem SetN.set {w : World} {p : Nat} {ls : List Lb} (h : SetN w p ls) : SetM w p ls := ⟨p + 1, h.1, by omega, h.2⟩
theorem SetN.lt {w : World} {p : Nat} {ls : List Lb} (h : SetN w p ls) : p + 1 < w.heap.size := h.2.1.lt
theorem SetN.below {w w' : World} {p B : Nat} {ls : List Lb} (h : SetN w p ls) (hb : Below B w w') (hB : w.heap.size ≤ B) : SetN w' p ls := by
 have := h.lt
 exact ⟨cell_below h.1 hb (by omega), h.2.below hb (by omega)⟩
section
variable {w w' : World} {m : Nat}
theorem KeepBut.grown {q : Nat} (h : KeepBut q m w w') (hq : w.heap.size ≤ q) : w.grownBy w' (some m) := ⟨h.os, h.tape, h.output, h.size, fun k hk hne => h.block k hk (by omega) (fun e => hne (by rw [e]))⟩
theorem BoxL.grown {g : Nat} {x : Lb} (h : BoxL w g x) (hg : w.grownBy w' (some m)) (hne : g ≠ m) : BoxL w' g x := (hg.block g h.lt (by simpa using hne)).trans h
theorem SetN.grown {p : Nat} {ls : List Lb} (h : SetN w p ls) (hg : w.grownBy w' (some m)) (h1 : p ≠ m) (h2 : p + 1 ≠ m) : SetN w' p ls := by
 have hl := h.lt
 refine ⟨?_, h.2.1.heap (hg.block _ hl (by simpa using h2)), h.2.2⟩
 rw [World.cell?_of_block (hg.block p (by omega) (by simpa using h1))]
 exact h.1
theorem RowL.grown {a : Option Addr} {xs : List Lb} (h : RowL w a xs) (hg : w.grownBy w' (some m)) (ha : ∀ b, a = some b → b.block ≠ m) : RowL w' a xs := fun i x hx => by
 obtain ⟨b, o, h1, h2, h3⟩ := h i x hx
 have hlt := World.block_lt_of_cell? _ _ h2
 have hb := hg.block b hlt (by simpa using ha _ h1)
 exact ⟨b, o, h1, by rw [World.cell?_of_block hb]; exact h2, by rw [World.cell?_of_block hb]; exact h3⟩
theorem ownL_grown {B : Nat} {v : Value} {xs : List Lb} (h : OwnL B w v xs) (hg : w.grownBy w' (some m)) (hB : m < B) : OwnL B w' v xs := World.ownsRow.kept h hg (by
 cases e : v.ownBlock with
 | none => exact .inl rfl
 | some b =>
  have := (World.ownsRow.lt h b e).1
  right
  intro e2
  cases e2
  omega)
end
theorem run_append_L {w : World} {ty : TypeId} {B : Nat} {v v2 : Value} {xs ys : List Lb} (hown : OwnL B w v xs) (hI : IsRow w v2 2 (lrows ys)) (b1 : xs.length + ys.length ≤ 1000000000) (hB : B ≤ w.heap.size) :
  ∃ v' w', (Builtin.append_ #[22, 22] ty #[v, v2]).run Tryz.prog w = .ok v' w' ∧ OwnL B w' v' (xs ++ ys) ∧ w.grownBy w' v.ownBlock ∧ (∀ b, v'.ownBlock = some b → v.ownBlock = some b ∨ w.heap.size ≤ b) := by
 obtain ⟨i0, hi, hz0, hz1, hz2⟩ := info_parts infoLb
 have hown' : w.ownsRow B 38 2 v (lrows xs).length (lrows xs).flatten := by rw [lrows_len]; exact hown
 have hb2 : ((lrows xs).length + (lrows ys).length) * 24 ≤ 140737488355328 := by rw [lrows_len, lrows_len]; exact Nat.le_trans (Nat.mul_le_mul_right _ b1) (by decide)
 obtain ⟨v', w', hr, h1, h2, h3⟩ := run_append_rows (P := Tryz.prog) 22 ty 38 i0 (.agg #[.bool false, .string ⟨#[]⟩]) 2 24 Tryz.underlying22 hi hz0 hz1 hz2 rfl (by decide) hown' hI (lrows_two ys) (lrows_one ys) (by rw [lrows_len, lrows_len]; unfold maxLen; omega) hb2 hB
 rw [lrows_app, lrows_len] at h1
 exact ⟨v', w', hr, h1, h2, h3⟩
theorem wpList_append_knownL {P : Program} {w : World} {ops : Array Oper} {rest : List Oper} {o : Oper} {a : Act} {Q : Exit → Act → World → Prop} (hg : Region.wanted o (yielded ops a.tmps) = true) (s x : Operand) (t : TypeId)
  (ho : o.op = .call { callee := .builtin .append, args := #[s, x], argTypes := #[t, t] }) {v0 vx v' : Value} {w' : World} (hs : a.eval s = v0) (hx : a.eval x = vx)
  (hr : (Builtin.append_ #[t, t] o.type #[v0, vx]).run P w = .ok v' w') (h : wpList P ops Q rest (a.put o.dst v') w') : wpList P ops Q (o :: rest) a w := by
 refine wpList_step fun K hK => ?_
 rw [if_pos hg]
 unfold Oper.wp execOp
 simp only [ho, resolve, invoke, builtin, Sem.run_bind, Sem.run_pure, Result.andThen_ok, List.map_toArray, List.map_cons, List.map_nil, hs, hx, hr]
 exact hK _ _ h
def inF (q l : List Lb) : List Lb := l.filter fun x => decide (0 ≤ findL q x)
def outF (q l : List Lb) : List Lb := l.filter fun x => !decide (0 ≤ findL q x)
theorem inF_next {q l : List Lb} {k : Nat} {x : Lb} (h : l[k]? = some x) : inF q (l.take (k + 1)) = inF q (l.take k) ++ (if 0 ≤ findL q x then [x] else []) := by
 unfold inF
 rw [List.take_add_one, h, List.filter_append]
 congr 1
 by_cases e : 0 ≤ findL q x <;> simp [e]
theorem outF_next {q l : List Lb} {k : Nat} {x : Lb} (h : l[k]? = some x) : outF q (l.take (k + 1)) = outF q (l.take k) ++ (if 0 ≤ findL q x then [] else [x]) := by
 unfold outF
 rw [List.take_add_one, h, List.filter_append]
 congr 1
 by_cases e : 0 ≤ findL q x <;> simp [e]
theorem la_union (a b : List Lb) : slb (uniS (addLs [] a) (addLs [] b)) = setL (a ++ b) := rising_ext (rising_slb (nodup_uniS _ _)) (rising_setL _) fun x => by
 rw [slb_mem, mem_uniS, mem_addLs, mem_addLs, mem_setL, List.mem_append]; simp
theorem la_meet (a b : List Lb) : slb (meetS (addLs [] a) (addLs [] b)) = inF (setL b) (setL a) := rising_ext (rising_slb (nodup_meetS _ _)) ((rising_setL a).filter _) fun x => by
 rw [slb_mem, mem_meetS, mem_addLs, mem_addLs]
 unfold inF
 rw [List.mem_filter, mem_setL, decide_eq_true_iff, findL_iff, mem_setL]; simp
theorem la_but (a b : List Lb) : slb (butS (addLs [] a) (addLs [] b)) = outF (setL b) (setL a) := rising_ext (rising_slb (nodup_butS _ _)) ((rising_setL a).filter _) fun x => by
 rw [slb_mem, mem_butS, mem_addLs, mem_addLs]
 unfold outF
 rw [List.mem_filter, mem_setL, Bool.not_eq_true', decide_eq_false_iff_not, findL_iff, mem_setL]; simp
theorem la_add (a : List Lb) (x y : Lb) : slb (addLs (addLs [] a) [x, y, x]) = insL y (insL x (setL a)) := rising_ext (rising_slb (nodup_addLs (nodup_addLs List.nodup_nil))) (rising_insL (rising_insL (rising_setL a))) fun z => by
 rw [slb_mem, mem_addLs, mem_addLs, mem_insL, mem_insL, mem_setL]
 simp only [List.not_mem_nil, false_or, List.mem_cons, or_false]
 constructor
 ·rintro (h | h | h | h)
  ·exact .inr (.inr h)
  ·exact .inr (.inl h)
  ·exact .inl h
  ·exact .inr (.inl h)
 ·rintro (h | h | h)
  ·exact .inr (.inr (.inl h))
  ·exact .inr (.inl h)
  ·exact .inl h
theorem la_len {a b : List Lb} (h : slb a = b) : a.length = b.length := by rw [← h, (slb_perm a).length_eq]
theorem la_eq {s t a b : List Lb} (hs : s.Nodup) (ht : t.Nodup) (h1 : slb s = a) (h2 : slb t = b) : eqLs s t = decide (a = b) := by
 by_cases e : a = b
 ·rw [decide_eq_true e]
  refine eqLs_ext hs ht fun x => ?_
  rw [← slb_mem (l := s), ← slb_mem (l := t), h1, h2, e]
 ·rw [decide_eq_false e]
  cases h : eqLs s t with
  | false => rfl
  | true =>
   exfalso
   apply e
   unfold eqLs at h
   simp only [Bool.and_eq_true, decide_eq_true_eq] at h
   obtain ⟨l1, l2⟩ := h
   have hsub : ∀ x, x ∈ s → x ∈ t := by
    intro x hx
    refine Classical.byContradiction fun hn => ?_
    have hm : x ∈ butS s t := mem_butS.2 ⟨hx, hn⟩
    have : butS s t = [] := List.length_eq_zero_iff.1 l2
    rw [this] at hm
    cases hm
   have f1 : (t.filter fun x => hasL x s).length = s.length := len_ext (ht.filter _) hs fun x => by
    rw [List.mem_filter, hasL_iff]
    exact ⟨fun h => h.2, fun h => ⟨hsub x h, h⟩⟩
   have f2 := filter_two (fun x => hasL x s) t
   have f3 : (t.filter fun x => !hasL x s) = [] := List.length_eq_zero_iff.1 (by omega)
   rw [← h1, ← h2]
   refine rising_ext (rising_slb hs) (rising_slb ht) fun x => ?_
   rw [slb_mem, slb_mem]
   refine ⟨hsub x, fun hx => Classical.byContradiction fun hn => ?_⟩
   have hm : x ∈ t.filter fun x => !hasL x s := List.mem_filter.2 ⟨hx, by rw [hasL_not hn]; rfl⟩
   rw [f3] at hm
   cases hm
theorem la_has {x : Lb} {t : List Lb} {b : List Lb} (h : slb t = b) : hasL x t = decide (0 ≤ findL b x) := by
 rw [Bool.eq_iff_iff, hasL_iff, decide_eq_true_iff, findL_iff, ← h, slb_mem]
theorem rbName (x : Lb) (w : World) (h : x.2.size ≤ 1048576) :
  Calls Tryz.prog 28 #[lv x] w fun e w' => e = .returned (.string (nmL x)) ∧ w' = w.alloc (.cells (lc x).toArray 38) := by
 obtain ⟨a, s⟩ := x
 simp only at h
 unfold lv lc nmL
 cases a
 ·simp only [Bool.false_eq_true, if_false]
  go_enter Tryz.func28, Tryz.ntmps28
  go_wp2
  go_ret
  exact ⟨rfl, rfl⟩
 ·simp only [if_true]
  go_enter Tryz.func28, Tryz.ntmps28
  go_wp2
  go_ret
  exact ⟨rfl, rfl⟩
end Go.Proofs.YtdkainiiinjgmaaGreatDoor
namespace Go.Proofs.YtdkainiiinjgmaaGreatDoor
open Go.ChangeShapes Go.WideShapes Go.ChangeAt Go.RowKit Go.Deep Go.Lib
set_option maxRecDepth 100000 in
theorem open_lab {H : Type} {enc : TypeId × Value → H} {W : World} {base : Nat} {r : Reach} {b0 : Nat} {sp : Nat → Bool} {held : Bool} {v : Value} {d : DataW H} {ps : List MemPlace}
  (hval : Value.okWide Tryz.prog W r b0 38 v) (h : DataW.Trod enc Tryz.prog W base sp held 38 v d ps) :
  ∃ x : Bool × ByteArray, v = .agg #[.bool x.1, .string x.2] ∧ x.2.size ≤ Rows.uptoBulk d := by
 obtain ⟨v0, v1, y0, y1, n, rfl, hd, _, g0, g1⟩ := Go.Joins.open_agg2 Tryz.underlying38 (by kernel_rfl) (by kernel_rfl) hval h
 obtain ⟨s0, f0, _⟩ := DataW.trod_bool Tryz.underlying4 g0
 obtain ⟨s1, f1, d1, _⟩ := DataW.trod_string Tryz.underlying9 g1
 simp at f0 f1
 subst f0 f1
 refine ⟨(s0, s1), rfl, ?_⟩
 have h2 := bulk_part (show y1.1 ∈ [y0.1, y1.1] by simp)
 rw [hd, Rows.uptoBulk]
 show s1.size ≤ _
 rw [Lib.size_eq]
 rw [d1] at h2 ⊢
 simp only [Rows.uptoBulk] at h2
 exact Nat.le_trans (Nat.le_of_succ_le h2) (Nat.le_succ _)
end Go.Proofs.YtdkainiiinjgmaaGreatDoor
