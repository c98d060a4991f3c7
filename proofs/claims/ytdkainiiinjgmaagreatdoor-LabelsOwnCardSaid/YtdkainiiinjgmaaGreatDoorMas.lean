import Derived.Deep.RegionHeld3
import Derived.Test.YtdkainiiinjgmaaGreatDoorMao
import Derived.Deep.CutBlock
import Derived.Deep.DeepCutAuto
namespace Go.Proofs.YtdkainiiinjgmaaGreatDoor
open Go.RowKit Go.Shelf
def lrows (xs : List Lb) : List (List Value) := xs.map lc
theorem lrows_len (xs : List Lb) : (lrows xs).length = xs.length := List.length_map _
theorem lrows_two (xs : List Lb) : ∀ r ∈ lrows xs, r.length = 2 := by
 intro r hr
 obtain ⟨x, _, rfl⟩ := List.mem_map.1 hr
 rfl
theorem lrows_one (xs : List Lb) : ∀ r ∈ lrows xs, ∀ u ∈ r, u.oneCell' = true := by
 intro r hr u hu
 obtain ⟨x, _, rfl⟩ := List.mem_map.1 hr
 exact lc_one x u hu
theorem lrows_app (xs ys : List Lb) : lrows xs ++ lrows ys = lrows (xs ++ ys) := (List.map_append ..).symm
theorem lrows_take (xs : List Lb) (k : Nat) : (lrows xs).take k = lrows (xs.take k) := (List.map_take ..).symm
theorem lrows_drop (xs : List Lb) (k : Nat) : (lrows xs).drop k = lrows (xs.drop k) := (List.map_drop ..).symm
theorem RowL.isRow {w : World} {a : Option Addr} {xs : List Lb} {c : Nat} (h : RowL w a xs) (hc : xs.length ≤ c) (hm : c ≤ maxLen) : IsRow w (.slice a xs.length c) 2 (lrows xs) := by
 refine ⟨a, c, by rw [lrows_len], by rw [lrows_len]; exact hc, hm, fun hne => ?_⟩
 obtain ⟨x0, h0⟩ : ∃ x, xs[0]? = some x := by
  cases xs with
  | nil => exact absurd rfl hne
  | cons x xs => exact ⟨x, rfl⟩
 obtain ⟨b, o, ha, h1, _⟩ := h 0 x0 h0
 refine ⟨b, o, ha, World.block_lt_of_cell? _ _ h1, fun j r hr i u hu => ?_⟩
 unfold lrows at hr
 rw [List.getElem?_map] at hr
 obtain ⟨x, hx, rfl⟩ := Option.map_eq_some_iff.1 hr
 obtain ⟨b', o', ha', h3, h4⟩ := h j x hx
 rw [ha] at ha'
 cases ha'
 match i, hu with
 | 0, hu => cases hu; exact h3
 | 1, hu => cases hu; exact h4
theorem binEq (x y : Lb) (w : World) : (binOp .eql 38 (.agg #[.bool x.1, .string x.2]) (.agg #[.bool y.1, .string y.2])).run Tryz.prog w = .ok (.bool (decide (x = y))) w := by
 have := eqLab x y w
 unfold lv at this
 simp [binOp, this]
theorem binNe (x y : Lb) (w : World) : (binOp .neq 38 (.agg #[.bool x.1, .string x.2]) (.agg #[.bool y.1, .string y.2])).run Tryz.prog w = .ok (.bool (!decide (x = y))) w := by
 have := eqLab x y w
 unfold lv at this
 simp [binOp, this]
set_option maxHeartbeats 4000000
set_option maxRecDepth 100000
theorem rbLess (x y : Lb) (w : World) :
  Calls Tryz.prog 26 #[lv x, lv y] w fun e w' => e = .returned (.bool (ltL x y)) ∧ w' = (w.alloc (.cells (lc x).toArray 38)).alloc (.cells (lc y).toArray 38) := by
 obtain ⟨a, s⟩ := x
 obtain ⟨b, t⟩ := y
 unfold lv lc ltL
 have hb : ∀ s t : ByteArray, Op.bytesLess s.toList t.toList = decide (s.data.toList < t.data.toList) := fun s t => by rw [ByteArray.toList_eq, ByteArray.toList_eq, bytesLess_eq]
 cases a <;> cases b <;> simp only [Bool.false_eq_true, Bool.true_eq_false, if_true, if_false, ← hb]
 all_goals
  clear hb
  go_enter Tryz.func26, Tryz.ntmps26
  go_wp2
  go_ret
  exact ⟨rfl, rfl⟩
theorem rbEq (xs ys : List Lb) (a b : Option Addr) (c d : Nat) (w : World) (ha : RowL w a xs) (hb : RowL w b ys) (hn : xs.length ≤ 1000000) :
  Calls Tryz.prog 20 #[.slice a xs.length c, .slice b ys.length d] w fun e w' => e = .returned (.bool (decide (xs = ys))) ∧ Below w.heap.size w w' := by
 have HA : Hid (∀ W, Below w.heap.size w W → RowL W a xs) := Lib.hid fun W hW => ha.below hW (Nat.le_refl _)
 have HB : Hid (∀ W, Below w.heap.size w W → RowL W b ys) := Lib.hid fun W hW => hb.below hW (Nat.le_refl _)
 clear ha hb
 by_cases hl : xs.length = ys.length
 ·have hl' : (xs.length : Int) = (ys.length : Int) := by omega
  have HLL := Lib.hid hl
  clear hl
  go_enter Tryz.func20, Tryz.ntmps20
  go_wp2
  go_loopw [5] (fun iv wr => ∃ k : Nat, k ≤ xs.length ∧ iv = .int .i64 (k : Int) ∧ xs.take k = ys.take k ∧ Below w.heap.size w wr) (fun iv _ => xs.length - (intOf iv).toNat)
  case atStart => exact ⟨0, Nat.zero_le _, rfl, by simp, Below.refl _ _⟩
  case round =>
   obtain ⟨k, hk, rfl, he, hbw⟩ := hrel
   have HE := Lib.hid he
   have HBW := Lib.hid hbw
   clear he hbw
   by_cases hlt : k < xs.length
   ·obtain ⟨x, hx⟩ : ∃ x, xs[k]? = some x := ⟨xs[k], List.getElem?_eq_getElem hlt⟩
    obtain ⟨y, hy⟩ : ∃ y, ys[k]? = some y := ⟨ys[k]'(by have := HLL.out; omega), List.getElem?_eq_getElem _⟩
    have hlt2 : k < ys.length := by have := HLL.out; omega
    have hi : (k : Int) < (xs.length : Int) := by omega
    have hi2 : (k : Int) < (ys.length : Int) := by omega
    have hk0 : (0 : Int) ≤ (k : Int) := by omega
    have h1 := HA.out wr HBW.out k x hx
    have h2 := HB.out wr HBW.out k y hy
    obtain ⟨p, o, hp, _, _⟩ := h1
    obtain ⟨q, u, hq, _, _⟩ := h2
    subst hp
    subst hq
    have HX := Lib.hid hx
    have HY := Lib.hid hy
    have hne := fun w => binNe x y w
    obtain ⟨t, ht⟩ : ∃ t, (!decide (x = y)) = t := ⟨_, rfl⟩
    rw [ht] at hne
    have HT := Lib.hid ht
    clear hx hy ht hl'
    go_wp2_with fail
    refine wp_region_held_drew (S := fun V => V.cell? { block := p, off := o + k * 2 } = some (.bool x.1) ∧ V.cell? { block := p, off := o + k * 2 + 1 } = some (.string x.2) ∧ V.cell? { block := q, off := u + k * 2 } = some (.bool y.1) ∧ V.cell? { block := q, off := u + k * 2 + 1 } = some (.string y.2)) (by kernel_rfl) ?_ (fun hHeld => ?_)
    ·obtain ⟨p1, o1, e1, c0, c1⟩ := HA.out _ HBW.out.drew k x HX.out; obtain ⟨p2, o2, e2, c2, c3⟩ := HB.out _ HBW.out.drew k y HY.out; cases e1; cases e2; exact ⟨c0, c1, c2, c3⟩
    refine tkK 0 ?_
    refine tkK 1 ?_
    refine tkK 2 ?_
    try simp only [Act.put, List.setIfInBounds_toArray, List.set_cons_zero, List.set_cons_succ]
    refine tkH 3 (v := ?_) ?_ ?_
    rotate_left
    ·intro w hSw; obtain ⟨c0, c1, c2, c3⟩ := hSw; go_simp; try with_reducible rfl
    try simp only [Act.put, List.setIfInBounds_toArray, List.set_cons_zero, List.set_cons_succ]
    refine tkK 4 ?_
    refine tkK 5 ?_
    refine tkK 6 ?_
    try simp only [Act.put, List.setIfInBounds_toArray, List.set_cons_zero, List.set_cons_succ]
    refine tkH 7 (v := ?_) ?_ ?_
    rotate_left
    ·intro w hSw; obtain ⟨c0, c1, c2, c3⟩ := hSw; go_simp; try with_reducible rfl
    try simp only [Act.put, List.setIfInBounds_toArray, List.set_cons_zero, List.set_cons_succ]
    refine tkK 8 ?_
    try simp only [Act.put, List.setIfInBounds_toArray, List.set_cons_zero, List.set_cons_succ]
    refine wpAnyH_done (by kernel_rfl) ?_ _
    cases t
    ·have HK : Hid (xs.take (k + 1) = ys.take (k + 1)) := by
      show _ = _
      have hxy : x = y := by have := HT.out; simpa using this
      rw [List.take_add_one, List.take_add_one, HE.out, HX.out, HY.out, hxy]
     go_wp2
     go_roundw
     case rel => exact ⟨k + 1, by omega, by go_num, HK.out, HBW.out.drew⟩
     case measure => simp only [intOf]; omega
    ·have HK : Hid (xs ≠ ys) := by
      show _ ≠ _
      rintro rfl
      have h := HX.out.symm.trans HY.out
      cases h
      have := HT.out
      simp at this
     go_wp2
     go_ret
     rw [decide_eq_false HK.out]
     exact ⟨rfl, HBW.out.drew⟩
   ·obtain rfl : k = xs.length := by omega
    have HK : Hid (xs = ys) := by
     show _ = _
     have := HE.out
     rwa [List.take_length, HLL.out, List.take_length] at this
    go_wp2
    go_ret
    rw [decide_eq_true HK.out]
    exact ⟨rfl, HBW.out⟩
 ·have hl' : ¬ (xs.length : Int) = (ys.length : Int) := by omega
  have HK : Hid (xs ≠ ys) := Lib.hid fun e => hl (by rw [e])
  clear hl
  go_enter Tryz.func20, Tryz.ntmps20
  go_wp2
  go_ret
  rw [decide_eq_false HK.out]
  exact ⟨rfl, Below.refl _ _⟩
def findL (l : List Lb) (x : Lb) : Int := match l.findIdx? fun y => decide (y = x) with
 | some i => (i : Int)
 | none => -1
theorem findL_at {l : List Lb} {x : Lb} {k : Nat} (h : ∀ j, j < k → l[j]? ≠ some x) (hk : l[k]? = some x) : findL l x = (k : Int) := by
 have e : (l.findIdx? fun y => decide (y = x)) = some k := by
  obtain ⟨hlt, hx⟩ := List.getElem?_eq_some_iff.1 hk
  rw [List.findIdx?_eq_some_iff_getElem]
  refine ⟨hlt, by simp [hx], fun j hj => ?_⟩
  have := h j hj
  rw [List.getElem?_eq_getElem (by omega)] at this
  simp only [decide_eq_true_eq]
  exact fun e => this (by rw [e])
 unfold findL
 rw [e]
theorem findL_no {l : List Lb} {x : Lb} (h : ∀ j, j < l.length → l[j]? ≠ some x) : findL l x = -1 := by
 have e : (l.findIdx? fun y => decide (y = x)) = none := by
  rw [List.findIdx?_eq_none_iff]
  intro y hy
  obtain ⟨j, hj, rfl⟩ := List.getElem_of_mem hy
  have := h j hj
  rw [List.getElem?_eq_getElem hj] at this
  simp only [decide_eq_false_iff_not]
  exact fun e => this (by rw [e])
 unfold findL
 rw [e]
theorem findL_iff {l : List Lb} {x : Lb} : (0 ≤ findL l x) ↔ x ∈ l := by
 unfold findL
 cases e : (l.findIdx? fun y => decide (y = x)) with
 | none =>
  rw [List.findIdx?_eq_none_iff] at e
  simp only
  refine ⟨fun h => absurd h (by omega), fun h => ?_⟩
  have := e x h
  simp at this
 | some i =>
  rw [List.findIdx?_eq_some_iff_getElem] at e
  obtain ⟨h1, h2, _⟩ := e
  simp only [decide_eq_true_eq] at h2
  simp only
  exact ⟨fun _ => by rw [← h2]; exact List.getElem_mem h1, fun _ => by omega⟩
theorem rbFind (xs : List Lb) (x : Lb) (a : Option Addr) (c : Nat) (w : World) (ha : RowL w a xs) (hn : xs.length ≤ 1000000) :
  Calls Tryz.prog 23 #[.slice a xs.length c, lv x] w fun e w' => e = .returned (.int .i64 (findL xs x)) ∧ Below w.heap.size w w' := by
 have HA : Hid (∀ W, Below w.heap.size w W → RowL W a xs) := Lib.hid fun W hW => ha.below hW (Nat.le_refl _)
 clear ha
 unfold lv
 go_enter Tryz.func23, Tryz.ntmps23
 go_wp2
 obtain ⟨W0, hW0⟩ : ∃ V, V = w.alloc (.cells #[.bool x.1, .string x.2] 38) := ⟨_, rfl⟩
 have hb0 : Below w.heap.size w W0 := by rw [hW0]; exact (Below.refl _ _).alloc (Nat.le_refl _) _
 have hc0 : W0.heap[w.heap.size]? = some (.cells #[.bool x.1, .string x.2] 38) := by rw [hW0]; exact heap_alloc_new w _
 have HW0 : Hid (W0.heap.size = w.heap.size + 1) := by show _ = _; rw [hW0]; simp
 rw [← hW0]
 have HB0 := Lib.hid hb0
 have HBX : Hid (∀ W, Below W0.heap.size W0 W → W.cell? { block := w.heap.size, off := 0 } = some (.bool x.1) ∧ W.cell? { block := w.heap.size, off := 1 } = some (.string x.2)) := by
  show ∀ W, _
  intro W hW
  have h := (hW.block w.heap.size (by rw [HW0.out]; omega)).trans hc0
  simp [World.cell?, h]
 clear hW0 hb0 hc0
 go_loopw [5] (fun iv wr => ∃ k : Nat, k ≤ xs.length ∧ iv = .int .i64 (k : Int) ∧ (∀ j, j < k → xs[j]? ≠ some x) ∧ Below W0.heap.size W0 wr) (fun iv _ => xs.length - (intOf iv).toNat)
 case atStart => exact ⟨0, Nat.zero_le _, rfl, by intro j hj; omega, Below.refl _ _⟩
 case round =>
  obtain ⟨k, hk, rfl, he, hbw⟩ := hrel
  have HE := Lib.hid he
  have HBW := Lib.hid hbw
  have HBF := Lib.hid (HB0.out.trans (hbw.mono HB0.out.size))
  clear he hbw
  by_cases hlt : k < xs.length
  ·obtain ⟨y, hy⟩ : ∃ y, xs[k]? = some y := ⟨xs[k], List.getElem?_eq_getElem hlt⟩
   have hi : (k : Int) < (xs.length : Int) := by omega
   have hk0 : (0 : Int) ≤ (k : Int) := by omega
   have h1 := HA.out wr HBF.out k y hy
   obtain ⟨p, o, hp, _, _⟩ := h1
   subst hp
   have HY := Lib.hid hy
   have hne := fun w => binEq y x w
   obtain ⟨t, ht⟩ : ∃ t, decide (y = x) = t := ⟨_, rfl⟩
   rw [ht] at hne
   have HT := Lib.hid ht
   clear hy ht
   go_wp2_with fail
   refine wp_region_held_drew (S := fun V => V.cell? { block := p, off := o + k * 2 } = some (.bool y.1) ∧ V.cell? { block := p, off := o + k * 2 + 1 } = some (.string y.2) ∧ V.cell? { block := w.heap.size, off := 0 } = some (.bool x.1) ∧ V.cell? { block := w.heap.size, off := 1 } = some (.string x.2)) (by kernel_rfl) ?_ (fun hHeld => ?_)
   ·obtain ⟨p1, o1, e1, c0, c1⟩ := HA.out _ HBF.out.drew k y HY.out; obtain ⟨c2, c3⟩ := HBX.out _ HBW.out.drew; cases e1; exact ⟨c0, c1, c2, c3⟩
   refine tkK 0 ?_
   refine tkK 1 ?_
   refine tkK 2 ?_
   try simp only [Act.put, List.setIfInBounds_toArray, List.set_cons_zero, List.set_cons_succ]
   refine tkH 3 (v := ?_) ?_ ?_
   rotate_left
   ·intro w hSw; obtain ⟨c0, c1, c2, c3⟩ := hSw; go_simp; try with_reducible rfl
   try simp only [Act.put, List.setIfInBounds_toArray, List.set_cons_zero, List.set_cons_succ]
   refine tkH 4 (v := ?_) ?_ ?_
   rotate_left
   ·intro w hSw; obtain ⟨c0, c1, c2, c3⟩ := hSw; go_simp; try with_reducible rfl
   try simp only [Act.put, List.setIfInBounds_toArray, List.set_cons_zero, List.set_cons_succ]
   refine tkK 5 ?_
   try simp only [Act.put, List.setIfInBounds_toArray, List.set_cons_zero, List.set_cons_succ]
   refine wpAnyH_done (by kernel_rfl) ?_ _
   cases t
   ·have HK : Hid (∀ j, j < k + 1 → xs[j]? ≠ some x) := by
     show ∀ j, _
     intro j hj
     rcases Nat.lt_or_ge j k with h | h
     ·exact HE.out j h
     ·obtain rfl : j = k := by omega
      rw [HY.out]
      intro e
      cases e
      have := HT.out
      simp at this
    go_wp2
    go_roundw
    case rel => exact ⟨k + 1, by omega, by go_num, HK.out, HBW.out.drew⟩
    case measure => simp only [intOf]; omega
   ·have HK : Hid (findL xs x = (k : Int)) := by
     show _ = _
     have e : y = x := by have := HT.out; simpa using this
     exact findL_at HE.out (by rw [HY.out, e])
    go_wp2
    go_ret
    rw [HK.out]
    exact ⟨rfl, HBF.out.drew⟩
  ·obtain rfl : k = xs.length := by omega
   have HK : Hid (findL xs x = -1) := Lib.hid (findL_no HE.out)
   go_wp2
   go_ret
   rw [HK.out]
   exact ⟨rfl, HBF.out⟩
end Go.Proofs.YtdkainiiinjgmaaGreatDoor
namespace Go.Proofs.YtdkainiiinjgmaaGreatDoor
open Go.RowKit Go.Shelf
theorem grown_alloc_L {w w' : World} {o : Obj} (hg : (w.alloc o).drew.grownBy w' none) : w'.heap[w.heap.size]? = some o := (hg.block w.heap.size (by show _ < (w.alloc o).heap.size; simp) (by simp)).trans (alloc_at w o)
abbrev OwnL (B : Nat) (w : World) (v : Value) (xs : List Lb) : Prop := w.ownsRow B 38 2 v xs.length (lcs xs)
theorem ownL_nil (B : Nat) (w : World) : OwnL B w (.slice none 0 0) [] := World.ownsRow_nil _ _ _ _
theorem ownL_below {B : Nat} {w w' : World} {v : Value} {xs : List Lb} (h : OwnL B w v xs) (hb : Below w.heap.size w w') : OwnL B w' v xs := World.ownsRow.kept (row := none) h ⟨hb.os, hb.tape, hb.output, hb.size, fun k hk _ => hb.block k hk⟩ (by cases Value.ownBlock _ <;> simp)
theorem ownL_row {B : Nat} {w : World} {v : Value} {xs : List Lb} (h : OwnL B w v xs) : ∃ a c, v = .slice a xs.length c ∧ xs.length ≤ c ∧ c ≤ maxLen ∧ RowL w a xs ∧ ∀ b, a = some b → B ≤ b.block ∧ b.block < w.heap.size := by
 obtain ⟨a, c, rfl, hr, ha⟩ := rowL_own h
 obtain ⟨a', c', q, _, h1, h2⟩ := own_shape h
 cases q
 exact ⟨a, c, rfl, h1, h2, hr, ha⟩
theorem row_lab {w : World} {g : Nat} {x : Lb} {t : TypeId} (h : w.heap[g]? = some (.cells #[.bool x.1, .string x.2] t)) : IsRow w (.slice (some ⟨g, 0, none⟩) 1 1) 2 (lrows [x]) := by
 refine isRow_one (Array.getElem?_eq_some_iff.1 h).1 fun i u hu => ?_
 match i, hu with
 | 0, hu => cases hu; simp [World.cell?, h]
 | 1, hu => cases hu; simp [World.cell?, h]
theorem step_append_L {w : World} {ops : Array Oper} {o : Oper} {a : Act} {K : Act → World → Prop} {Q : Exit → Act → World → Prop} {E : Prop} (hgd : o.guard = none) (s x : Operand) (ho : o.op = .call { callee := .builtin .append, args := #[s, x], argTypes := #[22, 22] })
  (B : Nat) (v v2 : Value) (xs ys : List Lb) (hs : a.eval s = v) (hx : a.eval x = v2) (hown : OwnL B w v xs) (hI : IsRow w v2 2 (lrows ys)) (b1 : xs.length + ys.length ≤ 1000000000) (hB : B ≤ w.heap.size)
  (h : ∀ v' w', OwnL B w' v' (xs ++ ys) → w.grownBy w' v.ownBlock → (∀ b, v'.ownBlock = some b → v.ownBlock = some b ∨ w.heap.size ≤ b) → K (a.put o.dst v') w') :
  if Region.wanted o (yielded ops a.tmps) = true then Oper.wp Tryz.prog o a w K Q else E := by
 obtain ⟨i0, hi, hz0, hz1, hz2⟩ := info_parts infoLb
 have hown' : w.ownsRow B 38 2 v (lrows xs).length (lrows xs).flatten := by rw [lrows_len]; exact hown
 refine step_append_rows hgd s x 22 ho 38 i0 (.agg #[.bool false, .string ⟨#[]⟩]) 2 24 Tryz.underlying22 hi hz0 hz1 hz2 rfl (by decide) B v v2 (lrows xs) (lrows ys) hs hx hown' hI (lrows_two ys) (lrows_one ys) (by rw [lrows_len, lrows_len]; exact b1) (by decide) hB ?_
 intro v' w' h1 h2 h3
 rw [lrows_app, lrows_len] at h1
 exact h v' w' h1 h2 h3
def posL (x : Lb) (l : List Lb) : Nat := (l.takeWhile fun y => ltL y x).length
theorem posL_le (x : Lb) (l : List Lb) : posL x l ≤ l.length := tw_le _ l
theorem insL_pos (x : Lb) : ∀ l : List Lb, insL x l = if l[posL x l]? = some x then l else l.take (posL x l) ++ [x] ++ l.drop (posL x l)
 | [] => by simp [insL, posL]
 | y :: ys => by
  have ih := insL_pos x ys
  unfold insL
  cases h : ltL y x with
  | true =>
   have hp : posL x (y :: ys) = posL x ys + 1 := by unfold posL; rw [List.takeWhile_cons, if_pos h]; rfl
   rw [if_pos rfl, ih, hp, List.getElem?_cons_succ]
   split
   ·rfl
   ·rw [List.take_succ_cons, List.drop_succ_cons]; rfl
  | false =>
   have hp : posL x (y :: ys) = 0 := by unfold posL; rw [List.takeWhile_cons, if_neg (by rw [h]; decide)]; rfl
   rw [if_neg (by decide), hp, List.getElem?_cons_zero]
   by_cases e : y = x
   ·rw [if_pos e, if_pos (by rw [e])]
   ·rw [if_neg e, if_neg (by simpa using e)]; rfl
theorem insL_len (x : Lb) (l : List Lb) : (insL x l).length ≤ l.length + 1 := by
 rw [insL_pos]
 have := posL_le x l
 split
 ·omega
 ·simp only [List.length_append, List.length_take, List.length_drop, List.length_cons, List.length_nil]; omega
set_option maxHeartbeats 8000000
set_option maxRecDepth 100000
theorem rbAdd (l : List Lb) (x : Lb) (v : Value) (B : Nat) (w : World) (hown : OwnL B w v l) (hB : B ≤ w.heap.size) (hn : l.length ≤ 1000) :
  Calls Tryz.prog 24 #[v, lv x] w fun e w' => ∃ v', e = .returned v' ∧ OwnL B w' v' (insL x l) ∧ Below w.heap.size w w' := by
 obtain ⟨a, c, rfl, hc, hcm, hr, _⟩ := ownL_row hown
 obtain ⟨i0, hsi, _, hsz, _⟩ := info_parts infoLb
 have HOW := Lib.hid hown
 have HA : Hid (∀ W, Below w.heap.size w W → RowL W a l) := Lib.hid fun W hW => hr.below hW (Nat.le_refl _)
 have HIR := Lib.hid (hr.isRow hc hcm)
 have HBB := Lib.hid hB
 clear hr hown hB
 obtain ⟨p, hp⟩ : ∃ p, posL x l = p := ⟨_, rfl⟩
 have hpl : p ≤ l.length := by rw [← hp]; exact posL_le x l
 have HP := Lib.hid hp
 have HIN := Lib.hid (insL_pos x l)
 have hpc : p ≤ c := by omega
 have HPL := Lib.hid hpl
 have HPC := Lib.hid hpc
 unfold maxLen at hcm
 unfold lv
 clear hp
 go_enter Tryz.func24, Tryz.ntmps24
 go_upto_block 0 with fail
 obtain ⟨W0, hW0⟩ : ∃ V, V = w.alloc (.cells #[.bool x.1, .string x.2] 38) := ⟨_, rfl⟩
 have hb0 : Below w.heap.size w W0 := by rw [hW0]; exact (Below.refl _ _).alloc (Nat.le_refl _) _
 have hc0 : W0.heap[w.heap.size]? = some (.cells #[.bool x.1, .string x.2] 38) := by rw [hW0]; exact heap_alloc_new w _
 have HW0 : Hid (W0.heap.size = w.heap.size + 1) := by show _ = _; rw [hW0]; simp
 rw [← hW0]
 have HB0 := Lib.hid hb0
 have HBX : Hid (∀ W, Below W0.heap.size W0 W → W.cell? { block := w.heap.size, off := 0 } = some (.bool x.1) ∧ W.cell? { block := w.heap.size, off := 1 } = some (.string x.2)) := by
  show ∀ W, _
  intro W hW
  have h := (hW.block w.heap.size (by rw [HW0.out]; omega)).trans hc0
  simp [World.cell?, h]
 have HF : Hid (∀ W, Below W0.heap.size W0 W → Below w.heap.size w W) := Lib.hid fun W hW => HB0.out.trans (hW.mono HB0.out.size)
 clear hW0 hb0 hc0 hpl hpc
 go_cut [5] (fun t wx => t = .int .i64 (p : Int) ∧ Below W0.heap.size W0 wx)
 case first =>
  go_wp2_with fail
  go_loopw [5] (fun t wq => ∃ j : Nat, j ≤ p ∧ t = .int .i64 (j : Int) ∧ Below W0.heap.size W0 wq) (fun t _ => l.length - (intOf t).toNat)
  case atStart => exact ⟨0, Nat.zero_le _, rfl, Below.refl _ _⟩
  case round =>
   obtain ⟨j, hj, rfl, hbw⟩ := hrel
   have HBW := Lib.hid hbw
   clear hbw
   have hj0 : (0 : Int) ≤ (j : Int) := by omega
   by_cases hjl : j < l.length
   ·obtain ⟨y, hy⟩ : ∃ y, l[j]? = some y := ⟨l[j], List.getElem?_eq_getElem hjl⟩
    have hj1 : (j : Int) < (l.length : Int) := by omega
    have hd : decide (j < l.length) = true := by simpa using hjl
    obtain ⟨b, o, hpa, _, _⟩ := HA.out wr (HF.out _ HBW.out) j y hy
    subst hpa
    have HY := Lib.hid hy
    obtain ⟨t, ht⟩ : ∃ t, ltL y x = t := ⟨_, rfl⟩
    have HT := Lib.hid ht
    clear hy ht
    go_wp2_with fail
    refine wp_region_held_drew (S := fun V => Below W0.heap.size W0 V) (by kernel_rfl) ?_ (fun hHeld => ?_)
    ·exact HBW.out.drew
    refine tkK 0 ?_
    refine tkK 1 ?_
    refine tkK 2 ?_
    refine tkK 3 ?_
    refine tkK 4 ?_
    refine tkK 5 ?_
    refine tkK 6 ?_
    refine tkK 7 ?_
    try simp only [Act.put, List.setIfInBounds_toArray, List.set_cons_zero, List.set_cons_succ]
    refine tkH 8 (v := ?_) ?_ ?_
    rotate_left
    ·intro w hSw; obtain ⟨p1, o1, e1, c0, c1⟩ := HA.out _ (HF.out _ hSw) j y HY.out; cases e1; go_simp; try with_reducible rfl
    try simp only [Act.put, List.setIfInBounds_toArray, List.set_cons_zero, List.set_cons_succ]
    refine tkH 9 (v := ?_) ?_ ?_
    rotate_left
    ·intro w hSw; obtain ⟨c2, c3⟩ := HBX.out _ hSw; go_simp; try with_reducible rfl
    try simp only [Act.put, List.setIfInBounds_toArray, List.set_cons_zero, List.set_cons_succ]
    refine rdH [10] ?_
    refine rcH (fun K hK => ?_) ?_
    ·go_simp; have CL := rbLess y x; unfold lv at CL; refine (CL _).mono ?_; clear CL; rintro e' V1 ⟨rfl, hV1⟩; rw [HT.out]; have hb1 : Below W0.heap.size W0 V1 := hV1.symm ▸ ((hHeld.alloc hHeld.size _).alloc (hHeld.alloc hHeld.size _).size _); clear hV1; dsimp only
     refine hK.out _ _ ?_ (fun hHeld => ?_)
     ·try dsimp only
      exact hb1
     clear hK K
     try simp only [Act.put, List.setIfInBounds_toArray, List.set_cons_zero, List.set_cons_succ]
     refine tkK 11 ?_
     try simp only [Act.put, List.setIfInBounds_toArray, List.set_cons_zero, List.set_cons_succ]
     refine wpAnyH_done (by kernel_rfl) ?_ _
     cases t
     ·have HE : Hid (j = p) := by
       show j = p
       have := tw_stop (fun y => ltL y x) l j y (by show j ≤ posL x l; rw [HP.out]; exact hj) HY.out HT.out
       rw [← HP.out]; exact this.symm
      go_wp2_with fail
      go_meet
      exact ⟨by rw [HE.out], hHeld⟩
     ·have HE : Hid (j + 1 ≤ p) := by
       show j + 1 ≤ p
       have := tw_step (fun y => ltL y x) l j y (by show j ≤ posL x l; rw [HP.out]; exact hj) HY.out HT.out
       rw [← HP.out]; exact this
      go_wp2
      go_roundw
      case rel => exact ⟨j + 1, HE.out, by go_num, hHeld⟩
      case measure => simp only [intOf]; omega
    exact AllReadyH.nil
   ·have hd : decide (j < l.length) = false := by simpa using hjl
    have hj1 : ¬ (j : Int) < (l.length : Int) := by omega
    have HE : Hid (j = p) := by show j = p; have := HPL.out; omega
    go_wp2_with fail
    refine wp_region_held_drew (S := fun V => Below W0.heap.size W0 V) (by kernel_rfl) ?_ (fun hHeld => ?_)
    ·exact HBW.out.drew
    refine tkK 0 ?_
    refine tkK 1 ?_
    refine tkK 2 ?_
    refine tkK 3 ?_
    refine tkK 4 ?_
    try simp only [Act.put, List.setIfInBounds_toArray, List.set_cons_zero, List.set_cons_succ]
    refine tuH 5 ?_
    try simp only [Act.put, List.setIfInBounds_toArray, List.set_cons_zero, List.set_cons_succ]
    refine tuH 6 ?_
    try simp only [Act.put, List.setIfInBounds_toArray, List.set_cons_zero, List.set_cons_succ]
    refine tuH 7 ?_
    try simp only [Act.put, List.setIfInBounds_toArray, List.set_cons_zero, List.set_cons_succ]
    refine tuH 8 ?_
    try simp only [Act.put, List.setIfInBounds_toArray, List.set_cons_zero, List.set_cons_succ]
    refine tuH 9 ?_
    try simp only [Act.put, List.setIfInBounds_toArray, List.set_cons_zero, List.set_cons_succ]
    refine rdH [10] ?_
    refine rcH (fun K hK => ?_) ?_
    ·rw [if_neg]; rotate_left; exact Bool.eq_false_iff.1 (by rfl)
     refine hK.out _ _ ?_ (fun hHeld => ?_)
     ·try dsimp only
      assumption
     clear hK K
     try simp only [Act.put, List.setIfInBounds_toArray, List.set_cons_zero, List.set_cons_succ]
     refine tkK 11 ?_
     try simp only [Act.put, List.setIfInBounds_toArray, List.set_cons_zero, List.set_cons_succ]
     refine wpAnyH_done (by kernel_rfl) ?_ _
     go_wp2_with fail
     go_meet
     exact ⟨by rw [HE.out], hHeld⟩
    exact AllReadyH.nil
 case rest =>
  obtain ⟨rfl, hbx⟩ := hcut
  obtain ⟨WX, hWX⟩ : ∃ V, wc = V := ⟨_, rfl⟩
  rw [hWX] at hbx ⊢
  clear hWX
  have HBXX := Lib.hid hbx
  have hp0 : (0 : Int) ≤ (p : Int) := by omega
  obtain ⟨t, ht⟩ : ∃ t, decide (l[p]? = some x) = t := ⟨_, rfl⟩
  have HT := Lib.hid ht
  clear hbx ht
  go_upto_region 4 with fail
  go_cut [31] (fun u wx => u = .bool t ∧ Below W0.heap.size W0 wx)
  case first =>
   by_cases hjl : p < l.length
   ·obtain ⟨y, hy⟩ : ∃ y, l[p]? = some y := ⟨l[p], List.getElem?_eq_getElem hjl⟩
    have hj1 : (p : Int) < (l.length : Int) := by omega
    have hd : decide (p < l.length) = true := by simpa using hjl
    obtain ⟨b, o, hpa, _, _⟩ := HA.out WX (HF.out _ HBXX.out) p y hy
    subst hpa
    have hne := fun w => binEq y x w
    have he : decide (y = x) = t := by
     have := HT.out
     rw [hy] at this
     rw [← this]
     simp
    rw [he] at hne
    have HY := Lib.hid hy
    clear hy he
    go_wp2_with fail
    refine wp_region_held_drew (S := fun V => Below W0.heap.size W0 V) (by kernel_rfl) ?_ (fun hHeld => ?_)
    ·exact HBXX.out.drew
    refine tkK 0 ?_
    refine tkK 1 ?_
    refine tkK 2 ?_
    refine tkK 3 ?_
    refine tkK 4 ?_
    refine tkK 5 ?_
    refine tkK 6 ?_
    refine tkK 7 ?_
    try simp only [Act.put, List.setIfInBounds_toArray, List.set_cons_zero, List.set_cons_succ]
    refine tkH 8 (v := ?_) ?_ ?_
    rotate_left
    ·intro w hSw; obtain ⟨p1, o1, e1, c0, c1⟩ := HA.out _ (HF.out _ hSw) p y HY.out; cases e1; go_simp; try with_reducible rfl
    try simp only [Act.put, List.setIfInBounds_toArray, List.set_cons_zero, List.set_cons_succ]
    refine tkH 9 (v := ?_) ?_ ?_
    rotate_left
    ·intro w hSw; obtain ⟨c2, c3⟩ := HBX.out _ hSw; go_simp; try with_reducible rfl
    try simp only [Act.put, List.setIfInBounds_toArray, List.set_cons_zero, List.set_cons_succ]
    refine tkK 10 ?_
    refine tkK 11 ?_
    try simp only [Act.put, List.setIfInBounds_toArray, List.set_cons_zero, List.set_cons_succ]
    refine wpAnyH_done (by kernel_rfl) ?_ _
    go_wp2_with fail
    go_meet
    exact ⟨rfl, hHeld⟩
   ·have hd : decide (p < l.length) = false := by simpa using hjl
    have hj1 : ¬ (p : Int) < (l.length : Int) := by omega
    have HE : Hid (false = t) := by
     show _ = _
     rw [← HT.out, List.getElem?_eq_none (by omega)]
     simp
    go_wp2_with fail
    refine wp_region_held_drew (S := fun V => Below W0.heap.size W0 V) (by kernel_rfl) ?_ (fun hHeld => ?_)
    ·exact HBXX.out.drew
    refine tkK 0 ?_
    refine tkK 1 ?_
    refine tkK 2 ?_
    refine tkK 3 ?_
    refine tkK 4 ?_
    try simp only [Act.put, List.setIfInBounds_toArray, List.set_cons_zero, List.set_cons_succ]
    refine tuH 5 ?_
    try simp only [Act.put, List.setIfInBounds_toArray, List.set_cons_zero, List.set_cons_succ]
    refine tuH 6 ?_
    try simp only [Act.put, List.setIfInBounds_toArray, List.set_cons_zero, List.set_cons_succ]
    refine tuH 7 ?_
    try simp only [Act.put, List.setIfInBounds_toArray, List.set_cons_zero, List.set_cons_succ]
    refine tuH 8 ?_
    try simp only [Act.put, List.setIfInBounds_toArray, List.set_cons_zero, List.set_cons_succ]
    refine tuH 9 ?_
    try simp only [Act.put, List.setIfInBounds_toArray, List.set_cons_zero, List.set_cons_succ]
    refine tuH 10 ?_
    try simp only [Act.put, List.setIfInBounds_toArray, List.set_cons_zero, List.set_cons_succ]
    refine tkK 11 ?_
    try simp only [Act.put, List.setIfInBounds_toArray, List.set_cons_zero, List.set_cons_succ]
    refine wpAnyH_done (by kernel_rfl) ?_ _
    go_wp2_with fail
    go_meet
    exact ⟨by rw [HE.out], hHeld⟩
  case rest =>
   obtain ⟨rfl, hbx⟩ := hcut
   obtain ⟨WY, hWY⟩ : ∃ V, wc = V := ⟨_, rfl⟩
   rw [hWY] at hbx ⊢
   clear hWY
   have HBY := Lib.hid hbx
   have HWB := Lib.hid (HF.out _ hbx)
   clear hbx
   cases t
   ·have HIN2 : Hid (insL x l = l.take p ++ [x] ++ l.drop p) := by
     show _ = _
     have h := HIN.out
     rw [HP.out, if_neg (of_decide_eq_false HT.out)] at h
     exact h
    have HT2 : Hid (∀ w', Below WY.heap.size WY w' → IsRow w' (.slice a p c) 2 (lrows (l.take p))) := by
     show ∀ w', _
     intro w' hw
     have := (HIR.out.below (HWB.out.trans (hw.mono HWB.out.size))).take (m := p) HPL.out
     rwa [lrows_take] at this
    have HD : Hid (∀ w', Below WY.heap.size WY w' → IsRow w' (dropV 2 p a l.length c) 2 (lrows (l.drop p))) := by
     show ∀ w', _
     intro w' hw
     have := (HIR.out.below (HWB.out.trans (hw.mono HWB.out.size))).drop (m := p) HPL.out
     rwa [lrows_drop] at this
    have HX2 : Hid (∀ w', Below WY.heap.size WY w' → w'.cell? { block := w.heap.size, off := 0 } = some (.bool x.1) ∧ w'.cell? { block := w.heap.size, off := 1 } = some (.string x.2)) := by
     show ∀ w', _
     exact fun w' hw => HBX.out _ (HBY.out.trans (hw.mono HBY.out.size))
    have HS0 : Hid (Below WY.heap.size WY WY.drew) := by show Below _ _ _; exact (Below.refl _ _).drew
    have HU : Hid (∀ w' o, Below WY.heap.size WY w' → Below WY.heap.size WY (w'.alloc o)) := by show ∀ w' o, _; exact fun w' o h => h.alloc h.size o
    have HUD : Hid (∀ o, Below WY.heap.size WY (WY.alloc o).drew) := by show ∀ o, _; exact fun o => ((Below.refl _ _).alloc (Nat.le_refl _) o).drew
    have HLT : Hid ((l.take p).length ≤ 1000 ∧ (l.drop p).length ≤ 1000) := by show _ ∧ _; rw [List.length_take, List.length_drop]; omega
    have hp1 : (p : Int) ≤ (c : Int) := by have := HPC.out; omega
    have hpl' : (p : Int) ≤ (l.length : Int) := by have := HPL.out; omega
    go_wp2_with fail
    refine wp_region_held_drew (S := fun w' => Below WY.heap.size WY w') (by kernel_rfl) ?_ (fun hHeld => ?_)
    ·exact HS0.out
    refine tkK 0 ?_
    refine tkK 1 ?_
    refine tkK 2 ?_
    try simp only [Act.put, List.setIfInBounds_toArray, List.set_cons_zero, List.set_cons_succ]
    refine tkH 4 (v := ?_) ?_ ?_
    rotate_left
    ·intro w hSw; obtain ⟨c2, c3⟩ := HX2.out _ hSw; go_simp; try with_reducible rfl
    try simp only [Act.put, List.setIfInBounds_toArray, List.set_cons_zero, List.set_cons_succ]
    refine tkK 7 ?_
    refine tkK 8 ?_
    try simp only [Act.put, List.setIfInBounds_toArray, List.set_cons_zero, List.set_cons_succ]
    refine tkH 9 (v := ?_) ?_ ?_
    rotate_left
    ·intro w hSw; refine (exec_slice_from (by rfl) Tryz.underlying22 hsi hsz (by rfl) (by rfl) HPL.out).trans ?_; rfl
    try simp only [Act.put, List.setIfInBounds_toArray, List.set_cons_zero, List.set_cons_succ]
    refine rdH [3, 5] ?_
    refine rcH (fun K hK => ?_) ?_
    ·refine step_append_L (by rfl) _ _ (by rfl) WY.heap.size _ _ [] (l.take p) (by rfl) (by rfl) (ownL_nil _ _) (HT2.out _ (by assumption)) (by have := HLT.out.1; simp only [List.length_nil]; omega) (Below.size (by assumption)) ?_; intro v1 w1 ho1 hg1 _; have hS1 := below_grown0 (show Below WY.heap.size WY _ by assumption) hg1 (Below.size (by assumption)); have HO1 := Lib.hid ho1; clear ho1
     refine hK.out _ _ ?_ (fun hHeld => ?_)
     ·try dsimp only
      assumption
     clear hK K
     try simp only [Act.put, List.setIfInBounds_toArray, List.set_cons_zero, List.set_cons_succ]
     refine rdH [5] ?_
     refine rcH (fun K hK => ?_) ?_
     ·go_simp
      refine hK.out _ _ ?_ (fun hHeld => ?_)
      ·try dsimp only
       exact HU.out _ _ (by assumption)
      clear hK K
      try simp only [Act.put, List.setIfInBounds_toArray, List.set_cons_zero, List.set_cons_succ]
      refine rdH [6] ?_
      refine rcH (fun K hK => ?_) ?_
      ·refine step_append_L (by rfl) _ _ (by rfl) WY.heap.size _ _ (([] : List Lb) ++ l.take p) [x] (by rfl) (by rfl) (ownL_below HO1.out ((Below.refl _ _).alloc (Nat.le_refl _) _)) (row_lab (alloc_at w1 _)) (by have := HLT.out.1; simp only [List.length_append, List.length_nil, List.length_cons]; omega) (Below.size (by assumption)) ?_; intro v2 w2 ho2 hg2 _; have hS2 := below_own (show Below WY.heap.size WY _ by assumption) hg2 (Below.size (by assumption)) (fun k hk => (World.ownsRow.lt HO1.out k hk).1); have HO2 := Lib.hid ho2; clear ho2
       refine hK.out _ _ ?_ (fun hHeld => ?_)
       ·try dsimp only
        assumption
       clear hK K
       try simp only [Act.put, List.setIfInBounds_toArray, List.set_cons_zero, List.set_cons_succ]
       refine rdH [10] ?_
       refine rcH (fun K hK => ?_) ?_
       ·refine step_append_L (by rfl) _ _ (by rfl) WY.heap.size _ _ (([] : List Lb) ++ l.take p ++ [x]) (l.drop p) (by rfl) (by rfl) HO2.out (HD.out _ (by assumption)) (by have := HLT.out; simp only [List.length_append, List.length_nil, List.length_cons]; omega) (Below.size (by assumption)) ?_; intro v3 w3 ho3 hg3 _; have hS3 := below_own (show Below WY.heap.size WY _ by assumption) hg3 (Below.size (by assumption)) (fun k hk => (World.ownsRow.lt HO2.out k hk).1); have HO3 := Lib.hid ho3; clear ho3
        refine hK.out _ _ ?_ (fun hHeld => ?_)
        ·try dsimp only
         assumption
        clear hK K
        try simp only [Act.put, List.setIfInBounds_toArray, List.set_cons_zero, List.set_cons_succ]
        refine tkK 11 ?_
        try simp only [Act.put, List.setIfInBounds_toArray, List.set_cons_zero, List.set_cons_succ]
        refine wpAnyH_done (by kernel_rfl) ?_ _
        have HR3 : Hid (OwnL B w3 v3 (insL x l)) := by
         show OwnL _ _ _ _
         rw [HIN2.out]
         have h3 := HO3.out
         rw [List.nil_append] at h3
         exact own_lower h3 (Nat.le_trans HBB.out HWB.out.size)
        have HF3 := Lib.hid (HWB.out.trans (hS3.mono HWB.out.size))
        clear hS1 hS2 hS3 hHeld
        go_wp2
        go_ret
        exact ⟨_, rfl, HR3.out, HF3.out⟩
       exact AllReadyH.nil
      exact AllReadyH.nil
     exact AllReadyH.nil
    refine rcH (fun K hK => ?_) ?_
    ·go_simp
     refine hK.out _ _ ?_ (fun hHeld => ?_)
     ·try dsimp only
      exact HUD.out _
     clear hK K
     try simp only [Act.put, List.setIfInBounds_toArray, List.set_cons_zero, List.set_cons_succ]
     refine rdH [3] ?_
     refine rcH (fun K hK => ?_) ?_
     ·refine step_append_L (by rfl) _ _ (by rfl) WY.heap.size _ _ [] (l.take p) (by rfl) (by rfl) (ownL_nil _ _) (HT2.out _ (by assumption)) (by have := HLT.out.1; simp only [List.length_nil]; omega) (Below.size (by assumption)) ?_; intro v1 w1 ho1 hg1 _; have hS1 := below_grown0 (show Below WY.heap.size WY _ by assumption) hg1 (Below.size (by assumption)); have HO1 := Lib.hid ho1; clear ho1; have HN1 := Lib.hid (grown_alloc_L hg1)
      refine hK.out _ _ ?_ (fun hHeld => ?_)
      ·try dsimp only
       assumption
      clear hK K
      try simp only [Act.put, List.setIfInBounds_toArray, List.set_cons_zero, List.set_cons_succ]
      refine rdH [6] ?_
      refine rcH (fun K hK => ?_) ?_
      ·refine step_append_L (by rfl) _ _ (by rfl) WY.heap.size _ _ (([] : List Lb) ++ l.take p) [x] (by rfl) (by rfl) HO1.out (row_lab HN1.out) (by have := HLT.out.1; simp only [List.length_append, List.length_nil, List.length_cons]; omega) (Below.size (by assumption)) ?_; intro v2 w2 ho2 hg2 _; have hS2 := below_own (show Below WY.heap.size WY _ by assumption) hg2 (Below.size (by assumption)) (fun k hk => (World.ownsRow.lt HO1.out k hk).1); have HO2 := Lib.hid ho2; clear ho2
       refine hK.out _ _ ?_ (fun hHeld => ?_)
       ·try dsimp only
        assumption
       clear hK K
       try simp only [Act.put, List.setIfInBounds_toArray, List.set_cons_zero, List.set_cons_succ]
       refine rdH [10] ?_
       refine rcH (fun K hK => ?_) ?_
       ·refine step_append_L (by rfl) _ _ (by rfl) WY.heap.size _ _ (([] : List Lb) ++ l.take p ++ [x]) (l.drop p) (by rfl) (by rfl) HO2.out (HD.out _ (by assumption)) (by have := HLT.out; simp only [List.length_append, List.length_nil, List.length_cons]; omega) (Below.size (by assumption)) ?_; intro v3 w3 ho3 hg3 _; have hS3 := below_own (show Below WY.heap.size WY _ by assumption) hg3 (Below.size (by assumption)) (fun k hk => (World.ownsRow.lt HO2.out k hk).1); have HO3 := Lib.hid ho3; clear ho3
        refine hK.out _ _ ?_ (fun hHeld => ?_)
        ·try dsimp only
         assumption
        clear hK K
        try simp only [Act.put, List.setIfInBounds_toArray, List.set_cons_zero, List.set_cons_succ]
        refine tkK 11 ?_
        try simp only [Act.put, List.setIfInBounds_toArray, List.set_cons_zero, List.set_cons_succ]
        refine wpAnyH_done (by kernel_rfl) ?_ _
        have HR3 : Hid (OwnL B w3 v3 (insL x l)) := by
         show OwnL _ _ _ _
         rw [HIN2.out]
         have h3 := HO3.out
         rw [List.nil_append] at h3
         exact own_lower h3 (Nat.le_trans HBB.out HWB.out.size)
        have HF3 := Lib.hid (HWB.out.trans (hS3.mono HWB.out.size))
        clear hS1 hS2 hS3 hHeld
        go_wp2
        go_ret
        exact ⟨_, rfl, HR3.out, HF3.out⟩
       exact AllReadyH.nil
      exact AllReadyH.nil
     exact AllReadyH.nil
    exact AllReadyH.nil
   ·have HIN2 : Hid (insL x l = l) := by
     show _ = _
     have h := HIN.out
     rw [HP.out, if_pos (of_decide_eq_true HT.out)] at h
     exact h
    have HR3 : Hid (OwnL B WY (.slice a l.length c) (insL x l)) := by
     show OwnL _ _ _ _
     rw [HIN2.out]
     exact World.ownsRow.kept (row := none) HOW.out ⟨HWB.out.os, HWB.out.tape, HWB.out.output, HWB.out.size, fun k hk _ => HWB.out.block k hk⟩ (by cases Value.ownBlock _ <;> simp)
    go_wp2
    go_ret
    exact ⟨_, rfl, HR3.out, HWB.out⟩
end Go.Proofs.YtdkainiiinjgmaaGreatDoor
namespace Go.Proofs.YtdkainiiinjgmaaGreatDoor
open Go.RowKit Go.Shelf
theorem setL_take {xs : List Lb} {k : Nat} {x : Lb} (h : xs[k]? = some x) : setL (xs.take (k + 1)) = insL x (setL (xs.take k)) := by
 unfold setL; rw [List.take_add_one, h, List.foldl_append]; rfl
theorem setL_len' : ∀ (xs l : List Lb), (xs.foldl (fun l x => insL x l) l).length ≤ l.length + xs.length
 | [], l => by simp
 | x :: xs, l => by
  have h1 := setL_len' xs (insL x l)
  have h2 := insL_len x l
  rw [List.foldl_cons, List.length_cons]
  omega
theorem setL_len (xs : List Lb) : (setL xs).length ≤ xs.length := by
 have := setL_len' xs []
 unfold setL
 simpa using this
set_option maxHeartbeats 4000000
set_option maxRecDepth 100000
theorem rbSet (xs : List Lb) (a : Option Addr) (c : Nat) (w : World) (hr : RowL w a xs) (hn : xs.length ≤ 900) :
  Calls Tryz.prog 21 #[.slice a xs.length c] w fun e w' => ∃ v, e = .returned v ∧ OwnL w.heap.size w' v (setL xs) ∧ Below w.heap.size w w' := by
 have HA : Hid (∀ W, Below w.heap.size w W → RowL W a xs) := Lib.hid fun W hW => hr.below hW (Nat.le_refl _)
 have HO0 := Lib.hid (ownL_nil w.heap.size w)
 clear hr
 go_enter Tryz.func21, Tryz.ntmps21
 go_wp2
 go_loopw [3, 4] (fun ov iv wr => ∃ k : Nat, k ≤ xs.length ∧ iv = .int .i64 (k : Int) ∧ OwnL w.heap.size wr ov (setL (xs.take k)) ∧ Below w.heap.size w wr) (fun _ iv _ => xs.length - (intOf iv).toNat)
 case atStart => exact ⟨0, Nat.zero_le _, rfl, HO0.out, Below.refl _ _⟩
 case round =>
  obtain ⟨k, hk, rfl, hown, hbw⟩ := hrel
  have HOW := Lib.hid hown
  have HBW := Lib.hid hbw
  clear hown hbw
  by_cases hlt : k < xs.length
  ·obtain ⟨x, hx⟩ : ∃ x, xs[k]? = some x := ⟨xs[k], List.getElem?_eq_getElem hlt⟩
   have hi : (k : Int) < (xs.length : Int) := by omega
   have hk0 : (0 : Int) ≤ (k : Int) := by omega
   obtain ⟨b, o, hp, c0, c1⟩ := HA.out wr HBW.out k x hx
   subst hp
   have HS := Lib.hid (setL_take hx)
   have hsl := setL_len (xs.take k)
   rw [List.length_take] at hsl
   have HCA := Lib.hid (fun W (hW : wr = W) => rbAdd (setL (xs.take k)) x u3 w.heap.size W (by rw [← hW]; exact HOW.out) (by rw [← hW]; exact HBW.out.size) (by omega))
   unfold lv at HCA
   clear hx
   go_wp2_with fail
   refine (HCA.out _ rfl).mono ?_
   rintro e w2 ⟨v2, rfl, ho2, hb2⟩
   rw [← HS.out] at ho2
   have HO2 := Lib.hid ho2
   have HB2 := Lib.hid (HBW.out.trans (hb2.mono HBW.out.size))
   clear ho2 hb2
   go_wp2
   go_roundw
   case rel => exact ⟨k + 1, by omega, by go_num, HO2.out, HB2.out⟩
   case measure => simp only [intOf]; omega
  ·obtain rfl : k = xs.length := by omega
   rw [List.take_length] at HOW
   have hi : ¬ (xs.length : Int) < (xs.length : Int) := by omega
   go_wp2
   go_ret
   exact ⟨_, rfl, HOW.out, HBW.out⟩
end Go.Proofs.YtdkainiiinjgmaaGreatDoor
