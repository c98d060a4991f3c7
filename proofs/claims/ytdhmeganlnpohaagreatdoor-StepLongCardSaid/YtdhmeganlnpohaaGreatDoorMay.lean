import Derived.Shelf.Strings.Prefix
import Derived.Test.YtdhmeganlnpohaaGreatDoorMax
import Derived.Test.YtdhmeganlnpohaaGreatDoorMap
import Derived.Test.YtdhmeganlnpohaaGreatDoorMaw
import Derived.Test.YtdhmeganlnpohaaGreatDoorMab
import Derived.Test.YtdhmeganlnpohaaGreatDoorMav
namespace Go.Proofs.YtdhmeganlnpohaaGreatDoor
open Go.RowKit Go.Shelf
def linesB (s : ByteArray) : List ByteArray := (linesL s.data.toList).map fun x => ⟨x.toArray⟩
def trimB (x : ByteArray) : ByteArray := ⟨(Lib.trimSuffix x.data.toList [10]).toArray⟩
theorem raw_trim (s : ByteArray) : (rawB s).map trimB = linesB s := by
 unfold rawB linesB
 rw [← raw_lines, List.map_map, List.map_map]
 rfl
theorem linesB_len (s : ByteArray) : (linesB s).length ≤ s.size := by
 unfold linesB; rw [List.length_map]
 have := lines_len s.data.toList
 show _ ≤ s.data.size
 rwa [← Array.length_toList]
theorem rawB_len (s : ByteArray) : (rawB s).length ≤ s.size := by
 have := linesB_len s
 rwa [← raw_trim, List.length_map] at this
theorem raw_each (s : List UInt8) : ∀ l ∈ rawL s, l.length ≤ s.length := by
 induction s using lines_ind with
 | h0 => intro l hl; cases hl
 | h1 s h hn => rw [rawL_miss h hn]; simp
 | h2 a b h ih =>
  rw [rawL_hit h]
  intro l hl
  rcases List.mem_cons.1 hl with rfl | hl
  ·simp
  ·have := ih l hl; simp; omega
theorem rawB_each (s : ByteArray) : ∀ x ∈ rawB s, x.size ≤ s.size := by
 intro x hx
 obtain ⟨l, hl, rfl⟩ := List.mem_map.1 hx
 have := raw_each _ l hl
 show l.toArray.size ≤ s.data.size
 rw [List.size_toArray, ← Array.length_toList]
 exact this
section
attribute [local go_sem] Oper.semAt_some
set_option maxRecDepth 100000
set_option maxHeartbeats 4000000
theorem stringsLines_in (n : Nat) (s : ByteArray) (w : World) :
  CallsIn Fence.wide n Tryz.prog 59 #[.string s] w fun e w' => e = .returned (.func (.func 84) #[] #[.pointer (some ⟨w.heap.size, 0, none⟩)]) ∧ w' = w.alloc (.cells #[.string s] 9) := by
 refine callsIn_of_wp Tryz.func59 rfl trivial ?_ rfl
 simp only [Tryz.ntmps59, List.size_toArray, List.length_cons, List.length_nil, Nat.reduceAdd, Nat.reduceSub, Array.replicate_succ, Array.replicate_zero, List.push_toArray, List.append_toArray, List.nil_append, List.cons_append]
 gi_wp2
 go_ret
 exact ⟨rfl, rfl⟩
theorem infoS : (Tryz.prog.info? 9).map (fun i => (i.zero, i.size, i.bytes)) = some (some (.string ⟨#[]⟩), 1, 16) := by kernel_rfl
def LinPost (w : World) (s : ByteArray) (e : Ending) (w' : World) : Prop := ∃ v, e = .returned v ∧ OwnStrs (w.heap.size + 2) w' v (linesB s) ∧ (v = .slice none 0 0 ↔ linesB s = []) ∧ Below w.heap.size w w'
def LinI (w : World) (B : Nat) (pre : List ByteArray) (W : World) : Prop := (∃ v, Boxed W B 22 v ∧ W.ownsRow (B + 2) 9 1 v pre.length ((pre.map trimB).map Value.string) ∧ (v = .slice none 0 0 ↔ pre.map trimB = [])) ∧ Below B w W ∧ B + 2 ≤ W.heap.size
theorem linI_rs {w : World} {B : Nat} (s : List ByteArray) (X Y : World) (h : LinI w B s X) (hr : Rs (B + 1) X Y) : LinI w B s Y := by
 obtain ⟨⟨v, hv, ho, hn⟩, hb, hL⟩ := h
 refine ⟨⟨v, (hr.same B (by omega)).trans hv, ?_, hn⟩, hr.below hb (by omega), by rw [hr.size]; exact hL⟩
 obtain ⟨hl, h | ⟨g, cap, cur, e, hg, hgb, r⟩⟩ := ho
 ·exact ⟨hl, .inl h⟩
 ·exact ⟨hl, .inr ⟨g, cap, cur, e, hg, (hr.same g (by omega)).trans hgb, r⟩⟩
theorem linI_own (w : World) (L : Nat) (hL : w.heap.size ≤ L) : OwnFrom L (LinI w w.heap.size) :=
 OwnFrom.and (Own.from (holdsRow_own (w.heap.size + 2) w.heap.size 22 9 1 (fun pre : List ByteArray => pre.length) (fun pre => (pre.map trimB).map Value.string) (fun pre v => v = .slice none 0 0 ↔ pre.map trimB = [])) _) (OwnFrom.and (ownFrom_below (Nat.le_refl _) hL) fun _ _ _ _ h hg _ => Nat.le_trans h hg.size)
theorem stepLines_any (s : ByteArray) (w : World) (hs : s.size ≤ 1000000000) : Calls Tryz.prog 22 #[.string s] w (LinPost w s) := by
 refine (callsIn_wide (n := 5)).1 ?_
 obtain ⟨i0, hi, hz0, hz1, hz2⟩ := info_parts infoS
 have mixed : Tryz.prog.follows .mixedOrders = true := by kernel_rfl
 refine callsIn_of_wp_marks Tryz.func22 rfl trivial ?_ rfl
 simp only [Tryz.ntmps22, List.size_toArray, List.length_cons, List.length_nil, Nat.reduceAdd, Nat.reduceSub, Array.replicate_succ, Array.replicate_zero, List.push_toArray, List.append_toArray, List.nil_append, List.cons_append]
 gi_wp2_with (refine ⟨trivial, ?_⟩; gi_at_call 59; refine (stringsLines_in _ _ _).mono ?_; rintro e w' ⟨rfl, rfl⟩)
 have bO := Boxed.new w 22 (.slice none 0 0)
 have bS := Boxed.new (w.alloc (.cells #[.slice none 0 0] 22)) 9 (.string s)
 rw [World.size_alloc] at bS
 have hB0 : Below w.heap.size w ((w.alloc (.cells #[.slice none 0 0] 22)).alloc (.cells #[.string s] 9)) := ((Below.refl _ w).alloc (Nat.le_refl _) _).alloc (by simp) _
 refine wpIn_rangeAll (xs := rawB s) rfl (by omega) (gf := 84) (lb := #[.pointer (some ⟨w.heap.size + 1, 0, none⟩)]) rfl trivial (enters_of Tryz.func84 (by kernel_rfl) rfl)
  (lines_all _ (by omega) (w.heap.size + 1) s _ bS hs) (Below.refl _ _) (fun _ => rfl) (fun _ _ h => h.keeps) (fun _ => rfl) (fun _ _ _ h k => Eq.trans k h) (keepAt_put (by simp))
  (LinI w w.heap.size) (fun s A B h hr => linI_rs s A B h hr) (linI_own w _ (by simp; omega))
  ⟨⟨_, bO.alloc _, World.ownsRow_nil _ _ _ _, by simp⟩, hB0, by simp⟩
  (fun x => { tmps := #[.string s, undef, .slice none 0 0, .pointer (some ⟨w.heap.size, 0, none⟩), .string x, .string s, .func (.func 84) #[] #[.pointer (some ⟨w.heap.size + 1, 0, none⟩)], .string x, undef, undef, undef, undef, undef, undef], defers := [] }) ?assign ?body ?done
 case assign =>
  intro l x W K hK
  gi_wp2
  exact hK
 case body =>
  rintro l pre x post W hx ⟨⟨v, hv, hrow, hnil⟩, hB, hL⟩
  have hc := hv.cell
  have hxm : x ∈ rawB s := by rw [hx]; simp
  have hxs := rawB_each s x hxm
  have hWs : w.heap.size + 2 ≤ W.heap.size := hL
  have hpl : pre.length + 1 ≤ s.size := by
   have := rawB_len s
   rw [hx] at this
   simp at this ⊢
   omega
  have hT : ∀ F' W', CallsIn (Fence.wide.inRound l) F' Tryz.prog 60 #[.string x, .string ⟨#[10]⟩] W' fun e w' => e = .returned (.string (trimB x)) ∧ w' = W' := fun F' W' => CallsIn.inRound l ((callsIn_wide (n := F')).2 (Any.strings_TrimSuffix lLays_n102 x ⟨#[10]⟩ W' (by omega)))
  have HX := Lib.hid hx
  clear hx hxm
  have hvd : Boxed W.drew w.heap.size 22 v := hv
  have hrd : W.drew.ownsRow (w.heap.size + 2) 9 1 v pre.length ((pre.map trimB).map Value.string) := hrow
  have hBd : Below w.heap.size w W.drew := below_drewN hB 1
  have hcd := hvd.cell
  have hcA : (W.alloc (.cells #[.string (trimB x)] 9)).cell? ⟨w.heap.size, 0, none⟩ = some v := (hv.alloc _).cell
  have hml : pre.length + 1 ≤ maxLen := by unfold maxLen; omega
  have fin : ∀ (W' : World) (v' : Value), v' ≠ .slice none 0 0 → KeepsOthers W.drew W' → Below w.heap.size W.drew W' → Boxed W' w.heap.size 22 v' → W'.ownsRow (w.heap.size + 2) 9 1 v' (pre.length + 1) ((pre.map trimB).map Value.string ++ [.string (trimB x)]) →
    (∀ j, j < w.heap.size + 2 → j ≠ w.heap.size → W'.heap[j]? = W.drew.heap[j]?) → ∀ B', KeepsFrom B' W W' ∧ KeepAt (w.heap.size + 1) W W' ∧ LinI w w.heap.size (pre ++ [x]) W' := by
   intro W' v' hne hk hb hx ho hj B'
   have e : (pre ++ [x]).map trimB = pre.map trimB ++ [trimB x] := by simp
   refine ⟨⟨hk.size, fun k o _ h h' => hk.same k o h h'⟩, hj _ (by omega) (by omega), ⟨v', hx, ?_, ?_⟩, hBd.trans hb, Nat.le_trans hL hk.size⟩
   ·rw [e, List.length_append, List.map_append]; exact ho
   ·rw [e]; simp [hne]
  gi_wp2
  refine wpIn_region_any mixed ?_
  change wpAnyIn _ _ _ _ _ _ _ _ _ (World.drew _)
  refine wpAnyIn_ready (rs := [0, 1]) (by kernel_rfl) (by simp) ?_
  refine AllReadyIn.cons (o := _) (by simp only [List.getElem?_toArray, List.getElem?_cons_zero]; rfl) (fun K hK => ?_) ?_
  ·go_simp
   refine hK _ _ ?_
   clear hK K
   try simp only [Act.put, List.setIfInBounds_toArray, List.set_cons_zero, List.set_cons_succ]
   refine wpAnyIn_ready (rs := [1]) (by kernel_rfl) (by simp) ?_
   refine AllReadyIn.cons (o := _) (by simp only [List.getElem?_toArray, List.getElem?_cons_succ, List.getElem?_cons_zero]; rfl) (fun K hK => ?_) ?_
   ·go_simp
    refine hK _ _ ?_
    clear hK K
    try simp only [Act.put, List.setIfInBounds_toArray, List.set_cons_zero, List.set_cons_succ]
    refine wpAnyIn_ready (rs := [2]) (by kernel_rfl) (by simp) ?_
    refine AllReadyIn.cons (o := _) (by simp only [List.getElem?_toArray, List.getElem?_cons_succ, List.getElem?_cons_zero]; rfl) (fun K hK => ?_) ?_
    ·go_simp
     refine ⟨trivial, ?_⟩
     refine (hT _ _).mono ?_
     rintro e w' ⟨rfl, rfl⟩
     dsimp only
     refine hK _ _ ?_
     clear hK K
     try simp only [Act.put, List.setIfInBounds_toArray, List.set_cons_zero, List.set_cons_succ]
     refine wpAnyIn_ready (rs := [3]) (by kernel_rfl) (by simp) ?_
     refine AllReadyIn.cons (o := _) (by simp only [List.getElem?_toArray, List.getElem?_cons_succ, List.getElem?_cons_zero]; rfl) (fun K hK => ?_) ?_
     ·go_simp
      refine hK _ _ ?_
      clear hK K
      try simp only [Act.put, List.setIfInBounds_toArray, List.set_cons_zero, List.set_cons_succ]
      refine wpAnyIn_ready (rs := [4]) (by kernel_rfl) (by simp) ?_
      refine AllReadyIn.cons (o := _) (by simp only [List.getElem?_toArray, List.getElem?_cons_succ, List.getElem?_cons_zero]; rfl) (fun K hK => ?_) ?_
      ·refine stepIn_append_own rfl _ _ 22 rfl (w.heap.size + 2) 9 i0 (.string ⟨#[]⟩) 1 16 Tryz.underlying22 hi hz0 hz1 hz2 rfl (by decide) v _ _ rfl (hrd.alloc _) ⟨W.heap.size, 0, none⟩ 1 1 [.string (trimB x)] rfl rfl (cell_one_new _ _ _) (by simp [Value.oneCell']) hml (by omega) (by show w.heap.size + 2 ≤ (W.drew.alloc _).heap.size; rw [World.size_alloc]; show _ ≤ W.heap.size + 1; omega) ?_
       intro v' w1 hown' hgrow hni
       obtain ⟨g', cap', rfl⟩ := ownsRow_succ hown'
       obtain ⟨hv1, hv2, hr2, hk2, hb2, hj2⟩ := boxed_app hvd hrd (by omega) (by show _ ≤ W.heap.size; omega) hown' hgrow
       have hc1 := hv1.cell
       have hf1 := hv1.frozen
       refine hK _ _ ?_
       clear hK K
       try simp only [Act.put, List.setIfInBounds_toArray, List.set_cons_zero, List.set_cons_succ]
       refine wpAnyIn_ready (rs := [5]) (by kernel_rfl) (by simp) ?_
       refine AllReadyIn.cons (o := _) (by simp only [List.getElem?_toArray, List.getElem?_cons_succ, List.getElem?_cons_zero]; rfl) (fun K hK => ?_) ?_
       ·go_simp
        refine hK _ _ ?_
        clear hK K
        try simp only [Act.put, List.setIfInBounds_toArray, List.set_cons_zero, List.set_cons_succ]
        refine wpAnyIn_done (by kernel_rfl) ?_ _
        exact fin _ _ (by simp) hk2 hb2 hv2 hr2 hj2 _
       exact AllReadyIn.nil
      exact AllReadyIn.nil
     exact AllReadyIn.nil
    exact AllReadyIn.nil
   exact AllReadyIn.nil
  refine AllReadyIn.cons (o := _) (by simp only [List.getElem?_toArray, List.getElem?_cons_succ, List.getElem?_cons_zero]; rfl) (fun K hK => ?_) ?_
  ·go_simp
   refine hK _ _ ?_
   clear hK K
   try simp only [Act.put, List.setIfInBounds_toArray, List.set_cons_zero, List.set_cons_succ]
   refine wpAnyIn_ready (rs := [0, 2]) (by kernel_rfl) (by simp) ?_
   refine AllReadyIn.cons (o := _) (by simp only [List.getElem?_toArray, List.getElem?_cons_zero]; rfl) (fun K hK => ?_) ?_
   ·go_simp
    refine hK _ _ ?_
    clear hK K
    try simp only [Act.put, List.setIfInBounds_toArray, List.set_cons_zero, List.set_cons_succ]
    refine wpAnyIn_ready (rs := [2]) (by kernel_rfl) (by simp) ?_
    refine AllReadyIn.cons (o := _) (by simp only [List.getElem?_toArray, List.getElem?_cons_succ, List.getElem?_cons_zero]; rfl) (fun K hK => ?_) ?_
    ·go_simp
     refine ⟨trivial, ?_⟩
     refine (hT _ _).mono ?_
     rintro e w' ⟨rfl, rfl⟩
     dsimp only
     refine hK _ _ ?_
     clear hK K
     try simp only [Act.put, List.setIfInBounds_toArray, List.set_cons_zero, List.set_cons_succ]
     refine wpAnyIn_ready (rs := [3]) (by kernel_rfl) (by simp) ?_
     refine AllReadyIn.cons (o := _) (by simp only [List.getElem?_toArray, List.getElem?_cons_succ, List.getElem?_cons_zero]; rfl) (fun K hK => ?_) ?_
     ·go_simp
      refine hK _ _ ?_
      clear hK K
      try simp only [Act.put, List.setIfInBounds_toArray, List.set_cons_zero, List.set_cons_succ]
      refine wpAnyIn_ready (rs := [4]) (by kernel_rfl) (by simp) ?_
      refine AllReadyIn.cons (o := _) (by simp only [List.getElem?_toArray, List.getElem?_cons_succ, List.getElem?_cons_zero]; rfl) (fun K hK => ?_) ?_
      ·refine stepIn_append_own rfl _ _ 22 rfl (w.heap.size + 2) 9 i0 (.string ⟨#[]⟩) 1 16 Tryz.underlying22 hi hz0 hz1 hz2 rfl (by decide) v _ _ rfl (hrd.alloc _) ⟨W.heap.size, 0, none⟩ 1 1 [.string (trimB x)] rfl rfl (cell_one_new _ _ _) (by simp [Value.oneCell']) hml (by omega) (by show w.heap.size + 2 ≤ (W.drew.alloc _).heap.size; rw [World.size_alloc]; show _ ≤ W.heap.size + 1; omega) ?_
       intro v' w1 hown' hgrow hni
       obtain ⟨g', cap', rfl⟩ := ownsRow_succ hown'
       obtain ⟨hv1, hv2, hr2, hk2, hb2, hj2⟩ := boxed_app hvd hrd (by omega) (by show _ ≤ W.heap.size; omega) hown' hgrow
       have hc1 := hv1.cell
       have hf1 := hv1.frozen
       refine hK _ _ ?_
       clear hK K
       try simp only [Act.put, List.setIfInBounds_toArray, List.set_cons_zero, List.set_cons_succ]
       refine wpAnyIn_ready (rs := [5]) (by kernel_rfl) (by simp) ?_
       refine AllReadyIn.cons (o := _) (by simp only [List.getElem?_toArray, List.getElem?_cons_succ, List.getElem?_cons_zero]; rfl) (fun K hK => ?_) ?_
       ·go_simp
        refine hK _ _ ?_
        clear hK K
        try simp only [Act.put, List.setIfInBounds_toArray, List.set_cons_zero, List.set_cons_succ]
        refine wpAnyIn_done (by kernel_rfl) ?_ _
        exact fin _ _ (by simp) hk2 hb2 hv2 hr2 hj2 _
       exact AllReadyIn.nil
      exact AllReadyIn.nil
     exact AllReadyIn.nil
    exact AllReadyIn.nil
   refine AllReadyIn.cons (o := _) (by simp only [List.getElem?_toArray, List.getElem?_cons_succ, List.getElem?_cons_zero]; rfl) (fun K hK => ?_) ?_
   ·go_simp
    refine ⟨trivial, ?_⟩
    refine (hT _ _).mono ?_
    rintro e w' ⟨rfl, rfl⟩
    dsimp only
    refine hK _ _ ?_
    clear hK K
    try simp only [Act.put, List.setIfInBounds_toArray, List.set_cons_zero, List.set_cons_succ]
    refine wpAnyIn_ready (rs := [0, 3]) (by kernel_rfl) (by simp) ?_
    refine AllReadyIn.cons (o := _) (by simp only [List.getElem?_toArray, List.getElem?_cons_zero]; rfl) (fun K hK => ?_) ?_
    ·go_simp
     refine hK _ _ ?_
     clear hK K
     try simp only [Act.put, List.setIfInBounds_toArray, List.set_cons_zero, List.set_cons_succ]
     refine wpAnyIn_ready (rs := [3]) (by kernel_rfl) (by simp) ?_
     refine AllReadyIn.cons (o := _) (by simp only [List.getElem?_toArray, List.getElem?_cons_succ, List.getElem?_cons_zero]; rfl) (fun K hK => ?_) ?_
     ·go_simp
      refine hK _ _ ?_
      clear hK K
      try simp only [Act.put, List.setIfInBounds_toArray, List.set_cons_zero, List.set_cons_succ]
      refine wpAnyIn_ready (rs := [4]) (by kernel_rfl) (by simp) ?_
      refine AllReadyIn.cons (o := _) (by simp only [List.getElem?_toArray, List.getElem?_cons_succ, List.getElem?_cons_zero]; rfl) (fun K hK => ?_) ?_
      ·refine stepIn_append_own rfl _ _ 22 rfl (w.heap.size + 2) 9 i0 (.string ⟨#[]⟩) 1 16 Tryz.underlying22 hi hz0 hz1 hz2 rfl (by decide) v _ _ rfl (hrd.alloc _) ⟨W.heap.size, 0, none⟩ 1 1 [.string (trimB x)] rfl rfl (cell_one_new _ _ _) (by simp [Value.oneCell']) hml (by omega) (by show w.heap.size + 2 ≤ (W.drew.alloc _).heap.size; rw [World.size_alloc]; show _ ≤ W.heap.size + 1; omega) ?_
       intro v' w1 hown' hgrow hni
       obtain ⟨g', cap', rfl⟩ := ownsRow_succ hown'
       obtain ⟨hv1, hv2, hr2, hk2, hb2, hj2⟩ := boxed_app hvd hrd (by omega) (by show _ ≤ W.heap.size; omega) hown' hgrow
       have hc1 := hv1.cell
       have hf1 := hv1.frozen
       refine hK _ _ ?_
       clear hK K
       try simp only [Act.put, List.setIfInBounds_toArray, List.set_cons_zero, List.set_cons_succ]
       refine wpAnyIn_ready (rs := [5]) (by kernel_rfl) (by simp) ?_
       refine AllReadyIn.cons (o := _) (by simp only [List.getElem?_toArray, List.getElem?_cons_succ, List.getElem?_cons_zero]; rfl) (fun K hK => ?_) ?_
       ·go_simp
        refine hK _ _ ?_
        clear hK K
        try simp only [Act.put, List.setIfInBounds_toArray, List.set_cons_zero, List.set_cons_succ]
        refine wpAnyIn_done (by kernel_rfl) ?_ _
        exact fin _ _ (by simp) hk2 hb2 hv2 hr2 hj2 _
       exact AllReadyIn.nil
      exact AllReadyIn.nil
     exact AllReadyIn.nil
    refine AllReadyIn.cons (o := _) (by simp only [List.getElem?_toArray, List.getElem?_cons_succ, List.getElem?_cons_zero]; rfl) (fun K hK => ?_) ?_
    ·go_simp
     refine hK _ _ ?_
     clear hK K
     try simp only [Act.put, List.setIfInBounds_toArray, List.set_cons_zero, List.set_cons_succ]
     refine wpAnyIn_ready (rs := [0]) (by kernel_rfl) (by simp) ?_
     refine AllReadyIn.cons (o := _) (by simp only [List.getElem?_toArray, List.getElem?_cons_zero]; rfl) (fun K hK => ?_) ?_
     ·go_simp
      refine hK _ _ ?_
      clear hK K
      try simp only [Act.put, List.setIfInBounds_toArray, List.set_cons_zero, List.set_cons_succ]
      refine wpAnyIn_ready (rs := [4]) (by kernel_rfl) (by simp) ?_
      refine AllReadyIn.cons (o := _) (by simp only [List.getElem?_toArray, List.getElem?_cons_succ, List.getElem?_cons_zero]; rfl) (fun K hK => ?_) ?_
      ·refine stepIn_append_own rfl _ _ 22 rfl (w.heap.size + 2) 9 i0 (.string ⟨#[]⟩) 1 16 Tryz.underlying22 hi hz0 hz1 hz2 rfl (by decide) v _ _ rfl (hrd.alloc _) ⟨W.heap.size, 0, none⟩ 1 1 [.string (trimB x)] rfl rfl (cell_one_new _ _ _) (by simp [Value.oneCell']) hml (by omega) (by show w.heap.size + 2 ≤ (W.drew.alloc _).heap.size; rw [World.size_alloc]; show _ ≤ W.heap.size + 1; omega) ?_
       intro v' w1 hown' hgrow hni
       obtain ⟨g', cap', rfl⟩ := ownsRow_succ hown'
       obtain ⟨hv1, hv2, hr2, hk2, hb2, hj2⟩ := boxed_app hvd hrd (by omega) (by show _ ≤ W.heap.size; omega) hown' hgrow
       have hc1 := hv1.cell
       have hf1 := hv1.frozen
       refine hK _ _ ?_
       clear hK K
       try simp only [Act.put, List.setIfInBounds_toArray, List.set_cons_zero, List.set_cons_succ]
       refine wpAnyIn_ready (rs := [5]) (by kernel_rfl) (by simp) ?_
       refine AllReadyIn.cons (o := _) (by simp only [List.getElem?_toArray, List.getElem?_cons_succ, List.getElem?_cons_zero]; rfl) (fun K hK => ?_) ?_
       ·go_simp
        refine hK _ _ ?_
        clear hK K
        try simp only [Act.put, List.setIfInBounds_toArray, List.set_cons_zero, List.set_cons_succ]
        refine wpAnyIn_done (by kernel_rfl) ?_ _
        exact fin _ _ (by simp) hk2 hb2 hv2 hr2 hj2 _
       exact AllReadyIn.nil
      exact AllReadyIn.nil
     exact AllReadyIn.nil
    exact AllReadyIn.nil
   exact AllReadyIn.nil
  exact AllReadyIn.nil
 case done =>
  rintro D W hD ⟨⟨v, hv, hrow, hnil⟩, hB, hL⟩ hK
  have hc := hv.cell
  have hlen : (rawB s).length = (linesB s).length := by rw [← raw_trim, List.length_map]
  rw [raw_trim, hlen] at hrow
  rw [raw_trim] at hnil
  gi_wp2
  refine ⟨by simp, .inl ⟨_, _, rfl, run_takeDeferred hK, ?_⟩⟩
  exact ⟨_, results_tmp rfl _ _ _, v, rfl, ownsRow_putObj hrow _ hK rfl, hnil, hB.trans (belowK_b (w := w) (Nat.le_refl _) W D _ _ (by simp at hD; omega) hK rfl rfl)⟩
end
end Go.Proofs.YtdhmeganlnpohaaGreatDoor
namespace Go.Proofs.YtdhmeganlnpohaaGreatDoor
open Go.RowKit Go.Shelf
def valE (v : ValT) : Value := .agg #[.bool v.1, .string v.2]
theorem joinN_next (xs : List ByteArray) (k : Nat) (x : ByteArray) (h : xs[k]? = some x) : joinN ((xs.take (k + 1)).map (·.data.toList)) = joinN ((xs.take k).map (·.data.toList)) ++ x.data.toList ++ [10] := by
 rw [List.take_add_one, h, List.map_append, joinN_append]
 simp [joinN]
theorem joinN_take_le (xs : List ByteArray) (k : Nat) : (joinN ((xs.take k).map (·.data.toList))).length ≤ (joinN (xs.map (·.data.toList))).length := by
 conv => rhs; rw [← List.take_append_drop k xs, List.map_append, joinN_append]
 simp
set_option maxHeartbeats 4000000
set_option maxRecDepth 100000
theorem endEach_any (v : Value) (xs : List ByteArray) (w : World) (h : IsStrs w v xs) (hlen : (joinN (xs.map (·.data.toList))).length ≤ 1000000000) :
  Calls Tryz.prog 182 #[v] w fun e w' => e = .returned (.string ⟨(joinN (xs.map (·.data.toList))).toArray⟩) ∧ Below w.heap.size w w' := by
 obtain ⟨a, c, rfl, h1, h1m, h2⟩ := h
 have hcells : ∀ (k : Nat) x, xs[k]? = some x → ∃ b o, a = some ⟨b, o, none⟩ ∧ b < w.heap.size ∧ w.cell? ⟨b, o + k, none⟩ = some (.string x) := by
  intro k x hx
  obtain ⟨b, o, ha, hb, hc⟩ := h2 (by rintro rfl; simp at hx)
  exact ⟨b, o, ha, hb, hc k x hx⟩
 have HC := Lib.hid hcells
 have HLE := Lib.hid hlen
 clear hcells h2 hlen
 unfold maxLen at h1m
 obtain ⟨res, hres⟩ : ∃ res, res = joinN (xs.map (·.data.toList)) := ⟨_, rfl⟩
 rw [← hres]
 have HRES := Lib.hid hres
 clear hres
 have hB0 := Lib.fresh_isBuilder 193 5 w
 go_enter Tryz.func182, Tryz.ntmps182
 go_wp2
 go_loopw [8] (fun i wr => ∃ k : Nat, k ≤ xs.length ∧ i = .int .i64 k ∧ Lib.IsBuilder 193 5 w.heap.size w.heap.size (Lib.byteCells (joinN ((xs.take k).map (·.data.toList)))) wr ∧ Below w.heap.size w wr)
  (fun i _ => xs.length - (intOf i).toNat)
 case atStart => exact ⟨0, Nat.zero_le _, rfl, hB0, (Below.refl _ _).alloc (Nat.le_refl _) _⟩
 case round =>
  obtain ⟨k, hk, rfl, hbu, hnx⟩ := hrel
  obtain ⟨cur, hcur⟩ : ∃ cur, joinN ((xs.take k).map (·.data.toList)) = cur := ⟨_, rfl⟩
  rw [hcur] at hbu
  have HCUR := Lib.hid hcur
  have HBU := Lib.hid hbu
  clear hcur hB0 hbu
  have hle := joinN_take_le xs k
  rw [HCUR.out] at hle
  have hsz := hnx.size
  by_cases hlt : k < xs.length
  ·obtain ⟨x, hx⟩ : ∃ x, xs[k]? = some x := ⟨xs[k], List.getElem?_eq_getElem hlt⟩
   obtain ⟨b, o, ha, hb, hc⟩ := HC.out k x hx
   subst ha
   have hcx : wr.cell? ⟨b, o + k, none⟩ = some (.string x) := (hnx.cell (by exact hb)).trans hc
   have hnext := joinN_next xs k x hx
   have hle2 := joinN_take_le xs (k + 1)
   rw [hnext, HCUR.out] at hle2
   have hall := HLE.out
   simp only [List.length_append, List.length_cons, List.length_nil, ← Lib.size_eq] at hle2
   have HNX := Lib.hid hnext
   have HL := Lib.hid hle2
   have HA := Lib.hid hall
   have hi1 : (k : Int) < (xs.length : Int) := by omega
   have hi0 : (0 : Int) ≤ (k : Int) := by omega
   clear hnext hle2 hall hc hx hle
   go_wp2_with fail
   refine (writeString_c w.heap.size w.heap.size cur x _ HBU.out (by have := HL.out; have := HA.out; omega) (by omega)).mono ?_
   rintro e w3 ⟨rfl, h3, hb3⟩
   have s3 := hb3.size
   have H3 := Lib.hid h3
   clear h3
   go_wp2_with fail
   refine (writeByte_c w.heap.size w.heap.size (cur ++ x.data.toList) 10 10 rfl w3 H3.out (by have := HL.out; have := HA.out; simp only [List.length_append, ← Lib.size_eq]; omega) (by omega)).mono ?_
   rintro e w4 ⟨rfl, h4, hb4⟩
   have hnx5 := (hnx.trans hb3).trans hb4
   have H5 := Lib.hid h4
   clear h4
   go_wp2
   go_roundw
   case rel => exact ⟨k + 1, by omega, by go_num, by rw [HNX.out, HCUR.out]; exact H5.out, hnx5⟩
   case measure => simp [intOf]; omega
  ·have hfull : cur = res := by rw [← HCUR.out, List.take_of_length_le (by omega), HRES.out]
   have HF := Lib.hid hfull
   have hi1 : ¬ (k : Int) < (xs.length : Int) := by omega
   clear hfull
   go_wp2_with fail
   refine (builderString_c w.heap.size w.heap.size cur wr HBU.out hsz).mono ?_
   rintro e w2 ⟨rfl, hb2⟩
   go_wp2
   go_ret
   exact ⟨ret_str (by rw [HF.out]), hnx.trans hb2⟩
theorem join_flat (xs : List (List UInt8)) : Lib.join xs [] = xs.flatten := by
 unfold Lib.join
 induction xs with
 | nil => rfl
 | cons x l ih =>
  cases l with
  | nil => simp [List.intercalate]
  | cons y r => rw [List.flatten_cons, ← ih]; simp [List.intercalate, List.intersperse]
theorem whole_any (v : Value) (xs : List ByteArray) (w : World) (h : IsStrs w v xs) (hN : xs.length ≤ 1000000000) (hlen : (xs.map (·.data.toList)).flatten.length ≤ 1000000000) :
  Calls Tryz.prog 87 #[v] w fun e w' => e = .returned (valE (capV (xs.map (·.data.toList)).flatten)) ∧ Below w.heap.size w w' := by
 have hb : Below w.heap.size w (w.alloc (.cells #[.bool false, .string ⟨#[]⟩] 34)) := (Below.refl _ _).alloc (Nat.le_refl _) _
 have cJ := join_c v xs ⟨#[]⟩ _ (h.below hb) (by omega) (by rw [show (⟨#[]⟩ : ByteArray).data.toList = [] from rfl, join_flat]; omega)
 rw [show (⟨#[]⟩ : ByteArray).data.toList = [] from rfl, join_flat] at cJ
 obtain ⟨L, hL⟩ : ∃ L, (xs.map (·.data.toList)).flatten = L := ⟨_, rfl⟩
 rw [hL] at cJ hlen ⊢
 obtain ⟨T, hT⟩ : ∃ T : ByteArray, (⟨L.toArray⟩ : ByteArray) = T := ⟨_, rfl⟩
 have hTs : T.size = L.length := by rw [← hT]; simp [ByteArray.size]
 rw [hT] at cJ
 have CJ := Lib.hid cJ
 have HB := Lib.hid hb
 clear cJ hb h hN hL
 go_enter Tryz.func87, Tryz.ntmps87
 go_wp2_with fail
 refine CJ.out.mono ?_
 rintro e w2 ⟨rfl, hb2⟩
 have hx := (hb2.block w.heap.size (by simp)).trans (alloc_at w _)
 obtain ⟨d0, d1, f0, f1⟩ := cells2 hx
 have HX := Lib.hid hx
 have HB2 := Lib.hid (HB.out.trans (hb2.mono (by simp)))
 have hs2 := hb2.size
 simp only [World.size_alloc] at hs2
 have HS2 := Lib.hid hs2
 clear hb2 hs2
 by_cases hc : L.length ≤ 2000
 ·have hj : ¬ (2000 : Int) < (T.size : Int) := by omega
  have hv : capV L = (true, T) := by unfold capV; rw [if_pos hc, hT]
  go_wp2
  refine bodyPost_ret (results_c rfl _ _ w.heap.size _ _ _ _ rfl (heap_set _ _ (heap_set _ _ HX.out)) Tryz.underlying34 rfl (by kernel_rfl)) rfl ?_
  exact ⟨by rw [hv]; rfl, (HB2.out.setCell (p := ⟨w.heap.size, 0, none⟩) (Nat.le_refl _) _).setCell (p := ⟨w.heap.size, 1, none⟩) (Nat.le_refl _) _⟩
 ·have hj : (2000 : Int) < (T.size : Int) := by omega
  have hv : capV L = noV := by unfold capV; rw [if_neg hc]
  go_wp2
  refine bodyPost_ret (results_c rfl _ _ w.heap.size _ _ _ _ rfl (heap_set _ _ (heap_set _ _ HX.out)) Tryz.underlying34 rfl (by kernel_rfl)) rfl ?_
  exact ⟨by rw [hv]; rfl, (HB2.out.setCell (p := ⟨w.heap.size, 0, none⟩) (Nat.le_refl _) _).setCell (p := ⟨w.heap.size, 1, none⟩) (Nat.le_refl _) _⟩
end Go.Proofs.YtdhmeganlnpohaaGreatDoor
