import Derived.Test.YtdkainiiinjgmaaGreatDoorMao
import Derived.Test.YtdkainiiinjgmaaGreatDoorRows
import Derived.Deep.SlicePairs
import Derived.ProofKit
namespace Go.Proofs.YtdkainiiinjgmaaGreatDoor
open Go.RowKit Go.Shelf
theorem RowL.keep {w w' : World} {a : Option Addr} {xs : List Lb} {p m : Nat} (h : RowL w a xs) (hk : KeepBut p m w w') (ha : ∀ b, a = some b → b.block ≠ p ∧ b.block ≠ m) : RowL w' a xs := fun i x hx => by
 obtain ⟨b, o, h1, h2, h3⟩ := h i x hx
 have := ha _ h1
 exact ⟨b, o, h1, hk.cell h2 this.1 this.2, hk.cell h3 this.1 this.2⟩
def thoseL (f : Bool) (ms : List Lb) (xs : List Lb) : List Lb := xs.filter fun x => hasL x ms == f
theorem thoseL_take {f : Bool} {ms xs : List Lb} {k : Nat} {x : Lb} (h : xs[k]? = some x) : thoseL f ms (xs.take (k + 1)) = thoseL f ms (xs.take k) ++ (if hasL x ms == f then [x] else []) := by
 unfold thoseL
 rw [List.take_add_one, h, List.filter_append]
 congr 1
 show List.filter _ [x] = _
 cases h1 : (hasL x ms == f) <;> simp [List.filter, h1]
theorem addLs_app (ls xs ys : List Lb) : addLs ls (xs ++ ys) = addLs (addLs ls xs) ys := by unfold addLs; rw [List.foldl_append]
set_option maxHeartbeats 4000000
set_option maxRecDepth 100000
theorem lbThose (p q : Nat) (ls ms : List Lb) (f : Bool) (w : World) (hs : SetM w p ls) (ht : SetM w q ms) (hn : ls.length ≤ 1000) :
  Calls Tryz.prog 59 #[.pointer (some { block := p, off := 0 }), .pointer (some { block := q, off := 0 }), .bool f] w fun e w' => ∃ u, e = .returned (.pointer (some { block := u, off := 0 })) ∧ w.heap.size ≤ u ∧ SetM w' u (addLs [] (thoseL f ms (slb ls))) ∧ Below w.heap.size w w' := by
 have HS := Lib.hid hs
 have HT := Lib.hid ht
 obtain ⟨xs, hxs⟩ : ∃ xs, xs = slb ls := ⟨_, rfl⟩
 have l1 : xs.length ≤ 1000 := by rw [hxs, (slb_perm ls).length_eq]; exact hn
 rw [← hxs]
 have HXS := Lib.hid hxs
 clear hs ht hxs
 go_enter Tryz.func59, Tryz.ntmps59
 go_wp2_with fail
 refine (lbNew [] none 0 w (fun i x hx => by simp at hx) (by simp)).mono ?_
 rintro e w1 ⟨rfl, hc1, hm1, hb1⟩
 have HM1 := Lib.hid hm1
 have HC1 := Lib.hid hc1
 have HB1 := Lib.hid hb1
 clear hc1 hm1 hb1
 go_wp2_with fail
 refine (lbBase p w1).mono ?_
 rintro e w2 ⟨rfl, rfl⟩
 go_wp2_with fail
 refine (lbAll p ls w2 (HS.out.below HB1.out (Nat.le_refl _)) (by omega)).mono ?_
 rw [← HXS.out]
 rintro e w3 ⟨a, c, rfl, hr, hg, hb3⟩
 have hlt1 : w.heap.size < w2.heap.size := World.block_lt_of_cell? _ _ HC1.out
 have hlt2 : w.heap.size + 1 < w2.heap.size := HM1.out.1.lt
 have hc3 := cell_below HC1.out hb3 hlt1
 have HM3 := Lib.hid (HM1.out.below hb3 hlt2)
 have HR3 := Lib.hid hr
 have HG := Lib.hid (show ∀ b, a = some b → b.block ≠ w.heap.size ∧ b.block ≠ w.heap.size + 1 from fun b hb => by have := (hg b hb).1; omega)
 have HB3 := Lib.hid (HB1.out.trans (hb3.mono HB1.out.size))
 clear hr hg hb3
 go_wp2
 go_loopw [15] (fun iv wr => ∃ k : Nat, k ≤ xs.length ∧ iv = .int .i64 (k : Int) ∧ wr.cell? { block := w.heap.size, off := 0 } = some (.map (some (w.heap.size + 1))) ∧ LM wr (w.heap.size + 1) (addLs [] (thoseL f ms (xs.take k))) ∧ RowL wr a xs ∧ Below w.heap.size w wr) (fun iv _ => xs.length - (intOf iv).toNat)
 case atStart => exact ⟨0, Nat.zero_le _, rfl, hc3, HM3.out, HR3.out, HB3.out⟩
 case round =>
  obtain ⟨k, hk, rfl, hcell, hlm, hrow, hbw⟩ := hrel
  have HLM := Lib.hid hlm
  have HRW := Lib.hid hrow
  have HBW := Lib.hid hbw
  have HCE := Lib.hid hcell
  clear hlm hrow hbw hcell
  by_cases hlt : k < xs.length
  ·obtain ⟨x, hx⟩ : ∃ x, xs[k]? = some x := ⟨xs[k], List.getElem?_eq_getElem hlt⟩
   obtain ⟨b, o, rfl, h0, h1⟩ := HRW.out k x hx
   go_wp2_with fail
   have hbox : Hid ((wr.alloc (.cells #[.bool x.1, .string x.2] 38)).heap[wr.heap.size]? = some (.cells #[.bool x.1, .string x.2] 38)) := heap_alloc_new wr _
   have HBX : Hid (Below wr.heap.size wr (wr.alloc (.cells #[.bool x.1, .string x.2] 38))) := (Below.refl _ _).alloc (Nat.le_refl _) _
   have hsz1 : (wr.alloc (.cells #[.bool x.1, .string x.2] 38)).heap.size = wr.heap.size + 1 := by simp
   refine wp_region_held_drew (S := fun V => Below (wr.heap.size + 1) (wr.alloc (.cells #[.bool x.1, .string x.2] 38)) V) (by kernel_rfl) ?_ (fun hHeld => ?_)
   ·exact below_drewN (Below.refl _ _) 1
   refine tkK 0 ?_
   try simp only [Act.put, List.setIfInBounds_toArray, List.set_cons_zero, List.set_cons_succ]
   refine tkH 2 (v := ?_) ?_ ?_
   rotate_left
   ·intro w hSw; have p0 : w.cell? { block := wr.heap.size, off := 0 } = some (.bool x.1) := cell_below (by unfold World.cell?; rw [hbox.out]; rfl) hSw (Nat.lt_succ_self _); have p1 : w.cell? { block := wr.heap.size, off := 1 } = some (.string x.2) := cell_below (by unfold World.cell?; rw [hbox.out]; rfl) hSw (Nat.lt_succ_self _); go_simp; try with_reducible rfl
   try simp only [Act.put, List.setIfInBounds_toArray, List.set_cons_zero, List.set_cons_succ]
   refine tkK 4 ?_
   try simp only [Act.put, List.setIfInBounds_toArray, List.set_cons_zero, List.set_cons_succ]
   refine rdH [1] ?_
   refine rcH (fun K hK => ?_) ?_
   ·go_simp; refine (lbBase q _).mono ?_; rintro e w4 ⟨rfl, rfl⟩; dsimp only
    refine hK.out _ _ ?_ (fun hHeld => ?_)
    ·try dsimp only
     exact hHeld
    clear hK K
    try simp only [Act.put, List.setIfInBounds_toArray, List.set_cons_zero, List.set_cons_succ]
    refine rdH [3] ?_
    refine rcH (fun K hK => ?_) ?_
    ·go_simp; refine (lbHas q ms x _ ((HT.out.below HBW.out (Nat.le_refl _)).below (HBX.out.trans (hHeld.mono (Nat.le_succ _))) (Nat.le_refl _)).at).mono ?_; rintro e w5 ⟨rfl, hb5⟩; have HB5 := Lib.hid (hHeld.trans (hb5.mono (by rw [← hsz1]; exact hHeld.size))); clear hb5; dsimp only
     refine hK.out _ _ ?_ (fun hHeld => ?_)
     ·try dsimp only
      exact HB5.out
     clear hK K
     try simp only [Act.put, List.setIfInBounds_toArray, List.set_cons_zero, List.set_cons_succ]
     refine tkK 5 ?_
     try simp only [Act.put, List.setIfInBounds_toArray, List.set_cons_zero, List.set_cons_succ]
     refine wpAnyH_done (by kernel_rfl) ?_ _
     have HBV : Hid (Below wr.heap.size wr w5) := HBX.out.trans (HB5.out.mono (Nat.le_succ _))
     have hp0 : w5.cell? { block := wr.heap.size, off := 0 } = some (.bool x.1) := cell_below (by unfold World.cell?; rw [hbox.out]; rfl) HB5.out (Nat.lt_succ_self _)
     have hp1 : w5.cell? { block := wr.heap.size, off := 1 } = some (.string x.2) := cell_below (by unfold World.cell?; rw [hbox.out]; rfl) HB5.out (Nat.lt_succ_self _)
     have HW5 := Lib.hid (HBW.out.trans (HBV.out.mono HBW.out.size))
     have HC5 := Lib.hid (cell_below HCE.out HBV.out (World.block_lt_of_cell? _ _ HCE.out))
     have HL5 := Lib.hid (HLM.out.below HBV.out HLM.out.1.lt)
     have HR5 := Lib.hid (HRW.out.below HBV.out (Nat.le_refl _))
     have htk := thoseL_take (f := f) (ms := ms) hx
     obtain ⟨g, hg⟩ : ∃ g, g = (hasL x ms == f) := ⟨_, rfl⟩
     rw [← hg] at htk ⊢
     have HTK := Lib.hid htk
     clear htk hg
     cases g
     ·go_wp2_with fail
      exact ⟨⟨k + 1, by omega, by go_num, HC5.out, by rw [HTK.out, if_neg (by simp), List.append_nil]; exact HL5.out, HR5.out, HW5.out⟩, by simp only [intOf]; omega⟩
     ·go_wp2_with fail
      have hb6 : Below w5.heap.size w5 (w5.alloc (.cells #[.bool x.1, .string x.2] 38)) := (Below.refl _ _).alloc (Nat.le_refl _) _
      have hz6 : (w5.alloc (.cells #[.bool x.1, .string x.2] 38)).heap.size = w5.heap.size + 1 := by simp
      have hn6 : (w5.alloc (.cells #[.bool x.1, .string x.2] 38)).heap[w5.heap.size]? = some (.cells #[.bool x.1, .string x.2] 38) := heap_alloc_new w5 _
      have hrow : RowL (w5.alloc (.cells #[.bool x.1, .string x.2] 38)) (some { block := w5.heap.size, off := 0 }) [x] := fun i y hy => by
       cases i with
       | zero => cases hy; exact ⟨_, 0, rfl, by unfold World.cell?; rw [hn6]; rfl, by unfold World.cell?; rw [hn6]; rfl⟩
       | succ i => simp at hy
      have hcl := World.block_lt_of_cell? _ _ HC5.out
      have hml := HL5.out.1.lt
      have hbl : b < wr.heap.size := World.block_lt_of_cell? _ _ h0
      have hsv := HBV.out.size
      have hlen : (addLs [] (thoseL f ms (xs.take k))).length ≤ 1000 := by
       have h1 := (addLs_len [] (thoseL f ms (xs.take k))).2
       have h2 : (thoseL f ms (xs.take k)).length ≤ (xs.take k).length := List.length_filter_le _ _
       rw [List.length_take] at h2
       simp at h1
       omega
      refine (lbAdd w.heap.size (w.heap.size + 1) (addLs [] (thoseL f ms (xs.take k))) [x] (some { block := w5.heap.size, off := 0 }) 1 _ (cell_below HC5.out hb6 hcl) (by omega) (HL5.out.below hb6 hml) hrow (fun _ b hb => by cases hb; exact ⟨by simp only; omega, by simp only; omega⟩) (by simp; omega)).mono ?_
      rintro e w7 ⟨rfl, hc7, hm7, hk7⟩
      have HC7 := Lib.hid hc7
      have HM7 := Lib.hid hm7
      have HK7 := Lib.hid hk7
      have HR7 := Lib.hid (RowL.keep (HR5.out.below hb6 (Nat.le_refl _)) hk7 (fun b hb => by cases hb; have := (HG.out _ rfl).2; exact ⟨by simp only; omega, this⟩))
      have HW7 : Hid (Below w.heap.size w w7) := (HW5.out.trans (hb6.mono HW5.out.size)).trans ⟨hk7.os, hk7.tape, hk7.output, hk7.size, fun k hk => hk7.block k (by omega) (by omega) (by omega)⟩
      clear hc7 hm7 hk7 hrow hn6 hb6
      go_wp2_with fail
      exact ⟨⟨k + 1, by omega, by go_num, HC7.out, by rw [HTK.out]; simp only [if_true]; rw [addLs_app]; exact HM7.out, HR7.out, HW7.out⟩, by simp only [intOf]; omega⟩
    exact AllReadyH.nil
   exact AllReadyH.nil
  ·have hkn : k = xs.length := by omega
   subst hkn
   rw [List.take_length] at HLM
   go_wp2
   go_ret
   exact ⟨_, rfl, Nat.le_refl _, ⟨_, HCE.out, by omega, HLM.out⟩, HBW.out⟩
theorem lbMeet (p q : Nat) (ls ms : List Lb) (w : World) (hs : SetM w p ls) (ht : SetM w q ms) (hn : ls.length ≤ 1000) :
  Calls Tryz.prog 12 #[.pointer (some { block := p, off := 0 }), .pointer (some { block := q, off := 0 })] w fun e w' => ∃ u, e = .returned (.pointer (some { block := u, off := 0 })) ∧ w.heap.size ≤ u ∧ SetM w' u (addLs [] (thoseL true ms (slb ls))) ∧ Below w.heap.size w w' := by
 have HC := Lib.hid (lbThose p q ls ms true w hs ht hn)
 clear hs ht
 go_enter Tryz.func12, Tryz.ntmps12
 go_wp2_with fail
 refine HC.out.mono ?_
 rintro e w1 ⟨u, rfl, h1, h2, h3⟩
 have H2 := Lib.hid h2
 have H3 := Lib.hid h3
 clear h2 h3
 go_wp2
 go_ret
 exact ⟨_, rfl, h1, H2.out, H3.out⟩
theorem lbBut (p q : Nat) (ls ms : List Lb) (w : World) (hs : SetM w p ls) (ht : SetM w q ms) (hn : ls.length ≤ 1000) :
  Calls Tryz.prog 13 #[.pointer (some { block := p, off := 0 }), .pointer (some { block := q, off := 0 })] w fun e w' => ∃ u, e = .returned (.pointer (some { block := u, off := 0 })) ∧ w.heap.size ≤ u ∧ SetM w' u (addLs [] (thoseL false ms (slb ls))) ∧ Below w.heap.size w w' := by
 have HC := Lib.hid (lbThose p q ls ms false w hs ht hn)
 clear hs ht
 go_enter Tryz.func13, Tryz.ntmps13
 go_wp2_with fail
 refine HC.out.mono ?_
 rintro e w1 ⟨u, rfl, h1, h2, h3⟩
 have H2 := Lib.hid h2
 have H3 := Lib.hid h3
 clear h2 h3
 go_wp2
 go_ret
 exact ⟨_, rfl, h1, H2.out, H3.out⟩
end Go.Proofs.YtdkainiiinjgmaaGreatDoor
namespace Go.Proofs.YtdkainiiinjgmaaGreatDoor
open Go.RowKit Go.Shelf
def eqLs (ls ms : List Lb) : Bool := decide (ls.length = ms.length) && decide ((addLs [] (thoseL false ms (slb ls))).length = 0)
set_option maxHeartbeats 4000000
set_option maxRecDepth 100000
theorem lbEq (p q : Nat) (ls ms : List Lb) (w : World) (hs : SetM w p ls) (ht : SetM w q ms) (hn : ls.length ≤ 1000) :
  Calls Tryz.prog 14 #[.pointer (some { block := p, off := 0 }), .pointer (some { block := q, off := 0 })] w fun e w' => e = .returned (.bool (eqLs ls ms)) ∧ Below w.heap.size w w' := by
 have CL := Lib.hid (lbLen p ls w hs.at)
 have CM := Lib.hid (lbLen q ms w ht.at)
 have CB := Lib.hid (lbBut p q ls ms w hs ht hn)
 have hb1 := fun w => lbBase p w
 have hb2 := fun w => lbBase q w
 have HB1 := Lib.hid hb1
 have HB2 := Lib.hid hb2
 clear hb1 hb2 hs ht
 go_enter Tryz.func14, Tryz.ntmps14
 go_wp2_with fail
 refine (HB1.out _).mono ?_
 rintro e w1 ⟨rfl, rfl⟩
 go_wp2_with fail
 refine CL.out.mono ?_
 rintro e w2 ⟨rfl, rfl⟩
 go_wp2_with fail
 refine (HB2.out _).mono ?_
 rintro e w3 ⟨rfl, rfl⟩
 go_wp2_with fail
 refine CM.out.mono ?_
 rintro e w4 ⟨rfl, rfl⟩
 by_cases h : ls.length = ms.length
 ·have h' : (ls.length : Int) = (ms.length : Int) := by omega
  go_wp2_with fail
  refine CB.out.mono ?_
  rintro e w5 ⟨v, rfl, hv1, hv2, hv3⟩
  have hlv := lbLen v _ w5 hv2.at
  have HV3 := Lib.hid hv3
  have HLV := Lib.hid hlv
  clear hv2 hv3 hlv
  go_wp2_with fail
  refine HLV.out.mono ?_
  rintro e w6 ⟨rfl, rfl⟩
  go_wp2_with fail
  go_ret
  have he : eqLs ls ms = (((addLs [] (thoseL false ms (slb ls))).length : Int) == 0) := by
   unfold eqLs
   rw [decide_eq_true h, Bool.true_and]
   cases addLs [] (thoseL false ms (slb ls)) with
   | nil => rfl
   | cons x xs =>
    rw [decide_eq_false (by simp)]
    symm
    rw [beq_eq_false_iff_ne]
    simp only [List.length_cons]
    omega
  rw [he]
  exact ⟨rfl, HV3.out⟩
 ·have h' : ¬ (ls.length : Int) = (ms.length : Int) := by omega
  go_wp2_with fail
  go_ret
  have he : eqLs ls ms = false := by unfold eqLs; rw [decide_eq_false h]; rfl
  rw [he]
  exact ⟨rfl, Below.refl _ _⟩
end Go.Proofs.YtdkainiiinjgmaaGreatDoor
namespace Go.Proofs.YtdkainiiinjgmaaGreatDoor
def uniS (ls ms : List Lb) : List Lb := addLs (addLs [] (slb ls)) (slb ms)
def meetS (ls ms : List Lb) : List Lb := addLs [] (thoseL true ms (slb ls))
def butS (ls ms : List Lb) : List Lb := addLs [] (thoseL false ms (slb ls))
def newS (xs : List Lb) : List Lb := addLs [] (xs.take 20)
theorem newS_len (xs : List Lb) : (newS xs).length ≤ 20 := by
 have h := (addLs_len [] (xs.take 20)).2
 rw [List.length_take] at h
 unfold newS
 simp at h
 omega
theorem uniS_len (ls ms : List Lb) : (uniS ls ms).length ≤ ls.length + ms.length := by
 have h1 := (addLs_len [] (slb ls)).2
 have h2 := (addLs_len (addLs [] (slb ls)) (slb ms)).2
 have h3 := (slb_perm ls).length_eq
 have h4 := (slb_perm ms).length_eq
 unfold uniS
 simp at h1
 omega
theorem those_len (f : Bool) (ls ms : List Lb) : (addLs [] (thoseL f ms (slb ls))).length ≤ ls.length := by
 have h1 := (addLs_len [] (thoseL f ms (slb ls))).2
 have h2 : (thoseL f ms (slb ls)).length ≤ (slb ls).length := List.length_filter_le _ _
 have h3 := (slb_perm ls).length_eq
 simp at h1
 omega
theorem mem_uniS {x : Lb} {l m : List Lb} : x ∈ uniS l m ↔ x ∈ l ∨ x ∈ m := by
 unfold uniS
 rw [mem_addLs, mem_addLs, slb_mem, slb_mem]
 simp
theorem mem_those {x : Lb} {f : Bool} {l m : List Lb} : x ∈ addLs [] (thoseL f m (slb l)) ↔ x ∈ l ∧ hasL x m = f := by
 rw [mem_addLs]
 unfold thoseL
 rw [List.mem_filter, slb_mem]
 simp
theorem mem_meetS {x : Lb} {l m : List Lb} : x ∈ meetS l m ↔ x ∈ l ∧ x ∈ m := by
 unfold meetS
 rw [mem_those, hasL_iff]
theorem mem_butS {x : Lb} {l m : List Lb} : x ∈ butS l m ↔ x ∈ l ∧ x ∉ m := by
 unfold butS
 rw [mem_those, ← Bool.not_eq_true, hasL_iff]
theorem nodup_uniS (l m : List Lb) : (uniS l m).Nodup := nodup_addLs (nodup_addLs List.nodup_nil)
theorem nodup_meetS (l m : List Lb) : (meetS l m).Nodup := nodup_addLs List.nodup_nil
theorem nodup_butS (l m : List Lb) : (butS l m).Nodup := nodup_addLs List.nodup_nil
theorem nodup_newS (l : List Lb) : (newS l).Nodup := nodup_addLs List.nodup_nil
theorem len_ext {a b : List Lb} (ha : a.Nodup) (hb : b.Nodup) (h : ∀ x, x ∈ a ↔ x ∈ b) : a.length = b.length := by
 have e : slb a = slb b := rising_ext (rising_slb ha) (rising_slb hb) fun x => by rw [slb_mem, slb_mem]; exact h x
 rw [← (slb_perm a).length_eq, e, (slb_perm b).length_eq]
theorem nil_of {l : List Lb} (h : ∀ x, x ∉ l) : l = [] := by
 cases l with
 | nil => rfl
 | cons x xs => exact absurd (List.mem_cons_self) (h x)
theorem eqLs_ext {a b : List Lb} (ha : a.Nodup) (hb : b.Nodup) (h : ∀ x, x ∈ a ↔ x ∈ b) : eqLs a b = true := by
 unfold eqLs
 rw [decide_eq_true (len_ext ha hb h)]
 have e : addLs [] (thoseL false b (slb a)) = [] := nil_of fun x hx => by
  have := (mem_butS (l := a) (m := b)).1 hx
  exact this.2 ((h x).1 this.1)
 rw [e]
 rfl
theorem butS_self (l : List Lb) : butS l l = [] := nil_of fun _ hx => (mem_butS.1 hx).2 (mem_butS.1 hx).1
theorem filter_two (p : Lb → Bool) : ∀ l : List Lb, (l.filter p).length + (l.filter fun x => !p x).length = l.length
 | [] => rfl
 | x :: xs => by
  have h := filter_two p xs
  cases hp : p x <;> simp [hp] <;> omega
theorem len_two {a b : List Lb} (ha : a.Nodup) (hb : b.Nodup) : (uniS a b).length + (meetS a b).length = a.length + b.length := by
 have h1 : (uniS a b).length = (a ++ b.filter fun x => !hasL x a).length := by
  refine len_ext (nodup_uniS a b) (List.nodup_append.2 ⟨ha, hb.filter _, ?_⟩) ?_
  ·intro x hx y hy e
   subst e
   have := (List.mem_filter.1 hy).2
   rw [hasL_iff.2 hx] at this
   cases this
  ·intro x
   rw [mem_uniS, List.mem_append, List.mem_filter]
   constructor
   ·rintro (h | h)
    ·exact .inl h
    ·by_cases hx : x ∈ a
     ·exact .inl hx
     ·exact .inr ⟨h, by rw [hasL_not hx]; rfl⟩
   ·rintro (h | h)
    ·exact .inl h
    ·exact .inr h.1
 have h2 : (meetS a b).length = (b.filter fun x => hasL x a).length := by
  refine len_ext (nodup_meetS a b) (hb.filter _) ?_
  intro x
  rw [mem_meetS, List.mem_filter, hasL_iff]
  exact And.comm
 have h3 := filter_two (fun x => hasL x a) b
 rw [h1, h2, List.length_append]
 omega
theorem lw_dist (a b c : List Lb) : eqLs (uniS a (meetS b c)) (meetS (uniS a b) (uniS a c)) = true := eqLs_ext (nodup_uniS _ _) (nodup_meetS _ _) fun x => by
 rw [mem_uniS, mem_meetS, mem_meetS, mem_uniS, mem_uniS]
 constructor
 ·rintro (h | h)
  ·exact ⟨.inl h, .inl h⟩
  ·exact ⟨.inr h.1, .inr h.2⟩
 ·rintro ⟨h1 | h1, h2 | h2⟩
  ·exact .inl h1
  ·exact .inl h1
  ·exact .inl h2
  ·exact .inr ⟨h1, h2⟩
theorem lw_but (a b c : List Lb) : eqLs (butS a (uniS b c)) (butS (butS a b) c) = true := eqLs_ext (nodup_butS _ _) (nodup_butS _ _) fun x => by
 rw [mem_butS, mem_butS, mem_butS, mem_uniS]
 constructor
 ·rintro ⟨h1, h2⟩
  exact ⟨⟨h1, fun h => h2 (.inl h)⟩, fun h => h2 (.inr h)⟩
 ·rintro ⟨⟨h1, h2⟩, h3⟩
  exact ⟨h1, fun h => h.elim h2 h3⟩
theorem lw_meet (a b : List Lb) : eqLs (meetS a b) (butS a (butS a b)) = true := eqLs_ext (nodup_meetS _ _) (nodup_butS _ _) fun x => by
 rw [mem_meetS, mem_butS, mem_butS]
 constructor
 ·rintro ⟨h1, h2⟩
  exact ⟨h1, fun h => h.2 h2⟩
 ·rintro ⟨h1, h2⟩
  exact ⟨h1, Classical.byContradiction fun h => h2 ⟨h1, h⟩⟩
theorem lw_self {a : List Lb} (ha : a.Nodup) : eqLs (meetS a a) a = true := eqLs_ext (nodup_meetS _ _) ha fun _ => by
 rw [mem_meetS]
 exact ⟨fun h => h.1, fun h => ⟨h, h⟩⟩
end Go.Proofs.YtdkainiiinjgmaaGreatDoor
namespace Go.Proofs.YtdkainiiinjgmaaGreatDoor
open Go.RowKit Go.Shelf
theorem RowL.take {w : World} {a : Option Addr} {xs : List Lb} (h : RowL w a xs) (n : Nat) : RowL w a (xs.take n) := fun i x hx => by
 rw [List.getElem?_take] at hx
 split at hx
 ·exact h i x hx
 ·cases hx
theorem lcs_add {w : World} {b o : Nat} {xs : List Lb} (h : RowL w (some { block := b, off := o }) xs) : ∀ j u, (lcs xs)[j]? = some u → w.cell? (({ block := b, off := o } : Addr).add j) = some u := by
 intro j u hu
 have hj : j < xs.length * 2 := by rw [← lcs_len]; exact (List.getElem?_eq_some_iff.1 hu).1
 have hi : j / 2 < xs.length := by omega
 obtain ⟨x, hx⟩ : ∃ x, xs[j / 2]? = some x := ⟨_, List.getElem?_eq_getElem hi⟩
 obtain ⟨b', o', h1, h2, h3⟩ := h _ _ hx
 injection Option.some.inj h1 with h4 h5
 subst h4 h5
 have h6 := lcs_get hx
 rw [Addr.add_lit]
 rcases Nat.mod_two_eq_zero_or_one j with hm | hm
 ·have e : j = j / 2 * 2 := by omega
  rw [e, h6.1] at hu
  cases hu
  rw [show o + j = o + j / 2 * 2 by omega]; exact h2
 ·have e : j = j / 2 * 2 + 1 := by omega
  rw [e, h6.2] at hu
  cases hu
  rw [show o + j = o + j / 2 * 2 + 1 by omega]; exact h3
theorem lcs_one (xs : List Lb) : ∀ u ∈ lcs xs, u.oneCell' = true := by
 intro u hu
 unfold lcs at hu
 obtain ⟨l, hl, hu⟩ := List.mem_flatten.1 hu
 obtain ⟨x, _, rfl⟩ := List.mem_map.1 hl
 exact lc_one x u hu
set_option maxHeartbeats 4000000
set_option maxRecDepth 100000
theorem lbFew (xs : List Lb) (a : Option Addr) (c : Nat) (w : World) (hr : RowL w a xs) (hc : xs.length ≤ c) :
  Calls Tryz.prog 10 #[.slice a xs.length c] w fun e w' => ∃ v, e = .returned v ∧ w'.ownsRow w.heap.size 38 2 v (xs.take 20).length (lcs (xs.take 20)) ∧ Below w.heap.size w w' := by
 obtain ⟨i0, hi, hz0, hz1, hz2⟩ := info_parts infoLb
 have hmn : (min (xs.length : Int) 20).toNat = min 20 xs.length := by omega
 cases a with
 | none =>
  have h0 : xs = [] := by
   cases xs with
   | nil => rfl
   | cons x xs => obtain ⟨b, o, h1, _⟩ := hr 0 x rfl; cases h1
  subst h0
  go_enter Tryz.func10, Tryz.ntmps10
  go_wp2_with fail
  go_ret
  exact ⟨_, rfl, World.ownsRow_nil _ _ _ _, Below.refl _ _⟩
 | some ad =>
  have hl : (lcs (xs.take 20)).length = min 20 xs.length * 2 := by rw [lcs_len, List.length_take]
  have hnews : ∀ j u, (lcs (xs.take 20))[j]? = some u → w.cell? (ad.add j) = some u := by
   intro j u hu
   cases xs with
   | nil => simp [lcs] at hu
   | cons x xs =>
    obtain ⟨b, o, h1, _⟩ := hr 0 x rfl
    obtain rfl := Option.some.inj h1
    exact lcs_add (hr.take 20) j u hu
  have h63 : 0 + min 20 xs.length ≤ maxLen := by have : maxLen = 9223372036854775807 := rfl; omega
  have hby : (0 + min 20 xs.length) * 24 ≤ 140737488355328 := by omega
  have HL := Lib.hid hl
  have HN := Lib.hid hnews
  have H6 := Lib.hid h63
  have HB := Lib.hid hby
  clear hl hnews h63 hby
  go_enter Tryz.func10, Tryz.ntmps10
  go_wp2_with (at_builtin; refine wpList_append_own _ rfl _ _ 22 rfl w.heap.size 38 i0 (.agg #[.bool false, .string ⟨#[]⟩]) 2 24 Tryz.underlying22 hi hz0 hz1 hz2 rfl (by decide) _ 0 [] rfl (World.ownsRow_nil _ _ _ _) ad (min 20 xs.length) c (lcs (xs.take 20)) rfl HL.out HN.out (lcs_one _) H6.out HB.out (Nat.le_refl _) ?_)
  intro v' w' h1 h2 _
  have H1 := Lib.hid h1
  have H2 := Lib.hid h2
  clear h1 h2
  go_wp2
  go_ret
  refine ⟨_, rfl, ?_, Below.grown (Below.refl _ _) H2.out (Nat.le_refl _) (fun k e => by cases e)⟩
  rw [List.length_take]
  exact H1.out
end Go.Proofs.YtdkainiiinjgmaaGreatDoor
namespace Go.Proofs.YtdkainiiinjgmaaGreatDoor
theorem bulk_part {H : Type} {d : DataW H} {l : List (DataW H)} (h : d ∈ l) : Rows.uptoBulk d ≤ Rows.uptoBulkAll l := by
 induction l with
 | nil => cases h
 | cons x r ih =>
  simp only [Rows.uptoBulkAll]
  cases List.mem_cons.1 h with
  | inl e => subst e; omega
  | inr e => have := ih e; omega
theorem bulk_slice {H : Type} (elems spare : List (DataW H)) : Rows.uptoBulkAll elems + 1 ≤ Rows.uptoBulk (.slice elems spare) := by
 simp only [Rows.uptoBulk]
 omega
end Go.Proofs.YtdkainiiinjgmaaGreatDoor
namespace Go.Proofs.YtdkainiiinjgmaaGreatDoor
open Go.ChangeShapes Go.WideShapes Go.ChangeAt Go.RowKit Go.Deep
def boolL : Value → Bool
 | .bool b => b
 | _ => false
def strL : Value → ByteArray
 | .string s => s
 | _ => ByteArray.empty
def IsLabs (w : World) (v : Value) (vs : List Lb) : Prop :=
 ∃ a c, v = .slice a vs.length c ∧ vs.length ≤ c ∧ c ≤ maxLen ∧ (vs ≠ [] → ∃ b o, a = some ⟨b, o, none⟩ ∧ b < w.heap.size ∧ ∀ (j : Nat) x, vs[j]? = some x → w.cell? ⟨b, o + j * 2, none⟩ = some (.bool x.1) ∧ w.cell? ⟨b, o + j * 2 + 1, none⟩ = some (.string x.2))
theorem IsLabs.row {w : World} {v : Value} {vs : List Lb} (h : IsLabs w v vs) : ∃ a c, v = .slice a vs.length c ∧ vs.length ≤ c ∧ c ≤ maxLen ∧ RowL w a vs := by
 obtain ⟨a, c, h1, h2, h3, h4⟩ := h
 refine ⟨a, c, h1, h2, h3, fun i x hx => ?_⟩
 obtain ⟨b, o, h5, _, h6⟩ := h4 (by rintro rfl; simp at hx)
 exact ⟨b, o, h5, h6 i x hx⟩
set_option maxRecDepth 100000 in
theorem open_labs {H : Type} {enc : TypeId × Value → H} {W : World} {base : Nat} {r : Reach} {b0 : Nat} {sp : Nat → Bool} {held : Bool} {v : Value} {d : DataW H} {ps : List MemPlace}
  (hval : Value.okWide Tryz.prog W r b0 22 v) (h : DataW.Trod enc Tryz.prog W base sp held 22 v d ps) :
  ∃ fs : List (Bool × ByteArray), IsLabs W v fs ∧ ∀ f ∈ fs, f.2.size ≤ Rows.uptoBulk d := by
 obtain ⟨a, n, c, rfl⟩ := okWide_slice Tryz.underlying22 hval
 obtain ⟨fuel, hf⟩ := h
 rcases open_slice_pairs Tryz.underlying22 Tryz.underlying38 (by kernel_rfl) rfl rfl (by kernel_rfl) (by kernel_rfl) hf with ⟨hcs, _⟩ | ⟨a', len, cap, m, k, V0, V1, D0, D1, P0, P1, hcs, hb, hl, hm, hmm, hd, hall⟩
 ·simp [Value.cells] at hcs
  obtain ⟨rfl, rfl, rfl⟩ := hcs
  exact ⟨[], ⟨none, 0, rfl, by simp, by simp [maxLen], fun h => absurd rfl h⟩, by simp⟩
 ·simp [Value.cells] at hcs
  obtain ⟨rfl, rfl, rfl⟩ := hcs
  have hnm : n ≤ m := by rw [hmm]; split <;> omega
  have each : ∀ i, i < n → W.cell? (a'.add (i * 2)) = some (.bool (boolL (V0 i))) ∧ W.cell? (a'.add (i * 2 + 1)) = some (.string (strL (V1 i))) ∧ D1 i = .lit (.string (strL (V1 i)).data.toList) := by
   intro i hi
   obtain ⟨c0, c1, t0, t1⟩ := hall i (by omega)
   obtain ⟨s0, e0, _⟩ := DataW.trod_bool Tryz.underlying4 t0
   obtain ⟨s1, e1, d1, w1⟩ := DataW.trod_string Tryz.underlying9 t1
   simp at e0 e1
   simp only [Prod.mk.injEq] at d1
   rw [e0] at c0
   rw [e1] at c1
   rw [e0, e1]
   exact ⟨c0, c1, d1.1⟩
  refine ⟨(List.range n).map fun i => (boolL (V0 i), strL (V1 i)), ⟨some a', c, by simp, by simpa using hl, hm, fun hne => ?_⟩, ?_⟩
  ·have hn : 0 < n := by
    rcases Nat.eq_zero_or_pos n with h0 | h0
    ·subst h0; simp at hne
    ·exact h0
   obtain ⟨b, o, sp'⟩ := a'
   have h0 := (each 0 hn).1
   have hs : sp' = none := by simpa [Addr.add] using World.cell?_spot h0
   subst hs
   refine ⟨b, o, rfl, ?_, fun j x hx => ?_⟩
   ·simpa [Addr.add] using cell_lt h0
   ·have hj : j < n := by have := (List.getElem?_eq_some_iff.1 hx).1; simpa using this
    rw [List.getElem?_map, List.getElem?_range hj] at hx
    simp at hx
    subst hx
    obtain ⟨h1, h2, _⟩ := each j hj
    rw [Addr.add_lit] at h1 h2
    exact ⟨h1, h2⟩
  ·intro f hf
   obtain ⟨i, hi, rfl⟩ := List.mem_map.1 hf
   have e2 := (each i (List.mem_range.1 hi)).2.2
   injection hd with hd _
   have h1 := bulk_part (show DataW.agg [D0 i, D1 i] ∈ (List.range n).map fun i => DataW.agg [D0 i, D1 i] from List.mem_map.2 ⟨i, hi, rfl⟩)
   have h2 := bulk_slice ((List.range n).map fun i => DataW.agg [D0 i, D1 i]) ((List.range (m - n)).map fun j => DataW.agg [D0 (n + j), D1 (n + j)])
   rw [← hd] at h2
   simp only [Rows.uptoBulk, Rows.uptoBulkAll, e2] at h1
   show (strL (V1 i)).size ≤ _
   rw [Lib.size_eq]
   omega
end Go.Proofs.YtdkainiiinjgmaaGreatDoor
