/- The law PrintSorted: the walk. -/
import Derived.Deep.CutBlock
import Derived.Deep.DeepCutAuto
import Derived.Test.YtknpcbjjofdlmaaGreatDoorMbeg
import Derived.Test.YtknpcbjjofdlmaaGreatDoorMrs
import Derived.Test.YtknpcbjjofdlmaaGreatDoorMlaw
import Derived.Test.YtknpcbjjofdlmaaGreatDoorMsrb
namespace Go.Proofs.YtknpcbjjofdlmaaGreatDoor.lawPrintSorted
open Go.RowKit Go.Shelf

abbrev N0 : Nat → Prop := fun _ => False
theorem gt_false {a b : List UInt8} (h : Op.bytesLess b a = false) : (!Op.bytesLess a b && !a == b) = false := by
  rw [bless_lt, decide_eq_false_iff_not] at h
  by_cases h1 : a < b
  · simp [bless_lt, h1]
  · have : a = b := List.le_antisymm (List.not_lt.1 h) (List.not_lt.1 h1)
    simp [this]
theorem strs_at {Av : Nat → Prop} {w : World} {a : Option Addr} {n c : Nat} {xs : List ByteArray} (h : StrsA Av w (.slice a n c) xs) : n = xs.length ∧ xs.length ≤ maxLen ∧ ∀ (i : Nat) y, xs[i]? = some y → ∃ b o, a = some ⟨b, o, none⟩ ∧ ∀ w', Below w.heap.size w w' → w'.cell? ⟨b, o + i, none⟩ = some (.string y) := by
  obtain ⟨a', c', q, h1, h2, h3⟩ := strsA_shape h
  injection q with q1 q2 q3
  subst q1 q2 q3
  refine ⟨rfl, by omega, fun i y hy => ?_⟩
  obtain ⟨b, o, e, hb, hc⟩ := h3 (by rintro rfl; simp at hy)
  exact ⟨b, o, e, fun w' hw => (hw.cell (p := ⟨b, o + i, none⟩) hb).trans (hc i y hy)⟩
theorem gt_name {a b : ByteArray} (h : Op.bytesLess b.data.toList a.data.toList = false) : (!Op.bytesLess a.toList b.toList && !a.toList == b.toList) = false := by
  rw [ByteArray.toList_eq, ByteArray.toList_eq]
  exact gt_false h

set_option maxHeartbeats 8000000 in
set_option maxRecDepth 100000 in
theorem law (v : Value) (xs : List RuleS) (w : World) (hI : RulesI w v xs) (hu : xs.length ≤ 1048576 ∧ ∀ y ∈ xs, SmallR y 1048576) (hG : GP w.heap.size w) :
    Calls Tryz.prog 7 #[v] w fun e w' => e = .returned (.bool true) ∧ Below w.heap.size w w' := by
  have C0 := Lib.hid (begun4_any w hG)
  have CL : Hid (∀ w', Below w.heap.size w w' → Calls Tryz.prog 9 #[v] w' (SortedRulesPost w' (cutRs 42 xs))) := by
    show ∀ w', _
    exact fun w' hb => lawRules_any v xs w' (hI.below hb) hu.2
  obtain ⟨ys, hys⟩ : ∃ ys, cutRs 42 xs = ys := ⟨_, rfl⟩
  have hyl : ys.length ≤ 42 := by rw [← hys, cutRs_len]; omega
  have HYS : Hid (∀ y ∈ ys, SmallR y 1048576 ∧ ShortR y) := by
    show ∀ y ∈ ys, _
    intro y hy
    rw [← hys] at hy
    obtain ⟨x, hx, rfl⟩ := List.mem_map.1 (show y ∈ (xs.take 42).map cutR from hy)
    exact ⟨small_cutR (hu.2 x (List.mem_of_mem_take hx)), short_cutR x⟩
  have HLS : Hid (∀ y ∈ sortRs ys, SmallR y 1048576 ∧ ShortR y) := by
    show ∀ y ∈ sortRs ys, _
    intro y hy
    obtain ⟨x, hx, rfl⟩ := mem_sortRs hy
    exact ⟨small_sortR (HYS.out x hx).1, short_sortR (HYS.out x hx).2⟩
  rw [hys] at CL
  have CS : Hid (∀ w' v' zs, RulesA N0 w' v' zs → zs.length ≤ 42 → (∀ y ∈ zs, SmallR y 1048576 ∧ ShortR y) → Calls Tryz.prog 23 #[v'] w' (SortedRulesPost w' (sortRs zs))) := by
    show ∀ w' v' zs, _
    intro w' v' zs h hl hz
    exact sorted_of v' zs (sortRs zs) N0 w' h (by omega) (fun x hx => few_short (hz x hx).2) (sorts_any _ (zs.map sortR) (by rw [List.length_map]; omega))
  have CE : Hid (∀ w' v1 v2 zs, RulesA N0 w' v1 zs → RulesA N0 w' v2 zs → Calls Tryz.prog 16 #[v1, v2] w' fun e w'' => e = .returned (.bool true) ∧ Below w'.heap.size w' w'') := by
    show ∀ w' v1 v2 zs, _
    exact fun w' v1 v2 zs h1 h2 => eqR_same v1 v2 zs N0 w' h1 h2
  have CF : Hid (∀ w' v' zs, Below w.heap.size w w' → RulesA N0 w' v' zs → zs.length ≤ 42 → (∀ y ∈ zs, SmallR y 1048576 ∧ ShortR y) → Calls Tryz.prog 14 #[v'] w' fun e w'' => e = .returned (.string ⟨(rulesTx (sortRs zs)).toArray⟩) ∧ Below w'.heap.size w' w'') := by
    show ∀ w' v' zs, _
    intro w' v' zs hb h hl hz
    have hz' : ∀ y ∈ sortRs zs, SmallR y 1048576 ∧ ShortR y := fun y hy => by
      obtain ⟨x, hx, rfl⟩ := mem_sortRs hy
      exact ⟨small_sortR (hz x hx).1, short_sortR (hz x hx).2⟩
    exact pfile_of v' zs (sortRs zs) N0 w.heap.size w' (hG.below hb) hb.size h (by omega) (by rw [sortRs_len]; omega) (fun x hx => few_short (hz x hx).2) (fun y hy => fit_of (hz' y hy).1 (hz' y hy).2)
      (by have := rulesTx_len (sortRs zs) hz'; rw [sortRs_len] at this; omega) (sorts_any _ (zs.map sortR) (by rw [List.length_map]; omega))
  have KEEP : Hid (∀ {w1 w2 : World} {v' : Value} {zs : List RuleS}, RulesA N0 w1 v' zs → Below w1.heap.size w1 w2 → RulesA N0 w2 v' zs) := by
    show ∀ {w1 w2 : World} {v' : Value} {zs : List RuleS}, _
    exact fun h hb => h.keep ((fr_below hb).mono fun b hb e => by omega)
  clear hI hu hG hys
  go_enter Tryz.func7, Tryz.ntmps7
  go_wp2_with fail
  refine C0.out.mono ?_
  rintro e w1 ⟨rfl, hb1⟩
  have HB1 := Lib.hid hb1
  clear hb1
  go_wp2_with fail
  refine (CL.out _ HB1.out).mono ?_
  rintro e w2 ⟨ra, rn, rc, rfl, hown, hb2⟩
  have hra : RulesA N0 w2 (.slice ra rn rc) ys := hown.rulesA.mono fun _ _ e => e.elim
  obtain ⟨a', c', q, hrc, hrm⟩ := rulesA_len hra
  injection q with q1 q2 q3
  subst q2 q3
  have HB2 := Lib.hid (HB1.out.trans (hb2.mono HB1.out.size))
  obtain ⟨r1, v1, W1, hr1, ho1, hg1, hl1, hall1⟩ := run_append_rules (ty := 22) (v0 := .slice none 0 0) (B := w2.heap.size) (n := 0) (xs := []) ⟨rfl, .inl ⟨rfl, rfl⟩⟩ hra (Nat.le_refl _) (by omega)
  rw [Nat.zero_add, List.nil_append] at ho1
  have hg1b : Below w2.heap.size w2 W1 := ⟨hg1.os, hg1.tape, hg1.output, hg1.size, fun k hk => hg1.block k hk (fun e => by cases e)⟩
  have hwas : RulesA N0 W1 v1 ys := ⟨r1, RowA.mono (rowA_own (by rw [hl1]; exact ho1) (hall1.len fun r x h => h.len)) (fun _ _ e => e.elim), hall1.imp fun r x h => (h.keep ((fr_below hg1b).mono fun b hb e => by omega))⟩
  obtain ⟨sa, sc, e1, hsc, hsm⟩ := rulesA_len hwas
  subst e1
  have HR1 := Lib.hid hr1
  have HRS := Lib.hid (KEEP.out hra hg1b)
  have HWAS := Lib.hid hwas
  have HB3 := Lib.hid (HB2.out.trans (hg1b.mono HB2.out.size))
  have HYL := Lib.hid hyl
  unfold maxLen at hrm hsm
  clear hown hra hb2 q1 hr1 ho1 hg1 hl1 hall1 hg1b hwas
  go_wp2_with (at_builtin; refine wpList_append_known (by rfl) _ _ 22 (by rfl) (by rfl) (by rfl) HR1.out ?_)
  refine (CS.out _ _ _ HRS.out HYL.out HYS.out).mono ?_
  rintro e w4 ⟨la, ln, lc, rfl, hown, hb4⟩
  have hla : RulesA N0 w4 (.slice la ln lc) (sortRs ys) := hown.rulesA.mono fun _ _ e => e.elim
  obtain ⟨a2, c2, q, hlc, hlm⟩ := rulesA_len hla
  injection q with q1 q2 q3
  rw [sortRs_len] at q2 hlc
  subst q2 q3
  have HLA := Lib.hid hla
  have HRS4 := Lib.hid (KEEP.out HRS.out hb4)
  have HWAS4 := Lib.hid (KEEP.out HWAS.out hb4)
  have HB4 := Lib.hid (HB3.out.trans (hb4.mono HB3.out.size))
  unfold maxLen at hlm
  clear hown hla hb4 q1 HRS HWAS HB3 HR1
  go_wp2_with fail
  refine (CE.out _ _ _ _ HRS4.out HWAS4.out).mono ?_
  rintro e w5 ⟨rfl, hb5⟩
  have HLA5 := Lib.hid (KEEP.out HLA.out hb5)
  have HRS5 := Lib.hid (KEEP.out HRS4.out hb5)
  have HB5 := Lib.hid (HB4.out.trans (hb5.mono HB4.out.size))
  clear hb5 HRS4 HWAS4 HLA HB4
  go_wp2_with fail
  refine (CS.out _ _ _ HLA5.out (by rw [sortRs_len]; exact HYL.out) HLS.out).mono ?_
  rintro e w6 ⟨ma, mn, mc, rfl, hown, hb6⟩
  rw [sortRs_idem] at hown
  have HMA := Lib.hid (show RulesA N0 w6 (.slice ma mn mc) (sortRs ys) from hown.rulesA.mono fun _ _ e => e.elim)
  have HLA6 := Lib.hid (KEEP.out HLA5.out hb6)
  have HRS6 := Lib.hid (KEEP.out HRS5.out hb6)
  have HB6 := Lib.hid (HB5.out.trans (hb6.mono HB5.out.size))
  clear hown hb6 HLA5 HRS5 HB5
  go_wp2_with fail
  refine (CE.out _ _ _ _ HMA.out HLA6.out).mono ?_
  rintro e w7 ⟨rfl, hb7⟩
  have HLA7 := Lib.hid (KEEP.out HLA6.out hb7)
  have HRS7 := Lib.hid (KEEP.out HRS6.out hb7)
  have HB7 := Lib.hid (HB6.out.trans (hb7.mono HB6.out.size))
  clear hb7 HLA6 HRS6 HB6 HMA CE CS
  obtain ⟨L, hL⟩ : ∃ L, sortRs ys = L := ⟨_, rfl⟩
  have HLE := Lib.hid hL
  have hLl : L.length = ys.length := by rw [← hL, sortRs_len]
  have hla := HLA7.out
  rw [hL] at hla
  have HAT : Hid (∀ (k : Nat) x, L[k]? = some x → ∃ g o a1 n1 c1 a2 n2 c2 a3 n3 c3 a4 n4 c4, la = some ⟨g, o, none⟩ ∧ RuleA N0 w7 [.string x.name, .slice a1 n1 c1, .slice a2 n2 c2, .slice a3 n3 c3, .slice a4 n4 c4] x ∧ ∀ w', Below w7.heap.size w7 w' →
      w'.cell? ⟨g, o + k * 5, none⟩ = some (.string x.name) ∧ w'.cell? ⟨g, o + k * 5 + 1, none⟩ = some (.slice a1 n1 c1) ∧ w'.cell? ⟨g, o + k * 5 + 2, none⟩ = some (.slice a2 n2 c2) ∧ w'.cell? ⟨g, o + k * 5 + 3, none⟩ = some (.slice a3 n3 c3)) := by
    show ∀ (k : Nat) x, _
    intro k x hx
    obtain ⟨g, o, cap, a1, n1, c1, a2, n2, c2, a3, n3, c3, a4, n4, c4, e, _, hr, hc⟩ := rules_at hla hx
    injection e with e1 e2 e3
    exact ⟨g, o, a1, n1, c1, a2, n2, c2, a3, n3, c3, a4, n4, c4, e1, hr, fun w' hb => by obtain ⟨y0, y1, y2, y3, _⟩ := hc w' hb; exact ⟨y0, y1, y2, y3⟩⟩
  clear hL hla
  go_wp2_with fail
  go_loopw [39] (fun iv wr => ∃ k : Nat, k ≤ ys.length ∧ iv = .int .i64 (k : Int) ∧ Below w7.heap.size w7 wr) (fun iv _ => ys.length - (intOf iv).toNat)
  case atStart => exact ⟨0, Nat.zero_le _, rfl, Below.refl _ _⟩
  case round =>
    obtain ⟨k, hk, rfl, hnx⟩ := hrel
    obtain ⟨WR, hWR⟩ : ∃ V, wr = V := ⟨_, rfl⟩
    rw [hWR] at hnx ⊢
    clear hWR
    have HNX := Lib.hid hnx
    by_cases hlt : k < ys.length
    · obtain ⟨x, hx⟩ : ∃ x, L[k]? = some x := ⟨L[k]'(by omega), List.getElem?_eq_getElem _⟩
      obtain ⟨g, o, a1, n1, c1, a2, n2, c2, a3, n3, c3, a4, n4, c4, hga, hrl, hcs⟩ := HAT.out k x hx
      obtain ⟨y0, y1, y2, y3⟩ := hcs _ hnx
      have hlt1 : (k : Int) < (ys.length : Int) := by omega
      have hk0 : (0 : Int) ≤ (k : Int) := by omega
      have HRL := Lib.hid hrl
      have HCS := Lib.hid hcs
      have HX := Lib.hid hx
      subst hga
      clear hrl hcs hx hnx
      go_upto_region 12 with fail
      go_cut [57] (fun t wx => t = .bool false ∧ Below w7.heap.size w7 wx)
      case first =>
        have HDR : Hid (∀ n, Below w7.heap.size w7 (WR.drewN n)) := by show ∀ n, _; exact fun n => below_drewN HNX.out n
        by_cases hz : k = 0
        · subst hz
          clear hk hlt
          go_wp2_with fail
          go_quiet (fail)
          all_goals go_wp2_with fail
          all_goals go_meet
          all_goals exact ⟨rfl, HDR.out _⟩
        · obtain ⟨j, hj⟩ : ∃ j, j + 1 = k := ⟨k - 1, by omega⟩
          obtain ⟨x', hx'⟩ : ∃ x, L[j]? = some x := ⟨L[j]'(by omega), List.getElem?_eq_getElem _⟩
          obtain ⟨g', o', _, _, _, _, _, _, _, _, _, _, _, _, hga, _, hcs'⟩ := HAT.out j x' hx'
          injection hga with hga
          injection hga with hg1 hg2
          subst hg1 hg2
          obtain ⟨z0, _, _, _⟩ := hcs' _ HNX.out
          have hbl := gt_name (sortRs_rise (xs := ys) (i := j) (x := x') (y := x) (by rw [HLE.out]; exact hx') (by rw [HLE.out, hj]; exact HX.out))
          have f0 : (0 : Int) < (k : Int) := by omega
          have hd : decide (0 < k) = true := decide_eq_true (by omega)
          have f1 : (k : Int) - 1 = (j : Int) := by omega
          have f2 : IntKind.i64.wrap (j : Int) = (j : Int) := IntWalk.i64_in _ (by omega)
          have f3 : (0 : Int) ≤ (j : Int) := by omega
          have f4 : (j : Int) < (ys.length : Int) := by omega
          clear hx' hcs' hj hz hk hlt
          go_wp2_with fail
          go_quiet (fail)
          all_goals go_wp2_with fail
          all_goals go_meet
          all_goals exact ⟨rfl, HDR.out _⟩
      case rest =>
        obtain ⟨rfl, hnx⟩ := hcut
        obtain ⟨WA, hWA⟩ : ∃ V, wc = V := ⟨_, rfl⟩
        rw [hWA] at hnx ⊢
        clear hWA y0 y1 y2 y3 HNX
        have HNX := Lib.hid hnx
        obtain ⟨vi, vo, vf, vs, q, hi, ho, hf, _⟩ := HRL.out
        simp only [List.cons.injEq, and_true] at q
        obtain ⟨_, rfl, rfl, rfl, rfl⟩ := q
        have hxs : sortR x = x := by
          obtain ⟨x0, _, e⟩ := mem_sortRs (by rw [HLE.out]; exact List.mem_of_getElem? HX.out : x ∈ sortRs ys)
          rw [← e, sortR_idem]
        obtain ⟨rfl, mi, ci⟩ := strs_at hi
        obtain ⟨rfl, mo, co⟩ := strs_at ho
        obtain ⟨rfl, mf, cf'⟩ := strs_at hf
        have HSI := Lib.hid (show srtB x.ins = x.ins ∧ x.ins.length ≤ maxLen ∧ ∀ (i : Nat) y, x.ins[i]? = some y → _ from ⟨congrArg RuleS.ins hxs, mi, ci⟩)
        have HSO := Lib.hid (show srtB x.outs = x.outs ∧ x.outs.length ≤ maxLen ∧ ∀ (i : Nat) y, x.outs[i]? = some y → _ from ⟨congrArg RuleS.outs hxs, mo, co⟩)
        have HSF := Lib.hid (show srtB x.after = x.after ∧ x.after.length ≤ maxLen ∧ ∀ (i : Nat) y, x.after[i]? = some y → _ from ⟨congrArg RuleS.after hxs, mf, cf'⟩)
        clear hnx mi mo mf ci co cf' hi ho hf hxs
        go_wp2_with fail
        refine wp_region_held_drew (S := fun w' => Below w7.heap.size w7 w') (by kernel_rfl) ?_ (fun hHeld => ?_)
        · exact below_drewN HNX.out 1
        refine wpAnyH_take (i := 0) (oi := _) (v := ?_) (by simp only [List.getElem?_toArray, List.getElem?_cons_zero]; rfl) (by kernel_rfl) (by kernel_rfl) (by kernel_rfl) (by exact fun _ _ _ h => h) (Or.inl ⟨by rfl, ?_⟩) (by assumption) ?_
        rotate_left
        · intro w hSw; obtain ⟨y0, y1, y2, y3⟩ := HCS.out _ hSw; go_simp; try with_reducible rfl
        try simp only [Act.put, List.setIfInBounds_toArray, List.set_cons_zero, List.set_cons_succ]
        refine wpAnyH_take (i := 1) (oi := _) (v := ?_) (by simp only [List.getElem?_toArray, List.getElem?_cons_succ, List.getElem?_cons_zero]; rfl) (by kernel_rfl) (by kernel_rfl) (by kernel_rfl) (by exact fun _ _ _ h => h) (Or.inl ⟨by rfl, ?_⟩) (by assumption) ?_
        rotate_left
        · intro w hSw; obtain ⟨y0, y1, y2, y3⟩ := HCS.out _ hSw; go_simp; try with_reducible rfl
        try simp only [Act.put, List.setIfInBounds_toArray, List.set_cons_zero, List.set_cons_succ]
        refine wpAnyH_take (i := 2) (oi := _) (v := ?_) (by simp only [List.getElem?_toArray, List.getElem?_cons_succ, List.getElem?_cons_zero]; rfl) (by kernel_rfl) (by kernel_rfl) (by kernel_rfl) (by exact fun _ _ _ h => h) (Or.inl ⟨by rfl, ?_⟩) (by assumption) ?_
        rotate_left
        · intro w hSw; obtain ⟨y0, y1, y2, y3⟩ := HCS.out _ hSw; go_simp; try with_reducible rfl
        try simp only [Act.put, List.setIfInBounds_toArray, List.set_cons_zero, List.set_cons_succ]
        refine wpAnyH_take (i := 3) (oi := _) (v := ?_) (by simp only [List.getElem?_toArray, List.getElem?_cons_succ, List.getElem?_cons_zero]; rfl) (by kernel_rfl) (by kernel_rfl) (by kernel_rfl) (by exact fun _ _ _ h => h) (Or.inl ⟨by rfl, ?_⟩) (by assumption) ?_
        rotate_left
        · intro w hSw; obtain ⟨y0, y1, y2, y3⟩ := HCS.out _ hSw; go_simp; try with_reducible rfl
        try simp only [Act.put, List.setIfInBounds_toArray, List.set_cons_zero, List.set_cons_succ]
        refine wpAnyH_take (i := 4) (oi := _) (v := ?_) (by simp only [List.getElem?_toArray, List.getElem?_cons_succ, List.getElem?_cons_zero]; rfl) (by kernel_rfl) (by kernel_rfl) (by kernel_rfl) (by exact fun _ _ _ h => h) (Or.inl ⟨by rfl, ?_⟩) (by assumption) ?_
        rotate_left
        · intro w hSw; obtain ⟨y0, y1, y2, y3⟩ := HCS.out _ hSw; go_simp; try with_reducible rfl
        try simp only [Act.put, List.setIfInBounds_toArray, List.set_cons_zero, List.set_cons_succ]
        refine wpAnyH_take (i := 5) (oi := _) (v := ?_) (by simp only [List.getElem?_toArray, List.getElem?_cons_succ, List.getElem?_cons_zero]; rfl) (by kernel_rfl) (by kernel_rfl) (by kernel_rfl) (by exact fun _ _ _ h => h) (Or.inl ⟨by rfl, ?_⟩) (by assumption) ?_
        rotate_left
        · intro w hSw; obtain ⟨y0, y1, y2, y3⟩ := HCS.out _ hSw; go_simp; try with_reducible rfl
        try simp only [Act.put, List.setIfInBounds_toArray, List.set_cons_zero, List.set_cons_succ]
        refine wpAnyH_take (i := 6) (oi := _) (v := ?_) (by simp only [List.getElem?_toArray, List.getElem?_cons_succ, List.getElem?_cons_zero]; rfl) (by kernel_rfl) (by kernel_rfl) (by kernel_rfl) (by exact fun _ _ _ h => h) (Or.inl ⟨by rfl, ?_⟩) (by assumption) ?_
        rotate_left
        · intro w hSw; obtain ⟨y0, y1, y2, y3⟩ := HCS.out _ hSw; go_simp; try with_reducible rfl
        try simp only [Act.put, List.setIfInBounds_toArray, List.set_cons_zero, List.set_cons_succ]
        refine wpAnyH_take (i := 7) (oi := _) (v := ?_) (by simp only [List.getElem?_toArray, List.getElem?_cons_succ, List.getElem?_cons_zero]; rfl) (by kernel_rfl) (by kernel_rfl) (by kernel_rfl) (by exact fun _ _ _ h => h) (Or.inl ⟨by rfl, ?_⟩) (by assumption) ?_
        rotate_left
        · intro w hSw; obtain ⟨y0, y1, y2, y3⟩ := HCS.out _ hSw; go_simp; try with_reducible rfl
        try simp only [Act.put, List.setIfInBounds_toArray, List.set_cons_zero, List.set_cons_succ]
        refine wpAnyH_take (i := 8) (oi := _) (v := ?_) (by simp only [List.getElem?_toArray, List.getElem?_cons_succ, List.getElem?_cons_zero]; rfl) (by kernel_rfl) (by kernel_rfl) (by kernel_rfl) (by exact fun _ _ _ h => h) (Or.inl ⟨by rfl, ?_⟩) (by assumption) ?_
        rotate_left
        · intro w hSw; obtain ⟨y0, y1, y2, y3⟩ := HCS.out _ hSw; go_simp; try with_reducible rfl
        try simp only [Act.put, List.setIfInBounds_toArray, List.set_cons_zero, List.set_cons_succ]
        refine wpAnyH_take (i := 9) (oi := _) (v := ?_) (by simp only [List.getElem?_toArray, List.getElem?_cons_succ, List.getElem?_cons_zero]; rfl) (by kernel_rfl) (by kernel_rfl) (by kernel_rfl) (by exact fun _ _ _ h => h) (Or.inl ⟨by rfl, ?_⟩) (by assumption) ?_
        rotate_left
        · intro w hSw; obtain ⟨y0, y1, y2, y3⟩ := HCS.out _ hSw; go_simp; try with_reducible rfl
        try simp only [Act.put, List.setIfInBounds_toArray, List.set_cons_zero, List.set_cons_succ]
        refine wpAnyH_take (i := 10) (oi := _) (v := ?_) (by simp only [List.getElem?_toArray, List.getElem?_cons_succ, List.getElem?_cons_zero]; rfl) (by kernel_rfl) (by kernel_rfl) (by kernel_rfl) (by exact fun _ _ _ h => h) (Or.inl ⟨by rfl, ?_⟩) (by assumption) ?_
        rotate_left
        · intro w hSw; obtain ⟨y0, y1, y2, y3⟩ := HCS.out _ hSw; go_simp; try with_reducible rfl
        try simp only [Act.put, List.setIfInBounds_toArray, List.set_cons_zero, List.set_cons_succ]
        refine wpAnyH_take (i := 11) (oi := _) (v := ?_) (by simp only [List.getElem?_toArray, List.getElem?_cons_succ, List.getElem?_cons_zero]; rfl) (by kernel_rfl) (by kernel_rfl) (by kernel_rfl) (by exact fun _ _ _ h => h) (Or.inl ⟨by rfl, ?_⟩) (by assumption) ?_
        rotate_left
        · intro w hSw; obtain ⟨y0, y1, y2, y3⟩ := HCS.out _ hSw; go_simp; try with_reducible rfl
        try simp only [Act.put, List.setIfInBounds_toArray, List.set_cons_zero, List.set_cons_succ]
        refine wpAnyH_take (i := 12) (oi := _) (v := ?_) (by simp only [List.getElem?_toArray, List.getElem?_cons_succ, List.getElem?_cons_zero]; rfl) (by kernel_rfl) (by kernel_rfl) (by kernel_rfl) (by exact fun _ _ _ h => h) (Or.inl ⟨by rfl, ?_⟩) (by assumption) ?_
        rotate_left
        · intro w hSw; obtain ⟨y0, y1, y2, y3⟩ := HCS.out _ hSw; go_simp; try with_reducible rfl
        try simp only [Act.put, List.setIfInBounds_toArray, List.set_cons_zero, List.set_cons_succ]
        refine wpAnyH_take (i := 13) (oi := _) (v := ?_) (by simp only [List.getElem?_toArray, List.getElem?_cons_succ, List.getElem?_cons_zero]; rfl) (by kernel_rfl) (by kernel_rfl) (by kernel_rfl) (by exact fun _ _ _ h => h) (Or.inl ⟨by rfl, ?_⟩) (by assumption) ?_
        rotate_left
        · intro w hSw; obtain ⟨y0, y1, y2, y3⟩ := HCS.out _ hSw; go_simp; try with_reducible rfl
        try simp only [Act.put, List.setIfInBounds_toArray, List.set_cons_zero, List.set_cons_succ]
        refine wpAnyH_take (i := 14) (oi := _) (v := ?_) (by simp only [List.getElem?_toArray, List.getElem?_cons_succ, List.getElem?_cons_zero]; rfl) (by kernel_rfl) (by kernel_rfl) (by kernel_rfl) (by exact fun _ _ _ h => h) (Or.inl ⟨by rfl, ?_⟩) (by assumption) ?_
        rotate_left
        · intro w hSw; obtain ⟨y0, y1, y2, y3⟩ := HCS.out _ hSw; go_simp; try with_reducible rfl
        try simp only [Act.put, List.setIfInBounds_toArray, List.set_cons_zero, List.set_cons_succ]
        refine wpAnyH_take (i := 17) (oi := _) (v := ?_) (by simp only [List.getElem?_toArray, List.getElem?_cons_succ, List.getElem?_cons_zero]; rfl) (by kernel_rfl) (by kernel_rfl) (by kernel_rfl) (by exact fun _ _ _ h => h) (Or.inl ⟨by rfl, ?_⟩) (by assumption) ?_
        rotate_left
        · intro w hSw; obtain ⟨y0, y1, y2, y3⟩ := HCS.out _ hSw; go_simp; try with_reducible rfl
        try simp only [Act.put, List.setIfInBounds_toArray, List.set_cons_zero, List.set_cons_succ]
        refine wpAnyH_ready (rs := [15]) (by kernel_rfl) (by simp) ?_
        refine AllReadyH.cons (o := _) (by simp only [List.getElem?_toArray, List.getElem?_cons_succ, List.getElem?_cons_zero]; rfl) (fun K hK => ?_) ?_
        · go_simp
          refine hK.out _ _ ?_ (fun hHeld => ?_)
          · try dsimp only
            exact hHeld.alloc hHeld.size _
          clear hK K
          try simp only [Act.put, List.setIfInBounds_toArray, List.set_cons_zero, List.set_cons_succ]
          refine wpAnyH_take (i := 16) (oi := _) (v := ?_) (by simp only [List.getElem?_toArray, List.getElem?_cons_succ, List.getElem?_cons_zero]; rfl) (by kernel_rfl) (by kernel_rfl) (by kernel_rfl) (by exact fun _ _ _ h => h) (Or.inl ⟨by rfl, ?_⟩) (by assumption) ?_
          rotate_left
          · intro w hSw; go_simp; try with_reducible rfl
          try simp only [Act.put, List.setIfInBounds_toArray, List.set_cons_zero, List.set_cons_succ]
          refine wpAnyH_done (by kernel_rfl) ?_ _
          obtain ⟨WB, hWB⟩ : ∃ V, (WA.alloc (Obj.cells #[Value.slice a1 x.ins.length c1, Value.slice a2 x.outs.length c2, Value.slice a3 x.after.length c3] 39)).drew = V := ⟨_, rfl⟩
          have hg3 : WB.heap[WA.heap.size]? = some (Obj.cells #[Value.slice a1 x.ins.length c1, Value.slice a2 x.outs.length c2, Value.slice a3 x.after.length c3] 39) := by rw [← hWB]; exact alloc_at WA _
          have hsz : WA.heap.size < WB.heap.size := (Array.getElem?_eq_some_iff.1 hg3).1
          rw [hWB] at hHeld ⊢
          obtain ⟨p3, hp3⟩ : ∃ p, WA.heap.size = p := ⟨_, rfl⟩
          rw [hp3] at hg3 hsz ⊢
          have HJ : Hid (∀ j : Nat, j < 3 → ∃ (a : Option Addr) (ws : List ByteArray) (c : Nat), srtB ws = ws ∧ ws.length ≤ maxLen ∧ (∀ w', Below WB.heap.size WB w' → w'.cell? ⟨p3, j, none⟩ = some (.slice a ws.length c)) ∧ ∀ (i : Nat) y, ws[i]? = some y → ∃ b o, a = some ⟨b, o, none⟩ ∧ ∀ w', Below w7.heap.size w7 w' → w'.cell? ⟨b, o + i, none⟩ = some (.string y)) := by
            show ∀ j : Nat, _
            intro j hj
            have key : ∀ w', Below WB.heap.size WB w' → _ := fun w' hb => cells3 ((hb.block p3 hsz).trans hg3)
            match j, hj with
            | 0, _ => exact ⟨a1, x.ins, c1, HSI.out.1, HSI.out.2.1, fun w' hb => (key w' hb).1, HSI.out.2.2⟩
            | 1, _ => exact ⟨a2, x.outs, c2, HSO.out.1, HSO.out.2.1, fun w' hb => (key w' hb).2.1, HSO.out.2.2⟩
            | 2, _ => exact ⟨a3, x.after, c3, HSF.out.1, HSF.out.2.1, fun w' hb => (key w' hb).2.2.1, HSF.out.2.2⟩
          have HB8 := Lib.hid hHeld
          clear hWB hg3 hsz hHeld hp3 HSI HSO HSF
          go_wp2_with fail
          go_loopw [75] (fun jv wr => ∃ j : Nat, j ≤ 3 ∧ jv = .int .i64 (j : Int) ∧ Below WB.heap.size WB wr) (fun jv _ => 3 - (intOf jv).toNat)
          case atStart => exact ⟨0, by omega, rfl, Below.refl _ _⟩
          case round =>
            obtain ⟨j, hj, rfl, hnb⟩ := hrel
            obtain ⟨WC, hWC⟩ : ∃ V, wr = V := ⟨_, rfl⟩
            rw [hWC] at hnb ⊢
            clear hWC
            have HNB := Lib.hid hnb
            by_cases hj3 : j < 3
            · obtain ⟨a, ws, c, hso, hml, hc, hat⟩ := HJ.out j hj3
              have hcell := hc _ hnb
              have HSO := Lib.hid hso
              have HWA := Lib.hid hat
              have g1 : (j : Int) < 3 := by omega
              have g2 : (0 : Int) ≤ (j : Int) := by omega
              unfold maxLen at hml
              clear hso hc hat hnb
              go_wp2_with fail
              go_loopw [9] (fun iv wr => ∃ i : Nat, 1 ≤ i ∧ i ≤ ws.length + 1 ∧ iv = .int .i64 (i : Int) ∧ Below WB.heap.size WB wr) (fun iv _ => ws.length + 1 - (intOf iv).toNat)
              case atStart => exact ⟨1, by omega, by omega, rfl, HNB.out⟩
              case round =>
                obtain ⟨i, hi1, hi2, rfl, hnc⟩ := hrel
                have HNC := Lib.hid hnc
                by_cases hil : i < ws.length
                · obtain ⟨i', hi'⟩ : ∃ i', i' + 1 = i := ⟨i - 1, by omega⟩
                  obtain ⟨y, hy⟩ : ∃ y, ws[i]? = some y := ⟨ws[i], List.getElem?_eq_getElem hil⟩
                  obtain ⟨y', hy'⟩ : ∃ y, ws[i']? = some y := ⟨ws[i']'(by omega), List.getElem?_eq_getElem _⟩
                  have hw7 : Below w7.heap.size w7 wr := HB8.out.trans (hnc.mono HB8.out.size)
                  obtain ⟨b, o8, e1, hcy⟩ := HWA.out i y hy
                  obtain ⟨b', o9, e2, hcy'⟩ := HWA.out i' y' hy'
                  rw [e1] at e2
                  injection e2 with e2
                  injection e2 with e3 e4
                  subst e3 e4
                  have z1 := hcy _ hw7
                  have z2 := hcy' _ hw7
                  have hbl := gt_name (srtB_rise (xs := ws) (i := i') (x := y') (y := y) (by rw [HSO.out]; exact hy') (by rw [HSO.out, hi']; exact hy))
                  have f0 : (i : Int) < (ws.length : Int) := by omega
                  have f1 : (i : Int) - 1 = (i' : Int) := by omega
                  have f2 : IntKind.i64.wrap (i' : Int) = (i' : Int) := IntWalk.i64_in _ (by omega)
                  have f3 : (0 : Int) ≤ (i' : Int) := by omega
                  have f4 : (i' : Int) < (ws.length : Int) := by omega
                  have f5 : (0 : Int) ≤ (i : Int) := by omega
                  have f6 : IntKind.i64.wrap ((i : Int) + 1) = (i : Int) + 1 := IntWalk.i64_in _ (by omega)
                  have HDR : Hid (∀ n, Below WB.heap.size WB (wr.drewN n)) := by show ∀ n, _; exact fun n => below_drewN HNC.out n
                  have HF := Lib.hid (show 1 ≤ i ∧ i < ws.length from ⟨hi1, hil⟩)
                  subst e1
                  clear hy hy' hcy hcy' hw7 hnc hi1 hi2 hil hi'
                  go_wp2_with fail
                  go_quiet (fail)
                  all_goals go_wp2
                  all_goals go_roundw
                  case rel => exact ⟨i + 1, by omega, by have := HF.out; omega, by go_num, HDR.out _⟩
                  case measure => have := HF.out; simp [intOf]; omega
                · have f0 : ¬ (i : Int) < (ws.length : Int) := by omega
                  have f6 : IntKind.i64.wrap ((j : Int) + 1) = (j : Int) + 1 := IntWalk.i64_in _ (by omega)
                  clear hnc hi1 hi2 hil
                  go_wp2
                  go_roundw
                  case rel => exact ⟨j + 1, by omega, by go_num, HNC.out⟩
                  case measure => simp [intOf]; omega
            · obtain rfl : j = 3 := by omega
              have HL := Lib.hid hlt
              clear hnb hj3 hj
              go_wp2
              go_roundw
              case rel => exact ⟨k + 1, HL.out, by go_num, HB8.out.trans (HNB.out.mono HB8.out.size)⟩
              case measure => simp [intOf]; omega
        exact AllReadyH.nil
    · obtain rfl : k = ys.length := by omega
      have cf1 := CF.out WR _ _ (HB7.out.trans (hnx.mono HB7.out.size)) (KEEP.out HLA7.out hnx) (by rw [sortRs_len]; exact HYL.out) HLS.out
      rw [sortRs_idem] at cf1
      obtain ⟨S, hS⟩ : ∃ S : ByteArray, (⟨(rulesTx (sortRs ys)).toArray⟩ : ByteArray) = S := ⟨_, rfl⟩
      rw [hS] at cf1
      have CF2 : Hid (∀ w', Below w7.heap.size w7 w' → Calls Tryz.prog 14 #[.slice ra ys.length rc] w' fun e w'' => e = .returned (.string S) ∧ Below w'.heap.size w' w'') := by
        show ∀ w', _
        intro w' hb
        have := CF.out w' _ _ (HB7.out.trans (hb.mono HB7.out.size)) (KEEP.out HRS7.out hb) HYL.out HYS.out
        rw [hS] at this
        exact this
      have CF1 := Lib.hid cf1
      have i1 : ¬ (ys.length : Int) < (ys.length : Int) := by omega
      clear cf1 hS hnx hlt hk
      go_wp2_with fail
      refine CF1.out.mono ?_
      rintro e w8 ⟨rfl, hb8⟩
      have HB8 := Lib.hid (HNX.out.trans (hb8.mono HNX.out.size))
      clear hb8
      go_wp2_with fail
      refine (CF2.out _ HB8.out).mono ?_
      rintro e w9 ⟨rfl, hb9⟩
      have HB9 := Lib.hid (HB8.out.trans (hb9.mono HB8.out.size))
      have HB10 := Lib.hid (HB7.out.trans (HB9.out.mono HB7.out.size))
      clear hb9
      go_wp2
      go_ret
      exact ⟨by simp, HB10.out⟩
end Go.Proofs.YtknpcbjjofdlmaaGreatDoor.lawPrintSorted
