import Derived.Test.YtdhmeganlnpohaaGreatDoorMbr
import Derived.Test.YtdhmeganlnpohaaGreatDoorMbp
import Derived.Test.YtdhmeganlnpohaaGreatDoorMbm
import Derived.Test.YtdhmeganlnpohaaGreatDoorMbq
import Derived.Test.YtdhmeganlnpohaaGreatDoorMbo
namespace Go.Proofs.YtdhmeganlnpohaaGreatDoor
open Go.RowKit Go.Shelf Go.Maps
theorem ndOf_need (ys : List RuleS) : ndOf ((List.range ys.length).map (needL ys)) = needL ys := by
 funext k
 unfold ndOf
 by_cases h : k < ys.length
 ·rw [List.getElem?_map, List.getElem?_range h]; rfl
 ·rw [List.getElem?_eq_none (by simp; omega)]
  unfold needL insAt afterAt
  rw [List.getElem?_eq_none (by omega)]
  simp [srtN]
theorem needL_len {ys : List RuleS} (hs : ∀ r ∈ ys, SmallR r 1048576) (k : Nat) : (needL ys k).length ≤ 2097152 := by
 unfold needL
 rw [srtN_len, List.length_append]
 have h1 : (insAt ys k).length ≤ 1048576 := by
  unfold insAt
  cases h : ys[k]? with
  | none => simp
  | some x => exact (hs x (List.mem_of_getElem? h)).ins.1
 have h2 : (afterAt ys k).length ≤ 1048576 := by
  unfold afterAt
  cases h : ys[k]? with
  | none => simp
  | some x => exact (hs x (List.mem_of_getElem? h)).after.1
 have h3 := List.length_filterMap_le (mkrN ys ys.length) (insAt ys k)
 have h4 := List.length_filterMap_le (plcN ys ys.length) (afterAt ys k)
 omega
theorem NeedsIs.below {w w' : World} {v : Value} {ns : List (List Nat)} (h : NeedsIs w v ns) (hb : Below w.heap.size w w') : NeedsIs w' v ns := by
 obtain ⟨g, e, hg, hc⟩ := h
 refine ⟨g, e, Nat.lt_of_lt_of_le hg hb.size, fun k x hx => ?_⟩
 obtain ⟨u, hu, hI⟩ := hc k x hx
 exact ⟨u, (hb.cell (p := ⟨g, k, none⟩) hg).trans hu, hI.below hb⟩
set_option maxRecDepth 100000
set_option maxHeartbeats 8000000
theorem values_c (a : Option Addr) (n c : Nat) (w : World) : Calls Tryz.prog 100 #[.slice a n c] w fun e w' => e = .returned (.func (.func 145) #[] #[.pointer (some ⟨w.heap.size, 0, none⟩)]) ∧ w' = w.alloc (.cells #[.slice a n c] 82) := by
 go_enter Tryz.func100, Tryz.ntmps100
 go_wp2
 go_ret
 exact ⟨rfl, rfl⟩
theorem firstCycle_any (v : Value) (rs : List RuleS) (w : World) (hv : RulesI w v rs) (hs : ∀ r ∈ rs, SmallR r 1048576) (hn : rs.length ≤ 1000) (hnd : ∀ (i j : Nat) x y, rs[i]? = some x → rs[j]? = some y → i < j → x.name ≠ y.name) :
  Calls Tryz.prog 74 #[v] w fun e w' => ∃ u, e = .returned u ∧ IsStrs w' u (firstC (srtRules rs)) ∧ Below w.heap.size w w' := by
 obtain ⟨va, vc, rfl, _, _⟩ := rulesI_len hv
 have hb1 : Below w.heap.size w (w.alloc (.cells #[.slice va rs.length vc] 82)) := (Below.refl _ _).alloc (Nat.le_refl _) _
 have CV := Lib.hid (values_c va rs.length vc w)
 have CS := Lib.hid (sorted_any w.heap.size (.slice va rs.length vc) rs _ (Boxed.new w 82 (.slice va rs.length vc)) (hv.below hb1) (by omega))
 obtain ⟨YS, hYS⟩ : ∃ Y, srtRules rs = Y := ⟨_, rfl⟩
 have hY1 : ∀ ys : List RuleS, ys.Perm rs → ByName ys → YS = ys := fun ys h1 h2 => by rw [← hYS]; exact (srt_unique hnd h1 h2).symm
 have hYp : YS.Perm rs := by rw [← hYS]; exact List.mergeSort_perm _ _
 have hYl : YS.length ≤ 1000 := by rw [hYp.length_eq]; exact hn
 have hYs : ∀ r ∈ YS, SmallR r 1048576 := fun r hr => hs r (hYp.mem_iff.1 hr)
 rw [hYS]
 have HY1 := Lib.hid hY1; have HYS := Lib.hid hYs; have HB1 := Lib.hid hb1
 obtain ⟨N, hN⟩ : ∃ N, YS.length = N := ⟨_, rfl⟩
 obtain ⟨RES, hR⟩ : ∃ R, firstC YS = R := ⟨_, rfl⟩
 have HR : Hid ((fcL (needL YS) YS.length (List.range YS.length)).map (nmAt YS) = RES) := hR
 rw [hR]
 have HN := Lib.hid hN
 rw [hN] at hYl
 clear hv hs hnd hY1 hYs hb1 hYS hYp hR hN
 go_enter Tryz.func74, Tryz.ntmps74
 go_wp2_with (first
  | (go_at_call 100; (with_reducible refine CV.out.mono ?_); rintro e w1 ⟨rfl, rfl⟩)
  | (go_at_call 99; (with_reducible refine CS.out.mono ?_); rintro e w2 ⟨u, ys, rfl, hp, hby, hri, hb2⟩; have eY := HY1.out ys hp hby; subst eY; obtain ⟨ua, uc, rfl, hul, hum⟩ := rulesI_len hri; have HRI := Lib.hid hri; have HB2 := Lib.hid (HB1.out.trans (hb2.mono HB1.out.size)); clear hp hby hri hb2; rw [HN.out] at hul ⊢; have CN := Lib.hid (needsOf_any (.slice ua N uc) _ w2 (by rw [← HN.out]; exact HRI.out) HYS.out (by rw [HN.out]; exact hYl)))
  | (go_at_call 103; (with_reducible refine CN.out.mono ?_); rintro e w3 ⟨nv, rfl, hni, hb3⟩; have HNI := Lib.hid hni; have HB3 := Lib.hid (HB2.out.trans (hb3.mono HB2.out.size)); have HRI3 := Lib.hid (HRI.out.below hb3); clear hni hb3))
 have HBW : Hid (∀ W, Below w3.heap.size w3 W → Below w.heap.size w W) := Lib.hid fun W hW => HB3.out.trans (hW.mono HB3.out.size)
 have hnl : ((List.range YS.length).map (needL YS)).length = N := by rw [List.length_map, List.length_range, HN.out]
 have hnd2 : ndOf ((List.range YS.length).map (needL YS)) = needL YS := ndOf_need YS
 have HNL := Lib.hid hnl; have HND2 := Lib.hid hnd2
 clear hnl hnd2
 go_loopw [13] (fun iv wr => ∃ k : Nat, k ≤ N ∧ iv = .int .i64 (k : Int) ∧ fcL (needL YS) N ((List.range N).drop k) = fcL (needL YS) N (List.range N) ∧ Below w3.heap.size w3 wr) (fun iv _ => N - (intOf iv).toNat)
 case atStart => exact ⟨0, Nat.zero_le _, rfl, by rw [List.drop_zero], Below.refl _ _⟩
 case round =>
  obtain ⟨k, hk, rfl, hf, hb⟩ := hrel
  by_cases hlt : k < N
  ·have hd : (List.range N).drop k = k :: (List.range N).drop (k + 1) := drop_at' (List.getElem?_range hlt)
   rw [hd, fcL] at hf
   have CR := roundFrom_any k nv _ wr (HNI.out.below hb) (fun x hx y hy => by
    obtain ⟨j, _, rfl⟩ := List.mem_map.1 hx
    rw [HNL.out, ← HN.out]; exact needL_lt hy) (by rw [HNL.out]; exact hlt) (by rw [HNL.out]; exact hYl) (fun x hx => by
    obtain ⟨j, _, rfl⟩ := List.mem_map.1 hx
    have := needL_len HYS.out j; omega)
   rw [HND2.out, HNL.out] at CR
   have hok := roundP_ok (nd := needL YS) (N := N) (fun x _ y hy => by rw [← HN.out]; exact needL_lt hy) hlt
   obtain ⟨Pw, hP⟩ : ∃ Q, roundP k (needL YS) N = Q := ⟨_, rfl⟩
   rw [hP] at CR hf hok
   have CR := Lib.hid CR; have HB := Lib.hid hb; have HF := Lib.hid hf; have HOK := Lib.hid hok
   have hi1 : (k : Int) < (N : Int) := by omega
   clear hb hf hok hP hd
   by_cases hPe : Pw = []
   ·subst hPe
    have HF2 : Hid (fcL (needL YS) N ((List.range N).drop (k + 1)) = fcL (needL YS) N (List.range N)) := Lib.hid (by have := HF.out; rwa [if_pos rfl] at this)
    go_wp2_with (go_at_call 104; (with_reducible refine CR.out.mono ?_); rintro e w4 ⟨pv, rfl, hpi, hb4⟩; obtain ⟨pa, pc, rfl, hpl, hpm, hpcell⟩ := hpi.at; simp only [List.length_nil] at hpl ⊢; have HB4 := Lib.hid (HB.out.trans (hb4.mono HB.out.size)); clear hpi hb4 hpcell)
    go_roundw
    case rel => exact ⟨k + 1, by omega, by go_num, HF2.out, HB4.out⟩
    case measure => simp [intOf]; omega
   ·have HF2 : Hid (Pw.map (nmAt YS) = RES) := Lib.hid (by have := HF.out; rw [if_neg hPe] at this; rw [← HR.out, HN.out, ← this])
    have hpos : 0 < Pw.length := List.length_pos_iff.2 hPe
    obtain ⟨L, hL⟩ : ∃ L, Pw.length = L := ⟨_, rfl⟩
    rw [hL] at hpos
    have hpi0 : (0 : Int) < (L : Int) := by omega
    have HL := Lib.hid hL
    clear hPe hL
    go_wp2_with (first
     | (go_at_call 104; (with_reducible refine CR.out.mono ?_); rintro e w4 ⟨pv, rfl, hpi, hb4⟩; have hpi' := hpi; obtain ⟨pa, pc, rfl, hpl, hpm, hpcell⟩ := hpi.at; rw [HL.out] at hpl ⊢; have HB4 := Lib.hid (HB.out.trans (hb4.mono HB.out.size)); have CNA := Lib.hid (namesAt_any (.slice ua N uc) (.slice pa L pc) YS Pw w4 (by rw [← HN.out]; exact HRI3.out.below (HB.out.trans (hb4.mono HB.out.size))) (by rw [← HL.out]; exact hpi') (fun p hp => by rw [HN.out]; exact HOK.out.1 p hp) (by rw [HN.out]; omega) (by have := HOK.out.2; omega)); clear hpi hpi' hb4 hpcell)
     | (go_at_call 105; (with_reducible refine CNA.out.mono ?_); rintro e w5 ⟨uv, rfl, hus, hb5⟩; have HUS := Lib.hid hus; have HB5 := Lib.hid (HB4.out.trans (hb5.mono HB4.out.size)); clear hus hb5))
    go_ret
    exact ⟨_, rfl, by rw [← HF2.out]; exact HUS.out, HBW.out _ HB5.out⟩
  ·obtain rfl : k = N := by omega
   have hi1 : ¬ (k : Int) < (k : Int) := by omega
   have hre : RES = [] := by
    rw [← HR.out, HN.out, ← hf, List.drop_of_length_le (by simp)]; rfl
   have HRE := Lib.hid hre; have HB := Lib.hid hb
   clear hre hf hb
   go_wp2
   go_ret
   exact ⟨_, rfl, by rw [HRE.out]; exact ⟨none, 0, rfl, Nat.le_refl _, Nat.zero_le _, fun h => absurd rfl h⟩, HBW.out _ HB.out⟩
end Go.Proofs.YtdhmeganlnpohaaGreatDoor
namespace Go.Proofs.YtdhmeganlnpohaaGreatDoor
open Go.RowKit Go.Shelf Go.Maps
theorem fcDoes_of (v : Value) (rs : List RuleS) (w : World) (hv : RulesI w v rs) (hs : ∀ r ∈ rs, SmallR r 1048576) (h0 : (beforeB rs).1 = 0) : FcDoes v w (firstC (srtRules rs)) := by
 intro W hW
 have hT := okTog_of h0
 exact firstCycle_any v rs W (hv.below hW) hs (by have := hT.few; omega) hT.names
theorem firstC_len (ys : List RuleS) : (firstC ys).length ≤ ys.length + 1 := by
 unfold firstC
 rw [List.length_map]
 have : ∀ l : List Nat, (∀ s ∈ l, s < ys.length) → (fcL (needL ys) ys.length l).length ≤ ys.length + 1 := by
  intro l
  induction l with
  | nil => intro _; simp [fcL]
  | cons s l ih =>
   intro h
   unfold fcL
   split
   ·exact ih fun t ht => h t (by simp [ht])
   ·exact (roundP_ok (fun x _ y hy => needL_lt hy) (h s (by simp))).2
 exact this _ fun s hs => by simpa using hs
theorem chkAll_any (v : Value) (rs : List RuleS) (w : World) (hv : RulesI w v rs) (hs : ∀ r ∈ rs, SmallR r 1048576) (hn : rs.length ≤ 1000) (hm : MayW w) :
  Calls Tryz.prog 44 #[v] w fun e w' => e = .returned (.tuple #[.int .i64 (allB rs (firstC (srtRules rs))).1, .string (allB rs (firstC (srtRules rs))).2]) ∧ Below w.heap.size w w' :=
 checkAll_any v rs _ w hv hs (by omega) hm (fcDoes_of v rs w hv hs) (by have := firstC_len (srtRules rs); have : (srtRules rs).length = rs.length := List.length_mergeSort _; omega)
theorem chkCycle_any (v : Value) (rs : List RuleS) (w : World) (hv : RulesI w v rs) (hs : ∀ r ∈ rs, SmallR r 1048576) (hn : rs.length ≤ 1000) (hm : MayW w) :
  Calls Tryz.prog 45 #[v] w fun e w' => ∃ u, e = .returned u ∧ IsStrs w' u (if (beforeB rs).1 = 0 then firstC (srtRules rs) else []) ∧ Below w.heap.size w w' :=
 checkCycle_any v rs _ w hv hs (by omega) hm (fcDoes_of v rs w hv hs)
end Go.Proofs.YtdhmeganlnpohaaGreatDoor
namespace Go.Proofs.YtdhmeganlnpohaaGreatDoor
theorem pair_get {α : Type} {R : α → α → Prop} {l : List α} : l.Pairwise R ↔ ∀ (i j : Nat) x y, l[i]? = some x → l[j]? = some y → i < j → R x y := by
 rw [List.pairwise_iff_getElem]
 constructor
 ·intro h i j x y hx hy hij
  obtain ⟨h1, rfl⟩ := List.getElem?_eq_some_iff.1 hx
  obtain ⟨h2, rfl⟩ := List.getElem?_eq_some_iff.1 hy
  exact h i j h1 h2 hij
 ·intro h i j hi hj hij
  exact h i j _ _ (List.getElem?_eq_getElem hi) (List.getElem?_eq_getElem hj) hij
theorem OkTog.perm {rs ys : List RuleS} (h : OkTog rs) (hp : ys.Perm rs) : OkTog ys := by
 refine ⟨fun r hr => h.each r (hp.mem_iff.1 hr), by rw [hp.length_eq]; exact h.few, ?_, fun r hr => h.own r (hp.mem_iff.1 hr), ?_, fun r hr a ha => ?_⟩
 ·exact pair_get.1 ((hp.pairwise_iff (R := fun x y : RuleS => x.name ≠ y.name) (fun h e => h e.symm)).2 (pair_get.2 h.names))
 ·exact pair_get.1 ((hp.pairwise_iff (R := fun x y : RuleS => ∀ a ∈ x.outs, a ∉ y.outs) (fun h a ha hb => h a hb ha)).2 (pair_get.2 h.files))
 ·obtain ⟨x, hx, e⟩ := h.after r (hp.mem_iff.1 hr) a ha
  exact ⟨x, hp.mem_iff.2 hx, e⟩
def NeedR (x y : RuleS) : Prop := (∃ a ∈ x.ins, a ∈ y.outs) ∨ y.name ∈ x.after
theorem needL_iff {rs : List RuleS} (h : OkTog rs) {i j : Nat} : j ∈ needL rs i ↔ ∃ x y, rs[i]? = some x ∧ rs[j]? = some y ∧ NeedR x y := by
 rw [needL_mem]
 constructor
 ·intro hn
  have hx : ∃ x, rs[i]? = some x := by
   cases e : rs[i]? with
   | some x => exact ⟨x, rfl⟩
   | none =>
    unfold insAt afterAt at hn
    rw [e] at hn
    simp at hn
  obtain ⟨x, hx⟩ := hx
  rcases hn with ⟨a, ha, hm⟩ | ⟨a, ha, hm⟩
  ·obtain ⟨h1, h2⟩ := mkrN_some hm
   have hy := List.getElem?_eq_getElem h1
   rw [outsAt_of hy] at h2
   unfold insAt at ha; rw [hx] at ha
   exact ⟨x, _, hx, hy, .inl ⟨a, ha, h2⟩⟩
  ·obtain ⟨h1, h2⟩ := plcN_some hm
   have hy := List.getElem?_eq_getElem h1
   unfold nmAt at h2; rw [hy] at h2
   unfold afterAt at ha; rw [hx] at ha
   simp only [Option.map_some, Option.getD_some] at h2 ha
   exact ⟨x, _, hx, hy, .inr (by rw [← h2]; exact ha)⟩
 ·rintro ⟨x, y, hx, hy, hn⟩
  have hj := (List.getElem?_eq_some_iff.1 hy).1
  rcases hn with ⟨a, ha, hb⟩ | hn
  ·exact .inl ⟨a, by unfold insAt; rw [hx]; exact ha, mkrN_of h hy hb hj (Nat.le_refl _)⟩
  ·exact .inr ⟨_, by unfold afterAt; rw [hx]; exact hn, plcN_of h hy hj (Nat.le_refl _)⟩
inductive RchR (rs : List RuleS) : RuleS → RuleS → Prop
 | one {x y : RuleS} : x ∈ rs → y ∈ rs → NeedR x y → RchR rs x y
 | more {x y z : RuleS} : RchR rs x y → z ∈ rs → NeedR y z → RchR rs x z
theorem RchR.mem {rs : List RuleS} {x y : RuleS} (h : RchR rs x y) : y ∈ rs := by cases h <;> assumption
theorem rch_rules {rs : List RuleS} (h : OkTog rs) {i j : Nat} (hr : Rch (needL rs) i j) : ∃ x y, rs[i]? = some x ∧ rs[j]? = some y ∧ RchR rs x y := by
 induction hr with
 | one h1 =>
  obtain ⟨x, y, hx, hy, hn⟩ := (needL_iff h).1 h1
  exact ⟨x, y, hx, hy, .one (List.mem_of_getElem? hx) (List.mem_of_getElem? hy) hn⟩
 | more _ h1 ih =>
  obtain ⟨x, y, hx, hy, hn⟩ := ih
  obtain ⟨y', z, hy', hz, hn'⟩ := (needL_iff h).1 h1
  rw [hy] at hy'
  obtain rfl := Option.some.inj hy'
  exact ⟨x, z, hx, hz, .more hn (List.mem_of_getElem? hz) hn'⟩
theorem rules_rch {rs : List RuleS} (h : OkTog rs) {x y : RuleS} (hr : RchR rs x y) : ∀ i j, rs[i]? = some x → rs[j]? = some y → Rch (needL rs) i j := by
 induction hr with
 | one _ _ hn => intro i j hx hy; exact .one ((needL_iff h).2 ⟨_, _, hx, hy, hn⟩)
 | more h1 _ hn ih =>
  intro i j hx hz
  obtain ⟨k, hk⟩ := List.getElem?_of_mem h1.mem
  exact .more (ih i k hx hk) ((needL_iff h).2 ⟨_, _, hk, hz, hn⟩)
theorem RchR.perm {rs ys : List RuleS} (hp : ys.Perm rs) {x y : RuleS} (h : RchR rs x y) : RchR ys x y := by
 induction h with
 | one h1 h2 hn => exact .one (hp.mem_iff.2 h1) (hp.mem_iff.2 h2) hn
 | more _ h2 hn ih => exact .more ih (hp.mem_iff.2 h2) hn
theorem acyclic_perm {rs ys : List RuleS} (h : OkTog rs) (hp : ys.Perm rs) (ha : ∀ s, s < ys.length → ¬ Rch (needL ys) s s) : ∀ s, s < rs.length → ¬ Rch (needL rs) s s := by
 intro s _ hs
 obtain ⟨x, y, hx, hy, hr⟩ := rch_rules h hs
 rw [hx] at hy
 obtain rfl := Option.some.inj hy
 obtain ⟨i, hi⟩ := List.getElem?_of_mem (hp.mem_iff.2 (List.mem_of_getElem? hx))
 exact ha i (List.getElem?_eq_some_iff.1 hi).1 (rules_rch (h.perm hp) (hr.perm hp) i i hi hi)
theorem acyclic_of {rs : List RuleS} (h : OkTog rs) (hc : firstC (srtRules rs) = []) : ∀ s, s < rs.length → ¬ Rch (needL rs) s s :=
 acyclic_perm h (List.mergeSort_perm _ _) (firstC_nil hc)
end Go.Proofs.YtdhmeganlnpohaaGreatDoor
namespace Go.Proofs.YtdhmeganlnpohaaGreatDoor
open Go.RowKit Go.Shelf Go.Maps
theorem runP_short (r : RuleS) (ins : List ValT) (h : ∀ v ∈ ins, v.2.size ≤ 100000000) : ∀ v ∈ runP r ins, v.2.size ≤ 100000000 := by
 unfold runP
 split
 ·intro v hv; simp at hv
 ·intro v hv
  obtain ⟨o, _, rfl⟩ := List.mem_map.1 hv
  exact normV_short (stepsE_short _ _ (ShortE.by _ _ _ (fun _ => by show (0 : Nat) ≤ _; omega) h) o)
theorem valF_short (rs : List RuleS) (f : ByteArray → ByteArray × Bool) (hf : ∀ x, (f x).1.size ≤ 100000000) : ∀ (d : Nat) (x : ByteArray), (valF rs f d x).2.size ≤ 100000000
 | 0, _ => by show (0 : Nat) ≤ _; omega
 | d + 1, x => by
  rw [valF]
  split
  ·exact hf x
  ·split
   ·show (0 : Nat) ≤ _; omega
   ·rename_i r _
    rw [List.getD_eq_getElem?_getD]
    cases h : (runP r (r.ins.map (valF rs f d)))[(findI r.outs x).toNat]? with
    | none => show (0 : Nat) ≤ _; omega
    | some v => exact runP_short _ _ (fun u hu => by obtain ⟨a, _, rfl⟩ := List.mem_map.1 hu; exact valF_short rs f hf d a) v (List.mem_of_getElem? h)
def codeB (rs : List RuleS) : Int := (allB rs (firstC (srtRules rs))).1
theorem codeB_ok {rs : List RuleS} (h : codeB rs = 0) : (beforeB rs).1 = 0 ∧ firstC (srtRules rs) = [] := by
 unfold codeB allB at h
 by_cases hb : (beforeB rs).1 = 0
 ·rw [if_pos hb] at h
  cases hc : firstC (srtRules rs) with
  | nil => exact ⟨hb, rfl⟩
  | cons x l => rw [hc] at h; exact absurd (show (3 : Int) = 0 from h) (by decide)
 ·rw [if_neg hb] at h; exact absurd h hb
def filesV (rs : List RuleS) (f : ByteArray → ByteArray × Bool) (names : List ByteArray) : List ValT := if codeB rs = 0 then names.map (fileV rs f) else List.replicate names.length noV
set_option maxHeartbeats 8000000
set_option maxRecDepth 100000
theorem files_any (v tv nv : Value) (rs : List RuleS) (f : ByteArray → ByteArray × Bool) (names : List ByteArray) (w : World) (hv : RulesI w v rs) (hs : ∀ r ∈ rs, SmallR r 1048576) (hn : rs.length ≤ 1000) (ht : ∃ a, tv = .pointer a) (hR : ReadDoes tv w f) (hf : ∀ x, (f x).1.size ≤ 100000000) (hN : IsStrs w nv names) (hns : ∀ x ∈ names, x.size ≤ maxLen) (hnl : names.length ≤ 1000000000) (hG : Glob w) (hM : MayW w) :
  Calls Tryz.prog 46 #[v, tv, nv] w fun e w' => ∃ g, e = .returned (.slice (some ⟨g, 0, none⟩) names.length names.length) ∧ ValRow w' g (filesV rs f names) ∧ w.heap.size ≤ g ∧ Below w.heap.size w w' := by
 have CA := Lib.hid (chkAll_any v rs w hv hs hn hM)
 obtain ⟨ta, rfl⟩ := ht
 obtain ⟨va, vc, rfl, _, _⟩ := rulesI_len hv
 obtain ⟨na, nc, rfl, hnlc, hnm, _⟩ := isStrs_cells hN
 have hmk := make_vals names.length hnl
 obtain ⟨cs, hc⟩ : ∃ c, codeB rs = c := ⟨_, rfl⟩
 have hc' : (allB rs (firstC (srtRules rs))).1 = cs := hc
 obtain ⟨st, hst⟩ : ∃ c, (allB rs (firstC (srtRules rs))).2 = c := ⟨_, rfl⟩
 rw [hc', hst] at CA
 unfold filesV
 rw [hc]
 unfold maxLen at hnm
 by_cases h0 : cs = 0
 ·subst h0
  rw [if_pos rfl]
  obtain ⟨hb0, hcy⟩ := codeB_ok hc
  have hT := okTog_of hb0
  have hmean := isMean_of (f := f) hT (acyclic_of hT hcy)
  have CM : Hid (∀ W, Below w.heap.size w W → Calls Tryz.prog 75 #[.slice va rs.length vc, .pointer ta] W fun e w' => ∃ n, e = .returned (.agg #[.pointer ta, .map (some n), .map (some (n + 1))]) ∧ W.heap.size ≤ n ∧ Below W.heap.size W w' ∧ Calls Tryz.prog 76 #[.agg #[.pointer ta, .map (some n), .map (some (n + 1))], .slice na names.length nc] w' fun e w'' => ∃ g, e = .returned (.slice (some ⟨g, 0, none⟩) names.length names.length) ∧ ValRow w'' g (names.map (fileV rs f)) ∧ w'.heap.size ≤ g ∧ Below W.heap.size W w'') := by
   show ∀ W, _
   intro W hW
   have hvW := hv.below hW
   obtain ⟨V, hV⟩ := rv_of hvW
   refine (meaningOf_any _ (.pointer ta) rs V W hvW hV hs hn ⟨_, rfl⟩).mono ?_
   rintro e w' ⟨n, rfl, hln, hmk', hmd, hb⟩
   have hH : DenH W W.heap.size n (n + 1) rs V (fileV rs f) (rankN (needL rs) rs.length) (.pointer ta) f :=
    ⟨rfl, hln, by omega, by omega, hn, hs, fun k x hx => by
     obtain ⟨a1, c1, a2, c2, a3, c3, a4, c4, h1, h2, _⟩ := hV k x hx
     exact ⟨a1, c1, a2, c2, a3, c3, a4, c4, h1, h2⟩, hmean, fun x => valF_short rs f hf _ x, ⟨_, rfl⟩, fun x X hx hX => hR x X hx (hW.trans (hX.mono hW.size)), hG.below hW⟩
   have hI : DenI W W.heap.size n (n + 1) rs V (fileV rs f) [] w' := ⟨hb, hmk', [], hmd, fun k hk => by simp [hasM] at hk, fun p hp => by simp at hp, fun o ho => by simp at ho⟩
   refine ⟨n, rfl, hln, hb, ?_⟩
   refine (denAll_any hH (rs.length + 1) (ones_any hH _) _ names [] w' (hN.below (hW.trans (hb.mono hW.size))) hns hnl (fun x _ k hk => ?_) hI).mono ?_
   ·unfold rankN
    have := List.countP_le_length (p := fun y => @decide (Rch (needL rs) k y) (Classical.propDecidable _)) (l := List.range rs.length)
    rw [List.length_range] at this
    exact Nat.lt_succ_of_le this
   ·rintro e w'' ⟨g, rfl, hrow, hg, _, hI'⟩
    exact ⟨g, rfl, hrow, hg, hI'.below⟩
  clear hv hs hR hf hN hns hG hM hc hc' hst hb0 hcy hT hmean hnlc
  go_enter Tryz.func46, Tryz.ntmps46
  go_wp2_with (first
   | (go_at_call 44; (with_reducible refine CA.out.mono ?_); rintro e w2 ⟨rfl, hb2⟩; have HB2 := Lib.hid hb2; clear hb2)
   | (go_at_call 75; (with_reducible refine (CM.out _ HB2.out).mono ?_); rintro e w3 ⟨n, rfl, hln, hb3, hall⟩; have HLN := Lib.hid hln; have HB3 := Lib.hid hb3; have CAL := Lib.hid hall; clear hln hb3 hall)
   | (go_at_call 76; (with_reducible refine CAL.out.mono ?_); rintro e w4 ⟨g, rfl, hrow, hg, hb4⟩; have HROW := Lib.hid hrow; have HG := Lib.hid hg; have HB4 := Lib.hid hb4; clear hrow hg hb4))
  go_ret
  exact ⟨g, rfl, HROW.out, by have h1 := HG.out; have h2 := HB3.out.size; have h3 := HB2.out.size; omega, HB2.out.trans (HB4.out.mono HB2.out.size)⟩
 ·rw [if_neg h0]
  clear hv hs hR hf hN hns hG hM hc hc' hst hnlc
  go_enter Tryz.func46, Tryz.ntmps46
  go_wp2_with (go_at_call 44; (with_reducible refine CA.out.mono ?_); rintro e w2 ⟨rfl, hb2⟩; have HB2 := Lib.hid hb2; clear hb2)
  go_ret
  exact ⟨_, rfl, valRow_made _ _, HB2.out.size, HB2.out.alloc HB2.out.size _⟩
theorem file_anyD (v tv : Value) (rs : List RuleS) (f : ByteArray → ByteArray × Bool) (x : ByteArray) (w : World) (hv : RulesI w v rs) (hs : ∀ r ∈ rs, SmallR r 1048576) (hn : rs.length ≤ 1000) (ht : ∃ a, tv = .pointer a) (hR : ReadDoes tv w f) (hf : ∀ x, (f x).1.size ≤ 100000000) (hx : x.size ≤ maxLen) (hG : Glob w) (hM : MayW w) :
  Calls Tryz.prog 47 #[v, tv, .string x] w fun e w' => e = .returned (valE ((filesV rs f [x]).headD noV)) ∧ Below w.heap.size w w' := by
 obtain ⟨n, hnn⟩ : ∃ n, w.heap.size = n := ⟨_, rfl⟩
 obtain ⟨W2, hW2⟩ : ∃ V, (w.alloc (.cells #[.bool false, .string ⟨#[]⟩] 34)).alloc (.cells #[.string x] 9) = V := ⟨_, rfl⟩
 have hb2 : Below w.heap.size w W2 := by rw [← hW2]; exact ((Below.refl _ _).alloc (Nat.le_refl _) _).alloc (by simp) _
 have hr2 : W2.heap[n]? = some (.cells #[.bool false, .string ⟨#[]⟩] 34) := by
  rw [← hW2, Below.heap_alloc _ _ _ (by simp [hnn]), ← hnn]; exact alloc_at w _
 have hs2 : W2.heap.size = n + 2 := by rw [← hW2]; simp [hnn]
 have hx2 : W2.heap[n + 1]? = some (.cells #[.string x] 9) := by
  have := alloc_at (w.alloc (.cells #[.bool false, .string ⟨#[]⟩] 34)) (.cells #[.string x] 9)
  rw [World.size_alloc, hnn] at this
  rw [← hW2]; exact this
 have hst : IsStrs W2 (.slice (some ⟨n + 1, 0, none⟩) 1 1) [x] := ⟨_, _, rfl, Nat.le_refl _, by decide, fun _ => ⟨n + 1, 0, rfl, by omega, fun j y hy => by
  have hj := (List.getElem?_eq_some_iff.1 hy).1
  simp only [List.length_cons, List.length_nil] at hj
  obtain rfl : j = 0 := by omega
  obtain rfl : x = y := by simpa using hy
  simp only [World.cell?, hx2, Option.isSome_none, Bool.false_eq_true, if_false]
  rfl⟩⟩
 obtain ⟨va, vc, rfl, _, _⟩ := rulesI_len hv
 have hx1 : ∀ y ∈ [x], y.size ≤ maxLen := fun y hy => by rw [show y = x by simpa using hy]; exact hx
 have CF := Lib.hid (files_any (.slice va rs.length vc) tv _ rs f [x] W2 (hv.below hb2) hs hn ht (fun y V hy hV => hR y V hy (hb2.trans (hV.mono hb2.size))) hf hst hx1 (by simp) (hG.below hb2) (hM.below hb2))
 obtain ⟨t, ht1⟩ : ∃ t, filesV rs f [x] = [t] := by
  unfold filesV
  split
  ·exact ⟨_, rfl⟩
  ·exact ⟨_, rfl⟩
 obtain ⟨ta, rfl⟩ := ht
 rw [ht1] at CF ⊢
 obtain ⟨ok, tx⟩ := t
 show Calls _ _ _ _ fun e w' => e = .returned (.agg #[.bool ok, .string tx]) ∧ _
 have HW2 := Lib.hid hW2; have HB2 := Lib.hid hb2; have HR2 := Lib.hid hr2; have HS2 := Lib.hid hs2; have HNN := Lib.hid hnn
 clear hv hs hR hf hG hM hx hx1 hW2 hb2 hr2 hs2 hx2 hst ht1 hnn
 go_enter Tryz.func47, Tryz.ntmps47
 go_wp2_with (go_at_call 46; rw [HW2.out, HNN.out]; (with_reducible refine CF.out.mono ?_); rintro e w3 ⟨g, rfl, hrow, hg, hb3⟩; obtain ⟨p0, p1, _, _⟩ := hrow.cells (j := 0) rfl; have hr3 := (hb3.block n (by have := HS2.out; omega)).trans HR2.out; have HR3 := Lib.hid hr3; obtain ⟨r0, r1⟩ := cells2 hr3; have HB3 := Lib.hid (HB2.out.trans (hb3.mono HB2.out.size)); clear hrow hg hb3 hr3; simp only [Nat.zero_mul, List.length_cons, List.length_nil, Nat.zero_add] at p0 p1 ⊢)
 refine bodyPost_ret (results_c rfl _ _ n _ _ _ _ rfl (heap_set _ _ (heap_set _ _ HR3.out)) Tryz.underlying34 rfl (by kernel_rfl)) rfl ?_
 have hn' := HNN.out
 exact ⟨rfl, (HB3.out.setCell (p := ⟨n, 0, none⟩) (by show _ ≤ n; omega) _).setCell (p := ⟨n, 1, none⟩) (by show _ ≤ n; omega) _⟩
end Go.Proofs.YtdhmeganlnpohaaGreatDoor
