/- The law PrintLayout: the walk. -/
import Derived.Deep.CutBlock
import Derived.Deep.DeepCutAuto
import Derived.Test.YtlmnabhhgplhnaaGreatDoorMbeg
import Derived.Test.YtlmnabhhgplhnaaGreatDoorMbak
import Derived.Test.YtlmnabhhgplhnaaGreatDoorMlex
namespace Go.Proofs.YtlmnabhhgplhnaaGreatDoor.lawPrintLayout
open Go.RowKit Go.Shelf

abbrev N0 : Nat → Prop := fun _ => False
/-- The words of the rules, one rule behind the other. -/
def BB (zs : List RuleS) : List WB := (zs.map fun z => ruleW (sortR z)).flatten
theorem tmod_turn (turn : Int) (n : Nat) (h : 0 < n) : ∃ (r : Int) (t : Nat), turn.tmod n = r ∧ -(n : Int) < r ∧ r < n ∧ (r + n).tmod n = (t : Int) ∧ t < n := by
 refine ⟨turn.tmod n, ((turn.tmod n + n).tmod n).toNat, rfl, ?_, ?_, ?_, ?_⟩
 ·have := Int.lt_tmod_of_pos turn (b := (n : Int)) (by omega); omega
 ·exact Int.tmod_lt_of_pos _ (by omega)
 ·have h0 : 0 ≤ (turn.tmod n + n).tmod n := Int.tmod_nonneg _ (by have := Int.lt_tmod_of_pos turn (b := (n : Int)) (by omega); omega)
  omega
 ·have h0 : 0 ≤ (turn.tmod n + n).tmod n := Int.tmod_nonneg _ (by have := Int.lt_tmod_of_pos turn (b := (n : Int)) (by omega); omega)
  have h1 := Int.tmod_lt_of_pos (turn.tmod n + n) (b := (n : Int)) (by omega)
  omega

theorem bb_len : ∀ l : List RuleS, (∀ q ∈ l, ShortR q) → l.length ≤ 6 → (BB l).length ≤ 6000 := by
 have key : ∀ l : List RuleS, (∀ q ∈ l, ShortR q) → (BB l).length ≤ l.length * 1000 := by
  intro l
  induction l with
  | nil => intro _; simp [BB]
  | cons x l ih =>
   intro h
   have h1 := ih fun q hq => h q (by simp [hq])
   have h2 := words_few (short_sortR (h x (by simp)))
   unfold BB at h1 ⊢
   simp only [List.map_cons, List.flatten_cons, List.length_append, List.length_cons, Nat.succ_mul]
   omega
 intro l h hl
 have := key l h
 omega
theorem bb_short (l : List RuleS) (h : ∀ q ∈ l, SmallR q 1048576) : ∀ y ∈ BB l, y.2.length ≤ 1048576 := by
 intro y hy
 obtain ⟨a, ha, hy⟩ := List.mem_flatten.1 hy
 obtain ⟨q, hq, rfl⟩ := List.mem_map.1 ha
 exact tok_short (small_sortR (h q hq)) y hy

set_option maxHeartbeats 16000000 in
set_option maxRecDepth 100000 in
theorem law (v : Value) (xs : List RuleS) (turn : Int) (gap : ByteArray) (w : World) (hI : RulesI w v xs) (hu : xs.length ≤ 1048576 ∧ ∀ y ∈ xs, SmallR y 1048576) (hgap : gap.size ≤ maxLen) (hG : GP w.heap.size w) :
  Calls Tryz.prog 4 #[v, .int .i64 turn, .string gap] w fun e w' => e = .returned (.bool true) ∧ Below w.heap.size w w' := by
 have C0 := Lib.hid (begun4_any w hG)
 have CL : Hid (∀ w', Below w.heap.size w w' → Calls Tryz.prog 6 #[v] w' (SortedRulesPost w' (cutRs 42 xs))) := by
  show ∀ w', _
  exact fun w' hb => lawRules_any v xs w' (hI.below hb) hu.2
 obtain ⟨ys, hys⟩ : ∃ ys, cutRs 42 xs = ys := ⟨_, rfl⟩
 have hyl : ys.length ≤ 42 := by rw [← hys, cutRs_len]; omega
 have HYS : Hid (∀ y ∈ ys, SmallR y 1048576 ∧ ShortR y) := by
  show ∀ y ∈ ys, _
  intro y hy
  rw [← hys] at hy
  obtain ⟨x, hx, rfl⟩ := List.mem_map.1 (show y ∈ (xs.take 42).map cutR from hy)
  exact ⟨small_cutR (hu.2 x (List.mem_of_mem_take hx)), short_cutR x⟩
 rw [hys] at CL
 have CA : Hid (∀ w' v', RulesI w' v' ys → Calls Tryz.prog 7 #[v'] w' fun e w'' => AllZ ys e ∧ Below w'.heap.size w' w'') := by
  show ∀ w' v', _
  exact fun w' v' h => cAll_any v' ys w' h (by omega) HYS.out
 have KEEP : Hid (∀ {w1 w2 : World} {v' : Value} {zs : List RuleS}, RulesA N0 w1 v' zs → Below w1.heap.size w1 w2 → RulesA N0 w2 v' zs) := by
  show ∀ {w1 w2 : World} {v' : Value} {zs : List RuleS}, _
  exact fun h hb => h.keep ((fr_below hb).mono fun b hb e => by omega)
 have HGP := Lib.hid hG
 unfold maxLen at hgap
 clear hI hu hG hys
 go_enter Tryz.func4, Tryz.ntmps4
 go_wp2_with fail
 refine C0.out.mono ?_
 rintro e w1 ⟨rfl, hb1⟩
 have HB1 := Lib.hid hb1
 clear hb1
 go_wp2_with fail
 refine (CL.out _ HB1.out).mono ?_
 rintro e w2 ⟨ra, rn, rc, rfl, hown, hb2⟩
 have hra : RulesA N0 w2 (.slice ra rn rc) ys := hown.rulesA.mono fun _ _ e => e.elim
 obtain ⟨a', c', q, hrc, hrm⟩ := rulesA_len hra
 injection q with q1 q2 q3
 subst q2 q3
 have HB2 := Lib.hid (HB1.out.trans (hb2.mono HB1.out.size))
 have HRA := Lib.hid hra
 unfold maxLen at hrm
 clear hown hra hb2 q1
 go_wp2_with fail
 refine (CA.out _ _ HRA.out.rulesI).mono ?_
 rintro e w3 ⟨⟨c, s, rfl, hc⟩, hb3⟩
 have HOK := Lib.hid hc
 have HB3 := Lib.hid (HB2.out.trans (hb3.mono HB2.out.size))
 have HRA3 := Lib.hid (KEEP.out HRA.out hb3)
 clear hb3 hc HRA
 by_cases hc0 : c = 0
 rotate_left
 ·go_wp2
  go_ret
  exact ⟨rfl, HB3.out⟩
 obtain ⟨hok, hon⟩ := HOK.out hc0
 have HRU := Lib.hid hok
 have HON := Lib.hid (onceX_of hon)
 subst hc0
 clear hok hon HOK
 obtain ⟨n, hnn⟩ : ∃ n, ys.length = n := ⟨_, rfl⟩
 have HNN := Lib.hid hnn
 rw [hnn] at hyl hrc ⊢
 rw [hnn] at HRA3 
 clear hnn
 by_cases hn0 : n = 0
 ·subst hn0
  go_wp2
  go_ret
  exact ⟨rfl, HB3.out⟩
 by_cases hn6 : 6 < n
 ·have hz : ¬ (n : Int) = 0 := by omega
  have hz6 : (6 : Int) < (n : Int) := by omega
  go_wp2
  go_ret
  exact ⟨rfl, HB3.out⟩
 have hz : ¬ (n : Int) = 0 := by omega
 have hz6 : ¬ (6 : Int) < (n : Int) := by omega
 obtain ⟨r, t, hr, hr1, hr2, ht, htn⟩ := tmod_turn turn n (by omega)
 have hw1 : IntKind.i64.wrap r = r := IntWalk.i64_in _ (by omega)
 have hw2 : IntKind.i64.wrap (r + (n : Int)) = r + (n : Int) := IntWalk.i64_in _ (by omega)
 have hw3 : IntKind.i64.wrap (t : Int) = (t : Int) := IntWalk.i64_in _ (by omega)
 have ht0 : (0 : Int) ≤ (t : Int) := by omega
 have ht1 : (t : Int) ≤ (n : Int) := by omega
 have ht2 : (t : Int) ≤ (rc : Int) := by omega
 have hgz : ((n : Int) == 0) = false := by simpa using hz
 have hgz' : (n == 0) = false := by simpa using hn0
 have hg6 : decide ((6 : Int) < (n : Int)) = false := decide_eq_false hz6
 have hg6' : decide (6 < n) = false := decide_eq_false hn6
 go_upto_region 9 with fail
 obtain ⟨WG, hWG⟩ : ∃ V, w3.alloc (.cells #[.string ⟨#[32]⟩, .string ⟨#[10]⟩, .string ⟨#[9]⟩, .string ⟨#[32, 35, 32, 114, 101, 109, 97, 114, 107, 32, 123, 32, 59, 32, 34, 32, 10]⟩, .string ⟨#[13, 10]⟩] 9) = V := ⟨_, rfl⟩
 have hxg := alloc_at w3 (.cells #[.string ⟨#[32]⟩, .string ⟨#[10]⟩, .string ⟨#[9]⟩, .string ⟨#[32, 35, 32, 114, 101, 109, 97, 114, 107, 32, 123, 32, 59, 32, 34, 32, 10]⟩, .string ⟨#[13, 10]⟩] 9)
 have hbg : Below w3.heap.size w3 WG := by rw [← hWG]; exact (Below.refl _ _).alloc (Nat.le_refl _) _
 rw [hWG] at hxg ⊢
 obtain ⟨gb, hgb⟩ : ∃ p, w3.heap.size = p := ⟨_, rfl⟩
 rw [hgb] at hxg ⊢
 have HGA : Hid (∀ (k : Nat) w', k < 5 → Below WG.heap.size WG w' → w'.cell? ⟨gb, k, none⟩ = some (.string ⟨(gapsL.getD k []).toArray⟩)) := by
  show ∀ (k : Nat) w', _
  intro k w' hk hb
  have hz := (hb.block _ (block_lt' hxg)).trans hxg
  match k, hk with
  | 0, _ => simp [World.cell?, hz, gapsL]
  | 1, _ => simp [World.cell?, hz, gapsL]
  | 2, _ => simp [World.cell?, hz, gapsL]
  | 3, _ => simp [World.cell?, hz, gapsL]
  | 4, _ => simp [World.cell?, hz, gapsL]
 have hrag : RulesA N0 WG (.slice ra n rc) ys := KEEP.out HRA3.out hbg
 have HBG := Lib.hid (HB3.out.trans (hbg.mono HB3.out.size))
 have hA : RulesA (fun b => WG.heap.size ≤ b) WG (.slice ra n rc) ys := (hrag.keep (Fr.refl _ _)).mono fun b hb e => by omega
 have hdr := rulesA_drop hA (m := t) (by omega)
 have hdv : dropV 5 t ra n rc = .slice (Option.map (fun x => x.add (t * 5)) ra) (n - t) (rc - t) := by unfold dropV; rw [if_neg (by omega)]
 rw [hdv] at hdr
 obtain ⟨r1, v1, W1, hr1, ho1, hg1, hl1, hall1⟩ := run_append_rules (ty := 22) (v0 := .slice none 0 0) (B := WG.heap.size) (n := 0) (xs := []) ⟨rfl, .inl ⟨rfl, rfl⟩⟩ hdr (Nat.le_refl _) (by rw [List.length_drop, HNN.out]; omega)
 have hB1 := (rulesA_take hA (m := t) (by omega)).keep (fr_grown hg1 fun k e => by cases e)
 have hC1 := hA.keep (fr_grown hg1 fun k e => by cases e)
 obtain ⟨r2, v2, W2, hr2, ho2, hg2, hl2, hall2⟩ := run_append_rules (ty := 22) ho1 hB1 hg1.size (by rw [List.length_drop, List.length_take, HNN.out]; omega)
 have hC2 := hC1.keep (fr_grown hg2 fun k e => (ho1.lt k e).1)
 rw [Nat.zero_add, List.nil_append] at ho2
 have hboth := rules_both hall1 hall2 hg1 hg2 ho2 fun b e => (ho1.lt b e).1
 obtain ⟨zs, hzs⟩ : ∃ zs, ys.drop t ++ ys.take t = zs := ⟨_, rfl⟩
 have hperm : zs.Perm ys := by
  rw [← hzs]
  exact (List.perm_append_comm).trans (by rw [List.take_append_drop])
 have hzl : zs.length = n := by rw [hperm.length_eq, HNN.out]
 rw [hzs] at hboth
 obtain ⟨ta, tc, q, htl, htm⟩ := rulesA_len hboth
 subst q
 rw [hzl] at hboth htl hr2
 have HZS : Hid (∀ y ∈ zs, OkRu y ∧ SmallR y 1048576 ∧ ShortR y) := by show ∀ y ∈ zs, _; exact fun y hy => ⟨HRU.out y (hperm.mem_iff.1 hy), HYS.out y (hperm.mem_iff.1 hy)⟩
 have HSO : Hid (sortRs (zs.map sortR) = sortRs ys) := by show _ = _; rw [sortRs_sorted]; exact (sortRs_perm hperm.symm HON.out).symm
 have HT2 := Lib.hid hboth
 have HRA2 := Lib.hid (hC2.mono (Av' := N0) fun b hb e => e.elim)
 have HBW2 : Hid (Below w.heap.size w W2) := Lib.hid ((HBG.out.grown hg1 HBG.out.size (fun k e => by cases e)).grown hg2 (HBG.out.grown hg1 HBG.out.size (fun k e => by cases e)).size (fun k e => Nat.le_trans HBG.out.size (ho1.lt k e).1))
 have HG2 : Hid (Below WG.heap.size WG W2) := Lib.hid (((Below.refl _ _).grown hg1 (Nat.le_refl _) (fun k e => by cases e)).grown hg2 ((Below.refl _ _).grown hg1 (Nat.le_refl _) (fun k e => by cases e)).size (fun k e => (ho1.lt k e).1))
 have HR1 := Lib.hid hr1
 have HR2 := Lib.hid hr2
 have HPE := Lib.hid hperm
 have HZL := Lib.hid hzl
 unfold maxLen at htm
 have hw4 : (r + (n : Int)).tmod (n : Int) = (t : Int) := ht
 clear hxg hbg hrag hA hdr hdv hr1 ho1 hg1 hl1 hall1 hB1 hC1 hr2 ho2 hg2 hl2 hall2 hC2 hboth hzs hperm hzl hWG hgb
 go_wp2_with (at_builtin; first | (refine wpList_append_known (by rfl) _ _ 22 (by rfl) (by rfl) (by rfl) HR1.out ?_) | (refine wpList_append_known (by rfl) _ _ 22 (by rfl) (by rfl) (by rfl) HR2.out ?_))
 obtain ⟨ta', tc', q, _, _, hzr⟩ := rules_cells HT2.out.rulesI
 injection q with q1 q2 q3
 subst q1 q3
 have HZR := Lib.hid hzr
 have CCP : Hid (∀ (z : RuleS) vi vo vf vs w', RuleI w' [.string z.name, vi, vo, vf, vs] z → SmallR z 1048576 → Calls Tryz.prog 12 #[.agg #[.string z.name, vi, vo, vf, vs]] w' fun e w'' => RuleF w' w'' z e ∧ Below w'.heap.size w' w'') := by
  show ∀ (z : RuleS) vi vo vf vs w', _
  exact fun z vi vo vf vs w' h h2 => copyR_full z vi vo vf vs w' h h2
 have CBK : Hid (∀ (Av : Nat → Prop) v' zs w', StrsO Av w' v' zs → Calls Tryz.prog 13 #[v'] w' fun e w'' => e = .returned (.tuple #[]) ∧ BackE Av w' w'' v' zs) := by
  show ∀ (Av : Nat → Prop) v' zs w', _
  exact fun Av v' zs w' h => back_any Av v' zs w' h
 have CPR : Hid (∀ (z r' : RuleS) (i1 i3 o1 o3 f1 f3 s1 s3) w', RuleI w' [.string z.name, .slice i1 z.ins.length i3, .slice o1 z.outs.length o3, .slice f1 z.after.length f3, .slice s1 z.steps.length s3] r' → r'.name = z.name → r'.ins.length = z.ins.length → r'.outs = z.outs → r'.after.length = z.after.length → r'.steps = z.steps → SmallR r' 1048576 → (ruleQ (risR r')).length ≤ 200000 →
   Calls Tryz.prog 15 #[.agg #[.string z.name, .slice i1 z.ins.length i3, .slice o1 z.outs.length o3, .slice f1 z.after.length f3, .slice s1 z.steps.length s3]] w' fun e w'' => e = .returned (.string ⟨(ruleQ (risR r')).toArray⟩) ∧ Below w'.heap.size w' w'') := by
  show ∀ (z r' : RuleS) (i1 i3 o1 o3 f1 f3 s1 s3) w', _
  intro z r' i1 i3 o1 o3 f1 f3 s1 s3 w' h e1 e2 e3 e4 e5 hsm hlen
  rw [← e1, ← e2, ← e3, ← e4, ← e5] at h ⊢
  exact printQ_any r' i1 o1 f1 s1 i3 o3 f3 s3 w' h hsm (by omega)
 have CLX : Hid (∀ (P : ByteArray) w', P.size ≤ 200000 → Calls Tryz.prog 14 #[.string P] w' fun e w'' => AllE P.data.toList e w'' ∧ Below w'.heap.size w' w'') := by
  show ∀ (P : ByteArray) w', _
  exact fun P w' h => lexAll_any P w' (by omega)
 clear hzr q2
 go_loopw [12, 13, 75] (fun sv nv iv wr => ∃ i : Nat, i ≤ n ∧ iv = .int .i64 (i : Int) ∧ sv = .string ⟨(laidS gap.data.toList (BB (zs.take i))).toArray⟩ ∧ nv = .int .i64 (((BB (zs.take i)).length : Nat) : Int) ∧ Below W2.heap.size W2 wr) (fun _ _ iv _ => n - (intOf iv).toNat)
 case atStart => exact ⟨0, by omega, rfl, by simp [BB, laidS, layP, spell], by simp [BB], Below.refl _ _⟩
 case round =>
  obtain ⟨i, hi, rfl, rfl, rfl, hbr⟩ := hrel
  obtain ⟨WR, hWR⟩ : ∃ V, wr = V := ⟨_, rfl⟩
  rw [hWR] at hbr ⊢
  clear hWR
  have HBR := Lib.hid hbr
  obtain ⟨A, hA⟩ : ∃ A, BB (zs.take i) = A := ⟨_, rfl⟩
  rw [hA]
  have HA := Lib.hid hA
  clear hA
  by_cases hlt : i < n
  ·obtain ⟨z, hz'⟩ : ∃ z, zs[i]? = some z := ⟨zs[i]'(by rw [HZL.out]; exact hlt), List.getElem?_eq_getElem _⟩
   obtain ⟨b, o, p1, q1, p2, q2, p3, q3, p4, q4, hab, hri, hcs⟩ := HZR.out i z hz'
   obtain ⟨hzo, hzm, hzh⟩ := HZS.out z (List.mem_of_getElem? hz')
   obtain ⟨y0, y1, y2, y3, y4⟩ := hcs _ hbr
   have CC := Lib.hid (CCP.out z _ _ _ _ WR (hri.below hbr) hzm)
   have HZO := Lib.hid (And.intro hzo (And.intro hzm hzh))
   have HZ := Lib.hid hz'
   have hi1 : (i : Int) < (n : Int) := by omega
   have hi0 : (0 : Int) ≤ (i : Int) := by omega
   subst hab
   clear hbr hcs hri hz' hzo hzm hzh
   go_wp2_with fail
   refine CC.out.mono ?_
   rintro e w5 ⟨⟨vi, vo, vf, vs, rfl, h1, h2, h3, h4, h5, hap, B0, hlo, hst⟩, hb5⟩
   obtain ⟨i1, i3, qi⟩ := isStrs_shape h1.1.isStrs
   obtain ⟨o1, o3, qo⟩ := isStrs_shape h2.1.isStrs
   obtain ⟨f1, f3, qf⟩ := isStrs_shape h3.1.isStrs
   obtain ⟨s1, s3, qs, _, _⟩ := stepsA_len h4
   subst qi qo qf qs
   obtain ⟨WB, hWB⟩ : ∃ V, w5.alloc (.cells #[.string z.name, .slice i1 z.ins.length i3, .slice o1 z.outs.length o3, .slice f1 z.after.length f3, .slice s1 z.steps.length s3] 38) = V := ⟨_, rfl⟩
   have hxB := alloc_at w5 (.cells #[.string z.name, .slice i1 z.ins.length i3, .slice o1 z.outs.length o3, .slice f1 z.after.length f3, .slice s1 z.steps.length s3] 38)
   have hfB : ∀ Av, Fr Av w5 WB := fun Av => by rw [← hWB]; exact fr_alloc _ _ _
   have hbB : Below WR.heap.size WR WB := by rw [← hWB]; exact hb5.alloc hb5.size _
   rw [hWB] at hxB
   have h1B := StrsO.keep h1 (hfB _)
   have h2B := StrsO.keep h2 (hfB _)
   have h3B := StrsO.keep h3 (hfB _)
   have hstB := hst.keep (hfB _)
   have C1 := Lib.hid (CBK.out _ _ _ WB h1B)
   have hn1 : ¬ (Value.slice i1 z.ins.length i3).ownBlock = some w5.heap.size := fun e => by have := (h1.1.2 _ e).1; omega
   have hn3 : ¬ (Value.slice f1 z.after.length f3).ownBlock = some w5.heap.size := fun e => by have := (h3.1.2 _ e).1; omega
   have hlB : w5.heap.size < WB.heap.size := block_lt' hxB
   have HWB := Lib.hid hWB
   have HKB := Lib.hid (And.intro hxB (And.intro h1B (And.intro h2B (And.intro h3B hstB))))
   have hlw : ∀ k, (Value.slice f1 z.after.length f3).ownBlock = some k → ¬ k < WR.heap.size := fun k e => (h3.1.2 k e).2
   have HLW := Lib.hid hlw
   have HAP := Lib.hid (And.intro hap (And.intro hlo (And.intro hn1 hn3)))
   have HBB := Lib.hid hbB
   have HLB := Lib.hid hlB
   clear h1 h2 h3 h4 h5 hap hlo hst hb5 hxB hfB hbB h1B h2B h3B hstB hn1 hn3 hlB hWB hlw y0 y1 y2 y3 y4
   go_wp2_with fail
   rw [HWB.out]
   refine C1.out.mono ?_
   rintro e w6 ⟨rfl, ⟨L1, hp1, hs1⟩, hf1⟩
   obtain ⟨hxB, h1B, h2B, h3B, hstB⟩ := HKB.out
   obtain ⟨hap, hlo, hn1, hn3⟩ := HAP.out
   have hx6 := (hf1.block _ HLB.out hn1).trans hxB
   have h2C := StrsO.keep (strsO_apart h2B fun b e e' => ((hap b).1 e').1 e) hf1
   have h3C := StrsO.keep (strsO_apart h3B fun b e e' => ((hap b).1 e').2 e) hf1
   have hstC := hstB.keep (hf1.mono fun k _ e => hlo k (.inl e))
   have hb6 : Below WR.heap.size WR w6 := HBB.out.trans ((hf1.below HBB.out.size fun k hk e => (h1B.1.2 k e).2 hk))
   have hlt6 : w5.heap.size < w6.heap.size := block_lt' hx6
   obtain ⟨_, _, _, d3, _⟩ := cells5 hx6
   have C3 := Lib.hid (CBK.out _ _ _ w6 h3C)
   have HKC := Lib.hid (And.intro hx6 (And.intro hs1 (And.intro h2C (And.intro h3C hstC))))
   have HP1 := Lib.hid hp1
   have HB6 := Lib.hid hb6
   have HL6 := Lib.hid hlt6
   clear hxB h1B h2B h3B hstB hap hlo hn1 hn3 hx6 h2C h3C hstC hb6 hlt6 hp1 hs1 hf1 HKB
   go_wp2_with fail
   refine C3.out.mono ?_
   rintro e w7 ⟨rfl, ⟨L3, hp3, hs3⟩, hf3⟩
   obtain ⟨hx6, hs1, h2C, h3C, hstC⟩ := HKC.out
   obtain ⟨hap, hlo, hn1, hn3⟩ := HAP.out
   have hx7 := (hf3.block _ HL6.out hn3).trans hx6
   have h1D := StrsO.keep (strsO_apart hs1 fun b e e' => ((hap b).1 e).2 e') hf3
   have h2D := StrsO.keep (strsO_apart h2C fun b e e' => (hap b).2 e e') hf3
   have hstD := hstC.keep (hf3.mono fun k _ e => hlo k (.inr e))
   have hb7 : Below WR.heap.size WR w7 := HB6.out.trans ((hf3.below HB6.out.size fun k hk e => HLW.out k e hk))
   obtain ⟨r', hr'⟩ : ∃ r' : RuleS, r' = { z with ins := L1, after := L3 } := ⟨_, rfl⟩
   have hri : RuleI w7 [.string z.name, .slice i1 z.ins.length i3, .slice o1 z.outs.length o3, .slice f1 z.after.length f3, .slice s1 z.steps.length s3] r' := by
    rw [hr']
    exact (show RuleA N0 w7 _ { z with ins := L1, after := L3 } from ⟨_, _, _, _, rfl, RowA.mono h1D.1 (fun _ _ e => e.elim), RowA.mono h2D.1 (fun _ _ e => e.elim), RowA.mono hs3.1 (fun _ _ e => e.elim), hstD.mono fun _ _ e => e.elim⟩).ruleI
   obtain ⟨hzo, hzm, hzh⟩ := HZO.out
   have hok' : OkRu r' := by rw [hr']; exact okRu_lists hzo HP1.out hp3
   have hsm' : SmallR r' 1048576 := by rw [hr']; exact smallR_lists hzm HP1.out hp3
   have hsr : sortR r' = sortR z := by rw [hr']; exact sortR_perm rfl HP1.out (List.Perm.refl _) hp3 rfl
   have hlen : (ruleQ (risR r')).length ≤ 200000 := by
    rw [risR_sort, ruleQ_tx (okRu_sort hok') (sortR_idem r'), hsr]
    exact ruleTx_short (okRu_sort hzo) (small_sortR hzm) (short_sortR hzh)
   obtain ⟨Wd, hWd, hmap⟩ := print_words hok'
   rw [hsr] at hmap
   have CP := CPR.out z r' i1 i3 o1 o3 f1 f3 s1 s3 w7 hri (by rw [hr']) (by rw [hr']; exact HP1.out.length_eq) (by rw [hr']) (by rw [hr']; exact hp3.length_eq) (by rw [hr']) hsm' hlen
   obtain ⟨P, hP⟩ : ∃ P : ByteArray, (⟨(ruleQ (risR r')).toArray⟩ : ByteArray) = P := ⟨_, rfl⟩
   have hPs : P.size ≤ 200000 := by rw [← hP, Lib.size_eq]; exact hlen
   have hPw : allS P.data.toList = .ok Wd := by rw [← hP]; exact hWd
   rw [hP] at CP
   have CPH := Lib.hid CP
   have CXH := Lib.hid (fun w' => CLX.out P w' hPs)
   have HPW := Lib.hid hPw
   have HMAP := Lib.hid hmap
   have HB7 := Lib.hid hb7
   obtain ⟨d0, d1, d2, d3', d4, _⟩ := cells5 hx7
   clear hx6 hs1 h2C h3C hstC hap hlo hn1 hn3 hx7 h1D h2D hstD hb7 hr' hri hzo hzm hzh hok' hsm' hsr hlen hWd hmap CP hP hPs hPw hp3 hs3 hf3 HKC d3
   go_wp2_with fail
   refine CPH.out.mono ?_
   rintro e w8 ⟨rfl, hb8⟩
   have HB8 := Lib.hid (HB7.out.trans (hb8.mono HB7.out.size))
   clear hb8 d0 d1 d2 d3' d4
   go_wp2_with fail
   refine (CXH.out _).mono ?_
   rintro e w9 ⟨hae, hb9⟩
   unfold AllE at hae
   rw [HPW.out] at hae
   obtain ⟨lv, rfl, hIW⟩ := hae
   obtain ⟨la, lc, q, hl1, hl2, hl3⟩ := hIW
   subst q
   rw [wordRows_length] at hl1 ⊢
   have HB9 := Lib.hid (HB8.out.trans (hb9.mono HB8.out.size))
   obtain ⟨Bz, hBz⟩ : ∃ Bz, ruleW (sortR z) = Bz := ⟨_, rfl⟩
   have hWl : Wd.length = Bz.length + 1 := by
    have := congrArg List.length HMAP.out
    rw [List.length_map, List.length_append, hBz] at this
    exact this
   have HWC : Hid (∀ (k : Nat) x, Bz[k]? = some x → ∃ b o, la = some ⟨b, o, none⟩ ∧ ∀ w', Below w9.heap.size w9 w' → w'.cell? ⟨b, o + k * 3, none⟩ = some (.int .i64 x.1) ∧ w'.cell? ⟨b, o + k * 3 + 2, none⟩ = some (.string ⟨x.2.toArray⟩)) := by
    show ∀ (k : Nat) x, _
    intro k x hx
    have hk := (List.getElem?_eq_some_iff.1 hx).1
    have hm : (Wd.map fun y => (y.1, y.2.2))[k]? = some x := by rw [HMAP.out, hBz, List.getElem?_append_left hk]; exact hx
    rw [List.getElem?_map] at hm
    obtain ⟨y, hy, he⟩ := Option.map_eq_some_iff.1 hm
    obtain ⟨b, o, ha, hbl, hc⟩ := hl3 (by intro e; have := congrArg List.length e; rw [wordRows_length, List.length_nil] at this; omega)
    have hrow : (wordRows Wd)[k]? = some (wordRow y) := by unfold wordRows; rw [List.getElem?_map, hy]; rfl
    refine ⟨b, o, ha, fun w' hw => ⟨?_, ?_⟩⟩
    ·have := (hw.cell (p := ⟨b, o + k * 3 + 0, none⟩) hbl).trans (hc k _ hrow 0 _ rfl)
     rw [← he]
     simpa using this
    ·have := (hw.cell (p := ⟨b, o + k * 3 + 2, none⟩) hbl).trans (hc k _ hrow 2 _ rfl)
     rw [← he]
     exact this
   rw [hWl] at hl1 ⊢
   have HBZ := Lib.hid hBz
   have HE9 : Hid (Below WR.heap.size WR (w9.alloc (.cells #[.int .i64 0, .int .i64 0] 30)) ∧ Below w9.heap.size w9 (w9.alloc (.cells #[.int .i64 0, .int .i64 0] 30))) := Lib.hid ⟨HB9.out.alloc HB9.out.size _, (Below.refl _ _).alloc (Nat.le_refl _) _⟩
   have hzf := words_few (short_sortR HZO.out.2.2)
   rw [hBz] at hzf
   unfold maxLen at hl2
   clear hb9 hl3 hWl hBz
   go_wp2_with fail
   have HAL : Hid ((∀ y ∈ A ++ Bz, y.2.length ≤ 1048576) ∧ A.length ≤ 6000) := by
    show _ ∧ _
    rw [← HA.out, ← HBZ.out]
    refine ⟨fun y hy => ?_, bb_len _ (fun q hq => (HZS.out q (List.mem_of_mem_take hq)).2.2) (by rw [List.length_take, HZL.out]; omega)⟩
    rcases List.mem_append.1 hy with hy | hy
    ·exact bb_short _ (fun q hq => (HZS.out q (List.mem_of_mem_take hq)).2.1) y hy
    ·exact tok_short (small_sortR HZO.out.2.1) y hy
   have HGO : Hid (∀ y ∈ Bz, GoodT y.1 y.2) := by show ∀ y ∈ Bz, _; rw [← HBZ.out]; exact rule_good (okRu_sort HZO.out.1)
   go_loopw [12, 13, 18] (fun sv nv kv wr => ∃ k : Nat, k ≤ Bz.length ∧ kv = .int .i64 (k : Int) ∧ sv = .string ⟨(laidS gap.data.toList (A ++ Bz.take k)).toArray⟩ ∧ nv = .int .i64 (((A.length + k : Nat)) : Int) ∧ Below w9.heap.size w9 wr) (fun _ _ kv _ => Bz.length - (intOf kv).toNat)
   case atStart => exact ⟨0, by omega, rfl, by simp, by simp, HE9.out.2⟩
   case round =>
    obtain ⟨k, hk, rfl, rfl, rfl, hbk⟩ := hrel
    obtain ⟨WK, hWK⟩ : ∃ V, wr = V := ⟨_, rfl⟩
    rw [hWK] at hbk ⊢
    clear hWK
    have HBK := Lib.hid hbk
    have hal := HAL.out.2
    obtain ⟨N, hN⟩ : ∃ N, A.length + k = N := ⟨_, rfl⟩
    rw [hN]
    obtain ⟨S0, hS0⟩ : ∃ S0 : ByteArray, (⟨(laidS gap.data.toList (A ++ Bz.take k)).toArray⟩ : ByteArray) = S0 := ⟨_, rfl⟩
    rw [hS0]
    have hNb : N ≤ 7000 := by omega
    have hSb : S0.size ≤ 40000000000 := by
     rw [← hS0, Lib.size_eq]
     have := laidS_len gap.data.toList (A ++ Bz.take k) fun y hy => HAL.out.1 y (by
      rcases List.mem_append.1 hy with hy | hy
      ·exact List.mem_append.2 (.inl hy)
      ·exact List.mem_append.2 (.inr (List.mem_of_mem_take hy)))
     rw [List.length_append, List.length_take] at this
     have e : ((⟨(laidS gap.data.toList (A ++ Bz.take k)).toArray⟩ : ByteArray).data.toList).length = (laidS gap.data.toList (A ++ Bz.take k)).length := by simp
     omega
    have HS0 := Lib.hid hS0
    have HN := Lib.hid hN
    clear hS0 hN hal
    by_cases hkl : k < Bz.length
    ·obtain ⟨x, hx⟩ : ∃ x, Bz[k]? = some x := ⟨Bz[k], List.getElem?_eq_getElem hkl⟩
     obtain ⟨b2, o2, hla, hcx⟩ := HWC.out k x hx
     obtain ⟨z1, z2⟩ := hcx _ hbk
     subst hla
     have hxl := HAL.out.1 x (List.mem_append.2 (.inr (List.mem_of_getElem? hx)))
     obtain ⟨T0, hT0⟩ : ∃ T0 : ByteArray, (⟨x.2.toArray⟩ : ByteArray) = T0 := ⟨_, rfl⟩
     rw [hT0] at z2
     have hTd : T0.data.toList = x.2 := by rw [← hT0]
     have hTs : T0.size ≤ 1048576 := by rw [Lib.size_eq, hTd]; exact hxl
     obtain ⟨kd, hkd⟩ : ∃ kd, x.1 = kd := ⟨_, rfl⟩
     rw [hkd] at z1
     have HX := Lib.hid hx
     have HTD := Lib.hid (And.intro hTd hkd)
     have hgl : gapN gap.data.toList N < 5 := Nat.mod_lt _ (by decide)
     obtain ⟨gi, hgi⟩ : ∃ gi, gapN gap.data.toList N = gi := ⟨_, rfl⟩
     rw [hgi] at hgl
     have zg := HGA.out gi WK hgl (HG2.out.trans ((HBR.out.trans (HB9.out.trans (hbk.mono HB9.out.size) |>.mono HBR.out.size)).mono HG2.out.size))
     obtain ⟨GT, hGT⟩ : ∃ GT : ByteArray, (⟨(gapsL.getD gi []).toArray⟩ : ByteArray) = GT := ⟨_, rfl⟩
     rw [hGT] at zg
     have hGs : GT.size ≤ 20 := by
      rw [← hGT, Lib.size_eq]
      have := gapG_len gap.data.toList N
      unfold gapG at this
      rw [hgi] at this
      simpa using this
     have HGI := Lib.hid (And.intro hgi hGT)
     have hk1 : (k : Int) + 1 < (Bz.length : Int) + 1 := by omega
     have hk2 : IntKind.i64.wrap ((k : Int) + 1) = (k : Int) + 1 := IntWalk.i64_in _ (by omega)
     have hk0 : (0 : Int) ≤ (k : Int) := by omega
     have hn2 : IntKind.i64.wrap ((N : Int) + 1) = (N : Int) + 1 := IntWalk.i64_in _ (by omega)
     have hn00 : (0 : Int) ≤ (N : Int) := by omega
     have HGV1 : Hid (∀ h : N < gap.size, gap[N].toNat % 5 = gi) := by
      show ∀ h : N < gap.size, _
      intro h
      have h' : N < gap.data.toList.length := by rw [← Lib.size_eq]; exact h
      rw [← hgi]
      unfold gapN
      rw [dif_pos h']
      rfl
     have HGV2 : Hid (¬ N < gap.size → gap.size % 5 = gi) := by
      show ¬ N < gap.size → _
      intro h
      have h' : ¬ N < gap.data.toList.length := by rw [← Lib.size_eq]; exact h
      rw [← hgi]
      unfold gapN
      rw [dif_neg h', ← Lib.size_eq]
     obtain ⟨TT, hTT⟩ : ∃ TT : ByteArray, (⟨(tokT kd x.2).toArray⟩ : ByteArray) = TT := ⟨_, rfl⟩
     have hTTs : TT.size ≤ 5000000 := by
      rw [← hTT, Lib.size_eq]
      have := tokT_len kd x.2
      have e : ((⟨(tokT kd x.2).toArray⟩ : ByteArray).data.toList).length = (tokT kd x.2).length := by simp
      omega
     have HQ2 : Hid (kd = 2 → (⟨(quoteS T0.data.toList).toArray⟩ : ByteArray) = TT) := by
      show kd = 2 → _
      intro e
      rw [← hTT, hTd]
      unfold tokT
      rw [if_pos e]
     have HQ3 : Hid (¬ kd = 2 → T0 = TT) := by
      show ¬ kd = 2 → _
      intro e
      rw [← hTT, ← hT0]
      unfold tokT
      rw [if_neg e]
     have HSN : Hid (S0 ++ (TT ++ GT) = ⟨(laidS gap.data.toList (A ++ Bz.take (k + 1))).toArray⟩) := by
      show _ = _
      rw [List.take_add_one, hx]
      show _ = (⟨(laidS gap.data.toList (A ++ (Bz.take k ++ [x]))).toArray⟩ : ByteArray)
      rw [← List.append_assoc, laidS_next, hkd, List.length_append, List.length_take, Nat.min_eq_left (by omega), HN.out, ← HS0.out, ← hTT, ← hGT]
      unfold gapG
      rw [hgi]
      apply ByteArray.ext
      apply Array.toList_inj.1
      simp [List.append_assoc]
     have CQT := Lib.hid (fun w' => quote_any T0 w' (by omega))
     clear hcx hx hxl hT0 hTd hkd hgi hGT hTT hbk
     go_upto_if 110 with fail
     go_cut [19] (fun gv wx => ∃ g : Nat, gv = .int .i64 (g : Int) ∧ g % 5 = gi ∧ g ≤ 9223372036854775807 ∧ WK = wx)
     case first =>
      by_cases hNg : N < gap.size
      ·have hNg1 : (N : Int) < (gap.size : Int) := by omega
       have hb256 : gap[N].toNat < 256 := UInt8.toNat_lt _
       have hwb : IntKind.i64.wrap ((gap[N].toNat : Nat) : Int) = ((gap[N].toNat : Nat) : Int) := IntWalk.i64_in _ (by omega)
       go_wp2
       go_meet
       exact ⟨gap[N].toNat, by go_num, HGV1.out hNg, by omega, rfl⟩
      ·have hNg1 : ¬ (N : Int) < (gap.size : Int) := by omega
       go_wp2
       go_meet
       exact ⟨gap.size, rfl, HGV2.out hNg, by omega, rfl⟩
     case rest =>
      obtain ⟨g, rfl, hg5, hgm, rfl⟩ := hcut
      have hgt : (g : Int).tmod 5 = (gi : Int) := by rw [Int.tmod_eq_emod_of_nonneg (by omega)]; omega
      have hgi0 : (0 : Int) ≤ (gi : Int) := by omega
      have hgi5 : (gi : Int) < 5 := by omega
      go_upto_if 127 with fail
      go_cut [20] (fun tv wx => tv = .string TT ∧ Below WK.heap.size WK wx)
      case first =>
       by_cases h2 : kd = 2
       ·subst h2
        have HQ := Lib.hid (HQ2.out rfl)
        clear HQ2 HQ3
        go_wp2_with fail
        refine (CQT.out _).mono ?_
        rintro e w11 ⟨rfl, hb11⟩
        rw [HQ.out]
        have HB11 := Lib.hid hb11
        clear hb11
        go_wp2
        go_meet
        exact ⟨rfl, HB11.out⟩
       ·have HQ := Lib.hid (HQ3.out h2)
        go_wp2
        go_meet
        exact ⟨by rw [HQ.out], Below.refl _ _⟩
      case rest =>
       obtain ⟨rfl, hbx⟩ := hcut
       obtain ⟨WX, hWX⟩ : ∃ V, wc = V := ⟨_, rfl⟩
       rw [hWX] at hbx ⊢
       clear hWX
       have hgz := (hbx.cell (p := ⟨gb, gi, none⟩) (World.block_lt_of_cell? WK _ zg)).trans zg
       have HBX := Lib.hid (HBK.out.trans (hbx.mono HBK.out.size))
       have ov1 : ¬ 9223372036854775807 < TT.size + GT.size := by omega
       have ov2 : ¬ 9223372036854775807 < S0.size + (TT.size + GT.size) := by omega
       clear hbx zg z1 z2
       go_wp2_with fail
       go_roundw
       case rel => exact ⟨k + 1, by omega, by go_num, by rw [HSN.out], by congr 1; have := HN.out; omega, HBX.out⟩
       case measure => simp [intOf]; omega
    ·have hk1 : ¬ (k : Int) + 1 < (Bz.length : Int) + 1 := by omega
     have hk2 : IntKind.i64.wrap ((k : Int) + 1) = (k : Int) + 1 := IntWalk.i64_in _ (by omega)
     have hnx : BB (zs.take (i + 1)) = A ++ Bz := by
      unfold BB at HA ⊢
      rw [List.take_add_one, HZ.out, List.map_append, List.flatten_append, HA.out]
      simp only [Option.toList_some, List.map_cons, List.map_nil, List.flatten_cons, List.flatten_nil, List.append_nil, HBZ.out]
     have hS : S0 = ⟨(laidS gap.data.toList (BB (zs.take (i + 1)))).toArray⟩ := by rw [hnx, ← HS0.out, List.take_of_length_le (by omega)]
     have hNe : N = (BB (zs.take (i + 1))).length := by rw [hnx, List.length_append, ← HN.out]; omega
     have HSE := Lib.hid hS
     have HNE := Lib.hid hNe
     have HBE : Hid (Below W2.heap.size W2 WK) := Lib.hid (HBR.out.trans ((HB9.out.trans (HBK.out.mono HB9.out.size)).mono HBR.out.size))
     clear hbk hS hNe hnx
     go_wp2
     go_roundw
     case rel => exact ⟨i + 1, by omega, by go_num, by rw [← HSE.out], by rw [← HNE.out], HBE.out⟩
     case measure => simp [intOf]; omega
  ·obtain rfl : i = n := by omega
   have hAz : BB zs = A := by rw [← HA.out, List.take_of_length_le (by rw [HZL.out]; exact Nat.le_refl _)]
   have hlaid : A = ((zs.map sortR).map ruleW).flatten := by rw [← hAz]; unfold BB; rw [List.map_map]; rfl
   obtain ⟨S, hS⟩ : ∃ S : ByteArray, (⟨(laidS gap.data.toList A).toArray⟩ : ByteArray) = S := ⟨_, rfl⟩
   rw [hS]
   have hSd : S.data.toList = laidS gap.data.toList A := by rw [← hS]
   have hzr : ∀ y ∈ zs.map sortR, OkRu y := fun y hy => by
    obtain ⟨q, hq, rfl⟩ := List.mem_map.1 hy
    exact okRu_sort (HZS.out q hq).1
   have hSb : S.size ≤ 40000000000 := by
    rw [Lib.size_eq, hSd]
    have h1 := laidS_len gap.data.toList A (by rw [← hAz]; exact bb_short zs fun q hq => (HZS.out q hq).2.1)
    have h2 : A.length ≤ 6000 := by rw [← hAz]; exact bb_len zs (fun q hq => (HZS.out q hq).2.2) (by rw [HZL.out]; omega)
    omega
   have hbw := HBW2.out.trans (hbr.mono HBW2.out.size)
   have CP := Lib.hid (file_any S WR (by unfold maxLen; omega) ((HGP.out.below hbw).up hbw.size))
   have HBW := Lib.hid hbw
   have HRW := Lib.hid (KEEP.out HRA2.out hbr)
   by_cases hbig : 20000 < S.size
   ·have hfile : fileS S.data.toList = .error (4, -1) := laid_most _ (by rw [← Lib.size_eq]; exact hbig)
    have HF := Lib.hid hfile
    have hbi : (20000 : Int) < (S.size : Int) := by omega
    clear hAz hlaid hS hSd hzr hbw hbr hfile
    go_wp2_with fail
    refine CP.out.mono ?_
    rintro e w5 ⟨hfe, hb5⟩
    unfold FileE at hfe
    rw [HF.out] at hfe
    obtain rfl := hfe
    have HB5 := Lib.hid (HBW.out.trans (hb5.mono HBW.out.size))
    have HB6 : Hid (Below w.heap.size w (w5.alloc (.cells #[.int .i64 4, .int .i64 (-1)] 30))) := Lib.hid (HB5.out.alloc HB5.out.size _)
    clear hb5
    go_wp2
    go_ret
    exact ⟨by simp, HB6.out⟩
   ·have hfile : fileS S.data.toList = .ok (zs.map sortR) := by
     rw [hSd, hlaid]
     exact laid_file _ hzr (by rw [← hlaid, ← hSd, ← Lib.size_eq]; omega)
    have HF := Lib.hid hfile
    have hbi : ¬ (20000 : Int) < (S.size : Int) := by omega
    have hfl : (fileTx ys).length ≤ 420000000000 := by
     have := rulesTx_len (sortRs ys) (fun y hy => by
      obtain ⟨x, hx, rfl⟩ := mem_sortRs hy
      exact ⟨small_sortR (HYS.out x hx).1, short_sortR (HYS.out x hx).2⟩)
     rw [sortRs_len, HNN.out] at this
     show (rulesTx (sortRs ys)).length ≤ _
     omega
    obtain ⟨U, hU⟩ : ∃ U : ByteArray, (⟨(rulesTx (sortRs ys)).toArray⟩ : ByteArray) = U := ⟨_, rfl⟩
    have CF : Hid (∀ w' v' qs, Below w.heap.size w w' → RulesA N0 w' v' qs → qs.length ≤ 42 → (∀ y ∈ qs, SmallR y 1048576 ∧ ShortR y) → sortRs qs = sortRs ys → Calls Tryz.prog 8 #[v'] w' fun e w'' => e = .returned (.string U) ∧ Below w'.heap.size w' w'') := by
     show ∀ w' v' qs, _
     intro w' v' qs hb h hl hq hsz
     have hq' : ∀ y ∈ sortRs qs, SmallR y 1048576 ∧ ShortR y := fun y hy => by
      obtain ⟨x, hx, rfl⟩ := mem_sortRs hy
      exact ⟨small_sortR (hq x hx).1, short_sortR (hq x hx).2⟩
     have := pfile_of v' qs (sortRs qs) N0 w.heap.size w' (HGP.out.below hb) hb.size h (by omega) (by rw [sortRs_len]; omega) (fun x hx => few_short (hq x hx).2) (fun y hy => fit_of (hq' y hy).1 (hq' y hy).2)
      (by have := rulesTx_len (sortRs qs) hq'; rw [sortRs_len] at this; omega) (sorts_any _ (qs.map sortR) (by rw [List.length_map]; omega))
     rw [hsz, hU] at this
     exact this
    have HZQ : Hid ((∀ y ∈ zs.map sortR, SmallR y 1048576 ∧ ShortR y) ∧ (zs.map sortR).length = i) := by
     show _ ∧ _
     refine ⟨fun y hy => ?_, by rw [List.length_map, HZL.out]⟩
     obtain ⟨q, hq, rfl⟩ := List.mem_map.1 hy
     exact ⟨small_sortR (HZS.out q hq).2.1, short_sortR (HZS.out q hq).2.2⟩
    clear hAz hlaid hS hSd hzr hbw hbr hfile hfl hU
    go_wp2_with fail
    refine CP.out.mono ?_
    rintro e w5 ⟨hfe, hb5⟩
    unfold FileE at hfe
    rw [HF.out] at hfe
    obtain ⟨lv, rfl, hlr⟩ := hfe
    obtain ⟨ga, gc, q, hlc, hlm⟩ := rulesA_len hlr
    subst q
    have hlr0 : RulesA N0 w5 (.slice ga (zs.map sortR).length gc) (zs.map sortR) := hlr.mono fun _ _ e => e.elim
    rw [HZQ.out.2] at hlr0 hlc ⊢
    have HB5 := Lib.hid (HBW.out.trans (hb5.mono HBW.out.size))
    have hra5 := KEEP.out HRW.out hb5
    have ha5 := (Below.refl w5.heap.size w5).alloc (Nat.le_refl _) (.cells #[.int .i64 0, .int .i64 0] 30)
    have HB6 := Lib.hid (HB5.out.trans (ha5.mono HB5.out.size))
    have HL5 := Lib.hid (KEEP.out hlr0 ha5)
    have HRA5 := Lib.hid (KEEP.out hra5 ha5)
    unfold maxLen at hlm
    clear hlr hlr0 hb5 hra5 ha5
    go_wp2_with fail
    refine (CF.out _ _ _ HB6.out HL5.out (by rw [HZQ.out.2]; omega) HZQ.out.1 HSO.out).mono ?_
    rintro e w7 ⟨rfl, hb7⟩
    have HB7 := Lib.hid (HB6.out.trans (hb7.mono HB6.out.size))
    have HRA7 := Lib.hid (KEEP.out HRA5.out hb7)
    clear hb7
    go_wp2_with fail
    refine (CF.out _ _ _ HB7.out HRA7.out (by rw [HNN.out]; omega) HYS.out rfl).mono ?_
    rintro e w8 ⟨rfl, hb8⟩
    have HB8 := Lib.hid (HB7.out.trans (hb8.mono HB7.out.size))
    clear hb8
    go_wp2
    go_ret
    exact ⟨by simp, HB8.out⟩
end Go.Proofs.YtlmnabhhgplhnaaGreatDoor.lawPrintLayout
