/- The law PrintBack: the walk. -/
import Derived.Deep.CutBlock
import Derived.Deep.DeepCutAuto
import Derived.Test.YtlmnabhhgplhnaaGreatDoorMbeg
import Derived.Test.YtlmnabhhgplhnaaGreatDoorMckb
import Derived.Test.YtlmnabhhgplhnaaGreatDoorMbck
import Derived.Test.YtlmnabhhgplhnaaGreatDoorMpar
namespace Go.Proofs.YtlmnabhhgplhnaaGreatDoor.lawPrintBack
open Go.RowKit Go.Shelf

abbrev N0 : Nat → Prop := fun _ => False

set_option maxHeartbeats 8000000 in
set_option maxRecDepth 100000 in
theorem law (v : Value) (xs : List RuleS) (w : World) (hI : RulesI w v xs) (hu : xs.length ≤ 1048576 ∧ ∀ y ∈ xs, SmallR y 1048576) (hG : GP w.heap.size w) :
    Calls Tryz.prog 3 #[v] w fun e w' => e = .returned (.bool true) ∧ Below w.heap.size w w' := by
  have C0 := Lib.hid (begun4_any w hG)
  have CL : Hid (∀ w', Below w.heap.size w w' → Calls Tryz.prog 6 #[v] w' (SortedRulesPost w' (cutRs 42 xs))) := by
    show ∀ w', _
    exact fun w' hb => lawRules_any v xs w' (hI.below hb) hu.2
  obtain ⟨ys, hys⟩ : ∃ ys, cutRs 42 xs = ys := ⟨_, rfl⟩
  have hyl : ys.length ≤ 42 := by rw [← hys, cutRs_len]; omega
  have HYS : Hid (∀ y ∈ ys, SmallR y 1048576 ∧ ShortR y) := by
    show ∀ y ∈ ys, _
    intro y hy
    rw [← hys] at hy
    obtain ⟨x, hx, rfl⟩ := List.mem_map.1 (show y ∈ (xs.take 42).map cutR from hy)
    exact ⟨small_cutR (hu.2 x (List.mem_of_mem_take hx)), short_cutR x⟩
  have HLS : Hid (∀ y ∈ sortRs ys, SmallR y 1048576 ∧ ShortR y) := by
    show ∀ y ∈ sortRs ys, _
    intro y hy
    obtain ⟨x, hx, rfl⟩ := mem_sortRs hy
    exact ⟨small_sortR (HYS.out x hx).1, short_sortR (HYS.out x hx).2⟩
  rw [hys] at CL
  have hfl : (fileTx ys).length ≤ 420000000000 := by
    have := rulesTx_len (sortRs ys) HLS.out
    rw [sortRs_len] at this
    show (rulesTx (sortRs ys)).length ≤ _
    omega
  obtain ⟨S, hS⟩ : ∃ S : ByteArray, (⟨(rulesTx (sortRs ys)).toArray⟩ : ByteArray) = S := ⟨_, rfl⟩
  have hSd : S.data.toList = fileTx ys := by rw [← hS]; rfl
  have hSs : S.size ≤ 420000000000 := by rw [Lib.size_eq, hSd]; exact hfl
  have CF : Hid (∀ w' v' zs, Below w.heap.size w w' → RulesA N0 w' v' zs → zs.length ≤ 42 → (∀ y ∈ zs, SmallR y 1048576 ∧ ShortR y) → sortRs zs = sortRs ys → Calls Tryz.prog 8 #[v'] w' fun e w'' => e = .returned (.string S) ∧ Below w'.heap.size w' w'') := by
    show ∀ w' v' zs, _
    intro w' v' zs hb h hl hz hsz
    have hz' : ∀ y ∈ sortRs zs, SmallR y 1048576 ∧ ShortR y := fun y hy => by
      obtain ⟨x, hx, rfl⟩ := mem_sortRs hy
      exact ⟨small_sortR (hz x hx).1, short_sortR (hz x hx).2⟩
    have := pfile_of v' zs (sortRs zs) N0 w.heap.size w' (hG.below hb) hb.size h (by omega) (by rw [sortRs_len]; omega) (fun x hx => few_short (hz x hx).2) (fun y hy => fit_of (hz' y hy).1 (hz' y hy).2)
      (by have := rulesTx_len (sortRs zs) hz'; rw [sortRs_len] at this; omega) (sorts_any _ (zs.map sortR) (by rw [List.length_map]; omega))
    rw [hsz, hS] at this
    exact this
  have CA : Hid (∀ w' v', RulesI w' v' ys → Calls Tryz.prog 7 #[v'] w' fun e w'' => AllZ ys e ∧ Below w'.heap.size w' w'') := by
    show ∀ w' v', _
    exact fun w' v' h => cAll_any v' ys w' h (by omega) HYS.out
  have CP : Hid (∀ w', Below w.heap.size w w' → Calls Tryz.prog 9 #[.string S] w' fun e w'' => FileE S.data.toList w' w'' e ∧ Below w'.heap.size w' w'') := by
    show ∀ w', _
    exact fun w' hb => file_any S w' (by unfold maxLen; omega) ((hG.below hb).up hb.size)
  have CQ : Hid (∀ w' v', RulesI w' v' ys → Calls Tryz.prog 11 #[v'] w' (SorPost w' (sortRs ys))) := by
    show ∀ w' v', _
    intro w' v' h
    have := sortQ_any v' ys w' h (by omega) fun x hx => (HYS.out x hx).1
    rwa [sortQ_sortRs] at this
  have CE : Hid (∀ w' v1 v2 zs, RulesA N0 w' v1 zs → RulesA N0 w' v2 zs → Calls Tryz.prog 10 #[v1, v2] w' fun e w'' => e = .returned (.bool true) ∧ Below w'.heap.size w' w'') := by
    show ∀ w' v1 v2 zs, _
    exact fun w' v1 v2 zs h1 h2 => eqR_same v1 v2 zs N0 w' h1 h2
  have HBK : Hid ((∀ y ∈ ys, OkRu y) → S.size ≤ 20000 → fileS S.data.toList = .ok (sortRs ys)) := by
    show _ → _ → _
    intro h1 h2
    rw [hSd]
    exact back_file h1 (by rw [← hSd, ← Lib.size_eq]; exact h2)
  have KEEP : Hid (∀ {w1 w2 : World} {v' : Value} {zs : List RuleS}, RulesA N0 w1 v' zs → Below w1.heap.size w1 w2 → RulesA N0 w2 v' zs) := by
    show ∀ {w1 w2 : World} {v' : Value} {zs : List RuleS}, _
    exact fun h hb => h.keep ((fr_below hb).mono fun b hb e => by omega)
  clear hI hu hG hys hS hSd hfl
  go_enter Tryz.func3, Tryz.ntmps3
  go_wp2_with fail
  refine C0.out.mono ?_
  rintro e w1 ⟨rfl, hb1⟩
  have HB1 := Lib.hid hb1
  clear hb1
  go_wp2_with fail
  refine (CL.out _ HB1.out).mono ?_
  rintro e w2 ⟨ra, rn, rc, rfl, hown, hb2⟩
  have hra : RulesA N0 w2 (.slice ra rn rc) ys := hown.rulesA.mono fun _ _ e => e.elim
  obtain ⟨a', c', q, hrc, hrm⟩ := rulesA_len hra
  injection q with q1 q2 q3
  subst q2 q3
  have HB2 := Lib.hid (HB1.out.trans (hb2.mono HB1.out.size))
  have HRA := Lib.hid hra
  unfold maxLen at hrm
  clear hown hra hb2 q1
  go_wp2_with fail
  refine (CA.out _ _ HRA.out.rulesI).mono ?_
  rintro e w3 ⟨⟨c, s, rfl, hc⟩, hb3⟩
  have HOK := Lib.hid hc
  have HB3 := Lib.hid (HB2.out.trans (hb3.mono HB2.out.size))
  have HRA3 := Lib.hid (KEEP.out HRA.out hb3)
  clear hb3 hc HRA
  go_wp2_with fail
  refine (CF.out _ _ _ HB3.out HRA3.out hyl HYS.out rfl).mono ?_
  rintro e w4 ⟨rfl, hb4⟩
  have HB4 := Lib.hid (HB3.out.trans (hb4.mono HB3.out.size))
  have HRA4 := Lib.hid (KEEP.out HRA3.out hb4)
  clear hb4 HRA3
  by_cases hc0 : c = 0
  · by_cases hbig : 20000 < S.size
    · have hbi : (20000 : Int) < (S.size : Int) := by omega
      subst hc0
      go_wp2
      go_ret
      exact ⟨rfl, HB4.out⟩
    · have hbi : ¬ (20000 : Int) < (S.size : Int) := by omega
      have hfile := HBK.out (HOK.out hc0).1 (by omega)
      have HFILE := Lib.hid hfile
      subst hc0
      clear hfile
      go_wp2_with fail
      refine (CP.out _ HB4.out).mono ?_
      rintro e w5 ⟨hfe, hb5⟩
      unfold FileE at hfe
      rw [HFILE.out] at hfe
      obtain ⟨lv, rfl, hlr⟩ := hfe
      obtain ⟨la, lc, q, hlc, hlm⟩ := rulesA_len hlr
      subst q
      have hlr0 : RulesA N0 w5 (.slice la (sortRs ys).length lc) (sortRs ys) := hlr.mono fun _ _ e => e.elim
      rw [sortRs_len] at hlr0 hlc ⊢
      have HB5 := Lib.hid (HB4.out.trans (hb5.mono HB4.out.size))
      have hra5 := KEEP.out HRA4.out hb5
      have ha5 := (Below.refl w5.heap.size w5).alloc (Nat.le_refl _) (.cells #[.int .i64 0, .int .i64 0] 30)
      have HA5 := Lib.hid ha5
      have HX5 := Lib.hid (alloc_at w5 (.cells #[.int .i64 0, .int .i64 0] 30))
      have HL5 := Lib.hid (KEEP.out hlr0 ha5)
      have HRA5 := Lib.hid (KEEP.out hra5 ha5)
      unfold maxLen at hlm
      clear hlr hlr0 hb5 HRA4 hra5 ha5
      go_wp2_with fail
      refine (CQ.out _ _ HRA5.out.rulesI).mono ?_
      rintro e w6 ⟨qa, qn, qc, rfl, hown, hb6⟩
      have HQ6 := Lib.hid (show RulesA N0 w6 (.slice qa qn qc) (sortRs ys) from hown.rulesA.mono fun _ _ e => e.elim)
      have HL6 := Lib.hid (KEEP.out HL5.out hb6)
      have HB6 := Lib.hid ((HB5.out.trans (HA5.out.mono HB5.out.size)).trans (hb6.mono (HB5.out.trans (HA5.out.mono HB5.out.size)).size))
      clear hown hb6 HL5 HRA5
      go_wp2_with fail
      refine (CE.out _ _ _ _ HL6.out HQ6.out).mono ?_
      rintro e w7 ⟨rfl, hb7⟩
      have HL7 := Lib.hid (KEEP.out HL6.out hb7)
      have HB7 := Lib.hid (HB6.out.trans (hb7.mono HB6.out.size))
      clear hb7 HL6 HQ6
      go_wp2_with fail
      refine (CF.out _ _ _ HB7.out HL7.out (by rw [sortRs_len]; exact hyl) HLS.out (sortRs_idem ys)).mono ?_
      rintro e w8 ⟨rfl, hb8⟩
      have HB8 := Lib.hid (HB7.out.trans (hb8.mono HB7.out.size))
      clear hb8
      go_wp2
      go_ret
      exact ⟨by simp, HB8.out⟩
  · go_wp2
    go_ret
    exact ⟨rfl, HB4.out⟩
end Go.Proofs.YtlmnabhhgplhnaaGreatDoor.lawPrintBack
