/- The law on what was written last: for every operations and every name the call returns true. No condition. -/
import Derived.Test.YtmgmmjnlnmidlaaDoorMathF
import Derived.Test.YtmgmmjnlnmidlaaDoorOps
namespace Go.Proofs.YtmgmmjnlnmidlaaDoor.lawTreeLast
open Go.RowKit

set_option maxHeartbeats 4000000 in
set_option maxRecDepth 100000 in
theorem law (v : Value) (os : List Op3) (nm : ByteArray) (w : World) (hF : IsOps w v os) (hsz : ∀ f ∈ os, f.2.1.size ≤ maxLen ∧ f.2.2.size ≤ maxLen) (_hnm : nm.size ≤ maxLen) (hG : Glob w) :
    Calls Tryd.prog 14 #[v, .string nm] w fun e w' => e = .returned (.bool true) ∧ Below w.heap.size w w' := by
  obtain ⟨a, c, rfl, h1, h1m, h2⟩ := hF
  have hcells : ∀ (k : Nat) x, os[k]? = some x → ∃ b o, a = some ⟨b, o, none⟩ ∧ b < w.heap.size ∧ w.cell? ⟨b, o + k * 3, none⟩ = some (.int .i64 x.1) ∧ w.cell? ⟨b, o + k * 3 + 1, none⟩ = some (.string x.2.1) ∧ w.cell? ⟨b, o + k * 3 + 2, none⟩ = some (.string x.2.2) := by
    intro k x hx
    obtain ⟨b, o, ha, hb, hc⟩ := h2 (by rintro rfl; simp at hx)
    exact ⟨b, o, ha, hb, hc k x hx⟩
  have HC := Lib.hid hcells
  have HG := Lib.hid hG
  have HSZ := Lib.hid hsz
  unfold maxLen at h1m
  clear hG h2 hsz hcells
  go_enter Tryd.func14, Tryd.ntmps14
  go_wp2_with fail
  refine (begun_any w HG.out).mono ?_
  rintro e w1 ⟨rfl, hb1⟩
  go_wp2_with fail
  refine (new_any (.slice none 0 0) [] w1 ⟨none, 0, rfl, by simp, by simp [maxLen], fun h => absurd rfl h⟩ (HG.out.below hb1) (by simp)).mono ?_
  rintro e w2 ⟨b, r, rfl, hT, hb2⟩
  have hB := hb1.size
  replace hb2 := chain hb1 hb2
  clear hb1
  obtain ⟨B, hBw⟩ : ∃ B, w1.heap.size = B := ⟨_, rfl⟩
  rw [hBw] at hB hT
  have HT0 : Hid (IsTree w2 B b r []) := hT
  have HB := Lib.hid hB
  have HB2 := Lib.hid hb2
  clear hBw hB hT hb2
  go_wp2_with fail
  go_loopw [7, 8, 9] (fun val inn i wr => ∃ (k : Nat) (r : Option Nat) (T : List F2), k ≤ os.length ∧ i = .int .i64 k ∧ val = .string (readF T nm).1 ∧ inn = .bool (readF T nm).2 ∧ IsTree wr B b r T ∧ Below w.heap.size w wr)
    (fun _ _ i _ => os.length - (intOf i).toNat)
  case atStart => exact ⟨0, r, [], Nat.zero_le _, rfl, rfl, rfl, HT0.out, HB2.out⟩
  case round =>
    obtain ⟨k, r, T, hk, rfl, rfl, rfl, ht, hnx⟩ := hrel
    obtain ⟨⟨va, vi⟩, hrd⟩ : ∃ z, readF T nm = z := ⟨_, rfl⟩
    rw [hrd]
    have HRD := Lib.hid hrd
    have HT := Lib.hid ht
    have HNX := Lib.hid hnx
    clear ht HT0 HB2 hrd hnx
    by_cases hlt : k < os.length ∧ k < 55
    · obtain ⟨hlt, h55⟩ := hlt
      obtain ⟨⟨n0, s0, y0⟩, hx⟩ : ∃ x, os[k]? = some x := ⟨os[k], List.getElem?_eq_getElem hlt⟩
      obtain ⟨ab, ao, rfl, hab, hc0, hc1, hc2⟩ := HC.out k _ hx
      have hxs := HSZ.out _ (List.mem_of_getElem? hx)
      have hcx0 : wr.cell? ⟨ab, ao + k * 3, none⟩ = some (.int .i64 n0) := (HNX.out.cell (by exact hab)).trans hc0
      have hcx1 : wr.cell? ⟨ab, ao + k * 3 + 1, none⟩ = some (.string s0) := (HNX.out.cell (by exact hab)).trans hc1
      have hcx2 : wr.cell? ⟨ab, ao + k * 3 + 2, none⟩ = some (.string y0) := (HNX.out.cell (by exact hab)).trans hc2
      have HXS := Lib.hid hxs
      clear hx hc0 hc1 hc2 hab hxs
      have hrl := HT.out.rlt
      obtain ⟨wq, hwq⟩ : ∃ wq, wr.alloc (.cells #[.int .i64 n0, .string s0, .string y0] 48) = wq := ⟨_, rfl⟩
      have hblk : wq.heap[wr.heap.size]? = some (.cells #[.int .i64 n0, .string s0, .string y0] 48 (0, 0)) := by rw [← hwq]; exact heap_alloc_new wr _
      have hbq : Below wr.heap.size wr wq := by rw [← hwq]; exact (Below.refl _ _).alloc (Nat.le_refl _) _
      have hsq : wr.heap.size < wq.heap.size := by rw [← hwq]; simp
      have HTQ := Lib.hid (HT.out.below hbq)
      have hxq := chain HNX.out hbq
      have keep : ∀ w4, Frame2 wq w4 b r → Below w.heap.size w w4 ∧ w4.heap[wr.heap.size]? = some (.cells #[.int .i64 n0, .string s0, .string y0] 48 (0, 0)) := fun w4 hf4 =>
        ⟨hxq.trans (hf4.below hxq.size (Nat.le_trans HB.out hrl.2.1) (fun g hg => Nat.le_trans HB.out (hrl.1 g hg).1)),
          (hf4.block _ hsq (by omega) (fun e => by have := hrl.1 _ e.symm; omega)).trans hblk⟩
      have HKEEP := Lib.hid keep
      have HXQ := Lib.hid hxq
      have HGQ := Lib.hid (HG.out.below hxq)
      clear hblk hbq hsq hrl keep hxq
      have hds : s0 = nm → (s0.toList == nm.toList) = true := fun e => by rw [e]; simp
      have hdn : ¬ s0 = nm → (s0.toList == nm.toList) = false := fun h => Bool.eq_false_iff.2 fun e => h (ByteArray.ext (Array.toList_inj.1 (by rw [← Lib.toList_data, ← Lib.toList_data]; exact eq_of_beq e)))
      by_cases hk0 : n0 = 0
      · subst hk0
        have cW := write_any B b r T s0 y0 wq HTQ.out HGQ.out HXS.out.1 HXS.out.2
        obtain ⟨q, hq⟩ : ∃ q, (writeF T s0 y0).1 = q := ⟨_, rfl⟩
        obtain ⟨T2, hT2⟩ : ∃ T2, (writeF T s0 y0).2 = T2 := ⟨_, rfl⟩
        rw [hq, hT2] at cW
        have HQ := Lib.hid hq
        have HT2 := Lib.hid hT2
        have HWQ := Lib.hid hwq
        rw [← hwq] at cW
        clear hq hT2 hwq
        go_wp2_with fail
        refine cW.mono ?_
        rw [HWQ.out]
        rintro e w4 ⟨r4, rfl, hT4, hf4, _⟩
        obtain ⟨hx4, hbl4⟩ := HKEEP.out w4 hf4
        have HT4 := Lib.hid hT4
        have HX4 := Lib.hid hx4
        have ho0 : w4.cell? ⟨wr.heap.size, 0, none⟩ = some (.int .i64 0) := by simp [World.cell?, hbl4]
        have ho1 : w4.cell? ⟨wr.heap.size, 1, none⟩ = some (.string s0) := by simp [World.cell?, hbl4]
        have ho2 : w4.cell? ⟨wr.heap.size, 2, none⟩ = some (.string y0) := by simp [World.cell?, hbl4]
        clear hT4 hf4 hx4 hbl4 cW
        by_cases hq0 : q = 0
        · subst hq0
          by_cases hsn : s0 = nm
          · have hread : readF T2 nm = (y0, true) := by
              have h := read_write (fs := T) (x := s0) (b := y0) HTQ.out.2.1 (by rw [HT2.out]; exact HT4.out.2.1) HQ.out
              rw [HT2.out, hsn] at h; exact h
            have hd := hds hsn
            clear hds hdn
            have HR := Lib.hid hread
            clear hread hsn
            go_wp2
            go_roundw
            case rel => exact ⟨k + 1, r4, T2, by omega, by go_num, by rw [HR.out] <;> rfl, by rw [HR.out] <;> rfl, HT4.out, HX4.out⟩
            case measure => simp [intOf]; omega
          · have hread : readF T2 nm = (va, vi) := by
              have h := write_other HTQ.out.2.1 s0 y0 (x := nm) (by rw [HT2.out]; exact HT4.out.2.1) hsn
              rw [HT2.out, HRD.out] at h; exact h
            have hd := hdn hsn
            clear hds hdn
            have HR := Lib.hid hread
            clear hread hsn
            go_wp2
            go_roundw
            case rel => exact ⟨k + 1, r4, T2, by omega, by go_num, by rw [HR.out] <;> rfl, by rw [HR.out] <;> rfl, HT4.out, HX4.out⟩
            case measure => simp [intOf]; omega
        · have hread : readF T2 nm = (va, vi) := by
            have h := write_fail (fs := T) (y := s0) (c := y0) (by rw [HQ.out]; exact hq0)
            rw [HT2.out] at h; rw [h]; exact HRD.out
          clear hds hdn
          have HR := Lib.hid hread
          clear hread
          go_wp2
          go_roundw
          case rel => exact ⟨k + 1, r4, T2, by omega, by go_num, by rw [HR.out] <;> rfl, by rw [HR.out] <;> rfl, HT4.out, HX4.out⟩
          case measure => simp [intOf]; omega
      · by_cases hk1 : n0 = 1
        · subst hk1
          clear hk0
          have cW := erase_any B b r T s0 wq HTQ.out
          obtain ⟨q, hq⟩ : ∃ q, (eraseF T s0).1 = q := ⟨_, rfl⟩
          obtain ⟨T2, hT2⟩ : ∃ T2, (eraseF T s0).2 = T2 := ⟨_, rfl⟩
          rw [hq, hT2] at cW
          have HQ := Lib.hid hq
          have HT2 := Lib.hid hT2
          have HWQ := Lib.hid hwq
          rw [← hwq] at cW
          clear hq hT2 hwq
          go_wp2_with fail
          refine cW.mono ?_
          rw [HWQ.out]
          rintro e w4 ⟨r4, rfl, hT4, hf4, _⟩
          obtain ⟨hx4, hbl4⟩ := HKEEP.out w4 hf4
          have HT4 := Lib.hid hT4
          have HX4 := Lib.hid hx4
          have ho0 : w4.cell? ⟨wr.heap.size, 0, none⟩ = some (.int .i64 1) := by simp [World.cell?, hbl4]
          have ho1 : w4.cell? ⟨wr.heap.size, 1, none⟩ = some (.string s0) := by simp [World.cell?, hbl4]
          have ho2 : w4.cell? ⟨wr.heap.size, 2, none⟩ = some (.string y0) := by simp [World.cell?, hbl4]
          clear hT4 hf4 hx4 hbl4 cW
          by_cases hq0 : q = 0
          · subst hq0
            by_cases hsn : s0 = nm
            · have hread : readF T2 nm = (ByteArray.empty, false) := by
                have h := erase_read (fs := T) (x := s0) HTQ.out.2.1 HQ.out
                rw [HT2.out, hsn] at h; exact h
              have hd := hds hsn
              clear hds hdn
              have HR := Lib.hid hread
              clear hread hsn
              go_wp2
              go_roundw
              case rel => exact ⟨k + 1, r4, T2, by omega, by go_num, by rw [HR.out] <;> rfl, by rw [HR.out] <;> rfl, HT4.out, HX4.out⟩
              case measure => simp [intOf]; omega
            · have hread : readF T2 nm = (va, vi) := by
                have h := erase_other HTQ.out.2.1 s0 (x := nm) (by rw [HT2.out]; exact HT4.out.2.1) hsn
                rw [HT2.out, HRD.out] at h; exact h
              have hd := hdn hsn
              clear hds hdn
              have HR := Lib.hid hread
              clear hread hsn
              go_wp2
              go_roundw
              case rel => exact ⟨k + 1, r4, T2, by omega, by go_num, by rw [HR.out] <;> rfl, by rw [HR.out] <;> rfl, HT4.out, HX4.out⟩
              case measure => simp [intOf]; omega
          · have hread : readF T2 nm = (va, vi) := by
              have h := erase_fail (fs := T) (y := s0) (by rw [HQ.out]; exact hq0)
              rw [HT2.out] at h; rw [h]; exact HRD.out
            clear hds hdn
            have HR := Lib.hid hread
            clear hread
            go_wp2
            go_roundw
            case rel => exact ⟨k + 1, r4, T2, by omega, by go_num, by rw [HR.out] <;> rfl, by rw [HR.out] <;> rfl, HT4.out, HX4.out⟩
            case measure => simp [intOf]; omega
        · have hx4 := HXQ.out
          rw [← hwq] at hx4 HTQ
          have HX4 := Lib.hid hx4
          clear hx4 hwq hds hdn
          go_wp2
          go_roundw
          case rel => exact ⟨k + 1, r, T, by omega, by go_num, by rw [HRD.out], by rw [HRD.out], HTQ.out, HX4.out⟩
          case measure => simp [intOf]; omega
    · have cR := read_any B b r T nm wr HT.out
      rw [HRD.out] at cR
      have hdv : (va.toList == va.toList) = true := by simp
      clear HRD
      by_cases hl2 : k < os.length
      · have h55 : 55 ≤ k := by omega
        clear hlt
        go_wp2_with fail
        refine cR.mono ?_
        rintro e w5 ⟨rfl, hb5⟩
        have hx5 := chain HNX.out hb5
        cases vi
        · go_wp2
          go_ret
          exact ⟨rfl, hx5⟩
        · go_wp2
          go_ret
          exact ⟨rfl, hx5⟩
      · clear hlt
        go_wp2_with fail
        refine cR.mono ?_
        rintro e w5 ⟨rfl, hb5⟩
        have hx5 := chain HNX.out hb5
        cases vi
        · go_wp2
          go_ret
          exact ⟨rfl, hx5⟩
        · go_wp2
          go_ret
          exact ⟨rfl, hx5⟩
end Go.Proofs.YtmgmmjnlnmidlaaDoor.lawTreeLast
