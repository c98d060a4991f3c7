/- The reference's tree: Erase. -/
import Derived.Test.YtjaojfaedikkeaaGreatDoorErase
import Derived.Test.YtjaojfaedikkeaaGreatDoorRefG
namespace Go.Proofs.YtjaojfaedikkeaaGreatDoor
open Go.RowKit

set_option maxHeartbeats 8000000 in
set_option maxRecDepth 100000 in
theorem eraseR_any (B b : Nat) (r : Option Nat) (fs : List F2) (x : ByteArray) (w : World) (h : IsRT w B b r fs) :
    Calls Tryz.prog 11 #[.pointer (some ⟨b, 0, none⟩), .string x] w (RTPost w B b r (eraseF fs x).1 (eraseF fs x).2) := by
  have cA := atR_any B b r fs x w h
  obtain ⟨i0, hi, hz0, hz1, hz2⟩ := info_parts info_file
  have HS := Lib.hid h.2.1
  have H := Lib.hid h
  have hBb := h.1
  have hblt := h.rlt.2.2
  cases hq : hasF fs x with
  | false =>
    have hr : eraseF fs x = (6, fs) := by unfold eraseF; rw [hq]; rfl
    rw [hr]
    rw [hq] at cA
    clear h hq hr
    go_enter Tryz.func11, Tryz.ntmps11
    go_wp2_with fail
    refine cA.mono ?_
    rintro e w2 ⟨rfl, hb2⟩
    go_wp2
    go_ret
    exact ⟨r, rfl, H.out.below hb2, Frame2.of_below hb2 b r, .inl rfl⟩
  | true =>
    obtain ⟨f, hf, hfx⟩ := hasF_pos h.2.1 hq
    have hr : eraseF fs x = (0, fs.take (posOf fs x) ++ fs.drop (posOf fs x + 1)) := by unfold eraseF; rw [hq]; rfl
    rw [hr]
    rw [hq] at cA
    obtain ⟨p, hp⟩ : ∃ p, posOf fs x = p := ⟨_, rfl⟩
    rw [hp] at cA hf ⊢
    have hpl := (List.getElem?_eq_some_iff.1 hf).1
    have hse := sorted_del h.2.1 p
    have hle : (fs.take p ++ fs.drop (p + 1)).length ≤ 60 := by have := h.2.2.1; simp only [List.length_append, List.length_take, List.length_drop]; omega
    have hl60 := h.2.2.1
    rcases h.row with ⟨hnil, _, _⟩ | ⟨g, c, hrg, hbh, hrow, hc, hcm, hBg, hgl, hcells, _⟩
    · rw [hnil] at hf; simp at hf
    · have HSE := Lib.hid hse
      have HBH := Lib.hid hbh
      have HCE := Lib.hid hcells
      unfold maxLen at hcm
      clear h hq hr hp hf hfx hse hbh hrow hcells
      go_enter Tryz.func11, Tryz.ntmps11
      go_wp2_with fail
      refine cA.mono ?_
      rintro e w2 ⟨rfl, hb2⟩
      have HX2 := Lib.hid hb2
      have HI : Hid (InsAt w2 b g c fs) := by
        show InsAt _ _ _ _ _
        have hlt2 : b < w2.heap.size := Nat.lt_of_lt_of_le hblt hb2.size
        have hgl2 : g < w2.heap.size := Nat.lt_of_lt_of_le hgl hb2.size
        refine ⟨fun w' hw => ?_, fun w' hw j u hu => ?_⟩
        · rw [hw.cell (p := ⟨b, 0, none⟩) hlt2, hb2.cell (p := ⟨b, 0, none⟩) hblt]
          simp [World.cell?, HBH.out]
        · rw [hw.cell (p := ⟨g, j, none⟩) hgl2, hb2.cell (p := ⟨g, j, none⟩) hgl]
          exact HCE.out j u hu
      have HFZ : Hid (∀ w', Below w2.heap.size w2 w' → w'.frozen? ⟨b, 0, none⟩ = false) := by
        show ∀ w', _
        intro w' hw
        have := (hw.block b (Nat.lt_of_lt_of_le hblt hb2.size)).trans ((hb2.block b hblt).trans HBH.out)
        simp [World.frozen?, this]
      have hl1 : (fs.take p).length = p := by rw [List.length_take]; omega
      have hl2 : (fs.drop (p + 1)).length = fs.length - (p + 1) := List.length_drop
      have HL1 := Lib.hid hl1
      have HL2 := Lib.hid hl2
      have HLA := Lib.hid (show (fileCells (fs.take p)).length = p * 2 by rw [fileCells_length, hl1])
      have HLB := Lib.hid (show (fileCells (fs.drop (p + 1))).length = (fs.length - (p + 1)) * 2 by rw [fileCells_length, hl2])
      have HB1 := Lib.hid (show p + (fs.length - (p + 1)) ≤ maxLen by unfold maxLen; omega)
      have HB2 := Lib.hid (show (p + (fs.length - (p + 1))) * 32 ≤ 140737488355328 by omega)
      have HB0 := Lib.hid (show 0 + p ≤ maxLen by unfold maxLen; omega)
      have HB00 := Lib.hid (show (0 + p) * 32 ≤ 140737488355328 by omega)
      have HBW := Lib.hid (show B ≤ w.heap.size by omega)
      have hk0 : (0 : Int) ≤ (p : Int) := by omega
      have hk1 : (p : Int) ≤ (fs.length : Int) := by omega
      have hk2 : (p : Int) ≤ (c : Int) := by omega
      have hkw : IntKind.i64.wrap ((p : Int) + 1) = (p : Int) + 1 := IntWalk.i64_in _ (by omega)
      have hk3 : (0 : Int) ≤ (p : Int) + 1 := by omega
      have hk4 : (p : Int) + 1 ≤ (fs.length : Int) := by omega
      have hk5 : (p : Int) + 1 ≤ (c : Int) := by omega
      have hk6 : ((p : Int) + 1).toNat = p + 1 := by omega
      have hb20 := hb2.size
      clear hb2 cA hl1 hl2
      have hcw := HI.out.cell w2 (Below.refl _ _)
      have hfw := HFZ.out w2 (Below.refl _ _)
      by_cases hcp : c = p + 1
      · have HNIL : Hid (∀ (w' : World) (j : Nat) u, (fileCells (fs.drop (p + 1)))[j]? = some u → w'.cell? ((⟨g, 0, none⟩ : Addr).add j) = some u) := by
          show ∀ (w' : World) (j : Nat) u, _
          intro w' j u hu
          rw [List.drop_eq_nil_of_le (by omega)] at hu
          simp [fileCells] at hu
        subst hcp
        have HD := Lib.hid (show fs.drop (p + 1) = [] from List.drop_eq_nil_of_le (by omega))
        have HB01 := Lib.hid (show p + 0 ≤ maxLen by unfold maxLen; omega)
        have HB02 := Lib.hid (show (p + 0) * 32 ≤ 140737488355328 by omega)
        have hq1 : (p : Int) ≤ (p : Int) + 1 := by omega
        have hq2 : (fs.length : Int) ≤ (p : Int) + 1 := by omega
        go_wp2_with fail
        go_region_law (first
          | (refine step_append_own (by rfl) _ _ _ (by rfl) w2.heap.size 33 i0 _ 2 32 Tryz.underlying22 hi hz0 hz1 hz2 rfl (by decide) (.slice none 0 0) 0 [] (by rfl) (World.ownsRow_nil _ _ _ _) ⟨g, 0, none⟩ p (p + 1) (fileCells (fs.take p)) (by rfl) HLA.out (HI.out.take p _ (Below.refl _ _).drew) (fileCells_one _) HB0.out HB00.out (Nat.le_refl _) ?_; intro vA w' hA0 hgA; have hA := row_zero hA0; have hSn := grown_up (Below.refl _ _).drew hgA (by intro k hk; cases hk); have hcw2 := HI.out.cell _ hSn; have hfw2 := HFZ.out _ hSn; clear hA0 hgA)
          | (refine step_append_own (by rfl) _ _ _ (by rfl) w2.heap.size 33 i0 _ 2 32 Tryz.underlying22 hi hz0 hz1 hz2 rfl (by decide) vA p (fileCells (fs.take p)) (by rfl) hA ⟨g, 0, none⟩ 0 0 (fileCells []) (by rfl) rfl (fun j u hu => by simp [fileCells] at hu) (fileCells_one _) HB01.out HB02.out hSn.size ?_; intro vB w3 hB0 hgB; obtain ⟨aB, cB, rfl, _⟩ := own_shape hB0; have hB := row_more (ys := []) hB0 HL1.out rfl; rw [← HD.out] at hB; have hSm := grown_up hSn hgB (fun k hk => (World.ownsRow.lt hA k hk).1); have hcw3 := HI.out.cell _ hSm; have hfw3 := HFZ.out _ hSm; clear hB0 hgB))
        all_goals (have HP := Lib.hid (rt_post (B := B) (r := r) HX2.out hBb HBW.out HSE.out hle hblt HBH.out hSm hB); clear hcw hfw hcw2 hfw2 hcw3 hfw3 hB hSm hSn hA; go_wp2; go_ret; exact HP.out)
      · have hk7 : ¬ c = p + 1 := hcp
        go_wp2_with fail
        go_region_law (first
          | (refine step_append_own (by rfl) _ _ _ (by rfl) w2.heap.size 33 i0 _ 2 32 Tryz.underlying22 hi hz0 hz1 hz2 rfl (by decide) (.slice none 0 0) 0 [] (by rfl) (World.ownsRow_nil _ _ _ _) ⟨g, 0, none⟩ p c (fileCells (fs.take p)) (by rfl) HLA.out (HI.out.take p _ (Below.refl _ _).drew) (fileCells_one _) HB0.out HB00.out (Nat.le_refl _) ?_; intro vA w' hA0 hgA; have hA := row_zero hA0; have hSn := grown_up (Below.refl _ _).drew hgA (by intro k hk; cases hk); have hcw2 := HI.out.cell _ hSn; have hfw2 := HFZ.out _ hSn; clear hA0 hgA)
          | (refine step_append_own (by rfl) _ _ _ (by rfl) w2.heap.size 33 i0 _ 2 32 Tryz.underlying22 hi hz0 hz1 hz2 rfl (by decide) vA p (fileCells (fs.take p)) (by rfl) hA ⟨g, (p + 1) * 2, none⟩ (fs.length - (p + 1)) (c - (p + 1)) (fileCells (fs.drop (p + 1))) (by rfl) HLB.out (HI.out.drop (p + 1) _ hSn) (fileCells_one _) HB1.out HB2.out hSn.size ?_; intro vB w3 hB0 hgB; obtain ⟨aB, cB, rfl, _⟩ := own_shape hB0; have hB := row_more hB0 HL1.out HL2.out; have hSm := grown_up hSn hgB (fun k hk => (World.ownsRow.lt hA k hk).1); have hcw3 := HI.out.cell _ hSm; have hfw3 := HFZ.out _ hSm; clear hB0 hgB))
        all_goals (have HP := Lib.hid (rt_post (B := B) (r := r) HX2.out hBb HBW.out HSE.out hle hblt HBH.out hSm hB); clear hcw hfw hcw2 hfw2 hcw3 hfw3 hB hSm hSn hA; go_wp2; go_ret; exact HP.out)
end Go.Proofs.YtjaojfaedikkeaaGreatDoor
