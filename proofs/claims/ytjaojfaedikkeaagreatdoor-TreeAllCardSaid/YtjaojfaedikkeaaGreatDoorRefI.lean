/- The reference's tree: Write's insertion. -/
import Derived.Test.YtjaojfaedikkeaaGreatDoorRefG
namespace Go.Proofs.YtjaojfaedikkeaaGreatDoor
open Go.RowKit

set_option maxHeartbeats 40000000 in
set_option maxRecDepth 100000 in
theorem insR_mid (B b : Nat) (r : Option Nat) (fs : List F2) (x y : ByteArray) (w : World) (h : IsRT w B b r fs) (hx : x.size ≤ maxLen) (hy : y.size ≤ 2000) (hok : okName x.data.toList = true) (hq : hasF fs x = false) (hl : fs.length < 60)
    (g c : Nat) (hbh : w.heap[b]? = some (.cells #[.slice (some ⟨g, 0, none⟩) fs.length c] 29 (0, 0))) (hc : fs.length ≤ c) (hcm : c ≤ maxLen) (hgl : g < w.heap.size)
      (hcells : ∀ (j : Nat) u, (fileCells fs)[j]? = some u → w.cell? ⟨g, j, none⟩ = some u) (hcp : ¬ c = posOf fs x) :
    Calls Tryz.prog 6 #[.pointer (some ⟨b, 0, none⟩), .string x, .string y] w (RTPost w B b r 0 (fs.take (posOf fs x) ++ (x, y) :: fs.drop (posOf fs x))) := by
  have cA := atR_any B b r fs x w h
  obtain ⟨i0, hi, hz0, hz1, hz2⟩ := info_parts info_file
  have cM := fun w => mayR_any x w hx
  rw [hok] at cM
  rw [hq] at cA
  have hBb := h.1
  have hblt := h.rlt.2.2
  have hso := sorted_ins h.2.1 y hq
  have hple := posOf_le fs x
  have hle : (fs.take (posOf fs x) ++ (x, y) :: fs.drop (posOf fs x)).length ≤ 60 := by simp only [List.length_append, List.length_cons, List.length_take, List.length_drop]; omega
  obtain ⟨p, hp⟩ : ∃ p, posOf fs x = p := ⟨_, rfl⟩
  rw [hp] at cA hso hple hle hcp ⊢
  have HSO := Lib.hid hso
  have HBH := Lib.hid hbh
  have HCE := Lib.hid hcells
  have CM := Lib.hid cM
  unfold maxLen at hcm
  clear h hq hok hp hso hbh hcells cM
  go_enter Tryz.func6, Tryz.ntmps6
  go_wp2_with fail
  refine cA.mono ?_
  rintro e w1 ⟨rfl, hb1⟩
  have HX1 := Lib.hid hb1
  clear hb1 cA
  go_wp2_with fail
  refine (CM.out _).mono ?_
  rintro e w2 ⟨rfl, hb2'⟩
  have hb2 := chain HX1.out hb2'
  clear hb2'
  have HX2 := Lib.hid hb2
  have HI : Hid (InsAt w2 b g c fs) := by
    show InsAt _ _ _ _ _
    have hlt2 : b < w2.heap.size := Nat.lt_of_lt_of_le hblt hb2.size
    have hgl2 : g < w2.heap.size := Nat.lt_of_lt_of_le hgl hb2.size
    refine ⟨fun w' hw => ?_, fun w' hw j u hu => ?_⟩
    · rw [hw.cell (p := ⟨b, 0, none⟩) hlt2, hb2.cell (p := ⟨b, 0, none⟩) hblt]
      simp [World.cell?, HBH.out]
    · rw [hw.cell (p := ⟨g, j, none⟩) hgl2, hb2.cell (p := ⟨g, j, none⟩) hgl]
      exact HCE.out j u hu
  have HFZ : Hid (∀ w', Below w2.heap.size w2 w' → w'.frozen? ⟨b, 0, none⟩ = false) := by
    show ∀ w', _
    intro w' hw
    have := (hw.block b (Nat.lt_of_lt_of_le hblt hb2.size)).trans ((hb2.block b hblt).trans HBH.out)
    simp [World.frozen?, this]
  have hl1 : (fs.take p).length = p := by rw [List.length_take]; omega
  have hl2 : (fs.drop p).length = fs.length - p := List.length_drop
  have HL1 := Lib.hid hl1
  have HL2 := Lib.hid hl2
  have HLA := Lib.hid (show (fileCells (fs.take p)).length = p * 2 by rw [fileCells_length, hl1])
  have HLB := Lib.hid (show (fileCells (fs.drop p)).length = (fs.length - p) * 2 by rw [fileCells_length, hl2])
  have HB0 := Lib.hid (show 0 + p ≤ maxLen by unfold maxLen; omega)
  have HB00 := Lib.hid (show (0 + p) * 32 ≤ 140737488355328 by omega)
  have HB1 := Lib.hid (show p + 1 ≤ maxLen by unfold maxLen; omega)
  have HB11 := Lib.hid (show (p + 1) * 32 ≤ 140737488355328 by omega)
  have HB2 := Lib.hid (show p + 1 + (fs.length - p) ≤ maxLen by unfold maxLen; omega)
  have HB22 := Lib.hid (show (p + 1 + (fs.length - p)) * 32 ≤ 140737488355328 by omega)
  have HB3 := Lib.hid (show p + 1 + 0 ≤ maxLen by unfold maxLen; omega)
  have HB33 := Lib.hid (show (p + 1 + 0) * 32 ≤ 140737488355328 by omega)
  have HBW := Lib.hid (show B ≤ w.heap.size by omega)
  have HONE := Lib.hid (show ∀ u ∈ [Value.string x, Value.string y], u.oneCell' = true by intro u hu; simp at hu; rcases hu with rfl | rfl <;> rfl)
  have HPN : Hid (∀ w', World.grownBy (w2.alloc (.cells #[.string x, .string y] 33)).drew w' none → w'.heap[w2.heap.size]? = some (.cells #[.string x, .string y] 33 (0, 0))) := by
    show ∀ w', _
    intro w' hg
    refine (hg.block w2.heap.size (by show _ < (w2.alloc _).heap.size; simp) (by simp)).trans ?_
    exact heap_alloc_new w2 _
  have HAD : Hid (Below w2.heap.size w2 (w2.alloc (.cells #[.string x, .string y] 33)).drew) := by show Below _ _ _; exact ((Below.refl _ _).alloc (Nat.le_refl _) _).drew
  have hk0 : (0 : Int) ≤ (p : Int) := by omega
  have hk1 : (p : Int) ≤ (fs.length : Int) := by omega
  have hk2 : (p : Int) ≤ (c : Int) := by omega
  have hk3 : (fs.length : Int) ≤ (c : Int) := by omega
  have hb20 := hb2.size
  have hcw := HI.out.cell w2 (Below.refl _ _)
  have hfw := HFZ.out w2 (Below.refl _ _)
  have hcwA := fun o => HI.out.cell _ (up_new (o := o) (Below.refl w2.heap.size w2))
  clear hb2 hl1 hl2
  have hy0 : ¬ (2000 : Int) < (y.size : Int) := by omega
  have hl0 : ¬ (60 : Int) ≤ (fs.length : Int) := by omega
  go_wp2_with fail
  go_region_law (first
    | (refine step_append_own (by rfl) _ _ _ (by rfl) w2.heap.size 33 i0 _ 2 32 Tryz.underlying22 hi hz0 hz1 hz2 rfl (by decide) (.slice none 0 0) 0 [] (by rfl) (World.ownsRow_nil _ _ _ _) ⟨g, 0, none⟩ p c (fileCells (fs.take p)) (by rfl) HLA.out (HI.out.take p _ (Below.refl _ _).drew) (fileCells_one _) HB0.out HB00.out (Nat.le_refl _) ?_; intro vA w' hA0 hgA; have hA := row_zero hA0; have hSn := grown_up (Below.refl _ _).drew hgA (by intro k hk; cases hk); have hcw2 := HI.out.cell _ hSn; have hcw2' := fun o => HI.out.cell _ (up_new (o := o) hSn); have hfw2 := HFZ.out _ hSn; clear hA0 hgA)
    | (refine step_append_own (by rfl) _ _ _ (by rfl) w2.heap.size 33 i0 _ 2 32 Tryz.underlying22 hi hz0 hz1 hz2 rfl (by decide) (.slice none 0 0) 0 [] (by rfl) (World.ownsRow_nil _ _ _ _) ⟨g, 0, none⟩ p c (fileCells (fs.take p)) (by rfl) HLA.out (HI.out.take p _ HAD.out) (fileCells_one _) HB0.out HB00.out HAD.out.size ?_; intro vA w' hA0 hgA; have hA := row_zero hA0; have hSn := grown_up HAD.out hgA (by intro k hk; cases hk); have hpend := HPN.out _ hgA; have hcw2 := HI.out.cell _ hSn; have hcw2' := fun o => HI.out.cell _ (up_new (o := o) hSn); have hfw2 := HFZ.out _ hSn; clear hA0 hgA)
    | (refine step_append_own (by rfl) _ _ _ (by rfl) w2.heap.size 33 i0 _ 2 32 Tryz.underlying22 hi hz0 hz1 hz2 rfl (by decide) vA p (fileCells (fs.take p)) (by rfl) hA ⟨w2.heap.size, 0, none⟩ 1 1 [.string x, .string y] (by rfl) rfl (World.news_of_block (cs := #[.string x, .string y]) hpend) HONE.out HB1.out HB11.out hSn.size ?_; intro vB w3 hB hgB; have hSm := grown_up hSn hgB (fun k hk => (World.ownsRow.lt hA k hk).1); have hcw3 := HI.out.cell _ hSm; have hfw3 := HFZ.out _ hSm; clear hgB)
    | (refine step_append_own (by rfl) _ _ _ (by rfl) w2.heap.size 33 i0 _ 2 32 Tryz.underlying22 hi hz0 hz1 hz2 rfl (by decide) vA p (fileCells (fs.take p)) (by rfl) (World.ownsRow.alloc hA _) ⟨w'.heap.size, 0, none⟩ 1 1 [.string x, .string y] (by rfl) rfl (World.news_of_block (cs := #[.string x, .string y]) (heap_alloc_new w' _)) HONE.out HB1.out HB11.out (up_new hSn).size ?_; intro vB w3 hB hgB; have hSm := grown_up (up_new hSn) hgB (fun k hk => (World.ownsRow.lt hA k hk).1); have hcw3 := HI.out.cell _ hSm; have hfw3 := HFZ.out _ hSm; clear hgB)
    | (refine step_append_own (by rfl) _ _ _ (by rfl) w2.heap.size 33 i0 _ 2 32 Tryz.underlying22 hi hz0 hz1 hz2 rfl (by decide) vB (p + 1) (fileCells (fs.take p) ++ [.string x, .string y]) (by rfl) hB ⟨g, p * 2, none⟩ (fs.length - p) (c - p) (fileCells (fs.drop p)) (by rfl) HLB.out (HI.out.drop p _ hSm) (fileCells_one _) HB2.out HB22.out hSm.size ?_; intro vC w4 hC0 hgC; obtain ⟨aC, cC, rfl, _⟩ := own_shape hC0; have hC := row_ins hC0 HL1.out HL2.out; have hSl := grown_up hSm hgC (fun k hk => (World.ownsRow.lt hB k hk).1); have hcw4 := HI.out.cell _ hSl; have hfw4 := HFZ.out _ hSl; clear hC0 hgC))
  all_goals (have HP := Lib.hid (rt_post (B := B) (r := r) HX2.out hBb HBW.out HSO.out hle hblt HBH.out hSl hC); clear hcw hfw hcwA hcw2 hcw2' hfw2 hcw3 hfw3 hcw4 hfw4 hB hC hSm hSn hSl hA; go_wp2; go_ret; exact HP.out)
end Go.Proofs.YtjaojfaedikkeaaGreatDoor
