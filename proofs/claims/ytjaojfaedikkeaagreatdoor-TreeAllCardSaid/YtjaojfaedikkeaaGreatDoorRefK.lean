/- The reference's tree: Write's insertion into an empty tree. -/
import Derived.Test.YtjaojfaedikkeaaGreatDoorRefG
namespace Go.Proofs.YtjaojfaedikkeaaGreatDoor
open Go.RowKit

set_option maxHeartbeats 40000000 in
set_option maxRecDepth 100000 in
theorem insR_nil (B b : Nat) (r : Option Nat) (fs : List F2) (x y : ByteArray) (w : World) (h : IsRT w B b r fs) (hx : x.size ≤ maxLen) (hy : y.size ≤ 2000) (hok : okName x.data.toList = true) (hq : hasF fs x = false) (hl : fs.length < 60)
    (hbh : w.heap[b]? = some (.cells #[.slice none 0 0] 29 (0, 0))) (hnil : fs = []) :
    Calls Tryz.prog 6 #[.pointer (some ⟨b, 0, none⟩), .string x, .string y] w (RTPost w B b r 0 (fs.take (posOf fs x) ++ (x, y) :: fs.drop (posOf fs x))) := by
  have cA := atR_any B b r fs x w h
  obtain ⟨i0, hi, hz0, hz1, hz2⟩ := info_parts info_file
  have cM := fun w => mayR_any x w hx
  rw [hok] at cM
  rw [hq] at cA
  have hBb := h.1
  have hblt := h.rlt.2.2
  have hso := sorted_ins h.2.1 y hq
  have hple := posOf_le fs x
  have hle : (fs.take (posOf fs x) ++ (x, y) :: fs.drop (posOf fs x)).length ≤ 60 := by simp only [List.length_append, List.length_cons, List.length_take, List.length_drop]; omega
  obtain ⟨p, hp⟩ : ∃ p, posOf fs x = p := ⟨_, rfl⟩
  rw [hp] at cA hso hple hle ⊢
  subst hnil
  have hp0 : p = 0 := by simpa using hple
  subst hp0
  have HSO := Lib.hid hso
  have HBH := Lib.hid hbh
  have CM := Lib.hid cM
  clear h hq hok hp hso hbh cM
  go_enter Tryz.func6, Tryz.ntmps6
  go_wp2_with fail
  refine cA.mono ?_
  rintro e w1 ⟨rfl, hb1⟩
  have HX1 := Lib.hid hb1
  clear hb1 cA
  go_wp2_with fail
  refine (CM.out _).mono ?_
  rintro e w2 ⟨rfl, hb2'⟩
  have hb2 := chain HX1.out hb2'
  clear hb2'
  have HX2 := Lib.hid hb2
  have HIC : Hid (∀ w', Below w2.heap.size w2 w' → w'.cell? ⟨b, 0, none⟩ = some (.slice none 0 0)) := by
    show ∀ w', _
    intro w' hw
    rw [hw.cell (p := ⟨b, 0, none⟩) (Nat.lt_of_lt_of_le hblt hb2.size), hb2.cell (p := ⟨b, 0, none⟩) hblt]
    simp [World.cell?, HBH.out]
  have HFZ : Hid (∀ w', Below w2.heap.size w2 w' → w'.frozen? ⟨b, 0, none⟩ = false) := by
    show ∀ w', _
    intro w' hw
    have := (hw.block b (Nat.lt_of_lt_of_le hblt hb2.size)).trans ((hb2.block b hblt).trans HBH.out)
    simp [World.frozen?, this]
  have HBW := Lib.hid (show B ≤ w.heap.size by omega)
  have HONE := Lib.hid (show ∀ u ∈ [Value.string x, Value.string y], u.oneCell' = true by intro u hu; simp at hu; rcases hu with rfl | rfl <;> rfl)
  have HAD : Hid (Below w2.heap.size w2 (w2.alloc (.cells #[.string x, .string y] 33)).drew) := by show Below _ _ _; exact ((Below.refl _ _).alloc (Nat.le_refl _) _).drew
  have hb20 := hb2.size
  have hcw := HIC.out w2 (Below.refl _ _)
  have hfw := HFZ.out w2 (Below.refl _ _)
  have hcwA := fun o => HIC.out _ (up_new (o := o) (Below.refl w2.heap.size w2))
  clear hb2
  have hy0 : ¬ (2000 : Int) < (y.size : Int) := by omega
  go_wp2_with fail
  go_region_law (first
    | (refine step_append_own (by rfl) _ _ _ (by rfl) w2.heap.size 33 i0 _ 2 32 Tryz.underlying22 hi hz0 hz1 hz2 rfl (by decide) (.slice none 0 0) 0 [] (by rfl) (World.ownsRow_nil _ _ _ _) ⟨w2.heap.size, 0, none⟩ 1 1 [.string x, .string y] (by rfl) rfl (World.news_of_block (cs := #[.string x, .string y]) (heap_alloc_new w2 _)) HONE.out (by decide) (by decide) HAD.out.size ?_; intro vB w3 hB hgB; obtain ⟨aB, cB, rfl, hne, _⟩ := own_shape hB; obtain ⟨gB, rfl⟩ := hne (by decide); clear hne; have hC := (show RowAt w3 w2.heap.size (.slice (some ⟨gB, 0, none⟩) 1 cB) [(x, y)] from hB); have hSm := grown_up HAD.out hgB (by intro k hk; cases hk); have hcw3 := HIC.out _ hSm; have hfw3 := HFZ.out _ hSm; clear hgB)
    | fail)
  all_goals (have HP := Lib.hid (rt_post (B := B) (r := r) (fs := [(x, y)]) HX2.out hBb HBW.out HSO.out hle hblt HBH.out hSm hC); clear hcw hfw hcwA hcw3 hfw3 hB hC hSm; go_wp2; go_ret; exact HP.out)
end Go.Proofs.YtjaojfaedikkeaaGreatDoor
