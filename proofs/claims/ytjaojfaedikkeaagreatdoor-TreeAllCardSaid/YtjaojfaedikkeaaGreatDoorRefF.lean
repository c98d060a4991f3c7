/- The reference's tree: its key. -/
import Derived.Test.YtjaojfaedikkeaaGreatDoorRefE
namespace Go.Proofs.YtjaojfaedikkeaaGreatDoor
open Go.RowKit

theorem up_draw {W w : World} (h : Below W.heap.size W w) : Below W.heap.size W w.drew := h.drew
theorem up_new {W w : World} {o : Obj} (h : Below W.heap.size W w) : Below W.heap.size W (w.alloc o) := h.alloc h.size o
def keyRB (fs : List F2) : ByteArray := putB (keyB fs)
theorem keyRB_eq (fs : List F2) : keyRB fs = ⟨(putS (keyL fs)).toArray⟩ := by unfold keyRB putB; rw [keyB_data]

set_option maxHeartbeats 4000000 in
set_option maxRecDepth 100000 in
theorem keyR_any (B b : Nat) (r : Option Nat) (fs : List F2) (w : World) (h : IsRT w B b r fs) (hlen : (keyRB fs).size ≤ 140737488351232) :
    Calls Tryz.prog 8 #[.pointer (some ⟨b, 0, none⟩)] w fun e w' => e = .returned (.string (keyRB fs)) ∧ Below w.heap.size w w' := by
  obtain ⟨a, c, hb, hown, hc, hcm⟩ := h.ptr
  obtain ⟨i0, hi, hz0, hz1, hz2⟩ := info_parts info_str
  have hblt := block_lt hb
  have hcell : w.cell? ⟨b, 0, none⟩ = some (.slice a fs.length c) := by simp [World.cell?, hb]
  obtain ⟨a', c', hv, _, _, hcs⟩ := hown.files
  cases hv
  have hl := h.2.2.1
  have HCS := Lib.hid hcs
  have HCELL : Hid (∀ w', Below w.heap.size w w' → w'.cell? ⟨b, 0, none⟩ = some (.slice a fs.length c)) := by
    show ∀ w', _
    exact fun w' hw => (hw.cell (p := ⟨b, 0, none⟩) hblt).trans hcell
  have HNEXT := Lib.hid (keyB_next fs)
  have HLE := Lib.hid hlen
  unfold maxLen at hcm
  clear hcs hb hown h hcell hlen
  go_enter Tryz.func8, Tryz.ntmps8
  go_wp2
  go_loopw [3, 4] (fun l i wr => ∃ (k : Nat), k ≤ fs.length ∧ i = .int .i64 k ∧ wr.ownsRow w.heap.size 9 1 l (keyB (fs.take k)).length ((keyB (fs.take k)).map Value.string) ∧ Below w.heap.size w wr)
    (fun _ i _ => fs.length - (intOf i).toNat)
  case atStart => exact ⟨0, Nat.zero_le _, rfl, World.ownsRow_nil _ _ _ _, Below.refl _ _⟩
  case round =>
    obtain ⟨k, hk, rfl, hown, hnx⟩ := hrel
    have HOWN := Lib.hid hown
    have HNX := Lib.hid hnx
    have hcell := HCELL.out _ hnx
    have hs1 := hnx.size
    clear hown hnx
    by_cases hlt : k < fs.length
    · obtain ⟨f, hf⟩ : ∃ f, fs[k]? = some f := ⟨fs[k], List.getElem?_eq_getElem hlt⟩
      obtain ⟨gb, go, rfl, hgb, hgc⟩ := HCS.out (by rintro rfl; simp at hlt)
      obtain ⟨hf0, hf1⟩ := hgc k f hf
      have hc0 : ∀ w', Below w.heap.size w w' → w'.cell? ⟨gb, go + k * 2, none⟩ = some (.string f.1) := fun w' hw => (hw.cell (p := ⟨gb, go + k * 2, none⟩) hgb).trans hf0
      have hc1 : ∀ w', Below w.heap.size w w' → w'.cell? ⟨gb, go + k * 2 + 1, none⟩ = some (.string f.2) := fun w' hw => (hw.cell (p := ⟨gb, go + k * 2 + 1, none⟩) hgb).trans hf1
      have hcb := HCELL.out
      have HN := Lib.hid (HNEXT.out k f hf)
      have hk0 : (0 : Int) ≤ (k : Int) := by omega
      have hk1 : (k : Int) < (fs.length : Int) := by omega
      have hkl : (keyB (fs.take k)).length = k * 2 := by rw [keyB_length, List.length_take]; omega
      have HKL := Lib.hid hkl
      have HS0 := Lib.hid (show Below w.heap.size w wr.drew from HNX.out.drew)
      have HOD : Hid (∀ o, World.ownsRow (wr.alloc o).drew w.heap.size 9 1 u3 (k * 2) ((keyB (fs.take k)).map Value.string)) := by
        show ∀ o, _
        intro o
        have h := (HOWN.out.alloc o).drew
        rw [hkl] at h
        exact h
      have HAD : Hid (∀ o, Below w.heap.size w (wr.alloc o).drew) := by show ∀ o, _; exact fun o => (HNX.out.alloc hs1 o).drew
      clear hgc hf hf0 hf1 hkl
      go_wp2_with fail
      go_region_held3 (fun w' => Below w.heap.size w w') (first | assumption | exact HS0.out | exact HAD.out _)
        ((refine step_append_own (by rfl) _ _ _ (by rfl) w.heap.size 9 i0 (.string ByteArray.empty) 1 16 Tryz.underlying42 hi hz0 hz1 hz2 rfl (by decide) u3 (k * 2) ((keyB (fs.take k)).map Value.string) (by rfl) (HOD.out _) ⟨wr.heap.size, 0, none⟩ 2 2 [.string f.1, .string f.2] (by rfl) rfl (World.news_of_block (cs := #[.string f.1, .string f.2]) (t := 9) (fr := (0, 0)) (heap_alloc_new wr _)) (by simp [Value.oneCell']) (by unfold maxLen; omega) (by omega) (show Below w.heap.size w _ from by assumption).size ?_; intro v' w3 hA0 hgA; have hSn := grown_up (wr := w) (by assumption) hgA (fun g hg => (World.ownsRow.lt (HOD.out (.cells #[.string f.1, .string f.2] 9)) g hg).1)))
      have HA : Hid (w3.ownsRow w.heap.size 9 1 v' (keyB (fs.take (k + 1))).length ((keyB (fs.take (k + 1))).map Value.string)) := by
        show w3.ownsRow _ _ _ _ _ _
        rw [HN.out, List.length_append, List.map_append, HKL.out]
        exact hA0
      have HSN := Lib.hid hSn
      clear hA0 hgA hc0 hc1 hcb
      go_wp2
      go_roundw
      case rel => exact ⟨k + 1, by omega, by go_num, HA.out, HSN.out⟩
      case measure => simp [intOf]; omega
    · have hfull : fs.take k = fs := List.take_of_length_le (by omega)
      have hown := HOWN.out
      rw [hfull] at hown
      have cP := putR_any _ (keyB fs) wr (strs_own hown) (by rw [keyB_length]; omega) HLE.out
      have CP := Lib.hid cP
      clear hfull hown cP
      go_wp2_with fail
      refine CP.out.mono ?_
      rintro e w2 ⟨rfl, hb2⟩
      have HX2 := Lib.hid (HNX.out.trans (hb2.mono HNX.out.size))
      clear hb2
      go_wp2
      go_ret
      exact ⟨rfl, HX2.out⟩
end Go.Proofs.YtjaojfaedikkeaaGreatDoor
