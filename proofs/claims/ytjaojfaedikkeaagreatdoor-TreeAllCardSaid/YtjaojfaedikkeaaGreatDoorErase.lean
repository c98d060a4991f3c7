/- Contract of a tree's Erase. -/
import Derived.Test.YtjaojfaedikkeaaGreatDoorDelete
namespace Go.Proofs.YtjaojfaedikkeaaGreatDoor
open Go.RowKit

/-- What Erase tells, and what the tree holds then. -/
def eraseF (fs : List F2) (x : ByteArray) : Int × List F2 :=
  if hasF fs x then (0, fs.take (posOf fs x) ++ fs.drop (posOf fs x + 1)) else (6, fs)

theorem sorted_del {fs : List F2} (h : Sorted fs) (p : Nat) : Sorted (fs.take p ++ fs.drop (p + 1)) := by
  rw [← List.eraseIdx_eq_take_drop_succ]
  exact List.Pairwise.sublist (List.eraseIdx_sublist ..) h

set_option maxHeartbeats 2000000 in
theorem erase_any (B b : Nat) (r : Option Nat) (fs : List F2) (x : ByteArray) (w : World) (h : IsTree w B b r fs) :
    Calls Tryz.prog 10 #[.pointer (some ⟨b, 0, none⟩), .string x] w (TreePost w B b r (eraseF fs x).1 (eraseF fs x).2) := by
  cases hq : hasF fs x with
  | false =>
    have hr : eraseF fs x = (6, fs) := by unfold eraseF; rw [if_neg (by rw [hq]; decide)]
    rw [hr]
    refine (erase_none B b r fs x w h hq).mono ?_
    rintro e w' ⟨rfl, hb⟩
    exact ⟨r, rfl, h.below hb, Frame2.of_below hb b r, .inl rfl⟩
  | true =>
    have hr : eraseF fs x = (0, fs.take (posOf fs x) ++ fs.drop (posOf fs x + 1)) := by unfold eraseF; rw [if_pos hq]
    rw [hr]
    have hF := find_any B b r fs x w h
    rw [hq] at hF
    obtain ⟨f, hf, _⟩ := hasF_pos h.2.1 hq
    have hpl := (List.getElem?_eq_some_iff.1 hf).1
    have hso := sorted_del h.2.1 (posOf fs x)
    obtain ⟨p, hp⟩ : ∃ p, posOf fs x = p := ⟨_, rfl⟩
    rw [hp] at hF hpl hso ⊢
    obtain ⟨a, c, hb, hown, hc, hcm⟩ := h.ptr
    have h60 := h.2.2.1
    have hBb := h.1
    have hblt := block_lt hb
    have hle : (fs.take p ++ fs.drop (p + 1)).length = fs.length - 1 := by rw [List.length_append, List.length_take, List.length_drop]; omega
    have hbr : r ≠ some b := hown.ne hb
    rcases hown with ⟨⟨_, ⟨hv, _⟩ | ⟨g, c', cur, hv, hgB, hg, hnc, hcm', hcs, htk⟩⟩, hrr⟩ | ⟨rfl, _⟩
    · injection hv with _ e2 _
      omega
    · cases hv
      obtain rfl : r = some g := hrr
      have hgl := block_lt hg
      have HF := Lib.hid hF
      have HB := Lib.hid hb
      have HS := Lib.hid hso
      have HL := Lib.hid hle
      have HGc := Lib.hid hg
      have HCS := Lib.hid hcs
      have HTK := Lib.hid htk
      have HCM := Lib.hid hcm
      have HGB := Lib.hid hgB
      have HBR := Lib.hid hbr
      clear hr hq hp hf hF hb hso hle hg hcs htk h hgB hbr hcm hcm'
      go_enter Tryz.func10, Tryz.ntmps10
      go_wp2_with fail
      refine HF.out.mono ?_
      rintro e w1 ⟨rfl, hb1⟩
      have hbc : w1.cell? ⟨b, 0, none⟩ = some (.slice (some ⟨g, 0, none⟩) fs.length c) := (hb1.cell (by exact hblt)).trans (by have := HB.out; simp [World.cell?, this])
      have cD := delete_c g fs.length c p fs cur w1 hpl hc (by omega) rfl ((hb1.block g hgl).trans HGc.out) HCS.out HTK.out
      have HB1 := Lib.hid hb1
      clear hb1
      go_wp2_with fail
      refine cD.mono ?_
      rintro e w3 ⟨rfl, cur', hg3, hcs3, htk3, hgr⟩
      have hb1 := HB1.out
      have hO3 : OwnF w3 B (some g) (.slice (some ⟨g, 0, none⟩) (fs.length - 1) c) (fs.take p ++ fs.drop (p + 1)) := by
        refine .inl ⟨⟨by rw [fileCells_length], .inr ⟨g, c, cur', by rw [HL.out], HGB.out, hg3, by rw [HL.out]; omega, HCM.out, hcs3, by rw [HL.out]; exact htk3⟩⟩, rfl⟩
      have hbg : some b ≠ some g := fun e => HBR.out e.symm
      have hbw3 : w3.heap[b]? = some (.cells #[.slice (some ⟨g, 0, none⟩) fs.length c] 56 (0, 0)) := by
        rw [hgr.block b (by have := hb1.size; omega) hbg, hb1.block b hblt]; exact HB.out
      have hbc3 : w3.cell? ⟨b, 0, none⟩ = some (.slice (some ⟨g, 0, none⟩) fs.length c) := by simp [World.cell?, hbw3]
      have hbf3 : w3.frozen? ⟨b, 0, none⟩ = false := by simp [World.frozen?, hbw3]
      have hT := tree_put hBb HS.out (by rw [HL.out]; omega) hbw3 hO3
      have hFr : Frame2 w (w3.setCell ⟨b, 0, none⟩ (.slice (some ⟨g, 0, none⟩) (fs.length - 1) c)) b (some g) := by
        refine ⟨by show w3.os = _; rw [hgr.os]; exact hb1.os, by show w3.tape = _; rw [hgr.tape]; exact hb1.tape, by show w3.output = _; rw [hgr.output]; exact hb1.output, ?_, fun k hk h1 h2 => ?_⟩
        · have h1 := hgr.size; have h2 := hb1.size; simp [World.setCell]; omega
        · rw [Below.heap_setCell w3 _ _ k h1, hgr.block k (by have := hb1.size; omega) h2, hb1.block k hk]
      have HT5 := Lib.hid hT
      have HF5 := Lib.hid hFr
      clear hT hFr hO3 hgr hbw3 hbc hb1 hg3 hcs3 htk3 cD
      go_wp2_with fail
      go_ret
      exact ⟨some g, rfl, HT5.out, HF5.out, .inl rfl⟩
    · simp at hpl
end Go.Proofs.YtjaojfaedikkeaaGreatDoor
