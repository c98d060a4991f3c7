/- The reference's tree: Write. -/
import Derived.Test.YtjaojfaedikkeaaGreatDoorRefI
import Derived.Test.YtjaojfaedikkeaaGreatDoorRefJ
import Derived.Test.YtjaojfaedikkeaaGreatDoorRefK
namespace Go.Proofs.YtjaojfaedikkeaaGreatDoor
open Go.RowKit

set_option maxHeartbeats 4000000 in
set_option maxRecDepth 100000 in
theorem writeR_any (B b : Nat) (r : Option Nat) (fs : List F2) (x y : ByteArray) (w : World) (h : IsRT w B b r fs) (hx : x.size ≤ maxLen) (hy : y.size ≤ maxLen) :
    Calls Tryz.prog 6 #[.pointer (some ⟨b, 0, none⟩), .string x, .string y] w (RTPost w B b r (writeF fs x y).1 (writeF fs x y).2) := by
  have cA := atR_any B b r fs x w h
  have cM := fun w => mayR_any x w hx
  have hHB : B ≤ w.heap.size := by have := h.1; have := h.rlt.2.2; omega
  have H := Lib.hid h
  cases hok : okName x.data.toList with
  | false =>
    have hr : writeF fs x y = (1, fs) := by unfold writeF; rw [if_pos hok]
    rw [hr]
    simp only [hok] at cM
    have CM := Lib.hid cM
    have CA := Lib.hid cA
    unfold maxLen at hx hy
    obtain ⟨q, hq⟩ : ∃ q, hasF fs x = q := ⟨_, rfl⟩
    rw [hq] at CA
    clear hok hr h cM cA hq
    go_enter Tryz.func6, Tryz.ntmps6
    go_wp2_with fail
    refine CA.out.mono ?_
    rintro e w1 ⟨rfl, hb1⟩
    have HX1 := Lib.hid hb1
    clear hb1
    go_wp2_with fail
    refine (CM.out _).mono ?_
    rintro e w2 ⟨rfl, hb2⟩
    have HX2 := Lib.hid (chain HX1.out hb2)
    clear hb2
    go_wp2
    go_ret
    exact ⟨r, rfl, H.out.below HX2.out, Frame2.of_below HX2.out b r, .inl rfl⟩
  | true =>
    have hokt := hok
    simp only [hok] at cM
    have CM := Lib.hid cM
    by_cases hbig : 2000 < y.size
    · have hr : writeF fs x y = (4, fs) := by unfold writeF; rw [if_neg (by rw [hok]; decide), if_pos hbig]
      rw [hr]
      have CA := Lib.hid cA
      obtain ⟨q, hq⟩ : ∃ q, hasF fs x = q := ⟨_, rfl⟩
      rw [hq] at CA
      unfold maxLen at hx hy
      clear hok hokt hr h cM cA hq
      go_enter Tryz.func6, Tryz.ntmps6
      go_wp2_with fail
      refine CA.out.mono ?_
      rintro e w1 ⟨rfl, hb1⟩
      have HX1 := Lib.hid hb1
      clear hb1
      go_wp2_with fail
      refine (CM.out _).mono ?_
      rintro e w2 ⟨rfl, hb2⟩
      have HX2 := Lib.hid (chain HX1.out hb2)
      clear hb2
      go_wp2
      go_ret
      exact ⟨r, rfl, H.out.below HX2.out, Frame2.of_below HX2.out b r, .inl rfl⟩
    · cases hq : hasF fs x with
      | true =>
        obtain ⟨f, hf, hfx⟩ := hasF_pos h.2.1 hq
        have hr : writeF fs x y = (0, fs.set (posOf fs x) (x, y)) := by unfold writeF; rw [if_neg (by rw [hok]; decide), if_neg hbig, if_pos hq]
        rw [hr]
        rw [hq] at cA
        have hset := sorted_set h.2.1 hf y
        rw [hfx] at hset
        obtain ⟨p, hp⟩ : ∃ p, posOf fs x = p := ⟨_, rfl⟩
        rw [hp] at cA hf hset ⊢
        have hpl := (List.getElem?_eq_some_iff.1 hf).1
        have h60 := h.2.2.1
        have hBb := h.1
        rcases h.row with ⟨hnil, _, _⟩ | ⟨g, c, hrg, hbh, hrow, hc, hcm, hBg, hgl, hcells, cur, hgh, hgc⟩
        · rw [hnil] at hf; simp at hf
        · subst hrg
          have hgb : g ≠ b := by
            rintro rfl
            rw [hbh] at hgh; simp at hgh
          have hblt := block_lt hbh
          have CA := Lib.hid cA
          have HBH := Lib.hid hbh
          have HGH := Lib.hid hgh
          have HROW := Lib.hid hrow
          have HF := Lib.hid hf
          have HSET := Lib.hid hset
          have HFX := Lib.hid hfx
          unfold maxLen at hcm hx hy
          clear hok hokt hr h cM cA hq hp hf hfx hset hbh hgh hrow hcells
          go_enter Tryz.func6, Tryz.ntmps6
          go_wp2_with fail
          refine CA.out.mono ?_
          rintro e w1 ⟨rfl, hb1⟩
          have HX1 := Lib.hid hb1
          clear hb1
          go_wp2_with fail
          refine (CM.out _).mono ?_
          rintro e w2 ⟨rfl, hb2⟩
          have HX2 := Lib.hid (chain HX1.out hb2)
          clear hb2
          have hbc : w2.cell? ⟨b, 0, none⟩ = some (.slice (some ⟨g, 0, none⟩) fs.length c) := (HX2.out.cell (p := ⟨b, 0, none⟩) hblt).trans (by have := HBH.out; simp [World.cell?, this])
          have hg2 := (HX2.out.block g hgl).trans HGH.out
          obtain ⟨v0, hv0⟩ : ∃ v, w2.cell? ⟨g, p * 2 + 1, none⟩ = some v := ⟨cur[p * 2 + 1]'(by omega), by simp [World.cell?, hg2]⟩
          have hfz : w2.frozen? ⟨g, p * 2 + 1, none⟩ = false := by simp [World.frozen?, hg2]
          have hk0 : (0 : Int) ≤ (p : Int) := by omega
          have hk1 : (p : Int) < (fs.length : Int) := by omega
          clear hg2
          go_wp2_with fail
          go_ret
          have hown2 : RowAt w2 B (.slice (some ⟨g, 0, none⟩) fs.length c) fs := HROW.out.below HX2.out
          have hs2 := own_set y HF.out hown2
          have hl : (fs.set p (x, y)).length = fs.length := List.length_set
          refine ⟨some g, rfl, ⟨hBb, HSET.out, by rw [hl]; exact h60, .slice (some ⟨g, 0, none⟩) fs.length c, ?_, ?_, rfl⟩, (Frame2.of_below HX2.out b (some g)).trans (frame_setCell w2 b g _ _) (.inl rfl), .inl rfl⟩
          · rw [Below.heap_setCell w2 _ _ b (fun e => hgb e.symm), HX2.out.block b hblt]; exact HBH.out
          · have e : (x, y) = (f.1, y) := by rw [HFX.out]
            rw [e]; exact hs2
      | false =>
        by_cases hfull : 60 ≤ fs.length
        · have hr : writeF fs x y = (4, fs) := by unfold writeF; rw [if_neg (by rw [hok]; decide), if_neg hbig, if_neg (by rw [hq]; decide), if_pos hfull]
          rw [hr]
          rw [hq] at cA
          obtain ⟨a, c, hb, hown, hc, hcm⟩ := h.ptr
          have hblt := block_lt hb
          have CA := Lib.hid cA
          have HBH := Lib.hid hb
          unfold maxLen at hcm hx hy
          clear hok hokt hr h cM cA hq hb hown
          go_enter Tryz.func6, Tryz.ntmps6
          go_wp2_with fail
          refine CA.out.mono ?_
          rintro e w1 ⟨rfl, hb1⟩
          have HX1 := Lib.hid hb1
          clear hb1
          go_wp2_with fail
          refine (CM.out _).mono ?_
          rintro e w2 ⟨rfl, hb2⟩
          have HX2 := Lib.hid (chain HX1.out hb2)
          clear hb2
          have hbc : w2.cell? ⟨b, 0, none⟩ = some (.slice a fs.length c) := (HX2.out.cell (p := ⟨b, 0, none⟩) hblt).trans (by have := HBH.out; simp [World.cell?, this])
          go_wp2
          go_ret
          exact ⟨r, rfl, H.out.below HX2.out, Frame2.of_below HX2.out b r, .inl rfl⟩
        · have hr : writeF fs x y = (0, fs.take (posOf fs x) ++ (x, y) :: fs.drop (posOf fs x)) := by unfold writeF; rw [if_neg (by rw [hok]; decide), if_neg hbig, if_neg (by rw [hq]; decide), if_neg hfull]
          rw [hr]
          rcases h.row with ⟨hnil, _, hbh⟩ | ⟨g, c, hrg, hbh, hrow, hc, hcm, hBg, hgl, hcells, _⟩
          · exact insR_nil B b r fs x y w h hx (by omega) hokt hq (by omega) hbh hnil
          · by_cases hcp : c = posOf fs x
            · exact insR_end B b r fs x y w h hx (by omega) hokt hq (by omega) g c hbh hc hcm hgl hcells hcp
            · exact insR_mid B b r fs x y w h hx (by omega) hokt hq (by omega) g c hbh hc hcm hgl hcells hcp
end Go.Proofs.YtjaojfaedikkeaaGreatDoor
