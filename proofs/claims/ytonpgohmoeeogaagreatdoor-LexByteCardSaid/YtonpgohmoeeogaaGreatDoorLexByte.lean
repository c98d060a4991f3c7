/- The law LexByte: the walk. -/
import Derived.Lib.SlBytesRow
import Derived.Test.YtonpgohmoeeogaaGreatDoorLexAll
import Derived.Test.YtonpgohmoeeogaaGreatDoorMpln
namespace Go.Proofs.YtonpgohmoeeogaaGreatDoor.lawLexByte
open Go.RowKit Go.Shelf Go.Proofs.YtonpgohmoeeogaaGreatDoor.lawLexAll

theorem err_two (c : UInt8) {p : Nat} (h : allS [97, 32, c] = .error p) : p = 2 := by
  rw [allA_S] at h
  have s0 : skipN false [97, 32, c] = 0 := skip_stop _ (by decide) (by decide)
  have w0 : wordS (([97, 32, c] : List UInt8).drop (skipN false [97, 32, c])) = some (1, [97], 1) := by rw [s0]; rfl
  rw [allA_word w0, s0] at h
  have h1 := joinW_err h
  have e1 : ([97, 32, c] : List UInt8).drop (0 + 1) = [32, c] := rfl
  rw [e1] at h1
  have s1 : skipN false [32, c] = skipN false [c] + 1 := skip_blank _ (by decide)
  have hle := skip_le [c] false
  have hl1 : ([c] : List UInt8).length = 1 := rfl
  rw [hl1] at hle
  by_cases hz : skipN false [c] = 0
  · have hd : ([32, c] : List UInt8).drop (skipN false [32, c]) = [c] := by rw [s1, hz]; rfl
    cases hw : wordS [c] with
    | none =>
      rw [allA_bad (by rw [hd]; simp) (by rw [hd]; exact hw)] at h1
      injection h1 with h1
      omega
    | some x =>
      obtain ⟨k, t, n⟩ := x
      have hp := word_pos hw
      rw [hl1] at hp
      rw [allA_word (by rw [hd]; exact hw), s1, hz] at h1
      have h2 := joinW_err h1
      obtain rfl : n = 1 := by omega
      rw [show ([32, c] : List UInt8).drop (0 + 1 + 1) = [] from rfl, allA_end (by simp [skip_nil])] at h2
      cases h2
  · have h2 : skipN false [c] = 1 := by omega
    rw [allA_end (by rw [s1, h2]; rfl)] at h1
    cases h1

set_option maxHeartbeats 4000000 in
set_option maxRecDepth 100000 in
theorem law (c : UInt8) (w : World) (hG : GP w.heap.size w) :
    Calls Tryz.prog 12 #[.int .u8 c.toNat] w fun e w' => e = .returned (.bool true) ∧ Below w.heap.size w w' := by
  have c0 := begun4_any w hG
  have hconv : ∀ W : World, (Go.convert 38 9 (.slice (some ⟨W.heap.size, 0, none⟩) 1 1)).run Tryz.prog (W.alloc (.cells #[.int .u8 c.toNat] 5)) = .ok (.string ⟨#[c]⟩) (W.alloc (.cells #[.int .u8 c.toNat] 5)) := fun W =>
    Lib.run_convert_whole (P := Tryz.prog) _ 38 5 9 (by kernel_rfl) (by kernel_rfl) (by kernel_rfl) W.heap.size 0 ⟨#[c]⟩ (fun i hi => by
      have : i = 0 := by have : (⟨#[c]⟩ : ByteArray).size = 1 := rfl; omega
      subst this
      simp only [World.cell?, Nat.zero_add, alloc_at]
      rfl) 1
  obtain ⟨S, hS⟩ : ∃ S : ByteArray, (⟨#[97, 32]⟩ ++ ⟨#[c]⟩ : ByteArray) = S := ⟨_, rfl⟩
  have hSl : S.data.toList = [97, 32, c] := by rw [← hS]; rfl
  have hsz : S.size = 3 := by rw [Lib.size_eq, hSl]; rfl
  have c2 := fun w' => lexAll_any S w' (by omega)
  have c3 := fun w' => refAll_any S w' (by omega)
  have HERR : Hid (∀ v a w, BothE S.data.toList v 1 a w → a = 2) := by
    show ∀ v a w, _
    intro v a w h
    unfold BothE at h
    cases hA : allS S.data.toList with
    | ok ws => rw [hA] at h; exact absurd h.1 (by decide)
    | error p =>
      rw [hA] at h
      rw [hSl] at hA
      rw [h.2.1, err_two c hA]
      rfl
  have HCODE : Hid (∀ v q a w, BothE S.data.toList v q a w → q = 0 ∨ q = 1) := by
    show ∀ v q a w, _
    intro v q a w h
    unfold BothE at h
    split at h
    · exact .inl h.1
    · exact .inr h.1
  have C0 := Lib.hid c0; have C2 := Lib.hid c2; have C3 := Lib.hid c3
  have HS := Lib.hid hS
  have HCV := Lib.hid hconv
  clear c0 c2 c3 hS hSl hsz hG hconv
  go_enter Tryz.func12, Tryz.ntmps12
  go_wp2_with fail
  refine C0.out.mono ?_
  rintro e w1 ⟨rfl, hb1⟩
  have HB1 := Lib.hid hb1
  clear hb1
  have hcv := HCV.out w1
  go_wp2_with fail
  rw [HS.out]
  refine (C2.out _).mono ?_
  rintro e w2 ⟨he, hb2⟩
  obtain ⟨v2, p2, q2, rfl, ⟨x2, n2, k2, rfl⟩, hE2⟩ := bothE_of he
  have HB2 := Lib.hid (HB1.out.trans (((Below.refl _ _).alloc (Nat.le_refl _) (.cells #[.int .u8 c.toNat] 5)).trans (hb2.mono (by simp)) |>.mono HB1.out.size))
  have HE2 := Lib.hid hE2
  have hcv2 := HCV.out (w2.alloc (.cells #[.int .i64 p2, .int .i64 q2] 27))
  rw [show (w2.alloc (.cells #[.int .i64 p2, .int .i64 q2] 27)).heap.size = w2.heap.size + 1 by simp] at hcv2
  clear he hb2 hE2 hcv
  go_wp2_with fail
  rw [HS.out]
  refine (C3.out _).mono ?_
  rintro e w3 ⟨he, hb3⟩
  obtain ⟨v3, p3, q3, rfl, ⟨x3, n3, k3, rfl⟩, hE3⟩ := bothE_of he
  have hb3' : Below w2.heap.size w2 w3 := (((Below.refl _ _).alloc (Nat.le_refl _) _).alloc (by simp) _).trans (hb3.mono (by simp; omega))
  obtain ⟨rfl, rfl, ws, hw2, hw3⟩ := words_both HE2.out hE3 hb3'
  have hbk : w3.heap[w2.heap.size]? = some (.cells #[.int .i64 p2, .int .i64 q2] 27) := (hb3.block w2.heap.size (by simp; omega)).trans ((Below.heap_alloc _ _ _ (by simp)).trans (alloc_at w2 _))
  have HBK := Lib.hid hbk
  have HB3 := Lib.hid (HB2.out.trans (hb3'.mono HB2.out.size))
  have hb4 : Below w3.heap.size w3 (w3.alloc (.cells #[.int .i64 p2, .int .i64 q2] 27)) := (Below.refl _ _).alloc (Nat.le_refl _) _
  have c4 := words_same _ _ ws (w3.alloc (.cells #[.int .i64 p2, .int .i64 q2] 27)) (hw2.below hb4) (hw3.below hb4)
  have C4 := Lib.hid c4
  have hbl : w2.heap.size < w3.heap.size := (Array.getElem?_eq_some_iff.1 hbk).1
  have HBL := Lib.hid hbl
  have HE3 := Lib.hid hE3
  clear he hb3 hb3' hE3 hw2 hw3 hbk c4 hb4 hbl hcv2
  go_wp2_with fail
  refine C4.out.mono ?_
  rintro e w5 ⟨rfl, hb5⟩
  have hx1 := (hb5.block w2.heap.size (by simp; have := HBL.out; omega)).trans ((Below.heap_alloc _ _ _ HBL.out).trans HBK.out)
  have hx2 := (hb5.block w3.heap.size (by simp)).trans (alloc_at w3 _)
  obtain ⟨z0, z1, _, _⟩ := cells2 hx1
  obtain ⟨z2, z3, _, _⟩ := cells2 hx2
  have HB5 := Lib.hid ((HB3.out.alloc HB3.out.size _).trans (hb5.mono (by have := HB3.out.size; simp; omega)))
  have EQ := eql_err p2 q2
  clear hb5 hx1 hx2
  rcases HCODE.out _ _ _ _ HE3.out with h | h
  · subst h
    go_wp2
    go_ret
    exact ⟨rfl, HB5.out⟩
  · subst h
    obtain rfl := HERR.out _ _ _ HE3.out
    go_wp2
    go_ret
    exact ⟨rfl, HB5.out⟩
end Go.Proofs.YtonpgohmoeeogaaGreatDoor.lawLexByte
