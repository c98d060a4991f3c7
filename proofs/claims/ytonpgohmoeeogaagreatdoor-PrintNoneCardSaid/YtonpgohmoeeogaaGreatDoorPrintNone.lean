/- The law PrintNone: the walk. -/
import Derived.Lib.SlBytesRow
import Derived.Test.YtonpgohmoeeogaaGreatDoorMbeg
namespace Go.Proofs.YtonpgohmoeeogaaGreatDoor.lawPrintNone
open Go.RowKit Go.Shelf
theorem k_all0 : allS [] = .ok [(4, 0, [])] := by rw [allS_G]; kernel_rfl
theorem k_file0 : fileS [32, 35, 32, 110, 111, 116, 104, 105, 110, 103] = .ok [] := by rw [fileS_G]; kernel_rfl
theorem k_quote0 : quoteS [] = [34, 34] := by kernel_rfl
theorem k_op0 : opNum [] = 0 := by kernel_rfl
theorem k_opTx0 : opTx 0 = [] := by kernel_rfl

/-- So many zero bytes. -/
def zeroB (n : Nat) : ByteArray := ⟨(List.replicate n (0 : UInt8)).toArray⟩
theorem zeroB_size (n : Nat) : (zeroB n).size = n := by simp [zeroB, ByteArray.size]
theorem zeroB_at (n i : Nat) (h : i < (zeroB n).size) : (zeroB n)[i] = 0 := by
  show (zeroB n).data[i] = 0
  simp [zeroB]
theorem bytes_own {w : World} {B g n c : Nat} (h : w.ownsRow B 5 1 (.slice (some ⟨g, 0, none⟩) n c) n (madeCells #[.int .u8 0] n).toList) : Lib.Bytes w g 0 (zeroB n) := by
  intro i hi
  rw [zeroB_at n i hi]
  rw [zeroB_size] at hi
  rw [toList_madeCells_one] at h
  rcases h with ⟨_, ⟨hv, _⟩ | ⟨g', cap, cur, hv, hB, hb, hn, hm, hs, ht⟩⟩
  · cases hv
  · cases hv
    have : (cur.toList.take (n * 1))[i]? = some (.int .u8 0) := by rw [ht, List.getElem?_replicate, if_pos hi]
    rw [List.getElem?_take] at this
    split at this
    · simp only [World.cell?, hb, Nat.zero_add]
      simpa using this
    · cases this

theorem zeroB_big : fileS (zeroB 20001).data.toList = .error (4, -1) := by
  unfold fileS
  rw [if_pos]
  have : (zeroB 20001).data.toList.length = 20001 := by rw [← Lib.size_eq]; exact zeroB_size _
  omega
theorem hidden_size : Hid ((zeroB 20001).size = 20001) := zeroB_size _
set_option maxHeartbeats 4000000 in
set_option maxRecDepth 100000 in
theorem law (w : World) (hG : GP w.heap.size w) :
    Calls Tryz.prog 9 #[] w fun e w' => e = .returned (.bool true) ∧ Below w.heap.size w w' := by
  have HG := Lib.hid hG
  clear hG
  go_enter Tryz.func9, Tryz.ntmps9
  go_wp2_with fail
  have c1 := lexAll_any ⟨#[]⟩ w (by decide)
  refine c1.mono ?_
  rintro e w1 ⟨he, hb1⟩
  unfold AllE at he
  rw [show (⟨#[]⟩ : ByteArray).data.toList = [] from rfl, k_all0] at he
  obtain ⟨v1, rfl, hw1⟩ := he
  obtain ⟨vl, cl, hv, _, _, hl1⟩ := id hw1
  obtain ⟨bl, ol, rfl, hbl, hcl⟩ := hl1 (by simp [wordRows])
  subst hv
  have HW1 := Lib.hid hcl
  have HB1 := Lib.hid hb1
  clear hw1 hl1 hb1 hcl c1
  go_wp2_with fail
  have c2 := file_any ⟨#[32, 35, 32, 110, 111, 116, 104, 105, 110, 103]⟩ (w1.alloc (.cells #[.int .i64 0, .int .i64 0] 27)) (by decide) ((HG.out.below (HB1.out.alloc HB1.out.size _)).up (HB1.out.alloc HB1.out.size _).size)
  refine c2.mono ?_
  rintro e w2 ⟨he2, hb2⟩
  unfold FileE at he2
  rw [show (⟨#[32, 35, 32, 110, 111, 116, 104, 105, 110, 103]⟩ : ByteArray).data.toList = [32, 35, 32, 110, 111, 116, 104, 105, 110, 103] from rfl, k_file0] at he2
  obtain ⟨v2, rfl, hR⟩ := he2
  obtain ⟨ra, rc, hv, _, _⟩ := rulesA_len hR
  subst hv
  have HBK1 : Hid (w2.heap[w1.heap.size]? = some (.cells #[.int .i64 0, .int .i64 0] 27)) := (hb2.block w1.heap.size (by simp)).trans (alloc_at w1 _)
  have HM2 : Hid (Below w1.heap.size w1 w2) := ((Below.refl _ _).alloc (Nat.le_refl _) _).trans (hb2.mono (by simp))
  have HN2 := Lib.hid (HB1.out.trans (HM2.out.mono HB1.out.size))
  clear hR hb2 c2
  obtain ⟨i0, hi, hz0, hz1, hz2⟩ := info_of info_byte
  have hn2 : Below w.heap.size w (w2.alloc (.cells #[.int .i64 0, .int .i64 0] 27)) := HN2.out.alloc HN2.out.size _
  have HN2a := Lib.hid hn2
  clear hn2
  go_wp2_with (at_make; refine wpList_make_full _ rfl _ _ 38 rfl w.heap.size 5 i0 (.int .u8 0) 1 Tryz.underlying38 hi hz0 hz1 _ _ _ _ 20001 rfl rfl (by simp) (by simp) ?m2 ?m3 ?m4 ?_)
  case m2 => rw [hz2]; omega
  case m3 => unfold maxLen; omega
  case m4 => exact HN2a.out.size
  intro w3 hown3 hgrow3
  have hby := bytes_own (n := 20001) hown3
  have hconv : (Go.convert 38 9 (.slice (some ⟨w2.heap.size + 1, 0, none⟩) 20001 20001)).run Tryz.prog w3 = .ok (.string (zeroB 20001)) w3 := by
    have h := Lib.run_convert_whole (P := Tryz.prog) w3 38 5 9 (by kernel_rfl) (by kernel_rfl) (by kernel_rfl) _ 0 (zeroB 20001) hby 20001
    rw [hidden_size.out] at h
    simpa using h
  have hm3 : Below (w2.heap.size + 1) (w2.alloc (.cells #[.int .i64 0, .int .i64 0] 27)) w3 := (Below.refl _ _).grown hgrow3 (by simp) (by simp)
  have hn3 : Below w.heap.size w w3 := HN2a.out.trans (hm3.mono (by have := HN2.out.size; omega))
  have c3 := file_any (zeroB 20001) w3 (by rw [hidden_size.out]; unfold maxLen; omega) ((HG.out.below hn3).up hn3.size)
  unfold FileE at c3
  rw [zeroB_big] at c3
  simp only at c3
  obtain ⟨ZB, hZB⟩ : ∃ Z, zeroB 20001 = Z := ⟨_, rfl⟩
  rw [hZB] at hconv c3
  have HM3 := Lib.hid hm3
  have HN3 := Lib.hid hn3
  have C3 := Lib.hid c3
  clear hby hown3 hgrow3 hm3 hn3 c3 hi hz0 hz1 hz2 hZB
  go_wp2_with fail
  refine C3.out.mono ?_
  rintro e w4 ⟨rfl, hb4⟩
  have HBK2 : Hid (w4.heap[w2.heap.size]? = some (.cells #[.int .i64 0, .int .i64 0] 27)) := (hb4.block w2.heap.size (by have := HM3.out.size; simp at this; omega)).trans ((HM3.out.block w2.heap.size (by omega)).trans (alloc_at w2 _))
  have HM4 : Hid (Below w2.heap.size w2 w4) := ((Below.refl _ _).alloc (Nat.le_refl _) _).trans ((HM3.out.mono (by omega)).trans (hb4.mono (by have := HM3.out.size; simp at this; omega)))
  have HN4 := Lib.hid (HN3.out.trans (hb4.mono HN3.out.size))
  have hb0 : Below w4.heap.size w4 (w4.alloc (.cells #[.int .i64 4, .int .i64 (-1)] 27)) := (Below.refl _ _).alloc (Nat.le_refl _) _
  have hF : ∀ W, Below (w4.alloc (.cells #[.int .i64 4, .int .i64 (-1)] 27)).heap.size (w4.alloc (.cells #[.int .i64 4, .int .i64 (-1)] 27)) W →
      W.cell? ⟨bl, ol, none⟩ = some (.int .i64 4) ∧ W.cell? ⟨w1.heap.size, 0, none⟩ = some (.int .i64 0) ∧ W.cell? ⟨w2.heap.size, 0, none⟩ = some (.int .i64 0) ∧ W.cell? ⟨w4.heap.size, 0, none⟩ = some (.int .i64 4) ∧ W.cell? ⟨w4.heap.size, 1, none⟩ = some (.int .i64 (-1)) := by
    intro W hW
    have u4 : Below w4.heap.size w4 W := hb0.trans (hW.mono (by simp))
    have u2 : Below w2.heap.size w2 W := HM4.out.trans (u4.mono HM4.out.size)
    have u1 : Below w1.heap.size w1 W := HM2.out.trans (u2.mono HM2.out.size)
    have x4 : W.heap[w4.heap.size]? = some (.cells #[.int .i64 4, .int .i64 (-1)] 27) := (hW.block _ (by simp)).trans (alloc_at w4 _)
    have x2 := (u4.block _ (Array.getElem?_eq_some_iff.1 HBK2.out).1).trans HBK2.out
    have x1 := (u2.block _ (Array.getElem?_eq_some_iff.1 HBK1.out).1).trans HBK1.out
    have y := (u1.cell (p := ⟨bl, ol + 0 * 3 + 0, none⟩) hbl).trans (HW1.out 0 _ rfl 0 _ rfl)
    simp only [Nat.zero_mul, Nat.add_zero] at y
    exact ⟨y, (cells2 x1).1, (cells2 x2).1, (cells2 x4).1, (cells2 x4).2.1⟩
  have HC0 : Hid (Below w.heap.size w (w4.alloc (.cells #[.int .i64 4, .int .i64 (-1)] 27))) := HN4.out.alloc HN4.out.size _
  have HFF := Lib.hid hF
  have HR0 : Hid (Below (w4.alloc (.cells #[.int .i64 4, .int .i64 (-1)] 27)).heap.size (w4.alloc (.cells #[.int .i64 4, .int .i64 (-1)] 27)) (w4.alloc (.cells #[.int .i64 4, .int .i64 (-1)] 27))) := Below.refl _ _
  obtain ⟨f1, f2, f3, f4, f5⟩ := hF _ HR0.out
  clear hb4 hb0 hF hconv
  go_wp2_with fail
  have c5 := begun4_any (w4.alloc (.cells #[.int .i64 4, .int .i64 (-1)] 27)) ((HG.out.below HC0.out).up HC0.out.size)
  refine c5.mono ?_
  clear c5
  rintro e w5 ⟨rfl, hb5⟩
  have HC5 := Lib.hid (HC0.out.trans (hb5.mono HC0.out.size))
  have HR5 := Lib.hid (HR0.out.trans hb5)
  clear hb5 f1 f2 f3 f4 f5
  obtain ⟨f1, f2, f3, f4, f5⟩ := HFF.out _ HR5.out
  go_wp2_with fail
  have c6 := pfile_of (.slice none 0 0) [] [] (fun _ => False) w.heap.size w5 (HG.out.below HC5.out) HC5.out.size ⟨[], rowA_nil _ _ _, AllA.nil _⟩ (by decide) (by decide) (fun x hx => by simp at hx) (fun y hy => by simp at hy) (by decide) (sorts_tiny _ _ (by decide))
  refine c6.mono ?_
  clear c6
  rintro e w6 ⟨rfl, hb6⟩
  rw [show (rulesTx []).toArray = #[] from rfl]
  have HC6 := Lib.hid (HC5.out.trans (hb6.mono HC5.out.size))
  clear hb6
  go_wp2_with fail
  have c7 := quote_any ⟨#[]⟩ w6 (by decide)
  rw [show (⟨#[]⟩ : ByteArray).data.toList = [] from rfl, k_quote0] at c7
  refine Calls.mono c7 ?_
  clear c7
  rintro e w7 ⟨rfl, hb7⟩
  have HC7 := Lib.hid (HC6.out.trans (hb7.mono HC6.out.size))
  clear hb7
  go_wp2_with fail
  have c8 := op_any ⟨#[]⟩ w.heap.size w7 (HG.out.below HC7.out)
  rw [show (⟨#[]⟩ : ByteArray).data.toList = [] from rfl, k_op0] at c8
  refine Calls.mono c8 ?_
  clear c8
  rintro e w8 ⟨rfl, rfl⟩
  go_wp2_with fail
  have c9 := opName_any 0 w.heap.size w7 (HG.out.below HC7.out)
  rw [k_opTx0] at c9
  refine Calls.mono c9 ?_
  clear c9
  rintro e w8 ⟨rfl, rfl⟩
  go_wp2_with fail
  have c10 := eq_same (.slice none 0 0) (.slice none 0 0) [] (fun _ => False) w7 ⟨[], rowA_nil _ _ _, AllA.nil _⟩ ⟨[], rowA_nil _ _ _, AllA.nil _⟩
  refine Calls.mono c10 ?_
  clear c10
  rintro e w8 ⟨rfl, hb8⟩
  have HC8 := Lib.hid (HC7.out.trans (hb8.mono HC7.out.size))
  clear hb8
  go_wp2
  go_ret
  exact ⟨rfl, HC8.out⟩
end Go.Proofs.YtonpgohmoeeogaaGreatDoor.lawPrintNone
