/- The law LexQuote: the walk. -/
import Derived.Test.YtfcnogdbgabjbaaGreatDoorMbeg
import Derived.Test.YtfcnogdbgabjbaaGreatDoorMref
import Derived.Test.YtfcnogdbgabjbaaGreatDoorMwalk
namespace Go.Proofs.YtfcnogdbgabjbaaGreatDoor.lawLexQuote
open Go.RowKit Go.Shelf

theorem cat_list (Q : ByteArray) : ((⟨#[32]⟩ ++ Q) ++ ⟨#[44]⟩ : ByteArray).data.toList = 32 :: (Q.data.toList ++ [44]) := by
  rw [ByteArray.data_append, Array.toList_append, ByteArray.data_append, Array.toList_append]; rfl

set_option maxHeartbeats 4000000 in
set_option maxRecDepth 100000 in
theorem law (s : ByteArray) (w : World) (hs : s.size ≤ maxLen) (hG : GP w.heap.size w) :
    Calls Tryz.prog 3 #[.string s] w fun e w' => e = .returned (.bool true) ∧ Below w.heap.size w w' := by
  have c0 := begun4_any w hG
  have c1 := fun w' => short_any s 60 w' hs (by omega) (by omega)
  obtain ⟨S, hS⟩ : ∃ S : ByteArray, s.extract 0 (min s.size (60 : Int).toNat) = S := ⟨_, rfl⟩
  have hsz : S.size ≤ 60 := by rw [← hS, ByteArray.size_extract]; omega
  simp only [hS] at c1
  have c2 := fun w' => quote_any S w' (by omega)
  have c3 := fun w' => quoteR_any S w' (by omega)
  obtain ⟨Q, hQ⟩ : ∃ Q : ByteArray, (⟨(quoteS S.data.toList).toArray⟩ : ByteArray) = Q := ⟨_, rfl⟩
  simp only [hQ] at c2 c3
  have hQl : Q.data.toList = quoteS S.data.toList := by rw [← hQ]
  have hQs : Q.size = (quoteS S.data.toList).length := by rw [Lib.size_eq, hQl]
  have hQm : Q.size ≤ 250 := by
    have h1 := quote_len S.data.toList
    rw [← Lib.size_eq] at h1
    omega
  have hws : allS ((⟨#[32]⟩ ++ Q) ++ ⟨#[44]⟩ : ByteArray).data.toList = .ok [(2, 1, S.data.toList), (3, 1 + Q.size, [44]), (4, 2 + Q.size, [])] := by
    rw [cat_list, hQl, hQs]; exact quote_all _
  have C4 : Hid (∀ w', Calls Tryz.prog 12 #[.string ((⟨#[32]⟩ ++ Q) ++ ⟨#[44]⟩)] w' fun e w'' => (∃ v, e = .returned (.tuple #[v, .agg #[.int .i64 0, .int .i64 0]]) ∧ IsWords w'' v [(2, 1, S.data.toList), (3, 1 + Q.size, [44]), (4, 2 + Q.size, [])]) ∧ Below w'.heap.size w' w'') := by
    show ∀ w', _
    intro w'
    have := lexAll_any ((⟨#[32]⟩ ++ Q) ++ ⟨#[44]⟩) w' (by
      rw [ByteArray.size_append, ByteArray.size_append, show (⟨#[32]⟩ : ByteArray).size = 1 from rfl, show (⟨#[44]⟩ : ByteArray).size = 1 from rfl]; omega)
    refine this.mono ?_
    rintro e w'' ⟨he, hb⟩
    unfold AllE at he
    rw [hws] at he
    exact ⟨he, hb⟩
  have QB : Hid (∀ k, (h : k < Q.size) → 32 ≤ Q[k].toNat ∧ Q[k].toNat ≤ 126) := by
    show ∀ k, _
    intro k h
    have hm : Q[k] ∈ Q.data.toList := by
      have : Q[k] = Q.data.toList[k]'(by rw [← Lib.size_eq]; exact h) := rfl
      rw [this]; exact List.getElem_mem _
    rw [hQl] at hm
    exact quote_plain _ _ hm
  have hqq : (Q.toList == Q.toList) = true := by simp
  have hqn : (Q.toList != Q.toList) = false := by simp
  have hss : (S.toList == S.toList) = true := by simp
  have C0 := Lib.hid c0; have C1 := Lib.hid c1; have C2 := Lib.hid c2; have C3 := Lib.hid c3
  clear c0 c1 c2 c3 hS hG hQ hQl hQs hws
  go_enter Tryz.func3, Tryz.ntmps3
  go_wp2_with fail
  refine C0.out.mono ?_
  rintro e w1 ⟨rfl, hb1⟩
  have HB1 := Lib.hid hb1
  clear hb1
  go_wp2_with fail
  refine (C1.out _).mono ?_
  rintro e w2 ⟨rfl, rfl⟩
  go_wp2_with fail
  refine (C2.out _).mono ?_
  rintro e w2 ⟨rfl, hb2⟩
  have HB2 := Lib.hid (HB1.out.trans (hb2.mono HB1.out.size))
  clear hb2
  go_wp2_with fail
  refine (C4.out _).mono ?_
  rintro e w3 ⟨⟨v, rfl, hw⟩, hb3⟩
  obtain ⟨b, o, c, he, hbs, hl0⟩ := words_at (k := 0) hw rfl
  obtain ⟨b1, o1, c1, he1, _, hl1⟩ := words_at (k := 1) hw rfl
  subst he
  cases he1
  have HB3 := Lib.hid (HB2.out.trans (hb3.mono HB2.out.size))
  have hA3 := (Below.refl w3.heap.size w3).alloc (Nat.le_refl _) (.cells #[.int .i64 0, .int .i64 0] 28)
  have HA3 := Lib.hid hA3
  have hz := alloc_at w3 (.cells #[.int .i64 0, .int .i64 0] 28)
  obtain ⟨W, hW⟩ : ∃ W, w3.alloc (.cells #[.int .i64 0, .int .i64 0] 28) = W := ⟨_, rfl⟩
  have hWs : W.heap.size = w3.heap.size + 1 := by rw [← hW]; simp
  have HZ : Hid (∀ W', Below W.heap.size W W' → W'.cell? ⟨w3.heap.size, 0, none⟩ = some (.int .i64 0)) := by
    show ∀ W', _
    intro W' hb
    rw [hW] at hz
    exact (hb.cell (p := ⟨w3.heap.size, 0, none⟩) (by rw [hWs]; exact Nat.lt_succ_self _)).trans (cells2 hz).1
  have HWB : Hid (Below w3.heap.size w3 W) := by show Below _ _ _; rw [← hW]; exact hA3
  have HL : Hid (∀ W', Below W.heap.size W W' → W'.cell? ⟨b, o, none⟩ = some (.int .i64 2) ∧ W'.cell? ⟨b, o + 1, none⟩ = some (.int .i64 1) ∧ W'.cell? ⟨b, o + 2, none⟩ = some (.string S) ∧ W'.cell? ⟨b, o + 3 + 1, none⟩ = some (.int .i64 (1 + (Q.size : Int)))) := by
    show ∀ W', _
    intro W' hb
    have h1 := hl0 W' (HWB.out.trans (hb.mono HWB.out.size))
    have h2 := hl1 W' (HWB.out.trans (hb.mono HWB.out.size))
    refine ⟨h1.1, h1.2.1, h1.2.2, ?_⟩
    have := h2.2.1
    simp only [Nat.one_mul, Int.natCast_add, Int.cast_ofNat_Int] at this
    exact this
  have HW := Lib.hid hW
  clear hw hl0 hl1 hb3 hA3 hz hW
  go_wp2_with fail
  rw [HW.out]
  refine (C3.out _).mono ?_
  rintro e w4 ⟨rfl, hb4⟩
  have z0 := HZ.out _ hb4
  obtain ⟨d0, d1, d2, d3⟩ := HL.out _ hb4
  have HB4 := Lib.hid ((HB3.out.trans (HWB.out.mono HB3.out.size)).trans (hb4.mono (Nat.le_trans HB3.out.size HWB.out.size)))
  clear hb4
  go_wp2
  go_loop [7] (fun i => ∃ k : Nat, k ≤ Q.size ∧ i = .int .i64 k) (fun i => Q.size - (intOf i).toNat)
  case atStart => exact ⟨0, Nat.zero_le _, rfl⟩
  case round =>
    obtain ⟨k, hk, rfl⟩ := hrel
    by_cases hlt : k < Q.size
    · obtain ⟨hlo0, hhi0⟩ := QB.out k hlt
      obtain ⟨c', hc⟩ : ∃ c', Q[k] = c' := ⟨_, rfl⟩
      rw [hc] at hlo0 hhi0
      have hlo : ¬ (c'.toNat : Int) < 32 := by omega
      have hhi : ¬ (126 : Int) < c'.toNat := by omega
      have hlt' : (k : Int) < (Q.size : Int) := by omega
      clear hlo0 hhi0
      go_wp2
      go_round
      case rel => exact ⟨k + 1, by omega, by go_num⟩
      case measure => simp [intOf]; omega
    · have hlt' : ¬ (k : Int) < (Q.size : Int) := by omega
      go_wp2
      go_ret
      exact ⟨rfl, HB4.out⟩
end Go.Proofs.YtfcnogdbgabjbaaGreatDoor.lawLexQuote
