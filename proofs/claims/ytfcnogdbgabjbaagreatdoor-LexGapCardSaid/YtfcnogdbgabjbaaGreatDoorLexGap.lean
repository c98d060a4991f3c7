/- The law LexGap: the walk. -/
import Derived.Deep.RegionHeld3
import Derived.Test.YtfcnogdbgabjbaaGreatDoorMbeg
import Derived.Test.YtfcnogdbgabjbaaGreatDoorMgap
import Derived.Test.YtfcnogdbgabjbaaGreatDoorMwalk
namespace Go.Proofs.YtfcnogdbgabjbaaGreatDoor.lawLexGap
open Go.RowKit Go.Shelf

set_option maxHeartbeats 8000000 in
set_option maxRecDepth 100000 in
theorem law (s : ByteArray) (n : Int) (w : World) (hs : s.size ≤ maxLen) (hG : GP w.heap.size w) :
    Calls Tryz.prog 4 #[.string s, .int .i64 n] w fun e w' => e = .returned (.bool true) ∧ Below w.heap.size w w' := by
  have c0 := begun4_any w hG
  have c1 := fun w' => short_any s 150 w' hs (by omega) (by omega)
  obtain ⟨S, hS⟩ : ∃ S : ByteArray, s.extract 0 (min s.size (150 : Int).toNat) = S := ⟨_, rfl⟩
  have hsz : S.size ≤ 150 := by rw [← hS, ByteArray.size_extract]; omega
  simp only [hS] at c1
  have c2 := fun w' => lexAll_any S w' (by omega)
  have C0 := Lib.hid c0; have C1 := Lib.hid c1; have C2 := Lib.hid c2
  have HSL : Hid (S.size = S.data.toList.length) := Lib.hid (Lib.size_eq S)
  clear c0 c1 c2 hS hG
  go_enter Tryz.func4, Tryz.ntmps4
  go_wp2_with fail
  refine C0.out.mono ?_
  rintro e w1 ⟨rfl, hb1⟩
  have HB1 := Lib.hid hb1
  clear hb1
  go_wp2_with fail
  refine (C1.out _).mono ?_
  rintro e w2 ⟨rfl, rfl⟩
  go_wp2_with fail
  refine (C2.out _).mono ?_
  rintro e w2 ⟨he, hb2⟩
  have HB2 := Lib.hid (HB1.out.trans (hb2.mono HB1.out.size))
  clear hb2
  unfold AllE at he
  cases hA : allS S.data.toList with
  | error p =>
    rw [hA] at he
    subst he
    obtain ⟨z0, z1, _, _⟩ := cells2 (alloc_at w2 (.cells #[.int .i64 1, .int .i64 (p : Int)] 28))
    have HB3 := Lib.hid (HB2.out.alloc HB2.out.size (.cells #[.int .i64 1, .int .i64 (p : Int)] 28))
    clear hA
    go_wp2
    go_ret
    exact ⟨rfl, HB3.out⟩
  | ok ws =>
    rw [hA] at he
    obtain ⟨v, rfl, hw⟩ := he
    obtain ⟨hl0, hple⟩ := place_le hA
    obtain ⟨a, c, rfl, hlc, hcm⟩ := words_shape hw
    have hlm : ws.length ≤ maxLen := by omega
    unfold maxLen at hlm
    have hb3 : Below w2.heap.size w2 (w2.alloc (.cells #[.int .i64 0, .int .i64 0] 28)) := (Below.refl _ _).alloc (Nat.le_refl _) _
    have HB3 := Lib.hid (HB2.out.alloc HB2.out.size (.cells #[.int .i64 0, .int .i64 0] 28))
    obtain ⟨z0, z1, _, _⟩ := cells2 (alloc_at w2 (.cells #[.int .i64 0, .int .i64 0] 28))
    by_cases hn0 : n < 0
    · go_wp2
      go_ret
      exact ⟨rfl, HB3.out⟩
    · obtain ⟨m, rfl⟩ : ∃ m : Nat, n = (m : Int) := ⟨n.toNat, by omega⟩
      obtain ⟨r, hr⟩ : ∃ r, m % ws.length = r := ⟨_, rfl⟩
      have hrl : r < ws.length := by rw [← hr]; exact Nat.mod_lt _ hl0
      have hrem : (m : Int).tmod (ws.length : Int) = (r : Int) := by rw [← hr]; rfl
      obtain ⟨x, hx⟩ : ∃ x, ws[r]? = some x := ⟨ws[r], List.getElem?_eq_getElem hrl⟩
      have hp := hple x (List.mem_of_getElem? hx)
      rw [← HSL.out] at hp
      obtain ⟨b, o, c', he, hbs, hl⟩ := words_at hw hx
      cases he
      obtain ⟨d0, d1, d2⟩ := hl _ hb3
      obtain ⟨xk, p, xt⟩ := x
      simp only at hp d0 d1 d2
      have hm := moved (G := ⟨#[32, 9, 35, 32, 97, 32, 114, 101, 109, 97, 114, 107, 32, 34, 10]⟩) hA rfl ⟨_, List.mem_of_getElem? hx, rfl⟩
      simp only at hm
      obtain ⟨S2, hS2⟩ : ∃ S2 : ByteArray, (S.extract 0 p ++ ⟨#[32, 9, 35, 32, 97, 32, 114, 101, 109, 97, 114, 107, 32, 34, 10]⟩) ++ S.extract p S.size = S2 := ⟨_, rfl⟩
      have hs2 : S2.size ≤ 1000 := by rw [← hS2]; simp only [ByteArray.size_append, ByteArray.size_extract]; rw [show (⟨#[32, 9, 35, 32, 97, 32, 114, 101, 109, 97, 114, 107, 32, 34, 10]⟩ : ByteArray).size = 15 from rfl]; omega
      rw [hS2] at hm
      have C3 : Hid (∀ w', Calls Tryz.prog 12 #[.string S2] w' fun e w'' => (∃ v, e = .returned (.tuple #[v, .agg #[.int .i64 0, .int .i64 0]]) ∧ IsWords w'' v (ws.map (moveW p 15))) ∧ Below w'.heap.size w' w'') := by
        show ∀ w', _
        intro w'
        refine (lexAll_any S2 w' (by omega)).mono ?_
        rintro e w'' ⟨he, hb⟩
        unfold AllE at he
        rw [hm] at he
        exact ⟨he, hb⟩
      obtain ⟨W, hW⟩ : ∃ W, w2.alloc (.cells #[.int .i64 0, .int .i64 0] 28) = W := ⟨_, rfl⟩
      have HW := Lib.hid hw
      have HS2 := Lib.hid hS2
      have HWW := Lib.hid hW
      have hr1 : (r : Int) < (ws.length : Int) := by omega
      have hr0 : (0 : Int) ≤ (r : Int) := by omega
      have hne : ((ws.length : Int) == 0) = false := by rw [beq_eq_false_iff_ne]; omega
      have hp' : (p : Int) ≤ (S.size : Int) := by omega
      have hp0 : (0 : Int) ≤ (p : Int) := by omega
      have HSZ := Lib.hid hs2
      have hov1 : ¬ 9223372036854775807 < p + 15 := by omega
      have hov2 : ¬ 9223372036854775807 < p + 15 + (S.size - p) := by omega
      rw [hW] at hb3
      have HB := Lib.hid hb3
      have HPLE : Hid (∀ x ∈ ws, x.2.1 ≤ S.size) := by show ∀ x ∈ ws, _; rw [HSL.out]; exact hple
      have HAD : Hid (∀ o, Below w2.heap.size w2 (W.alloc o).drew) := by show ∀ o, _; exact fun o => (hb3.alloc hb3.size o).drew
      have HAD2 : Hid (∀ w' o, Below w2.heap.size w2 w' → Below w2.heap.size w2 (w'.alloc o)) := by show ∀ w' o, _; exact fun w' o h => h.alloc h.size o
      have HSC : Hid (∀ w' a u v, w2.heap.size ≤ a → Below w2.heap.size w2 w' → Below w2.heap.size w2 ((w'.setCell ⟨a, 0, none⟩ u).setCell ⟨a, 1, none⟩ v)) := by show ∀ w' a u v, _; exact fun w' a u v ha h => (h.setCell ha _).setCell ha _
      have HS0 : Hid (Below w2.heap.size w2 W.drew) := by show Below _ _ _; exact hb3.drew
      clear hw hm hS2 hA hr hple hx hl hs2 hW hb3
      go_wp2_with fail
      rw [HWW.out]
      go_region_held3 (fun w' => Below w2.heap.size w2 w') (first | assumption | exact HS0.out | exact HAD.out _ | exact HAD2.out _ _ (by assumption) | exact HSC.out _ _ _ _ HB.out.size (by assumption))
        (first
          | (go_at_call 12; rw [HS2.out]; refine (C3.out _).mono ?_; rintro e wA ⟨⟨v2, rfl, hw2⟩, hbA⟩; obtain ⟨a2, c2, q2, hl2, hm2⟩ := words_shape hw2; subst q2; (try (have hz := (hbA.block W.heap.size (by simp)).trans (alloc_at W _); obtain ⟨y0, y1, y2, y3⟩ := cells2 hz)); have hSn := (show Below w2.heap.size w2 _ by assumption).trans (hbA.mono (show Below w2.heap.size w2 _ by assumption).size))
          | fail)
      all_goals
        first
          | (obtain ⟨WF, hWF⟩ : ∃ WF, wA.alloc (.cells #[.int .i64 0, .int .i64 0] 28) = WF := ⟨_, rfl⟩
             rw [hWF]
             have hsame : Below wA.heap.size wA WF := by rw [← hWF]; exact (Below.refl _ _).alloc (Nat.le_refl _) _
             have hzq : WF.cell? ⟨wA.heap.size, 0, none⟩ = some (.int .i64 0) := by rw [← hWF]; exact (cells2 (alloc_at wA _)).1
             have hsz1 := hsame.size)
          | (obtain ⟨WF, hWF⟩ : ∃ WF, (wA.setCell ⟨W.heap.size, 0, none⟩ (.int .i64 0)).setCell ⟨W.heap.size, 1, none⟩ (.int .i64 0) = WF := ⟨_, rfl⟩
             rw [hWF]
             have hsame : Below wA.heap.size wA WF := by
               rw [← hWF]
               refine ⟨rfl, rfl, rfl, by simp [World.setCell], fun k hk => ?_⟩
               by_cases e : k = W.heap.size
               · subst e; exact (heap_set 1 _ (heap_set 0 _ hz)).trans hz.symm
               · rw [Below.heap_setCell _ _ _ _ (fun h => e h), Below.heap_setCell _ _ _ _ (fun h => e h)]
             have hzq : WF.cell? ⟨W.heap.size, 0, none⟩ = some (.int .i64 0) := (hsame.cell (p := ⟨W.heap.size, 0, none⟩) (Array.getElem?_eq_some_iff.1 hz).1).trans y0
             have hsz1 := hsame.size
             clear y0 y1 y2 y3 hz)
        have HM := Lib.hid (hw2.below hsame)
        have HBF := Lib.hid (hSn.trans (hsame.mono hSn.size))
        have HBW := Lib.hid (HB2.out.trans (HBF.out.mono HB2.out.size))
        clear hw2 hSn hbA hsame hWF z0 z1 d0 d1 d2 hrem hne
        go_wp2
        clear hzq
        go_loopw [64] (fun i wr => ∃ k : Nat, k ≤ ws.length ∧ i = .int .i64 k ∧ Below WF.heap.size WF wr)
          (fun i _ => ws.length - (intOf i).toNat)
        case atStart => exact ⟨0, Nat.zero_le _, rfl, Below.refl _ _⟩
        case round =>
          obtain ⟨k, hk, rfl, hnx⟩ := hrel
          by_cases hlt : k < ws.length
          · obtain ⟨x, hx⟩ : ∃ x, ws[k]? = some x := ⟨ws[k], List.getElem?_eq_getElem hlt⟩
            have hx2 : (ws.map (moveW p 15))[k]? = some (moveW p 15 x) := by rw [List.getElem?_map, hx]; rfl
            obtain ⟨b1, o1, c1, q1, hb1, hk1⟩ := words_at HW.out hx
            cases q1
            obtain ⟨b2, o2, c3, q2, hb2, hk2⟩ := words_at HM.out hx2
            cases q2
            obtain ⟨d0, d1, d2⟩ := hk1 wr (HBF.out.trans (hnx.mono HBF.out.size))
            obtain ⟨e0, e1, e2⟩ := hk2 wr hnx
            have hpx := HPLE.out x (List.mem_of_getElem? hx)
            obtain ⟨xk, xa, xt⟩ := x
            simp only at d0 d1 d2 hpx
            obtain ⟨T, hT⟩ : ∃ T : ByteArray, (⟨xt.toArray⟩ : ByteArray) = T := ⟨_, rfl⟩
            have hi1 : (k : Int) < (ws.length : Int) := by omega
            have hi0 : (0 : Int) ≤ (k : Int) := by omega
            have hkk : (xk != xk) = false := by simp
            have hTT : (T.toList != T.toList) = false := by simp
            have hN : Hid (∀ n, Below WF.heap.size WF (wr.drewN n)) := by show ∀ n, _; exact fun n => below_drewN hnx n
            by_cases hpa : p ≤ xa
            · simp only [moveW, hpa, if_true, shiftW, Int.natCast_add, Int.cast_ofNat_Int] at e0 e1 e2
              rw [hT] at d2 e2
              have hee : ((xa : Int) + 15 != (xa : Int) + 15) = false := by simp
              clear hk1 hk2 hx hx2 hT hnx
              go_wp2_with fail
              go_big_quiet (fail)
              go_wp2
              go_roundw
              case rel => exact ⟨k + 1, by omega, by go_num, hN.out _⟩
              case measure => simp [intOf]; omega
            · simp only [moveW, hpa, if_false] at e0 e1 e2
              rw [hT] at d2 e2
              have hee : ((xa : Int) != (xa : Int)) = false := by simp
              clear hk1 hk2 hx hx2 hT hnx
              go_wp2_with fail
              go_big_quiet (fail)
              go_wp2
              go_roundw
              case rel => exact ⟨k + 1, by omega, by go_num, hN.out _⟩
              case measure => simp [intOf]; omega
          · have hi1 : ¬ (k : Int) < (ws.length : Int) := by omega
            have HE := Lib.hid (HBW.out.trans (hnx.mono HBW.out.size))
            clear hnx
            go_wp2
            go_ret
            exact ⟨rfl, HE.out⟩
end Go.Proofs.YtfcnogdbgabjbaaGreatDoor.lawLexGap
