/- Contract of the reference's words: Quote. -/
import Derived.Test.YtlmnabhhgplhnaaGreatDoorMpri
namespace Go.Proofs.YtlmnabhhgplhnaaGreatDoor
open Go.RowKit Go.Shelf

theorem quote_esc {c : UInt8} (h : c = 34 ∨ c = 92) : quoteB c = [92, c] := by rcases h with rfl | rfl <;> rfl

set_option maxHeartbeats 2000000 in
set_option maxRecDepth 100000 in
theorem quoteR_any (s : ByteArray) (w : World) (hs : s.size ≤ 1048576) :
    Calls Tryz.prog 68 #[.string s] w fun e w' => e = .returned (.string ⟨(quoteS s.data.toList).toArray⟩) ∧ Below w.heap.size w w' := by
  go_enter Tryz.func68, Tryz.ntmps68
  go_wp2
  go_loopw [4, 5] (fun t i wr => ∃ k : Nat, k ≤ s.size ∧ i = .int .i64 k ∧ t = .string ⟨(bodyS (s.data.toList.take k)).toArray⟩ ∧ Below w.heap.size w wr)
    (fun _ i _ => s.size - (intOf i).toNat)
  case atStart => exact ⟨0, Nat.zero_le _, rfl, rfl, Below.refl _ _⟩
  case round =>
    obtain ⟨k, hk, rfl, rfl, hnx⟩ := hrel
    obtain ⟨T, hT⟩ : ∃ T : ByteArray, (⟨(bodyS (s.data.toList.take k)).toArray⟩ : ByteArray) = T := ⟨_, rfl⟩
    rw [hT]
    have hTs : T.size ≤ 4 * s.size + 1 := by rw [← hT]; simp only [ByteArray.size, List.size_toArray]; exact bodyS_len s k
    have hTl : T.data.toList = bodyS (s.data.toList.take k) := by rw [← hT]
    have HT := Lib.hid hTl
    have HN := Lib.hid hnx
    have HDR : Hid (∀ n, Below w.heap.size w (wr.drewN n)) := by show ∀ n, _; exact fun n => below_drewN hnx n
    clear hT hnx hTl
    by_cases hlt : k < s.size
    · have hnext := bodyS_next s k hlt
      obtain ⟨c, hc⟩ : ∃ c, s[k] = c := ⟨_, rfl⟩
      rw [hc] at hnext
      have hext := ext_one s k hlt
      rw [hc] at hext
      have hes : (s.extract k (k + 1)).size = 1 := by rw [ByteArray.size_extract]; omega
      have NEXT : Hid (∀ U : ByteArray, U.data.toList = quoteB c → T ++ U = (⟨(bodyS (s.data.toList.take (k + 1))).toArray⟩ : ByteArray)) := by
        show ∀ U : ByteArray, _
        intro U hU
        apply ByteArray.ext
        apply Array.ext'
        rw [ByteArray.data_append, Array.toList_append, HT.out, hU, hnext]
      have HEXT := Lib.hid hext
      have HES := Lib.hid hes
      have hlt' : (k : Int) < (s.size : Int) := by omega
      clear hnext hext hes
      by_cases h34 : (c.toNat : Int) = 34
      · have hc1 : c = 34 := u8_is (n := 34) (by omega) h34
        have HU : Hid ((⟨#[92]⟩ ++ s.extract k (k + 1) : ByteArray).data.toList = quoteB c) := by show _ = _; rw [ByteArray.data_append, Array.toList_append, HEXT.out, quote_esc (.inl hc1)]; rfl
        have b34 : ((c.toNat : Int) == 34) = true := by simp [h34]
        clear hc1
        go_wp2
        go_roundw
        case rel => exact ⟨k + 1, by omega, by go_num, congrArg Value.string (NEXT.out _ HU.out), HN.out⟩
        case measure => simp [intOf]; omega
      · have b34 : ((c.toNat : Int) == 34) = false := by simp [h34]
        by_cases h92 : (c.toNat : Int) = 92
        · have hc1 : c = 92 := u8_is (n := 92) (by omega) h92
          have HU : Hid ((⟨#[92]⟩ ++ s.extract k (k + 1) : ByteArray).data.toList = quoteB c) := by show _ = _; rw [ByteArray.data_append, Array.toList_append, HEXT.out, quote_esc (.inr hc1)]; rfl
          have b92 : ((c.toNat : Int) == 92) = true := by simp [h92]
          clear hc1
          go_wp2
          go_roundw
          case rel => exact ⟨k + 1, by omega, by go_num, congrArg Value.string (NEXT.out _ HU.out), HN.out⟩
          case measure => simp [intOf]; omega
        · have b92 : ((c.toNat : Int) == 92) = false := by simp [h92]
          by_cases h10 : (c.toNat : Int) = 10
          · have hc1 : c = 10 := u8_is (n := 10) (by omega) h10
            have HU : Hid ((⟨#[92, 110]⟩ : ByteArray).data.toList = quoteB c) := by show _ = _; rw [hc1]; rfl
            have b10 : ((c.toNat : Int) == 10) = true := by simp [h10]
            clear hc1
            go_wp2
            go_roundw
            case rel => exact ⟨k + 1, by omega, by go_num, congrArg Value.string (NEXT.out _ HU.out), HN.out⟩
            case measure => simp [intOf]; omega
          · have b10 : ((c.toNat : Int) == 10) = false := by simp [h10]
            by_cases h9 : (c.toNat : Int) = 9
            · have hc1 : c = 9 := u8_is (n := 9) (by omega) h9
              have HU : Hid ((⟨#[92, 116]⟩ : ByteArray).data.toList = quoteB c) := by show _ = _; rw [hc1]; rfl
              have b9 : ((c.toNat : Int) == 9) = true := by simp [h9]
              clear hc1
              go_wp2
              go_roundw
              case rel => exact ⟨k + 1, by omega, by go_num, congrArg Value.string (NEXT.out _ HU.out), HN.out⟩
              case measure => simp [intOf]; omega
            · have b9 : ((c.toNat : Int) == 9) = false := by simp [h9]
              obtain ⟨q, hq⟩ : ∃ q, plainB c = q := ⟨_, rfl⟩
              cases q
              · have hp2 : (c.toNat : Int) < 32 ∨ (126 : Int) < c.toNat := by
                  unfold plainB at hq
                  simp only [decide_eq_false_iff_not] at hq
                  omega
                have hlt2 : c.toNat < 256 := c.toNat_lt
                obtain ⟨a, ha⟩ : ∃ a : Nat, c.toNat / 16 = a := ⟨_, rfl⟩
                obtain ⟨b, hb⟩ : ∃ b : Nat, c.toNat % 16 = b := ⟨_, rfl⟩
                have ha16 : a < 16 := by omega
                have hb16 : b < 16 := by omega
                have w1 : IntKind.u8.wrap ((c.toNat : Int) / 16) = (a : Int) := by rw [IntWalk.u8_in _ (by omega)]; omega
                have w2 : IntKind.u8.wrap ((c.toNat : Int) % 16) = (b : Int) := by rw [IntWalk.u8_in _ (by omega)]; omega
                have w2t : IntKind.u8.wrap ((c.toNat : Int).tmod 16) = (b : Int) := by rw [Int.tmod_eq_emod_of_nonneg (by omega)]; exact w2
                have w3 : IntKind.u8.wrap ((a : Int) + 1) = (a : Int) + 1 := IntWalk.u8_in _ (by omega)
                have w4 : IntKind.u8.wrap ((b : Int) + 1) = (b : Int) + 1 := IntWalk.u8_in _ (by omega)
                have p1 : (0 : Int) ≤ (a : Int) := by omega
                have p2 : (0 : Int) ≤ (b : Int) := by omega
                have p3 : (a : Int) ≤ (a : Int) + 1 := by omega
                have p4 : (b : Int) ≤ (b : Int) + 1 := by omega
                have p5 : (a : Int) + 1 ≤ 16 := by omega
                have p6 : (b : Int) + 1 ≤ 16 := by omega
                have t1 : ((a : Int) + 1).toNat = a + 1 := by omega
                have t2 : ((b : Int) + 1).toNat = b + 1 := by omega
                have p7 : (0 : Int) ≤ (a : Int) + 1 := by omega
                have p8 : (0 : Int) ≤ (b : Int) + 1 := by omega
                have HX : Hid ((⟨#[92, 120]⟩ ++ (⟨#[48, 49, 50, 51, 52, 53, 54, 55, 56, 57, 97, 98, 99, 100, 101, 102]⟩ : ByteArray).extract a (a + 1) ++ (⟨#[48, 49, 50, 51, 52, 53, 54, 55, 56, 57, 97, 98, 99, 100, 101, 102]⟩ : ByteArray).extract b (b + 1) : ByteArray).data.toList = quoteB c) := by
                  show _ = _
                  rw [← ha, ← hb, quote_hex1 c hq (by omega) (by omega) (by omega) (by omega)]
                have HB := Lib.hid hb
                clear ha hb hq
                by_cases hlo : (c.toNat : Int) < 32
                · go_wp2_with fail
                  go_quiet (fail)
                  all_goals go_wp2
                  all_goals go_roundw
                  case rel => exact ⟨k + 1, by omega, by go_num, congrArg Value.string (NEXT.out _ (by first | exact HX.out | (rw [HB.out]; exact HX.out))), HDR.out _⟩
                  case measure => simp [intOf]; omega
                · have hhi : (126 : Int) < c.toNat := by omega
                  go_wp2_with fail
                  go_quiet (fail)
                  all_goals go_wp2
                  all_goals go_roundw
                  case rel => exact ⟨k + 1, by omega, by go_num, congrArg Value.string (NEXT.out _ (by first | exact HX.out | (rw [HB.out]; exact HX.out))), HDR.out _⟩
                  case measure => simp [intOf]; omega
              · have HU : Hid ((s.extract k (k + 1)).data.toList = quoteB c) := by show _ = _; rw [HEXT.out]; unfold quoteB; rw [if_pos hq]
                have hlo : ¬ (c.toNat : Int) < 32 := by unfold plainB at hq; simp only [decide_eq_true_eq] at hq; omega
                have hhi : ¬ (126 : Int) < c.toNat := by unfold plainB at hq; simp only [decide_eq_true_eq] at hq; omega
                clear hq
                go_wp2
                go_roundw
                case rel => exact ⟨k + 1, by omega, by go_num, congrArg Value.string (NEXT.out _ HU.out), HN.out⟩
                case measure => simp [intOf]; omega
    · have hkk : k = s.size := by omega
      have hfull : (T ++ ⟨#[34]⟩ : ByteArray) = ⟨(quoteS s.data.toList).toArray⟩ := by
        apply ByteArray.ext
        apply Array.ext'
        rw [ByteArray.data_append, Array.toList_append, HT.out, List.take_of_length_le (by rw [← Lib.size_eq]; omega)]
        rfl
      have HF := Lib.hid hfull
      have hlt' : ¬ (k : Int) < (s.size : Int) := by omega
      clear hfull hkk
      go_wp2
      go_ret
      exact ⟨ret_str HF.out, HN.out⟩
end Go.Proofs.YtlmnabhhgplhnaaGreatDoor
