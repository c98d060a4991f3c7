/- The law on a name's span: for every number and every byte the call returns true. No condition. -/
import Derived.Lib.SlBytesRow
import Derived.Test.YtmgmmjnlnmidlaaDoorWalkR
namespace Go.Proofs.YtmgmmjnlnmidlaaDoor.lawPathSpan
open Go.RowKit

theorem sign_any (c : UInt8) (w : World) :
    Calls Tryd.prog 35 #[.int .u8 c.toNat] w fun e w' => e = .returned (.bool (okByte c)) ∧ w = w' := by
  have hb : c.toNat < 256 := c.toNat_lt
  go_enter Tryd.func35, Tryd.ntmps35
  go_wp2
  all_goals go_ret
  all_goals exact ⟨ret_bool (by rw [Bool.eq_iff_iff]; simp [okByte]; omega), rfl⟩

theorem ok_as : ∀ n : Fin 45, okName (List.replicate n.val 97) = (decide (1 ≤ n.val) && decide (n.val ≤ 40)) := by decide +kernel
theorem ok_xcy' : ∀ n : Fin 256, okName [120, UInt8.ofNat n.val, 121] = (okByte (UInt8.ofNat n.val) || n.val == 47) := by decide +kernel
theorem ok_xcy (c : UInt8) : okName [120, c, 121] = (okByte c || c.toNat == 47) := by
  have h := ok_xcy' ⟨c.toNat, c.toNat_lt⟩
  simpa using h
/-- A word of so many a's. -/
def asB (k : Nat) : ByteArray := ⟨(List.replicate k (97 : UInt8)).toArray⟩
theorem asB_size (k : Nat) : (asB k).size = k := by
  simp [asB, ByteArray.size]
theorem asB_next (k : Nat) : asB k ++ ⟨#[97]⟩ = asB (k + 1) := by
  apply ByteArray.ext
  rw [ByteArray.data_append]
  apply Array.toList_inj.1
  simp [asB, List.replicate_succ']
theorem asB_ok (n : Nat) (h : n < 45) : okName (asB n).data.toList = (decide (1 ≤ n) && decide (n ≤ 40)) := by
  simpa [asB] using ok_as ⟨n, h⟩

set_option maxHeartbeats 4000000 in
set_option maxRecDepth 100000 in
theorem law (n : Int) (c : UInt8) (w : World) (hG : Glob w) :
    Calls Tryd.prog 10 #[.int .i64 n, .int .u8 c.toNat] w fun e w' => e = .returned (.bool true) ∧ Below w.heap.size w w' := by
  have hb : c.toNat < 256 := c.toNat_lt
  have HG := Lib.hid hG
  clear hG
  obtain ⟨N, hN, hN45⟩ : ∃ N : Nat, (wrap64 (n.tmod 45 + 45)).tmod 45 = (N : Int) ∧ N < 45 := by
    have h1 := Int.tmod_lt_of_pos n (show (0 : Int) < 45 by decide)
    have h2 := Int.lt_tmod_of_pos n (show (0 : Int) < 45 by decide)
    have h3 : wrap64 (n.tmod 45 + 45) = n.tmod 45 + 45 := by unfold wrap64; omega
    rw [h3]
    have h4 := Int.tmod_lt_of_pos (n.tmod 45 + 45) (show (0 : Int) < 45 by decide)
    have h5 := Int.tmod_nonneg 45 (show 0 ≤ n.tmod 45 + 45 by omega)
    exact ⟨((n.tmod 45 + 45).tmod 45).toNat, by omega, by omega⟩
  have cM : ∀ (t : ByteArray) (r : Bool), t.size ≤ 1000 → okName t.data.toList = r → ∀ w, Glob w → Calls Tryd.prog 18 #[.string t] w fun e w' => e = .returned (.bool r) ∧ Below w.heap.size w w' := fun t r ht hr w hg => by
    obtain ⟨m, hm⟩ := hg.max
    have h := may_any t m w (by unfold maxLen; omega) hm
    rw [hr] at h
    exact h
  have HM1 := Lib.hid (cM (asB N) _ (by rw [asB_size]; omega) (asB_ok N hN45))
  have HM2 := Lib.hid (cM ⟨#[120, c, 121]⟩ _ (by simp [ByteArray.size]) (ok_xcy c))
  clear cM

  go_enter Tryd.func10, Tryd.ntmps10
  go_wp2_with fail
  refine (begun_any w HG.out).mono ?_
  rintro e w1 ⟨rfl, hb1⟩
  go_wp2_with fail
  clear hN
  go_loop [6, 7] (fun s i => ∃ (k : Nat), k ≤ N ∧ i = .int .i64 k ∧ s = .string (asB k)) (fun _ i => N - (intOf i).toNat)
  case atStart => exact ⟨0, Nat.zero_le _, rfl, rfl⟩
  case round =>
    obtain ⟨k, hk, rfl, rfl⟩ := hrel
    by_cases hlt : k < N
    · have hlen := asB_size k
      have HNX := Lib.hid (asB_next k)
      go_wp2
      go_round
      case rel => exact ⟨k + 1, by omega, by go_num, by rw [HNX.out]⟩
      case measure => simp [intOf]; omega
    · obtain rfl : k = N := by omega
      clear hlt hk
      have hconv : (Go.convert 43 9 (.slice (some ⟨w1.heap.size, 0, none⟩) 1 1)).run Tryd.prog (w1.alloc (.cells #[.int .u8 c.toNat] 5)) = .ok (.string ⟨#[c]⟩) (w1.alloc (.cells #[.int .u8 c.toNat] 5)) :=
        Lib.run_convert_whole (P := Tryd.prog) _ 43 5 9 (by kernel_rfl) (by kernel_rfl) (by kernel_rfl) w1.heap.size 0 ⟨#[c]⟩ (fun i hi => by
          have : i = 0 := by simp [ByteArray.size] at hi; omega
          subst this
          rw [World.cell?_alloc_at _ _ _ _ rfl]; rfl) 1
      have hb2 : Below w.heap.size w (w1.alloc (.cells #[.int .u8 c.toNat] 5)) := hb1.alloc hb1.size _
      have happ : (⟨#[120]⟩ : ByteArray) ++ ⟨#[c]⟩ ++ ⟨#[121]⟩ = ⟨#[120, c, 121]⟩ := rfl
      obtain ⟨r, hr⟩ : ∃ r, (decide (1 ≤ k) && decide (k ≤ 40)) = r := ⟨_, rfl⟩
      rw [hr] at HM1
      obtain ⟨b, hob⟩ : ∃ b, okByte c = b := ⟨_, rfl⟩
      have cS := fun w => sign_any c w
      rw [hob] at HM2
      simp only [hob] at cS
      have HS := Lib.hid cS
      obtain ⟨q, hq⟩ : ∃ q, (c.toNat == 47) = q := ⟨_, rfl⟩
      rw [hq] at HM2
      have hq' : ((c.toNat : Int) == 47) = q := by rw [← hq, Bool.eq_iff_iff]; simp; omega
      have hqp : q = true ↔ (c.toNat : Int) = 47 := by rw [← hq']; simp
      have HQ := Lib.hid hqp
      clear cS hob hq hq' hqp
      go_wp2_with fail
      refine (HM1.out _ (HG.out.below hb2)).mono ?_
      rintro e w3 ⟨rfl, hb3⟩
      replace hb3 := chain hb2 hb3
      have fin : ∀ (x y : Bool) (hxy : x = true → y = true) (_ : y = true → x = true), x = y := by decide
      clear hb2 hconv
      by_cases h1 : 1 ≤ k
      · by_cases h40 : k ≤ 40
        · obtain rfl : r = true := by rw [← hr]; simp [h1, h40]
          clear hr
          go_wp2_with fail
          refine (HM2.out _ (HG.out.below hb3)).mono ?_
          rintro e w4 ⟨rfl, hb4⟩
          replace hb4 := chain hb3 hb4
          clear hb3
          go_wp2_with fail
          refine (HS.out _).mono ?_
          rintro e w4 ⟨rfl, rfl⟩
          have hqq := HQ.out
          cases b <;> cases q <;> simp at hqq
          all_goals go_wp2
          all_goals go_ret
          all_goals exact ⟨rfl, hb4⟩
        · obtain rfl : r = false := by rw [← hr]; simp [h40]
          clear hr
          go_wp2_with fail
          refine (HM2.out _ (HG.out.below hb3)).mono ?_
          rintro e w4 ⟨rfl, hb4⟩
          replace hb4 := chain hb3 hb4
          clear hb3
          go_wp2_with fail
          refine (HS.out _).mono ?_
          rintro e w4 ⟨rfl, rfl⟩
          have hqq := HQ.out
          cases b <;> cases q <;> simp at hqq
          all_goals go_wp2
          all_goals go_ret
          all_goals exact ⟨rfl, hb4⟩
      · obtain rfl : r = false := by rw [← hr]; simp [h1]
        clear hr
        go_wp2_with fail
        refine (HM2.out _ (HG.out.below hb3)).mono ?_
        rintro e w4 ⟨rfl, hb4⟩
        replace hb4 := chain hb3 hb4
        clear hb3
        go_wp2_with fail
        refine (HS.out _).mono ?_
        rintro e w4 ⟨rfl, rfl⟩
        have hqq := HQ.out
        cases b <;> cases q <;> simp at hqq
        all_goals go_wp2
        all_goals go_ret
        all_goals exact ⟨rfl, hb4⟩
end Go.Proofs.YtmgmmjnlnmidlaaDoor.lawPathSpan
