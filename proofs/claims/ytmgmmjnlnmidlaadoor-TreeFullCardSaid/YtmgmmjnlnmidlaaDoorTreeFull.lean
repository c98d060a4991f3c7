/- The law on a tree's limits: for every two numbers the call returns true. No condition. -/
import Derived.Test.YtmgmmjnlnmidlaaDoorNumR
namespace Go.Proofs.YtmgmmjnlnmidlaaDoor.lawTreeFull
open Go.RowKit

def nameB (k : Nat) : ByteArray := if k < 10 then ⟨#[102, UInt8.ofNat (48 + k)]⟩ else ⟨#[102, UInt8.ofNat (48 + k / 10), UInt8.ofNat (48 + k % 10)]⟩
theorem nameB_eq (k : Nat) : (⟨#[102]⟩ : ByteArray) ++ digB k = nameB k := by
  unfold nameB digB
  split <;> rfl
def xB : ByteArray := ⟨#[120]⟩
def fullT : Nat → List F2
  | 0 => []
  | k + 1 => (writeF (fullT k) (nameB k) xB).2
def chk : Nat → List F2 → Nat → Bool
  | 0, _, _ => true
  | f + 1, t, k => ((writeF t (nameB k) xB).1 == (if k < 60 then 0 else 4) && t.length == min k 60 && hasF t (nameB 0) == decide (1 ≤ k)) && chk f (writeF t (nameB k) xB).2 (k + 1)
theorem chk_spec : ∀ f k, chk f (fullT k) k = true → ∀ j, k ≤ j → j < k + f → (writeF (fullT j) (nameB j) xB).1 = (if j < 60 then 0 else 4) ∧ (fullT j).length = min j 60 ∧ hasF (fullT j) (nameB 0) = decide (1 ≤ j)
  | 0, k, _, j, h1, h2 => by omega
  | f + 1, k, h, j, h1, h2 => by
    unfold chk at h
    simp only [Bool.and_eq_true, beq_iff_eq] at h
    rcases Nat.eq_or_lt_of_le h1 with rfl | h3
    · exact ⟨h.1.1.1, h.1.1.2, h.1.2⟩
    · exact chk_spec f (k + 1) h.2 j h3 (by omega)
theorem chk_all : chk 65 [] 0 = true := by decide +kernel
theorem full_facts (j : Nat) (h : j < 65) : (writeF (fullT j) (nameB j) xB).1 = (if j < 60 then 0 else 4) ∧ (fullT j).length = min j 60 ∧ hasF (fullT j) (nameB 0) = decide (1 ≤ j) :=
  chk_spec 65 0 chk_all j (Nat.zero_le _) (by omega)
theorem last_code (t : List F2) (y : ByteArray) (h2 : 2000 < y.size) : writeF t (nameB 0) y = (4, t) := by
  unfold writeF
  rw [if_neg (by rw [show okName (nameB 0).data.toList = true by decide +kernel]; decide), if_pos h2]
theorem last_ok (t : List F2) (n : Nat) (y : ByteArray) (hl : t.length = min n 60) (hh : hasF t (nameB 0) = decide (1 ≤ n)) (h2 : ¬ 2000 < y.size) : (writeF t (nameB 0) y).1 = 0 ∧ (writeF t (nameB 0) y).2.length = max 1 (min n 60) := by
  unfold writeF
  rw [if_neg (by rw [show okName (nameB 0).data.toList = true by decide +kernel]; decide), if_neg h2, hh]
  by_cases h1 : 1 ≤ n
  · rw [if_pos (by simpa using h1)]
    exact ⟨rfl, by simp [hl]; omega⟩
  · rw [if_neg (by simpa using h1), if_neg (by omega)]
    obtain rfl : n = 0 := by omega
    obtain rfl : t = [] := List.eq_nil_of_length_eq_zero (by omega)
    exact ⟨rfl, rfl⟩

theorem mod_pos (n : Int) (d : Int) (hd : 0 < d) (hd2 : d < 1000) : ∃ N : Nat, (wrap64 (n.tmod d + d)).tmod d = (N : Int) ∧ (N : Int) < d := by
  have h1 := Int.tmod_lt_of_pos n hd
  have h2 := Int.lt_tmod_of_pos n hd
  have h3 : wrap64 (n.tmod d + d) = n.tmod d + d := by unfold wrap64; omega
  rw [h3]
  have h4 := Int.tmod_lt_of_pos (n.tmod d + d) hd
  have h5 := Int.tmod_nonneg d (show 0 ≤ n.tmod d + d by omega)
  exact ⟨((n.tmod d + d).tmod d).toNat, by omega, by omega⟩

/-- So many zero bytes. -/
def zeroB (n : Nat) : ByteArray := ⟨(List.replicate n (0 : UInt8)).toArray⟩
theorem zeroB_size (n : Nat) : (zeroB n).size = n := by simp [zeroB, ByteArray.size]
theorem zeroB_at (n i : Nat) (h : i < (zeroB n).size) : (zeroB n)[i] = 0 := by
  show (zeroB n).data[i] = 0
  simp [zeroB]
theorem bytes_own {w : World} {B g n c : Nat} (h : w.ownsRow B 5 1 (.slice (some ⟨g, 0, none⟩) n c) n (madeCells #[.int .u8 0] n).toList) : Lib.Bytes w g 0 (zeroB n) := by
  intro i hi
  rw [zeroB_at n i hi]
  rw [zeroB_size] at hi
  rw [toList_madeCells_one] at h
  rcases h with ⟨_, ⟨hv, _⟩ | ⟨g', cap, cur, hv, hB, hb, hn, hm, hs, ht⟩⟩
  · cases hv
  · cases hv
    have : (cur.toList.take (n * 1))[i]? = some (.int .u8 0) := by rw [ht, List.getElem?_replicate, if_pos hi]
    rw [List.getElem?_take] at this
    split at this
    · simp only [World.cell?, hb, Nat.zero_add]
      simpa using this
    · cases this

theorem info_u8 : (Tryd.prog.info? 5).map (fun i => (i.zero, i.size, i.bytes)) = some (some (.int .u8 0), 1, 1) := by kernel_rfl

set_option maxHeartbeats 4000000 in
set_option maxRecDepth 100000 in
theorem law (n m : Int) (w : World) (hG : Glob w) :
    Calls Tryd.prog 6 #[.int .i64 n, .int .i64 m] w fun e w' => e = .returned (.bool true) ∧ Below w.heap.size w w' := by
  obtain ⟨N, hN, hN65⟩ := mod_pos n 65 (by decide) (by decide)
  obtain ⟨M, hM, hM20⟩ := mod_pos m 20 (by decide) (by decide)
  have HG := Lib.hid hG
  clear hG
  go_enter Tryd.func6, Tryd.ntmps6
  go_wp2_with fail
  refine (begun_any w HG.out).mono ?_
  rintro e w1 ⟨rfl, hb1⟩
  go_wp2_with fail
  refine (new_any (.slice none 0 0) [] w1 ⟨none, 0, rfl, by simp, by simp [maxLen], fun h => absurd rfl h⟩ (HG.out.below hb1) (by simp)).mono ?_
  rintro e w2 ⟨b, r, rfl, hT, hb2⟩
  clear hN hM
  have hB := hb1.size
  replace hb2 := chain hb1 hb2
  clear hb1
  obtain ⟨B, hBw⟩ : ∃ B, w1.heap.size = B := ⟨_, rfl⟩
  rw [hBw] at hB hT
  have HBW := Lib.hid hBw
  have HT0 : Hid (IsTree w2 B b r (fullT 0)) := hT
  have HB := Lib.hid hB
  have HB2 := Lib.hid hb2
  clear hBw hB hT
  go_wp2_with fail
  go_loopw [7] (fun i wr => ∃ (k : Nat) (r : Option Nat), k ≤ N ∧ i = .int .i64 k ∧ IsTree wr B b r (fullT k) ∧ Below w.heap.size w wr)
    (fun i _ => N - (intOf i).toNat)
  case atStart => exact ⟨0, r, Nat.zero_le _, rfl, HT0.out, HB2.out⟩
  case round =>
    obtain ⟨k, r, hk, rfl, ht, hnx⟩ := hrel
    have HT := Lib.hid ht
    clear ht HT0 HB2
    by_cases hlt : k < N
    · obtain ⟨f1, f2, f3⟩ := full_facts k (by omega)
      clear f2 f3
      obtain ⟨q, hq⟩ : ∃ q, (writeF (fullT k) (nameB k) xB).1 = q := ⟨_, rfl⟩
      rw [hq] at f1
      have F1 := Lib.hid f1
      have HQ := Lib.hid hq
      have HNX := Lib.hid hnx
      clear f1 hq
      have hdig : (digB k).size ≤ 2 := by unfold digB; split <;> simp [ByteArray.size]
      have hnb := nameB_eq k
      obtain ⟨nb, hnbe⟩ : ∃ nb, nameB k = nb := ⟨_, rfl⟩
      rw [hnbe] at hnb
      have hnbl : nb.size ≤ 3 := by rw [← hnb, ByteArray.size_append]; have : (⟨#[102]⟩ : ByteArray).size = 1 := rfl; omega
      have HNB := Lib.hid hnbe
      have cN := numR_any k (by omega) wr
      obtain ⟨dk, hdk⟩ : ∃ dk, digB k = dk := ⟨_, rfl⟩
      rw [hdk] at cN hnb hdig
      clear hdk hnbe
      go_wp2_with fail
      refine cN.mono ?_
      rintro e w3 ⟨rfl, hb3⟩
      have hx3 : Below w.heap.size w w3 := chain HNX.out hb3
      have hT3 := HT.out.below hb3
      have cW := write_any B b r _ nb xB w3 hT3 (HG.out.below hx3) (by unfold maxLen; omega) (by decide)
      rw [← HNB.out, HQ.out] at cW
      rw [HNB.out] at cW
      have hrl := hT3.rlt
      have HRL := Lib.hid hrl
      have HX3 := Lib.hid hx3
      clear hb3 hnx hx3 hT3 hrl cN
      go_wp2_with fail
      refine cW.mono ?_
      rintro e w4 ⟨r4, rfl, hT4, hF4, _⟩
      have hnx4 : Below w.heap.size w w4 := HX3.out.trans (hF4.below HX3.out.size (Nat.le_trans HB.out HRL.out.2.1) (fun g hg => Nat.le_trans HB.out (HRL.out.1 g hg).1))
      have hT4' : IsTree w4 B b r4 (fullT (k + 1)) := by rw [← HNB.out] at hT4; exact hT4
      have HT4 := Lib.hid hT4'
      have HNX4 := Lib.hid hnx4
      clear hT4 hT4' hF4 cW hnx4 hb2
      by_cases h60 : k < 60
      · obtain rfl : q = 0 := by rw [F1.out, if_pos h60]
        have hd60 : decide ((k : Int) < 60) = true := by simp; omega
        go_wp2
        go_roundw
        case rel => exact ⟨k + 1, r4, by omega, by go_num, HT4.out, HNX4.out⟩
        case measure => simp [intOf]; omega
      · obtain rfl : q = 4 := by rw [F1.out, if_neg h60]
        go_wp2
        go_roundw
        case rel => exact ⟨k + 1, r4, by omega, by go_num, HT4.out, HNX4.out⟩
        case measure => simp [intOf]; omega
    · obtain rfl : k = N := by omega
      obtain ⟨f1, f2, f3⟩ := full_facts k (by omega)
      clear hlt hk f1
      have F2 := Lib.hid f2
      have F3 := Lib.hid f3
      clear f2 f3 hb2
      have HNX := Lib.hid hnx
      clear hnx
      obtain ⟨i0, hi, hz0, hz1, hz2⟩ := info_parts info_u8
      go_wp2_with (at_make; refine wpList_make_full _ rfl _ _ 43 rfl w.heap.size 5 i0 (.int .u8 0) 1 Tryd.underlying43 hi hz0 hz1 _ _ _ _ (1990 + M) rfl rfl (by simp) (by simp) ?m2 ?m3 ?m4 ?_)
      case m2 => rw [hz2]; omega
      case m3 => unfold maxLen; omega
      case m4 => exact HNX.out.size
      intro w3 hown hgrow
      have hby := bytes_own (n := 1990 + M) hown
      have hnx3 : Below w.heap.size w w3 := HNX.out.grown hgrow HNX.out.size (by simp)
      have hb3 : Below wr.heap.size wr w3 := (Below.refl _ _).grown hgrow (Nat.le_refl _) (by simp)
      have hT3 := HT.out.below hb3
      have hconv : ∀ c, (Go.convert 43 9 (.slice (some ⟨wr.heap.size, 0, none⟩) (1990 + M) c)).run Tryd.prog w3 = .ok (.string (zeroB (1990 + M))) w3 := fun c => by
        have h := Lib.run_convert_whole (P := Tryd.prog) w3 43 5 9 (by kernel_rfl) (by kernel_rfl) (by kernel_rfl) wr.heap.size 0 (zeroB (1990 + M)) hby c
        rw [zeroB_size] at h
        exact h
      have hzl := zeroB_size (1990 + M)
      generalize zeroB (1990 + M) = zb at *
      have cW := write_any B b r _ (nameB 0) zb w3 hT3 (HG.out.below hnx3) (by decide) (by unfold maxLen; omega)
      have hl0 : nameB 0 = ⟨#[102, 48]⟩ := rfl
      have hrl := hT3.rlt
      have HRL := Lib.hid hrl
      have HX3 := Lib.hid hnx3
      have HCV := Lib.hid (hconv (1990 + M))
      clear hby hnx3 hb3 hT3 hrl hown hgrow HT HNX hconv hi hz0 hz1 hz2
      obtain ⟨L, hL⟩ : ∃ L, fullT k = L := ⟨_, rfl⟩
      rw [hL] at cW F2 F3
      clear hL
      have hcv := HCV.out
      by_cases hM : 10 < M
      · rw [last_code L zb (by omega)] at cW
        rw [hl0] at cW
        go_wp2_with fail
        refine cW.mono ?_
        rintro e w4 ⟨r4, rfl, hT4, hF4, _⟩
        have hnx4 : Below w.heap.size w w4 := HX3.out.trans (hF4.below HX3.out.size (Nat.le_trans HB.out HRL.out.2.1) (fun g hg => Nat.le_trans HB.out (HRL.out.1 g hg).1))
        obtain ⟨a4, c4, hA, _⟩ := hT4.all
        have cL := len_core _ a4 c4 _ w4 hA
        rw [F2.out] at cL
        clear hT4 hF4 hA cW
        by_cases h60 : k < 60
        · rw [show min k 60 = k by omega] at cL
          go_wp2_with fail
          refine cL.mono ?_
          rintro e w' ⟨rfl, rfl⟩
          clear cL
          have hmn : min (k : Int) 60 = (k : Int) := by omega
          go_wp2
          go_ret
          exact ⟨rfl, hnx4⟩
        · rw [show min k 60 = 60 by omega] at cL
          go_wp2_with fail
          refine cL.mono ?_
          rintro e w' ⟨rfl, rfl⟩
          clear cL
          have hmn : min (k : Int) 60 = 60 := by omega
          go_wp2
          go_ret
          exact ⟨rfl, hnx4⟩
      · obtain ⟨e1, e2⟩ := last_ok L k zb F2.out F3.out (by omega)
        rw [e1] at cW
        obtain ⟨L2, hL2⟩ : ∃ L2, (writeF L (nameB 0) zb).2 = L2 := ⟨_, rfl⟩
        rw [hL2] at cW e2
        rw [hl0] at cW
        have E2 := Lib.hid e2
        clear hL2 e1 e2
        go_wp2_with fail
        refine cW.mono ?_
        rintro e w4 ⟨r4, rfl, hT4, hF4, _⟩
        have hnx4 : Below w.heap.size w w4 := HX3.out.trans (hF4.below HX3.out.size (Nat.le_trans HB.out HRL.out.2.1) (fun g hg => Nat.le_trans HB.out (HRL.out.1 g hg).1))
        obtain ⟨a4, c4, hA, _⟩ := hT4.all
        have cL := len_core _ a4 c4 _ w4 hA
        rw [E2.out] at cL
        clear hT4 hF4 hA cW
        by_cases h60 : k < 60
        · obtain ⟨k1, hk1⟩ : ∃ k1, max 1 (min k 60) = k1 := ⟨_, rfl⟩
          rw [hk1] at cL
          go_wp2_with fail
          refine cL.mono ?_
          rintro e w' ⟨rfl, rfl⟩
          clear cL
          have hmn : min (k : Int) 60 = (k : Int) := by omega
          have hmx : max 1 (k : Int) = (k1 : Int) := by omega
          go_wp2
          go_ret
          exact ⟨rfl, hnx4⟩
        · rw [show max 1 (min k 60) = 60 by omega] at cL
          go_wp2_with fail
          refine cL.mono ?_
          rintro e w' ⟨rfl, rfl⟩
          clear cL
          have hmn : min (k : Int) 60 = 60 := by omega
          go_wp2
          go_ret
          exact ⟨rfl, hnx4⟩
end Go.Proofs.YtmgmmjnlnmidlaaDoor.lawTreeFull
