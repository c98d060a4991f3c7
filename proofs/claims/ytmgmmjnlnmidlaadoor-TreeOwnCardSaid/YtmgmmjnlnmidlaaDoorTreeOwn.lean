/- The law on a tree's own memory: for every files and every two texts the call returns true. -/
import Derived.Test.YtmgmmjnlnmidlaaDoorClone
import Derived.Test.YtmgmmjnlnmidlaaDoorMathE
namespace Go.Proofs.YtmgmmjnlnmidlaaDoor.lawTreeOwn
open Go.RowKit

set_option maxHeartbeats 4000000 in
set_option maxRecDepth 100000 in
theorem law (v : Value) (fs : List F2) (a b : ByteArray) (w : World) (hF : IsFiles w v fs) (hsz : ∀ f ∈ fs, f.1.size ≤ maxLen ∧ f.2.size ≤ maxLen) (ha : a.size ≤ maxLen) (hb : b.size ≤ maxLen) (hG : Glob w) :
    Calls Tryd.prog 13 #[v, .string a, .string b] w fun e w' => e = .returned (.bool true) ∧ Below w.heap.size w w' := by
  obtain ⟨ad, c, rfl, h1, h1m, h2⟩ := hF
  have hlen : (min (fs.length : Int) 10).toNat = (fs.take 10).length := by rw [List.length_take]; omega
  have hgs : IsFiles w (.slice ad (fs.take 10).length c) (fs.take 10) := by
    refine ⟨ad, c, rfl, by rw [List.length_take]; omega, h1m, fun hne => ?_⟩
    obtain ⟨b0, o0, ha0, hb0, hc0⟩ := h2 (by rintro rfl; simp at hne)
    refine ⟨b0, o0, ha0, hb0, fun j x hx => hc0 j x ?_⟩
    rw [List.getElem?_take] at hx
    split at hx
    · exact hx
    · cases hx
  have hgsz : ∀ f ∈ fs.take 10, f.1.size ≤ maxLen ∧ f.2.size ≤ maxLen := fun f hf => hsz f (List.mem_of_mem_take hf)
  have hok := FOk.new (fs.take 10)
  obtain ⟨gs, hgse⟩ : ∃ gs, fs.take 10 = gs := ⟨_, rfl⟩
  rw [hgse] at hlen hgs hgsz hok
  obtain ⟨T, hT⟩ : ∃ T, newF gs = T := ⟨_, rfl⟩
  rw [hT] at hok
  have HG := Lib.hid hG
  have HGS := Lib.hid hgs
  have HSZ := Lib.hid hgsz
  have HOK := Lib.hid hok
  have HTE := Lib.hid hT
  unfold maxLen at h1m
  clear hG h2 hsz hgs hgsz hok hgse hT
  go_enter Tryd.func13, Tryd.ntmps13
  go_wp2_with fail
  refine (begun_any w HG.out).mono ?_
  rintro e w1 ⟨rfl, hb1⟩
  go_wp2_with fail
  refine (new_any (.slice ad gs.length c) gs w1 (HGS.out.below hb1) (HG.out.below hb1) HSZ.out).mono ?_
  rw [HTE.out]
  rintro e w2 ⟨bt, rt, rfl, hT2, hb2⟩
  replace hb2 := chain hb1 hb2
  have HT2 := Lib.hid hT2
  clear hT2 hb1
  go_wp2_with fail
  refine (tclone_any _ bt rt T w2 HT2.out).mono ?_
  rintro e w3 ⟨bc, rc, rfl, hC3, hb3⟩
  have HT3 := Lib.hid (HT2.out.below hb3)
  have HC3 := Lib.hid hC3
  have hs2 := hb2.size
  replace hb3 := chain hb2 hb3
  clear hb2 hC3
  obtain ⟨a3, c3, hA3, hF3⟩ := HT3.out.all
  have HA3 := Lib.hid hA3
  have HF3 := Lib.hid hF3
  have hl60 : T.length ≤ 60 := HT3.out.2.2.1
  have hkl := key_len T HOK.out
  have HKL := Lib.hid hkl
  clear hA3 hF3 hkl
  go_wp2_with fail
  refine (key_core _ a3 c3 T w3 HA3.out HF3.out hl60 (HG.out.below hb3) (by have := HKL.out; omega)).mono ?_
  rintro e w4 ⟨rfl, hb4⟩
  have HT4 := Lib.hid (HT3.out.below hb4)
  have HC4 := Lib.hid (HC3.out.below hb4)
  replace hb4 := chain hb3 hb4
  clear hb3
  obtain ⟨K, hK⟩ : ∃ K : ByteArray, (⟨(putS (keyL T)).toArray⟩ : ByteArray) = K := ⟨_, rfl⟩
  rw [hK]
  have HK := Lib.hid hK
  clear hK
  have cW := write_any _ bc rc T a b w4 HC4.out (HG.out.below hb4) ha hb
  obtain ⟨q, hq⟩ : ∃ q, (writeF T a b).1 = q := ⟨_, rfl⟩
  obtain ⟨T2, hT2e⟩ : ∃ T2, (writeF T a b).2 = T2 := ⟨_, rfl⟩
  rw [hq, hT2e] at cW
  have HQ := Lib.hid hq
  have HT2E := Lib.hid hT2e
  clear hq hT2e
  go_wp2_with fail
  refine cW.mono ?_
  rintro e w5 ⟨r5, rfl, hC5, hf5, _⟩
  have rl4 := HC4.out.rlt
  have rt2 := HT2.out.rlt
  have hx5 : Below w.heap.size w w5 := hb4.trans (hf5.below hb4.size (Nat.le_trans hs2 rl4.2.1) (fun g hg => Nat.le_trans hs2 (rl4.1 g hg).1))
  have hT5 := HT4.out.frame hf5 (by omega) (fun e => by have := rl4.1 bt e; omega) (fun k hk => by have := rt2.1 k hk; omega) (fun k hk e => by have := rt2.1 k hk; have := rl4.1 k e; omega)
  have HT5 := Lib.hid hT5
  have HC5 := Lib.hid hC5
  clear hT5 hC5 hf5 rl4 rt2 cW hb4 hs2
  obtain ⟨a5, c5, hA5, hF5⟩ := HT5.out.all
  have HA5 := Lib.hid hA5
  have HF5 := Lib.hid hF5
  clear hA5 hF5
  go_wp2_with fail
  refine (names_core _ a5 c5 T w5 HA5.out HF5.out hl60).mono ?_
  rintro e w6 ⟨a6, c6, rfl, hown6, hb6⟩
  have hrow : T.length ≤ c6 ∧ c6 ≤ 9223372036854775807 ∧ (0 < T.length → ∃ g cur, a6 = some ⟨g, 0, none⟩ ∧ w5.heap.size ≤ g ∧ w6.heap[g]? = some (.cells cur 9 (0, 0)) ∧ T.length ≤ cur.size) := by
    obtain ⟨_, ⟨hv, h0⟩ | ⟨g, cap, cur, hv, hB, hb, hn, hm, hs, ht⟩⟩ := hown6
    · injection hv with e1 e2 e3
      have e2' : T.length = 0 := e2
      exact ⟨by omega, by omega, fun h => by omega⟩
    · cases hv
      refine ⟨hn, by unfold maxLen at hm; omega, fun _ => ⟨g, cur, rfl, hB, hb, by omega⟩⟩
  have HB6 := Lib.hid hb6
  have HX5 := Lib.hid hx5
  have HT6 := Lib.hid (HT5.out.below hb6)
  have HC6 := Lib.hid (HC5.out.below hb6)
  obtain ⟨hr1, hr2, hr3⟩ := hrow
  have HR3 := Lib.hid hr3
  clear hown6 hb6 hx5 hr3
  go_wp2_with fail
  go_loopw [38] (fun i wr => ∃ (k : Nat), k ≤ T.length ∧ i = .int .i64 k ∧ Below w5.heap.size w5 wr ∧ (0 < T.length → ∃ g cur, a6 = some ⟨g, 0, none⟩ ∧ w5.heap.size ≤ g ∧ wr.heap[g]? = some (.cells cur 9 (0, 0)) ∧ T.length ≤ cur.size))
    (fun i _ => T.length - (intOf i).toNat)
  case atStart => exact ⟨0, Nat.zero_le _, rfl, HB6.out, HR3.out⟩
  case round =>
    obtain ⟨k, hk, rfl, hnx, hrow⟩ := hrel
    have HNX := Lib.hid hnx
    have HROW := Lib.hid hrow
    clear hnx hrow HR3 HT6 HC6 HB6
    by_cases hlt : k < T.length
    · obtain ⟨g, cur, rfl, hgB, hg, hgl⟩ := HROW.out (by omega)
      have hcell : wr.cell? ⟨g, k, none⟩ = some (cur[k]'(by omega)) := by simp [World.cell?, hg]
      have hfz : wr.frozen? ⟨g, k, none⟩ = false := by simp [World.frozen?, hg]
      generalize cur[k]'(by omega) = vk at hcell
      have HG' := Lib.hid hg
      have HGB := Lib.hid hgB
      have HGL := Lib.hid hgl
      clear hg hgB hgl
      go_wp2
      go_roundw
      case rel =>
        refine ⟨k + 1, by omega, by go_num, HNX.out.trans ((frame_setCell wr g g _ _).below HNX.out.size HGB.out (fun j hj => by injection hj with hj; rw [← hj]; exact HGB.out)), fun _ => ?_⟩
        refine ⟨g, cur.setIfInBounds k (.string ⟨#[116, 117, 114, 110, 101, 100]⟩), rfl, HGB.out, ?_, ?_⟩
        · rw [setCell_eq_setRow wr g k cur _ (0, 0) _ HG'.out]
          exact setRow_heap wr g _ _ _ _ HG'.out
        · simpa using HGL.out
      case measure => simp [intOf]; omega
    · obtain rfl : k = T.length := by omega
      clear hlt hk HROW
      have HT7 := Lib.hid (HT5.out.below HNX.out)
      have HC7 := Lib.hid (HC5.out.below HNX.out)
      have HX7 := Lib.hid (chain HX5.out HNX.out)
      have HA7 := Lib.hid (HA5.out.below HNX.out)
      have HF7 := Lib.hid (HF5.out.below HNX.out)
      clear HT5 HC5 HX5 HA5 HF5 HNX
      go_wp2_with fail
      refine (key_core _ a5 c5 T wr HA7.out HF7.out hl60 (HG.out.below HX7.out) (by have := HKL.out; omega)).mono ?_
      rw [HK.out]
      rintro e w8 ⟨rfl, hb8⟩
      have HT8 := Lib.hid (HT7.out.below hb8)
      have HC8 := Lib.hid (HC7.out.below hb8)
      have hx8 := chain HX7.out hb8
      have HA8 := Lib.hid (HA7.out.below hb8)
      have HF8 := Lib.hid (HF7.out.below hb8)
      clear HT7 HC7 HX7 HA7 HF7 hb8
      have hdK : (K.toList == K.toList) = true := by simp
      go_wp2_with fail
      refine (names_core _ a5 c5 T w8 HA8.out HF8.out hl60).mono ?_
      rintro e w9 ⟨a9, c9, rfl, _, hb9⟩
      have HT9 := Lib.hid (HT8.out.below hb9)
      have HC9 := Lib.hid (HC8.out.below hb9)
      have hx9 := chain hx8 hb9
      have HA9 := Lib.hid (HA8.out.below hb9)
      clear HT8 HC8 hx8 HA8 HF8 hb9
      go_wp2_with fail
      refine (len_core _ a5 c5 T w9 HA9.out).mono ?_
      rintro e w' ⟨rfl, rfl⟩
      have cR := read_any _ bc r5 T2 a w9 HC9.out
      by_cases hq0 : q = 0
      · subst hq0
        have hrw : readF T2 a = (b, true) := by
          have h := read_write (fs := T) (x := a) (b := b) HT9.out.2.1 (by rw [HT2E.out]; exact HC9.out.2.1) HQ.out
          rw [HT2E.out] at h; exact h
        rw [hrw] at cR
        have hdb : (b.toList == b.toList) = true := by simp
        clear hrw
        go_wp2_with fail
        refine cR.mono ?_
        rintro e w10 ⟨rfl, hb10⟩
        replace hb10 := chain hx9 hb10
        clear hx9
        go_wp2
        go_ret
        exact ⟨rfl, hb10⟩
      · go_wp2_with fail
        refine cR.mono ?_
        rintro e w10 ⟨rfl, hb10⟩
        replace hb10 := chain hx9 hb10
        clear hx9
        go_wp2
        go_ret
        exact ⟨rfl, hb10⟩
end Go.Proofs.YtmgmmjnlnmidlaaDoor.lawTreeOwn
