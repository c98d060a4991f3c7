/- The law LexPlaces: the walk. -/
import Derived.Test.YtonpgohmoeeogaaGreatDoorMbeg
import Derived.Test.YtonpgohmoeeogaaGreatDoorMpln
import Derived.Test.YtonpgohmoeeogaaGreatDoorMwalk
namespace Go.Proofs.YtonpgohmoeeogaaGreatDoor.lawLexPlaces
open Go.RowKit Go.Shelf

theorem err_in {L : List UInt8} {p : Nat} (h : allS L = .error p) : p < L.length := by
  rw [allA_S] at h
  have := allA_err L.length 0 L (Nat.le_refl _) p h
  omega
theorem text_at {s : ByteArray} {a : Nat} {t : List UInt8} (h : (s.data.toList.drop a).take t.length = t) : s.extract a (a + t.length) = ⟨t.toArray⟩ := by
  apply ByteArray.ext
  rw [ByteArray.data_extract]
  apply Array.ext'
  rw [Array.toList_extract]
  simp only [List.extract, Nat.add_sub_cancel_left]
  exact h

set_option maxHeartbeats 8000000 in
set_option maxRecDepth 100000 in
theorem law (s : ByteArray) (w : World) (hs : s.size ≤ maxLen) (hG : GP w.heap.size w) :
    Calls Tryz.prog 10 #[.string s] w fun e w' => e = .returned (.bool true) ∧ Below w.heap.size w w' := by
  have c0 := begun4_any w hG
  have c1 := fun w' => short_any s 200 w' hs (by omega) (by omega)
  obtain ⟨S, hS⟩ : ∃ S : ByteArray, s.extract 0 (min s.size (200 : Int).toNat) = S := ⟨_, rfl⟩
  have hsz : S.size ≤ 200 := by rw [← hS, ByteArray.size_extract]; omega
  simp only [hS] at c1
  have c2 := fun w' => lexAll_any S w' (by omega)
  have C0 := Lib.hid c0; have C1 := Lib.hid c1; have C2 := Lib.hid c2
  have HSL : Hid (S.size = S.data.toList.length) := Lib.hid (Lib.size_eq S)
  have NQ := neq_word
  clear c0 c1 c2 hS hG
  go_enter Tryz.func10, Tryz.ntmps10
  go_wp2_with fail
  refine C0.out.mono ?_
  rintro e w1 ⟨rfl, hb1⟩
  have HB1 := Lib.hid hb1
  clear hb1
  go_wp2_with fail
  refine (C1.out _).mono ?_
  rintro e w2 ⟨rfl, rfl⟩
  go_wp2_with fail
  refine (C2.out _).mono ?_
  rintro e w2 ⟨he, hb2⟩
  have HB2 := Lib.hid (HB1.out.trans (hb2.mono HB1.out.size))
  clear hb2
  have hdef : True := trivial
  unfold AllE at he
  cases hA : allS S.data.toList with
  | error p =>
    rw [hA] at he
    have hp : p < S.size := by rw [HSL.out]; exact err_in hA
    subst he
    obtain ⟨z0, z1, _, _⟩ := cells2 (alloc_at w2 (.cells #[.int .i64 1, .int .i64 (p : Int)] 27))
    have q1 : (0 : Int) ≤ (p : Int) := by omega
    have q2 : (p : Int) < (S.size : Int) := by omega
    have HB3 := Lib.hid (HB2.out.alloc HB2.out.size (.cells #[.int .i64 1, .int .i64 (p : Int)] 27))
    clear hA
    go_wp2
    go_ret
    exact ⟨rfl, HB3.out⟩
  | ok ws =>
    rw [hA] at he
    obtain ⟨v, rfl, hw⟩ := he
    obtain ⟨hP, ys, hys⟩ := places_S hA
    obtain ⟨a, c, rfl, hlc, hcm⟩ := words_shape hw
    have hlm : ws.length ≤ maxLen := by omega
    unfold maxLen at hlm
    have hlen : ws.length = ys.length + 1 := by rw [hys]; simp
    have hlast : ws[ys.length]? = some (4, S.data.toList.length, []) := by rw [hys]; simp
    rw [← HSL.out] at hlast
    obtain ⟨z0, z1, _, _⟩ := cells2 (alloc_at w2 (.cells #[.int .i64 0, .int .i64 0] 27))
    have HB3 := Lib.hid (HB2.out.alloc HB2.out.size (.cells #[.int .i64 0, .int .i64 0] 27))
    have hb3 : Below w2.heap.size w2 (w2.alloc (.cells #[.int .i64 0, .int .i64 0] 27)) := (Below.refl _ _).alloc (Nat.le_refl _) _
    obtain ⟨b, o, c', he, hbs, hl⟩ := words_at hw hlast
    cases he
    obtain ⟨l0, l1, l2⟩ := hl _ hb3
    simp only at l0 l1 l2
    rw [show (⟨([] : List UInt8).toArray⟩ : ByteArray) = ByteArray.empty from rfl] at l2
    have HW := Lib.hid hw
    have HP := Lib.hid hP
    have HB := Lib.hid hb3
    clear hw hP hA hl hb3 hys hlast
    rw [hlen]
    rw [hlen] at hlc
    have NL := NQ 4 S.size ByteArray.empty
    have hlen' : Hid (ws.length = ys.length + 1) := Lib.hid hlen
    have hly : ys.length ≤ 9223372036854775806 := by omega
    have hy0 : ¬ ((ys.length : Int) + 1 = 0) := by omega
    have hy1 : ((ys.length : Int) + 1 == 0) = false := by simpa using hy0
    clear NQ hlen hlm
    go_wp2
    have HB0 := Lib.hid ((Below.refl w2.heap.size w2))
    obtain ⟨W, hW⟩ : ∃ W, w2.alloc (.cells #[.int .i64 0, .int .i64 0] 27) = W := ⟨_, rfl⟩
    rw [hW] at HB3 HB ⊢
    clear l0 l1 l2 z0 z1 hW
    go_loopw [6, 58] (fun v i wr => ∃ (k e : Nat) (p : Option Nat), k ≤ ys.length + 1 ∧ i = .int .i64 k ∧ v = .int .i64 e ∧ Below w2.heap.size w2 wr ∧ Below w.heap.size w wr ∧ PlacesOK S.data.toList e p (ws.drop k) ∧ (0 < k → ∃ y, ws[k - 1]? = some y ∧ p = some y.2.1))
      (fun _ i _ => ys.length + 1 - (intOf i).toNat)
    case atStart => exact ⟨0, 0, none, Nat.zero_le _, rfl, rfl, HB.out, HB3.out, HP.out, fun h => absurd h (by omega)⟩
    case round =>
      obtain ⟨k, e, p, hk, rfl, rfl, hn1, hn2, hpl, hpk⟩ := hrel
      have HN : Hid (∀ n, Below w2.heap.size w2 (wr.drewN n)) := by show ∀ n, _; exact fun n => below_drewN hn1 n
      have HN2 : Hid (∀ n, Below w.heap.size w (wr.drewN n)) := by show ∀ n, _; exact fun n => below_drewN hn2 n
      by_cases hlt : k < ys.length + 1
      · obtain ⟨x, hx⟩ : ∃ x, ws[k]? = some x := ⟨ws[k]'(by rw [hlen'.out]; exact hlt), List.getElem?_eq_getElem _⟩
        have hdr : ws.drop k = x :: ws.drop (k + 1) := by
          have h := List.drop_eq_getElem_cons (l := ws) (i := k) (by rw [hlen'.out]; exact hlt)
          rw [h]
          congr 1
          exact Option.some.inj ((List.getElem?_eq_getElem _).symm.trans hx)
        rw [hdr] at hpl
        obtain ⟨h1, h2, h3, h4⟩ := hpl
        obtain ⟨b1, o1, p1, q1, _, hk1⟩ := words_at HW.out hx
        cases q1
        obtain ⟨d0, d1, d2⟩ := hk1 _ hn1
        obtain ⟨xk, xa, xt⟩ := x
        simp only at h1 h2 h3 d0 d1 d2
        have hi1 : (k : Int) < (ys.length : Int) + 1 := by omega
        have hi0 : (0 : Int) ≤ (k : Int) := by omega
        have he1 : e ≤ xa := by omega
        have he2 : ¬ xa < e := by omega
        obtain ⟨T, hT⟩ : ∃ T : ByteArray, (⟨xt.toArray⟩ : ByteArray) = T := ⟨_, rfl⟩
        have hTs : xt.length = T.size := by rw [← hT]; rfl
        rw [hT] at d2
        have hsi : (k : Int) < 9223372036854775807 := by omega
        have TXT : Hid (xk = 1 ∨ xk = 3 → T.size ≠ 0 ∧ xa + T.size ≤ S.size ∧ S.extract xa (xa + T.size) = T) := by
          show xk = 1 ∨ xk = 3 → _
          intro h
          obtain ⟨g1, g2, g3⟩ := h3 h
          refine ⟨by rw [← hTs]; intro h; exact g1 (List.length_eq_zero_iff.1 h), by rw [← hTs, HSL.out]; exact g2, ?_⟩
          rw [← hTs]
          exact (text_at g3).trans hT
        obtain ⟨k1, hK1⟩ : ∃ k1, k + 1 = k1 := ⟨_, rfl⟩
        have END : Hid (∀ m : Nat, m = (if xk = 1 ∨ xk = 3 then xa + T.size else xa) → PlacesOK S.data.toList m (some xa) (ws.drop k1) ∧ (0 < k1 → ∃ y, ws[k1 - 1]? = some y ∧ some xa = some y.2.1)) := by
          show ∀ m : Nat, _
          intro m hm
          refine ⟨?_, fun _ => ⟨_, by rw [← hK1]; exact hx, rfl⟩⟩
          rw [hm, ← hTs, ← hK1]
          exact h4
        have HK1 := Lib.hid hK1
        have PREV : Hid (0 < k → ∃ j q : Nat, (k : Int) - 1 = j ∧ j < ys.length + 1 ∧ (xk ≠ 4 → ¬ xa ≤ q) ∧ wr.cell? ⟨b, o + j * 3 + 1, none⟩ = some (.int .i64 (q : Int))) := by
          show 0 < k → _
          intro h0
          obtain ⟨y, hy, hp⟩ := hpk h0
          obtain ⟨b2, o2, p2, q2, _, hk2⟩ := words_at HW.out hy
          cases q2
          obtain ⟨_, e1, _⟩ := hk2 _ hn1
          exact ⟨k - 1, y.2.1, by omega, by omega, fun h => by have := h2 y.2.1 hp h; omega, e1⟩
        clear h1 h2 h3 h4 hk1 hpk hdr hx hT hTs hn1 hn2 hK1
        by_cases hk0 : 0 < k
        · obtain ⟨j, q, hj, hjl, hjq, hjc⟩ := PREV.out hk0
          have hj1 : (j : Int) < (ys.length : Int) + 1 := by omega
          have hj0 : (0 : Int) ≤ (j : Int) := by omega
          have hk0' : (0 : Int) < (k : Int) := by omega
          by_cases hk1 : xk = 1
          · subst hk1
            obtain ⟨t1, t2, t3⟩ := TXT.out (.inl rfl)
            have t5 : ¬ S.size < xa + T.size := by omega
            have t6 : decide ((S.size : Int) < (xa : Int) + (T.size : Int)) = false := decide_eq_false (by omega)
            have t7 : xa + T.size ≤ S.size := t2
            have t8 : ((T.size : Int) == 0) = false := by simpa using t1
            have t9 : (T.size == 0) = false := by simpa using t1
            have hq := hjq (by decide)
            have hq2 : q < xa := by omega
            go_wp2_with fail
            go_big_quiet (fail)
            go_wp2_with fail
            go_big_quiet (fail)
            go_wp2
            go_roundw
            case rel => exact ⟨k1, xa + T.size, some xa, by have := HK1.out; omega, by have := HK1.out; subst this; go_num, by go_num, by first | exact HN.out _ | exact below_drewN (HN.out _) _, by first | exact HN2.out _ | exact below_drewN (HN2.out _) _, (END.out (xa + T.size) (by simp)).1, (END.out (xa + T.size) (by simp)).2⟩
            case measure => simp [intOf] <;> omega
          by_cases hk3 : xk = 3
          · subst hk3
            obtain ⟨t1, t2, t3⟩ := TXT.out (.inr rfl)
            have t5 : ¬ S.size < xa + T.size := by omega
            have t6 : decide ((S.size : Int) < (xa : Int) + (T.size : Int)) = false := decide_eq_false (by omega)
            have t7 : xa + T.size ≤ S.size := t2
            have t8 : ((T.size : Int) == 0) = false := by simpa using t1
            have t9 : (T.size == 0) = false := by simpa using t1
            have hq := hjq (by decide)
            have hq2 : q < xa := by omega
            go_wp2_with fail
            go_big_quiet (fail)
            go_wp2_with fail
            go_big_quiet (fail)
            go_wp2
            go_roundw
            case rel => exact ⟨k1, xa + T.size, some xa, by have := HK1.out; omega, by have := HK1.out; subst this; go_num, by go_num, by first | exact HN.out _ | exact below_drewN (HN.out _) _, by first | exact HN2.out _ | exact below_drewN (HN2.out _) _, (END.out (xa + T.size) (by simp)).1, (END.out (xa + T.size) (by simp)).2⟩
            case measure => simp [intOf] <;> omega
          have KK := Lib.hid (And.intro hk1 hk3)
          have hb1 : (xk == 1) = false := by simpa using hk1
          have hb3 : (xk == 3) = false := by simpa using hk3
          clear hk1 hk3
          by_cases hk4 : xk = 4
          · subst hk4
            by_cases hq : xa ≤ q
            · go_wp2_with fail
              go_big_quiet (fail)
              go_wp2
              go_roundw
              case rel => exact ⟨k1, xa, some xa, by have := HK1.out; omega, by have := HK1.out; subst this; go_num, by go_num, by first | exact HN.out _ | exact below_drewN (HN.out _) _, by first | exact HN2.out _ | exact below_drewN (HN2.out _) _, (END.out xa (by simp only [KK.out.1, KK.out.2, or_self, if_false])).1, (END.out xa (by simp only [KK.out.1, KK.out.2, or_self, if_false])).2⟩
              case measure => simp [intOf] <;> omega
            · have hq2 : q < xa := by omega
              go_wp2_with fail
              go_big_quiet (fail)
              go_wp2
              go_roundw
              case rel => exact ⟨k1, xa, some xa, by have := HK1.out; omega, by have := HK1.out; subst this; go_num, by go_num, by first | exact HN.out _ | exact below_drewN (HN.out _) _, by first | exact HN2.out _ | exact below_drewN (HN2.out _) _, (END.out xa (by simp only [KK.out.1, KK.out.2, or_self, if_false])).1, (END.out xa (by simp only [KK.out.1, KK.out.2, or_self, if_false])).2⟩
              case measure => simp [intOf] <;> omega
          have hq := hjq hk4
          have hq2 : q < xa := by omega
          clear hk4 hjq
          go_wp2_with fail
          go_big_quiet (fail)
          go_wp2
          go_roundw
          case rel => exact ⟨k1, xa, some xa, by have := HK1.out; omega, by have := HK1.out; subst this; go_num, by go_num, by first | exact HN.out _ | exact below_drewN (HN.out _) _, by first | exact HN2.out _ | exact below_drewN (HN2.out _) _, (END.out xa (by simp only [KK.out.1, KK.out.2, or_self, if_false])).1, (END.out xa (by simp only [KK.out.1, KK.out.2, or_self, if_false])).2⟩
          case measure => simp [intOf] <;> omega
        · obtain rfl : k = 0 := by omega
          simp only [Nat.zero_mul, Nat.add_zero] at d0 d1 d2
          by_cases hk1 : xk = 1
          · subst hk1
            obtain ⟨t1, t2, t3⟩ := TXT.out (.inl rfl)
            have t5 : ¬ S.size < xa + T.size := by omega
            have t6 : decide ((S.size : Int) < (xa : Int) + (T.size : Int)) = false := decide_eq_false (by omega)
            have t7 : xa + T.size ≤ S.size := t2
            have t8 : ((T.size : Int) == 0) = false := by simpa using t1
            have t9 : (T.size == 0) = false := by simpa using t1
            go_wp2_with fail
            go_big_quiet (fail)
            go_wp2_with fail
            go_big_quiet (fail)
            go_wp2
            go_roundw
            case rel => exact ⟨k1, xa + T.size, some xa, by have := HK1.out; omega, by have := HK1.out; subst this; go_num, by go_num, by first | exact HN.out _ | exact below_drewN (HN.out _) _, by first | exact HN2.out _ | exact below_drewN (HN2.out _) _, (END.out (xa + T.size) (by simp)).1, (END.out (xa + T.size) (by simp)).2⟩
            case measure => simp [intOf] <;> omega
          by_cases hk3 : xk = 3
          · subst hk3
            obtain ⟨t1, t2, t3⟩ := TXT.out (.inr rfl)
            have t5 : ¬ S.size < xa + T.size := by omega
            have t6 : decide ((S.size : Int) < (xa : Int) + (T.size : Int)) = false := decide_eq_false (by omega)
            have t7 : xa + T.size ≤ S.size := t2
            have t8 : ((T.size : Int) == 0) = false := by simpa using t1
            have t9 : (T.size == 0) = false := by simpa using t1
            go_wp2_with fail
            go_big_quiet (fail)
            go_wp2_with fail
            go_big_quiet (fail)
            go_wp2
            go_roundw
            case rel => exact ⟨k1, xa + T.size, some xa, by have := HK1.out; omega, by have := HK1.out; subst this; go_num, by go_num, by first | exact HN.out _ | exact below_drewN (HN.out _) _, by first | exact HN2.out _ | exact below_drewN (HN2.out _) _, (END.out (xa + T.size) (by simp)).1, (END.out (xa + T.size) (by simp)).2⟩
            case measure => simp [intOf] <;> omega
          have KK := Lib.hid (And.intro hk1 hk3)
          have hb1 : (xk == 1) = false := by simpa using hk1
          have hb3 : (xk == 3) = false := by simpa using hk3
          clear hk1 hk3
          go_wp2_with fail
          go_big_quiet (fail)
          go_wp2
          go_roundw
          case rel => exact ⟨k1, xa, some xa, by have := HK1.out; omega, by have := HK1.out; subst this; go_num, by go_num, by first | exact HN.out _ | exact below_drewN (HN.out _) _, by first | exact HN2.out _ | exact below_drewN (HN2.out _) _, (END.out xa (by simp only [KK.out.1, KK.out.2, or_self, if_false])).1, (END.out xa (by simp only [KK.out.1, KK.out.2, or_self, if_false])).2⟩
          case measure => simp [intOf] <;> omega
      · have hi1 : ¬ (k : Int) < (ys.length : Int) + 1 := by omega
        have HB4 := Lib.hid hn2
        clear hn1 hn2
        go_wp2
        go_ret
        exact ⟨rfl, HB4.out⟩
end Go.Proofs.YtonpgohmoeeogaaGreatDoor.lawLexPlaces
