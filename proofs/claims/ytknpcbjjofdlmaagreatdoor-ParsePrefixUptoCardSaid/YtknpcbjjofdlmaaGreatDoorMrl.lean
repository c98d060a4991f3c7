/- Contracts of the reference's words: hex, str. Contract of the reference's words: str. The reference's words: what a round of All does to what is left, as plain facts. Contract of the reference's words: All. Contract of the reference's words: Quote. -/
import Derived.Lib.ConvBytes
import Derived.Deep.RegionHeld3
import Derived.Test.YtknpcbjjofdlmaaGreatDoorMlex
import Derived.Lib.SlBytesRow
import Derived.Test.YtknpcbjjofdlmaaGreatDoorMwalk
import Derived.Test.YtknpcbjjofdlmaaGreatDoorMpri
namespace Go.Proofs.YtknpcbjjofdlmaaGreatDoor
open Go.RowKit Go.Shelf

def hexI (c : UInt8) : Int := ((hexV c).map fun (k : Nat) => (k : Int)).getD (-1)
theorem retx3_int {k : IntKind} {a b : Int} (h : a = b) : Ending.returned (.int k a) = .returned (.int k b) := by rw [h]
theorem hexR_any (c : UInt8) (w : World) :
    Calls Tryz.prog 140 #[.int .u8 c.toNat] w fun e w' => e = .returned (.int .i64 (hexI c)) ∧ w = w' := by
  have hb : c.toNat < 256 := c.toNat_lt
  obtain ⟨h, hh⟩ : ∃ h, hexI c = h := ⟨_, rfl⟩
  rw [hh]
  by_cases h1 : 48 ≤ c.toNat ∧ c.toNat ≤ 57
  · have he : h = (c.toNat : Int) - 48 := by rw [← hh]; unfold hexI hexV; rw [if_pos h1]; simp; omega
    have HE := Lib.hid he
    clear he hh
    obtain ⟨h1, h2⟩ := h1
    go_enter Tryz.func140, Tryz.ntmps140
    go_wp2
    all_goals go_ret
    all_goals exact ⟨retx3_int (by have := HE.out; omega), rfl⟩
  · by_cases h2 : 97 ≤ c.toNat ∧ c.toNat ≤ 102
    · have he : h = (c.toNat : Int) - 87 := by rw [← hh]; unfold hexI hexV; rw [if_neg h1, if_pos h2]; simp; omega
      have HE := Lib.hid he
      clear he hh h1
      obtain ⟨h1, h2⟩ := h2
      go_enter Tryz.func140, Tryz.ntmps140
      go_wp2
      all_goals go_ret
      all_goals exact ⟨retx3_int (by have := HE.out; omega), rfl⟩
    · have he : h = -1 := by rw [← hh]; unfold hexI hexV; rw [if_neg h1, if_neg h2]; rfl
      have HE := Lib.hid he
      clear he hh
      go_enter Tryz.func140, Tryz.ntmps140
      go_wp2
      all_goals go_ret
      all_goals exact ⟨retx3_int (by have := HE.out; omega), rfl⟩

theorem el_two {d x : UInt8} (t : List UInt8) (hc : (if d = 110 then some ((10 : UInt8), 2) else if d = 116 then some (9, 2) else if d = 92 ∨ d = 34 then some (d, 2) else none) = some (x, 2)) : elemS (92 :: d :: t) = some (x, 2) := by
  simp only [elemS, show plainB 92 = false by decide, Bool.false_eq_true, if_false, if_true]
  split at hc
  · rename_i e; rw [if_pos e]; exact hc
  · rename_i e; rw [if_neg e]
    split at hc
    · rename_i e; rw [if_pos e]; exact hc
    · rename_i e; rw [if_neg e]
      split at hc
      · rename_i e; rw [if_pos e]; exact hc
      · cases hc
theorem el_else {d : UInt8} (t : List UInt8) (h1 : d ≠ 110) (h2 : d ≠ 116) (h3 : d ≠ 92) (h4 : d ≠ 34) (h5 : d ≠ 120) : elemS (92 :: d :: t) = none := by
  simp [elemS, show plainB 92 = false by decide, h1, h2, h3, h4, h5]
theorem el_hex (t : List UInt8) : elemS (92 :: 120 :: t) = match t with
    | h :: l :: _ => match hexV h, hexV l with
      | some a, some b => some (UInt8.ofNat (16 * a + b), 4)
      | _, _ => none
    | _ => none := by
  rcases t with _ | ⟨x, _ | ⟨y, t⟩⟩ <;> rfl
theorem hexI_neg {c : UInt8} (h : hexI c < 0) : hexV c = none := hex_none rfl h
theorem hexI_pos {c : UInt8} (h : ¬ hexI c < 0) : ∃ n : Nat, hexV c = some n ∧ hexI c = n ∧ n < 16 := hex_some rfl h
theorem drop_two {L : List UInt8} {k : Nat} (h : k + 1 < L.length) : L.drop k = L[k] :: L[k + 1] :: L.drop (k + 2) := by
  rw [List.drop_eq_getElem_cons (by omega), List.drop_eq_getElem_cons h]
end Go.Proofs.YtknpcbjjofdlmaaGreatDoor
namespace Go.Proofs.YtknpcbjjofdlmaaGreatDoor
open Go.RowKit Go.Shelf

/-- The text so far, and what is still to be read. -/
def StrI (L : List UInt8) (p k : Nat) (T : ByteArray) : Prop := (strS (L.drop k)).map (fun x => (T.data.toList ++ x.1, (k - p) + x.2)) = strS (L.drop p)
theorem strI_start (L : List UInt8) (p : Nat) : StrI L p p ⟨#[]⟩ := by unfold StrI; simp
theorem strI_end {L : List UInt8} {p k : Nat} {T : ByteArray} (h : StrI L p k T) (hk : k < L.length) (hq : L[k] = 34) : strS (L.drop p) = some (T.data.toList, k - p + 1) := by
  rw [← h, List.drop_eq_getElem_cons hk, hq, strS_end]; simp
theorem strI_bad {L : List UInt8} {p k : Nat} {T : ByteArray} (h : StrI L p k T) (hk : k < L.length) (hq : L[k] ≠ 34) (he : elemS (L.drop k) = none) : strS (L.drop p) = none := by
  rw [← h]
  rw [List.drop_eq_getElem_cons hk] at he ⊢
  rw [strS_bad hq he]; rfl
theorem strI_over {L : List UInt8} {p k : Nat} {T : ByteArray} (h : StrI L p k T) (hk : L.length ≤ k) : strS (L.drop p) = none := by
  rw [← h, List.drop_eq_nil_of_le hk, strS_nil]; rfl
theorem strI_next {L : List UInt8} {p k : Nat} {T U : ByteArray} {c : UInt8} {n : Nat} (h : StrI L p k T) (hk : k < L.length) (hq : L[k] ≠ 34) (he : elemS (L.drop k) = some (c, n)) (hpk : p ≤ k) (hU : U.data.toList = [c]) : StrI L p (k + n) (T ++ U) := by
  unfold StrI at h ⊢
  rw [← h]
  have hd : L.drop (k + n) = (L.drop k).drop n := by rw [List.drop_drop]
  rw [hd]
  rw [List.drop_eq_getElem_cons hk] at he ⊢
  rw [strS_next hq he, Option.map_map]
  congr 1
  funext x
  have ht : (T ++ U).data.toList = T.data.toList ++ [c] := by rw [ByteArray.data_append, Array.toList_append, hU]
  simp only [Function.comp, ht, List.append_assoc, List.cons_append, List.nil_append, Prod.mk.injEq, true_and]
  omega
theorem size_one {U : ByteArray} {c : UInt8} (h : U.data.toList = [c]) : U.size = 1 := by rw [Lib.size_eq, h]; rfl
theorem plain_of {c : UInt8} (h1 : ¬ (c.toNat : Int) < 32) (h2 : ¬ (126 : Int) < c.toNat) (h3 : ¬ (c.toNat : Int) = 34) (h4 : ¬ (c.toNat : Int) = 92) : plainB c = true := by
  unfold plainB; simp only [decide_eq_true_eq]; omega
theorem plain_not {c : UInt8} (h : (c.toNat : Int) < 32 ∨ (126 : Int) < c.toNat) : plainB c = false := by
  unfold plainB; simp only [decide_eq_false_iff_not]; omega
theorem u8_other {c : UInt8} {n : Nat} (hn : n < 256) (h : ¬ (c.toNat : Int) = (n : Int)) : c ≠ UInt8.ofNat n := fun e => h (by rw [e, UInt8.toNat_ofNat']; omega)

set_option maxHeartbeats 1500000 in
set_option maxRecDepth 100000 in
theorem strR_any (s : ByteArray) (p : Nat) (w : World) (hs : s.size ≤ 1048576) (hp : p ≤ s.size) :
    Calls Tryz.prog 104 #[.string s, .int .i64 p] w fun e w' => StrE s.data.toList p e ∧ Below w.heap.size w w' := by
  obtain ⟨L, hL⟩ : ∃ L, s.data.toList = L := ⟨_, rfl⟩
  have hsz : s.size = L.length := by rw [← hL]; exact Lib.size_eq s
  rw [hL]
  have HL := Lib.hid hL
  have HSZ := Lib.hid hsz
  clear hL hsz
  go_enter Tryz.func104, Tryz.ntmps104
  go_wp2
  go_loopw [7, 8] (fun t i wr => ∃ (k : Nat) (T : ByteArray), i = .int .i64 k ∧ t = .string T ∧ p ≤ k ∧ k ≤ s.size ∧ T.size + p ≤ k ∧ StrI L p k T ∧ Below w.heap.size w wr)
    (fun _ i _ => s.size - (intOf i).toNat)
  case atStart => exact ⟨p, ⟨#[]⟩, rfl, rfl, Nat.le_refl _, hp, by simp [ByteArray.size], strI_start L p, Below.refl _ _⟩
  case round =>
    obtain ⟨k, T, rfl, rfl, hpk, hk, hT, hI, hnx⟩ := hrel
    have HI := Lib.hid hI
    have HN := Lib.hid hnx
    have hszw := hnx.size
    clear hI hnx
    by_cases hlt : k < s.size
    · have hlt' : k < L.length := by rw [← HSZ.out]; exact hlt
      have hget : L[k] = s[k] := by
        have := HL.out
        subst this
        rfl
      obtain ⟨c, hc⟩ : ∃ c, s[k] = c := ⟨_, rfl⟩
      have HLT := Lib.hid hlt'
      have HGET := Lib.hid (show L[k]'HLT.out = c from hget.trans hc)
      clear hget hlt'
      by_cases hc34 : (c.toNat : Int) = 34
      · have HG := Lib.hid (strI_end HI.out HLT.out (HGET.out.trans (u8_is (n := 34) (by omega) hc34)))
        go_wp2
        go_ret3
        exact ⟨strE_good HG.out (ret_str3 rfl (by omega)), HN.out⟩
      · have HQ := Lib.hid (show L[k]'HLT.out ≠ 34 by rw [HGET.out]; exact u8_other (n := 34) (by omega) hc34)
        have h34b : ((c.toNat : Int) == 34) = false := by simpa using hc34
        have HD := Lib.hid (List.drop_eq_getElem_cons HLT.out)
        by_cases hlo : (c.toNat : Int) < 32
        · have hb := strI_bad HI.out HLT.out HQ.out (by rw [HD.out, HGET.out]; exact elem_other (plain_not (.inl hlo)) (by intro e; rw [e] at hlo; revert hlo; decide) _)
          have HB := Lib.hid hb
          clear hb
          go_wp2
          go_ret3
          exact ⟨strE_bad HB.out rfl, HN.out⟩
        · by_cases hhi : (126 : Int) < c.toNat
          · have hb := strI_bad HI.out HLT.out HQ.out (by rw [HD.out, HGET.out]; exact elem_other (plain_not (.inr hhi)) (by intro e; rw [e] at hhi; revert hhi; decide) _)
            have HB := Lib.hid hb
            clear hb
            go_wp2
            go_ret3
            exact ⟨strE_bad HB.out rfl, HN.out⟩
          · by_cases h92 : (c.toNat : Int) = 92
            · have h92b : ((c.toNat : Int) != 92) = false := by simpa using h92
              have h92c : ((c.toNat : Int) == 92) = true := by simpa using h92
              have HC92 := Lib.hid (HGET.out.trans (u8_is (n := 92) (by omega) h92))
              by_cases hk1 : k + 1 < s.size
              · have hk1' : k + 1 < L.length := by rw [← HSZ.out]; exact hk1
                obtain ⟨d, hd⟩ : ∃ d, s[k + 1] = d := ⟨_, rfl⟩
                have hgd : L[k + 1] = d := by
                  have := HL.out
                  subst this
                  exact hd
                have HT2 := Lib.hid (show L.drop k = 92 :: d :: L.drop (k + 2) by rw [drop_two hk1', hgd, show L[k] = 92 from HC92.out])
                have hge : ¬ ((s.size : Int) ≤ (k : Int) + 1) := by omega
                clear hk1' hgd h92
                by_cases h110 : (d.toNat : Int) = 110
                · have hd1 : d = 110 := u8_is (n := 110) (by omega) h110
                  have hn := strI_next (U := ⟨#[10]⟩) (c := 10) (n := 2) HI.out HLT.out HQ.out (by rw [HT2.out]; exact el_two _ (by rw [hd1]; decide)) hpk rfl
                  have HNX := Lib.hid hn
                  have HU := Lib.hid (show (⟨#[10]⟩ : ByteArray).size = 1 by rfl)
                  have b110 : ((d.toNat : Int) == 110) = true := by simp [h110]
                  clear hn hd1
                  go_wp2
                  go_roundw
                  case rel => exact ⟨k + 2, T ++ ⟨#[10]⟩, by go_num, rfl, by omega, by omega, by rw [ByteArray.size_append, HU.out]; omega, HNX.out, HN.out⟩
                  case measure => simp [intOf]; omega
                · skip
                  by_cases h116 : (d.toNat : Int) = 116
                  · have hd1 : d = 116 := u8_is (n := 116) (by omega) h116
                    have hn := strI_next (U := ⟨#[9]⟩) (c := 9) (n := 2) HI.out HLT.out HQ.out (by rw [HT2.out]; exact el_two _ (by rw [hd1]; decide)) hpk rfl
                    have HNX := Lib.hid hn
                    have HU := Lib.hid (show (⟨#[9]⟩ : ByteArray).size = 1 by rfl)
                    have b110 : ((d.toNat : Int) == 110) = false := by simp [h110]
                    have b116 : ((d.toNat : Int) == 116) = true := by simp [h116]
                    clear hn hd1
                    go_wp2
                    go_roundw
                    case rel => exact ⟨k + 2, T ++ ⟨#[9]⟩, by go_num, rfl, by omega, by omega, by rw [ByteArray.size_append, HU.out]; omega, HNX.out, HN.out⟩
                    case measure => simp [intOf]; omega
                  · skip
                    by_cases h92 : (d.toNat : Int) = 92
                    · have hd1 : d = 92 := u8_is (n := 92) (by omega) h92
                      have hn := strI_next (U := s.extract (k + 1) (k + 1 + 1)) (c := 92) (n := 2) HI.out HLT.out HQ.out (by rw [HT2.out]; exact el_two _ (by rw [hd1]; decide)) hpk (by rw [ext_one s (k + 1) hk1, hd, hd1])
                      have HNX := Lib.hid hn
                      have HU := Lib.hid (show (s.extract (k + 1) (k + 1 + 1) : ByteArray).size = 1 by rw [ByteArray.size_extract]; omega)
                      have b110 : ((d.toNat : Int) == 110) = false := by simp [h110]
                      have b116 : ((d.toNat : Int) == 116) = false := by simp [h116]
                      have b92 : ((d.toNat : Int) == 92) = true := by simp [h92]
                      clear hn hd1
                      go_wp2
                      go_roundw
                      case rel => exact ⟨k + 2, T ++ s.extract (k + 1) (k + 1 + 1), by go_num, rfl, by omega, by omega, by rw [ByteArray.size_append, HU.out]; omega, HNX.out, HN.out⟩
                      case measure => simp [intOf]; omega
                    · skip
                      by_cases h34 : (d.toNat : Int) = 34
                      · have hd1 : d = 34 := u8_is (n := 34) (by omega) h34
                        have hn := strI_next (U := s.extract (k + 1) (k + 1 + 1)) (c := 34) (n := 2) HI.out HLT.out HQ.out (by rw [HT2.out]; exact el_two _ (by rw [hd1]; decide)) hpk (by rw [ext_one s (k + 1) hk1, hd, hd1])
                        have HNX := Lib.hid hn
                        have HU := Lib.hid (show (s.extract (k + 1) (k + 1 + 1) : ByteArray).size = 1 by rw [ByteArray.size_extract]; omega)
                        have b110 : ((d.toNat : Int) == 110) = false := by simp [h110]
                        have b116 : ((d.toNat : Int) == 116) = false := by simp [h116]
                        have b92 : ((d.toNat : Int) == 92) = false := by simp [h92]
                        have b34 : ((d.toNat : Int) == 34) = true := by simp [h34]
                        clear hn hd1
                        go_wp2
                        go_roundw
                        case rel => exact ⟨k + 2, T ++ s.extract (k + 1) (k + 1 + 1), by go_num, rfl, by omega, by omega, by rw [ByteArray.size_append, HU.out]; omega, HNX.out, HN.out⟩
                        case measure => simp [intOf]; omega
                      · skip
                        by_cases h120 : (d.toNat : Int) = 120
                        · have hd1 : d = 120 := u8_is (n := 120) (by omega) h120
                          have hE : elemS (L.drop k) = elemS (92 :: 120 :: L.drop (k + 2)) := by rw [HT2.out, hd1]
                          rw [el_hex] at hE
                          have HE := Lib.hid hE
                          have b110 : ((d.toNat : Int) == 110) = false := by simp [h110]
                          have b116 : ((d.toNat : Int) == 116) = false := by simp [h116]
                          have b92 : ((d.toNat : Int) == 92) = false := by simp [h92]
                          have b34 : ((d.toNat : Int) == 34) = false := by simp [h34]
                          have b120 : ((d.toNat : Int) == 120) = true := by simp [h120]
                          clear hd1 hE
                          by_cases h3 : k + 3 < s.size
                          · have HD3 := Lib.hid (drop_two (L := L) (k := k + 2) (by have := HSZ.out; omega))
                            obtain ⟨a0, ha0⟩ : ∃ a, s[k + 2] = a := ⟨_, rfl⟩
                            obtain ⟨a1, ha1⟩ : ∃ a, s[k + 3] = a := ⟨_, rfl⟩
                            have hge3 : ¬ ((s.size : Int) ≤ (k : Int) + 1 + 2) := by omega
                            obtain ⟨x0, hx0⟩ : ∃ x, hexI a0 = x := ⟨_, rfl⟩
                            obtain ⟨x1, hx1⟩ : ∃ x, hexI a1 = x := ⟨_, rfl⟩
                            have c0 := fun w => hexR_any a0 w
                            have c1 := fun w => hexR_any a1 w
                            simp only [hx0] at c0
                            simp only [hx1] at c1
                            have HA0 := Lib.hid (show L[k + 2]'(by have := HSZ.out; omega) = a0 by have := HL.out; subst this; exact ha0)
                            have HA1 := Lib.hid (show L[k + 2 + 1]'(by have := HSZ.out; omega) = a1 by have := HL.out; subst this; exact ha1)
                            have HX0 := Lib.hid hx0
                            have HX1 := Lib.hid hx1
                            have C0 := Lib.hid c0
                            have C1 := Lib.hid c1
                            clear c0 c1 hx0 hx1
                            by_cases hn0 : x0 < 0
                            · have hb := strI_bad HI.out HLT.out HQ.out (by rw [HE.out, HD3.out, HA0.out, HA1.out]; dsimp only; rw [hexI_neg (c := a0) (by rw [HX0.out]; exact hn0)])
                              have HB := Lib.hid hb
                              clear hb
                              go_wp2_with fail
                              refine (C0.out _).mono ?_
                              rintro e w2 ⟨rfl, rfl⟩
                              go_wp2
                              go_ret3
                              exact ⟨strE_bad HB.out rfl, HN.out⟩
                            · by_cases hn1 : x1 < 0
                              · have hb := strI_bad HI.out HLT.out HQ.out (by rw [HE.out, HD3.out, HA0.out, HA1.out]; dsimp only; rw [hexI_neg (c := a1) (by rw [HX1.out]; exact hn1)]; cases hexV a0 <;> rfl)
                                have HB := Lib.hid hb
                                clear hb
                                go_wp2_with fail
                                refine (C0.out _).mono ?_
                                rintro e w2 ⟨rfl, rfl⟩
                                go_wp2_with fail
                                refine (C1.out _).mono ?_
                                rintro e w2 ⟨rfl, rfl⟩
                                go_wp2
                                go_ret3
                                exact ⟨strE_bad HB.out rfl, HN.out⟩
                              · obtain ⟨n0, v0, q0, l0⟩ := hexI_pos (c := a0) (by rw [HX0.out]; exact hn0)
                                obtain ⟨n1, v1, q1, l1⟩ := hexI_pos (c := a1) (by rw [HX1.out]; exact hn1)
                                rw [HX0.out] at q0
                                rw [HX1.out] at q1
                                obtain ⟨y, hy⟩ : ∃ y, UInt8.ofNat (16 * n0 + n1) = y := ⟨_, rfl⟩
                                have hn := strI_next (U := ⟨#[y]⟩) (c := y) (n := 4) HI.out HLT.out HQ.out (by rw [HE.out, HD3.out, HA0.out, HA1.out]; simp only [v0, v1]; rw [hy]) hpk rfl
                                have HNX := Lib.hid hn
                                have HU := Lib.hid (show (⟨#[y]⟩ : ByteArray).size = 1 from rfl)
                                have hq1 : IntKind.i64.wrap ((n0 : Int) * 16) = (n0 : Int) * 16 := IntWalk.i64_in _ (by omega)
                                have hq2 : IntKind.i64.wrap ((n0 : Int) * 16 + (n1 : Int)) = (n0 : Int) * 16 + (n1 : Int) := IntWalk.i64_in _ (by omega)
                                have hq3 : IntKind.u8.wrap ((n0 : Int) * 16 + (n1 : Int)) = (y.toNat : Int) := by rw [← hy, UInt8.toNat_ofNat']; show ((n0 : Int) * 16 + (n1 : Int)) % 256 = _; omega
                                subst q0 q1
                                clear hn hy v0 v1
                                go_wp2_with fail
                                refine (C0.out _).mono ?_
                                rintro e w2 ⟨rfl, rfl⟩
                                go_wp2_with fail
                                refine (C1.out _).mono ?_
                                rintro e w2 ⟨rfl, rfl⟩
                                go_wp2_with fail
                                have HKM := Lib.hid hk
                                obtain ⟨m, hm⟩ : ∃ m : Nat, m = k + 1 := ⟨_, rfl⟩
                                have hmi : ((k : Int) + 1) = (m : Int) := by omega
                                rw [hmi]
                                have z0 : (0 : Int) ≤ (m : Int) + 1 := by omega
                                have z1 : (m : Int) + 1 < (s.size : Int) := by omega
                                have z2 : (0 : Int) ≤ (m : Int) + 2 := by omega
                                have z3 : (m : Int) + 2 < (s.size : Int) := by omega
                                have hw1 : IntKind.i64.wrap ((m : Int) + 1) = (m : Int) + 1 := IntWalk.i64_in _ (by omega)
                                have hw2 : IntKind.i64.wrap ((m : Int) + 2) = (m : Int) + 2 := IntWalk.i64_in _ (by omega)
                                have ht2 : ((m : Int) + 2).toNat = m + 2 := by omega
                                have hb1 : m + 1 < s.size := by omega
                                have hb2 : m + 2 < s.size := by omega
                                have hs0 : s[m + 1]'hb1 = a0 := by subst hm; exact ha0
                                have hs1 : s[m + 2]'hb2 = a1 := by subst hm; exact ha1
                                have HM := Lib.hid hm
                                clear ha0 ha1 hmi hm
                                have HS0 := Lib.hid HN.out.drew
                                refine wp_region_held_drew (S := fun w' => Below w.heap.size w w') (by kernel_rfl) ?_ (fun hHeld => ?_)
                                · exact HS0.out
                                refine wpAnyH_take (i := 0) (oi := _) (v := ?_) (by simp only [List.getElem?_toArray, List.getElem?_cons_zero]; rfl) (by kernel_rfl) (by kernel_rfl) (by kernel_rfl) (by exact fun _ _ _ h => h) (Or.inl ⟨by rfl, ?_⟩) (by assumption) ?_
                                rotate_left
                                · intro w hSw; go_simp; try with_reducible rfl
                                simp only [Act.put, List.setIfInBounds_toArray, List.set_cons_zero, List.set_cons_succ]
                                refine wpAnyH_take (i := 1) (oi := _) (v := ?_) (by simp only [List.getElem?_toArray, List.getElem?_cons_succ, List.getElem?_cons_zero]; rfl) (by kernel_rfl) (by kernel_rfl) (by kernel_rfl) (by exact fun _ _ _ h => h) (Or.inl ⟨by rfl, ?_⟩) (by assumption) ?_
                                rotate_left
                                · intro w hSw; go_simp; try with_reducible rfl
                                simp only [Act.put, List.setIfInBounds_toArray, List.set_cons_zero, List.set_cons_succ]
                                refine wpAnyH_take (i := 2) (oi := _) (v := ?_) (by simp only [List.getElem?_toArray, List.getElem?_cons_succ, List.getElem?_cons_zero]; rfl) (by kernel_rfl) (by kernel_rfl) (by kernel_rfl) (by exact fun _ _ _ h => h) (Or.inl ⟨by rfl, ?_⟩) (by assumption) ?_
                                rotate_left
                                · intro w hSw; go_simp; try with_reducible rfl
                                simp only [Act.put, List.setIfInBounds_toArray, List.set_cons_zero, List.set_cons_succ]
                                refine wpAnyH_take (i := 3) (oi := _) (v := ?_) (by simp only [List.getElem?_toArray, List.getElem?_cons_succ, List.getElem?_cons_zero]; rfl) (by kernel_rfl) (by kernel_rfl) (by kernel_rfl) (by exact fun _ _ _ h => h) (Or.inl ⟨by rfl, ?_⟩) (by assumption) ?_
                                rotate_left
                                · intro w hSw; go_simp; try with_reducible rfl
                                simp only [Act.put, List.setIfInBounds_toArray, List.set_cons_zero, List.set_cons_succ]
                                refine wpAnyH_take (i := 4) (oi := _) (v := ?_) (by simp only [List.getElem?_toArray, List.getElem?_cons_succ, List.getElem?_cons_zero]; rfl) (by kernel_rfl) (by kernel_rfl) (by kernel_rfl) (by exact fun _ _ _ h => h) (Or.inl ⟨by rfl, ?_⟩) (by assumption) ?_
                                rotate_left
                                · intro w hSw; go_simp; try with_reducible rfl
                                simp only [Act.put, List.setIfInBounds_toArray, List.set_cons_zero, List.set_cons_succ]
                                refine wpAnyH_take (i := 7) (oi := _) (v := ?_) (by simp only [List.getElem?_toArray, List.getElem?_cons_succ, List.getElem?_cons_zero]; rfl) (by kernel_rfl) (by kernel_rfl) (by kernel_rfl) (by exact fun _ _ _ h => h) (Or.inl ⟨by rfl, ?_⟩) (by assumption) ?_
                                rotate_left
                                · intro w hSw; go_simp; try with_reducible rfl
                                simp only [Act.put, List.setIfInBounds_toArray, List.set_cons_zero, List.set_cons_succ]
                                refine wpAnyH_take (i := 8) (oi := _) (v := ?_) (by simp only [List.getElem?_toArray, List.getElem?_cons_succ, List.getElem?_cons_zero]; rfl) (by kernel_rfl) (by kernel_rfl) (by kernel_rfl) (by exact fun _ _ _ h => h) (Or.inl ⟨by rfl, ?_⟩) (by assumption) ?_
                                rotate_left
                                · intro w hSw; go_simp; try with_reducible rfl
                                simp only [Act.put, List.setIfInBounds_toArray, List.set_cons_zero, List.set_cons_succ]
                                refine wpAnyH_take (i := 9) (oi := _) (v := ?_) (by simp only [List.getElem?_toArray, List.getElem?_cons_succ, List.getElem?_cons_zero]; rfl) (by kernel_rfl) (by kernel_rfl) (by kernel_rfl) (by exact fun _ _ _ h => h) (Or.inl ⟨by rfl, ?_⟩) (by assumption) ?_
                                rotate_left
                                · intro w hSw; go_simp; try with_reducible rfl
                                simp only [Act.put, List.setIfInBounds_toArray, List.set_cons_zero, List.set_cons_succ]
                                refine wpAnyH_take (i := 10) (oi := _) (v := ?_) (by simp only [List.getElem?_toArray, List.getElem?_cons_succ, List.getElem?_cons_zero]; rfl) (by kernel_rfl) (by kernel_rfl) (by kernel_rfl) (by exact fun _ _ _ h => h) (Or.inl ⟨by rfl, ?_⟩) (by assumption) ?_
                                rotate_left
                                · intro w hSw; go_simp; try with_reducible rfl
                                simp only [Act.put, List.setIfInBounds_toArray, List.set_cons_zero, List.set_cons_succ]
                                refine wpAnyH_ready (rs := [5]) (by kernel_rfl) (by simp) ?_
                                refine AllReadyH.cons (o := _) (by simp only [List.getElem?_toArray, List.getElem?_cons_succ, List.getElem?_cons_zero]; rfl) (fun K hK => ?_) ?_
                                rotate_left
                                · exact AllReadyH.nil
                                go_simp; go_at_call 140; refine (C0.out _).mono ?_; rintro e w' ⟨rfl, rfl⟩; try dsimp only
                                refine hK.out _ _ ?_ (fun hHeld => ?_)
                                · try dsimp only
                                  assumption
                                clear hK K
                                refine wpAnyH_take (i := 6) (oi := _) (v := ?_) (by simp only [List.getElem?_toArray, List.getElem?_cons_succ, List.getElem?_cons_zero]; rfl) (by kernel_rfl) (by kernel_rfl) (by kernel_rfl) (by exact fun _ _ _ h => h) (Or.inl ⟨by rfl, ?_⟩) (by assumption) ?_
                                rotate_left
                                · intro w hSw; go_simp; try with_reducible rfl
                                simp only [Act.put, List.setIfInBounds_toArray, List.set_cons_zero, List.set_cons_succ]
                                refine wpAnyH_ready (rs := [11]) (by kernel_rfl) (by simp) ?_
                                refine AllReadyH.cons (o := _) (by simp only [List.getElem?_toArray, List.getElem?_cons_succ, List.getElem?_cons_zero]; rfl) (fun K hK => ?_) ?_
                                rotate_left
                                · exact AllReadyH.nil
                                go_simp; go_at_call 140; refine (C1.out _).mono ?_; rintro e w' ⟨rfl, rfl⟩; try dsimp only
                                refine hK.out _ _ ?_ (fun hHeld => ?_)
                                · try dsimp only
                                  assumption
                                clear hK K
                                refine wpAnyH_take (i := 12) (oi := _) (v := ?_) (by simp only [List.getElem?_toArray, List.getElem?_cons_succ, List.getElem?_cons_zero]; rfl) (by kernel_rfl) (by kernel_rfl) (by kernel_rfl) (by exact fun _ _ _ h => h) (Or.inl ⟨by rfl, ?_⟩) (by assumption) ?_
                                rotate_left
                                · intro w hSw; go_simp; try with_reducible rfl
                                simp only [Act.put, List.setIfInBounds_toArray, List.set_cons_zero, List.set_cons_succ]
                                refine wpAnyH_take (i := 13) (oi := _) (v := ?_) (by simp only [List.getElem?_toArray, List.getElem?_cons_succ, List.getElem?_cons_zero]; rfl) (by kernel_rfl) (by kernel_rfl) (by kernel_rfl) (by exact fun _ _ _ h => h) (Or.inl ⟨by rfl, ?_⟩) (by assumption) ?_
                                rotate_left
                                · intro w hSw; go_simp; try with_reducible rfl
                                simp only [Act.put, List.setIfInBounds_toArray, List.set_cons_zero, List.set_cons_succ]
                                refine wpAnyH_ready (rs := [14]) (by kernel_rfl) (by simp) ?_
                                refine AllReadyH.cons (o := _) (by simp only [List.getElem?_toArray, List.getElem?_cons_succ, List.getElem?_cons_zero]; rfl) (fun K hK => ?_) ?_
                                rotate_left
                                · exact AllReadyH.nil
                                go_simp
                                refine hK.out _ _ ?_ (fun hHeld => ?_)
                                · try dsimp only
                                  exact Below.alloc (by assumption) (Below.size (by assumption)) _
                                clear hK K
                                have hcv : ∀ c, (Go.convert 28 9 (.slice (some ⟨wr.heap.size, 0, none⟩) 1 c)).run Tryz.prog (wr.alloc (.cells #[.int .u8 (y.toNat : Int)] 5)).drew = .ok (.string ⟨#[y]⟩) (wr.alloc (.cells #[.int .u8 (y.toNat : Int)] 5)).drew := by
                                  intro c
                                  refine Lib.run_convert_whole (P := Tryz.prog) _ 28 5 9 Tryz.underlying28 Tryz.underlying5 Tryz.underlying9 wr.heap.size 0 ⟨#[y]⟩ (fun i hi => ?_) c
                                  obtain rfl : i = 0 := by have h1 : i < 1 := hi; omega
                                  show (wr.alloc _).cell? _ = _
                                  rw [World.cell?_alloc_at _ _ _ _ rfl]; rfl
                                refine wpAnyH_ready (rs := [15]) (by kernel_rfl) (by simp) ?_
                                refine AllReadyH.cons (o := _) (by simp only [List.getElem?_toArray, List.getElem?_cons_succ, List.getElem?_cons_zero]; rfl) (fun K hK => ?_) ?_
                                rotate_left
                                · exact AllReadyH.nil
                                go_simp
                                refine hK.out _ _ ?_ (fun hHeld => ?_)
                                · try dsimp only
                                  assumption
                                clear hK K
                                have htl : ¬ (9223372036854775807 < T.size + 1) := by omega
                                refine wpAnyH_take (i := 16) (oi := _) (v := ?_) (by simp only [List.getElem?_toArray, List.getElem?_cons_succ, List.getElem?_cons_zero]; rfl) (by kernel_rfl) (by kernel_rfl) (by kernel_rfl) (by exact fun _ _ _ h => h) (Or.inl ⟨by rfl, ?_⟩) (by assumption) ?_
                                rotate_left
                                · intro w hSw; go_simp; try with_reducible rfl
                                simp only [Act.put, List.setIfInBounds_toArray, List.set_cons_zero, List.set_cons_succ]
                                refine wpAnyH_take (i := 17) (oi := _) (v := ?_) (by simp only [List.getElem?_toArray, List.getElem?_cons_succ, List.getElem?_cons_zero]; rfl) (by kernel_rfl) (by kernel_rfl) (by kernel_rfl) (by exact fun _ _ _ h => h) (Or.inl ⟨by rfl, ?_⟩) (by assumption) ?_
                                rotate_left
                                · intro w hSw; go_simp; try with_reducible rfl
                                simp only [Act.put, List.setIfInBounds_toArray, List.set_cons_zero, List.set_cons_succ]
                                refine wpAnyH_done (by kernel_rfl) ?_ _
                                have HNF := Lib.hid hHeld
                                have HKM2 := HM.out
                                have hmn : (m : Int) = (k : Int) + 1 := by omega
                                clear hHeld hcv HKM2
                                go_wp2
                                go_roundw
                                case rel => exact ⟨k + 4, T ++ ⟨#[y]⟩, by go_num, rfl, by omega, by omega, by rw [ByteArray.size_append, HU.out]; omega, HNX.out, HNF.out⟩
                                case measure => simp [intOf]; omega
                          · have hb := strI_bad HI.out HLT.out HQ.out (by
                              rw [HE.out]
                              have hl : (L.drop (k + 2)).length ≤ 1 := by rw [List.length_drop]; have := HSZ.out; omega
                              match L.drop (k + 2), hl with
                              | [], _ => rfl
                              | [x], _ => rfl)
                            have HB := Lib.hid hb
                            have hge3 : (s.size : Int) ≤ (k : Int) + 1 + 2 := by omega
                            clear hb
                            go_wp2
                            go_ret3
                            exact ⟨strE_bad HB.out rfl, HN.out⟩
                        · have hb := strI_bad HI.out HLT.out HQ.out (by rw [HT2.out]; exact el_else _ (u8_other (n := 110) (by omega) h110) (u8_other (n := 116) (by omega) h116) (u8_other (n := 92) (by omega) h92) (u8_other (n := 34) (by omega) h34) (u8_other (n := 120) (by omega) h120))
                          have HB := Lib.hid hb
                          clear hb
                          go_wp2
                          go_ret3
                          exact ⟨strE_bad HB.out rfl, HN.out⟩
              · have hb := strI_bad HI.out HLT.out HQ.out (by rw [HD.out, HGET.out, u8_is (n := 92) (by omega) h92, List.drop_eq_nil_of_le (by have := HSZ.out; omega)]; exact elem_alone (by decide))
                have HB := Lib.hid hb
                have hge : (s.size : Int) ≤ (k : Int) + 1 := by omega
                clear hb h92
                go_wp2
                go_ret3
                exact ⟨strE_bad HB.out rfl, HN.out⟩
            · have hn := strI_next (U := s.extract k (k + 1)) HI.out HLT.out HQ.out (by rw [HD.out, HGET.out]; exact elem_one (plain_of hlo hhi hc34 h92) _) hpk (by rw [ext_one s k hlt, hc])
              have HNX := Lib.hid hn
              have HU := Lib.hid (show (s.extract k (k + 1)).size = 1 by rw [ByteArray.size_extract]; omega)
              have h92b : ((c.toNat : Int) != 92) = true := by simpa using h92
              have h92c : ((c.toNat : Int) == 92) = false := by simpa using h92
              clear hn h92
              go_wp2
              go_roundw
              case rel => exact ⟨k + 1, T ++ s.extract k (k + 1), by go_num, rfl, by omega, by omega, by rw [ByteArray.size_append, HU.out]; omega, HNX.out, HN.out⟩
              case measure => simp [intOf]; omega
    · have HB := Lib.hid (strI_over HI.out (by have := HSZ.out; omega))
      go_wp2
      go_ret3
      exact ⟨strE_bad HB.out rfl, HN.out⟩
end Go.Proofs.YtknpcbjjofdlmaaGreatDoor
namespace Go.Proofs.YtknpcbjjofdlmaaGreatDoor
open Go.RowKit Go.Shelf

theorem all_blank {f a : Nat} {c : UInt8} (r : List UInt8) (h : blankB c = true) : allF (f + 1) a (c :: r) = allF (f + 1) (a + 1) r := by
  rw [allF_succ, allF_succ, skip_blank r h, List.drop_succ_cons, show a + (skipN false r + 1) = a + 1 + skipN false r by omega]
theorem all_remark {f a : Nat} {l : List UInt8} {c : UInt8} {r : List UInt8} (hl : l = c :: r) (h : c = 35) : allF (f + 1) a l = allF (f + 1) (a + runN (fun c => c != 10) l) (l.drop (runN (fun c => c != 10) l)) := by
  have h1 : skipN false l = runN (fun c => c != 10) l + skipN false (l.drop (runN (fun c => c != 10) l)) := by
    have e : runN (fun c => c != 10) l = runN (fun c => c != 10) r + 1 := by
      have := run_step (p := fun c => c != 10) (l := l) (k := 0) (by rw [hl]; simp) (by subst hl; simp [h])
      subst hl
      simpa using this
    rw [e]
    subst hl
    rw [skip_rem r h, skip_line, List.drop_succ_cons]
    omega
  rw [allF_succ, allF_succ, h1, ← Nat.add_assoc, List.drop_drop]
theorem name_or (c : UInt8) : nameB c = (okByte c || decide (c.toNat = 47)) := by
  rw [Bool.eq_iff_iff]; simp [nameB, okByte]; omega
theorem beq_no {c : UInt8} {n : Int} (h : ¬ (c.toNat : Int) = n) : ((c.toNat : Int) == n) = false := by simpa using h
theorem blank_cases {c : UInt8} (h : blankB c = true) : c = 32 ∨ c = 9 ∨ c = 10 ∨ c = 13 := by
  unfold blankB at h
  simp only [decide_eq_true_eq] at h
  rcases h with h | h | h | h
  · exact .inl (UInt8.toNat_inj.1 h)
  · exact .inr (.inl (UInt8.toNat_inj.1 h))
  · exact .inr (.inr (.inl (UInt8.toNat_inj.1 h)))
  · exact .inr (.inr (.inr (UInt8.toNat_inj.1 h)))
theorem blank_none {c : UInt8} (h : blankB c = false) : ¬ (c.toNat : Int) = 32 ∧ ¬ (c.toNat : Int) = 9 ∧ ¬ (c.toNat : Int) = 10 ∧ ¬ (c.toNat : Int) = 13 := by
  unfold blankB at h
  simp only [decide_eq_false_iff_not] at h
  omega
theorem punct_cases {c : UInt8} (h : punctB c = true) : c = 123 ∨ c = 125 ∨ c = 44 ∨ c = 59 ∨ c = 61 ∨ c = 40 ∨ c = 41 ∨ c = 43 ∨ c = 94 ∨ c = 58 ∨ c = 36 := by
  unfold punctB punctL at h
  simpa using h
theorem punct_none {c : UInt8} (h : punctB c = false) : ¬ (c.toNat : Int) = 123 ∧ ¬ (c.toNat : Int) = 125 ∧ ¬ (c.toNat : Int) = 44 ∧ ¬ (c.toNat : Int) = 59 ∧ ¬ (c.toNat : Int) = 61 ∧ ¬ (c.toNat : Int) = 40 ∧ ¬ (c.toNat : Int) = 41 ∧ ¬ (c.toNat : Int) = 43 ∧ ¬ (c.toNat : Int) = 94 ∧ ¬ (c.toNat : Int) = 58 ∧ ¬ (c.toNat : Int) = 36 := by
  have key : ∀ (n : Nat), n < 256 → (c.toNat : Int) = (n : Int) → c = UInt8.ofNat n := fun n hn e => u8_is hn e
  unfold punctB punctL at h
  simp at h
  obtain ⟨h1, h2, h3, h4, h5, h6, h7, h8, h9, h10, h11⟩ := h
  exact ⟨fun e => h1 (key 123 (by omega) e), fun e => h2 (key 125 (by omega) e), fun e => h3 (key 44 (by omega) e), fun e => h4 (key 59 (by omega) e), fun e => h5 (key 61 (by omega) e), fun e => h6 (key 40 (by omega) e), fun e => h7 (key 41 (by omega) e), fun e => h8 (key 43 (by omega) e), fun e => h9 (key 94 (by omega) e), fun e => h10 (key 58 (by omega) e), fun e => h11 (key 36 (by omega) e)⟩
end Go.Proofs.YtknpcbjjofdlmaaGreatDoor
namespace Go.Proofs.YtknpcbjjofdlmaaGreatDoor
open Go.RowKit Go.Shelf

theorem signX_any (c : UInt8) (w : World) :
    Calls Tryz.prog 103 #[.int .u8 c.toNat] w fun e w' => e = .returned (.bool (okByte c)) ∧ w = w' := by
  have hb : c.toNat < 256 := c.toNat_lt
  go_enter Tryz.func103, Tryz.ntmps103
  go_wp2
  all_goals go_ret
  all_goals exact ⟨retx_bool (by rw [Bool.eq_iff_iff]; simp [okByte]; omega), rfl⟩

/-- The words so far and what is left. -/
def AllI (L : List UInt8) (ws : List WordT) (f k : Nat) : Prop := joinW ws (allF f k (L.drop k)) = allS L
theorem allI_start (L : List UInt8) : AllI L [] (L.length + 1) 0 := by unfold AllI; rw [joinW_nil]; rfl
theorem allI_blank {L : List UInt8} {ws : List WordT} {f k : Nat} {c : UInt8} (h : AllI L ws (f + 1) k) (hd : L.drop k = c :: L.drop (k + 1)) (hc : blankB c = true) : AllI L ws (f + 1) (k + 1) := by
  unfold AllI at h ⊢
  rw [← h, hd, all_blank _ hc]
theorem allI_rem {L : List UInt8} {ws : List WordT} {f k : Nat} {c : UInt8} (h : AllI L ws (f + 1) k) (hd : L.drop k = c :: L.drop (k + 1)) (hc : c = 35) : AllI L ws (f + 1) (k + runN (fun c => c != 10) (L.drop k)) := by
  unfold AllI at h ⊢
  rw [← h, all_remark hd hc, List.drop_drop]
theorem allI_word {L : List UInt8} {ws : List WordT} {f k n : Nat} {c : UInt8} {kd : Int} {t : List UInt8} (h : AllI L ws (f + 1) k) (hd : L.drop k = c :: L.drop (k + 1)) (hb : blankB c = false) (hc : c ≠ 35) (hw : wordS (L.drop k) = some (kd, t, n)) : AllI L (ws ++ [(kd, k, t)]) f (k + n) := by
  unfold AllI at h ⊢
  rw [← h, all_word (by rw [hd]; simp) (by rw [hd]; exact skip_stop _ hb hc) hw, joinW_join, List.drop_drop]
theorem allI_none {L : List UInt8} {ws : List WordT} {f k : Nat} {c : UInt8} (h : AllI L ws (f + 1) k) (hd : L.drop k = c :: L.drop (k + 1)) (hb : blankB c = false) (hc : c ≠ 35) (hw : wordS (L.drop k) = none) : allS L = .error k := by
  unfold AllI at h
  rw [← h, all_bad (by rw [hd]; simp) (by rw [hd]; exact skip_stop _ hb hc) hw]; rfl
theorem allI_end {L : List UInt8} {ws : List WordT} {f k : Nat} (h : AllI L ws (f + 1) k) (hk : L.length ≤ k) : allS L = .ok (ws ++ [(4, k, [])]) := by
  unfold AllI at h
  rw [← h, all_end (List.drop_eq_nil_of_le hk)]; rfl

/-- Where a round stands: the words' row, the error's cell, what has been left alone. -/
structure AllM (w wr : World) (v : Value) (ws : List WordT) : Prop where
  own : wr.ownsRow (w.heap.size + 1) 50 3 v (wordRows ws).length (wordRows ws).flatten
  err : wr.heap[w.heap.size]? = some (.cells #[.int .i64 0, .int .i64 0] 34)
  nx : Below w.heap.size w wr
  big : w.heap.size + 1 ≤ wr.heap.size
theorem AllM.step {w wr w2 : World} {v : Value} {ws : List WordT} (h : AllM w wr v ws) (hb : Below wr.heap.size wr w2) : AllM w w2 v ws :=
  ⟨h.own.kept (row := none) ⟨hb.os, hb.tape, hb.output, hb.size, fun g hg _ => hb.block g hg⟩ (by cases h : Value.ownBlock _ <;> simp), (hb.block _ (by have := h.big; omega)).trans h.err, h.nx.trans (hb.mono h.nx.size), Nat.le_trans h.big hb.size⟩
theorem AllM.add {w wr w3 : World} {v v' : Value} {ws : List WordT} {x : WordT} {o : Obj} (h : AllM w wr v ws)
    (hown : w3.ownsRow (w.heap.size + 1) 50 3 v' ((wordRows ws).length + 1) ((wordRows ws).flatten ++ wordRow x)) (hg : (wr.alloc o).grownBy w3 v.ownBlock) : AllM w w3 v' (ws ++ [x]) := by
  have hlt := fun b hb => (h.own.lt b hb).1
  have hb := h.big
  refine ⟨?_, ?_, ?_, ?_⟩
  · rw [wordRows_append, List.length_append, List.flatten_append]
    simpa [wordRows] using hown
  · rw [hg.block _ (by simp; omega) (fun e => by have := hlt _ e.symm; omega), Below.heap_alloc _ _ _ (by omega)]
    exact h.err
  · exact (h.nx.alloc h.nx.size _).grown hg (by simp; omega) (fun b hb => by have := hlt b hb; omega)
  · have := hg.size; simp at this; omega

theorem new3 (w : World) (T : TypeId) (x0 x1 x2 : Value) : ∀ (j : Nat) u, [x0, x1, x2][j]? = some u → (w.alloc (.cells #[x0, x1, x2] T)).cell? ((⟨w.heap.size, 0, none⟩ : Addr).add j) = some u := by
  intro j u hj
  match j, hj with
  | 0, hj => simp at hj; subst hj; simp [Addr.add]
  | 1, hj => simp at hj; subst hj; simp [Addr.add]
  | 2, hj => simp at hj; subst hj; simp [Addr.add]

set_option maxHeartbeats 40000000 in
set_option maxRecDepth 100000 in
theorem refAll_any (s : ByteArray) (w : World) (hs : s.size ≤ 1048575) :
    Calls Tryz.prog 58 #[.string s] w fun e w' => AllE s.data.toList e w' ∧ Below w.heap.size w w' := by
  obtain ⟨L, hL⟩ : ∃ L, s.data.toList = L := ⟨_, rfl⟩
  have hsz : s.size = L.length := by rw [← hL]; exact Lib.size_eq s
  rw [hL]
  obtain ⟨i0, hi, hz0, hz1, hz2⟩ := info_of info_word
  have CST : Hid (∀ p w, p ≤ s.size → Calls Tryz.prog 104 #[.string s, .int .i64 (p : Nat)] w fun e w' => StrE L p e ∧ Below w.heap.size w w') := by
    show ∀ p w, _
    intro p w hp
    have := strR_any s p w (by omega) hp
    rwa [hL] at this
  have HSZ := Lib.hid hsz
  have HL := Lib.hid hL
  have h0 : AllM w (w.alloc (.cells #[.int .i64 0, .int .i64 0] 34)) (.slice none 0 0) [] := ⟨⟨by simp [wordRows], .inl ⟨rfl, rfl⟩⟩, alloc_at w _, (Below.refl _ _).alloc (Nat.le_refl _) _, by simp⟩
  have H0 := Lib.hid h0
  clear hL hsz h0
  go_enter Tryz.func58, Tryz.ntmps58
  go_wp2
  go_loopw [4, 5] (fun v i wr => ∃ (k f : Nat) (ws : List WordT), i = .int .i64 k ∧ k ≤ s.size ∧ ws.length ≤ k ∧ s.size - k < f ∧ AllI L ws f k ∧ AllM w wr v ws)
    (fun _ i _ => s.size - (intOf i).toNat)
  case atStart => exact ⟨0, L.length + 1, [], rfl, by omega, by simp, by have := HSZ.out; omega, allI_start L, H0.out⟩
  case round =>
    obtain ⟨k, f, ws, rfl, hk, hwl, hf, hI, hM⟩ := hrel
    obtain ⟨f, rfl⟩ : ∃ g, f = g + 1 := ⟨f - 1, by omega⟩
    have HI := Lib.hid hI
    have HM := Lib.hid hM
    have hbig := hM.big
    have hrl := wordRows_length ws
    clear hI hM
    by_cases hlt : k < s.size
    · have hlt' : k < L.length := by rw [← HSZ.out]; exact hlt
      have hget : L[k] = s[k] := by
        have := HL.out
        subst this
        rfl
      obtain ⟨c, hc⟩ : ∃ c, s[k] = c := ⟨_, rfl⟩
      have HLT := Lib.hid hlt'
      have HGET := Lib.hid (show L[k]'HLT.out = c from hget.trans hc)
      have HD := Lib.hid (show L.drop k = c :: L.drop (k + 1) by rw [List.drop_eq_getElem_cons HLT.out, HGET.out])
      clear hget hlt'
      by_cases hb : blankB c = true
      · have HN := Lib.hid (allI_blank HI.out HD.out hb)
        rcases blank_cases hb with rfl | rfl | rfl | rfl
        all_goals clear hb
        all_goals go_wp2
        all_goals go_roundw
        all_goals first | (case rel => exact ⟨k + 1, f + 1, ws, by go_num, by omega, by omega, by omega, HN.out, HM.out⟩) | skip
        all_goals (simp [intOf]; omega)
      · have HB := Lib.hid (show blankB c = false by simpa using hb)
        obtain ⟨n32, n9, n10, n13⟩ := blank_none HB.out
        have b32 := beq_no n32
        have b9 := beq_no n9
        have b10 := beq_no n10
        have b13 := beq_no n13
        clear n32 n9 n10 n13 hb
        by_cases h35 : (c.toNat : Int) = 35
        · have hcc : c = 35 := u8_is (n := 35) (by omega) h35
          have hn := allI_rem HI.out HD.out hcc
          have hrun : runN (fun c => c != 10) (L.drop k) = runN (fun c => c != 10) (L.drop (k + 1)) + 1 := run_step HLT.out (by rw [HGET.out, hcc]; rfl)
          have hle := run_le (fun c => c != 10) L k (by have := HSZ.out; omega)
          obtain ⟨E, hE⟩ : ∃ E, k + runN (fun c => c != 10) (L.drop k) = E := ⟨_, rfl⟩
          rw [hE] at hn hle
          rw [← HSZ.out] at hle
          have hkE : k < E := by omega
          have HN := Lib.hid hn
          have HE := Lib.hid hE
          have b35 : ((c.toNat : Int) == 35) = true := by simpa using h35
          clear hn hrun hE hcc h35
          go_wp2_with fail
          go_loop [5] (fun i => ∃ m : Nat, i = .int .i64 m ∧ m ≤ s.size ∧ m + runN (fun c => c != 10) (L.drop m) = E) (fun i => s.size - (intOf i).toNat)
          case atStart => exact ⟨k, rfl, hk, HE.out⟩
          case round =>
            obtain ⟨m, rfl, hm, hr⟩ := hrel
            have HR := Lib.hid hr
            clear hr
            by_cases hlm : m < s.size
            · have hlm' : m < L.length := by rw [← HSZ.out]; exact hlm
              have hgm : L[m] = s[m] := by
                have := HL.out
                subst this
                rfl
              obtain ⟨d, hd⟩ : ∃ d, s[m] = d := ⟨_, rfl⟩
              by_cases h10 : (d.toNat : Int) = 10
              · have hx : L[m] = 10 := by rw [hgm, hd]; exact u8_is (n := 10) (by omega) h10
                have hme : m = E := by rw [← HR.out, run_stop hlm' (by rw [hx]; rfl)]; rfl
                have n10 : ((d.toNat : Int) != 10) = false := by simpa using h10
                clear hx hgm h10
                subst hme
                go_wp2
                go_roundw
                case rel => exact ⟨m, f + 1, ws, rfl, by omega, by omega, by omega, HN.out, HM.out⟩
                case measure => simp [intOf]; omega
              · have hx : L[m] ≠ 10 := by rw [hgm, hd]; exact u8_other (n := 10) (by omega) h10
                have hme : m + 1 + runN (fun c => c != 10) (L.drop (m + 1)) = E := by rw [← HR.out, run_step hlm' (by simpa using hx)]; omega
                have HME := Lib.hid hme
                have n10 : ((d.toNat : Int) != 10) = true := by simpa using h10
                clear hx hgm h10 hme
                go_wp2
                go_round
                case rel => exact ⟨m + 1, by go_num, by omega, HME.out⟩
                case measure => simp [intOf]; omega
            · have hme : m = E := by rw [← HR.out, run_over (by have := HSZ.out; omega)]; rfl
              subst hme
              go_wp2
              go_roundw
              case rel => exact ⟨m, f + 1, ws, rfl, by omega, by omega, by omega, HN.out, HM.out⟩
              case measure => simp [intOf]; omega
        · have H35 := Lib.hid (show c ≠ 35 from u8_other (n := 35) (by omega) h35)
          have b35 := beq_no h35
          clear h35
          obtain ⟨q, hq⟩ : ∃ q, okByte c = q := ⟨_, rfl⟩
          have cS := fun w => signX_any c w
          simp only [hq] at cS
          have CS := Lib.hid cS
          have HQ := Lib.hid hq
          clear cS hq
          by_cases hnm : nameB c = true
          · have hw := word_name HLT.out (by rw [HGET.out]; intro e; rw [e] at hnm; revert hnm; decide) (by rw [HGET.out]; exact hnm)
            have hn := allI_word HI.out HD.out HB.out H35.out hw
            have hle := run_le nameB L k (by have := HSZ.out; omega)
            have hge : 1 ≤ runN nameB (L.drop k) := by rw [run_step HLT.out (by rw [HGET.out]; exact hnm)]; omega
            obtain ⟨en, hen⟩ : ∃ en, k + runN nameB (L.drop k) = en := ⟨_, rfl⟩
            rw [hen] at hn hle
            rw [← HSZ.out] at hle
            have hke : k < en := by omega
            have HN := Lib.hid hn
            have HEN := Lib.hid hen
            have HNM := Lib.hid hnm
            clear hn hen hge hw hnm
            cases q
            · have h47 : (c.toNat : Int) = 47 := by have := HNM.out; rw [name_or, HQ.out] at this; simp at this; omega
              have b47 : ((c.toNat : Int) == 47) = true := by simpa using h47
              clear h47
              as_aux_lemma =>
                go_wp2_with fail
                refine (CS.out _).mono ?_
                rintro e w2 ⟨rfl, rfl⟩
                go_wp2_with fail
                go_loop [7] (fun i => ∃ m : Nat, i = .int .i64 m ∧ k ≤ m ∧ m ≤ s.size ∧ m + runN nameB (L.drop m) = en) (fun i => s.size - (intOf i).toNat)
                case atStart => exact ⟨k, rfl, Nat.le_refl _, hk, HEN.out⟩
                case round =>
                  obtain ⟨m, rfl, hkm, hm, hr⟩ := hrel
                  have HR := Lib.hid hr
                  clear hr
                  by_cases hlm : m < s.size
                  · have hlm' : m < L.length := by rw [← HSZ.out]; exact hlm
                    have hgm : L[m] = s[m] := by
                      have := HL.out
                      subst this
                      rfl
                    obtain ⟨d, hd⟩ : ∃ d, s[m] = d := ⟨_, rfl⟩
                    have HLM := Lib.hid hlm'
                    have HGM := Lib.hid (show L[m]'HLM.out = d from hgm.trans hd)
                    obtain ⟨r, hr⟩ : ∃ r, okByte d = r := ⟨_, rfl⟩
                    have cT := fun w => signX_any d w
                    simp only [hr] at cT
                    have CT := Lib.hid cT
                    have HROK := Lib.hid hr
                    clear cT hr hgm hlm'
                    cases r
                    · by_cases h47 : (d.toNat : Int) = 47
                      · have c47 : ((d.toNat : Int) == 47) = true := by simpa using h47
                        have hnb : nameB d = true := by rw [name_or, HROK.out]; simp; omega
                        have hme : m + 1 + runN nameB (L.drop (m + 1)) = en := by rw [← HR.out, run_step HLM.out (by rw [HGM.out]; exact hnb)]; omega
                        have HME := Lib.hid hme
                        clear hme hnb h47
                        go_wp2_with fail
                        refine (CT.out _).mono ?_
                        rintro e w2 ⟨rfl, rfl⟩
                        go_wp2
                        go_round
                        case rel => exact ⟨m + 1, by go_num, by omega, by omega, HME.out⟩
                        case measure => simp [intOf]; omega
                      · have c47 := beq_no h47
                        have hnb : nameB d = false := by rw [name_or, HROK.out]; simp; omega
                        have hme : m = en := by rw [← HR.out, run_stop HLM.out (by rw [HGM.out]; exact hnb)]; rfl
                        subst hme
                        clear hnb
                        go_wp2_with fail
                        refine (CT.out _).mono ?_
                        rintro e w2 ⟨rfl, rfl⟩
                        have hX : s.extract k m = ⟨((L.drop k).takeWhile nameB).toArray⟩ := by rw [← HEN.out, ← HL.out]; exact ext_run s k
                        have hk2 : k ≤ m := by omega
                        have HX := Lib.hid hX
                        clear hX
                        go_wp2_with (at_builtin; refine wpList_append_own _ rfl _ _ 45 rfl (w.heap.size + 1) 50 i0 (.agg #[.int .i64 0, .int .i64 0, .string ByteArray.empty]) 3 32 Tryz.underlying45 hi hz0 hz1 hz2 rfl (by decide) _ _ _ rfl (HM.out.own.alloc _) ⟨wr.heap.size, 0, none⟩ 1 1 [.int .i64 1, .int .i64 (k : Nat), .string (s.extract k m)] rfl rfl ?c1u2 ?c2u2 ?c3u2 ?c4u2 ?c5u2 ?_)
                        try case c1u2 => exact new3 _ _ _ _ _
                        try case c2u2 => first | (intro u hu; simp at hu; rcases hu with rfl | rfl | rfl <;> rfl) | exact ⟨rfl, rfl, rfl⟩
                        try case c3u2 => first | (unfold maxLen; omega) | omega
                        try case c4u2 => omega
                        try case c5u2 => first | omega | (simp; omega)
                        intro v' w3 hown' hgrow _
                        have hM3 : AllM w w3 v' (ws ++ [(1, k, (L.drop k).takeWhile nameB)]) := HM.out.add (x := (1, k, (L.drop k).takeWhile nameB)) (by unfold wordRow; rw [← HX.out, hrl]; exact hown') hgrow
                        have HM3 := Lib.hid hM3
                        clear hgrow hown' hM3
                        go_wp2
                        go_roundw
                        case rel => exact ⟨m, f, _, rfl, by omega, by rw [List.length_append]; simp only [List.length_cons, List.length_nil]; omega, by omega, HN.out, HM3.out⟩
                        case measure => simp [intOf]; omega
                    · skip
                      have hnb : nameB d = true := by rw [name_or, HROK.out]; rfl
                      have hme : m + 1 + runN nameB (L.drop (m + 1)) = en := by rw [← HR.out, run_step HLM.out (by rw [HGM.out]; exact hnb)]; omega
                      have HME := Lib.hid hme
                      clear hme hnb
                      go_wp2_with fail
                      refine (CT.out _).mono ?_
                      rintro e w2 ⟨rfl, rfl⟩
                      go_wp2
                      go_round
                      case rel => exact ⟨m + 1, by go_num, by omega, by omega, HME.out⟩
                      case measure => simp [intOf]; omega
                  · have hme : m = en := by rw [← HR.out, run_over (by have := HSZ.out; omega)]; rfl
                    subst hme
                    have hX : s.extract k m = ⟨((L.drop k).takeWhile nameB).toArray⟩ := by rw [← HEN.out, ← HL.out]; exact ext_run s k
                    have hk2 : k ≤ m := by omega
                    have HX := Lib.hid hX
                    clear hX
                    go_wp2_with (at_builtin; refine wpList_append_own _ rfl _ _ 45 rfl (w.heap.size + 1) 50 i0 (.agg #[.int .i64 0, .int .i64 0, .string ByteArray.empty]) 3 32 Tryz.underlying45 hi hz0 hz1 hz2 rfl (by decide) _ _ _ rfl (HM.out.own.alloc _) ⟨wr.heap.size, 0, none⟩ 1 1 [.int .i64 1, .int .i64 (k : Nat), .string (s.extract k m)] rfl rfl ?c1u3 ?c2u3 ?c3u3 ?c4u3 ?c5u3 ?_)
                    try case c1u3 => exact new3 _ _ _ _ _
                    try case c2u3 => first | (intro u hu; simp at hu; rcases hu with rfl | rfl | rfl <;> rfl) | exact ⟨rfl, rfl, rfl⟩
                    try case c3u3 => first | (unfold maxLen; omega) | omega
                    try case c4u3 => omega
                    try case c5u3 => first | omega | (simp; omega)
                    intro v' w3 hown' hgrow _
                    have hM3 : AllM w w3 v' (ws ++ [(1, k, (L.drop k).takeWhile nameB)]) := HM.out.add (x := (1, k, (L.drop k).takeWhile nameB)) (by unfold wordRow; rw [← HX.out, hrl]; exact hown') hgrow
                    have HM3 := Lib.hid hM3
                    clear hgrow hown' hM3
                    go_wp2
                    go_roundw
                    case rel => exact ⟨m, f, _, rfl, by omega, by rw [List.length_append]; simp only [List.length_cons, List.length_nil]; omega, by omega, HN.out, HM3.out⟩
                    case measure => simp [intOf]; omega
            · as_aux_lemma =>
                go_wp2_with fail
                refine (CS.out _).mono ?_
                rintro e w2 ⟨rfl, rfl⟩
                go_wp2_with fail
                go_loop [7] (fun i => ∃ m : Nat, i = .int .i64 m ∧ k ≤ m ∧ m ≤ s.size ∧ m + runN nameB (L.drop m) = en) (fun i => s.size - (intOf i).toNat)
                case atStart => exact ⟨k, rfl, Nat.le_refl _, hk, HEN.out⟩
                case round =>
                  obtain ⟨m, rfl, hkm, hm, hr⟩ := hrel
                  have HR := Lib.hid hr
                  clear hr
                  by_cases hlm : m < s.size
                  · have hlm' : m < L.length := by rw [← HSZ.out]; exact hlm
                    have hgm : L[m] = s[m] := by
                      have := HL.out
                      subst this
                      rfl
                    obtain ⟨d, hd⟩ : ∃ d, s[m] = d := ⟨_, rfl⟩
                    have HLM := Lib.hid hlm'
                    have HGM := Lib.hid (show L[m]'HLM.out = d from hgm.trans hd)
                    obtain ⟨r, hr⟩ : ∃ r, okByte d = r := ⟨_, rfl⟩
                    have cT := fun w => signX_any d w
                    simp only [hr] at cT
                    have CT := Lib.hid cT
                    have HROK := Lib.hid hr
                    clear cT hr hgm hlm'
                    cases r
                    · by_cases h47 : (d.toNat : Int) = 47
                      · have c47 : ((d.toNat : Int) == 47) = true := by simpa using h47
                        have hnb : nameB d = true := by rw [name_or, HROK.out]; simp; omega
                        have hme : m + 1 + runN nameB (L.drop (m + 1)) = en := by rw [← HR.out, run_step HLM.out (by rw [HGM.out]; exact hnb)]; omega
                        have HME := Lib.hid hme
                        clear hme hnb h47
                        go_wp2_with fail
                        refine (CT.out _).mono ?_
                        rintro e w2 ⟨rfl, rfl⟩
                        go_wp2
                        go_round
                        case rel => exact ⟨m + 1, by go_num, by omega, by omega, HME.out⟩
                        case measure => simp [intOf]; omega
                      · have c47 := beq_no h47
                        have hnb : nameB d = false := by rw [name_or, HROK.out]; simp; omega
                        have hme : m = en := by rw [← HR.out, run_stop HLM.out (by rw [HGM.out]; exact hnb)]; rfl
                        subst hme
                        clear hnb
                        go_wp2_with fail
                        refine (CT.out _).mono ?_
                        rintro e w2 ⟨rfl, rfl⟩
                        have hX : s.extract k m = ⟨((L.drop k).takeWhile nameB).toArray⟩ := by rw [← HEN.out, ← HL.out]; exact ext_run s k
                        have hk2 : k ≤ m := by omega
                        have HX := Lib.hid hX
                        clear hX
                        go_wp2_with (at_builtin; refine wpList_append_own _ rfl _ _ 45 rfl (w.heap.size + 1) 50 i0 (.agg #[.int .i64 0, .int .i64 0, .string ByteArray.empty]) 3 32 Tryz.underlying45 hi hz0 hz1 hz2 rfl (by decide) _ _ _ rfl (HM.out.own.alloc _) ⟨wr.heap.size, 0, none⟩ 1 1 [.int .i64 1, .int .i64 (k : Nat), .string (s.extract k m)] rfl rfl ?c1u4 ?c2u4 ?c3u4 ?c4u4 ?c5u4 ?_)
                        try case c1u4 => exact new3 _ _ _ _ _
                        try case c2u4 => first | (intro u hu; simp at hu; rcases hu with rfl | rfl | rfl <;> rfl) | exact ⟨rfl, rfl, rfl⟩
                        try case c3u4 => first | (unfold maxLen; omega) | omega
                        try case c4u4 => omega
                        try case c5u4 => first | omega | (simp; omega)
                        intro v' w3 hown' hgrow _
                        have hM3 : AllM w w3 v' (ws ++ [(1, k, (L.drop k).takeWhile nameB)]) := HM.out.add (x := (1, k, (L.drop k).takeWhile nameB)) (by unfold wordRow; rw [← HX.out, hrl]; exact hown') hgrow
                        have HM3 := Lib.hid hM3
                        clear hgrow hown' hM3
                        go_wp2
                        go_roundw
                        case rel => exact ⟨m, f, _, rfl, by omega, by rw [List.length_append]; simp only [List.length_cons, List.length_nil]; omega, by omega, HN.out, HM3.out⟩
                        case measure => simp [intOf]; omega
                    · skip
                      have hnb : nameB d = true := by rw [name_or, HROK.out]; rfl
                      have hme : m + 1 + runN nameB (L.drop (m + 1)) = en := by rw [← HR.out, run_step HLM.out (by rw [HGM.out]; exact hnb)]; omega
                      have HME := Lib.hid hme
                      clear hme hnb
                      go_wp2_with fail
                      refine (CT.out _).mono ?_
                      rintro e w2 ⟨rfl, rfl⟩
                      go_wp2
                      go_round
                      case rel => exact ⟨m + 1, by go_num, by omega, by omega, HME.out⟩
                      case measure => simp [intOf]; omega
                  · have hme : m = en := by rw [← HR.out, run_over (by have := HSZ.out; omega)]; rfl
                    subst hme
                    have hX : s.extract k m = ⟨((L.drop k).takeWhile nameB).toArray⟩ := by rw [← HEN.out, ← HL.out]; exact ext_run s k
                    have hk2 : k ≤ m := by omega
                    have HX := Lib.hid hX
                    clear hX
                    go_wp2_with (at_builtin; refine wpList_append_own _ rfl _ _ 45 rfl (w.heap.size + 1) 50 i0 (.agg #[.int .i64 0, .int .i64 0, .string ByteArray.empty]) 3 32 Tryz.underlying45 hi hz0 hz1 hz2 rfl (by decide) _ _ _ rfl (HM.out.own.alloc _) ⟨wr.heap.size, 0, none⟩ 1 1 [.int .i64 1, .int .i64 (k : Nat), .string (s.extract k m)] rfl rfl ?c1u5 ?c2u5 ?c3u5 ?c4u5 ?c5u5 ?_)
                    try case c1u5 => exact new3 _ _ _ _ _
                    try case c2u5 => first | (intro u hu; simp at hu; rcases hu with rfl | rfl | rfl <;> rfl) | exact ⟨rfl, rfl, rfl⟩
                    try case c3u5 => first | (unfold maxLen; omega) | omega
                    try case c4u5 => omega
                    try case c5u5 => first | omega | (simp; omega)
                    intro v' w3 hown' hgrow _
                    have hM3 : AllM w w3 v' (ws ++ [(1, k, (L.drop k).takeWhile nameB)]) := HM.out.add (x := (1, k, (L.drop k).takeWhile nameB)) (by unfold wordRow; rw [← HX.out, hrl]; exact hown') hgrow
                    have HM3 := Lib.hid hM3
                    clear hgrow hown' hM3
                    go_wp2
                    go_roundw
                    case rel => exact ⟨m, f, _, rfl, by omega, by rw [List.length_append]; simp only [List.length_cons, List.length_nil]; omega, by omega, HN.out, HM3.out⟩
                    case measure => simp [intOf]; omega
          · have hnm' : nameB c = false := by simpa using hnm
            have hq0 : q = false := by rw [← HQ.out]; have h := hnm'; rw [name_or] at h; exact (Bool.or_eq_false_iff.1 h).1
            have b47 : ((c.toNat : Int) == 47) = false := beq_no (by have h := hnm'; rw [name_or] at h; have := (Bool.or_eq_false_iff.1 h).2; simp at this; omega)
            subst hq0
            have HNM := Lib.hid hnm'
            clear hnm hnm'
            by_cases h34 : (c.toNat : Int) = 34
            · as_aux_lemma =>
                have hw := word_string HLT.out (HGET.out.trans (u8_is (n := 34) (by omega) h34))
                have b34 : ((c.toNat : Int) == 34) = true := by simpa using h34
                have cT := CST.out (k + 1) wr (by omega)
                unfold StrE at cT
                have HW := Lib.hid hw
                clear hw h34
                cases hS : strS (L.drop (k + 1)) with
                | none =>
                  rw [hS] at cT
                  simp only at cT
                  have hbad := allI_none HI.out HD.out HB.out H35.out (by rw [HW.out, hS]; rfl)
                  have HBAD := Lib.hid hbad
                  clear hbad hS
                  go_wp2_with fail
                  refine (CS.out _).mono ?_
                  rintro e w2 ⟨rfl, rfl⟩
                  go_wp2_with fail
                  refine cT.mono ?_
                  rintro e w2 ⟨rfl, hb2⟩
                  have hM2 := HM.out.step hb2
                  obtain ⟨e0, e1, f0, f1⟩ := cells2 hM2.err
                  have HM2 := Lib.hid hM2
                  clear hb2 hM2 cT
                  go_wp2
                  refine bodyPost_ret (results_tc rfl _ _ w.heap.size _ _ _ _ rfl (heap_set _ _ (heap_set _ _ HM2.out.err)) Tryz.underlying34 rfl (by kernel_rfl)) rfl ?_
                  exact ⟨allE_bad HBAD.out rfl, (HM2.out.nx.setCell (Nat.le_refl _) _).setCell (Nat.le_refl _) _⟩
                | some y =>
                  obtain ⟨t, n⟩ := y
                  rw [hS] at cT
                  simp only at cT
                  have hn := allI_word HI.out HD.out HB.out H35.out (show wordS (L.drop k) = some (2, t, n + 1) by rw [HW.out, hS]; rfl)
                  have hpos := strF_pos _ hS
                  rw [List.length_drop, ← HSZ.out] at hpos
                  simp only at hpos
                  obtain ⟨en, hen⟩ : ∃ en, k + 1 + n = en := ⟨_, rfl⟩
                  rw [show k + (n + 1) = en by omega] at hn
                  rw [hen] at cT
                  have hke : k < en := by omega
                  have hle : en ≤ s.size := by omega
                  have HN := Lib.hid hn
                  clear hn hS hpos hen
                  go_wp2_with fail
                  refine (CS.out _).mono ?_
                  rintro e w2 ⟨rfl, rfl⟩
                  go_wp2_with fail
                  refine cT.mono ?_
                  rintro e w2 ⟨rfl, hb2⟩
                  have HM2 := Lib.hid (HM.out.step hb2)
                  have hbig2 := HM2.out.big
                  clear hb2 cT
                  go_wp2_with (at_builtin; refine wpList_append_own _ rfl _ _ 45 rfl (w.heap.size + 1) 50 i0 (.agg #[.int .i64 0, .int .i64 0, .string ByteArray.empty]) 3 32 Tryz.underlying45 hi hz0 hz1 hz2 rfl (by decide) _ _ _ rfl (HM2.out.own.alloc _) ⟨w2.heap.size, 0, none⟩ 1 1 [.int .i64 2, .int .i64 (k : Nat), .string (⟨t.toArray⟩)] rfl rfl ?c1u6 ?c2u6 ?c3u6 ?c4u6 ?c5u6 ?_)
                  try case c1u6 => exact new3 _ _ _ _ _
                  try case c2u6 => first | (intro u hu; simp at hu; rcases hu with rfl | rfl | rfl <;> rfl) | exact ⟨rfl, rfl, rfl⟩
                  try case c3u6 => first | (unfold maxLen; omega) | omega
                  try case c4u6 => omega
                  try case c5u6 => first | omega | (simp; omega)
                  intro v' w3 hown' hgrow _
                  have hM3 : AllM w w3 v' (ws ++ [(2, k, t)]) := HM2.out.add (x := (2, k, t)) (by unfold wordRow; rw [← (show (⟨t.toArray⟩ : ByteArray) = ⟨t.toArray⟩ from rfl), hrl]; exact hown') hgrow
                  have HM3 := Lib.hid hM3
                  clear hgrow hown' hM3
                  go_wp2
                  go_roundw
                  case rel => exact ⟨en, f, _, rfl, by omega, by rw [List.length_append]; simp only [List.length_cons, List.length_nil]; omega, by omega, HN.out, HM3.out⟩
                  case measure => simp [intOf]; omega
            · have HQ34 := Lib.hid (show L[k]'HLT.out ≠ 34 by rw [HGET.out]; exact u8_other (n := 34) (by omega) h34)
              have b34 := beq_no h34
              clear h34
              by_cases hp : punctB c = true
              · have hn := allI_word HI.out HD.out HB.out H35.out (word_punct HLT.out HQ34.out (by rw [HGET.out]; exact HNM.out) (by rw [HGET.out]; exact hp))
                have hX : s.extract k (k + 1) = ⟨[L[k]'HLT.out].toArray⟩ := by rw [ext_one s k hlt, HGET.out, hc]
                have HX := Lib.hid hX
                have HN := Lib.hid hn
                clear hn hX
                rcases punct_cases hp with h | h | h | h | h | h | h | h | h | h | h
                · as_aux_lemma =>
                    have hv : (c.toNat : Int) = 123 := by rw [h]; rfl
                    have p123 : ((c.toNat : Int) == 123) = true := by simpa using hv
                    clear h hv hp
                    go_wp2_with fail
                    refine (CS.out _).mono ?_
                    rintro e w2 ⟨rfl, rfl⟩
                    go_wp2_with (at_builtin; refine wpList_append_own _ rfl _ _ 45 rfl (w.heap.size + 1) 50 i0 (.agg #[.int .i64 0, .int .i64 0, .string ByteArray.empty]) 3 32 Tryz.underlying45 hi hz0 hz1 hz2 rfl (by decide) _ _ _ rfl (HM.out.own.alloc _) ⟨wr.heap.size, 0, none⟩ 1 1 [.int .i64 3, .int .i64 (k : Nat), .string (s.extract k (k + 1))] rfl rfl ?c1u7 ?c2u7 ?c3u7 ?c4u7 ?c5u7 ?_)
                    try case c1u7 => exact new3 _ _ _ _ _
                    try case c2u7 => first | (intro u hu; simp at hu; rcases hu with rfl | rfl | rfl <;> rfl) | exact ⟨rfl, rfl, rfl⟩
                    try case c3u7 => first | (unfold maxLen; omega) | omega
                    try case c4u7 => omega
                    try case c5u7 => first | omega | (simp; omega)
                    intro v' w3 hown' hgrow _
                    have hM3 : AllM w w3 v' (ws ++ [(3, k, [L[k]'HLT.out])]) := HM.out.add (x := (3, k, [L[k]'HLT.out])) (by unfold wordRow; rw [← HX.out, hrl]; exact hown') hgrow
                    have HM3 := Lib.hid hM3
                    clear hgrow hown' hM3
                    go_wp2
                    go_roundw
                    case rel => exact ⟨k + 1, f, _, by go_num, by omega, by rw [List.length_append]; simp only [List.length_cons, List.length_nil]; omega, by omega, HN.out, HM3.out⟩
                    case measure => simp [intOf]; omega
                · as_aux_lemma =>
                    have hv : (c.toNat : Int) = 125 := by rw [h]; rfl
                    have p123 : ((c.toNat : Int) == 123) = false := beq_no (by omega)
                    have p125 : ((c.toNat : Int) == 125) = true := by simpa using hv
                    clear h hv hp
                    go_wp2_with fail
                    refine (CS.out _).mono ?_
                    rintro e w2 ⟨rfl, rfl⟩
                    go_wp2_with (at_builtin; refine wpList_append_own _ rfl _ _ 45 rfl (w.heap.size + 1) 50 i0 (.agg #[.int .i64 0, .int .i64 0, .string ByteArray.empty]) 3 32 Tryz.underlying45 hi hz0 hz1 hz2 rfl (by decide) _ _ _ rfl (HM.out.own.alloc _) ⟨wr.heap.size, 0, none⟩ 1 1 [.int .i64 3, .int .i64 (k : Nat), .string (s.extract k (k + 1))] rfl rfl ?c1u8 ?c2u8 ?c3u8 ?c4u8 ?c5u8 ?_)
                    try case c1u8 => exact new3 _ _ _ _ _
                    try case c2u8 => first | (intro u hu; simp at hu; rcases hu with rfl | rfl | rfl <;> rfl) | exact ⟨rfl, rfl, rfl⟩
                    try case c3u8 => first | (unfold maxLen; omega) | omega
                    try case c4u8 => omega
                    try case c5u8 => first | omega | (simp; omega)
                    intro v' w3 hown' hgrow _
                    have hM3 : AllM w w3 v' (ws ++ [(3, k, [L[k]'HLT.out])]) := HM.out.add (x := (3, k, [L[k]'HLT.out])) (by unfold wordRow; rw [← HX.out, hrl]; exact hown') hgrow
                    have HM3 := Lib.hid hM3
                    clear hgrow hown' hM3
                    go_wp2
                    go_roundw
                    case rel => exact ⟨k + 1, f, _, by go_num, by omega, by rw [List.length_append]; simp only [List.length_cons, List.length_nil]; omega, by omega, HN.out, HM3.out⟩
                    case measure => simp [intOf]; omega
                · as_aux_lemma =>
                    have hv : (c.toNat : Int) = 44 := by rw [h]; rfl
                    have p123 : ((c.toNat : Int) == 123) = false := beq_no (by omega)
                    have p125 : ((c.toNat : Int) == 125) = false := beq_no (by omega)
                    have p44 : ((c.toNat : Int) == 44) = true := by simpa using hv
                    clear h hv hp
                    go_wp2_with fail
                    refine (CS.out _).mono ?_
                    rintro e w2 ⟨rfl, rfl⟩
                    go_wp2_with (at_builtin; refine wpList_append_own _ rfl _ _ 45 rfl (w.heap.size + 1) 50 i0 (.agg #[.int .i64 0, .int .i64 0, .string ByteArray.empty]) 3 32 Tryz.underlying45 hi hz0 hz1 hz2 rfl (by decide) _ _ _ rfl (HM.out.own.alloc _) ⟨wr.heap.size, 0, none⟩ 1 1 [.int .i64 3, .int .i64 (k : Nat), .string (s.extract k (k + 1))] rfl rfl ?c1u9 ?c2u9 ?c3u9 ?c4u9 ?c5u9 ?_)
                    try case c1u9 => exact new3 _ _ _ _ _
                    try case c2u9 => first | (intro u hu; simp at hu; rcases hu with rfl | rfl | rfl <;> rfl) | exact ⟨rfl, rfl, rfl⟩
                    try case c3u9 => first | (unfold maxLen; omega) | omega
                    try case c4u9 => omega
                    try case c5u9 => first | omega | (simp; omega)
                    intro v' w3 hown' hgrow _
                    have hM3 : AllM w w3 v' (ws ++ [(3, k, [L[k]'HLT.out])]) := HM.out.add (x := (3, k, [L[k]'HLT.out])) (by unfold wordRow; rw [← HX.out, hrl]; exact hown') hgrow
                    have HM3 := Lib.hid hM3
                    clear hgrow hown' hM3
                    go_wp2
                    go_roundw
                    case rel => exact ⟨k + 1, f, _, by go_num, by omega, by rw [List.length_append]; simp only [List.length_cons, List.length_nil]; omega, by omega, HN.out, HM3.out⟩
                    case measure => simp [intOf]; omega
                · as_aux_lemma =>
                    have hv : (c.toNat : Int) = 59 := by rw [h]; rfl
                    have p123 : ((c.toNat : Int) == 123) = false := beq_no (by omega)
                    have p125 : ((c.toNat : Int) == 125) = false := beq_no (by omega)
                    have p44 : ((c.toNat : Int) == 44) = false := beq_no (by omega)
                    have p59 : ((c.toNat : Int) == 59) = true := by simpa using hv
                    clear h hv hp
                    go_wp2_with fail
                    refine (CS.out _).mono ?_
                    rintro e w2 ⟨rfl, rfl⟩
                    go_wp2_with (at_builtin; refine wpList_append_own _ rfl _ _ 45 rfl (w.heap.size + 1) 50 i0 (.agg #[.int .i64 0, .int .i64 0, .string ByteArray.empty]) 3 32 Tryz.underlying45 hi hz0 hz1 hz2 rfl (by decide) _ _ _ rfl (HM.out.own.alloc _) ⟨wr.heap.size, 0, none⟩ 1 1 [.int .i64 3, .int .i64 (k : Nat), .string (s.extract k (k + 1))] rfl rfl ?c1u10 ?c2u10 ?c3u10 ?c4u10 ?c5u10 ?_)
                    try case c1u10 => exact new3 _ _ _ _ _
                    try case c2u10 => first | (intro u hu; simp at hu; rcases hu with rfl | rfl | rfl <;> rfl) | exact ⟨rfl, rfl, rfl⟩
                    try case c3u10 => first | (unfold maxLen; omega) | omega
                    try case c4u10 => omega
                    try case c5u10 => first | omega | (simp; omega)
                    intro v' w3 hown' hgrow _
                    have hM3 : AllM w w3 v' (ws ++ [(3, k, [L[k]'HLT.out])]) := HM.out.add (x := (3, k, [L[k]'HLT.out])) (by unfold wordRow; rw [← HX.out, hrl]; exact hown') hgrow
                    have HM3 := Lib.hid hM3
                    clear hgrow hown' hM3
                    go_wp2
                    go_roundw
                    case rel => exact ⟨k + 1, f, _, by go_num, by omega, by rw [List.length_append]; simp only [List.length_cons, List.length_nil]; omega, by omega, HN.out, HM3.out⟩
                    case measure => simp [intOf]; omega
                · as_aux_lemma =>
                    have hv : (c.toNat : Int) = 61 := by rw [h]; rfl
                    have p123 : ((c.toNat : Int) == 123) = false := beq_no (by omega)
                    have p125 : ((c.toNat : Int) == 125) = false := beq_no (by omega)
                    have p44 : ((c.toNat : Int) == 44) = false := beq_no (by omega)
                    have p59 : ((c.toNat : Int) == 59) = false := beq_no (by omega)
                    have p61 : ((c.toNat : Int) == 61) = true := by simpa using hv
                    clear h hv hp
                    go_wp2_with fail
                    refine (CS.out _).mono ?_
                    rintro e w2 ⟨rfl, rfl⟩
                    go_wp2_with (at_builtin; refine wpList_append_own _ rfl _ _ 45 rfl (w.heap.size + 1) 50 i0 (.agg #[.int .i64 0, .int .i64 0, .string ByteArray.empty]) 3 32 Tryz.underlying45 hi hz0 hz1 hz2 rfl (by decide) _ _ _ rfl (HM.out.own.alloc _) ⟨wr.heap.size, 0, none⟩ 1 1 [.int .i64 3, .int .i64 (k : Nat), .string (s.extract k (k + 1))] rfl rfl ?c1u11 ?c2u11 ?c3u11 ?c4u11 ?c5u11 ?_)
                    try case c1u11 => exact new3 _ _ _ _ _
                    try case c2u11 => first | (intro u hu; simp at hu; rcases hu with rfl | rfl | rfl <;> rfl) | exact ⟨rfl, rfl, rfl⟩
                    try case c3u11 => first | (unfold maxLen; omega) | omega
                    try case c4u11 => omega
                    try case c5u11 => first | omega | (simp; omega)
                    intro v' w3 hown' hgrow _
                    have hM3 : AllM w w3 v' (ws ++ [(3, k, [L[k]'HLT.out])]) := HM.out.add (x := (3, k, [L[k]'HLT.out])) (by unfold wordRow; rw [← HX.out, hrl]; exact hown') hgrow
                    have HM3 := Lib.hid hM3
                    clear hgrow hown' hM3
                    go_wp2
                    go_roundw
                    case rel => exact ⟨k + 1, f, _, by go_num, by omega, by rw [List.length_append]; simp only [List.length_cons, List.length_nil]; omega, by omega, HN.out, HM3.out⟩
                    case measure => simp [intOf]; omega
                · as_aux_lemma =>
                    have hv : (c.toNat : Int) = 40 := by rw [h]; rfl
                    have p123 : ((c.toNat : Int) == 123) = false := beq_no (by omega)
                    have p125 : ((c.toNat : Int) == 125) = false := beq_no (by omega)
                    have p44 : ((c.toNat : Int) == 44) = false := beq_no (by omega)
                    have p59 : ((c.toNat : Int) == 59) = false := beq_no (by omega)
                    have p61 : ((c.toNat : Int) == 61) = false := beq_no (by omega)
                    have p40 : ((c.toNat : Int) == 40) = true := by simpa using hv
                    clear h hv hp
                    go_wp2_with fail
                    refine (CS.out _).mono ?_
                    rintro e w2 ⟨rfl, rfl⟩
                    go_wp2_with (at_builtin; refine wpList_append_own _ rfl _ _ 45 rfl (w.heap.size + 1) 50 i0 (.agg #[.int .i64 0, .int .i64 0, .string ByteArray.empty]) 3 32 Tryz.underlying45 hi hz0 hz1 hz2 rfl (by decide) _ _ _ rfl (HM.out.own.alloc _) ⟨wr.heap.size, 0, none⟩ 1 1 [.int .i64 3, .int .i64 (k : Nat), .string (s.extract k (k + 1))] rfl rfl ?c1u12 ?c2u12 ?c3u12 ?c4u12 ?c5u12 ?_)
                    try case c1u12 => exact new3 _ _ _ _ _
                    try case c2u12 => first | (intro u hu; simp at hu; rcases hu with rfl | rfl | rfl <;> rfl) | exact ⟨rfl, rfl, rfl⟩
                    try case c3u12 => first | (unfold maxLen; omega) | omega
                    try case c4u12 => omega
                    try case c5u12 => first | omega | (simp; omega)
                    intro v' w3 hown' hgrow _
                    have hM3 : AllM w w3 v' (ws ++ [(3, k, [L[k]'HLT.out])]) := HM.out.add (x := (3, k, [L[k]'HLT.out])) (by unfold wordRow; rw [← HX.out, hrl]; exact hown') hgrow
                    have HM3 := Lib.hid hM3
                    clear hgrow hown' hM3
                    go_wp2
                    go_roundw
                    case rel => exact ⟨k + 1, f, _, by go_num, by omega, by rw [List.length_append]; simp only [List.length_cons, List.length_nil]; omega, by omega, HN.out, HM3.out⟩
                    case measure => simp [intOf]; omega
                · as_aux_lemma =>
                    have hv : (c.toNat : Int) = 41 := by rw [h]; rfl
                    have p123 : ((c.toNat : Int) == 123) = false := beq_no (by omega)
                    have p125 : ((c.toNat : Int) == 125) = false := beq_no (by omega)
                    have p44 : ((c.toNat : Int) == 44) = false := beq_no (by omega)
                    have p59 : ((c.toNat : Int) == 59) = false := beq_no (by omega)
                    have p61 : ((c.toNat : Int) == 61) = false := beq_no (by omega)
                    have p40 : ((c.toNat : Int) == 40) = false := beq_no (by omega)
                    have p41 : ((c.toNat : Int) == 41) = true := by simpa using hv
                    clear h hv hp
                    go_wp2_with fail
                    refine (CS.out _).mono ?_
                    rintro e w2 ⟨rfl, rfl⟩
                    go_wp2_with (at_builtin; refine wpList_append_own _ rfl _ _ 45 rfl (w.heap.size + 1) 50 i0 (.agg #[.int .i64 0, .int .i64 0, .string ByteArray.empty]) 3 32 Tryz.underlying45 hi hz0 hz1 hz2 rfl (by decide) _ _ _ rfl (HM.out.own.alloc _) ⟨wr.heap.size, 0, none⟩ 1 1 [.int .i64 3, .int .i64 (k : Nat), .string (s.extract k (k + 1))] rfl rfl ?c1u13 ?c2u13 ?c3u13 ?c4u13 ?c5u13 ?_)
                    try case c1u13 => exact new3 _ _ _ _ _
                    try case c2u13 => first | (intro u hu; simp at hu; rcases hu with rfl | rfl | rfl <;> rfl) | exact ⟨rfl, rfl, rfl⟩
                    try case c3u13 => first | (unfold maxLen; omega) | omega
                    try case c4u13 => omega
                    try case c5u13 => first | omega | (simp; omega)
                    intro v' w3 hown' hgrow _
                    have hM3 : AllM w w3 v' (ws ++ [(3, k, [L[k]'HLT.out])]) := HM.out.add (x := (3, k, [L[k]'HLT.out])) (by unfold wordRow; rw [← HX.out, hrl]; exact hown') hgrow
                    have HM3 := Lib.hid hM3
                    clear hgrow hown' hM3
                    go_wp2
                    go_roundw
                    case rel => exact ⟨k + 1, f, _, by go_num, by omega, by rw [List.length_append]; simp only [List.length_cons, List.length_nil]; omega, by omega, HN.out, HM3.out⟩
                    case measure => simp [intOf]; omega
                · as_aux_lemma =>
                    have hv : (c.toNat : Int) = 43 := by rw [h]; rfl
                    have p123 : ((c.toNat : Int) == 123) = false := beq_no (by omega)
                    have p125 : ((c.toNat : Int) == 125) = false := beq_no (by omega)
                    have p44 : ((c.toNat : Int) == 44) = false := beq_no (by omega)
                    have p59 : ((c.toNat : Int) == 59) = false := beq_no (by omega)
                    have p61 : ((c.toNat : Int) == 61) = false := beq_no (by omega)
                    have p40 : ((c.toNat : Int) == 40) = false := beq_no (by omega)
                    have p41 : ((c.toNat : Int) == 41) = false := beq_no (by omega)
                    have p43 : ((c.toNat : Int) == 43) = true := by simpa using hv
                    clear h hv hp
                    go_wp2_with fail
                    refine (CS.out _).mono ?_
                    rintro e w2 ⟨rfl, rfl⟩
                    go_wp2_with (at_builtin; refine wpList_append_own _ rfl _ _ 45 rfl (w.heap.size + 1) 50 i0 (.agg #[.int .i64 0, .int .i64 0, .string ByteArray.empty]) 3 32 Tryz.underlying45 hi hz0 hz1 hz2 rfl (by decide) _ _ _ rfl (HM.out.own.alloc _) ⟨wr.heap.size, 0, none⟩ 1 1 [.int .i64 3, .int .i64 (k : Nat), .string (s.extract k (k + 1))] rfl rfl ?c1u14 ?c2u14 ?c3u14 ?c4u14 ?c5u14 ?_)
                    try case c1u14 => exact new3 _ _ _ _ _
                    try case c2u14 => first | (intro u hu; simp at hu; rcases hu with rfl | rfl | rfl <;> rfl) | exact ⟨rfl, rfl, rfl⟩
                    try case c3u14 => first | (unfold maxLen; omega) | omega
                    try case c4u14 => omega
                    try case c5u14 => first | omega | (simp; omega)
                    intro v' w3 hown' hgrow _
                    have hM3 : AllM w w3 v' (ws ++ [(3, k, [L[k]'HLT.out])]) := HM.out.add (x := (3, k, [L[k]'HLT.out])) (by unfold wordRow; rw [← HX.out, hrl]; exact hown') hgrow
                    have HM3 := Lib.hid hM3
                    clear hgrow hown' hM3
                    go_wp2
                    go_roundw
                    case rel => exact ⟨k + 1, f, _, by go_num, by omega, by rw [List.length_append]; simp only [List.length_cons, List.length_nil]; omega, by omega, HN.out, HM3.out⟩
                    case measure => simp [intOf]; omega
                · as_aux_lemma =>
                    have hv : (c.toNat : Int) = 94 := by rw [h]; rfl
                    have p123 : ((c.toNat : Int) == 123) = false := beq_no (by omega)
                    have p125 : ((c.toNat : Int) == 125) = false := beq_no (by omega)
                    have p44 : ((c.toNat : Int) == 44) = false := beq_no (by omega)
                    have p59 : ((c.toNat : Int) == 59) = false := beq_no (by omega)
                    have p61 : ((c.toNat : Int) == 61) = false := beq_no (by omega)
                    have p40 : ((c.toNat : Int) == 40) = false := beq_no (by omega)
                    have p41 : ((c.toNat : Int) == 41) = false := beq_no (by omega)
                    have p43 : ((c.toNat : Int) == 43) = false := beq_no (by omega)
                    have p94 : ((c.toNat : Int) == 94) = true := by simpa using hv
                    clear h hv hp
                    go_wp2_with fail
                    refine (CS.out _).mono ?_
                    rintro e w2 ⟨rfl, rfl⟩
                    go_wp2_with (at_builtin; refine wpList_append_own _ rfl _ _ 45 rfl (w.heap.size + 1) 50 i0 (.agg #[.int .i64 0, .int .i64 0, .string ByteArray.empty]) 3 32 Tryz.underlying45 hi hz0 hz1 hz2 rfl (by decide) _ _ _ rfl (HM.out.own.alloc _) ⟨wr.heap.size, 0, none⟩ 1 1 [.int .i64 3, .int .i64 (k : Nat), .string (s.extract k (k + 1))] rfl rfl ?c1u15 ?c2u15 ?c3u15 ?c4u15 ?c5u15 ?_)
                    try case c1u15 => exact new3 _ _ _ _ _
                    try case c2u15 => first | (intro u hu; simp at hu; rcases hu with rfl | rfl | rfl <;> rfl) | exact ⟨rfl, rfl, rfl⟩
                    try case c3u15 => first | (unfold maxLen; omega) | omega
                    try case c4u15 => omega
                    try case c5u15 => first | omega | (simp; omega)
                    intro v' w3 hown' hgrow _
                    have hM3 : AllM w w3 v' (ws ++ [(3, k, [L[k]'HLT.out])]) := HM.out.add (x := (3, k, [L[k]'HLT.out])) (by unfold wordRow; rw [← HX.out, hrl]; exact hown') hgrow
                    have HM3 := Lib.hid hM3
                    clear hgrow hown' hM3
                    go_wp2
                    go_roundw
                    case rel => exact ⟨k + 1, f, _, by go_num, by omega, by rw [List.length_append]; simp only [List.length_cons, List.length_nil]; omega, by omega, HN.out, HM3.out⟩
                    case measure => simp [intOf]; omega
                · as_aux_lemma =>
                    have hv : (c.toNat : Int) = 58 := by rw [h]; rfl
                    have p123 : ((c.toNat : Int) == 123) = false := beq_no (by omega)
                    have p125 : ((c.toNat : Int) == 125) = false := beq_no (by omega)
                    have p44 : ((c.toNat : Int) == 44) = false := beq_no (by omega)
                    have p59 : ((c.toNat : Int) == 59) = false := beq_no (by omega)
                    have p61 : ((c.toNat : Int) == 61) = false := beq_no (by omega)
                    have p40 : ((c.toNat : Int) == 40) = false := beq_no (by omega)
                    have p41 : ((c.toNat : Int) == 41) = false := beq_no (by omega)
                    have p43 : ((c.toNat : Int) == 43) = false := beq_no (by omega)
                    have p94 : ((c.toNat : Int) == 94) = false := beq_no (by omega)
                    have p58 : ((c.toNat : Int) == 58) = true := by simpa using hv
                    clear h hv hp
                    go_wp2_with fail
                    refine (CS.out _).mono ?_
                    rintro e w2 ⟨rfl, rfl⟩
                    go_wp2_with (at_builtin; refine wpList_append_own _ rfl _ _ 45 rfl (w.heap.size + 1) 50 i0 (.agg #[.int .i64 0, .int .i64 0, .string ByteArray.empty]) 3 32 Tryz.underlying45 hi hz0 hz1 hz2 rfl (by decide) _ _ _ rfl (HM.out.own.alloc _) ⟨wr.heap.size, 0, none⟩ 1 1 [.int .i64 3, .int .i64 (k : Nat), .string (s.extract k (k + 1))] rfl rfl ?c1u16 ?c2u16 ?c3u16 ?c4u16 ?c5u16 ?_)
                    try case c1u16 => exact new3 _ _ _ _ _
                    try case c2u16 => first | (intro u hu; simp at hu; rcases hu with rfl | rfl | rfl <;> rfl) | exact ⟨rfl, rfl, rfl⟩
                    try case c3u16 => first | (unfold maxLen; omega) | omega
                    try case c4u16 => omega
                    try case c5u16 => first | omega | (simp; omega)
                    intro v' w3 hown' hgrow _
                    have hM3 : AllM w w3 v' (ws ++ [(3, k, [L[k]'HLT.out])]) := HM.out.add (x := (3, k, [L[k]'HLT.out])) (by unfold wordRow; rw [← HX.out, hrl]; exact hown') hgrow
                    have HM3 := Lib.hid hM3
                    clear hgrow hown' hM3
                    go_wp2
                    go_roundw
                    case rel => exact ⟨k + 1, f, _, by go_num, by omega, by rw [List.length_append]; simp only [List.length_cons, List.length_nil]; omega, by omega, HN.out, HM3.out⟩
                    case measure => simp [intOf]; omega
                · as_aux_lemma =>
                    have hv : (c.toNat : Int) = 36 := by rw [h]; rfl
                    have p123 : ((c.toNat : Int) == 123) = false := beq_no (by omega)
                    have p125 : ((c.toNat : Int) == 125) = false := beq_no (by omega)
                    have p44 : ((c.toNat : Int) == 44) = false := beq_no (by omega)
                    have p59 : ((c.toNat : Int) == 59) = false := beq_no (by omega)
                    have p61 : ((c.toNat : Int) == 61) = false := beq_no (by omega)
                    have p40 : ((c.toNat : Int) == 40) = false := beq_no (by omega)
                    have p41 : ((c.toNat : Int) == 41) = false := beq_no (by omega)
                    have p43 : ((c.toNat : Int) == 43) = false := beq_no (by omega)
                    have p94 : ((c.toNat : Int) == 94) = false := beq_no (by omega)
                    have p58 : ((c.toNat : Int) == 58) = false := beq_no (by omega)
                    have p36 : ((c.toNat : Int) == 36) = true := by simpa using hv
                    clear h hv hp
                    go_wp2_with fail
                    refine (CS.out _).mono ?_
                    rintro e w2 ⟨rfl, rfl⟩
                    go_wp2_with (at_builtin; refine wpList_append_own _ rfl _ _ 45 rfl (w.heap.size + 1) 50 i0 (.agg #[.int .i64 0, .int .i64 0, .string ByteArray.empty]) 3 32 Tryz.underlying45 hi hz0 hz1 hz2 rfl (by decide) _ _ _ rfl (HM.out.own.alloc _) ⟨wr.heap.size, 0, none⟩ 1 1 [.int .i64 3, .int .i64 (k : Nat), .string (s.extract k (k + 1))] rfl rfl ?c1u17 ?c2u17 ?c3u17 ?c4u17 ?c5u17 ?_)
                    try case c1u17 => exact new3 _ _ _ _ _
                    try case c2u17 => first | (intro u hu; simp at hu; rcases hu with rfl | rfl | rfl <;> rfl) | exact ⟨rfl, rfl, rfl⟩
                    try case c3u17 => first | (unfold maxLen; omega) | omega
                    try case c4u17 => omega
                    try case c5u17 => first | omega | (simp; omega)
                    intro v' w3 hown' hgrow _
                    have hM3 : AllM w w3 v' (ws ++ [(3, k, [L[k]'HLT.out])]) := HM.out.add (x := (3, k, [L[k]'HLT.out])) (by unfold wordRow; rw [← HX.out, hrl]; exact hown') hgrow
                    have HM3 := Lib.hid hM3
                    clear hgrow hown' hM3
                    go_wp2
                    go_roundw
                    case rel => exact ⟨k + 1, f, _, by go_num, by omega, by rw [List.length_append]; simp only [List.length_cons, List.length_nil]; omega, by omega, HN.out, HM3.out⟩
                    case measure => simp [intOf]; omega
              · have hpf : punctB c = false := by simpa using hp
                have hbad := allI_none HI.out HD.out HB.out H35.out (word_none HLT.out HQ34.out (by rw [HGET.out]; exact HNM.out) (by rw [HGET.out]; exact hpf))
                have HBAD := Lib.hid hbad
                obtain ⟨m123, m125, m44, m59, m61, m40, m41, m43, m94, m58, m36⟩ := punct_none hpf
                have p123 := beq_no m123
                have p125 := beq_no m125
                have p44 := beq_no m44
                have p59 := beq_no m59
                have p61 := beq_no m61
                have p40 := beq_no m40
                have p41 := beq_no m41
                have p43 := beq_no m43
                have p94 := beq_no m94
                have p58 := beq_no m58
                have p36 := beq_no m36
                clear m123 m125 m44 m59 m61 m40 m41 m43 m94 m58 m36 hp hpf hbad
                obtain ⟨e0, e1, f0, f1⟩ := cells2 HM.out.err
                go_wp2_with fail
                refine (CS.out _).mono ?_
                rintro e w2 ⟨rfl, rfl⟩
                go_wp2
                refine bodyPost_ret (results_tc rfl _ _ w.heap.size _ _ _ _ rfl (heap_set _ _ (heap_set _ _ HM.out.err)) Tryz.underlying34 rfl (by kernel_rfl)) rfl ?_
                exact ⟨allE_bad HBAD.out rfl, (HM.out.nx.setCell (Nat.le_refl _) _).setCell (Nat.le_refl _) _⟩
    · have hke : s.size = k := by omega
      have HG := Lib.hid (allI_end HI.out (by have := HSZ.out; omega))
      have hkk : (s.size : Int) = (k : Int) := by omega
      go_wp2_with (at_builtin; refine wpList_append_own _ rfl _ _ 45 rfl (w.heap.size + 1) 50 i0 (.agg #[.int .i64 0, .int .i64 0, .string ByteArray.empty]) 3 32 Tryz.underlying45 hi hz0 hz1 hz2 rfl (by decide) _ _ _ rfl (HM.out.own.alloc _) ⟨wr.heap.size, 0, none⟩ 1 1 [.int .i64 4, .int .i64 (k : Nat), .string (⟨#[]⟩)] rfl rfl ?c1u1 ?c2u1 ?c3u1 ?c4u1 ?c5u1 ?_)
      try case c1u1 => exact new3 _ _ _ _ _
      try case c2u1 => first | (intro u hu; simp at hu; rcases hu with rfl | rfl | rfl <;> rfl) | exact ⟨rfl, rfl, rfl⟩
      try case c3u1 => first | (unfold maxLen; omega) | omega
      try case c4u1 => omega
      try case c5u1 => first | omega | (simp; omega)
      intro v' w3 hown' hgrow _
      have hM3 : AllM w w3 v' (ws ++ [(4, k, [])]) := HM.out.add (x := (4, k, [])) (by unfold wordRow; rw [← (show (⟨#[]⟩ : ByteArray) = ⟨([] : List UInt8).toArray⟩ from rfl), hrl]; exact hown') hgrow
      obtain ⟨e0, e1, f0, f1⟩ := cells2 hM3.err
      have HM3 := Lib.hid hM3
      clear hgrow hown' hM3
      go_wp2
      refine bodyPost_ret (results_tc rfl _ _ w.heap.size _ _ _ _ rfl (heap_set _ _ (heap_set _ _ HM3.out.err)) Tryz.underlying34 rfl (by kernel_rfl)) rfl ?_
      refine ⟨allE_good HG.out rfl ?_, (HM3.out.nx.setCell (Nat.le_refl _) _).setCell (Nat.le_refl _) _⟩
      exact row_own (ownsRow_setCell_below (ownsRow_setCell_below HM3.out.own (by simp) _) (by simp) _) (wordRows_len _)
end Go.Proofs.YtknpcbjjofdlmaaGreatDoor
namespace Go.Proofs.YtknpcbjjofdlmaaGreatDoor
open Go.RowKit Go.Shelf

theorem quote_esc {c : UInt8} (h : c = 34 ∨ c = 92) : quoteB c = [92, c] := by rcases h with rfl | rfl <;> rfl

set_option maxHeartbeats 2000000 in
set_option maxRecDepth 100000 in
theorem quoteR_any (s : ByteArray) (w : World) (hs : s.size ≤ 1048576) :
    Calls Tryz.prog 78 #[.string s] w fun e w' => e = .returned (.string ⟨(quoteS s.data.toList).toArray⟩) ∧ Below w.heap.size w w' := by
  go_enter Tryz.func78, Tryz.ntmps78
  go_wp2
  go_loopw [4, 5] (fun t i wr => ∃ k : Nat, k ≤ s.size ∧ i = .int .i64 k ∧ t = .string ⟨(bodyS (s.data.toList.take k)).toArray⟩ ∧ Below w.heap.size w wr)
    (fun _ i _ => s.size - (intOf i).toNat)
  case atStart => exact ⟨0, Nat.zero_le _, rfl, rfl, Below.refl _ _⟩
  case round =>
    obtain ⟨k, hk, rfl, rfl, hnx⟩ := hrel
    obtain ⟨T, hT⟩ : ∃ T : ByteArray, (⟨(bodyS (s.data.toList.take k)).toArray⟩ : ByteArray) = T := ⟨_, rfl⟩
    rw [hT]
    have hTs : T.size ≤ 4 * s.size + 1 := by rw [← hT]; simp only [ByteArray.size, List.size_toArray]; exact bodyS_len s k
    have hTl : T.data.toList = bodyS (s.data.toList.take k) := by rw [← hT]
    have HT := Lib.hid hTl
    have HN := Lib.hid hnx
    have HDR : Hid (∀ n, Below w.heap.size w (wr.drewN n)) := by show ∀ n, _; exact fun n => below_drewN hnx n
    clear hT hnx hTl
    by_cases hlt : k < s.size
    · have hnext := bodyS_next s k hlt
      obtain ⟨c, hc⟩ : ∃ c, s[k] = c := ⟨_, rfl⟩
      rw [hc] at hnext
      have hext := ext_one s k hlt
      rw [hc] at hext
      have hes : (s.extract k (k + 1)).size = 1 := by rw [ByteArray.size_extract]; omega
      have NEXT : Hid (∀ U : ByteArray, U.data.toList = quoteB c → T ++ U = (⟨(bodyS (s.data.toList.take (k + 1))).toArray⟩ : ByteArray)) := by
        show ∀ U : ByteArray, _
        intro U hU
        apply ByteArray.ext
        apply Array.ext'
        rw [ByteArray.data_append, Array.toList_append, HT.out, hU, hnext]
      have HEXT := Lib.hid hext
      have HES := Lib.hid hes
      have hlt' : (k : Int) < (s.size : Int) := by omega
      clear hnext hext hes
      by_cases h34 : (c.toNat : Int) = 34
      · have hc1 : c = 34 := u8_is (n := 34) (by omega) h34
        have HU : Hid ((⟨#[92]⟩ ++ s.extract k (k + 1) : ByteArray).data.toList = quoteB c) := by show _ = _; rw [ByteArray.data_append, Array.toList_append, HEXT.out, quote_esc (.inl hc1)]; rfl
        have b34 : ((c.toNat : Int) == 34) = true := by simp [h34]
        clear hc1
        go_wp2
        go_roundw
        case rel => exact ⟨k + 1, by omega, by go_num, congrArg Value.string (NEXT.out _ HU.out), HN.out⟩
        case measure => simp [intOf]; omega
      · have b34 : ((c.toNat : Int) == 34) = false := by simp [h34]
        by_cases h92 : (c.toNat : Int) = 92
        · have hc1 : c = 92 := u8_is (n := 92) (by omega) h92
          have HU : Hid ((⟨#[92]⟩ ++ s.extract k (k + 1) : ByteArray).data.toList = quoteB c) := by show _ = _; rw [ByteArray.data_append, Array.toList_append, HEXT.out, quote_esc (.inr hc1)]; rfl
          have b92 : ((c.toNat : Int) == 92) = true := by simp [h92]
          clear hc1
          go_wp2
          go_roundw
          case rel => exact ⟨k + 1, by omega, by go_num, congrArg Value.string (NEXT.out _ HU.out), HN.out⟩
          case measure => simp [intOf]; omega
        · have b92 : ((c.toNat : Int) == 92) = false := by simp [h92]
          by_cases h10 : (c.toNat : Int) = 10
          · have hc1 : c = 10 := u8_is (n := 10) (by omega) h10
            have HU : Hid ((⟨#[92, 110]⟩ : ByteArray).data.toList = quoteB c) := by show _ = _; rw [hc1]; rfl
            have b10 : ((c.toNat : Int) == 10) = true := by simp [h10]
            clear hc1
            go_wp2
            go_roundw
            case rel => exact ⟨k + 1, by omega, by go_num, congrArg Value.string (NEXT.out _ HU.out), HN.out⟩
            case measure => simp [intOf]; omega
          · have b10 : ((c.toNat : Int) == 10) = false := by simp [h10]
            by_cases h9 : (c.toNat : Int) = 9
            · have hc1 : c = 9 := u8_is (n := 9) (by omega) h9
              have HU : Hid ((⟨#[92, 116]⟩ : ByteArray).data.toList = quoteB c) := by show _ = _; rw [hc1]; rfl
              have b9 : ((c.toNat : Int) == 9) = true := by simp [h9]
              clear hc1
              go_wp2
              go_roundw
              case rel => exact ⟨k + 1, by omega, by go_num, congrArg Value.string (NEXT.out _ HU.out), HN.out⟩
              case measure => simp [intOf]; omega
            · have b9 : ((c.toNat : Int) == 9) = false := by simp [h9]
              obtain ⟨q, hq⟩ : ∃ q, plainB c = q := ⟨_, rfl⟩
              cases q
              · have hp2 : (c.toNat : Int) < 32 ∨ (126 : Int) < c.toNat := by
                  unfold plainB at hq
                  simp only [decide_eq_false_iff_not] at hq
                  omega
                have hlt2 : c.toNat < 256 := c.toNat_lt
                obtain ⟨a, ha⟩ : ∃ a : Nat, c.toNat / 16 = a := ⟨_, rfl⟩
                obtain ⟨b, hb⟩ : ∃ b : Nat, c.toNat % 16 = b := ⟨_, rfl⟩
                have ha16 : a < 16 := by omega
                have hb16 : b < 16 := by omega
                have w1 : IntKind.u8.wrap ((c.toNat : Int) / 16) = (a : Int) := by rw [IntWalk.u8_in _ (by omega)]; omega
                have w2 : IntKind.u8.wrap ((c.toNat : Int) % 16) = (b : Int) := by rw [IntWalk.u8_in _ (by omega)]; omega
                have w2t : IntKind.u8.wrap ((c.toNat : Int).tmod 16) = (b : Int) := by rw [Int.tmod_eq_emod_of_nonneg (by omega)]; exact w2
                have w3 : IntKind.u8.wrap ((a : Int) + 1) = (a : Int) + 1 := IntWalk.u8_in _ (by omega)
                have w4 : IntKind.u8.wrap ((b : Int) + 1) = (b : Int) + 1 := IntWalk.u8_in _ (by omega)
                have p1 : (0 : Int) ≤ (a : Int) := by omega
                have p2 : (0 : Int) ≤ (b : Int) := by omega
                have p3 : (a : Int) ≤ (a : Int) + 1 := by omega
                have p4 : (b : Int) ≤ (b : Int) + 1 := by omega
                have p5 : (a : Int) + 1 ≤ 16 := by omega
                have p6 : (b : Int) + 1 ≤ 16 := by omega
                have t1 : ((a : Int) + 1).toNat = a + 1 := by omega
                have t2 : ((b : Int) + 1).toNat = b + 1 := by omega
                have p7 : (0 : Int) ≤ (a : Int) + 1 := by omega
                have p8 : (0 : Int) ≤ (b : Int) + 1 := by omega
                have HX : Hid ((⟨#[92, 120]⟩ ++ (⟨#[48, 49, 50, 51, 52, 53, 54, 55, 56, 57, 97, 98, 99, 100, 101, 102]⟩ : ByteArray).extract a (a + 1) ++ (⟨#[48, 49, 50, 51, 52, 53, 54, 55, 56, 57, 97, 98, 99, 100, 101, 102]⟩ : ByteArray).extract b (b + 1) : ByteArray).data.toList = quoteB c) := by
                  show _ = _
                  rw [← ha, ← hb, quote_hex1 c hq (by omega) (by omega) (by omega) (by omega)]
                have HB := Lib.hid hb
                clear ha hb hq
                by_cases hlo : (c.toNat : Int) < 32
                · go_wp2_with fail
                  go_quiet (fail)
                  all_goals go_wp2
                  all_goals go_roundw
                  case rel => exact ⟨k + 1, by omega, by go_num, congrArg Value.string (NEXT.out _ (by first | exact HX.out | (rw [HB.out]; exact HX.out))), HDR.out _⟩
                  case measure => simp [intOf]; omega
                · have hhi : (126 : Int) < c.toNat := by omega
                  go_wp2_with fail
                  go_quiet (fail)
                  all_goals go_wp2
                  all_goals go_roundw
                  case rel => exact ⟨k + 1, by omega, by go_num, congrArg Value.string (NEXT.out _ (by first | exact HX.out | (rw [HB.out]; exact HX.out))), HDR.out _⟩
                  case measure => simp [intOf]; omega
              · have HU : Hid ((s.extract k (k + 1)).data.toList = quoteB c) := by show _ = _; rw [HEXT.out]; unfold quoteB; rw [if_pos hq]
                have hlo : ¬ (c.toNat : Int) < 32 := by unfold plainB at hq; simp only [decide_eq_true_eq] at hq; omega
                have hhi : ¬ (126 : Int) < c.toNat := by unfold plainB at hq; simp only [decide_eq_true_eq] at hq; omega
                clear hq
                go_wp2
                go_roundw
                case rel => exact ⟨k + 1, by omega, by go_num, congrArg Value.string (NEXT.out _ HU.out), HN.out⟩
                case measure => simp [intOf]; omega
    · have hkk : k = s.size := by omega
      have hfull : (T ++ ⟨#[34]⟩ : ByteArray) = ⟨(quoteS s.data.toList).toArray⟩ := by
        apply ByteArray.ext
        apply Array.ext'
        rw [ByteArray.data_append, Array.toList_append, HT.out, List.take_of_length_le (by rw [← Lib.size_eq]; omega)]
        rfl
      have HF := Lib.hid hfull
      have hlt' : ¬ (k : Int) < (s.size : Int) := by omega
      clear hfull hkk
      go_wp2
      go_ret
      exact ⟨ret_str HF.out, HN.out⟩
end Go.Proofs.YtknpcbjjofdlmaaGreatDoor
