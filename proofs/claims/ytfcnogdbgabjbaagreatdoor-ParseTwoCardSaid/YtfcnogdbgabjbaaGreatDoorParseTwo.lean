/- The law ParseTwo: the walk. -/
import Derived.Test.YtfcnogdbgabjbaaGreatDoorMbeg
import Derived.Test.YtfcnogdbgabjbaaGreatDoorMgap
import Derived.Test.YtfcnogdbgabjbaaGreatDoorMplo
import Derived.Test.YtfcnogdbgabjbaaGreatDoorMref
import Derived.Test.YtfcnogdbgabjbaaGreatDoorMwalk
namespace Go.Proofs.YtfcnogdbgabjbaaGreatDoor.lawParseTwo
open Go.RowKit Go.Shelf

theorem nl_list (A : ByteArray) : (A ++ ⟨#[10]⟩ : ByteArray).data.toList = A.data.toList ++ [10] := by rw [ByteArray.data_append, Array.toList_append]
theorem cat_two (A B : ByteArray) : (A ++ B).data.toList = A.data.toList ++ B.data.toList := by rw [ByteArray.data_append, Array.toList_append]

theorem file_shape {L : List UInt8} {w w' : World} {e : Ending} (h : FileE L w w' e) : ∃ a n cp, ∃ c p : Int, e = .returned (.tuple #[.slice a n cp, .agg #[.int .i64 c, .int .i64 p]]) ∧
    ((∃ x, fileS L = .error x ∧ c = x.1 ∧ p = x.2 ∧ n = 0) ∨ (∃ rs, fileS L = .ok rs ∧ c = 0 ∧ p = 0 ∧ n = rs.length ∧ RulesA (fun b => b < w.heap.size) w' (.slice a n cp) rs)) := by
  unfold FileE at h
  cases hf : fileS L with
  | error x =>
    rw [hf] at h
    exact ⟨none, 0, 0, x.1, x.2, h, .inl ⟨x, rfl, rfl, rfl, rfl⟩⟩
  | ok rs =>
    rw [hf] at h
    obtain ⟨v, he, hr⟩ := h
    obtain ⟨a, c, q, _, _⟩ := rulesA_len hr
    subst q
    exact ⟨a, rs.length, c, 0, 0, he, .inr ⟨rs, rfl, rfl, rfl, rfl, hr⟩⟩
theorem wAt_place {L : List UInt8} {ws : List WordT} (h : allS L = .ok ws) (k : Nat) : (wAt ws k).2.1 ≤ L.length := by
  rcases Nat.lt_or_ge k ws.length with hk | hk
  · have : wAt ws k = ws[k] := by unfold wAt; rw [List.getD_eq_getElem?_getD, List.getElem?_eq_getElem hk]; rfl
    rw [this]
    exact (lawLexGap.place_le h).2 _ (List.getElem_mem hk)
  · rw [wAt_out hk]; exact Nat.zero_le _
theorem file_err {L : List UInt8} {x : Int × Int} (h : fileS L = .error x) : x.1 ≠ 0 ∧ -1 ≤ x.2 ∧ x.2 ≤ L.length := by
  unfold fileS at h
  split at h
  · injection h with h; subst h; exact ⟨by decide, by decide, by omega⟩
  · cases hA : allS L with
    | error p =>
      rw [hA] at h
      injection h with h; subst h
      have := allA_err L.length 0 L (Nat.le_refl _) p (by rw [← allA_S]; exact hA)
      exact ⟨show (1 : Int) ≠ 0 by decide, by simp only; omega, by simp only; omega⟩
    | ok ws =>
      rw [hA] at h
      dsimp only at h
      split at h
      · injection h with h; subst h
        have := wAt_place hA (rulesP ws (0, false)).2.1
        exact ⟨show (1 : Int) ≠ 0 by decide, by simp only; omega, by simp only; omega⟩
      · cases h

set_option maxHeartbeats 8000000 in
set_option maxRecDepth 100000 in
theorem law (s t : ByteArray) (w : World) (hs : s.size ≤ maxLen) (ht : t.size ≤ maxLen) (hG : GP w.heap.size w) :
    Calls Tryz.prog 6 #[.string s, .string t] w fun e w' => e = .returned (.bool true) ∧ Below w.heap.size w w' := by
  have c0 := begun4_any w hG
  have c1 := fun w' => short_any s 300 w' hs (by omega) (by omega)
  have c2 := fun w' => short_any t 300 w' ht (by omega) (by omega)
  obtain ⟨S, hS⟩ : ∃ S : ByteArray, s.extract 0 (min s.size (300 : Int).toNat) = S := ⟨_, rfl⟩
  obtain ⟨T, hT⟩ : ∃ T : ByteArray, t.extract 0 (min t.size (300 : Int).toNat) = T := ⟨_, rfl⟩
  have hsz : S.size ≤ 300 := by rw [← hS, ByteArray.size_extract]; omega
  have htz : T.size ≤ 300 := by rw [← hT, ByteArray.size_extract]; omega
  simp only [hS] at c1
  simp only [hT] at c2
  have hnl : EndsN (S ++ ⟨#[10]⟩ : ByteArray).data.toList := .inr ⟨_, nl_list S⟩
  have haz : (S ++ ⟨#[10]⟩ : ByteArray).size ≤ 301 := by rw [ByteArray.size_append, show (⟨#[10]⟩ : ByteArray).size = 1 from rfl]; omega
  obtain ⟨A, hA⟩ : ∃ A : ByteArray, S ++ ⟨#[10]⟩ = A := ⟨_, rfl⟩
  rw [hA] at hnl haz
  have habz : (A ++ T).size ≤ 601 := by rw [ByteArray.size_append]; omega
  have CF : Hid (∀ (x : ByteArray) w', x.size ≤ 1000 → Below w.heap.size w w' → Calls Tryz.prog 15 #[.string x] w' fun e w'' => FileE x.data.toList w' w'' e ∧ Below w'.heap.size w' w'') := by
    show ∀ (x : ByteArray) w', _
    intro x w' hx hb
    exact file_any x w' (by unfold maxLen; omega) ((hG.below hb).up hb.size)
  have TWO : Hid (∀ ra, fileS A.data.toList = .ok ra → fileS (A ++ T).data.toList = bothS ra A.size (fileS T.data.toList)) := by
    show ∀ ra, _
    intro ra h
    have := file_two (b := T.data.toList) hnl (by rw [← Lib.size_eq, ← Lib.size_eq]; omega) h
    rw [cat_two, this, ← Lib.size_eq]
  have HA := Lib.hid hA
  have C0 := Lib.hid c0; have C1 := Lib.hid c1; have C2 := Lib.hid c2
  clear c0 c1 c2 hS hT hG hnl hA
  go_enter Tryz.func6, Tryz.ntmps6
  go_wp2_with fail
  refine C0.out.mono ?_
  rintro e w1 ⟨rfl, hb1⟩
  have HB1 := Lib.hid hb1
  clear hb1
  go_wp2_with fail
  refine (C1.out _).mono ?_
  rintro e w2 ⟨rfl, rfl⟩
  go_wp2_with fail
  refine (C2.out _).mono ?_
  rintro e w2 ⟨rfl, rfl⟩
  go_wp2_with fail
  rw [HA.out]
  refine (CF.out A _ (by omega) HB1.out).mono ?_
  rintro e w3 ⟨he, hb3⟩
  obtain ⟨a1, n1, g1, k1, p1, rfl, hv1⟩ := file_shape he
  have HB3 := Lib.hid (HB1.out.trans (hb3.mono HB1.out.size))
  have HA3 := Lib.hid (HB3.out.alloc HB3.out.size (.cells #[.int .i64 k1, .int .i64 p1] 28))
  have HV1 := Lib.hid hv1
  clear he hb3 hv1
  go_wp2_with fail
  refine (CF.out T _ (by omega) HA3.out).mono ?_
  rintro e w4 ⟨he, hb4⟩
  obtain ⟨a2, n2, g2, k2, p2, rfl, hv2⟩ := file_shape he
  have HB4 := Lib.hid (HA3.out.trans (hb4.mono HA3.out.size))
  have HA4 := Lib.hid (HB4.out.alloc HB4.out.size (.cells #[.int .i64 k2, .int .i64 p2] 28))
  have HV2 := Lib.hid hv2
  have H34 := Lib.hid hb4
  clear he hb4 hv2
  go_wp2_with fail
  refine (CF.out (A ++ T) _ (by omega) HA4.out).mono ?_
  rintro e w5 ⟨he, hb5⟩
  obtain ⟨a3, n3, g3, k3, p3, rfl, hv3⟩ := file_shape he
  have HB5 := Lib.hid (HA4.out.trans (hb5.mono HA4.out.size))
  have HA5 := Lib.hid (HB5.out.alloc HB5.out.size (.cells #[.int .i64 k3, .int .i64 p3] 28))
  have HV3 := Lib.hid hv3
  have H45 := Lib.hid hb5
  clear he hb5 hv3
  have h4a := (Below.refl w3.heap.size w3).alloc (Nat.le_refl _) (.cells #[.int .i64 k1, .int .i64 p1] 28)
  have h5a := (Below.refl w4.heap.size w4).alloc (Nat.le_refl _) (.cells #[.int .i64 k2, .int .i64 p2] 28)
  have h6a := (Below.refl w5.heap.size w5).alloc (Nat.le_refl _) (.cells #[.int .i64 k3, .int .i64 p3] 28)
  have h4w : Below (w4.alloc (.cells #[.int .i64 k2, .int .i64 p2] 28)).heap.size (w4.alloc (.cells #[.int .i64 k2, .int .i64 p2] 28)) (w5.alloc (.cells #[.int .i64 k3, .int .i64 p3] 28)) := H45.out.trans (h6a.mono H45.out.size)
  have h4W : Below w4.heap.size w4 (w5.alloc (.cells #[.int .i64 k3, .int .i64 p3] 28)) := h5a.trans (h4w.mono h5a.size)
  have h3w : Below (w3.alloc (.cells #[.int .i64 k1, .int .i64 p1] 28)).heap.size (w3.alloc (.cells #[.int .i64 k1, .int .i64 p1] 28)) (w5.alloc (.cells #[.int .i64 k3, .int .i64 p3] 28)) := H34.out.trans (h4W.mono H34.out.size)
  have h3W : Below w3.heap.size w3 (w5.alloc (.cells #[.int .i64 k3, .int .i64 p3] 28)) := h4a.trans (h3w.mono h4a.size)
  obtain ⟨x0, x1, _, _⟩ := cells2 ((h3w.block w3.heap.size (by simp)).trans (alloc_at w3 _))
  obtain ⟨y0, y1, _, _⟩ := cells2 ((h4w.block w4.heap.size (by simp)).trans (alloc_at w4 _))
  obtain ⟨z0, z1, _, _⟩ := cells2 (alloc_at w5 (.cells #[.int .i64 k3, .int .i64 p3] 28))
  have H3W := Lib.hid h3W
  have H4W := Lib.hid h4W
  have H5W := Lib.hid h6a
  clear h4a h5a h6a h4w h3w h4W h3W
  rcases HV1.out with ⟨x, hx, hk1, hp1, hn1⟩ | ⟨ra, hra, hk1, hp1, hn1, hR1⟩
  · have hne : k1 ≠ 0 := by rw [hk1]; exact (file_err hx).1
    have hne2 : (k1 != 0) = true := by simpa using hne
    clear hx hk1 hp1
    go_wp2
    go_ret
    exact ⟨rfl, HA5.out⟩
  · have hboth := TWO.out ra hra
    rcases HV2.out with ⟨x, hx, hk2, hp2, hn2⟩ | ⟨rb, hrb, hk2, hp2, hn2, hR2⟩
    · rw [hx] at hboth
      have hfe := file_err hx
      rw [← Lib.size_eq] at hfe
      have h3 : k3 = k2 ∧ p3 = p2 + (A.size : Int) ∧ n3 = 0 := by
        rcases HV3.out with ⟨y, hy, e1, e2, e3⟩ | ⟨rc, hrc, _⟩
        · rw [hboth] at hy
          simp only [bothS] at hy
          injection hy with hy
          subst hy
          exact ⟨e1.trans hk2.symm, e2.trans (by rw [hp2]), e3⟩
        · rw [hboth] at hrc; cases hrc
      obtain ⟨e1, e2, e3⟩ := h3
      have hne : k2 ≠ 0 := by rw [hk2]; exact hfe.1
      have hne2 : (k2 != 0) = true := by simpa using hne
      have hlo : -1 ≤ p2 := by rw [hp2]; exact hfe.2.1
      have hhi : p2 ≤ 300 := by rw [hp2]; omega
      have hwr : IntKind.i64.wrap (p2 + (A.size : Int)) = p2 + (A.size : Int) := IntWalk.i64_in _ (by omega)
      have hee : (p2 + (A.size : Int) == p2 + (A.size : Int)) = true := by simp
      subst e1 e2 e3 hk1 hp1
      clear hx hboth hfe hk2 hp2
      go_wp2
      go_ret
      exact ⟨rfl, HA5.out⟩
    · rw [hrb] at hboth
      have h3 : k3 = 0 ∧ p3 = 0 ∧ n3 = (ra ++ rb).length ∧ RulesA (fun _ => False) w5 (.slice a3 n3 g3) (ra ++ rb) := by
        rcases HV3.out with ⟨y, hy, _⟩ | ⟨rc, hrc, e1, e2, e3, e4⟩
        · rw [hboth] at hy; cases hy
        · rw [hboth] at hrc
          injection hrc with hrc
          subst hrc
          exact ⟨e1, e2, e3, e4.mono fun b _ hb => hb.elim⟩
      obtain ⟨e1, e2, e3, hR3⟩ := h3
      have hfa := file_few hra
      have hfb := file_few hrb
      rw [← Lib.size_eq] at hfa hfb
      subst e1 e2 e3 hk1 hp1 hn1 hk2 hp2 hn2
      obtain ⟨W, hW⟩ : ∃ W, (w5.alloc (.cells #[.int .i64 0, .int .i64 0] 28)) = W := ⟨_, rfl⟩
      have h3W := H3W.out
      have h4W := H4W.out
      have h5W := H5W.out
      rw [hW] at h3W h4W h5W
      have hA : RulesA (fun b => W.heap.size ≤ b) W (.slice a1 ra.length g1) ra := (hR1.keep (fr_below h3W)).mono fun b hb e => by omega
      have hB : RulesA (fun b => W.heap.size ≤ b) W (.slice a2 rb.length g2) rb := (hR2.keep (fr_below h4W)).mono fun b hb e => by omega
      have hC : RulesA (fun b => W.heap.size ≤ b) W (.slice a3 (ra ++ rb).length g3) (ra ++ rb) := (hR3.keep (fr_below h5W)).mono fun b hb e => by omega
      obtain ⟨r1, v1, W1, hr1, ho1, hg1, hl1, hall1⟩ := run_append_rules (ty := 35) (v0 := .slice none 0 0) (B := W.heap.size) (n := 0) (xs := []) ⟨rfl, .inl ⟨rfl, rfl⟩⟩ hA (Nat.le_refl _) (by omega)
      have hB1 := hB.keep (fr_grown hg1 fun k e => by cases e)
      have hC1 := hC.keep (fr_grown hg1 fun k e => by cases e)
      obtain ⟨r2, v2, W2, hr2, ho2, hg2, hl2, hall2⟩ := run_append_rules (ty := 35) ho1 hB1 hg1.size (by omega)
      have hC2 := hC1.keep (fr_grown hg2 fun k e => (ho1.lt k e).1)
      rw [Nat.zero_add, List.nil_append] at ho2
      have hboth2 := rules_both hall1 hall2 hg1 hg2 ho2 fun b e => (ho1.lt b e).1
      have cE := eqR_same (.slice a3 (ra ++ rb).length g3) v2 (ra ++ rb) (fun _ => False) W2 (hC2.mono fun _ _ e => e.elim) hboth2
      rw [List.length_append] at cE
      have hAW := HA5.out
      rw [hW] at hAW
      have HW2 := Lib.hid ((hAW.grown hg1 hAW.size (fun k e => by cases e)).grown hg2 (hAW.grown hg1 hAW.size (fun k e => by cases e)).size (fun k e => Nat.le_trans hAW.size (ho1.lt k e).1))
      have CE := Lib.hid cE
      have HR1 := Lib.hid hr1
      have HR2 := Lib.hid hr2
      have HW := Lib.hid hW
      clear hra hboth hrb hR1 hR2 hR3 h3W h4W h5W hA hB hC hr1 ho1 hg1 hl1 hall1 hB1 hC1 hr2 ho2 hg2 hl2 hall2 hC2 hboth2 cE hAW hW
      go_wp2_with (at_builtin; first | (rw [HW.out]; refine wpList_append_known (by rfl) _ _ 35 (by rfl) (by rfl) (by rfl) HR1.out ?_) | (refine wpList_append_known (by rfl) _ _ 35 (by rfl) (by rfl) (by rfl) HR2.out ?_))
      refine CE.out.mono ?_
      rintro e w6 ⟨rfl, hb6⟩
      have HE := Lib.hid (HW2.out.trans (hb6.mono HW2.out.size))
      clear hb6
      go_wp2
      go_ret
      exact ⟨rfl, HE.out⟩
end Go.Proofs.YtfcnogdbgabjbaaGreatDoor.lawParseTwo
