/- The law on joined names: for every two texts the call returns true. No condition. -/
import Derived.Test.YtmgmmjnlnmidlaaDoorWalkR
namespace Go.Proofs.YtmgmmjnlnmidlaaDoor.lawPathJoin
open Go.RowKit

theorem join_left (a : List UInt8) : joinS [a, []] = a := by
  unfold joinS nonE
  cases a <;> simp [Lib.join]
theorem join_right (a : List UInt8) : joinS [[], a] = a := by
  unfold joinS nonE
  cases a <;> simp [Lib.join]
theorem join_both (a b : List UInt8) (ha : a ≠ []) (hb : b ≠ []) : joinS [a, b] = a ++ 47 :: b := by
  unfold joinS nonE
  cases a with
  | nil => exact absurd rfl ha
  | cons x xs => cases b with
    | nil => exact absurd rfl hb
    | cons y ys => simp [Lib.join]
theorem join_short (a b : List UInt8) : (joinS [a, b]).length ≤ a.length + b.length + 1 := by
  by_cases ha : a = []
  · subst ha; rw [join_right]; simp
  · by_cases hb : b = []
    · subst hb; rw [join_left]; simp
    · rw [join_both a b ha hb]; simp; omega
theorem ok_ne (l : List UInt8) (h : okName l = true) : l ≠ [] := by
  rintro rfl
  exact absurd h (by decide +kernel)
theorem ok_parts (l : List UInt8) (h : okName l = true) : (cutAt 47 l).all okPart = true := by
  unfold okName at h
  simp only [Bool.and_eq_true] at h
  exact h.2
theorem cl_slash (a b : List UInt8) : isCl (a ++ 47 :: b) = false := by
  rw [Bool.eq_false_iff]
  intro h
  have hm : (47 : UInt8) ∈ a ++ 47 :: b := by simp
  unfold isCl at h
  simp only [Bool.or_eq_true, beq_iff_eq] at h
  rcases h with ((h | h) | h) | h <;> rw [h] at hm <;> exact absurd hm (by decide)
theorem ok_join (a b : List UInt8) (ha : okName a = true) (hb : okName b = true) : okName (a ++ 47 :: b) = decide ((a ++ 47 :: b).length ≤ 40) := by
  unfold okName
  rw [cl_slash, cutAt_append, List.all_append, ok_parts a ha, ok_parts b hb]
  simp

set_option maxHeartbeats 4000000 in
theorem law (a b : ByteArray) (w : World) (ha : a.size ≤ maxLen) (hb : b.size ≤ maxLen) (hG : Glob w) :
    Calls Tryd.prog 9 #[.string a, .string b] w fun e w' => e = .returned (.bool true) ∧ Below w.heap.size w w' := by
  have hsa := fun w => short_any a 45 w ha (by decide) (by decide)
  have hsb := fun w => short_any b 45 w hb (by decide) (by decide)
  obtain ⟨x, hx⟩ : ∃ x : ByteArray, x = a.extract 0 (min a.size (Int.toNat 45)) := ⟨_, rfl⟩
  obtain ⟨y, hy⟩ : ∃ y : ByteArray, y = b.extract 0 (min b.size (Int.toNat 45)) := ⟨_, rfl⟩
  rw [← hx] at hsa
  rw [← hy] at hsb
  have hxl : x.size ≤ 45 := by rw [hx]; simp; omega
  have hyl : y.size ≤ 45 := by rw [hy]; simp; omega
  have HSA := Lib.hid hsa
  have HSB := Lib.hid hsb
  clear hsa hsb hx hy
  have cJ : ∀ (x y : ByteArray) (r : List UInt8), x.size ≤ 45 → y.size ≤ 45 → joinS [x.data.toList, y.data.toList] = r → ∀ w, Calls Tryd.prog 20 #[.slice (some ⟨w.heap.size, 0, none⟩) 2 2] (w.alloc (.cells #[.string x, .string y] 9)) fun e w' => e = .returned (.string ⟨r.toArray⟩) ∧ Below w.heap.size w w' := fun x y r hx hy hr w => by
    have h := join_any _ [x, y] _ (strs_of_alloc w [x, y] _ rfl (by simp)) (by simp) (by
      have := join_short x.data.toList y.data.toList
      simp only [List.map_cons, List.map_nil]
      rw [← Lib.size_eq, ← Lib.size_eq] at this; omega)
    rw [show ([x, y] : List ByteArray).map (·.data.toList) = [x.data.toList, y.data.toList] from rfl, hr] at h
    exact h.mono fun e w' ⟨he, hb⟩ => ⟨he, chain ((Below.refl _ _).alloc (Nat.le_refl _) _) hb⟩
  have cM : ∀ (t : ByteArray) (r : Bool), t.size ≤ 1000 → okName t.data.toList = r → ∀ w, Glob w → Calls Tryd.prog 18 #[.string t] w fun e w' => e = .returned (.bool r) ∧ Below w.heap.size w w' := fun t r ht hr w hg => by
    obtain ⟨m, hm⟩ := hg.max
    have h := may_any t m w (by unfold maxLen; omega) hm
    rw [hr] at h
    exact h
  have cP : ∀ (t : ByteArray), t.size ≤ 1000 → ∀ w, Glob w → Calls Tryd.prog 19 #[.string t] w fun e w' => (∃ a c, e = .returned (.slice a (cutAt 47 t.data.toList).length c)) ∧ Below w.heap.size w w' := fun t ht w hg => by
    obtain ⟨m, hm⟩ := hg.max
    refine (parts_any t m w (by omega) hm).mono ?_
    rintro e w' ⟨xs, hxs, rfl, rfl⟩
    exact ⟨⟨_, _, by rw [← hxs, List.length_map]⟩, (Below.refl _ _).alloc (Nat.le_refl _) _⟩
  obtain ⟨p, hp⟩ : ∃ p, okName x.data.toList = p := ⟨_, rfl⟩
  obtain ⟨q, hq⟩ : ∃ q, okName y.data.toList = q := ⟨_, rfl⟩
  have HMx := Lib.hid (cM x p (by omega) hp)
  have HMy := Lib.hid (cM y q (by omega) hq)
  have HJL := Lib.hid (cJ x ⟨#[]⟩ _ hxl (by decide) (join_left x.data.toList))
  have HJR := Lib.hid (cJ ⟨#[]⟩ y _ (by decide) hyl (join_right y.data.toList))
  have HJ := Lib.hid (cJ x y _ hxl hyl rfl)
  have HM := Lib.hid cM
  have HP := Lib.hid cP
  have HG := Lib.hid hG
  have Hp := Lib.hid hp
  have Hq := Lib.hid hq
  clear hG hp hq cJ cM cP
  go_enter Tryd.func9, Tryd.ntmps9
  go_wp2_with fail
  refine (begun_any w HG.out).mono ?_
  rintro e w1 ⟨rfl, hb1⟩
  go_wp2_with fail
  refine (HSA.out _).mono ?_
  rintro e w1' ⟨rfl, rfl⟩
  go_wp2_with fail
  refine (HSB.out _).mono ?_
  rintro e w1' ⟨rfl, rfl⟩
  go_wp2_with fail
  refine (HJ.out _).mono ?_
  rintro e w2 ⟨rfl, hb2⟩
  replace hb2 := chain hb1 hb2
  clear hb1
  go_wp2_with fail
  refine (HMx.out _ (HG.out.below hb2)).mono ?_
  rintro e w3 ⟨rfl, hb3⟩
  replace hb3 := chain hb2 hb3
  clear hb2
  have hdx : (x.toList == x.toList) = true := by simp
  have hdy : (y.toList == y.toList) = true := by simp
  have eJL := HJL.out
  have eJR := HJR.out
  rw [Lib.mk_data] at eJL eJR
  replace HJL := Lib.hid eJL
  replace HJR := Lib.hid eJR
  clear eJL eJR
  cases p
  · go_wp2_with fail
    refine (HJL.out _).mono ?_
    rintro e w4 ⟨rfl, hb4⟩
    replace hb4 := chain hb3 hb4
    clear hb3
    go_wp2_with fail
    refine (HJR.out _).mono ?_
    rintro e w5 ⟨rfl, hb5⟩
    replace hb5 := chain hb4 hb5
    clear hb4
    go_wp2
    go_ret
    exact ⟨rfl, hb5⟩
  · go_wp2_with fail
    refine (HMy.out _ (HG.out.below hb3)).mono ?_
    rintro e w4 ⟨rfl, hb4⟩
    replace hb4 := chain hb3 hb4
    clear hb3
    cases q
    · go_wp2_with fail
      refine (HJL.out _).mono ?_
      rintro e w5 ⟨rfl, hb5⟩
      replace hb5 := chain hb4 hb5
      clear hb4
      go_wp2_with fail
      refine (HJR.out _).mono ?_
      rintro e w6 ⟨rfl, hb6⟩
      replace hb6 := chain hb5 hb6
      clear hb5
      go_wp2
      go_ret
      exact ⟨rfl, hb6⟩
    · have hxn := ok_ne _ Hp.out
      have hyn := ok_ne _ Hq.out
      have hsd : (x ++ ⟨#[47]⟩ ++ y).data.toList = x.data.toList ++ 47 :: y.data.toList := by simp
      have hsl : (x ++ ⟨#[47]⟩ ++ y).size = x.size + 1 + y.size := by rw [ByteArray.size_append, ByteArray.size_append]; rfl
      have hcut : (cutAt 47 (x ++ ⟨#[47]⟩ ++ y).data.toList).length = (cutAt 47 x.data.toList).length + (cutAt 47 y.data.toList).length := by rw [hsd, cutAt_append, List.length_append]
      have hok : okName (x ++ ⟨#[47]⟩ ++ y).data.toList = decide ((x ++ ⟨#[47]⟩ ++ y).size ≤ 40) := by
        rw [Lib.size_eq (x ++ ⟨#[47]⟩ ++ y), hsd]; exact ok_join _ _ Hp.out Hq.out
      have hq : (⟨(x.data.toList ++ 47 :: y.data.toList).toArray⟩ : ByteArray) = x ++ ⟨#[47]⟩ ++ y := by rw [← hsd, Lib.mk_data]
      have hd : ((x ++ ⟨#[47]⟩ ++ y).toList == (x ++ ⟨#[47]⟩ ++ y).toList) = true := by simp
      rw [join_both _ _ hxn hyn, hq]
      have HMs := Lib.hid (HM.out (x ++ ⟨#[47]⟩ ++ y) _ (by omega) hok)
      have HPs := Lib.hid (HP.out (x ++ ⟨#[47]⟩ ++ y) (by omega))
      have HPx := Lib.hid (HP.out x (by omega))
      have HPy := Lib.hid (HP.out y (by omega))
      have HC := Lib.hid hcut
      have HL := Lib.hid hsl
      clear hcut hok hq hsd hxn hyn hsl
      go_wp2_with fail
      refine (HMs.out _ (HG.out.below hb4)).mono ?_
      rintro e w5 ⟨rfl, hb5⟩
      replace hb5 := chain hb4 hb5
      clear hb4
      go_wp2_with fail
      refine (HPs.out _ (HG.out.below hb5)).mono ?_
      rintro e w6 ⟨⟨a6, c6, rfl⟩, hb6⟩
      replace hb6 := chain hb5 hb6
      clear hb5
      rw [HC.out]
      go_wp2_with fail
      refine (HPx.out _ (HG.out.below hb6)).mono ?_
      rintro e w7 ⟨⟨a7, c7, rfl⟩, hb7⟩
      replace hb7 := chain hb6 hb7
      clear hb6
      go_wp2_with fail
      refine (HPy.out _ (HG.out.below hb7)).mono ?_
      rintro e w8 ⟨⟨a8, c8, rfl⟩, hb8⟩
      replace hb8 := chain hb7 hb8
      clear hb7
      have hc1 := cutAt_length_le 47 x.data.toList
      have hc2 := cutAt_length_le 47 y.data.toList
      rw [← Lib.size_eq] at hc1 hc2
      generalize (cutAt 47 x.data.toList).length = c1 at *
      generalize (cutAt 47 y.data.toList).length = c2 at *
      go_wp2
      go_ret
      exact ⟨rfl, hb8⟩
end Go.Proofs.YtmgmmjnlnmidlaaDoor.lawPathJoin
