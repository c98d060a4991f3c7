/- The law on plain names: for every two texts the call returns true. No condition. -/
import Derived.Test.YtmgmmjnlnmidlaaDoorWalkR
namespace Go.Proofs.YtmgmmjnlnmidlaaDoor.lawPathNorm
open Go.RowKit

theorem normGo_all : ∀ (ps kept : List (List UInt8)), ps.all okPart = true → normGo kept ps = some (kept ++ ps)
  | [], kept, _ => by rw [normGo, List.append_nil]
  | p :: ps, kept, h => by
    simp only [List.all_cons, Bool.and_eq_true] at h
    have h1 := h.1
    unfold okPart at h1
    simp only [Bool.and_eq_true, bne_iff_ne] at h1
    rw [normGo_keep kept ps p h1.1.1.1 h1.1.1.2 h1.1.2, normGo_all ps _ h.2]
    simp
theorem nonE_all (ps : List (List UInt8)) (h : ps.all okPart = true) : nonE ps = ps := by
  unfold nonE
  rw [List.filter_eq_self]
  intro a ha
  have := List.all_eq_true.1 h a ha
  unfold okPart at this
  simp only [Bool.and_eq_true, bne_iff_ne] at this
  cases a with
  | nil => exact absurd rfl this.1.1.1
  | cons => rfl
theorem norm_ok (l : List UInt8) (h : okName l = true) : normS l = (l, true) := by
  have hp : (cutAt 47 l).all okPart = true := by
    unfold okName at h
    simp only [Bool.and_eq_true] at h
    exact h.2
  unfold normS
  rw [normGo_all _ [] hp, List.nil_append]
  have hj : joinS (cutAt 47 l) = l := by unfold joinS; rw [nonE_all _ hp, cutAt_join]
  simp only [hj, h, if_true]
theorem norm_true (l : List UInt8) (h : (normS l).2 = true) : okName (normS l).1 = true := by
  unfold normS at h ⊢
  cases hg : normGo [] (cutAt 47 l) with
  | none => rw [hg] at h; cases h
  | some k =>
    rw [hg] at h
    by_cases hk : okName (joinS k) = true
    · simp only [hk, if_true]
    · simp only [hk] at h; cases h
theorem norm_false (l : List UInt8) (h : (normS l).2 = false) : (normS l).1 = [] := by
  unfold normS at h ⊢
  cases hg : normGo [] (cutAt 47 l) with
  | none => rfl
  | some k =>
    rw [hg] at h
    by_cases hk : okName (joinS k) = true
    · simp only [hk, if_true] at h; cases h
    · simp only [hk]; rfl
theorem skip_mid (q : List UInt8) (hq : q = [] ∨ q = [46]) : ∀ (ps kept qs : List (List UInt8)), normGo kept (ps ++ q :: qs) = normGo kept (ps ++ qs)
  | [], kept, qs => normGo_skip kept qs q hq
  | p :: ps, kept, qs => by
    rw [List.cons_append, List.cons_append, normGo, normGo]
    simp only [skip_mid q hq ps]
theorem norm_more (s t : List UInt8) : normS (s ++ [47, 46, 47] ++ t ++ [47, 47]) = normS (s ++ [47] ++ t) := by
  have e : s ++ [47, 46, 47] ++ t ++ [47, 47] = s ++ 47 :: ([46] ++ 47 :: (t ++ 47 :: ([] ++ 47 :: []))) := by simp
  have e2 : s ++ [47] ++ t = s ++ 47 :: t := by simp
  unfold normS
  rw [e, e2, cutAt_append, cutAt_append, cutAt_append, cutAt_append, cutAt_append, show cutAt 47 [] = [[]] from rfl, show cutAt 47 [46] = [[46]] by decide +kernel]
  rw [show cutAt 47 s ++ ([[46]] ++ (cutAt 47 t ++ ([[]] ++ [[]]))) = cutAt 47 s ++ [46] :: (cutAt 47 t ++ ([[]] ++ [[]])) by simp, skip_mid [46] (.inr rfl)]
  rw [show cutAt 47 s ++ (cutAt 47 t ++ ([[]] ++ [[]])) = (cutAt 47 s ++ cutAt 47 t) ++ [] :: ([] :: []) by simp, skip_mid [] (.inl rfl), skip_mid [] (.inl rfl), List.append_nil]

set_option maxHeartbeats 4000000 in
theorem law (a b : ByteArray) (w : World) (ha : a.size ≤ maxLen) (hb : b.size ≤ maxLen) (hG : Glob w) :
    Calls Tryd.prog 3 #[.string a, .string b] w fun e w' => e = .returned (.bool true) ∧ Below w.heap.size w w' := by
  have hsa := fun w => short_any a 50 w ha (by decide) (by decide)
  have hsb := fun w => short_any b 50 w hb (by decide) (by decide)
  obtain ⟨x, hx⟩ : ∃ x : ByteArray, x = a.extract 0 (min a.size (Int.toNat 50)) := ⟨_, rfl⟩
  obtain ⟨y, hy⟩ : ∃ y : ByteArray, y = b.extract 0 (min b.size (Int.toNat 50)) := ⟨_, rfl⟩
  rw [← hx] at hsa
  rw [← hy] at hsb
  have hxl : x.size ≤ 50 := by rw [hx]; simp; omega
  have hyl : y.size ≤ 50 := by rw [hy]; simp; omega
  have HSA := Lib.hid hsa
  have HSB := Lib.hid hsb
  clear hsa hsb hx hy
  have cM : ∀ (t : ByteArray) (r : Bool), t.size ≤ 1000 → okName t.data.toList = r → ∀ w, Glob w → Calls Tryd.prog 18 #[.string t] w fun e w' => e = .returned (.bool r) ∧ Below w.heap.size w w' := fun t r ht hr w hg => by
    obtain ⟨m, hm⟩ := hg.max
    have h := may_any t m w (by unfold maxLen; omega) hm
    rw [hr] at h
    exact h
  have cN : ∀ (t : ByteArray) (r : List UInt8) (q : Bool), t.size ≤ 1000 → normS t.data.toList = (r, q) → ∀ w, Glob w → Calls Tryd.prog 17 #[.string t] w fun e w' => e = .returned (.tuple #[.string ⟨r.toArray⟩, .bool q]) ∧ Below w.heap.size w w' := fun t r q ht hr w hg => by
    obtain ⟨m, hm⟩ := hg.max
    have h := norm_any t m w (by omega) (cell_lt hm) hm
    rw [hr] at h
    exact h
  obtain ⟨⟨rl, q⟩, hr⟩ : ∃ r, normS x.data.toList = r := ⟨_, rfl⟩
  obtain ⟨⟨ul, g⟩, hu⟩ : ∃ r, normS (x.data.toList ++ [47] ++ y.data.toList) = r := ⟨_, rfl⟩
  have hu2 := (norm_more x.data.toList y.data.toList).trans hu
  obtain ⟨n, hn⟩ : ∃ n : ByteArray, n = ⟨rl.toArray⟩ := ⟨_, rfl⟩
  obtain ⟨u, hue⟩ : ∃ u : ByteArray, u = ⟨ul.toArray⟩ := ⟨_, rfl⟩
  have hnd : n.data.toList = rl := by rw [hn]
  have hU1 := cN (x ++ ⟨#[47, 46, 47]⟩ ++ y ++ ⟨#[47, 47]⟩) ul g (by simp only [ByteArray.size_append]; have e1 : (⟨#[47, 46, 47]⟩ : ByteArray).size = 3 := rfl; have e2 : (⟨#[47, 47]⟩ : ByteArray).size = 2 := rfl; omega) (by simpa using hu2)
  have hU2 := cN (x ++ ⟨#[47]⟩ ++ y) ul g (by simp only [ByteArray.size_append]; have e1 : (⟨#[47]⟩ : ByteArray).size = 1 := rfl; omega) (by simpa using hu)
  have hN1 := cN x rl q (by omega) hr
  obtain ⟨p, hp⟩ : ∃ p, okName x.data.toList = p := ⟨_, rfl⟩
  have hMx := cM x p (by omega) hp
  rw [← hue] at hU1 hU2
  rw [← hn] at hN1
  have HU1 := Lib.hid hU1
  have HU2 := Lib.hid hU2
  have HN1 := Lib.hid hN1
  have HMx := Lib.hid hMx
  have HM := Lib.hid cM
  have HN := Lib.hid cN
  have HG := Lib.hid hG
  have HR := Lib.hid hr
  have HND := Lib.hid hnd
  have HP := Lib.hid hp
  have hl1 : (x ++ ⟨#[47, 46, 47]⟩ ++ y ++ ⟨#[47, 47]⟩).size = x.size + 3 + y.size + 2 := by simp only [ByteArray.size_append]; rfl
  have hdu : (u.toList == u.toList) = true := by simp
  have hdn : (n.toList == n.toList) = true := by simp
  clear hG cM cN hu hu2 hue hn hnd hr hU1 hU2 hN1 hMx hp
  go_enter Tryd.func3, Tryd.ntmps3
  go_wp2_with fail
  refine (begun_any w HG.out).mono ?_
  rintro e w1 ⟨rfl, hb1⟩
  go_wp2_with fail
  refine (HSA.out _).mono ?_
  rintro e w1' ⟨rfl, rfl⟩
  go_wp2_with fail
  refine (HSB.out _).mono ?_
  rintro e w1' ⟨rfl, rfl⟩
  go_wp2_with fail
  refine (HN1.out _ (HG.out.below hb1)).mono ?_
  rintro e w2 ⟨rfl, hb2⟩
  replace hb2 := chain hb1 hb2
  clear hb1
  cases q
  · have hrl : rl = [] := by have := norm_false x.data.toList (by rw [HR.out]); rw [HR.out] at this; exact this
    have hpf : p = false := by
      cases p
      · rfl
      · have := norm_ok _ HP.out
        rw [HR.out] at this
        simp at this
    subst hpf
    have hne : n = ⟨#[]⟩ := by
      apply ByteArray.ext
      apply Array.toList_inj.1
      rw [HND.out, hrl]
    subst hne
    have HN2 := Lib.hid (HN.out ⟨#[]⟩ [] false (by decide) (by decide +kernel))
    go_wp2_with fail
    refine (HN2.out _ (HG.out.below hb2)).mono ?_
    rintro e w3 ⟨rfl, hb3⟩
    replace hb3 := chain hb2 hb3
    clear hb2
    go_wp2_with fail
    refine (HMx.out _ (HG.out.below hb3)).mono ?_
    rintro e w4 ⟨rfl, hb4⟩
    replace hb4 := chain hb3 hb4
    clear hb3
    go_wp2_with fail
    refine (HU1.out _ (HG.out.below hb4)).mono ?_
    rintro e w5 ⟨rfl, hb5⟩
    replace hb5 := chain hb4 hb5
    clear hb4
    go_wp2_with fail
    refine (HU2.out _ (HG.out.below hb5)).mono ?_
    rintro e w6 ⟨rfl, hb6⟩
    replace hb6 := chain hb5 hb6
    clear hb5
    go_wp2
    go_ret
    exact ⟨rfl, hb6⟩
  · have hok : okName n.data.toList = true := by
      have := norm_true x.data.toList (by rw [HR.out])
      rw [HR.out] at this
      rw [HND.out]; exact this
    have hnl : n.size ≤ 40 := by
      unfold okName at hok
      simp only [Bool.and_eq_true, decide_eq_true_eq] at hok
      rw [Lib.size_eq]; exact hok.1.1
    have HN2 := Lib.hid (HN.out n n.data.toList true (by omega) (norm_ok _ hok))
    rw [Lib.mk_data] at HN2
    have HMn := Lib.hid (HM.out n true (by omega) hok)
    clear hok
    go_wp2_with fail
    refine (HN2.out _ (HG.out.below hb2)).mono ?_
    rintro e w3 ⟨rfl, hb3⟩
    replace hb3 := chain hb2 hb3
    clear hb2
    go_wp2_with fail
    refine (HMn.out _ (HG.out.below hb3)).mono ?_
    rintro e w3b ⟨rfl, hb3b⟩
    replace hb3 := chain hb3 hb3b
    clear hb3b
    go_wp2_with fail
    refine (HMx.out _ (HG.out.below hb3)).mono ?_
    rintro e w4 ⟨rfl, hb4⟩
    replace hb4 := chain hb3 hb4
    clear hb3
    cases p
    · go_wp2_with fail
      refine (HU1.out _ (HG.out.below hb4)).mono ?_
      rintro e w5 ⟨rfl, hb5⟩
      replace hb5 := chain hb4 hb5
      clear hb4
      go_wp2_with fail
      refine (HU2.out _ (HG.out.below hb5)).mono ?_
      rintro e w6 ⟨rfl, hb6⟩
      replace hb6 := chain hb5 hb6
      clear hb5
      go_wp2
      go_ret
      exact ⟨rfl, hb6⟩
    · have hnx : n = x := by
        have := norm_ok _ HP.out
        rw [HR.out] at this
        apply ByteArray.ext
        apply Array.toList_inj.1
        rw [HND.out]
        exact (Prod.mk.inj this).1
      subst hnx
      go_wp2_with fail
      refine (HU1.out _ (HG.out.below hb4)).mono ?_
      rintro e w5 ⟨rfl, hb5⟩
      replace hb5 := chain hb4 hb5
      clear hb4
      go_wp2_with fail
      refine (HU2.out _ (HG.out.below hb5)).mono ?_
      rintro e w6 ⟨rfl, hb6⟩
      replace hb6 := chain hb5 hb6
      clear hb5
      go_wp2
      go_ret
      exact ⟨rfl, hb6⟩
end Go.Proofs.YtmgmmjnlnmidlaaDoor.lawPathNorm
