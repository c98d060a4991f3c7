/- The library's merge in place where one side has one element. -/
import Derived.Test.YtlmnabhhgplhnaaGreatDoorMsra
namespace Go.Proofs.YtlmnabhhgplhnaaGreatDoor
open Go.RowKit Go.Shelf Go.Sort

/-- What a comparison is told of two rules, in every world that it may meet. -/
structure Cm (blk : Nat) (wr : World) (i : Nat) (y : E5) : Prop where
 c0 : ∀ n os, (grow (wr.drewN n) os).cell? ⟨blk, i * 5, none⟩ = some (.string y.1)
 c1 : ∀ n os, (grow (wr.drewN n) os).cell? ⟨blk, i * 5 + 1, none⟩ = some (.slice y.2.1.1 y.2.1.2.1 y.2.1.2.2)
 c2 : ∀ n os, (grow (wr.drewN n) os).cell? ⟨blk, i * 5 + 2, none⟩ = some (.slice y.2.2.1.1 y.2.2.1.2.1 y.2.2.1.2.2)
 c3 : ∀ n os, (grow (wr.drewN n) os).cell? ⟨blk, i * 5 + 3, none⟩ = some (.slice y.2.2.2.1.1 y.2.2.2.1.2.1 y.2.2.2.1.2.2)
 c4 : ∀ n os, (grow (wr.drewN n) os).cell? ⟨blk, i * 5 + 4, none⟩ = some (.slice y.2.2.2.2.1 y.2.2.2.2.2.1 y.2.2.2.2.2.2)
theorem SWL.grown {w0 W : World} {blk : Nat} {l : List E5} (h : SWL w0 blk l W) (n : Nat) (os : Array Obj) : SWL w0 blk l (grow (W.drewN n) os) := SWK.grown h n os
theorem SWL.cm {w0 W : World} {blk : Nat} {l : List E5} (h : SWL w0 blk l W) (R : R5 w0 blk l.length) {i : Nat} {y : E5} (hy : l[i]? = some y) : Cm blk W i y :=
 ⟨fun n os => ((h.grown n os).at R hy).1.1, fun n os => ((h.grown n os).at R hy).1.2.1, fun n os => ((h.grown n os).at R hy).1.2.2.1, fun n os => ((h.grown n os).at R hy).1.2.2.2.1, fun n os => ((h.grown n os).at R hy).1.2.2.2.2⟩
theorem cmp5_grow (x y : E5) (w : World) (n : Nat) (os : Array Obj) :
  Calls Tryz.prog 47 #[.agg (enc5 x).toArray, .agg (enc5 y).toArray] (grow (w.drewN n) os) fun e w' => e = .returned (.int .i64 (cf5 x y)) ∧ ∃ p : GrownBy, w' = grow (w.drewN p.n) p.os := by
 refine (cmp5_any x y _).mono ?_
 rintro e w' ⟨rfl, rfl⟩
 refine ⟨rfl, ⟨n, os ++ #[.cells (enc5 x).toArray 38] ++ #[.cells (enc5 y).toArray 38]⟩, ?_⟩
 rw [alloc_eq_grow, alloc_eq_grow, grow_grow, grow_grow, Array.append_assoc]
theorem cf_false {x y : E5} (h : le5 x y = false) : cf5 y x < 0 := by
 unfold le5 at h
 rw [cf_anti x y]
 simp only [decide_eq_false_iff_not] at h
 omega
theorem cf_true {x y : E5} (h : le5 x y = true) : ¬ cf5 y x < 0 := by
 unfold le5 at h
 rw [cf_anti x y]
 simp only [decide_eq_true_eq] at h
 omega
/-- A place in the middle of a list. -/
theorem mid_split {α : Type} (l : List α) (k : Nat) (h : k < l.length) : ∃ U y V, l = U ++ y :: V ∧ U.length = k :=
 ⟨l.take k, l[k], l.drop (k + 1), by rw [List.getElem_cons_drop, List.take_append_drop], by rw [List.length_take]; omega⟩
theorem merge_one {x : E5} {R1 R2 : List E5} (h1 : ∀ y ∈ R1, le5 x y = false) (h2 : ∀ y ∈ R2, le5 x y = true) : List.merge [x] (R1 ++ R2) le5 = R1 ++ x :: R2 := by
 have := merge_split (le := le5) [] [x] R1 R2 (by simp) (by simpa using h1)
 simp only [List.nil_append] at this
 rw [this]
 cases R2 with
 | nil => simp
 | cons y R2 => rw [List.cons_merge_cons, if_pos (h2 y (by simp))]; simp
theorem merge_two {y : E5} {L1 L2 : List E5} (h1 : ∀ x ∈ L1, le5 x y = true) (h2 : ∀ x ∈ L2, le5 x y = false) : List.merge (L1 ++ L2) [y] le5 = L1 ++ y :: L2 := by
 have := merge_split (le := le5) L1 L2 [y] [] (by simp) (by simpa using h2)
 simp only [List.append_nil] at this
 rw [this]
 clear this h2
 induction L1 with
 | nil => simp
 | cons x L1 ih =>
  rw [List.cons_merge_cons, if_pos (h1 x (by simp))]
  have := ih (fun z hz => h1 z (by simp [hz]))
  simpa using this
theorem srch_low {p : E5 → Bool} (hp : ∀ a b, le5 a b = true → p b = true → p a = true) {R R1 Rm R2 U V : List E5} {y : E5} (hs : Srt le5 R) (hR : R = R1 ++ (Rm ++ R2)) (hU : Rm = U ++ y :: V) (h1 : ∀ z ∈ R1, p z = true) (hl : p y = true) : ∀ z ∈ R1 ++ (U ++ [y]), p z = true := by
 subst hR hU
 intro z hz
 rcases List.mem_append.1 hz with hz | hz
 ·exact h1 z hz
 ·rcases List.mem_append.1 hz with hz | hz
  ·have s1 := (srt_append hs).2.1
   have s2 := (srt_append (le := le5) (L := U) (R := y :: (V ++ R2)) (by simpa using s1)).2.2
   exact hp z y (s2 z hz y (by simp)) hl
  ·simp at hz; subst hz; exact hl
theorem srch_high {p : E5 → Bool} (hp : ∀ a b, le5 a b = true → p b = true → p a = true) {R R1 Rm R2 U V : List E5} {y : E5} (hs : Srt le5 R) (hR : R = R1 ++ (Rm ++ R2)) (hU : Rm = U ++ y :: V) (hl : p y = false) : ∀ z ∈ y :: V ++ R2, p z = false := by
 subst hR hU
 intro z hz
 have s1 := (srt_append hs).2.1
 have s2 := (srt_append (le := le5) (L := U) (R := y :: (V ++ R2)) (by simpa using s1)).2.1
 rcases List.mem_cons.1 (by simpa using hz : z ∈ y :: (V ++ R2)) with rfl | hz
 ·exact hl
 ·have := (List.pairwise_cons.1 s2).1 z hz
  cases h : p z with
  | false => rfl
  | true => have := hp y z this h; rw [hl] at this; cases this
theorem up_le (x : E5) : ∀ a b, le5 a b = true → (!le5 x b) = true → (!le5 x a) = true := by
 intro a b h1 h2
 simp only [Bool.not_eq_true'] at h2 ⊢
 cases h : le5 x a with
 | false => rfl
 | true => rw [pre5.tr _ _ _ h h1] at h2; cases h2
theorem dn_le (y : E5) : ∀ a b, le5 a b = true → le5 b y = true → le5 a y = true := fun _ _ h1 h2 => pre5.tr _ _ _ h1 h2
theorem at_mid {α : Type} (A B : List α) (x : α) {i : Nat} (h : A.length = i) : (A ++ x :: B)[i]? = some x := by subst h; simp

set_option maxHeartbeats 4000000 in
set_option maxRecDepth 100000 in
theorem sym1_c (w0 : World) (blk cap : Nat) (A R B : List E5) (x : E5) (W : World) (hR5 : R5 w0 blk (A ++ x :: (R ++ B)).length) (h : SWL w0 blk (A ++ x :: (R ++ B)) W) (hs : Srt le5 R) (hn : (A ++ x :: (R ++ B)).length ≤ 1048576) :
  Calls Tryz.prog 119 #[.slice (some ⟨blk, 0, none⟩) (A ++ x :: (R ++ B)).length cap, .int .i64 (A.length : Int), .int .i64 ((A.length + 1 : Nat) : Int), .int .i64 ((A.length + 1 + R.length : Nat) : Int), .func (.func 47) #[] #[]] W fun e w' => e = .returned (.tuple #[]) ∧ SWL w0 blk (A ++ List.merge [x] R le5 ++ B) w' := by
 obtain ⟨n, hnl⟩ : ∃ n, (A ++ x :: (R ++ B)).length = n := ⟨_, rfl⟩
 have hlen : A.length + 1 + R.length + B.length = n := by rw [← hnl]; simp only [List.length_append, List.length_cons]; omega
 rw [hnl] at hR5 hn ⊢
 obtain ⟨a, ha⟩ : ∃ k, A.length = k := ⟨_, rfl⟩
 obtain ⟨r, hr⟩ : ∃ k, R.length = k := ⟨_, rfl⟩
 have H0 := Lib.hid h
 have HR := Lib.hid hR5
 have HS := Lib.hid hs
 have HA := Lib.hid ha; have HRL := Lib.hid hr; have HN := Lib.hid hnl
 have hb1 : a + 1 + r ≤ n := by omega
 have q1 : ((a + 1 : Nat) : Int) - (a : Int) = 1 := by omega
 have CMP : Hid (∀ (p q : E5) (w' : World) (m : Nat) (os : Array Obj), Calls Tryz.prog 47 #[.agg (enc5 p).toArray, .agg (enc5 q).toArray] (grow (w'.drewN m) os) fun e w'' => e = .returned (.int .i64 (cf5 p q)) ∧ ∃ p : GrownBy, w'' = grow (w'.drewN p.n) p.os) := Lib.hid cmp5_grow
 obtain ⟨T, hT⟩ : ∃ T, List.merge [x] R le5 = T := ⟨_, rfl⟩
 have HT := Lib.hid hT
 rw [ha, hr, hT]
 obtain ⟨e, he⟩ : ∃ e, a + 1 + r = e := ⟨_, rfl⟩
 obtain ⟨m, hm⟩ : ∃ e, a + 1 = e := ⟨_, rfl⟩
 rw [he, hm]
 rw [hm] at q1
 have mixed : Tryz.prog.follows .mixedOrders = true := by kernel_rfl
 have q2 : IntKind.i64.wrap ((m : Int) - (a : Int)) = 1 := by rw [q1]; rfl
 clear h hR5 hs hnl hlen ha hr hT
 go_enter Tryz.func119, Tryz.ntmps119
 go_wp2_with fail
 go_loopw [10, 11] (fun iv jv wr => ∃ (R1 Rm R2 : List E5), R = R1 ++ (Rm ++ R2) ∧ iv = .int .i64 ((m + R1.length : Nat) : Int) ∧ jv = .int .i64 ((m + R1.length + Rm.length : Nat) : Int) ∧ (∀ z ∈ R1, (fun z => !le5 x z) z = true) ∧ (∀ z ∈ R2, (fun z => !le5 x z) z = false) ∧ SWL w0 blk (A ++ x :: (R ++ B)) wr) (fun i j _ => (intOf j).toNat - (intOf i).toNat)
 case atStart => exact ⟨[], R, [], by simp, by simp, by rw [HRL.out, ← he, hm]; simp, by simp, by simp, H0.out⟩
 case round =>
  clear H0
  obtain ⟨R1, Rm, R2, hR, rfl, rfl, h1, h2, hw⟩ := hrel
  obtain ⟨p, hp⟩ : ∃ p, R1.length = p := ⟨_, rfl⟩
  obtain ⟨g, hg⟩ : ∃ p, Rm.length = p := ⟨_, rfl⟩
  rw [hp, hg]
  have hle : p + g ≤ r := by rw [← HRL.out, hR]; simp only [List.length_append]; omega
  have HRE := Lib.hid hR; have HP := Lib.hid hp; have HG := Lib.hid hg; have H1 := Lib.hid h1; have H2 := Lib.hid h2; have HW := Lib.hid hw
  by_cases hlt : 0 < g
  ·obtain ⟨U, y, V, hU, hUl⟩ := mid_split Rm (g / 2) (by omega)
   obtain ⟨c, hc⟩ : ∃ c, m + p + g / 2 = c := ⟨_, rfl⟩
   have hy := (hw.cm (by rw [HN.out]; exact HR.out) (i := c) (y := y) (by rw [hR, hU]; rw [show A ++ x :: (R1 ++ (U ++ y :: V ++ R2) ++ B) = (A ++ x :: (R1 ++ U)) ++ y :: (V ++ (R2 ++ B)) by simp]; exact at_mid _ _ _ (by rw [← hc, ← hm]; simp only [List.length_append, List.length_cons, HA.out, hp, hUl]; omega)))
   have hx := (hw.cm (by rw [HN.out]; exact HR.out) (i := a) (y := x) (at_mid _ _ _ HA.out))
   have cC := CMP.out y x wr
   unfold enc5 at cC
   obtain ⟨d0, d1, d2, d3, d4⟩ := hy
   obtain ⟨c0, c1, c2, c3, c4⟩ := hx
   have HU := Lib.hid hU; have HUL := Lib.hid hUl
   obtain ⟨i, hi⟩ : ∃ i, m + p = i := ⟨_, rfl⟩
   rw [hi]
   have i1 : (i : Int) < ((i + g : Nat) : Int) := by omega
   obtain ⟨j, hj⟩ : ∃ j, i + g = j := ⟨_, rfl⟩
   rw [hj] at i1 ⊢
   have j1 : ((i : Int) + (j : Int)) / 2 = (c : Int) := by omega
   have j2 : (0 : Int) ≤ (c : Int) := by omega
   have j3 : (c : Int) < (n : Int) := by omega
   have j4 : (0 : Int) ≤ (a : Int) := by omega
   have j5 : (a : Int) < (n : Int) := by omega
   have j6 : 0 ≤ (i : Int) + (j : Int) := by omega
   have j7 : (i : Int) + (j : Int) < 4194304 := by omega
   have NUM := Lib.hid (show m + p = i ∧ i + g = j ∧ i + g / 2 = c from ⟨hi, hj, by omega⟩)
   clear hR hp hg h1 h2 hw hU hUl hi hj hle hc
   cases hl : le5 x y with
   | false =>
    have hv := cf_false hl
    have HL := Lib.hid hl
    have hd : decide (cf5 y x < 0) = true := decide_eq_true hv
    clear hl
    obtain ⟨cv, hcv⟩ : ∃ cv, cf5 y x = cv := ⟨_, rfl⟩
    rw [hcv] at cC hv hd
    clear hcv
    go_wp2_with fail
    go_quiet_grown (first | (go_at_call 47; exact cC _ _))
    go_wp2
    go_roundw
    case rel =>
     have hV : U.length + 1 + V.length = g := by have := congrArg List.length HU.out; simp only [List.length_append, List.length_cons] at this; rw [HG.out] at this; omega
     have hh := NUM.out
     have hul := HUL.out
     refine ⟨R1 ++ (U ++ [y]), V, R2, by rw [HRE.out, HU.out]; simp, ?_, ?_, srch_low (up_le x) HS.out HRE.out HU.out H1.out (by simp only [HL.out, Bool.not_false]), H2.out, HW.out.grown _ _⟩
     ·simp only [List.length_append, List.length_cons, List.length_nil, HP.out]; congr 1; omega
     ·simp only [List.length_append, List.length_cons, List.length_nil, HP.out]; congr 1; omega
    case measure => simp [intOf]; omega
   | true =>
    have hv := cf_true hl
    have HL := Lib.hid hl
    have hd : decide (cf5 y x < 0) = false := decide_eq_false hv
    clear hl
    obtain ⟨cv, hcv⟩ : ∃ cv, cf5 y x = cv := ⟨_, rfl⟩
    rw [hcv] at cC hv hd
    clear hcv
    go_wp2_with fail
    go_quiet_grown (first | (go_at_call 47; exact cC _ _))
    go_wp2
    go_roundw
    case rel =>
     have hh := NUM.out
     have hul := HUL.out
     refine ⟨R1, U, y :: V ++ R2, by rw [HRE.out, HU.out]; simp, ?_, ?_, H1.out, srch_high (up_le x) HS.out HRE.out HU.out (by simp only [HL.out, Bool.not_true]), HW.out.grown _ _⟩
     ·simp only [HP.out]; congr 1; omega
     ·simp only [HP.out]; congr 1; omega
    case measure => simp [intOf]; omega
  ·obtain rfl : g = 0 := by omega
   have hm0 : Rm = [] := List.eq_nil_of_length_eq_zero hg
   subst hm0
   have hTe : T = R1 ++ x :: R2 := by
    rw [← HT.out, hR]
    exact merge_one (by simpa using h1) (by simpa using h2)
   obtain ⟨WR, rfl⟩ : ∃ V, V = wr := ⟨_, rfl⟩
   obtain ⟨i, hi⟩ : ∃ i, m + p = i := ⟨_, rfl⟩
   have hw2 : SWL w0 blk (A ++ x :: (R1 ++ (R2 ++ B))) WR := by rw [hR] at hw; simpa using hw
   have HW2 := Lib.hid hw2
   have HTE := Lib.hid hTe
   have NUM := Lib.hid (show m + p = i from hi)
   have HNL : Hid ((A ++ x :: (R1 ++ (R2 ++ B))).length = n) := by show _ = _; have := HN.out; rw [hR] at this; simpa using this
   rw [Nat.add_zero, hi]
   have i1 : ¬ (i : Int) < (i : Int) := by omega
   have ib : i ≤ n := by omega
   clear hR hp hg h1 h2 hw hw2 hi hle hTe H1 H2 HW HRE HG
   go_wp2_with fail
   go_loopw [13] (fun kv wr => ∃ (Ra Rb : List E5), R1 = Ra ++ Rb ∧ kv = .int .i64 ((a + Ra.length : Nat) : Int) ∧ SWL w0 blk (A ++ (Ra ++ x :: (Rb ++ (R2 ++ B)))) wr) (fun k _ => a + p - (intOf k).toNat)
   case atStart => exact ⟨[], R1, by simp, by simp, HW2.out⟩
   case round =>
    clear HW2
    obtain ⟨Ra, Rb, hR1, rfl, hsw⟩ := hrel
    obtain ⟨q, hq⟩ : ∃ q, Ra.length = q := ⟨_, rfl⟩
    have HSW := Lib.hid hsw
    have HR1 := Lib.hid hR1
    have HQ := Lib.hid hq
    have hab : q + Rb.length = p := by have := congrArg List.length hR1; rw [HP.out, List.length_append, hq] at this; omega
    rw [hq]
    by_cases hlt2 : q < p
    ·obtain ⟨z, Rc, hz⟩ : ∃ z r, Rb = z :: r := by
      cases Rb with
      | nil => simp at hab; omega
      | cons z r => exact ⟨z, r, rfl⟩
     subst hz
     have hln : (A ++ Ra ++ x :: ([] ++ z :: (Rc ++ (R2 ++ B)))).length = n := by rw [← HNL.out, hR1]; simp only [List.length_append, List.length_cons, List.nil_append]; omega
     have hs3 : SWL w0 blk (A ++ Ra ++ x :: ([] ++ z :: (Rc ++ (R2 ++ B)))) wr := by simpa using hsw
     have hRR : R5 w0 blk (A ++ Ra ++ x :: ([] ++ z :: (Rc ++ (R2 ++ B)))).length := by rw [hln]; exact HR.out
     obtain ⟨k, hk⟩ : ∃ k, a + q = k := ⟨_, rfl⟩
     have hAl : (A ++ Ra).length = k := by rw [List.length_append, HA.out, hq]; exact hk
     have hat1 := hs3.at hRR (i := k) (x := x) (at_mid _ _ _ hAl)
     have hat2 := hs3.at hRR (i := k + 1) (x := z) (by
      rw [show A ++ Ra ++ x :: ([] ++ z :: (Rc ++ (R2 ++ B))) = (A ++ Ra ++ [x]) ++ z :: (Rc ++ (R2 ++ B)) by simp]
      exact at_mid _ _ _ (by rw [List.length_append, hAl]; rfl))
     have hsp := hs3.swapped hRR
     rw [hAl, List.length_nil, Nat.add_zero] at hsp
     have HSP := Lib.hid hsp
     obtain ⟨⟨c0, c1, c2, c3, c4⟩, m0, m1, m2, m3, m4⟩ := hat1
     obtain ⟨⟨d0, d1, d2, d3, d4⟩, n0, n1, n2, n3, n4⟩ := hat2
     obtain ⟨x1, ⟨xa, xn, xc⟩, ⟨ya, yn, yc⟩, ⟨za, zn, zc⟩, ⟨ta, tn, tc⟩⟩ := x
     obtain ⟨y1, ⟨xa', xn', xc'⟩, ⟨ya', yn', yc'⟩, ⟨za', zn', zc'⟩, ⟨ta', tn', tc'⟩⟩ := z
     simp only at c0 c1 c2 c3 c4 d0 d1 d2 d3 d4
     rw [hk]
     have hki : k + 1 < i := by have := NUM.out; omega
     have k0 : (k : Int) < (i : Int) - 1 := by omega
     have k1 : IntKind.i64.wrap ((i : Int) - 1) = (i : Int) - 1 := IntWalk.i64_in _ (by omega)
     have k2 : IntKind.i64.wrap ((k : Int) + 1) = (k : Int) + 1 := IntWalk.i64_in _ (by omega)
     have j1 : (0 : Int) ≤ (k : Int) := by omega
     have j2 : (k : Int) < (n : Int) := by omega
     have j3 : ((k : Int) + 1).toNat = k + 1 := by omega
     have j4 : (0 : Int) ≤ (k : Int) + 1 := by omega
     have j5 : (k : Int) + 1 < (n : Int) := by omega
     have HK := Lib.hid hk
     clear hs3 hsw hR1 hq hln hRR hAl hsp hab hk
     go_wp2_with fail
     refine wp_region_S (S := fun b w' => b = false → w' = wr.drew) (st := 15) (by kernel_rfl) ?_ (fun hHeld => ?_)
     ·exact fun _ => rfl
     refine wpAnyS_take (i := 0) (oi := _) (v := ?_) (by simp only [List.getElem?_toArray, List.getElem?_cons_zero]; rfl) (by kernel_rfl) (by kernel_rfl) (f := 20) (by kernel_rfl) (by kernel_rfl) (by kernel_rfl) (by kernel_rfl) (by exact fun _ _ _ h => h) (by kernel_rfl) (Or.inl ⟨by rfl, ?_⟩) (by assumption) ?_
     rotate_left
     ·intro w hSw; obtain rfl := hSw rfl; clear hSw; go_simp; try with_reducible rfl
     try simp only [Act.put, List.setIfInBounds_toArray, List.set_cons_zero, List.set_cons_succ]
     refine wpAnyS_take (i := 1) (oi := _) (v := ?_) (by simp only [List.getElem?_toArray, List.getElem?_cons_succ, List.getElem?_cons_zero]; rfl) (by kernel_rfl) (by kernel_rfl) (f := 20) (by kernel_rfl) (by kernel_rfl) (by kernel_rfl) (by kernel_rfl) (by exact fun _ _ _ h => h) (by kernel_rfl) (Or.inl ⟨by rfl, ?_⟩) (by assumption) ?_
     rotate_left
     ·intro w hSw; obtain rfl := hSw rfl; clear hSw; go_simp; try with_reducible rfl
     try simp only [Act.put, List.setIfInBounds_toArray, List.set_cons_zero, List.set_cons_succ]
     refine wpAnyS_take0 (i := 2) (oi := _) (v := ?_) (by simp only [List.getElem?_toArray, List.getElem?_cons_succ, List.getElem?_cons_zero]; rfl) (by kernel_rfl) (by kernel_rfl) (by kernel_rfl) (by kernel_rfl) (by exact fun _ _ _ h => h) (by kernel_rfl) (Or.inl ⟨by rfl, ?_⟩) (by assumption) ?_
     rotate_left
     ·intro w hSw; go_simp; try with_reducible rfl
     try simp only [Act.put, List.setIfInBounds_toArray, List.set_cons_zero, List.set_cons_succ]
     refine wpAnyS_take0 (i := 3) (oi := _) (v := ?_) (by simp only [List.getElem?_toArray, List.getElem?_cons_succ, List.getElem?_cons_zero]; rfl) (by kernel_rfl) (by kernel_rfl) (by kernel_rfl) (by kernel_rfl) (by exact fun _ _ _ h => h) (by kernel_rfl) (Or.inl ⟨by rfl, ?_⟩) (by assumption) ?_
     rotate_left
     ·intro w hSw; go_simp; try with_reducible rfl
     try simp only [Act.put, List.setIfInBounds_toArray, List.set_cons_zero, List.set_cons_succ]
     refine wpAnyS_take0 (i := 4) (oi := _) (v := ?_) (by simp only [List.getElem?_toArray, List.getElem?_cons_succ, List.getElem?_cons_zero]; rfl) (by kernel_rfl) (by kernel_rfl) (by kernel_rfl) (by kernel_rfl) (by exact fun _ _ _ h => h) (by kernel_rfl) (Or.inl ⟨by rfl, ?_⟩) (by assumption) ?_
     rotate_left
     ·intro w hSw; go_simp; try with_reducible rfl
     try simp only [Act.put, List.setIfInBounds_toArray, List.set_cons_zero, List.set_cons_succ]
     refine wpAnyS_take (i := 5) (oi := _) (v := ?_) (by simp only [List.getElem?_toArray, List.getElem?_cons_succ, List.getElem?_cons_zero]; rfl) (by kernel_rfl) (by kernel_rfl) (f := 20) (by kernel_rfl) (by kernel_rfl) (by kernel_rfl) (by kernel_rfl) (by exact fun _ _ _ h => h) (by kernel_rfl) (Or.inl ⟨by rfl, ?_⟩) (by assumption) ?_
     rotate_left
     ·intro w hSw; obtain rfl := hSw rfl; clear hSw; go_simp; try with_reducible rfl
     try simp only [Act.put, List.setIfInBounds_toArray, List.set_cons_zero, List.set_cons_succ]
     refine wpAnyS_take (i := 6) (oi := _) (v := ?_) (by simp only [List.getElem?_toArray, List.getElem?_cons_succ, List.getElem?_cons_zero]; rfl) (by kernel_rfl) (by kernel_rfl) (f := 20) (by kernel_rfl) (by kernel_rfl) (by kernel_rfl) (by kernel_rfl) (by exact fun _ _ _ h => h) (by kernel_rfl) (Or.inl ⟨by rfl, ?_⟩) (by assumption) ?_
     rotate_left
     ·intro w hSw; obtain rfl := hSw rfl; clear hSw; go_simp; try with_reducible rfl
     try simp only [Act.put, List.setIfInBounds_toArray, List.set_cons_zero, List.set_cons_succ]
     refine wpAnyS_take (i := 7) (oi := _) (v := ?_) (by simp only [List.getElem?_toArray, List.getElem?_cons_succ, List.getElem?_cons_zero]; rfl) (by kernel_rfl) (by kernel_rfl) (f := 20) (by kernel_rfl) (by kernel_rfl) (by kernel_rfl) (by kernel_rfl) (by exact fun _ _ _ h => h) (by kernel_rfl) (Or.inl ⟨by rfl, ?_⟩) (by assumption) ?_
     rotate_left
     ·intro w hSw; obtain rfl := hSw rfl; clear hSw; go_simp; try with_reducible rfl
     try simp only [Act.put, List.setIfInBounds_toArray, List.set_cons_zero, List.set_cons_succ]
     refine wpAnyS_take (i := 8) (oi := _) (v := ?_) (by simp only [List.getElem?_toArray, List.getElem?_cons_succ, List.getElem?_cons_zero]; rfl) (by kernel_rfl) (by kernel_rfl) (f := 20) (by kernel_rfl) (by kernel_rfl) (by kernel_rfl) (by kernel_rfl) (by exact fun _ _ _ h => h) (by kernel_rfl) (Or.inl ⟨by rfl, ?_⟩) (by assumption) ?_
     rotate_left
     ·intro w hSw; obtain rfl := hSw rfl; clear hSw; go_simp; try with_reducible rfl
     try simp only [Act.put, List.setIfInBounds_toArray, List.set_cons_zero, List.set_cons_succ]
     refine wpAnyS_take (i := 9) (oi := _) (v := ?_) (by simp only [List.getElem?_toArray, List.getElem?_cons_succ, List.getElem?_cons_zero]; rfl) (by kernel_rfl) (by kernel_rfl) (f := 20) (by kernel_rfl) (by kernel_rfl) (by kernel_rfl) (by kernel_rfl) (by exact fun _ _ _ h => h) (by kernel_rfl) (Or.inl ⟨by rfl, ?_⟩) (by assumption) ?_
     rotate_left
     ·intro w hSw; obtain rfl := hSw rfl; clear hSw; go_simp; try with_reducible rfl
     try simp only [Act.put, List.setIfInBounds_toArray, List.set_cons_zero, List.set_cons_succ]
     refine wpAnyS_take (i := 10) (oi := _) (v := ?_) (by simp only [List.getElem?_toArray, List.getElem?_cons_succ, List.getElem?_cons_zero]; rfl) (by kernel_rfl) (by kernel_rfl) (f := 20) (by kernel_rfl) (by kernel_rfl) (by kernel_rfl) (by kernel_rfl) (by exact fun _ _ _ h => h) (by kernel_rfl) (Or.inl ⟨by rfl, ?_⟩) (by assumption) ?_
     rotate_left
     ·intro w hSw; obtain rfl := hSw rfl; clear hSw; go_simp; try with_reducible rfl
     try simp only [Act.put, List.setIfInBounds_toArray, List.set_cons_zero, List.set_cons_succ]
     refine wpAnyS_take (i := 11) (oi := _) (v := ?_) (by simp only [List.getElem?_toArray, List.getElem?_cons_succ, List.getElem?_cons_zero]; rfl) (by kernel_rfl) (by kernel_rfl) (f := 20) (by kernel_rfl) (by kernel_rfl) (by kernel_rfl) (by kernel_rfl) (by exact fun _ _ _ h => h) (by kernel_rfl) (Or.inl ⟨by rfl, ?_⟩) (by assumption) ?_
     rotate_left
     ·intro w hSw; obtain rfl := hSw rfl; clear hSw; go_simp; try with_reducible rfl
     try simp only [Act.put, List.setIfInBounds_toArray, List.set_cons_zero, List.set_cons_succ]
     refine wpAnyS_take (i := 12) (oi := _) (v := ?_) (by simp only [List.getElem?_toArray, List.getElem?_cons_succ, List.getElem?_cons_zero]; rfl) (by kernel_rfl) (by kernel_rfl) (f := 20) (by kernel_rfl) (by kernel_rfl) (by kernel_rfl) (by kernel_rfl) (by exact fun _ _ _ h => h) (by kernel_rfl) (Or.inl ⟨by rfl, ?_⟩) (by assumption) ?_
     rotate_left
     ·intro w hSw; obtain rfl := hSw rfl; clear hSw; go_simp; try with_reducible rfl
     try simp only [Act.put, List.setIfInBounds_toArray, List.set_cons_zero, List.set_cons_succ]
     refine wpAnyS_take (i := 13) (oi := _) (v := ?_) (by simp only [List.getElem?_toArray, List.getElem?_cons_succ, List.getElem?_cons_zero]; rfl) (by kernel_rfl) (by kernel_rfl) (f := 20) (by kernel_rfl) (by kernel_rfl) (by kernel_rfl) (by kernel_rfl) (by exact fun _ _ _ h => h) (by kernel_rfl) (Or.inl ⟨by rfl, ?_⟩) (by assumption) ?_
     rotate_left
     ·intro w hSw; obtain rfl := hSw rfl; clear hSw; go_simp; try with_reducible rfl
     try simp only [Act.put, List.setIfInBounds_toArray, List.set_cons_zero, List.set_cons_succ]
     refine wpAnyS_take (i := 14) (oi := _) (v := ?_) (by simp only [List.getElem?_toArray, List.getElem?_cons_succ, List.getElem?_cons_zero]; rfl) (by kernel_rfl) (by kernel_rfl) (f := 20) (by kernel_rfl) (by kernel_rfl) (by kernel_rfl) (by kernel_rfl) (by exact fun _ _ _ h => h) (by kernel_rfl) (Or.inl ⟨by rfl, ?_⟩) (by assumption) ?_
     rotate_left
     ·intro w hSw; obtain rfl := hSw rfl; clear hSw; go_simp; try with_reducible rfl
     try simp only [Act.put, List.setIfInBounds_toArray, List.set_cons_zero, List.set_cons_succ]
     refine wpAnyS_ready (rs := [15]) (by kernel_rfl) (by simp) ?_
     refine AllReadyS.cons (b := true) (o := _) (by simp only [List.getElem?_toArray, List.getElem?_cons_succ, List.getElem?_cons_zero]; rfl) (by kernel_rfl) (fun K hK => ?_) ?_
     ·go_simp
      refine hK.out _ _ ?_ (fun hHeld => ?_)
      ·try dsimp only
       exact fun e => by cases e
      clear hK K
      try simp only [Act.put, List.setIfInBounds_toArray, List.set_cons_zero, List.set_cons_succ]
      refine wpAnyS_take0 (i := 16) (oi := _) (v := ?_) (by simp only [List.getElem?_toArray, List.getElem?_cons_succ, List.getElem?_cons_zero]; rfl) (by kernel_rfl) (by kernel_rfl) (by kernel_rfl) (by kernel_rfl) (by exact fun _ _ _ h => h) (by kernel_rfl) (Or.inl ⟨by rfl, ?_⟩) (by assumption) ?_
      rotate_left
      ·intro w hSw; go_simp; try with_reducible rfl
      try simp only [Act.put, List.setIfInBounds_toArray, List.set_cons_zero, List.set_cons_succ]
      refine wpAnyS_ready (rs := [17]) (by kernel_rfl) (by simp) ?_
      refine AllReadyS.cons (b := true) (o := _) (by simp only [List.getElem?_toArray, List.getElem?_cons_succ, List.getElem?_cons_zero]; rfl) (by kernel_rfl) (fun K hK => ?_) ?_
      ·go_simp
       refine hK.out _ _ ?_ (fun hHeld => ?_)
       ·try dsimp only
        exact fun e => by cases e
       clear hK K
       try simp only [Act.put, List.setIfInBounds_toArray, List.set_cons_zero, List.set_cons_succ]
       refine wpAnyS_done (by kernel_rfl) ?_ _
       clear hHeld c0 c1 c2 c3 c4 m0 m1 m2 m3 m4 d0 d1 d2 d3 d4 n0 n1 n2 n3 n4
       have HSW2 := HSP.out
       unfold put5 at HSW2
       simp only at HSW2
       have H9 := Lib.hid HSW2
       clear HSW2
       go_wp2
       go_roundw
       case rel =>
        refine ⟨Ra ++ [(y1, (xa', xn', xc'), (ya', yn', yc'), (za', zn', zc'), ta', tn', tc')], Rc, by rw [HR1.out]; simp, ?_, by have := H9.out; simpa using this⟩
        rw [List.length_append, HQ.out, List.length_cons, List.length_nil]; congr 1; have := HK.out; omega
       case measure => have hkk := HK.out; simp [intOf]; omega
      exact AllReadyS.nil
     exact AllReadyS.nil
    ·obtain rfl : q = p := by omega
     have hb0 : Rb = [] := List.eq_nil_of_length_eq_zero (by omega)
     subst hb0
     have hi := NUM.out
     have hF : SWL w0 blk (A ++ T ++ B) wr := by
      rw [HTE.out, hR1]
      simpa using hsw
     have HF := Lib.hid hF
     obtain ⟨k, hk⟩ : ∃ k, a + q = k := ⟨_, rfl⟩
     rw [hk]
     have k0 : ¬ (k : Int) < (i : Int) - 1 := by omega
     have k1 : IntKind.i64.wrap ((i : Int) - 1) = (i : Int) - 1 := IntWalk.i64_in _ (by omega)
     clear hF hsw hR1 hi hk hab HSW
     go_wp2
     (try simp only [Exit.inBlock, Exit.then]); refine bodyPost_ret (results_none rfl _ _ _) rfl ?_
     exact ⟨rfl, by have := HF.out; simpa using this⟩

theorem SWL.swapped2 {w0 W : World} {blk : Nat} {A C : List E5} {x y : E5} (h : SWL w0 blk (A ++ x :: (y :: C)) W) (R : R5 w0 blk (A ++ x :: (y :: C)).length) :
  SWL w0 blk (A ++ y :: (x :: C)) (put5 (put5 W blk (A.length + 1) x) blk A.length y).drew := by
 rw [← put5_drew, ← put5_drew]
 obtain ⟨d0, hd, R⟩ := R
 have h1 := SWK.swapped h R (A.length + 1) A.length (by simp) (by simp)
 have g1 : (A ++ x :: (y :: C)).toArray[A.length]! = x := by simp
 have g2 : (A ++ x :: (y :: C)).toArray[A.length + 1]! = y := by simp
 have hsw := swp_list A [] C x y
 simp only [List.length_nil, Nat.add_zero, List.nil_append] at hsw
 rw [g1, g2, swp_comm, hsw, put5_cells, put5_cells] at h1
 exact h1

set_option maxHeartbeats 4000000 in
set_option maxRecDepth 100000 in
theorem sym2_c (w0 : World) (blk cap : Nat) (A L B : List E5) (y : E5) (W : World) (hR5 : R5 w0 blk (A ++ (L ++ y :: B)).length) (h : SWL w0 blk (A ++ (L ++ y :: B)) W) (hs : Srt le5 L) (hL1 : L.length ≠ 1) (hn : (A ++ (L ++ y :: B)).length ≤ 1048576) :
  Calls Tryz.prog 119 #[.slice (some ⟨blk, 0, none⟩) (A ++ (L ++ y :: B)).length cap, .int .i64 (A.length : Int), .int .i64 ((A.length + L.length : Nat) : Int), .int .i64 ((A.length + L.length + 1 : Nat) : Int), .func (.func 47) #[] #[]] W fun e w' => e = .returned (.tuple #[]) ∧ SWL w0 blk (A ++ List.merge L [y] le5 ++ B) w' := by
 obtain ⟨n, hnl⟩ : ∃ n, (A ++ (L ++ y :: B)).length = n := ⟨_, rfl⟩
 have hlen : A.length + L.length + 1 + B.length = n := by rw [← hnl]; simp only [List.length_append, List.length_cons]; omega
 rw [hnl] at hR5 hn ⊢
 obtain ⟨a, ha⟩ : ∃ k, A.length = k := ⟨_, rfl⟩
 obtain ⟨r, hr⟩ : ∃ k, L.length = k := ⟨_, rfl⟩
 have H0 := Lib.hid h
 have HR := Lib.hid hR5
 have HS := Lib.hid hs
 have HA := Lib.hid ha; have HRL := Lib.hid hr; have HN := Lib.hid hnl
 have hb1 : a + r + 1 ≤ n := by omega
 rw [hr] at hL1
 have CMP : Hid (∀ (p q : E5) (w' : World) (m : Nat) (os : Array Obj), Calls Tryz.prog 47 #[.agg (enc5 p).toArray, .agg (enc5 q).toArray] (grow (w'.drewN m) os) fun e w'' => e = .returned (.int .i64 (cf5 p q)) ∧ ∃ p : GrownBy, w'' = grow (w'.drewN p.n) p.os) := Lib.hid cmp5_grow
 obtain ⟨T, hT⟩ : ∃ T, List.merge L [y] le5 = T := ⟨_, rfl⟩
 have HT := Lib.hid hT
 rw [ha, hr, hT]
 obtain ⟨m, hm⟩ : ∃ e, a + r = e := ⟨_, rfl⟩
 rw [hm]
 obtain ⟨e, he⟩ : ∃ e, m + 1 = e := ⟨_, rfl⟩
 rw [he]
 have mixed : Tryz.prog.follows .mixedOrders = true := by kernel_rfl
 have q1 : ((m : Int) - (a : Int) == 1) = false := by rw [beq_eq_false_iff_ne]; omega
 have q2 : IntKind.i64.wrap ((m : Int) - (a : Int)) = (m : Int) - (a : Int) := IntWalk.i64_in _ (by omega)
 have q3 : (e : Int) - (m : Int) = 1 := by omega
 have q4 : IntKind.i64.wrap ((e : Int) - (m : Int)) = 1 := by rw [q3]; rfl
 have q5 : IntKind.i64.wrap 1 = 1 := rfl
 clear h hR5 hs hnl hlen ha hr hT
 go_enter Tryz.func119, Tryz.ntmps119
 go_wp2_with fail
 go_loopw [14, 15] (fun iv jv wr => ∃ (L1 Lm L2 : List E5), L = L1 ++ (Lm ++ L2) ∧ iv = .int .i64 ((a + L1.length : Nat) : Int) ∧ jv = .int .i64 ((a + L1.length + Lm.length : Nat) : Int) ∧ (∀ z ∈ L1, (fun z => le5 z y) z = true) ∧ (∀ z ∈ L2, (fun z => le5 z y) z = false) ∧ SWL w0 blk (A ++ (L ++ y :: B)) wr) (fun i j _ => (intOf j).toNat - (intOf i).toNat)
 case atStart => exact ⟨[], L, [], by simp, by simp, by rw [HRL.out, ← hm]; simp, by simp, by simp, H0.out⟩
 case round =>
  clear H0
  obtain ⟨L1, Lm, L2, hR, rfl, rfl, h1, h2, hw⟩ := hrel
  obtain ⟨p, hp⟩ : ∃ p, L1.length = p := ⟨_, rfl⟩
  obtain ⟨g, hg⟩ : ∃ p, Lm.length = p := ⟨_, rfl⟩
  rw [hp, hg]
  have hle : p + g ≤ r := by rw [← HRL.out, hR]; simp only [List.length_append]; omega
  have HRE := Lib.hid hR; have HP := Lib.hid hp; have HG := Lib.hid hg; have H1 := Lib.hid h1; have H2 := Lib.hid h2; have HW := Lib.hid hw
  by_cases hlt : 0 < g
  ·obtain ⟨U, z, V, hU, hUl⟩ := mid_split Lm (g / 2) (by omega)
   obtain ⟨c, hc⟩ : ∃ c, a + p + g / 2 = c := ⟨_, rfl⟩
   have hz := (hw.cm (by rw [HN.out]; exact HR.out) (i := c) (y := z) (by rw [hR, hU]; rw [show A ++ (L1 ++ (U ++ z :: V ++ L2) ++ y :: B) = (A ++ (L1 ++ U)) ++ z :: (V ++ (L2 ++ y :: B)) by simp]; exact at_mid _ _ _ (by rw [← hc]; simp only [List.length_append, HA.out, hp, hUl]; omega)))
   have hy := (hw.cm (by rw [HN.out]; exact HR.out) (i := m) (y := y) (by rw [← List.append_assoc]; exact at_mid _ _ _ (by rw [List.length_append, HA.out, HRL.out]; exact hm)))
   have cC := CMP.out y z wr
   unfold enc5 at cC
   obtain ⟨d0, d1, d2, d3, d4⟩ := hz
   obtain ⟨c0, c1, c2, c3, c4⟩ := hy
   have HU := Lib.hid hU; have HUL := Lib.hid hUl
   obtain ⟨i, hi⟩ : ∃ i, a + p = i := ⟨_, rfl⟩
   rw [hi]
   have i1 : (i : Int) < ((i + g : Nat) : Int) := by omega
   obtain ⟨j, hj⟩ : ∃ j, i + g = j := ⟨_, rfl⟩
   rw [hj] at i1 ⊢
   have j1 : ((i : Int) + (j : Int)) / 2 = (c : Int) := by omega
   have j2 : (0 : Int) ≤ (c : Int) := by omega
   have j3 : (c : Int) < (n : Int) := by omega
   have j4 : (0 : Int) ≤ (m : Int) := by omega
   have j5 : (m : Int) < (n : Int) := by omega
   have j6 : 0 ≤ (i : Int) + (j : Int) := by omega
   have j7 : (i : Int) + (j : Int) < 4194304 := by omega
   have NUM := Lib.hid (show a + p = i ∧ i + g = j ∧ i + g / 2 = c from ⟨hi, hj, by omega⟩)
   clear hR hp hg h1 h2 hw hU hUl hi hj hle hc
   cases hl : le5 z y with
   | false =>
    have hv := cf_false hl
    have HL := Lib.hid hl
    have hd : decide (cf5 y z < 0) = true := decide_eq_true hv
    clear hl
    obtain ⟨cv, hcv⟩ : ∃ cv, cf5 y z = cv := ⟨_, rfl⟩
    rw [hcv] at cC hv hd
    clear hcv
    go_wp2_with fail
    go_quiet_grown (first | (go_at_call 47; exact cC _ _))
    go_wp2
    go_roundw
    case rel =>
     have hh := NUM.out
     have hul := HUL.out
     refine ⟨L1, U, z :: V ++ L2, by rw [HRE.out, HU.out]; simp, ?_, ?_, H1.out, srch_high (dn_le y) HS.out HRE.out HU.out (by simp only [HL.out]), HW.out.grown _ _⟩
     ·simp only [HP.out]; congr 1; omega
     ·simp only [HP.out]; congr 1; omega
    case measure => simp [intOf]; omega
   | true =>
    have hv := cf_true hl
    have HL := Lib.hid hl
    have hd : decide (cf5 y z < 0) = false := decide_eq_false hv
    clear hl
    obtain ⟨cv, hcv⟩ : ∃ cv, cf5 y z = cv := ⟨_, rfl⟩
    rw [hcv] at cC hv hd
    clear hcv
    go_wp2_with fail
    go_quiet_grown (first | (go_at_call 47; exact cC _ _))
    go_wp2
    go_roundw
    case rel =>
     have hV : U.length + 1 + V.length = g := by have := congrArg List.length HU.out; simp only [List.length_append, List.length_cons] at this; rw [HG.out] at this; omega
     have hh := NUM.out
     have hul := HUL.out
     refine ⟨L1 ++ (U ++ [z]), V, L2, by rw [HRE.out, HU.out]; simp, ?_, ?_, srch_low (dn_le y) HS.out HRE.out HU.out H1.out (by simp only [HL.out]), H2.out, HW.out.grown _ _⟩
     ·simp only [List.length_append, List.length_cons, List.length_nil, HP.out]; congr 1; omega
     ·simp only [List.length_append, List.length_cons, List.length_nil, HP.out]; congr 1; omega
    case measure => simp [intOf]; omega
  ·obtain rfl : g = 0 := by omega
   have hm0 : Lm = [] := List.eq_nil_of_length_eq_zero hg
   subst hm0
   have hTe : T = L1 ++ y :: L2 := by
    rw [← HT.out, hR]
    exact merge_two (by simpa using h1) (by simpa using h2)
   obtain ⟨WR, rfl⟩ : ∃ V, V = wr := ⟨_, rfl⟩
   obtain ⟨i, hi⟩ : ∃ i, a + p = i := ⟨_, rfl⟩
   have hw2 : SWL w0 blk (A ++ (L1 ++ (L2 ++ y :: B))) WR := by rw [hR] at hw; simpa using hw
   have HW2 := Lib.hid hw2
   have HTE := Lib.hid hTe
   obtain ⟨s, hs⟩ : ∃ s, L2.length = s := ⟨_, rfl⟩
   have hps : p + s = r := by rw [← HRL.out, hR]; simp only [List.length_append, List.length_nil, hp, hs]; omega
   have NUM := Lib.hid (show a + p = i ∧ i + s = m from ⟨hi, by omega⟩)
   have HSL := Lib.hid hs
   have HNL : Hid ((A ++ (L1 ++ (L2 ++ y :: B))).length = n) := by show _ = _; have := HN.out; rw [hR] at this; simpa using this
   rw [Nat.add_zero, hi]
   have i1 : ¬ (i : Int) < (i : Int) := by omega
   have ib : i + s ≤ n := by omega
   clear hR hp hg h1 h2 hw hw2 hi hle hTe H1 H2 HW HRE HG hs hps
   go_wp2_with fail
   go_loopw [17] (fun kv wr => ∃ (Ra Rb : List E5), L2 = Ra ++ Rb ∧ kv = .int .i64 ((i + Ra.length : Nat) : Int) ∧ SWL w0 blk (A ++ (L1 ++ (Ra ++ y :: (Rb ++ B)))) wr) (fun k _ => (intOf k).toNat - i)
   case atStart => exact ⟨L2, [], by simp, by rw [HSL.out]; have := NUM.out; congr 1; omega, by have := HW2.out; simpa using this⟩
   case round =>
    clear HW2
    obtain ⟨Ra, Rb, hR1, rfl, hsw⟩ := hrel
    obtain ⟨q, hq⟩ : ∃ q, Ra.length = q := ⟨_, rfl⟩
    have HSW := Lib.hid hsw
    have HR1 := Lib.hid hR1
    have hab : q + Rb.length = s := by have := congrArg List.length hR1; rw [HSL.out, List.length_append, hq] at this; omega
    rw [hq]
    by_cases hlt2 : 0 < q
    ·obtain ⟨Rc, z, hz⟩ : ∃ Rc z, Ra = Rc ++ [z] := by
      rcases List.eq_nil_or_concat Ra with rfl | ⟨S', z, rfl⟩
      ·simp at hq; omega
      ·exact ⟨S', z, by simp⟩
     subst hz
     have hcl : Rc.length + 1 = q := by simpa using hq
     have hs3 : SWL w0 blk (A ++ (L1 ++ Rc) ++ z :: (y :: (Rb ++ B))) wr := by simpa using hsw
     have hln : (A ++ (L1 ++ Rc) ++ z :: (y :: (Rb ++ B))).length = n := by rw [← HNL.out, hR1]; simp only [List.length_append, List.length_cons, List.length_nil]; omega
     have hRR : R5 w0 blk (A ++ (L1 ++ Rc) ++ z :: (y :: (Rb ++ B))).length := by rw [hln]; exact HR.out
     obtain ⟨k, hk⟩ : ∃ k, i + q = k := ⟨_, rfl⟩
     obtain ⟨k', hk'⟩ : ∃ k', i + Rc.length = k' := ⟨_, rfl⟩
     have hAl : (A ++ (L1 ++ Rc)).length = k' := by have := NUM.out; rw [List.length_append, List.length_append, HA.out, HP.out]; omega
     have hkk : k' + 1 = k := by omega
     have hat2 := hs3.at hRR (i := k') (x := z) (at_mid _ _ _ hAl)
     have hat1 := hs3.at hRR (i := k) (x := y) (by
      rw [show A ++ (L1 ++ Rc) ++ z :: (y :: (Rb ++ B)) = (A ++ (L1 ++ Rc) ++ [z]) ++ y :: (Rb ++ B) by simp]
      exact at_mid _ _ _ (by rw [List.length_append, hAl]; exact hkk))
     have hsp := hs3.swapped2 hRR
     rw [hAl, hkk] at hsp
     have HSP := Lib.hid hsp
     obtain ⟨⟨c0, c1, c2, c3, c4⟩, m0, m1, m2, m3, m4⟩ := hat1
     obtain ⟨⟨d0, d1, d2, d3, d4⟩, n0, n1, n2, n3, n4⟩ := hat2
     obtain ⟨x1, ⟨xa, xn, xc⟩, ⟨ya, yn, yc⟩, ⟨za, zn, zc⟩, ⟨ta, tn, tc⟩⟩ := y
     obtain ⟨y1, ⟨xa', xn', xc'⟩, ⟨ya', yn', yc'⟩, ⟨za', zn', zc'⟩, ⟨ta', tn', tc'⟩⟩ := z
     simp only at c0 c1 c2 c3 c4 d0 d1 d2 d3 d4
     rw [hk]
     have hnn := NUM.out
     have k0 : (i : Int) < (k : Int) := by omega
     have k2 : IntKind.i64.wrap ((k : Int) - 1) = (k : Int) - 1 := IntWalk.i64_in _ (by omega)
     have j1 : (0 : Int) ≤ (k : Int) := by omega
     have j2 : (k : Int) < (n : Int) := by omega
     have j3 : ((k : Int) - 1).toNat = k' := by omega
     have j4 : (1 : Int) ≤ (k : Int) := by omega
     have j5 : (k : Int) - 1 < (n : Int) := by omega
     have HK := Lib.hid (show i + Rc.length = k' ∧ k' + 1 = k ∧ i < k from ⟨hk', hkk, by omega⟩)
     clear hs3 hsw hR1 hq hln hRR hAl hsp hab hk hk' hkk hcl hlt2 hnn
     go_wp2_with fail
     refine wp_region_S (S := fun b w' => b = false → w' = wr.drew) (st := 15) (by kernel_rfl) ?_ (fun hHeld => ?_)
     ·exact fun _ => rfl
     refine wpAnyS_take (i := 0) (oi := _) (v := ?_) (by simp only [List.getElem?_toArray, List.getElem?_cons_zero]; rfl) (by kernel_rfl) (by kernel_rfl) (f := 20) (by kernel_rfl) (by kernel_rfl) (by kernel_rfl) (by kernel_rfl) (by exact fun _ _ _ h => h) (by kernel_rfl) (Or.inl ⟨by rfl, ?_⟩) (by assumption) ?_
     rotate_left
     ·intro w hSw; obtain rfl := hSw rfl; clear hSw; go_simp; try with_reducible rfl
     try simp only [Act.put, List.setIfInBounds_toArray, List.set_cons_zero, List.set_cons_succ]
     refine wpAnyS_take (i := 1) (oi := _) (v := ?_) (by simp only [List.getElem?_toArray, List.getElem?_cons_succ, List.getElem?_cons_zero]; rfl) (by kernel_rfl) (by kernel_rfl) (f := 20) (by kernel_rfl) (by kernel_rfl) (by kernel_rfl) (by kernel_rfl) (by exact fun _ _ _ h => h) (by kernel_rfl) (Or.inl ⟨by rfl, ?_⟩) (by assumption) ?_
     rotate_left
     ·intro w hSw; obtain rfl := hSw rfl; clear hSw; go_simp; try with_reducible rfl
     try simp only [Act.put, List.setIfInBounds_toArray, List.set_cons_zero, List.set_cons_succ]
     refine wpAnyS_take0 (i := 2) (oi := _) (v := ?_) (by simp only [List.getElem?_toArray, List.getElem?_cons_succ, List.getElem?_cons_zero]; rfl) (by kernel_rfl) (by kernel_rfl) (by kernel_rfl) (by kernel_rfl) (by exact fun _ _ _ h => h) (by kernel_rfl) (Or.inl ⟨by rfl, ?_⟩) (by assumption) ?_
     rotate_left
     ·intro w hSw; go_simp; try with_reducible rfl
     try simp only [Act.put, List.setIfInBounds_toArray, List.set_cons_zero, List.set_cons_succ]
     refine wpAnyS_take0 (i := 3) (oi := _) (v := ?_) (by simp only [List.getElem?_toArray, List.getElem?_cons_succ, List.getElem?_cons_zero]; rfl) (by kernel_rfl) (by kernel_rfl) (by kernel_rfl) (by kernel_rfl) (by exact fun _ _ _ h => h) (by kernel_rfl) (Or.inl ⟨by rfl, ?_⟩) (by assumption) ?_
     rotate_left
     ·intro w hSw; go_simp; try with_reducible rfl
     try simp only [Act.put, List.setIfInBounds_toArray, List.set_cons_zero, List.set_cons_succ]
     refine wpAnyS_take0 (i := 4) (oi := _) (v := ?_) (by simp only [List.getElem?_toArray, List.getElem?_cons_succ, List.getElem?_cons_zero]; rfl) (by kernel_rfl) (by kernel_rfl) (by kernel_rfl) (by kernel_rfl) (by exact fun _ _ _ h => h) (by kernel_rfl) (Or.inl ⟨by rfl, ?_⟩) (by assumption) ?_
     rotate_left
     ·intro w hSw; go_simp; try with_reducible rfl
     try simp only [Act.put, List.setIfInBounds_toArray, List.set_cons_zero, List.set_cons_succ]
     refine wpAnyS_take (i := 5) (oi := _) (v := ?_) (by simp only [List.getElem?_toArray, List.getElem?_cons_succ, List.getElem?_cons_zero]; rfl) (by kernel_rfl) (by kernel_rfl) (f := 20) (by kernel_rfl) (by kernel_rfl) (by kernel_rfl) (by kernel_rfl) (by exact fun _ _ _ h => h) (by kernel_rfl) (Or.inl ⟨by rfl, ?_⟩) (by assumption) ?_
     rotate_left
     ·intro w hSw; obtain rfl := hSw rfl; clear hSw; go_simp; try with_reducible rfl
     try simp only [Act.put, List.setIfInBounds_toArray, List.set_cons_zero, List.set_cons_succ]
     refine wpAnyS_take (i := 6) (oi := _) (v := ?_) (by simp only [List.getElem?_toArray, List.getElem?_cons_succ, List.getElem?_cons_zero]; rfl) (by kernel_rfl) (by kernel_rfl) (f := 20) (by kernel_rfl) (by kernel_rfl) (by kernel_rfl) (by kernel_rfl) (by exact fun _ _ _ h => h) (by kernel_rfl) (Or.inl ⟨by rfl, ?_⟩) (by assumption) ?_
     rotate_left
     ·intro w hSw; obtain rfl := hSw rfl; clear hSw; go_simp; try with_reducible rfl
     try simp only [Act.put, List.setIfInBounds_toArray, List.set_cons_zero, List.set_cons_succ]
     refine wpAnyS_take (i := 7) (oi := _) (v := ?_) (by simp only [List.getElem?_toArray, List.getElem?_cons_succ, List.getElem?_cons_zero]; rfl) (by kernel_rfl) (by kernel_rfl) (f := 20) (by kernel_rfl) (by kernel_rfl) (by kernel_rfl) (by kernel_rfl) (by exact fun _ _ _ h => h) (by kernel_rfl) (Or.inl ⟨by rfl, ?_⟩) (by assumption) ?_
     rotate_left
     ·intro w hSw; obtain rfl := hSw rfl; clear hSw; go_simp; try with_reducible rfl
     try simp only [Act.put, List.setIfInBounds_toArray, List.set_cons_zero, List.set_cons_succ]
     refine wpAnyS_take (i := 8) (oi := _) (v := ?_) (by simp only [List.getElem?_toArray, List.getElem?_cons_succ, List.getElem?_cons_zero]; rfl) (by kernel_rfl) (by kernel_rfl) (f := 20) (by kernel_rfl) (by kernel_rfl) (by kernel_rfl) (by kernel_rfl) (by exact fun _ _ _ h => h) (by kernel_rfl) (Or.inl ⟨by rfl, ?_⟩) (by assumption) ?_
     rotate_left
     ·intro w hSw; obtain rfl := hSw rfl; clear hSw; go_simp; try with_reducible rfl
     try simp only [Act.put, List.setIfInBounds_toArray, List.set_cons_zero, List.set_cons_succ]
     refine wpAnyS_take (i := 9) (oi := _) (v := ?_) (by simp only [List.getElem?_toArray, List.getElem?_cons_succ, List.getElem?_cons_zero]; rfl) (by kernel_rfl) (by kernel_rfl) (f := 20) (by kernel_rfl) (by kernel_rfl) (by kernel_rfl) (by kernel_rfl) (by exact fun _ _ _ h => h) (by kernel_rfl) (Or.inl ⟨by rfl, ?_⟩) (by assumption) ?_
     rotate_left
     ·intro w hSw; obtain rfl := hSw rfl; clear hSw; go_simp; try with_reducible rfl
     try simp only [Act.put, List.setIfInBounds_toArray, List.set_cons_zero, List.set_cons_succ]
     refine wpAnyS_take (i := 10) (oi := _) (v := ?_) (by simp only [List.getElem?_toArray, List.getElem?_cons_succ, List.getElem?_cons_zero]; rfl) (by kernel_rfl) (by kernel_rfl) (f := 20) (by kernel_rfl) (by kernel_rfl) (by kernel_rfl) (by kernel_rfl) (by exact fun _ _ _ h => h) (by kernel_rfl) (Or.inl ⟨by rfl, ?_⟩) (by assumption) ?_
     rotate_left
     ·intro w hSw; obtain rfl := hSw rfl; clear hSw; go_simp; try with_reducible rfl
     try simp only [Act.put, List.setIfInBounds_toArray, List.set_cons_zero, List.set_cons_succ]
     refine wpAnyS_take (i := 11) (oi := _) (v := ?_) (by simp only [List.getElem?_toArray, List.getElem?_cons_succ, List.getElem?_cons_zero]; rfl) (by kernel_rfl) (by kernel_rfl) (f := 20) (by kernel_rfl) (by kernel_rfl) (by kernel_rfl) (by kernel_rfl) (by exact fun _ _ _ h => h) (by kernel_rfl) (Or.inl ⟨by rfl, ?_⟩) (by assumption) ?_
     rotate_left
     ·intro w hSw; obtain rfl := hSw rfl; clear hSw; go_simp; try with_reducible rfl
     try simp only [Act.put, List.setIfInBounds_toArray, List.set_cons_zero, List.set_cons_succ]
     refine wpAnyS_take (i := 12) (oi := _) (v := ?_) (by simp only [List.getElem?_toArray, List.getElem?_cons_succ, List.getElem?_cons_zero]; rfl) (by kernel_rfl) (by kernel_rfl) (f := 20) (by kernel_rfl) (by kernel_rfl) (by kernel_rfl) (by kernel_rfl) (by exact fun _ _ _ h => h) (by kernel_rfl) (Or.inl ⟨by rfl, ?_⟩) (by assumption) ?_
     rotate_left
     ·intro w hSw; obtain rfl := hSw rfl; clear hSw; go_simp; try with_reducible rfl
     try simp only [Act.put, List.setIfInBounds_toArray, List.set_cons_zero, List.set_cons_succ]
     refine wpAnyS_take (i := 13) (oi := _) (v := ?_) (by simp only [List.getElem?_toArray, List.getElem?_cons_succ, List.getElem?_cons_zero]; rfl) (by kernel_rfl) (by kernel_rfl) (f := 20) (by kernel_rfl) (by kernel_rfl) (by kernel_rfl) (by kernel_rfl) (by exact fun _ _ _ h => h) (by kernel_rfl) (Or.inl ⟨by rfl, ?_⟩) (by assumption) ?_
     rotate_left
     ·intro w hSw; obtain rfl := hSw rfl; clear hSw; go_simp; try with_reducible rfl
     try simp only [Act.put, List.setIfInBounds_toArray, List.set_cons_zero, List.set_cons_succ]
     refine wpAnyS_take (i := 14) (oi := _) (v := ?_) (by simp only [List.getElem?_toArray, List.getElem?_cons_succ, List.getElem?_cons_zero]; rfl) (by kernel_rfl) (by kernel_rfl) (f := 20) (by kernel_rfl) (by kernel_rfl) (by kernel_rfl) (by kernel_rfl) (by exact fun _ _ _ h => h) (by kernel_rfl) (Or.inl ⟨by rfl, ?_⟩) (by assumption) ?_
     rotate_left
     ·intro w hSw; obtain rfl := hSw rfl; clear hSw; go_simp; try with_reducible rfl
     try simp only [Act.put, List.setIfInBounds_toArray, List.set_cons_zero, List.set_cons_succ]
     refine wpAnyS_ready (rs := [15]) (by kernel_rfl) (by simp) ?_
     refine AllReadyS.cons (b := true) (o := _) (by simp only [List.getElem?_toArray, List.getElem?_cons_succ, List.getElem?_cons_zero]; rfl) (by kernel_rfl) (fun K hK => ?_) ?_
     ·go_simp
      refine hK.out _ _ ?_ (fun hHeld => ?_)
      ·try dsimp only
       exact fun e => by cases e
      clear hK K
      try simp only [Act.put, List.setIfInBounds_toArray, List.set_cons_zero, List.set_cons_succ]
      refine wpAnyS_take0 (i := 16) (oi := _) (v := ?_) (by simp only [List.getElem?_toArray, List.getElem?_cons_succ, List.getElem?_cons_zero]; rfl) (by kernel_rfl) (by kernel_rfl) (by kernel_rfl) (by kernel_rfl) (by exact fun _ _ _ h => h) (by kernel_rfl) (Or.inl ⟨by rfl, ?_⟩) (by assumption) ?_
      rotate_left
      ·intro w hSw; go_simp; try with_reducible rfl
      try simp only [Act.put, List.setIfInBounds_toArray, List.set_cons_zero, List.set_cons_succ]
      refine wpAnyS_ready (rs := [17]) (by kernel_rfl) (by simp) ?_
      refine AllReadyS.cons (b := true) (o := _) (by simp only [List.getElem?_toArray, List.getElem?_cons_succ, List.getElem?_cons_zero]; rfl) (by kernel_rfl) (fun K hK => ?_) ?_
      ·go_simp
       refine hK.out _ _ ?_ (fun hHeld => ?_)
       ·try dsimp only
        exact fun e => by cases e
       clear hK K
       try simp only [Act.put, List.setIfInBounds_toArray, List.set_cons_zero, List.set_cons_succ]
       refine wpAnyS_done (by kernel_rfl) ?_ _
       clear hHeld c0 c1 c2 c3 c4 m0 m1 m2 m3 m4 d0 d1 d2 d3 d4 n0 n1 n2 n3 n4
       have HSW2 := HSP.out
       unfold put5 at HSW2
       simp only at HSW2
       have H9 := Lib.hid HSW2
       clear HSW2
       go_wp2
       go_roundw
       case rel =>
        have hkk := HK.out
        refine ⟨Rc, (y1, (xa', xn', xc'), (ya', yn', yc'), (za', zn', zc'), ta', tn', tc') :: Rb, by rw [HR1.out]; simp, ?_, by have := H9.out; simpa using this⟩
        congr 1; omega
       case measure => have hkk := HK.out; simp [intOf]; omega
      exact AllReadyS.nil
     exact AllReadyS.nil
    ·obtain rfl : q = 0 := by omega
     have hb0 : Ra = [] := List.eq_nil_of_length_eq_zero hq
     subst hb0
     have hF : SWL w0 blk (A ++ T ++ B) wr := by
      rw [HTE.out, hR1]
      simpa using hsw
     have HF := Lib.hid hF
     rw [Nat.add_zero]
     have k0 : ¬ (i : Int) < (i : Int) := by omega
     clear hF hsw hR1 hab HSW
     go_wp2
     (try simp only [Exit.inBlock, Exit.then]); refine bodyPost_ret (results_none rfl _ _ _) rfl ?_
     exact ⟨rfl, by have := HF.out; simpa using this⟩
end Go.Proofs.YtlmnabhhgplhnaaGreatDoor
