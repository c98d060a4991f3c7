/- The library's merge in place: the general case, and the whole. -/
import Derived.Deep.CutBlock
import Derived.Deep.DeepCutAuto
import Derived.Test.YtlmnabhhgplhnaaGreatDoorSymA
namespace Go.Proofs.YtlmnabhhgplhnaaGreatDoor
open Go.RowKit Go.Shelf Go.Sort

theorem srt_at {l : List E5} (h : Srt le5 l) {i j : Nat} {x y : E5} (hij : i ≤ j) (hi : l[i]? = some x) (hj : l[j]? = some y) : le5 x y = true := by
 rcases Nat.lt_or_ge i j with hlt | hge
 ·obtain ⟨h1, rfl⟩ := List.getElem?_eq_some_iff.1 hi
  obtain ⟨h2, rfl⟩ := List.getElem?_eq_some_iff.1 hj
  exact List.pairwise_iff_getElem.1 h i j h1 h2 hlt
 ·obtain rfl : i = j := by omega
  rw [hi] at hj
  injection hj with hj
  subst hj
  exact pre5.rf _
def LowS (L R : List E5) (M u : Nat) : Prop := ∀ x y, L[u - 1]? = some x → R[M - u]? = some y → le5 x y = true
def HighS (L R : List E5) (M v : Nat) : Prop := ∀ x y, L[v]? = some x → R[M - 1 - v]? = some y → le5 x y = false
/-- Where the search ends, the merge parts. -/
theorem sym_split {L R : List E5} {M u : Nat} (hL : Srt le5 L) (hR : Srt le5 R) (hu : u ≤ M) (hul : u ≤ L.length) (hMr : M - u ≤ R.length) (low : u = M - R.length ∨ LowS L R M u) (high : u = min M L.length ∨ HighS L R M u) :
  ∃ L1 L2 R1 R2, L = L1 ++ L2 ∧ R = R1 ++ R2 ∧ L1.length = u ∧ R1.length = M - u ∧ List.merge L R le5 = List.merge L1 R1 le5 ++ List.merge L2 R2 le5 := by
 refine ⟨L.take u, L.drop u, R.take (M - u), R.drop (M - u), (List.take_append_drop _ _).symm, (List.take_append_drop _ _).symm, by rw [List.length_take]; omega, by rw [List.length_take]; omega, ?_⟩
 have key := merge_split (le := le5) (L.take u) (L.drop u) (R.take (M - u)) (R.drop (M - u)) ?_ ?_
 ·rw [List.take_append_drop, List.take_append_drop] at key
  exact key
 ·intro x hx y hy
  obtain ⟨i, hi⟩ := List.mem_iff_getElem?.1 hx
  obtain ⟨j, hj⟩ := List.mem_iff_getElem?.1 hy
  rw [List.getElem?_drop] at hj
  have hiu : i < u := by
   have := (List.getElem?_eq_some_iff.1 hi).1
   rw [List.length_take] at this
   omega
  rw [List.getElem?_take_of_lt hiu] at hi
  have hjl := (List.getElem?_eq_some_iff.1 hj).1
  rcases low with h0 | hlow
  ·omega
  ·obtain ⟨x0, hx0⟩ : ∃ x0, L[u - 1]? = some x0 := ⟨L[u - 1]'(by omega), List.getElem?_eq_getElem _⟩
   obtain ⟨y0, hy0⟩ : ∃ y0, R[M - u]? = some y0 := ⟨R[M - u]'(by omega), List.getElem?_eq_getElem _⟩
   exact pre5.tr _ _ _ (srt_at hL (by omega) hi hx0) (pre5.tr _ _ _ (hlow x0 y0 hx0 hy0) (srt_at hR (by omega) hy0 hj))
 ·intro x hx y hy
  obtain ⟨i, hi⟩ := List.mem_iff_getElem?.1 hx
  obtain ⟨j, hj⟩ := List.mem_iff_getElem?.1 hy
  rw [List.getElem?_drop] at hi
  have hju : j < M - u := by
   have := (List.getElem?_eq_some_iff.1 hj).1
   rw [List.length_take] at this
   omega
  rw [List.getElem?_take_of_lt hju] at hj
  have hil := (List.getElem?_eq_some_iff.1 hi).1
  rcases high with h0 | hhigh
  ·omega
  ·obtain ⟨x0, hx0⟩ : ∃ x0, L[u]? = some x0 := ⟨L[u]'(by omega), List.getElem?_eq_getElem _⟩
   obtain ⟨y0, hy0⟩ : ∃ y0, R[M - 1 - u]? = some y0 := ⟨R[M - 1 - u]'(by omega), List.getElem?_eq_getElem _⟩
   cases hxy : le5 x y with
   | false => rfl
   | true =>
    have := pre5.tr _ _ _ (srt_at hL (by omega) hx0 hi) (pre5.tr _ _ _ hxy (srt_at hR (by omega) hj hy0))
    rw [hhigh x0 y0 hx0 hy0] at this
    cases this

/-- What the merge in place is held to. -/
def SymOf (w0 : World) (blk cap n : Nat) (A L R B : List E5) : Prop :=
 ∀ W, (A ++ (L ++ (R ++ B))).length = n → 0 < L.length → 0 < R.length → Srt le5 L → Srt le5 R → SWL w0 blk (A ++ (L ++ (R ++ B))) W →
  Calls Tryz.prog 119 #[.slice (some ⟨blk, 0, none⟩) n cap, .int .i64 (A.length : Int), .int .i64 ((A.length + L.length : Nat) : Int), .int .i64 ((A.length + L.length + R.length : Nat) : Int), .func (.func 47) #[] #[]] W fun e w' => e = .returned (.tuple #[]) ∧ SWL w0 blk (A ++ (List.merge L R le5 ++ B)) w'

set_option maxHeartbeats 4000000 in
set_option maxRecDepth 100000 in
theorem sym3_c (w0 : World) (blk cap n : Nat) (hR5 : R5 w0 blk n) (hn : n ≤ 1048576) (A L R B : List E5) (h2 : L.length ≠ 1) (h3 : R.length ≠ 1)
  (ih : ∀ A' L' R' B' : List E5, L'.length + R'.length < L.length + R.length → SymOf w0 blk cap n A' L' R' B') : SymOf w0 blk cap n A L R B := by
 intro W hnl hl0 hr0 hsL hsR h
 have hlen : A.length + L.length + R.length + B.length = n := by rw [← hnl]; simp only [List.length_append]; omega
 obtain ⟨a, ha⟩ : ∃ k, A.length = k := ⟨_, rfl⟩
 obtain ⟨l, hl⟩ : ∃ k, L.length = k := ⟨_, rfl⟩
 obtain ⟨r, hr⟩ : ∃ k, R.length = k := ⟨_, rfl⟩
 obtain ⟨T, hT⟩ : ∃ T, A ++ (List.merge L R le5 ++ B) = T := ⟨_, rfl⟩
 have HT := Lib.hid hT
 have H0 := Lib.hid h
 have HR := Lib.hid hR5
 have HSL := Lib.hid hsL; have HSR := Lib.hid hsR
 have HA := Lib.hid ha; have HL := Lib.hid hl; have HRL := Lib.hid hr; have HN := Lib.hid hnl
 rw [hl, hr] at ih
 have IH := Lib.hid ih
 have ROT : Hid (∀ (X U V Z : List E5) (w' : World), (X ++ U ++ V ++ Z).length = n → SWL w0 blk (X ++ U ++ V ++ Z) w' → 0 < U.length → 0 < V.length → Calls Tryz.prog 141 #[.slice (some ⟨blk, 0, none⟩) n cap, .int .i64 (X.length : Int), .int .i64 ((X.length + U.length : Nat) : Int), .int .i64 ((X.length + U.length + V.length : Nat) : Int), .func (.func 47) #[] #[]] w' fun e w'' => e = .returned (.tuple #[]) ∧ SWL w0 blk (X ++ V ++ U ++ Z) w'') := by
  show ∀ (X U V Z : List E5) (w' : World), _
  intro X U V Z w' hl' hs hU hV
  have := rotate_c w0 blk cap X U V Z w' (by rw [hl']; exact hR5) hs hU hV (by omega) (.func (.func 47) #[] #[])
  rw [hl'] at this
  exact this
 have CMP : Hid (∀ (p q : E5) (w' : World) (m : Nat) (os : Array Obj), Calls Tryz.prog 47 #[.agg (enc5 p).toArray, .agg (enc5 q).toArray] (grow (w'.drewN m) os) fun e w'' => e = .returned (.int .i64 (cf5 p q)) ∧ ∃ p : GrownBy, w'' = grow (w'.drewN p.n) p.os) := Lib.hid cmp5_grow
 rw [hl] at hl0 h2
 rw [hr] at hr0 h3
 rw [ha, hl, hr] at hlen
 rw [ha, hl, hr, hT]
 obtain ⟨M, hM⟩ : ∃ M, (l + r) / 2 = M := ⟨_, rfl⟩
 obtain ⟨m, hm⟩ : ∃ m, a + l = m := ⟨_, rfl⟩
 rw [hm]
 obtain ⟨e, he⟩ : ∃ e, m + r = e := ⟨_, rfl⟩
 rw [he]
 obtain ⟨d, hd⟩ : ∃ d, a + M = d := ⟨_, rfl⟩
 obtain ⟨u0, hu0⟩ : ∃ u0, M - r = u0 := ⟨_, rfl⟩
 obtain ⟨v0, hv0⟩ : ∃ v0, min M l = v0 := ⟨_, rfl⟩
 have mixed : Tryz.prog.follows .mixedOrders = true := by kernel_rfl
 have q1 : ((m : Int) - (a : Int) == 1) = false := by rw [beq_eq_false_iff_ne]; omega
 have q2 : IntKind.i64.wrap ((m : Int) - (a : Int)) = (m : Int) - (a : Int) := IntWalk.i64_in _ (by omega)
 have q3 : ((e : Int) - (m : Int) == 1) = false := by rw [beq_eq_false_iff_ne]; omega
 have q4 : IntKind.i64.wrap ((e : Int) - (m : Int)) = (e : Int) - (m : Int) := IntWalk.i64_in _ (by omega)
 have q6 : ((a : Int) + (e : Int)) / 2 = (d : Int) := by omega
 have NUM : Hid (a + l = m ∧ m + r = e ∧ a + M = d ∧ e ≤ n ∧ u0 = M - r ∧ v0 = min M l ∧ M = (l + r) / 2) := by show _ ∧ _; omega
 have len : e ≤ n := by omega
 have lad : a ≤ d := by omega
 have lde : d ≤ e := by omega
 have lme : m ≤ e := by omega
 clear h hR5 hsL hsR hnl hlen ha hl hr hT ih hm he hd hu0 hv0 hM
 go_enter Tryz.func119, Tryz.ntmps119
 go_upto_if 140 with fail
 go_cut [20, 21] (fun s t wx => s = .int .i64 ((a + u0 : Nat) : Int) ∧ t = .int .i64 ((a + v0 : Nat) : Int) ∧ SWL w0 blk (A ++ (L ++ (R ++ B))) wx)
 case first => as_aux_lemma =>
  have hh := NUM.out
  by_cases hmd : d < m
  ·have c1 : (d : Int) < (m : Int) := by omega
   have c2 : IntKind.i64.wrap ((d : Int) + (m : Int)) = (d : Int) + (m : Int) := IntWalk.i64_in _ (by omega)
   have c3 : IntKind.i64.wrap ((d : Int) + (m : Int) - (e : Int)) = (d : Int) + (m : Int) - (e : Int) := IntWalk.i64_in _ (by omega)
   have c4 : (d : Int) + (m : Int) - (e : Int) = ((a + u0 : Nat) : Int) := by omega
   have c5 : d = a + v0 := by omega
   have C4 := Lib.hid c4; have C5 := Lib.hid c5
   clear hh c4 c5
   go_wp2_with fail
   go_meet
   exact ⟨by rw [← C4.out], by rw [← C5.out], H0.out⟩
  ·have c1 : ¬ (d : Int) < (m : Int) := by omega
   have c4 : a = a + u0 := by omega
   have c5 : m = a + v0 := by omega
   have C4 := Lib.hid c4; have C5 := Lib.hid c5
   clear hh c4 c5
   go_wp2_with fail
   go_meet
   exact ⟨by rw [← C4.out], by rw [← C5.out], H0.out⟩
 case rest =>
 clear H0
 obtain ⟨rfl, rfl, hs0⟩ := hcut
 obtain ⟨WA, hWA⟩ : ∃ V, wc = V := ⟨_, rfl⟩
 rw [hWA] at hs0 ⊢
 clear hWA
 have H0 := Lib.hid hs0
 have c2 : IntKind.i64.wrap ((d : Int) + (m : Int)) = (d : Int) + (m : Int) := IntWalk.i64_in _ (by omega)
 have c3 : IntKind.i64.wrap ((d : Int) + (m : Int) - 1) = (d : Int) + (m : Int) - 1 := IntWalk.i64_in _ (by omega)
 clear hs0
 go_upto_block 8 with fail
 go_cut [20] (fun s wx => ∃ u, s = .int .i64 ((a + u : Nat) : Int) ∧ u0 ≤ u ∧ u ≤ v0 ∧ (u = u0 ∨ LowS L R M u) ∧ (u = v0 ∨ HighS L R M u) ∧ SWL w0 blk (A ++ (L ++ (R ++ B))) wx)
 case first => as_aux_lemma =>
  have huv : u0 ≤ v0 := by have := NUM.out; omega
  go_wp2_with fail
  go_loopw [20, 21] (fun iv jv wr => ∃ (u v : Nat), iv = .int .i64 ((a + u : Nat) : Int) ∧ jv = .int .i64 ((a + v : Nat) : Int) ∧ u0 ≤ u ∧ u ≤ v ∧ v ≤ v0 ∧ (u = u0 ∨ LowS L R M u) ∧ (v = v0 ∨ HighS L R M v) ∧ SWL w0 blk (A ++ (L ++ (R ++ B))) wr) (fun i j _ => (intOf j).toNat - (intOf i).toNat)
  case atStart => exact ⟨u0, v0, rfl, rfl, Nat.le_refl _, huv, Nat.le_refl _, .inl rfl, .inl rfl, H0.out⟩
  case round => as_aux_lemma =>
   clear H0
   obtain ⟨u, v, rfl, rfl, b1, b2, b3, lo, hi, hw⟩ := hrel
   have LO := Lib.hid lo; have HI := Lib.hid hi; have HW := Lib.hid hw
   have hh := NUM.out
   by_cases hlt : u < v
   ·obtain ⟨k, hk⟩ : ∃ k, (u + v) / 2 = k := ⟨_, rfl⟩
    obtain ⟨x, hx⟩ : ∃ x, L[k]? = some x := ⟨L[k]'(by rw [HL.out]; omega), List.getElem?_eq_getElem _⟩
    obtain ⟨y, hy⟩ : ∃ y, R[M - 1 - k]? = some y := ⟨R[M - 1 - k]'(by rw [HRL.out]; omega), List.getElem?_eq_getElem _⟩
    obtain ⟨c, hc⟩ : ∃ c, a + k = c := ⟨_, rfl⟩
    obtain ⟨f, hf⟩ : ∃ f, m + (M - 1 - k) = f := ⟨_, rfl⟩
    have hxc := (hw.cm (by rw [HN.out]; exact HR.out) (i := c) (y := x) (by
     rw [← hc, List.getElem?_append_right (by rw [HA.out]; omega), HA.out, Nat.add_sub_cancel_left, List.getElem?_append_left (by rw [HL.out]; omega)]; exact hx))
    have hyc := (hw.cm (by rw [HN.out]; exact HR.out) (i := f) (y := y) (by
     rw [← hf, List.getElem?_append_right (by rw [HA.out]; omega), HA.out, List.getElem?_append_right (by rw [HL.out]; omega), HL.out, show m + (M - 1 - k) - a - l = M - 1 - k by omega, List.getElem?_append_left (by rw [HRL.out]; omega)]; exact hy))
    have cC := CMP.out y x wr
    unfold enc5 at cC
    obtain ⟨c0, c1, c2, c3', c4⟩ := hxc
    obtain ⟨d0, d1, d2', d3, d4⟩ := hyc
    obtain ⟨i, hi'⟩ : ∃ i, a + u = i := ⟨_, rfl⟩
    obtain ⟨j, hj'⟩ : ∃ i, a + v = i := ⟨_, rfl⟩
    rw [hi', hj']
    have i1 : (i : Int) < (j : Int) := by omega
    have j1 : ((i : Int) + (j : Int)) / 2 = (c : Int) := by omega
    have j2 : (0 : Int) ≤ (c : Int) := by omega
    have j3 : (c : Int) < (n : Int) := by omega
    have e1 : (d : Int) + (m : Int) - 1 - (c : Int) = (f : Int) := by omega
    have e2 : IntKind.i64.wrap ((f : Int)) = (f : Int) := IntWalk.i64_in _ (by omega)
    have j4 : (0 : Int) ≤ (f : Int) := by omega
    have j5 : (f : Int) < (n : Int) := by omega
    have j6 : 0 ≤ (i : Int) + (j : Int) := by omega
    have j7 : (i : Int) + (j : Int) < 4194304 := by omega
    have HX := Lib.hid hx; have HY := Lib.hid hy
    have NM := Lib.hid (show a + u = i ∧ a + v = j ∧ a + k = c ∧ u ≤ k ∧ k < v from ⟨hi', hj', hc, by omega, by omega⟩)
    have B := Lib.hid (show u0 ≤ u ∧ v ≤ v0 from ⟨b1, b3⟩)
    clear hx hy hk hc hf lo hi hw hi' hj' hh hlt b1 b2 b3
    cases hl : le5 x y with
    | true =>
     have hv := cf_true hl
     have HLE := Lib.hid hl
     have hd : decide (cf5 y x < 0) = false := decide_eq_false hv
     clear hl
     obtain ⟨cv, hcv⟩ : ∃ cv, cf5 y x = cv := ⟨_, rfl⟩
     rw [hcv] at cC hv hd
     clear hcv
     go_wp2_with fail
     go_quiet_grown (first | (go_at_call 47; exact cC _ _))
     go_wp2
     go_roundw
     case rel =>
      have hh := NM.out
      have hb := B.out
      refine ⟨k + 1, v, ?_, ?_, by omega, by omega, by omega, .inr ?_, HI.out, HW.out.grown _ _⟩
      ·congr 1; omega
      ·congr 1; omega
      ·intro x' y' hx' hy'
       rw [Nat.add_sub_cancel, HX.out] at hx'
       rw [show M - (k + 1) = M - 1 - k by omega, HY.out] at hy'
       injection hx' with hx'; injection hy' with hy'
       subst hx' hy'
       exact HLE.out
     case measure => have hh := NM.out; simp [intOf]; omega
    | false =>
     have hv := cf_false hl
     have HLE := Lib.hid hl
     have hd : decide (cf5 y x < 0) = true := decide_eq_true hv
     clear hl
     obtain ⟨cv, hcv⟩ : ∃ cv, cf5 y x = cv := ⟨_, rfl⟩
     rw [hcv] at cC hv hd
     clear hcv
     go_wp2_with fail
     go_quiet_grown (first | (go_at_call 47; exact cC _ _))
     go_wp2
     go_roundw
     case rel =>
      have hh := NM.out
      have hb := B.out
      refine ⟨u, k, ?_, ?_, by omega, by omega, by omega, LO.out, .inr ?_, HW.out.grown _ _⟩
      ·congr 1; omega
      ·congr 1; omega
      ·intro x' y' hx' hy'
       rw [HX.out] at hx'
       rw [HY.out] at hy'
       injection hx' with hx'; injection hy' with hy'
       subst hx' hy'
       exact HLE.out
     case measure => have hh := NM.out; simp [intOf]; omega
   ·obtain rfl : u = v := by omega
    obtain ⟨i, hi'⟩ : ∃ i, a + u = i := ⟨_, rfl⟩
    have HI' := Lib.hid hi'
    have B := Lib.hid (show u0 ≤ u ∧ u ≤ v0 from ⟨b1, b3⟩)
    rw [hi']
    have i1 : ¬ (i : Int) < (i : Int) := by omega
    clear lo hi hw hi' hh hlt b1 b2 b3
    go_wp2_with fail
    go_meet
    exact ⟨u, by rw [HI'.out], B.out.1, B.out.2, LO.out, HI.out, HW.out⟩
 case rest =>
 clear H0
 obtain ⟨u, rfl, b1, b2, lo, hi, hw⟩ := hcut
 have hh := NUM.out
 obtain ⟨L1, L2, R1, R2, rfl, rfl, hL1, hR1, hmg⟩ := sym_split (u := u) (M := M) HSL.out HSR.out (by omega) (by rw [HL.out]; omega) (by rw [HRL.out]; omega) (by rw [HRL.out]; rcases lo with h | h; (left; omega); exact .inr h) (by rw [HL.out]; rcases hi with h | h; (left; omega); exact .inr h)
 obtain ⟨s, hs⟩ : ∃ s, a + u = s := ⟨_, rfl⟩
 obtain ⟨t, ht⟩ : ∃ t, m + (M - u) = t := ⟨_, rfl⟩
 have hl2 : L2.length = l - u := by have := HL.out; rw [List.length_append, hL1] at this; omega
 have hr2 : R2.length = r - (M - u) := by have := HRL.out; rw [List.length_append, hR1] at this; omega
 have hAA := HA.out
 have NM := Lib.hid (show s + L2.length = m ∧ m + R1.length = t ∧ t + R2.length = e ∧ s + R1.length = d ∧ d + L2.length = t ∧ A.length + L1.length = s ∧ a + L1.length = s ∧ a ≤ s ∧ L1.length + R1.length < l + r ∧ L2.length + R2.length < l + r ∧ L1.length + R1.length = M ∧ a + M = d from by omega)
 obtain ⟨sl1, sl2, -⟩ := srt_append HSL.out
 obtain ⟨sr1, sr2, -⟩ := srt_append HSR.out
 have SL1 := Lib.hid sl1; have SL2 := Lib.hid sl2; have SR1 := Lib.hid sr1; have SR2 := Lib.hid sr2
 have HTE : Hid (T = A ++ (List.merge L1 R1 le5 ++ (List.merge L2 R2 le5 ++ B))) := by show _ = _; rw [← HT.out, hmg, List.append_assoc]
 obtain ⟨WB, hWB⟩ : ∃ V, wc = V := ⟨_, rfl⟩
 rw [hWB] at hw ⊢
 have HW := Lib.hid hw
 have g1 : (d : Int) + (m : Int) - (s : Int) = (t : Int) := by omega
 have g2 : IntKind.i64.wrap (t : Int) = (t : Int) := IntWalk.i64_in _ (by omega)
 have g3 : t ≤ e := by omega
 have g4 : s ≤ d := by omega
 rw [hs]
 clear hWB hw hs ht hl2 hr2 hL1 hR1 hmg lo hi hh b1 b2 sl1 sl2 sr1 sr2 hAA
 go_upto_region 39 with fail
 go_cut [185] (fun q wx => q = .bool (decide (0 < L2.length) && decide (0 < R1.length)) ∧ SWL w0 blk (A ++ ((L1 ++ L2) ++ ((R1 ++ R2) ++ B))) wx)
 case first => as_aux_lemma =>
  have hnm := NM.out
  by_cases hA : 0 < L2.length
  ·have f1 : (s : Int) < (m : Int) := by omega
   by_cases hB : 0 < R1.length
   ·have f2 : (m : Int) < (t : Int) := by omega
    have hq := Lib.hid (show (decide (0 < L2.length) && decide (0 < R1.length)) = true by simp [hA, hB])
    clear hnm hA hB
    go_wp2_with fail
    go_meet
    exact ⟨by rw [hq.out], HW.out⟩
   ·have f2 : ¬ (m : Int) < (t : Int) := by omega
    have hq := Lib.hid (show (decide (0 < L2.length) && decide (0 < R1.length)) = false by simp [hB])
    clear hnm hA hB
    go_wp2_with fail
    go_meet
    exact ⟨by rw [hq.out], HW.out⟩
  ·have f1 : ¬ (s : Int) < (m : Int) := by omega
   have hq := Lib.hid (show (decide (0 < L2.length) && decide (0 < R1.length)) = false by simp [hA])
   clear hnm hA
   go_wp2_with fail
   go_meet
   exact ⟨by rw [hq.out], HW.out⟩
 case rest =>
 obtain ⟨rfl, hw⟩ := hcut
 obtain ⟨WB, hWB⟩ : ∃ V, wc = V := ⟨_, rfl⟩
 rw [hWB] at hw ⊢
 clear HW
 have HW := Lib.hid hw
 clear hWB hw
 go_upto_if 185 with fail
 go_cut [] (fun wx => SWL w0 blk (A ++ (L1 ++ (R1 ++ (L2 ++ (R2 ++ B))))) wx)
 case first => as_aux_lemma =>
  have hnm := NM.out
  by_cases hA : 0 < L2.length
  ·have f1 : (s : Int) < (m : Int) := by omega
   by_cases hB : 0 < R1.length
   ·have f2 : (m : Int) < (t : Int) := by omega
    have cR := ROT.out (A ++ L1) L2 R1 (R2 ++ B) _ (by have := HN.out; simpa using this) (by have := HW.out; simpa using this) hA hB
    rw [List.length_append, hnm.2.2.2.2.2.1, hnm.1, hnm.2.1] at cR
    have CR := Lib.hid cR
    have hq : (decide (0 < L2.length) && decide (0 < R1.length)) = true := by simp [hA, hB]
    rw [hq]
    clear hnm cR hA hB hq
    go_wp2_with fail
    refine CR.out.mono ?_
    rintro e' w2 ⟨rfl, hs2⟩
    have HS2 := Lib.hid hs2
    clear hs2 CR
    go_wp2_with fail
    go_meet
    have := HS2.out
    simpa using this
   ·have f2 : ¬ (m : Int) < (t : Int) := by omega
    have hE : R1 = [] := List.eq_nil_of_length_eq_zero (by omega)
    have HE := Lib.hid hE
    have hq : (decide (0 < L2.length) && decide (0 < R1.length)) = false := by simp [hB]
    rw [hq]
    clear hnm hA hB hE hq
    go_wp2_with fail
    go_meet
    have := HW.out
    rw [HE.out] at this ⊢
    simpa using this
  ·have f1 : ¬ (s : Int) < (m : Int) := by omega
   have hE : L2 = [] := List.eq_nil_of_length_eq_zero (by omega)
   have HE := Lib.hid hE
   have hq : (decide (0 < L2.length) && decide (0 < R1.length)) = false := by simp [hA]
   rw [hq]
   clear hnm hA hE hq
   go_wp2_with fail
   go_meet
   have := HW.out
   rw [HE.out] at this ⊢
   simpa using this
 case rest =>
 obtain ⟨WC, hWC⟩ : ∃ V, wc = V := ⟨_, rfl⟩
 rw [hWC] at hcut ⊢
 have HC := Lib.hid hcut
 clear hWC hcut HW
 go_upto_region 41 with fail
 go_cut [199] (fun q wx => q = .bool (decide (0 < L1.length) && decide (0 < R1.length)) ∧ SWL w0 blk (A ++ (L1 ++ (R1 ++ (L2 ++ (R2 ++ B))))) wx)
 case first => as_aux_lemma =>
  have hnm := NM.out
  by_cases hA : 0 < L1.length
  ·have f1 : (a : Int) < (s : Int) := by omega
   by_cases hB : 0 < R1.length
   ·have f2 : (s : Int) < (d : Int) := by omega
    have hq := Lib.hid (show (decide (0 < L1.length) && decide (0 < R1.length)) = true by simp [hA, hB])
    clear hnm hA hB
    go_wp2_with fail
    go_meet
    exact ⟨by rw [hq.out], HC.out⟩
   ·have f2 : ¬ (s : Int) < (d : Int) := by omega
    have hq := Lib.hid (show (decide (0 < L1.length) && decide (0 < R1.length)) = false by simp [hB])
    clear hnm hA hB
    go_wp2_with fail
    go_meet
    exact ⟨by rw [hq.out], HC.out⟩
  ·have f1 : ¬ (a : Int) < (s : Int) := by omega
   have hq := Lib.hid (show (decide (0 < L1.length) && decide (0 < R1.length)) = false by simp [hA])
   clear hnm hA
   go_wp2_with fail
   go_meet
   exact ⟨by rw [hq.out], HC.out⟩
 case rest =>
 obtain ⟨rfl, hw⟩ := hcut
 obtain ⟨WB, hWB⟩ : ∃ V, wc = V := ⟨_, rfl⟩
 rw [hWB] at hw ⊢
 clear HC
 have HC := Lib.hid hw
 clear hWB hw
 go_upto_if 199 with fail
 go_cut [] (fun wx => SWL w0 blk (A ++ (List.merge L1 R1 le5 ++ (L2 ++ (R2 ++ B)))) wx)
 case first => as_aux_lemma =>
  have hnm := NM.out
  by_cases hA : 0 < L1.length
  ·have f1 : (a : Int) < (s : Int) := by omega
   by_cases hB : 0 < R1.length
   ·have f2 : (s : Int) < (d : Int) := by omega
    have cR := IH.out A L1 R1 (L2 ++ (R2 ++ B)) (by omega) _ (by have := HN.out; simp only [List.length_append] at this ⊢; omega) hA hB SL1.out SR1.out HC.out
    rw [hnm.2.2.2.2.2.1, hnm.2.2.2.1, HA.out] at cR
    have CR := Lib.hid cR
    have hq : (decide (0 < L1.length) && decide (0 < R1.length)) = true := by simp [hA, hB]
    rw [hq]
    clear hnm cR hA hB hq
    go_wp2_with fail
    refine CR.out.mono ?_
    rintro e' w2 ⟨rfl, hs2⟩
    have HS2 := Lib.hid hs2
    clear hs2 CR
    go_wp2_with fail
    go_meet
    exact HS2.out
   ·have f2 : ¬ (s : Int) < (d : Int) := by omega
    have hE : R1 = [] := List.eq_nil_of_length_eq_zero (by omega)
    have HE := Lib.hid hE
    have hq : (decide (0 < L1.length) && decide (0 < R1.length)) = false := by simp [hB]
    rw [hq]
    clear hnm hA hB hE hq
    go_wp2_with fail
    go_meet
    have := HC.out
    rw [HE.out] at this ⊢
    simpa using this
  ·have f1 : ¬ (a : Int) < (s : Int) := by omega
   have hE : L1 = [] := List.eq_nil_of_length_eq_zero (by omega)
   have HE := Lib.hid hE
   have hq : (decide (0 < L1.length) && decide (0 < R1.length)) = false := by simp [hA]
   rw [hq]
   clear hnm hA hE hq
   go_wp2_with fail
   go_meet
   have := HC.out
   rw [HE.out] at this ⊢
   simpa using this
 case rest =>
 obtain ⟨WD, hWD⟩ : ∃ V, wc = V := ⟨_, rfl⟩
 rw [hWD] at hcut ⊢
 have HD := Lib.hid hcut
 clear hWD hcut HC
 have hnm := NM.out
 by_cases hA : 0 < L2.length
 ·have f1 : (d : Int) < (t : Int) := by omega
  by_cases hB : 0 < R2.length
  ·have f2 : (t : Int) < (e : Int) := by omega
   have cR := IH.out (A ++ List.merge L1 R1 le5) L2 R2 B (by omega) WD (by have := HN.out; simp only [List.length_append, List.length_merge] at this ⊢; omega) hA hB SL2.out SR2.out (by have := HD.out; simpa using this)
   rw [List.length_append, List.length_merge, hnm.2.2.2.2.2.2.2.2.2.2.1, HA.out, hnm.2.2.2.2.2.2.2.2.2.2.2, hnm.2.2.2.2.1, hnm.2.2.1] at cR
   have CR := Lib.hid cR
   clear hnm cR hA hB
   go_wp2_with fail
   refine CR.out.mono ?_
   rintro e' w2 ⟨rfl, hs2⟩
   have HS2 := Lib.hid hs2
   clear hs2 CR
   go_wp2
   go_end0
   refine ⟨rfl, ?_⟩
   rw [HTE.out]
   have := HS2.out
   simpa using this
  ·have f2 : ¬ (t : Int) < (e : Int) := by omega
   have hE : R2 = [] := List.eq_nil_of_length_eq_zero (by omega)
   have HE := Lib.hid hE
   clear hnm hA hB hE
   go_wp2
   go_end0
   refine ⟨rfl, ?_⟩
   rw [HTE.out]
   have := HD.out
   rw [HE.out] at this ⊢
   simpa using this
 ·have f1 : ¬ (d : Int) < (t : Int) := by omega
  have hE : L2 = [] := List.eq_nil_of_length_eq_zero (by omega)
  have HE := Lib.hid hE
  clear hnm hA hE
  go_wp2
  go_end0
  refine ⟨rfl, ?_⟩
  rw [HTE.out]
  have := HD.out
  rw [HE.out] at this ⊢
  simpa using this

/-- Two neighbours in order, merged in place. -/
theorem sym_c (w0 : World) (blk cap n : Nat) (hR5 : R5 w0 blk n) (hn : n ≤ 1048576) : ∀ (k : Nat) (A L R B : List E5), L.length + R.length ≤ k → SymOf w0 blk cap n A L R B := by
 intro k
 induction k with
 | zero =>
  intro A L R B hk W _ h0
  omega
 | succ k ih =>
  intro A L R B hk
  by_cases h1 : L.length = 1
  ·obtain ⟨x, rfl⟩ : ∃ x, L = [x] := by
    match L, h1 with
    | [x], _ => exact ⟨x, rfl⟩
   intro W hnl _ _ _ hs h
   have := sym1_c w0 blk cap A R B x W (by rw [show A ++ x :: (R ++ B) = A ++ ([x] ++ (R ++ B)) by simp, hnl]; exact hR5) h hs (by rw [show A ++ x :: (R ++ B) = A ++ ([x] ++ (R ++ B)) by simp, hnl]; exact hn)
   rw [show A ++ x :: (R ++ B) = A ++ ([x] ++ (R ++ B)) by simp, hnl, List.append_assoc] at this
   exact this
  ·by_cases h2 : R.length = 1
   ·obtain ⟨y, rfl⟩ : ∃ x, R = [x] := by
     match R, h2 with
     | [x], _ => exact ⟨x, rfl⟩
    intro W hnl _ _ hs _ h
    have := sym2_c w0 blk cap A L B y W (by rw [show A ++ (L ++ y :: B) = A ++ (L ++ ([y] ++ B)) by simp, hnl]; exact hR5) h hs h1 (by rw [show A ++ (L ++ y :: B) = A ++ (L ++ ([y] ++ B)) by simp, hnl]; exact hn)
    rw [show A ++ (L ++ y :: B) = A ++ (L ++ ([y] ++ B)) by simp, hnl, List.append_assoc] at this
    exact this
   ·exact sym3_c w0 blk cap n hR5 hn A L R B h1 h2 fun A' L' R' B' hlt => ih A' L' R' B' (by omega)
end Go.Proofs.YtlmnabhhgplhnaaGreatDoor
