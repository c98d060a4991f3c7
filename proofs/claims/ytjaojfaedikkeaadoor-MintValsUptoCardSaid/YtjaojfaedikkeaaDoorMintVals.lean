/- The law on values' keys: for every two lists of values of a bound bulk the call returns true. -/
import Derived.Test.YtjaojfaedikkeaaDoorRefB
namespace Go.Proofs.YtjaojfaedikkeaaDoor.lawMintVals
open Go.RowKit

def capOne (x : V2) : V2 := (x.1, if x.1 then x.2 else ByteArray.empty)
def capV (vs : List V2) : List V2 := (vs.take 10).map capOne
theorem capV_length (vs : List V2) : (capV vs).length = min 10 vs.length := by simp [capV]
theorem capOne_no (s : ByteArray) : capOne (false, s) = (false, ⟨#[]⟩) := rfl
theorem capOne_yes (s : ByteArray) : capOne (true, s) = (true, s) := rfl
theorem cap_next (vs : List V2) (k : Nat) (x : V2) (h : vs[k]? = some x) : (vs.take (k + 1)).map capOne = (vs.take k).map capOne ++ [capOne x] := by
  rw [List.take_add_one, h, List.map_append]; rfl

def ValsPost (w : World) (vs : List V2) (e : Ending) (w' : World) : Prop :=
  ∃ v, e = .returned v ∧ IsVals w' v vs ∧ Below w.heap.size w w'

theorem info_val : (Tryd.prog.info? 34).map (fun i => (i.zero, i.size, i.bytes)) = some (some (.agg #[.bool false, .string ByteArray.empty]), 2, 24) := by kernel_rfl

set_option maxHeartbeats 2000000 in
set_option maxRecDepth 100000 in
theorem cut_any (v : Value) (vs : List V2) (w : World) (h : IsVals w v vs) :
    Calls Tryd.prog 14 #[v] w (ValsPost w (capV vs)) := by
  obtain ⟨a, c, rfl, h1, h1m, h2⟩ := h
  obtain ⟨i0, hi, hz0, hz1, hz2⟩ := info_parts info_val
  have hcells : ∀ (k : Nat) x, vs[k]? = some x → ∃ b o, a = some ⟨b, o, none⟩ ∧ b < w.heap.size ∧ w.cell? ⟨b, o + k * 2, none⟩ = some (.bool x.1) ∧ w.cell? ⟨b, o + k * 2 + 1, none⟩ = some (.string x.2) := by
    intro k x hx
    obtain ⟨b, o, ha, hb, hc⟩ := h2 (by rintro rfl; simp at hx)
    exact ⟨b, o, ha, hb, hc k x hx⟩
  have HC := Lib.hid hcells
  have HNEXT := Lib.hid (cap_next vs)
  have HEND : Hid (∀ k, (k = 10 ∨ k = vs.length) → k ≤ 10 → (vs.take k).map capOne = capV vs) := by
    show ∀ k, _
    intro k hk h10
    unfold capV
    rcases hk with rfl | rfl
    · rfl
    · rw [List.take_of_length_le (Nat.le_refl _), List.take_of_length_le h10]
  clear hcells h2
  unfold maxLen at h1m
  go_enter Tryd.func14, Tryd.ntmps14
  go_wp2
  go_loopw [3, 4] (fun l i wr => ∃ (k : Nat), k ≤ vs.length ∧ k ≤ 10 ∧ i = .int .i64 k ∧ wr.ownsRow w.heap.size 34 2 l ((vs.take k).map capOne).length (valCells ((vs.take k).map capOne)) ∧ Below w.heap.size w wr)
    (fun _ i _ => vs.length - (intOf i).toNat)
  case atStart => exact ⟨0, Nat.zero_le _, by omega, rfl, by simpa [valCells] using World.ownsRow_nil _ _ _ _, Below.refl _ _⟩
  case round =>
    obtain ⟨k, hk, hk10, rfl, hown, hnx⟩ := hrel
    by_cases hlt : k < vs.length
    · by_cases hlt10 : k < 10
      · obtain ⟨x, hx⟩ : ∃ x, vs[k]? = some x := ⟨vs[k], List.getElem?_eq_getElem hlt⟩
        obtain ⟨b, o, ha, hb, hc0, hc1⟩ := HC.out k x hx
        subst ha
        have hcx0 : wr.cell? ⟨b, o + k * 2, none⟩ = some (.bool x.1) := (hnx.cell (by exact hb)).trans hc0
        have hcx1 : wr.cell? ⟨b, o + k * 2 + 1, none⟩ = some (.string x.2) := (hnx.cell (by exact hb)).trans hc1
        have hms1 := HNEXT.out k x hx
        have hkl : ((vs.take k).map capOne).length ≤ k := by rw [List.length_map]; exact List.length_take_le _ _
        have HM1 := Lib.hid hms1
        have HNX := Lib.hid hnx
        have hs1 := hnx.size
        have HOWN := Lib.hid hown
        clear hms1 hc0 hc1 hx hown hnx
        obtain ⟨ok, s⟩ := x
        simp only at hcx0 hcx1
        cases ok
        · rw [capOne_no] at HM1
          have hown2 := HOWN.out
          go_wp2_with (at_builtin; refine wpList_append_own _ rfl _ _ 31 rfl w.heap.size 34 i0 _ 2 24 Tryd.underlying31 hi hz0 hz1 hz2 rfl (by decide) _ _ _ rfl ((hown2.alloc _).alloc _) ⟨wr.heap.size + 1, 0, none⟩ 1 1 [.bool false, .string ⟨#[]⟩] rfl rfl ?c1 ?c2 ?c3 ?c4 ?c5 ?_)
          case c1 =>
            intro j u hj
            match j, hj with
            | 0, hj => simp at hj; subst hj; simp [Addr.add]
            | 1, hj => simp at hj; subst hj; simp [Addr.add]
          case c2 => intro u hu; simp at hu; rcases hu with rfl | rfl <;> rfl
          case c3 => unfold maxLen; omega
          case c4 => omega
          case c5 => simp; omega
          intro v' w3 hown' hgrow _
          have hnx' : Below w.heap.size w w3 := ((HNX.out.alloc hs1 _).alloc (by simp; omega) _).grown hgrow (by simp; omega) (fun g hg => (hown2.lt g hg).1)
          have HO : Hid (w3.ownsRow w.heap.size 34 2 v' ((vs.take (k + 1)).map capOne).length (valCells ((vs.take (k + 1)).map capOne))) := by
            show w3.ownsRow _ _ _ _ _ _
            rw [HM1.out, List.length_append, valCells_append, List.map_take, show ((vs.map capOne).take k).length = k by simp; omega]
            exact hown'
          clear hgrow hown2 hown'
          go_wp2
          go_roundw
          case rel => exact ⟨k + 1, by omega, by omega, by go_num, HO.out, hnx'⟩
          case measure => simp [intOf]; omega
        · rw [capOne_yes] at HM1
          have hown2 := HOWN.out
          go_wp2_with (at_builtin; refine wpList_append_own _ rfl _ _ 31 rfl w.heap.size 34 i0 _ 2 24 Tryd.underlying31 hi hz0 hz1 hz2 rfl (by decide) _ _ _ rfl ((hown2.alloc _).alloc _) ⟨wr.heap.size + 1, 0, none⟩ 1 1 [.bool true, .string s] rfl rfl ?c1 ?c2 ?c3 ?c4 ?c5 ?_)
          case c1 =>
            intro j u hj
            match j, hj with
            | 0, hj => simp at hj; subst hj; simp [Addr.add]
            | 1, hj => simp at hj; subst hj; simp [Addr.add]
          case c2 => intro u hu; simp at hu; rcases hu with rfl | rfl <;> rfl
          case c3 => unfold maxLen; omega
          case c4 => omega
          case c5 => simp; omega
          intro v' w3 hown' hgrow _
          have hnx' : Below w.heap.size w w3 := ((HNX.out.alloc hs1 _).alloc (by simp; omega) _).grown hgrow (by simp; omega) (fun g hg => (hown2.lt g hg).1)
          have HO : Hid (w3.ownsRow w.heap.size 34 2 v' ((vs.take (k + 1)).map capOne).length (valCells ((vs.take (k + 1)).map capOne))) := by
            show w3.ownsRow _ _ _ _ _ _
            rw [HM1.out, List.length_append, valCells_append, List.map_take, show ((vs.map capOne).take k).length = k by simp; omega]
            exact hown'
          clear hgrow hown2 hown'
          go_wp2
          go_roundw
          case rel => exact ⟨k + 1, by omega, by omega, by go_num, HO.out, hnx'⟩
          case measure => simp [intOf]; omega
      · have hk' : k = 10 := by omega
        have hE := HEND.out k (.inl hk') hk10
        rw [hE] at hown
        have hV := Lib.hid (vals_own hown)
        clear hE hown hk'
        go_wp2
        go_ret
        exact ⟨_, rfl, hV.out, hnx⟩
    · have hk' : k = vs.length := by omega
      have hE := HEND.out k (.inr hk') hk10
      rw [hE] at hown
      have hV := Lib.hid (vals_own hown)
      clear hE hown hk'
      go_wp2
      go_ret
      exact ⟨_, rfl, hV.out, hnx⟩

theorem capOne_fail (x : V2) : (capOne x).1 = false → (capOne x).2.data.toList = [] := by
  obtain ⟨b, s⟩ := x
  cases b
  · intro _; rfl
  · intro h; cases h
theorem capV_fail (vs : List V2) : ∀ x ∈ capV vs, x.1 = false → x.2.data.toList = [] := by
  intro x hx
  obtain ⟨y, _, rfl⟩ := List.mem_map.1 hx
  exact capOne_fail y

theorem marks_inj : ∀ {a b : List V2}, (∀ x ∈ a, x.1 = false → x.2.data.toList = []) → (∀ x ∈ b, x.1 = false → x.2.data.toList = []) →
    a.map (fun x => markS (x.1, x.2.data.toList)) = b.map (fun x => markS (x.1, x.2.data.toList)) → a = b
  | [], [], _, _, _ => rfl
  | [], _ :: _, _, _, h => by simp at h
  | _ :: _, [], _, _, h => by simp at h
  | x :: a, y :: b, ha, hb, h => by
    simp only [List.map_cons, List.cons.injEq] at h
    have h1 := markS_inj (ha x (by simp)) (hb y (by simp)) h.1
    have h2 := marks_inj (fun z hz => ha z (by simp [hz])) (fun z hz => hb z (by simp [hz])) h.2
    rw [h2]
    injection h1 with e1 e2
    have e3 : x.2 = y.2 := ByteArray.ext (Array.toList_inj.1 e2)
    rw [Prod.ext e1 e3]

/-- Unlike values have unlike keys. -/
theorem vals_inj {a b : List V2} (ha : ∀ x ∈ a, x.1 = false → x.2.data.toList = []) (hb : ∀ x ∈ b, x.1 = false → x.2.data.toList = []) (h : valsB a = valsB b) : a = b := by
  rw [valsB_eq, valsB_eq] at h
  have h' := congrArg (fun x : ByteArray => x.data.toList) h
  exact marks_inj ha hb (putS_inj (by simpa using h'))

theorem vals_len (vs : List V2) : (putS (vs.map fun x => markS (x.1, x.2.data.toList))).length = (valsB vs).size := by rw [valsB_eq]; rfl
theorem vals_size : ∀ (vs : List V2), (∀ x ∈ vs, x.2.size ≤ 1048576) → (valsB vs).size ≤ vs.length * 1048600
  | [], _ => by simp [valsB, putB, putS, ByteArray.size]
  | x :: vs, h => by
    have ih := vals_size vs (fun y hy => h y (by simp [hy]))
    have hx := h x (by simp)
    have e : valsB (x :: vs) = ⟨(partS (markS (x.1, x.2.data.toList)) ++ putS (vs.map fun x => markS (x.1, x.2.data.toList))).toArray⟩ := by
      rw [valsB_eq, List.map_cons, putS_cons]
    rw [valsB_eq] at ih
    have hm : (markS (x.1, x.2.data.toList)).length ≤ 1048577 := by
      unfold markS
      split
      · rw [List.length_cons, ← Lib.size_eq]; omega
      · simp
    have hp : (partS (markS (x.1, x.2.data.toList))).length ≤ 1048600 := by
      unfold partS
      rw [← decB_data]
      have := decB_size (markS (x.1, x.2.data.toList)).length (by omega)
      rw [Lib.size_eq] at this
      simp only [List.length_append, List.length_cons]
      omega
    rw [e]
    simp only [ByteArray.size, List.size_toArray, List.length_append, List.length_cons] at ih ⊢
    omega

theorem capV_size (vs : List V2) (h : ∀ x ∈ vs, x.2.size ≤ 1048576) : ∀ x ∈ capV vs, x.2.size ≤ 1048576 := by
  intro x hx
  obtain ⟨y, hy, rfl⟩ := List.mem_map.1 hx
  have := h y (List.mem_of_mem_take hy)
  unfold capOne
  obtain ⟨b, s⟩ := y
  cases b
  · simp
  · simpa using this

/-- What is known of the two lists behind so many rounds. -/
def SameAt (A B : List V2) (k : Nat) (s : Bool) : Prop := (s = true → A.length = B.length ∧ A.take k = B.take k) ∧ (s = false → A ≠ B)
theorem SameAt.start (A B : List V2) (s : Bool) (h : s = decide (A.length = B.length)) : SameAt A B 0 s := by
  subst h
  refine ⟨fun h => ⟨of_decide_eq_true h, by simp⟩, fun h e => ?_⟩
  have := of_decide_eq_false h
  rw [e] at this; exact this rfl
theorem SameAt.next {A B : List V2} {k : Nat} (h : SameAt A B k true) {x y : V2} (hx : A[k]? = some x) (hy : B[k]? = some y) (s : Bool) (hs : s = true ↔ x = y) : SameAt A B (k + 1) s := by
  obtain ⟨h1, h2⟩ := h.1 rfl
  refine ⟨fun e => ⟨h1, ?_⟩, fun e hab => ?_⟩
  · have := hs.1 e
    rw [List.take_add_one, List.take_add_one, h2, hx, hy, this]
  · subst hab
    rw [hx] at hy
    injection hy with hy
    rw [hs.2 hy] at e; cases e
theorem SameAt.fin {A B : List V2} {k : Nat} {s : Bool} (h : SameAt A B k s) (hk : s = true → A.length ≤ k) : s = true ↔ A = B := by
  cases s
  · exact ⟨fun e => (Bool.false_ne_true e).elim, fun e => (h.2 rfl e).elim⟩
  · obtain ⟨h1, h2⟩ := h.1 rfl
    rw [List.take_of_length_le (hk rfl), List.take_of_length_le (by have := hk rfl; omega)] at h2
    exact ⟨fun _ => h2, fun _ => rfl⟩

theorem val_guard : Tryd.prog.eqGuardType Tryd.prog.depth 34 = false := by kernel_rfl
theorem val_und : Tryd.prog.underlying 34 = some (.struct (Tryd.prog.fieldsOf 34)) := by kernel_rfl
theorem val_held : Tryd.prog.stoodInHeld 34 = false := by kernel_rfl
set_option maxRecDepth 100000 in
theorem eq_vals (a b : Bool) (s t : ByteArray) (w : World) : (Go.binOp .eql 34 (.agg #[.bool a, .string s]) (.agg #[.bool b, .string t])).run Tryd.prog w = .ok (.bool ((a == b) && (s.toList == t.toList))) w := by
  have h1 := Tryd.underlying4
  have h2 := Tryd.underlying9
  have z1 := Tryd.sizeOf4
  have z2 := Tryd.sizeOf9
  rw [run_eql_struct, run_equalIn_agg w 9999 _ _ _ val_und val_held]
  simp only [Program.fieldsOf, Tryd.underlying34]
  cases a <;> cases b <;> go_simp
  all_goals (by_cases h : s.toList = t.toList <;> simp [h])

set_option maxHeartbeats 4000000 in
set_option maxRecDepth 100000 in
theorem law (v : Value) (us : List V2) (v' : Value) (bs : List V2) (w : World) (hA : IsVals w v us) (hsa : ∀ x ∈ us, x.2.size ≤ 1048576) (hB : IsVals w v' bs) (hsb : ∀ x ∈ bs, x.2.size ≤ 1048576) (hG : Glob w) :
    Calls Tryd.prog 5 #[v, v'] w fun e w' => e = .returned (.bool true) ∧ Below w.heap.size w w' := by
  have HG := Lib.hid hG
  have HA := Lib.hid hA
  have HB := Lib.hid hB
  obtain ⟨A, hAe⟩ : ∃ A, capV us = A := ⟨_, rfl⟩
  obtain ⟨B, hBe⟩ : ∃ B, capV bs = B := ⟨_, rfl⟩
  have hla : A.length ≤ 10 := by rw [← hAe, capV_length]; omega
  have hlb : B.length ≤ 10 := by rw [← hBe, capV_length]; omega
  have hza := capV_size us hsa
  have hzb := capV_size bs hsb
  have hfa := capV_fail us
  have hfb := capV_fail bs
  have cA := fun w h => cut_any v us w h
  have cB := fun w h => cut_any v' bs w h
  rw [hAe] at hza hfa
  rw [hBe] at hzb hfb
  simp only [hAe] at cA
  simp only [hBe] at cB
  have HAE := Lib.hid hAe
  have HZA := Lib.hid hza
  have HZB := Lib.hid hzb
  have HINJ := Lib.hid (vals_inj hfa hfb)
  have CA := Lib.hid cA
  have CB := Lib.hid cB
  clear hG hA hB hAe hBe hsa hsb hza hzb hfa hfb cA cB
  go_enter Tryd.func5, Tryd.ntmps5
  go_wp2_with fail
  refine (begun_any w HG.out).mono ?_
  rintro e w1 ⟨rfl, hb1⟩
  go_wp2_with fail
  refine (CA.out w1 (HA.out.below hb1)).mono ?_
  rintro e w2 ⟨a, rfl, hA2, hb2⟩
  have hb2 := chain hb1 hb2
  have HA2 := Lib.hid hA2
  clear hb1 hA2
  go_wp2_with fail
  refine (CB.out w2 (HB.out.below hb2)).mono ?_
  rintro e w3 ⟨b, rfl, hB3, hb3⟩
  have HA3 := Lib.hid (HA2.out.below hb3)
  have hb3 := chain hb2 hb3
  have HB3 := Lib.hid hB3
  clear hb2 hB3
  obtain ⟨ad, ca, rfl, ha1, ha1m, ha2⟩ := HA3.out
  obtain ⟨bd, cb, rfl, hb1, hb1m, hb2⟩ := HB3.out
  have HAC := Lib.hid ha2
  have HBC := Lib.hid hb2
  clear ha2 hb2
  go_wp2_with fail
  go_loopw [6, 7] (fun s i wr => ∃ (k : Nat) (q : Bool), i = .int .i64 k ∧ s = .bool q ∧ k ≤ A.length ∧ SameAt A B k q ∧ Below w3.heap.size w3 wr)
    (fun _ i _ => A.length - (intOf i).toNat)
  case atStart => exact ⟨0, _, rfl, rfl, by omega, SameAt.start A B _ (by rw [Bool.eq_iff_iff]; simp; omega), Below.refl _ _⟩
  case round =>
    obtain ⟨k, q, rfl, rfl, hk, hsame, hnx⟩ := hrel
    have HS := Lib.hid hsame
    have HNX := Lib.hid hnx
    clear hsame hnx
    by_cases hgo : q = true ∧ k < A.length
    · obtain ⟨rfl, hlt⟩ := hgo
      have hlb' : k < B.length := by have := (HS.out.1 rfl).1; omega
      obtain ⟨x, hx⟩ : ∃ x, A[k]? = some x := ⟨A[k], List.getElem?_eq_getElem hlt⟩
      obtain ⟨y, hy⟩ : ∃ y, B[k]? = some y := ⟨B[k], List.getElem?_eq_getElem hlb'⟩
      obtain ⟨ab, ao, rfl, hab, hac⟩ := HAC.out (by rintro rfl; simp at hlt)
      obtain ⟨bb, bo, rfl, hbb, hbc⟩ := HBC.out (by rintro rfl; simp at hlb')
      obtain ⟨ax0, ax1⟩ := hac k x hx
      obtain ⟨by0, by1⟩ := hbc k y hy
      have hx0 := (HNX.out.cell (p := ⟨ab, ao + k * 2, none⟩) hab).trans ax0
      have hx1 := (HNX.out.cell (p := ⟨ab, ao + k * 2 + 1, none⟩) hab).trans ax1
      have hy0 := (HNX.out.cell (p := ⟨bb, bo + k * 2, none⟩) hbb).trans by0
      have hy1 := (HNX.out.cell (p := ⟨bb, bo + k * 2 + 1, none⟩) hbb).trans by1
      have HNEXT := Lib.hid (HS.out.next hx hy)
      clear ax0 ax1 by0 by1 hac hbc hx hy hab hbb
      obtain ⟨x0, x1⟩ := x
      obtain ⟨y0, y1⟩ := y
      simp only at hx0 hx1 hy0 hy1
      have hk0 : (0 : Int) ≤ (k : Int) := by omega
      have hkA : (k : Int) < (A.length : Int) := by omega
      have hkB : (k : Int) < (B.length : Int) := by omega
      have hq := eq_vals x0 y0 x1 y1
      have hgd := val_guard
      obtain ⟨q, hqe⟩ : ∃ q, ((x0 == y0) && (x1.toList == y1.toList)) = q := ⟨_, rfl⟩
      rw [hqe] at hq
      have HQE := Lib.hid hqe
      clear hqe
      go_wp2_with fail
      go_quiet (fail)
      have hqi : q = true ↔ (x0, x1) = (y0, y1) := by
        rw [← HQE.out, Bool.and_eq_true, beq_iff_eq, beq_iff_eq, Prod.mk.injEq, Lib.toList_data, Lib.toList_data]
        constructor
        · rintro ⟨h1, h2⟩
          exact ⟨h1, ByteArray.ext (Array.toList_inj.1 h2)⟩
        · rintro ⟨h1, h2⟩
          exact ⟨h1, by rw [h2]⟩
      have HQI := Lib.hid hqi
      clear hqi
      go_wp2
      go_roundw
      case rel => exact ⟨k + 1, q, by go_num, rfl, by omega, HNEXT.out q HQI.out, below_drewN HNX.out _⟩
      case measure => simp [intOf]; omega
    · have hfin := HS.out.fin (fun hq => by
        rcases Nat.lt_or_ge k A.length with h | h
        · exact absurd ⟨hq, h⟩ hgo
        · exact h)
      have HFIN := Lib.hid hfin
      have HA4 := Lib.hid (HA3.out.below HNX.out)
      have HB4 := Lib.hid (HB3.out.below HNX.out)
      have HX4 := Lib.hid (chain hb3 HNX.out)
      have hge : q = false ∨ (q = true ∧ A.length ≤ k) := by
        cases q
        · exact .inl rfl
        · refine .inr ⟨rfl, ?_⟩
          rcases Nat.lt_or_ge k A.length with h | h
          · exact absurd ⟨rfl, h⟩ hgo
          · exact h
      have eA := valsB_eq A
      have eB := valsB_eq B
      have cMA := fun w h hg => vals_any (.slice ad A.length ca) A w h (by omega) hg (fun x hx => by have := HZA.out x hx; omega) (by
        have := vals_size A HZA.out
        rw [vals_len]
        omega)
      have cMB := fun w h hg => vals_any (.slice bd B.length cb) B w h (by omega) hg (fun x hx => by have := HZB.out x hx; omega) (by
        have := vals_size B HZB.out
        rw [vals_len]
        omega)
      have cRA := fun w h => valsR_any (.slice ad A.length ca) A w h (by omega) (fun x hx => by have := HZA.out x hx; omega) (by
        have := vals_size A HZA.out
        omega)
      simp only [← eA] at cMA
      simp only [← eB] at cMB
      obtain ⟨KA, hKA⟩ : ∃ KA, valsB A = KA := ⟨_, rfl⟩
      obtain ⟨KB, hKB⟩ : ∃ KB, valsB B = KB := ⟨_, rfl⟩
      rw [hKA] at cRA
      simp only [hKA] at cMA
      simp only [hKB] at cMB
      have hkk : (KA.toList == KB.toList) = q := by
        rw [Bool.eq_iff_iff, HFIN.out, beq_iff_eq, Lib.toList_data, Lib.toList_data, ← hKA, ← hKB]
        constructor
        · intro h
          exact HINJ.out (ByteArray.ext (Array.toList_inj.1 h))
        · intro h; rw [h]
      have hka : (KA.toList == KA.toList) = true := by simp
      have CMA := Lib.hid cMA
      have CMB := Lib.hid cMB
      have CRA := Lib.hid cRA
      clear eA eB cMA cMB cRA hKA hKB hfin hgo
      have HKK := Lib.hid hkk
      clear hkk
      rcases hge with rfl | ⟨rfl, hge⟩
      all_goals
        go_wp2_with fail
        refine (CMA.out wr HA4.out (HG.out.below HX4.out)).mono ?_
        rintro e w5 ⟨rfl, hb5⟩
        have HA5 := Lib.hid (HA4.out.below hb5)
        have HB5 := Lib.hid (HB4.out.below hb5)
        have HX5 := Lib.hid (chain HX4.out hb5)
        clear hb5
        go_wp2_with fail
        refine (CRA.out w5 HA5.out).mono ?_
        rintro e w6 ⟨rfl, hb6⟩
        have HA6 := Lib.hid (HA5.out.below hb6)
        have HB6 := Lib.hid (HB5.out.below hb6)
        have HX6 := Lib.hid (chain HX5.out hb6)
        clear hb6
        go_wp2_with fail
        refine (CMA.out w6 HA6.out (HG.out.below HX6.out)).mono ?_
        rintro e w7 ⟨rfl, hb7⟩
        have HB7 := Lib.hid (HB6.out.below hb7)
        have HX7 := Lib.hid (chain HX6.out hb7)
        clear hb7
        go_wp2_with fail
        refine (CMB.out w7 HB7.out (HG.out.below HX7.out)).mono ?_
        rintro e w8 ⟨rfl, hb8⟩
        have HX8 := Lib.hid (chain HX7.out hb8)
        have hkk := HKK.out
        clear hb8
        go_wp2
        go_ret
        exact ⟨rfl, HX8.out⟩
end Go.Proofs.YtjaojfaedikkeaaDoor.lawMintVals
