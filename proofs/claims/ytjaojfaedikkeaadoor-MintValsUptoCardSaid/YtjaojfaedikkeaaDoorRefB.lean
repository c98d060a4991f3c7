/- Rows of values; the reference's Vals. -/
import Derived.Test.YtjaojfaedikkeaaDoorRefA
namespace Go.Proofs.YtjaojfaedikkeaaDoor
open Go.RowKit

abbrev V2 := Bool × ByteArray
def valCells (vs : List V2) : List Value := (vs.map fun f => [Value.bool f.1, Value.string f.2]).flatten
theorem valCells_cons (f : V2) (vs : List V2) : valCells (f :: vs) = .bool f.1 :: .string f.2 :: valCells vs := by simp [valCells]
theorem valCells_append (a b : List V2) : valCells (a ++ b) = valCells a ++ valCells b := by simp [valCells]
theorem valCells_length (vs : List V2) : (valCells vs).length = vs.length * 2 := by
  induction vs with
  | nil => rfl
  | cons f fs ih => rw [valCells_cons]; simp only [List.length_cons, ih]; omega
theorem valCells_at (vs : List V2) : ∀ (j : Nat) (x : V2), vs[j]? = some x → (valCells vs)[j * 2]? = some (.bool x.1) ∧ (valCells vs)[j * 2 + 1]? = some (.string x.2) := by
  induction vs with
  | nil => intro j x h; simp at h
  | cons f fs ih =>
    intro j x h
    rw [valCells_cons]
    cases j with
    | zero => simp at h; subst h; simp
    | succ j => rw [Nat.add_mul]; simpa using ih j x (by simpa using h)

theorem vals_own {w : World} {B : Nat} {v : Value} {vs : List V2} (hown : w.ownsRow B 34 2 v vs.length (valCells vs)) : IsVals w v vs := by
  obtain ⟨hl, ⟨rfl, h0⟩ | ⟨g, c, cur, rfl, hgB, hg, hnc, hcm, hcs, htk⟩⟩ := hown
  · obtain rfl := List.eq_nil_of_length_eq_zero h0
    exact ⟨none, 0, rfl, by simp, by simp [maxLen], fun h => absurd rfl h⟩
  · refine ⟨_, c, rfl, hnc, hcm, fun _ => ⟨g, 0, rfl, ?_, fun j x hx => ?_⟩⟩
    · rcases Nat.lt_or_ge g w.heap.size with h | h
      · exact h
      · rw [Array.getElem?_eq_none h] at hg; cases hg
    · have key : ∀ (t : Nat) u, (valCells vs)[t]? = some u → w.cell? ⟨g, t, none⟩ = some u := by
        intro t u hu
        rw [← htk, List.getElem?_take] at hu
        split at hu
        · simp only [World.cell?, hg]; simpa using hu
        · cases hu
      have := valCells_at vs j x hx
      rw [Nat.zero_add]
      exact ⟨key _ _ this.1, key _ _ this.2⟩

theorem IsVals.below {w w' : World} {v : Value} {vs : List V2} (h : IsVals w v vs) (hb : Below w.heap.size w w') : IsVals w' v vs := by
  obtain ⟨a, c, rfl, h1, h1m, h2⟩ := h
  refine ⟨a, c, rfl, h1, h1m, fun hne => ?_⟩
  obtain ⟨b, o, rfl, h3, h4⟩ := h2 hne
  exact ⟨b, o, rfl, Nat.lt_of_lt_of_le h3 hb.size, fun j x hx => ⟨(hb.cell h3).trans (h4 j x hx).1, (hb.cell h3).trans (h4 j x hx).2⟩⟩

/-- One value as Vals marks it, as a text. -/
def markB (x : V2) : ByteArray := ⟨(markS (x.1, x.2.data.toList)).toArray⟩
theorem markB_yes (s : ByteArray) : markB (true, s) = (⟨#[43]⟩ : ByteArray) ++ s := by apply ByteArray.ext; simp [markB, markS]
theorem markB_no (s : ByteArray) : markB (false, s) = (⟨#[45]⟩ : ByteArray) := by apply ByteArray.ext; simp [markB, markS]
def valsB (vs : List V2) : ByteArray := putB (vs.map markB)
theorem valsB_eq (vs : List V2) : valsB vs = ⟨(putS (vs.map fun x => markS (x.1, x.2.data.toList))).toArray⟩ := by
  unfold valsB putB
  rw [List.map_map]
  rfl

set_option maxHeartbeats 2000000 in
set_option maxRecDepth 100000 in
/-- The reference's Vals. -/
theorem valsR_any (v : Value) (vs : List V2) (w : World) (h : IsVals w v vs) (hN : vs.length ≤ 1000000)
    (hsz : ∀ x ∈ vs, x.2.size ≤ 140737488351232) (hlen : (valsB vs).size ≤ 140737488351232) :
    Calls Tryd.prog 16 #[v] w fun e w' => e = .returned (.string (valsB vs)) ∧ Below w.heap.size w w' := by
  obtain ⟨a, c, rfl, h1, h1m, h2⟩ := h
  obtain ⟨i0, hi, hz0, hz1, hz2⟩ := info_parts info_str
  have hcells : ∀ (k : Nat) x, vs[k]? = some x → ∃ b o, a = some ⟨b, o, none⟩ ∧ b < w.heap.size ∧ w.cell? ⟨b, o + k * 2, none⟩ = some (.bool x.1) ∧ w.cell? ⟨b, o + k * 2 + 1, none⟩ = some (.string x.2) := by
    intro k x hx
    obtain ⟨b, o, ha, hb, hc⟩ := h2 (by rintro rfl; simp at hx)
    exact ⟨b, o, ha, hb, hc k x hx⟩
  have HC := Lib.hid hcells
  have HLE := Lib.hid hlen
  have HSZ := Lib.hid hsz
  obtain ⟨ms, hms⟩ : ∃ ms, vs.map markB = ms := ⟨_, rfl⟩
  have hml : ms.length = vs.length := by rw [← hms]; simp
  have HMS : Hid (∀ (k : Nat) (x : V2), vs[k]? = some x → ms[k]? = some (markB x)) := by
    show ∀ k x, _
    intro k x hx
    rw [← hms, List.getElem?_map, hx]; rfl
  have HRES : Hid (valsB vs = putB ms) := by show valsB vs = _; unfold valsB; rw [hms]
  have HML := Lib.hid hml
  clear hcells h2 hlen hsz hml hms
  unfold maxLen at h1m
  go_enter Tryd.func16, Tryd.ntmps16
  go_wp2
  go_loopw [3, 4] (fun l i wr => ∃ (k : Nat), k ≤ vs.length ∧ i = .int .i64 k ∧ wr.ownsRow w.heap.size 9 1 l (ms.take k).length ((ms.take k).map Value.string) ∧ Below w.heap.size w wr)
    (fun _ i _ => vs.length - (intOf i).toNat)
  case atStart => exact ⟨0, Nat.zero_le _, rfl, by simpa using World.ownsRow_nil _ _ _ _, Below.refl _ _⟩
  case round =>
    obtain ⟨k, hk, rfl, hown, hnx⟩ := hrel
    by_cases hlt : k < vs.length
    · obtain ⟨x, hx⟩ : ∃ x, vs[k]? = some x := ⟨vs[k], List.getElem?_eq_getElem hlt⟩
      obtain ⟨b, o, ha, hb, hc0, hc1⟩ := HC.out k x hx
      subst ha
      have hcx0 : wr.cell? ⟨b, o + k * 2, none⟩ = some (.bool x.1) := (hnx.cell (by exact hb)).trans hc0
      have hcx1 : wr.cell? ⟨b, o + k * 2 + 1, none⟩ = some (.string x.2) := (hnx.cell (by exact hb)).trans hc1
      have hxs := HSZ.out x (List.mem_of_getElem? hx)
      have hmk := HMS.out k x hx
      have hms1 : (ms.take (k + 1)) = ms.take k ++ [markB x] := by rw [List.take_add_one, hmk]; rfl
      have hkl : (ms.take k).length ≤ k := List.length_take_le _ _
      have HM1 := Lib.hid hms1
      have HNX := Lib.hid hnx
      have hs1 := hnx.size
      have HOWN := Lib.hid hown
      clear hms1 hmk hc0 hc1 hx hown hnx
      obtain ⟨ok, s⟩ := x
      simp only at hcx0 hcx1 hxs
      obtain ⟨mb, hmb⟩ : ∃ mb, markB (ok, s) = mb := ⟨_, rfl⟩
      rw [hmb] at HM1
      cases ok
      · rw [markB_no] at hmb
        subst hmb
        have hown2 := HOWN.out
        go_wp2_with (at_builtin; refine wpList_append_own _ rfl _ _ 28 rfl w.heap.size 9 i0 (.string ByteArray.empty) 1 16 Tryd.underlying28 hi hz0 hz1 hz2 rfl (by decide) _ _ _ rfl (hown2.alloc _) ⟨wr.heap.size, 0, none⟩ 1 1 [.string ⟨#[45]⟩] rfl rfl ?c1 ?c2 ?c3 ?c4 ?c5 ?_)
        case c1 =>
          intro j u hj
          match j, hj with
          | 0, hj => simp at hj; subst hj; simp [Addr.add]
        case c2 => intro u hu; simp at hu; subst hu; rfl
        case c3 => unfold maxLen; omega
        case c4 => omega
        case c5 => simp; omega
        · intro v' w3 hown' hgrow _
          have hnx' : Below w.heap.size w w3 := (HNX.out.alloc hs1 _).grown hgrow (by simp; omega) (fun g hg => (hown2.lt g hg).1)
          have HO : Hid (w3.ownsRow w.heap.size 9 1 v' (ms.take (k + 1)).length ((ms.take (k + 1)).map Value.string)) := by
            show w3.ownsRow _ _ _ _ _ _
            rw [HM1.out, List.length_append, List.map_append]
            simpa using hown'
          clear hgrow hown2 hown'
          go_wp2
          go_roundw
          case rel => exact ⟨k + 1, by omega, by go_num, HO.out, hnx'⟩
          case measure => simp [intOf]; omega
      · rw [markB_yes] at hmb
        subst hmb
        have hown2 := HOWN.out
        have h1s : (⟨#[43]⟩ : ByteArray).size = 1 := rfl
        go_wp2_with (at_builtin; refine wpList_append_own _ rfl _ _ 28 rfl w.heap.size 9 i0 (.string ByteArray.empty) 1 16 Tryd.underlying28 hi hz0 hz1 hz2 rfl (by decide) _ _ _ rfl (hown2.alloc _) ⟨wr.heap.size, 0, none⟩ 1 1 [.string (⟨#[43]⟩ ++ s)] rfl rfl ?c1 ?c2 ?c3 ?c4 ?c5 ?_)
        case c1 =>
          intro j u hj
          match j, hj with
          | 0, hj => simp at hj; subst hj; simp [Addr.add]
        case c2 => intro u hu; simp at hu; subst hu; rfl
        case c3 => unfold maxLen; omega
        case c4 => omega
        case c5 => simp; omega
        · intro v' w3 hown' hgrow _
          have hnx' : Below w.heap.size w w3 := (HNX.out.alloc hs1 _).grown hgrow (by simp; omega) (fun g hg => (hown2.lt g hg).1)
          have HO : Hid (w3.ownsRow w.heap.size 9 1 v' (ms.take (k + 1)).length ((ms.take (k + 1)).map Value.string)) := by
            show w3.ownsRow _ _ _ _ _ _
            rw [HM1.out, List.length_append, List.map_append]
            simpa using hown'
          clear hgrow hown2 hown'
          go_wp2
          go_roundw
          case rel => exact ⟨k + 1, by omega, by go_num, HO.out, hnx'⟩
          case measure => simp [intOf]; omega
    · have hfull : ms.take k = ms := List.take_of_length_le (by have := HML.out; omega)
      rw [hfull] at hown
      have cP := putR_any _ ms wr (strs_own hown) (by have := HML.out; omega) (by rw [← HRES.out]; exact HLE.out)
      rw [← HRES.out] at cP
      clear hfull hown
      go_wp2_with fail
      refine cP.mono ?_
      rintro e w2 ⟨rfl, hb2⟩
      go_wp2
      go_ret
      exact ⟨rfl, hnx.trans (hb2.mono hnx.size)⟩
end Go.Proofs.YtjaojfaedikkeaaDoor
