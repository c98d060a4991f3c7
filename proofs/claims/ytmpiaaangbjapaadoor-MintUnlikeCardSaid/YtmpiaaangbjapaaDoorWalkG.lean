/- Contracts of package mint: markVal, Vals. -/
import Derived.Test.YtmpiaaangbjapaaDoorWalkF
namespace Go.Proofs.YtmpiaaangbjapaaDoor
open Go.RowKit

/-- One value as Vals marks it. -/
def markS (v : Bool × List UInt8) : List UInt8 := if v.1 then 43 :: v.2 else [45]

theorem markVal_any (ok : Bool) (s : ByteArray) (hs : s.size ≤ 140737488351232) (w : World) :
    Calls Tryd.prog 32 #[.agg #[.bool ok, .string s]] w fun e w' => e = .returned (.string ⟨(markS (ok, s.data.toList)).toArray⟩) ∧ Below w.heap.size w w' := by
  cases ok
  · go_enter Tryd.func32, Tryd.ntmps32
    go_wp2
    go_ret
    exact ⟨rfl, (Below.refl _ _).alloc (Nat.le_refl _) _⟩
  · go_enter Tryd.func32, Tryd.ntmps32
    go_wp2
    go_ret
    exact ⟨ret_str (by apply ByteArray.ext; simp [markS]), (Below.refl _ _).alloc (Nat.le_refl _) _⟩

/-- A slice of values that can be read in a world. -/
def IsVals (w : World) (v : Value) (vs : List (Bool × ByteArray)) : Prop :=
  ∃ a c, v = .slice a vs.length c ∧ vs.length ≤ c ∧ c ≤ maxLen ∧ (vs ≠ [] → ∃ b o, a = some ⟨b, o, none⟩ ∧ b < w.heap.size ∧ ∀ (j : Nat) x, vs[j]? = some x → w.cell? ⟨b, o + j * 2, none⟩ = some (.bool x.1) ∧ w.cell? ⟨b, o + j * 2 + 1, none⟩ = some (.string x.2))

set_option maxHeartbeats 2000000 in
theorem vals_any (v : Value) (vs : List (Bool × ByteArray)) (w : World) (h : IsVals w v vs) (hN : vs.length ≤ 1048576) (hg : Glob w)
    (hsz : ∀ x ∈ vs, x.2.size ≤ 140737488351232)
    (hlen : (putS (vs.map fun x => markS (x.1, x.2.data.toList))).length ≤ 140737488355328) :
    Calls Tryd.prog 15 #[v] w fun e w' => e = .returned (.string ⟨(putS (vs.map fun x => markS (x.1, x.2.data.toList))).toArray⟩) ∧ Below w.heap.size w w' := by
  obtain ⟨a, c, rfl, h1, h1m, h2⟩ := h
  obtain ⟨i0, hi, hz0, hz1, hz2⟩ := info_parts info_str
  have hcells : ∀ (k : Nat) x, vs[k]? = some x → ∃ b o, a = some ⟨b, o, none⟩ ∧ b < w.heap.size ∧ w.cell? ⟨b, o + k * 2, none⟩ = some (.bool x.1) ∧ w.cell? ⟨b, o + k * 2 + 1, none⟩ = some (.string x.2) := by
    intro k x hx
    obtain ⟨b, o, ha, hb, hc⟩ := h2 (by rintro rfl; simp at hx)
    exact ⟨b, o, ha, hb, hc k x hx⟩
  have HC := Lib.hid hcells
  have HG := Lib.hid hg
  have HLE := Lib.hid hlen
  have HSZ := Lib.hid hsz
  clear hcells h2 hg hlen hsz
  obtain ⟨ms, hms⟩ : ∃ ms : List ByteArray, ms = vs.map fun x => ⟨(markS (x.1, x.2.data.toList)).toArray⟩ := ⟨_, rfl⟩
  have hmd : ms.map (·.data.toList) = vs.map fun x => markS (x.1, x.2.data.toList) := by rw [hms, List.map_map]; apply List.map_congr_left; intro x _; simp
  have HMS := Lib.hid hms
  have HMD := Lib.hid hmd
  have hml : ms.length = vs.length := by rw [hms]; simp
  have HML := Lib.hid hml
  obtain ⟨res, hres⟩ : ∃ res, res = putS (vs.map fun x => markS (x.1, x.2.data.toList)) := ⟨_, rfl⟩
  rw [← hres]
  have HRES := Lib.hid hres
  clear hres hms hmd hml
  unfold maxLen at h1m
  go_enter Tryd.func15, Tryd.ntmps15
  go_wp2_with (at_make; refine wpList_make_own _ rfl _ _ 28 rfl w.heap.size 9 i0 (.string ByteArray.empty) 1 Tryd.underlying28 hi hz0 hz1 _ _ _ vs.length rfl rfl rfl ?m1 ?m2 ?m3 ?_)
  case m1 => rw [hz2]; omega
  case m2 => unfold maxLen; omega
  case m3 => exact Nat.le_refl _
  intro w1 hown1 hgrow1
  have hnx1 : Below w.heap.size w w1 := (Below.refl _ _).grown hgrow1 (Nat.le_refl _) (by simp)
  clear hgrow1
  have hown0 : w1.ownsRow w.heap.size 9 1 (.slice (some ⟨w.heap.size, 0, none⟩) 0 vs.length) (ms.take 0).length ((ms.take 0).map Value.string) := by simpa using hown1
  clear hown1
  go_wp2
  go_loopw [3, 11] (fun v i wr => ∃ k : Nat, k ≤ vs.length ∧ i = .int .i64 k ∧ wr.ownsRow w.heap.size 9 1 v (ms.take k).length ((ms.take k).map Value.string) ∧ Below w.heap.size w wr)
    (fun _ i _ => vs.length - (intOf i).toNat)
  case atStart => exact ⟨0, Nat.zero_le _, rfl, hown0, hnx1⟩
  case round =>
    obtain ⟨k, hk, rfl, hown, hnx⟩ := hrel
    clear hown0
    by_cases hlt : k < vs.length
    · obtain ⟨x, hx⟩ : ∃ x, vs[k]? = some x := ⟨vs[k], List.getElem?_eq_getElem hlt⟩
      obtain ⟨b, o, ha, hb, hc0, hc1⟩ := HC.out k x hx
      subst ha
      have hcx0 : wr.cell? ⟨b, o + k * 2, none⟩ = some (.bool x.1) := (hnx.cell (by exact hb)).trans hc0
      have hcx1 : wr.cell? ⟨b, o + k * 2 + 1, none⟩ = some (.string x.2) := (hnx.cell (by exact hb)).trans hc1
      have hxs := HSZ.out x (List.mem_of_getElem? hx)
      have hmk : ms[k]? = some ⟨(markS (x.1, x.2.data.toList)).toArray⟩ := by rw [HMS.out, List.getElem?_map, hx]; rfl
      have hms1 : (ms.take (k + 1)) = ms.take k ++ [⟨(markS (x.1, x.2.data.toList)).toArray⟩] := by rw [List.take_add_one, hmk]; rfl
      obtain ⟨mb, hmb⟩ : ∃ mb : ByteArray, mb = ⟨(markS (x.1, x.2.data.toList)).toArray⟩ := ⟨_, rfl⟩
      rw [← hmb] at hms1
      have cM := markVal_any x.1 x.2 hxs (wr.alloc (.cells #[.bool x.1, .string x.2] 41))
      rw [← hmb] at cM
      have HM1 := Lib.hid hms1
      have hkl : (ms.take k).length ≤ k := List.length_take_le _ _
      clear hmb hms1 hmk hc0 hc1 hx
      go_wp2_with fail
      refine cM.mono ?_
      rintro e w2 ⟨rfl, hb2⟩
      have hnx2 : Below w.heap.size w w2 := (hnx.alloc hnx.size _).trans (hb2.mono (by have := hnx.size; simp; omega))
      have hown2 : w2.ownsRow w.heap.size 9 1 _ (ms.take k).length ((ms.take k).map Value.string) := (hown.alloc (.cells #[.bool x.1, .string x.2] 41)).kept (row := none) ⟨hb2.os, hb2.tape, hb2.output, hb2.size, fun g hg _ => hb2.block g hg⟩ (by cases h : Value.ownBlock _ <;> simp)
      have hs2 := hnx2.size
      clear hb2 hown hcx0 hcx1 cM
      go_wp2_with (at_builtin; refine wpList_append_own _ rfl _ _ 28 rfl w.heap.size 9 i0 (.string ByteArray.empty) 1 16 Tryd.underlying28 hi hz0 hz1 hz2 rfl (by decide) _ _ _ rfl (hown2.alloc _) ⟨w2.heap.size, 0, none⟩ 1 1 [.string mb] rfl rfl ?c1 ?c2 ?c3 ?c4 ?c5 ?_)
      case c1 =>
        intro j u hj
        match j, hj with
        | 0, hj => simp at hj; subst hj; simp [Addr.add]
      case c2 => intro u hu; simp at hu; subst hu; rfl
      case c3 => unfold maxLen; omega
      case c4 => omega
      case c5 => simp; omega
      · intro v' w3 hown' hgrow _
        have hnx' : Below w.heap.size w w3 := (hnx2.alloc hs2 _).grown hgrow (by simp; omega) (fun g hg => (hown2.lt g hg).1)
        have HO : Hid (w3.ownsRow w.heap.size 9 1 v' (ms.take (k + 1)).length ((ms.take (k + 1)).map Value.string)) := by
          show w3.ownsRow _ _ _ _ _ _
          rw [HM1.out, List.length_append, List.map_append]
          simpa using hown'
        clear hgrow hown2 hown'
        go_wp2
        go_roundw
        case rel => exact ⟨k + 1, by omega, by go_num, HO.out, hnx'⟩
        case measure => simp [intOf]; omega
    · have hfull : ms.take k = ms := List.take_of_length_le (by have := HML.out; omega)
      rw [hfull] at hown
      have hS := strs_own hown
      have hpl : putS (ms.map (·.data.toList)) = res := by rw [HMD.out, HRES.out]
      have cP := put_any _ ms wr hS (by have := HML.out; omega) (HG.out.below hnx) (by rw [HMD.out]; exact HLE.out)
      rw [hpl] at cP
      clear hfull hown hpl hS
      go_wp2_with fail
      refine cP.mono ?_
      rintro e w2 ⟨rfl, hb2⟩
      go_wp2
      go_ret
      exact ⟨rfl, hnx.trans (hb2.mono hnx.size)⟩
end Go.Proofs.YtmpiaaangbjapaaDoor
