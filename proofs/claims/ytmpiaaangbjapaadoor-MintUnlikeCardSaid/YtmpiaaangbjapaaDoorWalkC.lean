/- Contracts of package path: Join, Norm. -/
import Derived.Test.YtmpiaaangbjapaaDoorWalkB
import Derived.Room.Shelf.Join48
namespace Go.Proofs.YtmpiaaangbjapaaDoor
open Go.RowKit

/-- A slice of texts that can be read in a world. -/
def IsStrs (w : World) (v : Value) (xs : List ByteArray) : Prop :=
  ∃ a c, v = .slice a xs.length c ∧ xs.length ≤ c ∧ c ≤ maxLen ∧ (xs ≠ [] → ∃ b o, a = some ⟨b, o, none⟩ ∧ b < w.heap.size ∧ ∀ (j : Nat) x, xs[j]? = some x → w.cell? ⟨b, o + j, none⟩ = some (.string x))

theorem info_str : (Tryd.prog.info? 9).map (fun i => (i.zero, i.size, i.bytes)) = some (some (.string ByteArray.empty), 1, 16) := by kernel_rfl

theorem cell_lt {w : World} {a : Addr} {v : Value} (h : w.cell? a = some v) : a.block < w.heap.size := by
  rcases Nat.lt_or_ge a.block w.heap.size with h' | h'
  · exact h'
  · simp [World.cell?, Array.getElem?_eq_none h'] at h

theorem strs_own {w : World} {B : Nat} {v : Value} {xs : List ByteArray} (h : w.ownsRow B 9 1 v xs.length (xs.map Value.string)) : IsStrs w v xs := by
  rcases h with ⟨_, ⟨rfl, h0⟩ | ⟨g, cap, cur, rfl, hB, hb, hn, hm, hs, ht⟩⟩
  · obtain rfl : xs = [] := List.eq_nil_of_length_eq_zero h0
    exact ⟨none, 0, rfl, by simp, by simp [maxLen], fun h => absurd rfl h⟩
  · refine ⟨_, cap, rfl, hn, hm, fun _ => ⟨g, 0, rfl, ?_, fun j x hx => ?_⟩⟩
    · rcases Nat.lt_or_ge g w.heap.size with h' | h'
      · exact h'
      · rw [Array.getElem?_eq_none h'] at hb; cases hb
    · have : (cur.toList.take (xs.length * 1))[j]? = some (.string x) := by rw [ht]; simp [hx]
      rw [List.getElem?_take] at this
      split at this
      · simp only [World.cell?, hb, Nat.zero_add]
        simpa using this
      · cases this

theorem IsStrs.below {w w' : World} {v : Value} {xs : List ByteArray} (h : IsStrs w v xs) (hb : Below w.heap.size w w') : IsStrs w' v xs := by
  obtain ⟨a, c, rfl, h1, h1m, h2⟩ := h
  refine ⟨a, c, rfl, h1, h1m, fun hne => ?_⟩
  obtain ⟨b, o, rfl, h3, h4⟩ := h2 hne
  exact ⟨b, o, rfl, Nat.lt_of_lt_of_le h3 hb.size, fun j x hx => (hb.cell h3).trans (h4 j x hx)⟩

theorem join_c (v : Value) (xs : List ByteArray) (sep : ByteArray) (w : World) (h : IsStrs w v xs) (hN : xs.length ≤ 140737488355328)
    (hlen : (Lib.join (xs.map (·.data.toList)) sep.data.toList).length ≤ 281474976710656) :
    Calls Tryd.prog 30 #[v, .string sep] w fun e w' => e = .returned (.string ⟨(Lib.join (xs.map (·.data.toList)) sep.data.toList).toArray⟩) ∧ Below w.heap.size w w' := by
  obtain ⟨a, c, rfl, h1, h1m, h2⟩ := h
  cases xs with
  | nil => exact (Any.strings_Join_none lLays_n156 lExtra a c sep w).mono fun e w' ⟨he, hw⟩ => ⟨he, hw ▸ Below.refl _ _⟩
  | cons y r =>
    obtain ⟨b, o, rfl, h3, h4⟩ := h2 (by simp)
    exact Any.strings_Join_48 lLays_n156 lExtra b o c (y :: r) sep w h4 h3 hN h1 hlen

/-- The parts that are not empty, in their order. -/
def nonE (ls : List (List UInt8)) : List (List UInt8) := ls.filter fun l => !l.isEmpty
def nonB (xs : List ByteArray) : List ByteArray := xs.filter fun x => !x.data.toList.isEmpty
theorem nonB_data (xs : List ByteArray) : (nonB xs).map (·.data.toList) = nonE (xs.map (·.data.toList)) := by
  simp only [nonB, nonE, List.filter_map]; rfl
theorem nonB_len (xs : List ByteArray) : (nonB xs).length ≤ xs.length := List.length_filter_le _ _
theorem nonB_yes (xs : List ByteArray) (k : Nat) (x : ByteArray) (h : xs[k]? = some x) (hx : x.toList ≠ []) : nonB (xs.take (k + 1)) = nonB (xs.take k) ++ [x] := by
  rw [Lib.toList_data] at hx
  rw [nonB, List.take_add_one, h, List.filter_append]
  simp only [Option.toList_some, List.filter_cons, List.filter_nil, List.isEmpty_eq_false_iff.2 hx]; rfl
theorem nonB_no (xs : List ByteArray) (k : Nat) (x : ByteArray) (h : xs[k]? = some x) (hx : x.toList = []) : nonB (xs.take (k + 1)) = nonB (xs.take k) := by
  rw [Lib.toList_data] at hx
  have e : (!x.data.toList.isEmpty) = false := by rw [hx]; rfl
  rw [nonB, List.take_add_one, h, List.filter_append]
  simp only [Option.toList_some, List.filter_cons, List.filter_nil, e, nonB]
  simp

/-- What Join tells of a list of texts. -/
def joinS (ls : List (List UInt8)) : List UInt8 := Lib.join (nonE ls) [47]

set_option maxHeartbeats 2000000 in
theorem join_any (v : Value) (xs : List ByteArray) (w : World) (h : IsStrs w v xs) (hN : xs.length ≤ 8796093022208)
    (hlen : (joinS (xs.map (·.data.toList))).length ≤ 281474976710656) :
    Calls Tryd.prog 13 #[v] w fun e w' => e = .returned (.string ⟨(joinS (xs.map (·.data.toList))).toArray⟩) ∧ Below w.heap.size w w' := by
  obtain ⟨a, c, rfl, h1, h1m, h2⟩ := h
  obtain ⟨i0, hi, hz0, hz1, hz2⟩ := info_parts info_str
  have hcells : ∀ (k : Nat) x, xs[k]? = some x → ∃ b o, a = some ⟨b, o, none⟩ ∧ b < w.heap.size ∧ w.cell? ⟨b, o + k, none⟩ = some (.string x) := by
    intro k x hx
    obtain ⟨b, o, ha, hb, hc⟩ := h2 (by rintro rfl; simp at hx)
    exact ⟨b, o, ha, hb, hc k x hx⟩
  have HC := Lib.hid hcells
  clear hcells h2
  have hfin : ∀ w1 : World, ∀ v', IsStrs w1 v' (nonB xs) → Calls Tryd.prog 30 #[v', .string slashB] w1 fun e w' => e = .returned (.string ⟨(joinS (xs.map (·.data.toList))).toArray⟩) ∧ Below w1.heap.size w1 w' := by
    intro w1 v' hv
    have hj : Lib.join ((nonB xs).map (·.data.toList)) slashB.data.toList = joinS (xs.map (·.data.toList)) := by rw [nonB_data]; rfl
    have := join_c v' (nonB xs) slashB w1 hv (by have := nonB_len xs; omega) (by rw [hj]; exact hlen)
    rw [hj] at this
    exact this
  have HF := Lib.hid hfin
  clear hfin hlen
  unfold maxLen at h1m
  generalize (joinS (xs.map (·.data.toList))) = res at *
  go_enter Tryd.func13, Tryd.ntmps13
  go_wp2
  go_loopw [3, 8] (fun v i wr => ∃ k : Nat, k ≤ xs.length ∧ i = .int .i64 k ∧ wr.ownsRow w.heap.size 9 1 v (nonB (xs.take k)).length ((nonB (xs.take k)).map Value.string) ∧ Below w.heap.size w wr)
    (fun _ i _ => xs.length - (intOf i).toNat)
  case atStart => exact ⟨0, Nat.zero_le _, rfl, World.ownsRow_nil _ _ _ _, Below.refl _ _⟩
  case round =>
    obtain ⟨k, hk, rfl, hown, hnx⟩ := hrel
    by_cases hlt : k < xs.length
    · obtain ⟨x, hx⟩ : ∃ x, xs[k]? = some x := ⟨xs[k], List.getElem?_eq_getElem hlt⟩
      obtain ⟨b, o, ha, hb, hc⟩ := HC.out k x hx
      subst ha
      have hcx : wr.cell? ⟨b, o + k, none⟩ = some (.string x) := (hnx.cell (by exact hb)).trans hc
      by_cases hne : x.toList = []
      · have HS := Lib.hid (nonB_no xs k x hx hne)
        clear hx hc
        go_wp2
        go_roundw
        case rel => exact ⟨k + 1, by omega, by go_num, by rw [HS.out]; exact hown, hnx⟩
        case measure => simp [intOf]; omega
      · have HS := Lib.hid (nonB_yes xs k x hx hne)
        have hKl := nonB_len (xs.take k)
        have hkl : (xs.take k).length ≤ k := List.length_take_le _ _
        clear hx hc
        have hne' : (x.toList.isEmpty) = false := List.isEmpty_eq_false_iff.2 hne
        go_wp2_with (at_builtin; refine wpList_append_own _ rfl _ _ 28 rfl w.heap.size 9 i0 (.string ByteArray.empty) 1 16 Tryd.underlying28 hi hz0 hz1 hz2 rfl (by decide) _ _ _ rfl (hown.alloc _) ⟨wr.heap.size, 0, none⟩ 1 1 [.string x] rfl rfl ?c1 ?c2 ?c3 ?c4 ?c5 ?_)
        case c1 =>
          intro j u hj
          match j, hj with
          | 0, hj => simp at hj; subst hj; simp [Addr.add]
        case c2 => intro u hu; simp at hu; subst hu; rfl
        case c3 => unfold maxLen; omega
        case c4 => omega
        case c5 => have := hnx.size; simp; omega
        · intro v' w1 hown' hgrow _
          have hnx' : Below w.heap.size w w1 := (hnx.alloc hnx.size _).grown hgrow (by have := hnx.size; simp; omega) (fun g hg => (hown.lt g hg).1)
          clear hgrow hown hcx
          go_wp2
          go_roundw
          case rel => exact ⟨k + 1, by omega, by go_num, by rw [HS.out, List.length_append, List.map_append]; exact hown', hnx'⟩
          case measure => simp [intOf]; omega
    · have hfull : xs.take k = xs := List.take_of_length_le (by omega)
      rw [hfull] at hown
      clear hfull
      have hS := strs_own hown
      have cJ := HF.out wr _ hS
      clear hS hown
      go_wp2_with (go_at_call 30; refine cJ.mono ?_; rintro e w' ⟨rfl, hb'⟩)
      go_ret
      exact ⟨rfl, hnx.trans (hb'.mono hnx.size)⟩
end Go.Proofs.YtmpiaaangbjapaaDoor
