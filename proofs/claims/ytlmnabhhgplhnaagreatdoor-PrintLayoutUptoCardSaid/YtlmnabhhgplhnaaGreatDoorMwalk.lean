/- Contracts of Short and of package path's inner functions. Contracts of package path: Parts, May. Contracts of package path: Join, Norm. Contracts of package mint: Number, GetNumber, markVal. Contracts of package mint: Put, markVal, Vals. slices.Insert of one file into a row of files that the caller owns. Contract of package path: Norm. slices.Insert of one file: every way. Contracts of package tree: the comparison, the search, all, find. Contracts of package tree: all, find, Read, Len, Write. Contract of package tree: Write. Contracts of package tree: New, Len, Names, Key. Contract of package tree: Key. Contracts of package mint: cutPart, Get. Contract of package mint: Get. Contracts of package mint: markVal, Vals. What begun asks, at its own texts; a tree's Erase where there is no such file. Contract of begun: it answers true. append to a row of the call's own, as one step of a region that draws its order; what two trees and a row are to each other behind such steps. -/
import Derived.WalkKit
import Derived.WalkSpells
import Derived.WalkLawsBesides
import Derived.Deep.DeepFit
import Derived.Deep.DeepMust
import Derived.Deep.QuietTactic
import Derived.BigQuiet
import Derived.Lib.Hide
import Derived.Test.YtlmnabhhgplhnaaGreatDoorProg
import Derived.Test.YtlmnabhhgplhnaaGreatDoorMmath
import Derived.Test.YtlmnabhhgplhnaaGreatDoorLays
import Derived.Room.Shelf.Join48
import Derived.WalkSmall
import Derived.Shelf.Spec.SlicesInsert
import Derived.Lib.AppendZerosOnto
import Derived.Laws.CopyOwn
import Derived.ArgAppend
import Derived.Deep.AppendLies
import Derived.Deep.RegionHeld3
namespace Go.Proofs.YtlmnabhhgplhnaaGreatDoor
open Go.RowKit

theorem ret_str {a b : ByteArray} (h : a = b) : Ending.returned (.string a) = .returned (.string b) := by rw [h]
theorem ret_bool {a b : Bool} (h : a = b) : Ending.returned (.bool a) = .returned (.bool b) := by rw [h]
theorem ret_int {k : IntKind} {a b : Int} (h : a = b) : Ending.returned (.int k a) = .returned (.int k b) := by rw [h]

/-- Which bytes may stand in a name's part. -/
def okByte (c : UInt8) : Bool := decide ((97 ≤ c.toNat ∧ c.toNat ≤ 122) ∨ (65 ≤ c.toNat ∧ c.toNat ≤ 90) ∨ (48 ≤ c.toNat ∧ c.toNat ≤ 57) ∨ c.toNat = 46 ∨ c.toNat = 95 ∨ c.toNat = 45)

theorem mayByte_any (c : UInt8) (w : World) :
    Calls Tryz.prog 137 #[.int .u8 c.toNat] w fun e w' => e = .returned (.bool (okByte c)) ∧ w = w' := by
  have hb : c.toNat < 256 := c.toNat_lt
  go_enter Tryz.func137, Tryz.ntmps137
  go_wp2
  all_goals go_ret
  all_goals exact ⟨ret_bool (by rw [Bool.eq_iff_iff]; simp [okByte]; omega), rfl⟩

/-- The four words that are no names. -/
def isCl (l : List UInt8) : Bool := l == [114, 117, 108, 101] || l == [105, 110] || l == [111, 117, 116] || l == [97, 102, 116, 101, 114]

theorem isClause_any (s : ByteArray) (w : World) :
    Calls Tryz.prog 110 #[.string s] w fun e w' => e = .returned (.bool (isCl s.data.toList)) ∧ w = w' := by
  go_enter Tryz.func110, Tryz.ntmps110
  go_wp2
  all_goals go_ret
  all_goals exact ⟨ret_bool (by simp_all [isCl, Lib.toList_data]), rfl⟩

/-- A part of a name that may be. -/
def okPart (l : List UInt8) : Bool := l != [] && l != [46] && l != [46, 46] && l.all okByte

theorem take_all_succ (l : List UInt8) (p : UInt8 → Bool) (k : Nat) (h : k < l.length) : (l.take (k + 1)).all p = ((l.take k).all p && p l[k]) := by
  rw [List.take_succ_eq_append_getElem h, List.all_append]; simp
theorem all_false_of (l : List UInt8) (p : UInt8 → Bool) (k : Nat) (h : k < l.length) (hp : p l[k] = false) : l.all p = false := by
  rw [List.all_eq_false]; exact ⟨l[k], List.getElem_mem h, by simp [hp]⟩

theorem okPart_rest {l : List UInt8} (h : ¬ (l = [] ∨ l = [46] ∨ l = [46, 46])) : okPart l = l.all okByte := by
  simp only [not_or] at h
  simp [okPart, h]

set_option maxHeartbeats 1000000 in
theorem mayPart_any (s : ByteArray) (w : World) (hs : s.size ≤ maxLen) :
    Calls Tryz.prog 111 #[.string s] w fun e w' => e = .returned (.bool (okPart s.data.toList)) ∧ w = w' := by
  unfold maxLen at hs
  obtain ⟨r, hr⟩ : ∃ r, r = okPart s.data.toList := ⟨_, rfl⟩
  rw [← hr]
  by_cases h1 : s.toList = [] ∨ s.toList = [46] ∨ s.toList = [46, 46]
  · have hf : r = false := by
      rw [hr, ← Lib.toList_data]
      rcases h1 with h | h | h <;> simp [okPart, h]
    subst hf
    clear hr
    go_enter Tryz.func111, Tryz.ntmps111
    by_cases ha : s.toList = []
    · go_wp2
      go_ret
      exact ⟨rfl, rfl⟩
    · by_cases hb : s.toList = [46]
      · go_wp2
        go_ret
        exact ⟨rfl, rfl⟩
      · have hc : s.toList = [46, 46] := by rcases h1 with h | h | h <;> first | exact absurd h ha | exact absurd h hb | exact h
        clear h1
        go_wp2
        go_ret
        exact ⟨rfl, rfl⟩
  · have ha : s.toList.isEmpty = false := by rw [Bool.eq_false_iff]; intro h; exact h1 (.inl (by simpa using h))
    have hb : (s.toList == [46]) = false := by rw [Bool.eq_false_iff]; intro h; exact h1 (.inr (.inl (by simpa using h)))
    have hc : (s.toList == [46, 46]) = false := by rw [Bool.eq_false_iff]; intro h; exact h1 (.inr (.inr (by simpa using h)))
    have HR := Lib.hid (hr.trans (okPart_rest (l := s.data.toList) (by rw [← Lib.toList_data]; exact h1)))
    clear hr h1
    go_enter Tryz.func111, Tryz.ntmps111
    go_wp2
    go_loop [16] (fun i => ∃ k : Nat, k ≤ s.size ∧ i = .int .i64 k ∧ (s.data.toList.take k).all okByte = true) (fun i => s.size - (intOf i).toNat)
    case atStart => exact ⟨0, by omega, rfl, by simp⟩
    case round =>
      obtain ⟨k, hk, rfl, hr⟩ := hrel
      have HK := Lib.hid hr
      clear hr
      by_cases hlt : k < s.size
      · have hlt' : k < s.data.toList.length := by rw [← Lib.size_eq]; exact hlt
        have hsucc := Lib.hid (take_all_succ s.data.toList okByte k hlt')
        have hfalse := Lib.hid (all_false_of s.data.toList okByte k hlt')
        have hget := Lib.hid (show s[k] = s.data.toList[k] from rfl)
        go_wp2_with (go_at_call 137; refine (mayByte_any _ _).mono ?_; rintro e w' ⟨rfl, rfl⟩)
        · go_ret
          exact ⟨ret_bool (by rw [HR.out, hfalse.out]; rw [← hget.out]; simp_all), rfl⟩
        · go_round
          case rel => exact ⟨k + 1, by omega, by go_num, by rw [hsucc.out, HK.out, ← hget.out]; simp_all⟩
          case measure => simp [intOf]; omega
      · go_wp2
        go_ret
        exact ⟨ret_bool (by have := HK.out; rw [List.take_of_length_le (by rw [← Lib.size_eq]; omega)] at this; rw [HR.out, this]), rfl⟩
end Go.Proofs.YtlmnabhhgplhnaaGreatDoor
namespace Go.Proofs.YtlmnabhhgplhnaaGreatDoor
open Go.RowKit

def slashB : ByteArray := ⟨#[47]⟩

theorem split_c (s sep : ByteArray) (m : Int) (w : World) (hs : s.size < 4294967281) (hm : w.cell? ⟨1, 0, none⟩ = some (.int .i64 m)) (h1 : 1 ≤ sep.size) :
    Calls Tryz.prog 112 #[.string s, .string sep] w fun e w' =>
      e = .returned (.slice (some ⟨w.heap.size, 0, none⟩) (Lib.countB s sep + 1) (Lib.countB s sep + 1)) ∧ w' = w.alloc (.cells ((Lib.splitB sep 0 (Lib.countB s sep) s).map Value.string).toArray 9) :=
  Any.strings_Split lLays_n146 (by kernel_rfl) s sep m w hs hm h1

theorem parts_any (s : ByteArray) (m : Int) (w : World) (hs : s.size < 4294967281) (hm : w.cell? ⟨1, 0, none⟩ = some (.int .i64 m)) :
    Calls Tryz.prog 77 #[.string s] w fun e w' => ∃ xs : List ByteArray, xs.map (·.data.toList) = cutAt 47 s.data.toList ∧
      e = .returned (.slice (some ⟨w.heap.size, 0, none⟩) xs.length xs.length) ∧ w' = w.alloc (.cells (xs.map Value.string).toArray 9) := by
  have hc := split_c s slashB m w hs hm (by decide)
  have hl : (Lib.splitB slashB 0 (Lib.countB s slashB) s).map (·.data.toList) = cutAt 47 s.data.toList := split_bytes 47 s
  have hn : Lib.countB s slashB + 1 = (Lib.splitB slashB 0 (Lib.countB s slashB) s).length := by
    rw [← List.length_map (·.data.toList), hl]; exact split_count 47 s
  rw [hn] at hc
  generalize Lib.splitB slashB 0 (Lib.countB s slashB) s = xs at *
  clear hn
  have HL := Lib.hid hl
  clear hl
  go_enter Tryz.func77, Tryz.ntmps77
  go_wp2_with (go_at_call 112; refine hc.mono ?_; rintro e w' ⟨rfl, rfl⟩)
  go_ret
  exact ⟨xs, HL.out, rfl, rfl⟩

/-- Which texts are names. -/
def okName (l : List UInt8) : Bool := decide (l.length ≤ 40) && !isCl l && (cutAt 47 l).all okPart

theorem all_map_data (xs : List ByteArray) (p : List UInt8 → Bool) : (xs.map (·.data.toList)).all p = xs.all fun x => p x.data.toList := by
  rw [List.all_map]; rfl

theorem cell_strs (w : World) (xs : List ByteArray) (t : TypeId) (k : Nat) (x : ByteArray) (h : xs[k]? = some x) : (w.alloc (.cells (xs.map Value.string).toArray t)).cell? ⟨w.heap.size, k, none⟩ = some (.string x) := by
  rw [World.cell?_alloc_at _ _ _ _ rfl]; simp [h]

theorem all_take_succ {α : Type} (l : List α) (p : α → Bool) (k : Nat) (x : α) (h : l[k]? = some x) : (l.take (k + 1)).all p = ((l.take k).all p && p x) := by
  rw [List.take_add_one, h, List.all_append]; simp
theorem all_false_at {α : Type} (l : List α) (p : α → Bool) (k : Nat) (x : α) (h : l[k]? = some x) (hp : p x = false) : l.all p = false := by
  rw [List.all_eq_false]; exact ⟨x, List.mem_of_getElem? h, by simp [hp]⟩

set_option maxHeartbeats 1000000 in
theorem may_any (s : ByteArray) (m : Int) (w : World) (hs : s.size ≤ maxLen) (hm : w.cell? ⟨1, 0, none⟩ = some (.int .i64 m)) :
    Calls Tryz.prog 75 #[.string s] w fun e w' => e = .returned (.bool (okName s.data.toList)) ∧ Below w.heap.size w w' := by
  unfold maxLen at hs
  obtain ⟨r, hr⟩ : ∃ r, r = okName s.data.toList := ⟨_, rfl⟩
  rw [← hr]
  have HR := Lib.hid hr
  clear hr
  have hsz := Lib.hid (Lib.size_eq s)
  by_cases h40 : s.size ≤ 40
  · obtain ⟨c, hc⟩ : ∃ c, isCl s.data.toList = c := ⟨_, rfl⟩
    have cC := isClause_any s w
    rw [hc] at cC
    have HC := Lib.hid hc
    clear hc
    go_enter Tryz.func75, Tryz.ntmps75
    cases c
    · go_wp2_with (first
        | (go_at_call 110; refine cC.mono ?_; rintro e w' ⟨rfl, rfl⟩)
        | (go_at_call 77; refine (parts_any s m w (by omega) hm).mono ?_; rintro e w' ⟨xs, hx, rfl, rfl⟩; have HX := Lib.hid hx; clear hx))
      have hlen := congrArg List.length HX.out
      rw [List.length_map] at hlen
      have hcl := cutAt_length_le 47 s.data.toList
      rw [← hlen, ← hsz.out] at hcl
      have hsm : ∀ (k : Nat) x, xs[k]? = some x → x.size ≤ 40 := by
        intro k x hx
        have h1 : x.data.toList ∈ cutAt 47 s.data.toList := by rw [← HX.out]; exact List.mem_map_of_mem (List.mem_of_getElem? hx)
        have h2 := cutAt_len 47 s.data.toList _ h1
        rw [← hsz.out] at h2
        rw [Lib.size_eq x]; omega
      have HSM := Lib.hid hsm
      clear hsm hlen
      have HR' : Hid (r = (xs.all fun x => okPart x.data.toList)) := by
        show r = _
        rw [HR.out, okName, HC.out, ← HX.out, all_map_data, decide_eq_true (by rw [← hsz.out]; exact h40)]; rfl
      go_loop [15] (fun i => ∃ k : Nat, k ≤ xs.length ∧ i = .int .i64 k ∧ ((xs.take k).all fun x => okPart x.data.toList) = true) (fun i => xs.length - (intOf i).toNat)
      case atStart => exact ⟨0, by omega, rfl, by simp⟩
      case round =>
        obtain ⟨k, hk, rfl, hr⟩ := hrel
        have HK := Lib.hid hr
        clear hr
        by_cases hlt : k < xs.length
        · obtain ⟨x, hx⟩ : ∃ x, xs[k]? = some x := ⟨xs[k], List.getElem?_eq_getElem hlt⟩
          have hcell := cell_strs w xs 9 k x hx
          have hxs := HSM.out k x hx
          have HA := Lib.hid (all_take_succ xs (fun x => okPart x.data.toList) k x hx)
          have HB := Lib.hid (all_false_at xs (fun x => okPart x.data.toList) k x hx)
          obtain ⟨b, hb⟩ : ∃ b, okPart x.data.toList = b := ⟨_, rfl⟩
          have cP := mayPart_any x (w.alloc (.cells (xs.map Value.string).toArray 9)) (by unfold maxLen; omega)
          rw [hb] at cP
          have HBV := Lib.hid hb
          clear hb hx
          cases b
          · go_wp2_with (go_at_call 111; refine cP.mono ?_; rintro e w' ⟨rfl, rfl⟩)
            go_ret
            exact ⟨ret_bool (by rw [HR'.out, HB.out HBV.out]), (Below.refl _ _).alloc (Nat.le_refl _) _⟩
          · go_wp2_with (go_at_call 111; refine cP.mono ?_; rintro e w' ⟨rfl, rfl⟩)
            go_round
            case rel => exact ⟨k + 1, by omega, by go_num, by rw [HA.out, HK.out, HBV.out]; rfl⟩
            case measure => simp [intOf]; omega
        · go_wp2
          go_ret
          exact ⟨ret_bool (by have := HK.out; rw [List.take_of_length_le (by omega)] at this; rw [HR'.out, this]), (Below.refl _ _).alloc (Nat.le_refl _) _⟩
    · go_wp2_with (first
        | (go_at_call 110; refine cC.mono ?_; rintro e w' ⟨rfl, rfl⟩))
      go_ret
      exact ⟨ret_bool (by rw [HR.out, okName, HC.out]; simp), Below.refl _ _⟩
  · go_enter Tryz.func75, Tryz.ntmps75
    go_wp2
    go_ret
    exact ⟨ret_bool (by rw [HR.out, okName, decide_eq_false (by rw [← hsz.out]; exact h40)]; simp), Below.refl _ _⟩
end Go.Proofs.YtlmnabhhgplhnaaGreatDoor
namespace Go.Proofs.YtlmnabhhgplhnaaGreatDoor
open Go.RowKit

/-- A slice of texts that can be read in a world. -/
def IsStrs (w : World) (v : Value) (xs : List ByteArray) : Prop :=
  ∃ a c, v = .slice a xs.length c ∧ xs.length ≤ c ∧ c ≤ maxLen ∧ (xs ≠ [] → ∃ b o, a = some ⟨b, o, none⟩ ∧ b < w.heap.size ∧ ∀ (j : Nat) x, xs[j]? = some x → w.cell? ⟨b, o + j, none⟩ = some (.string x))

theorem info_str : (Tryz.prog.info? 9).map (fun i => (i.zero, i.size, i.bytes)) = some (some (.string ByteArray.empty), 1, 16) := by kernel_rfl

theorem cell_lt {w : World} {a : Addr} {v : Value} (h : w.cell? a = some v) : a.block < w.heap.size := by
  rcases Nat.lt_or_ge a.block w.heap.size with h' | h'
  · exact h'
  · simp [World.cell?, Array.getElem?_eq_none h'] at h

theorem strs_own {w : World} {B : Nat} {v : Value} {xs : List ByteArray} (h : w.ownsRow B 9 1 v xs.length (xs.map Value.string)) : IsStrs w v xs := by
  rcases h with ⟨_, ⟨rfl, h0⟩ | ⟨g, cap, cur, rfl, hB, hb, hn, hm, hs, ht⟩⟩
  · obtain rfl : xs = [] := List.eq_nil_of_length_eq_zero h0
    exact ⟨none, 0, rfl, by simp, by simp [maxLen], fun h => absurd rfl h⟩
  · refine ⟨_, cap, rfl, hn, hm, fun _ => ⟨g, 0, rfl, ?_, fun j x hx => ?_⟩⟩
    · rcases Nat.lt_or_ge g w.heap.size with h' | h'
      · exact h'
      · rw [Array.getElem?_eq_none h'] at hb; cases hb
    · have : (cur.toList.take (xs.length * 1))[j]? = some (.string x) := by rw [ht]; simp [hx]
      rw [List.getElem?_take] at this
      split at this
      · simp only [World.cell?, hb, Nat.zero_add]
        simpa using this
      · cases this

theorem IsStrs.below {w w' : World} {v : Value} {xs : List ByteArray} (h : IsStrs w v xs) (hb : Below w.heap.size w w') : IsStrs w' v xs := by
  obtain ⟨a, c, rfl, h1, h1m, h2⟩ := h
  refine ⟨a, c, rfl, h1, h1m, fun hne => ?_⟩
  obtain ⟨b, o, rfl, h3, h4⟩ := h2 hne
  exact ⟨b, o, rfl, Nat.lt_of_lt_of_le h3 hb.size, fun j x hx => (hb.cell h3).trans (h4 j x hx)⟩

theorem join_c (v : Value) (xs : List ByteArray) (sep : ByteArray) (w : World) (h : IsStrs w v xs) (hN : xs.length ≤ 140737488355328)
    (hlen : (Lib.join (xs.map (·.data.toList)) sep.data.toList).length ≤ 281474976710656) :
    Calls Tryz.prog 50 #[v, .string sep] w fun e w' => e = .returned (.string ⟨(Lib.join (xs.map (·.data.toList)) sep.data.toList).toArray⟩) ∧ Below w.heap.size w w' := by
  obtain ⟨a, c, rfl, h1, h1m, h2⟩ := h
  cases xs with
  | nil => exact (Any.strings_Join_none lLays_n156 lExtra a c sep w).mono fun e w' ⟨he, hw⟩ => ⟨he, hw ▸ Below.refl _ _⟩
  | cons y r =>
    obtain ⟨b, o, rfl, h3, h4⟩ := h2 (by simp)
    exact Any.strings_Join_48 lLays_n156 lExtra b o c (y :: r) sep w h4 h3 hN h1 hlen

/-- The parts that are not empty, in their order. -/
def nonE (ls : List (List UInt8)) : List (List UInt8) := ls.filter fun l => !l.isEmpty
def nonB (xs : List ByteArray) : List ByteArray := xs.filter fun x => !x.data.toList.isEmpty
theorem nonB_data (xs : List ByteArray) : (nonB xs).map (·.data.toList) = nonE (xs.map (·.data.toList)) := by
  simp only [nonB, nonE, List.filter_map]; rfl
theorem nonB_len (xs : List ByteArray) : (nonB xs).length ≤ xs.length := List.length_filter_le _ _
theorem nonB_yes (xs : List ByteArray) (k : Nat) (x : ByteArray) (h : xs[k]? = some x) (hx : x.toList ≠ []) : nonB (xs.take (k + 1)) = nonB (xs.take k) ++ [x] := by
  rw [Lib.toList_data] at hx
  rw [nonB, List.take_add_one, h, List.filter_append]
  simp only [Option.toList_some, List.filter_cons, List.filter_nil, List.isEmpty_eq_false_iff.2 hx]; rfl
theorem nonB_no (xs : List ByteArray) (k : Nat) (x : ByteArray) (h : xs[k]? = some x) (hx : x.toList = []) : nonB (xs.take (k + 1)) = nonB (xs.take k) := by
  rw [Lib.toList_data] at hx
  have e : (!x.data.toList.isEmpty) = false := by rw [hx]; rfl
  rw [nonB, List.take_add_one, h, List.filter_append]
  simp only [Option.toList_some, List.filter_cons, List.filter_nil, e, nonB]
  simp

/-- What Join tells of a list of texts. -/
def joinS (ls : List (List UInt8)) : List UInt8 := Lib.join (nonE ls) [47]

set_option maxHeartbeats 2000000 in
theorem join_any (v : Value) (xs : List ByteArray) (w : World) (h : IsStrs w v xs) (hN : xs.length ≤ 8796093022208)
    (hlen : (joinS (xs.map (·.data.toList))).length ≤ 281474976710656) :
    Calls Tryz.prog 76 #[v] w fun e w' => e = .returned (.string ⟨(joinS (xs.map (·.data.toList))).toArray⟩) ∧ Below w.heap.size w w' := by
  obtain ⟨a, c, rfl, h1, h1m, h2⟩ := h
  obtain ⟨i0, hi, hz0, hz1, hz2⟩ := info_parts info_str
  have hcells : ∀ (k : Nat) x, xs[k]? = some x → ∃ b o, a = some ⟨b, o, none⟩ ∧ b < w.heap.size ∧ w.cell? ⟨b, o + k, none⟩ = some (.string x) := by
    intro k x hx
    obtain ⟨b, o, ha, hb, hc⟩ := h2 (by rintro rfl; simp at hx)
    exact ⟨b, o, ha, hb, hc k x hx⟩
  have HC := Lib.hid hcells
  clear hcells h2
  have hfin : ∀ w1 : World, ∀ v', IsStrs w1 v' (nonB xs) → Calls Tryz.prog 50 #[v', .string slashB] w1 fun e w' => e = .returned (.string ⟨(joinS (xs.map (·.data.toList))).toArray⟩) ∧ Below w1.heap.size w1 w' := by
    intro w1 v' hv
    have hj : Lib.join ((nonB xs).map (·.data.toList)) slashB.data.toList = joinS (xs.map (·.data.toList)) := by rw [nonB_data]; rfl
    have := join_c v' (nonB xs) slashB w1 hv (by have := nonB_len xs; omega) (by rw [hj]; exact hlen)
    rw [hj] at this
    exact this
  have HF := Lib.hid hfin
  clear hfin hlen
  unfold maxLen at h1m
  generalize (joinS (xs.map (·.data.toList))) = res at *
  go_enter Tryz.func76, Tryz.ntmps76
  go_wp2
  go_loopw [3, 8] (fun v i wr => ∃ k : Nat, k ≤ xs.length ∧ i = .int .i64 k ∧ wr.ownsRow w.heap.size 9 1 v (nonB (xs.take k)).length ((nonB (xs.take k)).map Value.string) ∧ Below w.heap.size w wr)
    (fun _ i _ => xs.length - (intOf i).toNat)
  case atStart => exact ⟨0, Nat.zero_le _, rfl, World.ownsRow_nil _ _ _ _, Below.refl _ _⟩
  case round =>
    obtain ⟨k, hk, rfl, hown, hnx⟩ := hrel
    by_cases hlt : k < xs.length
    · obtain ⟨x, hx⟩ : ∃ x, xs[k]? = some x := ⟨xs[k], List.getElem?_eq_getElem hlt⟩
      obtain ⟨b, o, ha, hb, hc⟩ := HC.out k x hx
      subst ha
      have hcx : wr.cell? ⟨b, o + k, none⟩ = some (.string x) := (hnx.cell (by exact hb)).trans hc
      by_cases hne : x.toList = []
      · have HS := Lib.hid (nonB_no xs k x hx hne)
        clear hx hc
        go_wp2
        go_roundw
        case rel => exact ⟨k + 1, by omega, by go_num, by rw [HS.out]; exact hown, hnx⟩
        case measure => simp [intOf]; omega
      · have HS := Lib.hid (nonB_yes xs k x hx hne)
        have hKl := nonB_len (xs.take k)
        have hkl : (xs.take k).length ≤ k := List.length_take_le _ _
        clear hx hc
        have hne' : (x.toList.isEmpty) = false := List.isEmpty_eq_false_iff.2 hne
        go_wp2_with (at_builtin; refine wpList_append_own _ rfl _ _ 35 rfl w.heap.size 9 i0 (.string ByteArray.empty) 1 16 Tryz.underlying35 hi hz0 hz1 hz2 rfl (by decide) _ _ _ rfl (hown.alloc _) ⟨wr.heap.size, 0, none⟩ 1 1 [.string x] rfl rfl ?c1 ?c2 ?c3 ?c4 ?c5 ?_)
        case c1 =>
          intro j u hj
          match j, hj with
          | 0, hj => simp at hj; subst hj; simp [Addr.add]
        case c2 => intro u hu; simp at hu; subst hu; rfl
        case c3 => unfold maxLen; omega
        case c4 => omega
        case c5 => have := hnx.size; simp; omega
        · intro v' w1 hown' hgrow _
          have hnx' : Below w.heap.size w w1 := (hnx.alloc hnx.size _).grown hgrow (by have := hnx.size; simp; omega) (fun g hg => (hown.lt g hg).1)
          clear hgrow hown hcx
          go_wp2
          go_roundw
          case rel => exact ⟨k + 1, by omega, by go_num, by rw [HS.out, List.length_append, List.map_append]; exact hown', hnx'⟩
          case measure => simp [intOf]; omega
    · have hfull : xs.take k = xs := List.take_of_length_le (by omega)
      rw [hfull] at hown
      clear hfull
      have hS := strs_own hown
      have cJ := HF.out wr _ hS
      clear hS hown
      go_wp2_with (go_at_call 50; refine cJ.mono ?_; rintro e w' ⟨rfl, hb'⟩)
      go_ret
      exact ⟨rfl, hnx.trans (hb'.mono hnx.size)⟩
end Go.Proofs.YtlmnabhhgplhnaaGreatDoor
namespace Go.Proofs.YtlmnabhhgplhnaaGreatDoor
open Go.RowKit

def powName : String := "internal/strconv.uint64pow10"

/-- What a world holds in the package-level variables that the library reads. -/
structure Glob (w : World) : Prop where
  max : ∃ m, w.cell? ⟨1, 0, none⟩ = some (.int .i64 m)
  tab : Lib.TabIs Tryz.prog w powName .u64 Lib.pow10Tab
  top : 2 < w.heap.size
  es : ∃ tp p, w.cell? ⟨3, 0, none⟩ = some (.iface tp p)
  er : ∃ tp p, w.cell? ⟨4, 0, none⟩ = some (.iface tp p)

theorem Glob.below {w w' : World} (h : Glob w) (hb : Below w.heap.size w w') : Glob w' := by
  obtain ⟨⟨m, hm⟩, ht, htop, ⟨t1, p1, h1⟩, ⟨t2, p2, h2⟩⟩ := h
  exact ⟨⟨m, (hb.cell (cell_lt hm)).trans hm⟩, var?_below hb (by kernel_rfl) htop ht, Nat.lt_of_lt_of_le htop hb.size, ⟨t1, p1, (hb.cell (cell_lt h1)).trans h1⟩, ⟨t2, p2, (hb.cell (cell_lt h2)).trans h2⟩⟩

theorem below_grow (w : World) (k : Nat) (os : Array Obj) : Below w.heap.size w (Sort.grow (w.drewN k) os) := by
  refine (below_drewN (Below.refl w.heap.size w) k).trans ⟨rfl, rfl, rfl, by simp [Sort.grow], fun i hi => ?_⟩
  simp only [Sort.grow]
  rw [Array.getElem?_append_left (by simpa using hi)]

def numS (n : Int) : List UInt8 := Lib.itoa (max n 0)

theorem itoa_c (n : Int) (h0 : -9223372036854775808 ≤ n) (h1 : n ≤ 9223372036854775807) (w : World) (hg : Glob w) :
    Calls Tryz.prog 49 #[.int .i64 n] w fun e w' => e = .returned (.string ⟨(Lib.itoa n).toArray⟩) ∧ Below w.heap.size w w' := by
  refine (Any.strconv_Itoa lLaysM_n171 n h0 h1 w hg.tab).mono ?_
  rintro e w' ⟨rfl, k, os, rfl⟩
  exact ⟨rfl, below_grow w k os⟩

theorem number_any (n : Int) (h0 : -9223372036854775808 ≤ n) (h1 : n ≤ 9223372036854775807) (w : World) (hg : Glob w) :
    Calls Tryz.prog 107 #[.int .i64 n] w fun e w' => e = .returned (.string ⟨(numS n).toArray⟩) ∧ Below w.heap.size w w' := by
  have hc := itoa_c (max n 0) (by omega) (by omega) w hg
  go_enter Tryz.func107, Tryz.ntmps107
  go_wp2_with (go_at_call 49; refine hc.mono ?_; rintro e w' ⟨rfl, hb⟩)
  go_ret
  exact ⟨rfl, hb⟩

/-- What GetNumber tells. -/
def getNum (s : List UInt8) (most : Int) : Int × Bool :=
  match Lib.atoiAll s with
  | .ok v => if v ≤ most ∧ numS v = s then (v, true) else (0, false)
  | _ => (0, false)

theorem ret_num {a b : Int} {c d : Bool} (h : a = b) (h' : c = d) : Ending.returned (.tuple #[.int .i64 a, .bool c]) = .returned (.tuple #[.int .i64 b, .bool d]) := by rw [h, h']

theorem atoi_bounds {l : List UInt8} {v : Int} (h : Lib.atoiAll l = .ok v) : -9223372036854775808 ≤ v ∧ v ≤ 9223372036854775807 := by
  unfold Lib.atoiAll at h
  split at h
  · cases h
  · simp only at h
    split at h
    · cases h
    · cases h
    · split at h
      · cases h
      · split at h
        · cases h
        · simp only [Lib.NumEnd.ok.injEq] at h
          split at h <;> omega

theorem below_bytes {w w' : World} {e : TypeId} (h : w' = w ∨ ∃ t, w' = Lib.bytesWorld w e t) : Below w.heap.size w w' := by
  rcases h with rfl | ⟨t, rfl⟩
  · exact Below.refl _ _
  · exact ⟨rfl, rfl, rfl, by rw [Lib.bytesWorld_size]; omega, fun k hk => Lib.bytesWorld_at_old w e t k hk⟩

set_option maxHeartbeats 1000000 in
theorem getNumber_any (s : ByteArray) (most : Int) (hs : s.size ≤ 281474976710656) (w : World) (hg : Glob w) :
    Calls Tryz.prog 72 #[.string s, .int .i64 most] w fun e w' => e = .returned (.tuple #[.int .i64 (getNum s.data.toList most).1, .bool (getNum s.data.toList most).2]) ∧ Below w.heap.size w w' := by
  obtain ⟨r, hr⟩ : ∃ r, r = getNum s.data.toList most := ⟨_, rfl⟩
  rw [← hr]
  obtain ⟨r1, r2⟩ := r
  obtain ⟨⟨m, hm⟩, ht, htop, ⟨t1, p1, h1⟩, ⟨t2, p2, h2⟩⟩ := id hg
  rcases ha : Lib.atoiAll s.data.toList with v | _ | _
  rotate_left
  · have hc := Any.strconv_Atoi_syntax lLaysC_n172 s hs ha (.iface t1 p1) w h1 (.inr ⟨_, _, rfl⟩)
    have hrr : r1 = 0 ∧ r2 = false := by rw [getNum, ha] at hr; simpa using hr
    obtain ⟨rfl, rfl⟩ := hrr
    clear hr ha h1 h2 ht hm
    go_enter Tryz.func72, Tryz.ntmps72
    go_wp2_with fail
    refine hc.mono ?_
    rintro e w' ⟨N, rfl, hN, hNc, hb⟩
    go_wp2
    go_ret2
    exact ⟨rfl, hb⟩
  · have hc := Any.strconv_Atoi_range lLaysC_n172 s hs ha (.iface t2 p2) w h2 (.inr ⟨_, _, rfl⟩)
    have hrr : r1 = 0 ∧ r2 = false := by rw [getNum, ha] at hr; simpa using hr
    obtain ⟨rfl, rfl⟩ := hrr
    clear hr ha h1 h2 ht hm
    go_enter Tryz.func72, Tryz.ntmps72
    go_wp2_with fail
    refine hc.mono ?_
    rintro e w' ⟨N, rfl, hN, hNc, hb⟩
    go_wp2
    go_ret2
    exact ⟨rfl, hb⟩
  · have hc := Any.strconv_Atoi_ok lLaysC_n172 s (by omega) v ha w
    obtain ⟨hv0, hv1⟩ := atoi_bounds ha
    have hrr : (r1, r2) = if v ≤ most ∧ numS v = s.data.toList then (v, true) else (0, false) := by rw [hr, getNum, ha]
    clear hr ha
    by_cases h3 : v ≤ most
    · obtain ⟨nb, hnb⟩ : ∃ nb : ByteArray, nb = ⟨(numS v).toArray⟩ := ⟨_, rfl⟩
      have hnum := fun (w' : World) (hb : Below w.heap.size w w') => number_any v hv0 hv1 w' (hg.below hb)
      rw [← hnb] at hnum
      have HN := Lib.hid hnum
      clear hnum
      have hl : nb.toList = numS v := by rw [hnb, Lib.toList_data]
      by_cases h4 : nb.toList = s.toList
      · have h5 : numS v = s.data.toList := by rw [← hl, h4, Lib.toList_data]
        rw [if_pos ⟨h3, h5⟩] at hrr
        simp only [Prod.mk.injEq] at hrr
        obtain ⟨rfl, rfl⟩ := hrr
        have b1 : (nb.toList == s.toList) = true := by simpa using h4
        have b2 : (nb.toList != s.toList) = false := by simpa using h4
        clear h4 h5 hl hnb hm h1 h2 ht
        go_enter Tryz.func72, Tryz.ntmps72
        go_wp2_with fail
        refine hc.mono ?_
        rintro e w' ⟨rfl, hw⟩
        have hb := below_bytes hw
        have cN := HN.out w' hb
        clear hw
        go_wp2_with (go_at_call 107; refine cN.mono ?_; rintro e w2 ⟨rfl, hb2⟩)
        go_ret2
        exact ⟨rfl, hb.trans (hb2.mono hb.size)⟩
      · have h5 : ¬ numS v = s.data.toList := by rw [← hl, ← Lib.toList_data]; exact h4
        rw [if_neg (fun h => h5 h.2)] at hrr
        simp only [Prod.mk.injEq] at hrr
        obtain ⟨rfl, rfl⟩ := hrr
        have b1 : (nb.toList == s.toList) = false := by simpa using h4
        have b2 : (nb.toList != s.toList) = true := by simpa using h4
        clear h4 h5 hl hnb hm h1 h2 ht
        go_enter Tryz.func72, Tryz.ntmps72
        go_wp2_with fail
        refine hc.mono ?_
        rintro e w' ⟨rfl, hw⟩
        have hb := below_bytes hw
        have cN := HN.out w' hb
        clear hw
        go_wp2_with (go_at_call 107; refine cN.mono ?_; rintro e w2 ⟨rfl, hb2⟩)
        go_ret2
        exact ⟨rfl, hb.trans (hb2.mono hb.size)⟩
    · rw [if_neg (fun h => h3 h.1)] at hrr
      simp only [Prod.mk.injEq] at hrr
      obtain ⟨rfl, rfl⟩ := hrr
      have h3' : most < v := by omega
      clear hm h1 h2 ht h3
      go_enter Tryz.func72, Tryz.ntmps72
      go_wp2_with fail
      refine hc.mono ?_
      rintro e w' ⟨rfl, hw⟩
      have hb := below_bytes hw
      clear hw
      go_wp2
      go_ret2
      exact ⟨rfl, hb⟩
end Go.Proofs.YtlmnabhhgplhnaaGreatDoor
namespace Go.Proofs.YtlmnabhhgplhnaaGreatDoor
open Go.RowKit

/-- One part as Put writes it. -/
def partS (p : List UInt8) : List UInt8 := numS p.length ++ 58 :: p
/-- What Put tells of parts. -/
def putS (ls : List (List UInt8)) : List UInt8 := (ls.map partS).flatten

theorem putS_cons (p : List UInt8) (ls : List (List UInt8)) : putS (p :: ls) = partS p ++ putS ls := by simp [putS]
theorem putS_append (a b : List (List UInt8)) : putS (a ++ b) = putS a ++ putS b := by simp [putS]

theorem builder_below {B b : Nat} {bs : List Value} {w w' : World} (h : Lib.IsBuilder 60 5 B b bs w) (hb : Below w.heap.size w w') : Lib.IsBuilder 60 5 B b bs w' := by
  have key : ∀ p, Lib.BuilderAt 60 5 B b p bs w → Lib.BuilderAt 60 5 B b p bs w' := by
    intro p hp
    have hlt := hp.lt
    obtain ⟨hB, v, hv, hown, hne⟩ := hp
    refine ⟨hB, v, (hb.block b hlt).trans hv, hown.kept (row := none) ⟨hb.os, hb.tape, hb.output, hb.size, fun k hk _ => hb.block k hk⟩ ?_, hne⟩
    cases h : v.ownBlock <;> simp
  exact h.imp (key _) (key _)

theorem writeString_c (B b : Nat) (l : List UInt8) (s : ByteArray) (w : World) (h : Lib.IsBuilder 60 5 B b (Lib.byteCells l) w) (hlen : l.length + s.size ≤ 140737488355328) (hBw : B ≤ w.heap.size) :
    Calls Tryz.prog 28 #[.pointer (some ⟨b, 0, none⟩), .string s] w fun e w' => e = .returned (.tuple #[.int .i64 s.size, .nilIface]) ∧ Lib.IsBuilder 60 5 B b (Lib.byteCells (l ++ s.data.toList)) w' ∧ Below B w w' := by
  refine (Any.Builder_WriteString lLays_n166 lExtra B b (Lib.byteCells l) s w h (by simpa [Lib.byteCells] using hlen) hBw).mono ?_
  rintro e w' ⟨rfl, h1, h2⟩
  refine ⟨rfl, .inr ?_, h2⟩
  rw [show Lib.byteCells (l ++ s.data.toList) = Lib.byteCells l ++ Lib.strCells s from by simp [Lib.byteCells, Lib.strCells]]
  exact h1

theorem writeByte_c (B b : Nat) (l : List UInt8) (c : UInt8) (n : Int) (hn : n = c.toNat) (w : World) (h : Lib.IsBuilder 60 5 B b (Lib.byteCells l) w) (hlen : l.length + 1 ≤ 140737488355328) (hBw : B ≤ w.heap.size) :
    Calls Tryz.prog 40 #[.pointer (some ⟨b, 0, none⟩), .int .u8 n] w fun e w' => e = .returned .nilIface ∧ Lib.IsBuilder 60 5 B b (Lib.byteCells (l ++ [c])) w' ∧ Below B w w' := by
  subst hn
  refine (Any.Builder_WriteByte lLays_n167 lExtra B b (Lib.byteCells l) c.toNat w h (by simpa [Lib.byteCells] using hlen) hBw).mono ?_
  rintro e w' ⟨rfl, h1, h2⟩
  refine ⟨rfl, .inr ?_, h2⟩
  rw [show Lib.byteCells (l ++ [c]) = Lib.byteCells l ++ [Value.int .u8 c.toNat] from by simp [Lib.byteCells]]
  exact h1

theorem builderString_c (B b : Nat) (l : List UInt8) (w : World) (h : Lib.IsBuilder 60 5 B b (Lib.byteCells l) w) (hBw : B ≤ w.heap.size) :
    Calls Tryz.prog 30 #[.pointer (some ⟨b, 0, none⟩)] w fun e w' => e = .returned (.string ⟨l.toArray⟩) ∧ Below B w w' :=
  Any.Builder_String_any lLays_n169 lExtra B b l w h hBw

theorem putS_next (xs : List ByteArray) (k : Nat) (x : ByteArray) (h : xs[k]? = some x) : putS ((xs.take (k + 1)).map (·.data.toList)) = putS ((xs.take k).map (·.data.toList)) ++ numS x.size ++ [58] ++ x.data.toList := by
  rw [List.take_add_one, h, List.map_append, putS_append]
  rw [Lib.size_eq x]
  simp [putS, partS]

theorem putS_take_le (xs : List ByteArray) (k : Nat) : (putS ((xs.take k).map (·.data.toList))).length ≤ (putS (xs.map (·.data.toList))).length := by
  conv => rhs; rw [← List.take_append_drop k xs, List.map_append, putS_append]
  simp

set_option maxHeartbeats 2000000 in
theorem put_any (v : Value) (xs : List ByteArray) (w : World) (h : IsStrs w v xs) (hN : xs.length ≤ 140737488355328) (hg : Glob w)
    (hlen : (putS (xs.map (·.data.toList))).length ≤ 140737488355328) :
    Calls Tryz.prog 78 #[v] w fun e w' => e = .returned (.string ⟨(putS (xs.map (·.data.toList))).toArray⟩) ∧ Below w.heap.size w w' := by
  obtain ⟨a, c, rfl, h1, h1m, h2⟩ := h
  have hcells : ∀ (k : Nat) x, xs[k]? = some x → ∃ b o, a = some ⟨b, o, none⟩ ∧ b < w.heap.size ∧ w.cell? ⟨b, o + k, none⟩ = some (.string x) := by
    intro k x hx
    obtain ⟨b, o, ha, hb, hc⟩ := h2 (by rintro rfl; simp at hx)
    exact ⟨b, o, ha, hb, hc k x hx⟩
  have HC := Lib.hid hcells
  have HG := Lib.hid hg
  have HLE := Lib.hid hlen
  clear hcells h2 hg hlen
  unfold maxLen at h1m
  obtain ⟨res, hres⟩ : ∃ res, res = putS (xs.map (·.data.toList)) := ⟨_, rfl⟩
  rw [← hres]
  have HRES := Lib.hid hres
  clear hres
  have hB0 := Lib.fresh_isBuilder 60 5 w
  go_enter Tryz.func78, Tryz.ntmps78
  go_wp2
  go_loopw [8] (fun i wr => ∃ k : Nat, k ≤ xs.length ∧ i = .int .i64 k ∧ Lib.IsBuilder 60 5 w.heap.size w.heap.size (Lib.byteCells (putS ((xs.take k).map (·.data.toList)))) wr ∧ Below w.heap.size w wr)
    (fun i _ => xs.length - (intOf i).toNat)
  case atStart => exact ⟨0, Nat.zero_le _, rfl, hB0, (Below.refl _ _).alloc (Nat.le_refl _) _⟩
  case round =>
    obtain ⟨k, hk, rfl, hbu, hnx⟩ := hrel
    obtain ⟨cur, hcur⟩ : ∃ cur, putS ((xs.take k).map (·.data.toList)) = cur := ⟨_, rfl⟩
    rw [hcur] at hbu
    have HCUR := Lib.hid hcur
    have HBU := Lib.hid hbu
    clear hcur hB0 hbu
    have hle := putS_take_le xs k
    rw [HCUR.out] at hle
    have hsz := hnx.size
    have hgr := HG.out.below hnx
    have HGR := Lib.hid hgr
    clear hgr
    by_cases hlt : k < xs.length
    · obtain ⟨x, hx⟩ : ∃ x, xs[k]? = some x := ⟨xs[k], List.getElem?_eq_getElem hlt⟩
      obtain ⟨b, o, ha, hb, hc⟩ := HC.out k x hx
      subst ha
      have hcx : wr.cell? ⟨b, o + k, none⟩ = some (.string x) := (hnx.cell (by exact hb)).trans hc
      have hnext := putS_next xs k x hx
      have hle2 := putS_take_le xs (k + 1)
      rw [hnext, HCUR.out] at hle2
      have hall := HLE.out
      simp only [List.length_append, List.length_cons, List.length_nil, ← Lib.size_eq] at hle2
      have HNX := Lib.hid hnext
      have hxs : x.size ≤ 140737488355328 := by omega
      have HL := Lib.hid hle2
      have HA := Lib.hid hall
      clear hnext hle2 hall hc hx hle
      go_wp2_with fail
      refine (number_any x.size (by omega) (by omega) wr HGR.out).mono ?_
      rintro e w2 ⟨rfl, hb2⟩
      have h2 := builder_below HBU.out hb2
      have s2 := hb2.size
      obtain ⟨nb, hnb⟩ : ∃ nb, numS (x.size : Int) = nb := ⟨_, rfl⟩
      rw [hnb]
      have HNB := Lib.hid hnb
      have hl2 := HL.out
      rw [hnb] at hl2
      have HL2 := Lib.hid hl2
      clear hnb hl2
      have H2 := Lib.hid h2
      clear h2
      go_wp2_with fail
      refine (writeString_c w.heap.size w.heap.size cur ⟨nb.toArray⟩ w2 H2.out (by have := HL2.out; have := HA.out; simp only [ByteArray.size, List.size_toArray]; omega) (by omega)).mono ?_
      rintro e w3 ⟨rfl, h3, hb3⟩
      have s3 := hb3.size
      have H3 := Lib.hid h3
      clear h3
      go_wp2_with fail
      refine (writeByte_c w.heap.size w.heap.size (cur ++ nb) 58 58 rfl w3 H3.out (by have := HL2.out; have := HA.out; simp only [List.length_append]; omega) (by omega)).mono ?_
      rintro e w4 ⟨rfl, h4, hb4⟩
      have s4 := hb4.size
      have H4 := Lib.hid h4
      clear h4
      go_wp2_with fail
      refine (writeString_c w.heap.size w.heap.size (cur ++ nb ++ [58]) x w4 H4.out (by have := HL2.out; have := HA.out; simp only [List.length_append, List.length_cons, List.length_nil]; omega) (by omega)).mono ?_
      rintro e w5 ⟨rfl, h5, hb5⟩
      have hnx5 := ((hnx.trans (hb2.mono hsz)).trans hb3).trans (hb4.trans hb5)
      have H5 := Lib.hid h5
      clear h5
      go_wp2
      go_roundw
      case rel => exact ⟨k + 1, by omega, by go_num, by rw [HNX.out, HCUR.out, HNB.out]; exact H5.out, hnx5⟩
      case measure => simp [intOf]; omega
    · have hfull : cur = res := by rw [← HCUR.out, List.take_of_length_le (by omega), HRES.out]
      have HF := Lib.hid hfull
      clear hfull
      go_wp2_with fail
      refine (builderString_c w.heap.size w.heap.size cur wr HBU.out hsz).mono ?_
      rintro e w2 ⟨rfl, hb2⟩
      go_wp2
      go_ret
      exact ⟨ret_str (by rw [HF.out]), hnx.trans hb2⟩
end Go.Proofs.YtlmnabhhgplhnaaGreatDoor
namespace Go.Proofs.YtlmnabhhgplhnaaGreatDoor
open Go.RowKit

/-- A file: its name and its bytes; a row's cells. -/
abbrev F2 := ByteArray × ByteArray
def fileCells (fs : List F2) : List Value := (fs.map fun f => [Value.string f.1, Value.string f.2]).flatten
theorem fileCells_nil : fileCells [] = [] := rfl
theorem fileCells_cons (f : F2) (fs : List F2) : fileCells (f :: fs) = .string f.1 :: .string f.2 :: fileCells fs := by simp [fileCells]
theorem fileCells_append (a b : List F2) : fileCells (a ++ b) = fileCells a ++ fileCells b := by simp [fileCells]
theorem fileCells_length (fs : List F2) : (fileCells fs).length = fs.length * 2 := by
  induction fs with
  | nil => rfl
  | cons f fs ih => rw [fileCells_cons]; simp only [List.length_cons, ih]; omega
theorem fileCells_one (fs : List F2) : ∀ u ∈ fileCells fs, u.oneCell' = true := by
  induction fs with
  | nil => intro u hu; cases hu
  | cons f fs ih =>
    rw [fileCells_cons]
    intro u hu
    rcases List.mem_cons.1 hu with rfl | hu
    · rfl
    · rcases List.mem_cons.1 hu with rfl | hu
      · rfl
      · exact ih u hu
theorem fileCells_take (fs : List F2) : ∀ i, (fileCells fs).take (i * 2) = fileCells (fs.take i) := by
  induction fs with
  | nil => intro i; simp [fileCells]
  | cons f fs ih =>
    intro i
    cases i with
    | zero => simp [fileCells]
    | succ i => rw [fileCells_cons, Nat.add_mul, List.take_succ_cons, List.take_succ_cons, ih i, List.take_succ_cons, fileCells_cons]
theorem fileCells_drop (fs : List F2) : ∀ i, (fileCells fs).drop (i * 2) = fileCells (fs.drop i) := by
  induction fs with
  | nil => intro i; simp [fileCells]
  | cons f fs ih =>
    intro i
    cases i with
    | zero => simp [fileCells]
    | succ i => rw [fileCells_cons, Nat.add_mul, List.drop_succ_cons, List.drop_succ_cons, ih i, List.drop_succ_cons]

/-- A slice's cells over a slice's cells, elements of whatever size: all is read before anything is written. -/
theorem run_copy_sized (P : Program) (w : World) (dT sT ty elem : TypeId) (g o dLen dCap : Nat) (a : Addr) (sLen sCap sz : Nat) (cur : Array Value) (t : TypeId) (cs : List Value)
    (hu : P.underlying dT = some (.slice elem)) (hs : (P.info? elem).map (·.size) = some sz)
    (hg : w.heap[g]? = some (.cells cur t (0, 0))) (hn : cs.length = Nat.min sLen dLen * sz)
    (hsrc : ∀ j v, cs[j]? = some v → w.cell? (a.add j) = some v) (hfit : o + cs.length ≤ cur.size) (h1 : ∀ v ∈ cs, v.oneCell' = true) :
    (Builtin.copy_ #[dT, sT] ty #[.slice (some ⟨g, o, none⟩) dLen dCap, .slice (some a) sLen sCap]).run P w =
      .ok (goInt (Nat.min sLen dLen)) (w.setRow g (cur.toList.take o ++ cs ++ cur.toList.drop (o + cs.length)).toArray) := by
  have hl := run_loadCells_list (P := P) w a cs hsrc
  have hst := run_storeCells_at P g o t cs 0 cur w hg (by simpa using hfit) h1
  cases hq : P.info? elem with
  | none => simp [hq] at hs
  | some i =>
    have hi : i.size = sz := by simpa [hq] using hs
    simp [Builtin.copy_, run_underlying hu, Builtin.lenOf, Builtin.firstCells, sizeOf, typeInfo, hq, hi, ← hn, hl, hst]

theorem info_file : (Tryz.prog.info? 109).map (fun i => (i.zero, i.size, i.bytes)) = some (some (.agg #[.string ByteArray.empty, .string ByteArray.empty]), 2, 32) := by kernel_rfl

theorem row_cell {w : World} {g : Nat} {cur : Array Value} {t : TypeId} {fr : Nat × Nat} (h : w.heap[g]? = some (.cells cur t fr)) (o j : Nat) (v : Value) (hv : cur.toList[o + j]? = some v) : w.cell? ((⟨g, o, none⟩ : Addr).add j) = some v := by
  rw [Addr.add_lit]
  simp only [World.cell?, h]
  simpa using hv

theorem shift_list (C D R : List Value) (x y : Value) (i k : Nat) (hi : (i + 1) * 2 ≤ C.length) (hD : D.length = k * 2) :
    ((C.take ((i + 1) * 2) ++ D ++ R).take (i * 2) ++ [x, y] ++ (C.take ((i + 1) * 2) ++ D ++ R).drop (i * 2 + 2)).take ((i + 1 + k) * 2) = C.take (i * 2) ++ [x, y] ++ D := by
  have h1 : (C.take ((i + 1) * 2)).length = i * 2 + 2 := by rw [List.length_take]; omega
  have e0 : C.take ((i + 1) * 2) ++ D ++ R = C.take ((i + 1) * 2) ++ (D ++ R) := List.append_assoc _ _ _
  have e1 : (C.take ((i + 1) * 2) ++ (D ++ R)).take (i * 2) = C.take (i * 2) := by
    rw [List.take_append_of_le_length (by omega), List.take_take, Nat.min_eq_left (by omega)]
  have e2 : (C.take ((i + 1) * 2) ++ (D ++ R)).drop (i * 2 + 2) = D ++ R := by rw [← h1, List.drop_left]
  have h2 : (C.take (i * 2)).length = i * 2 := by rw [List.length_take]; omega
  have h3 : (C.take (i * 2) ++ [x, y] ++ D).length = (i + 1 + k) * 2 := by simp only [List.length_append, h2, hD, List.length_cons, List.length_nil]; omega
  rw [e0, e1, e2, ← List.append_assoc _ D R, ← h3, List.take_left]

set_option maxHeartbeats 4000000 in
set_option maxRecDepth 100000 in
/-- There is room, the place is ahead of the end. -/
theorem insert_shift (g n c i vb : Nat) (fs : List F2) (f : F2) (cur : Array Value) (w : World) (hi : i < n) (hroom : n + 1 ≤ c) (hn : n ≤ 1000) (hc63 : c ≤ 9223372036854775807) (hvb : vb ≠ g)
    (hfs : fs.length = n) (hg : w.heap[g]? = some (.cells cur 109 (0, 0))) (hcs : cur.size = c * 2) (htk : cur.toList.take (n * 2) = fileCells fs)
    (hv : w.heap[vb]? = some (.cells #[.string f.1, .string f.2] 109 (0, 0))) :
    Calls Tryz.prog 134 #[.slice (some ⟨g, 0, none⟩) n c, .int .i64 i, .slice (some ⟨vb, 0, none⟩) 1 1] w fun e w' =>
      e = .returned (.slice (some ⟨g, 0, none⟩) (n + 1) c) ∧ ∃ cur' : Array Value, w'.heap[g]? = some (.cells cur' 109 (0, 0)) ∧ cur'.size = c * 2 ∧ cur'.toList.take ((n + 1) * 2) = fileCells (fs.take i ++ f :: fs.drop i) ∧
        w.grownBy w' (some g) := by
  obtain ⟨i0, hi0, hz0, hz1, hz2⟩ := info_parts info_file
  have hsz : (Tryz.prog.info? 109).map (·.size) = some 2 := by rw [hi0]; simp [hz1]
  have hov : ∀ lb cb, (callFunc 158 #[.slice (some ⟨vb, 0, none⟩) 1 1, .slice (some ⟨g, (i + 1) * 2, none⟩) lb cb]).run Tryz.prog w = .ok (.value (.bool false)) w := fun lb cb => by
    rw [run_callFunc_extern Tryz.func158 (by kernel_rfl) (by kernel_rfl) (by kernel_rfl) (e := Extern.SlicesOverlaps.overlaps #[133, 133] #[4]) (by kernel_rfl),
      Lib.run_overlaps_apart w 133 4 109 Tryz.underlying133 2 Tryz.sizeOf109 ⟨vb, 0, none⟩ ⟨g, (i + 1) * 2, none⟩ 1 1 lb cb hvb 109 109 2 (c * 2) (by simp [World.shape?, hv]) (by simp [World.shape?, hg, hcs]) (by omega) (by simp [World.frozen?, hv]) (by simp [World.frozen?, hv])]
    rfl
  have hcl : (fileCells (fs.drop i)).length = (n - i) * 2 := by rw [fileCells_length, List.length_drop, hfs]
  obtain ⟨L1, hL1⟩ : ∃ L1 : List Value, L1 = cur.toList.take ((i + 1) * 2) ++ fileCells (fs.drop i) ++ cur.toList.drop ((i + 1) * 2 + (n - i) * 2) := ⟨_, rfl⟩
  have hlen1 : L1.length = c * 2 := by
    rw [hL1]; simp only [List.length_append, List.length_take, List.length_drop, Array.length_toList, hcs, hcl]; omega
  have hcp1 : ∀ ty dc sc, (Builtin.copy_ #[133, 133] ty #[.slice (some ⟨g, (i + 1) * 2, none⟩) (n - i) dc, .slice (some ⟨g, i * 2, none⟩) (n + 1 - i) sc]).run Tryz.prog w.drew = .ok (goInt (n - i : Nat)) (w.drew.setRow g L1.toArray) := fun ty dc sc => by
    have h := run_copy_sized Tryz.prog w.drew 133 133 ty 109 g ((i + 1) * 2) (n - i) dc ⟨g, i * 2, none⟩ (n + 1 - i) sc 2 cur 109 (fileCells (fs.drop i)) Tryz.underlying133 hsz hg
      (by rw [hcl]; simp only [Nat.min_def]; split <;> omega)
      (fun j v hj => row_cell (w := w.drew) hg (i * 2) j v (by
        rw [← fileCells_drop, ← htk, List.getElem?_drop, List.getElem?_take] at hj
        split at hj
        · exact hj
        · cases hj))
      (by rw [hcl, hcs]; omega) (fileCells_one _)
    rw [hcl, ← hL1] at h
    have e : Nat.min (n + 1 - i) (n - i) = n - i := by simp only [Nat.min_def]; split <;> omega
    rw [e] at h
    exact h
  obtain ⟨W1, hW1⟩ : ∃ W1, W1 = w.drew.setRow g L1.toArray := ⟨_, rfl⟩
  have hg1 : W1.heap[g]? = some (.cells L1.toArray 109 (0, 0)) := by rw [hW1]; exact setRow_heap w.drew g cur _ _ _ hg
  have hv1 : W1.heap[vb]? = some (.cells #[.string f.1, .string f.2] 109 (0, 0)) := by rw [hW1, setRow_other w.drew g vb _ hvb]; exact hv
  obtain ⟨L2, hL2⟩ : ∃ L2 : List Value, L2 = L1.take (i * 2) ++ [.string f.1, .string f.2] ++ L1.drop (i * 2 + 2) := ⟨_, rfl⟩
  have hcp2 : ∀ ty dc, (Builtin.copy_ #[133, 133] ty #[.slice (some ⟨g, i * 2, none⟩) (n + 1 - i) dc, .slice (some ⟨vb, 0, none⟩) 1 1]).run Tryz.prog W1 = .ok (goInt (1 : Nat)) (W1.setRow g L2.toArray) := fun ty dc => by
    have h := run_copy_sized Tryz.prog W1 133 133 ty 109 g (i * 2) (n + 1 - i) dc ⟨vb, 0, none⟩ 1 1 2 L1.toArray 109 [.string f.1, .string f.2] Tryz.underlying133 hsz hg1
      (by simp only [Nat.min_def]; split <;> simp <;> omega)
      (fun j v hj => row_cell hv1 0 j v (by simpa using hj))
      (by simp [hlen1]; omega) (by intro u hu; simp at hu; rcases hu with rfl | rfl <;> rfl)
    simp only [List.length_cons, List.length_nil, Nat.zero_add] at h
    rw [← hL2] at h
    have e : Nat.min 1 (n + 1 - i) = 1 := by simp only [Nat.min_def]; split <;> omega
    rw [e] at h
    exact h
  have hfin : ∃ cur' : Array Value, (W1.setRow g L2.toArray).heap[g]? = some (.cells cur' 109 (0, 0)) ∧ cur'.size = c * 2 ∧ cur'.toList.take ((n + 1) * 2) = fileCells (fs.take i ++ f :: fs.drop i) ∧ w.grownBy (W1.setRow g L2.toArray) (some g) := by
    refine ⟨L2.toArray, setRow_heap W1 g _ _ _ _ hg1, ?_, ?_, ?_⟩
    · rw [hL2]; simp only [List.size_toArray, List.length_append, List.length_take, List.length_drop, hlen1, List.length_cons, List.length_nil]; omega
    · have h := shift_list cur.toList (fileCells (fs.drop i)) (cur.toList.drop ((i + 1) * 2 + (n - i) * 2)) (.string f.1) (.string f.2) i (n - i) (by rw [Array.length_toList, hcs]; omega) hcl
      rw [show i + 1 + (n - i) = n + 1 from by omega, ← hL1, ← hL2] at h
      show L2.take _ = _
      rw [h, fileCells_append, fileCells_cons, ← fileCells_take, ← htk, List.take_take, Nat.min_eq_left (by omega)]
      simp
    · exact ⟨by rw [hW1]; rfl, by rw [hW1]; rfl, by rw [hW1]; rfl, by rw [hW1]; simp [World.setRow], fun k _ hk => by
        have hk' : k ≠ g := fun e => hk (by rw [e])
        rw [setRow_other _ g k _ hk', hW1, setRow_other _ g k _ hk']; rfl⟩
  rw [← hW1] at hcp1
  have HF := Lib.hid hfin
  clear hfin hL1 hL2 hg1 hv1 htk hlen1 hcl hcs hv hfs
  have HW1 := Lib.hid hW1
  clear hW1
  have b1 : ¬ ((i : Int) = (n : Int)) := by omega
  go_enter Tryz.func134, Tryz.ntmps134
  go_wp2_with (simp only [hov])
  have hw1 : IntKind.i64.wrap ((i : Int) + (1 : Int)) = (i : Int) + (1 : Int) := by rw [IntKind.wrap_i64]; omega
  have hb1 : (0 : Int) ≤ (i : Int) + (1 : Int) := by omega
  have hb0 : (0 : Int) ≤ (i : Int) := by omega
  have htn : ((i : Int) + (1 : Int)).toNat = i + 1 := by omega
  have hb2 : ¬ (c = i + 1) := by omega
  have hb3 : (i : Int) ≤ (n : Int) + (1 : Int) := by omega
  have hb4 : ¬ (c = i) := by omega
  have hb5 : (i : Int) + 1 ≤ (n : Int) + (1 : Int) := by omega
  have hb6 : n + 1 - (i + 1) = n - i := by omega
  go_region_law (refine step_copy_runI rfl _ _ 133 133 rfl _ _ (by simp [Act.eval, Act.put]) (by simp [Act.eval, Act.put]) (hcp1 _ _ _) ?_)
  go_wp2_with fail
  go_ret
  exact ⟨rfl, HF.out⟩

theorem grow_list (A Z D R : List Value) (x y : Value) (i k : Nat) (hA : A.length = i * 2) (hD : D.length = k * 2) :
    (((A ++ Z ++ R).take (i * 2) ++ [x, y] ++ (A ++ Z ++ R).drop (i * 2 + 2)).take ((i + 1) * 2) ++ D ++ ((A ++ Z ++ R).take (i * 2) ++ [x, y] ++ (A ++ Z ++ R).drop (i * 2 + 2)).drop ((i + 1) * 2 + k * 2)).take ((i + 1 + k) * 2) = A ++ [x, y] ++ D := by
  have e1 : (A ++ Z ++ R).take (i * 2) = A := by rw [List.append_assoc, ← hA, List.take_left]
  have h3 : (A ++ [x, y]).length = (i + 1) * 2 := by simp only [List.length_append, hA, List.length_cons, List.length_nil]; omega
  have e2 : (A ++ [x, y] ++ (A ++ Z ++ R).drop (i * 2 + 2)).take ((i + 1) * 2) = A ++ [x, y] := by rw [← h3, List.take_left]
  have h4 : (A ++ [x, y] ++ D).length = (i + 1 + k) * 2 := by rw [List.length_append, h3, hD]; omega
  rw [e1, e2, ← h4, List.take_left]

set_option maxHeartbeats 4000000 in
set_option maxRecDepth 100000 in
/-- There is no room, the place is ahead of the end: a new row. -/
theorem insert_grow (g n c i vb : Nat) (fs : List F2) (f : F2) (cur : Array Value) (w : World) (hi : i < n) (hroom : c < n + 1) (hn : n ≤ 1000) (hnc : n ≤ c)
    (hfs : fs.length = n) (hg : w.heap[g]? = some (.cells cur 109 (0, 0))) (hcs : cur.size = c * 2) (htk : cur.toList.take (n * 2) = fileCells fs)
    (hv : w.heap[vb]? = some (.cells #[.string f.1, .string f.2] 109 (0, 0))) :
    Calls Tryz.prog 134 #[.slice (some ⟨g, 0, none⟩) n c, .int .i64 i, .slice (some ⟨vb, 0, none⟩) 1 1] w fun e w' => ∃ G,
      e = .returned (.slice (some ⟨w.heap.size, 0, none⟩) (n + 1) G) ∧ n + 1 ≤ G ∧ G ≤ maxLen ∧ ∃ cur' : Array Value, w'.heap[w.heap.size]? = some (.cells cur' 109 (0, 0)) ∧ cur'.size = G * 2 ∧ cur'.toList.take ((n + 1) * 2) = fileCells (fs.take i ++ f :: fs.drop i) ∧
        w.grownBy w' none := by
  obtain ⟨i0, hi0, hz0, hz1, hz2⟩ := info_parts info_file
  have hsz : (Tryz.prog.info? 109).map (·.size) = some 2 := by rw [hi0]; simp [hz1]
  obtain rfl : c = n := by omega
  have hgw : g < w.heap.size := by
    rcases Nat.lt_or_ge g w.heap.size with h | h
    · exact h
    · rw [Array.getElem?_eq_none h] at hg; cases hg
  have hvw : vb < w.heap.size := by
    rcases Nat.lt_or_ge vb w.heap.size with h | h
    · exact h
    · rw [Array.getElem?_eq_none h] at hv; cases hv
  have hA : (fileCells (fs.take i)).length = i * 2 := by rw [fileCells_length, List.length_take, hfs, Nat.min_eq_left (by omega)]
  have hD : (fileCells (fs.drop i)).length = (c - i) * 2 := by rw [fileCells_length, List.length_drop, hfs]
  have hold : (Builtin.firstCells i0.size i (.slice (some ⟨g, 0, none⟩) i c)).run Tryz.prog w.drew = .ok (fileCells (fs.take i)).toArray w.drew := by
    rw [hz1]
    exact run_firstCells_some w.drew 2 i ⟨g, 0, none⟩ i c (fileCells (fs.take i)) hA (fun j v hj => row_cell (w := w.drew) hg 0 j v (by
      rw [← fileCells_take, ← htk, List.take_take, List.getElem?_take] at hj
      split at hj
      · simpa using hj
      · cases hj))
  obtain ⟨G, hG⟩ : ∃ G, G = grownCap w (c + 1) c 109 := ⟨_, rfl⟩
  have hGn : c + 1 ≤ G := by rw [hG]; exact grownCap_ge w _ _ _
  have hGm : G ≤ maxLen := by rw [hG]; exact grownCap_le_maxLen w _ _ _ (by unfold maxLen; omega)
  obtain ⟨Z, hZ⟩ : ∃ Z : List Value, Z = (Builtin.zeroCells (Value.agg #[.string ByteArray.empty, .string ByteArray.empty]).cells (c + 1 - i)).toList := ⟨_, rfl⟩
  obtain ⟨R, hR⟩ : ∃ R : List Value, R = (Builtin.zeroCells (Value.agg #[.string ByteArray.empty, .string ByteArray.empty]).cells (G - (c + 1))).toList := ⟨_, rfl⟩
  have hZl : Z.length = (c - i + 1) * 2 := by rw [hZ]; simp [Builtin.zeroCells, Value.cells]; omega
  have hRl : R.length = (G - (c + 1)) * 2 := by rw [hR]; simp [Builtin.zeroCells, Value.cells]
  obtain ⟨L0, hL0⟩ : ∃ L0 : List Value, L0 = fileCells (fs.take i) ++ Z ++ R := ⟨_, rfl⟩
  have hlen0 : L0.length = G * 2 := by rw [hL0, List.length_append, List.length_append, hA, hZl, hRl]; omega
  obtain ⟨W1, hW1⟩ : ∃ W1, W1 = w.drew.alloc (.cells L0.toArray 109) := ⟨_, rfl⟩
  have hkk : (c : Int) + 1 - (i : Int) = ((c + 1 - i : Nat) : Int) := by omega
  have hik : i + (c + 1 - i) = c + 1 := by omega
  have hrz : ∀ ty, (Builtin.append_ #[133, 3] ty #[.slice (some ⟨g, 0, none⟩) i c, .int .i64 ((c : Int) + 1 - (i : Int))]).run Tryz.prog w = .ok (.slice (some ⟨w.heap.size, 0, none⟩) (c + 1) G) W1 := fun ty => by
    have h := Lib.run_append_grow_zeros w 133 3 ty 109 i0 _ .i64 .i64 Tryz.underlying133 Tryz.underlying3 hi0 hz0 (some ⟨g, 0, none⟩) i c (fileCells (fs.take i)) hold (c + 1 - i) (by omega) (by omega) (by omega) (by omega) (by rw [hz2]; omega) (by rw [hz2, hik]; exact growslice_fits (by omega) (by omega))
    have e : (fileCells (fs.take i)).toArray ++ Builtin.zeroCells (Value.agg #[.string ByteArray.empty, .string ByteArray.empty]).cells (c + 1 - i) ++ Builtin.zeroCells (Value.agg #[.string ByteArray.empty, .string ByteArray.empty]).cells (G - (c + 1)) = L0.toArray := by
      apply Array.toList_inj.1
      rw [hL0, hZ, hR]
      simp
    rw [hik, ← hG, e, ← hW1] at h
    rw [hkk]
    exact h
  have hg1 : W1.heap[g]? = some (.cells cur 109 (0, 0)) := by rw [hW1]; exact (Below.heap_alloc w.drew _ g hgw).trans hg
  have hv1 : W1.heap[vb]? = some (.cells #[.string f.1, .string f.2] 109 (0, 0)) := by rw [hW1]; exact (Below.heap_alloc w.drew _ vb hvw).trans hv
  have hN1 : W1.heap[w.heap.size]? = some (.cells L0.toArray 109 (0, 0)) := by rw [hW1]; exact heap_alloc_new w.drew _
  obtain ⟨L1, hL1⟩ : ∃ L1 : List Value, L1 = L0.take (i * 2) ++ [.string f.1, .string f.2] ++ L0.drop (i * 2 + 2) := ⟨_, rfl⟩
  have hlen1 : L1.length = G * 2 := by rw [hL1]; simp only [List.length_append, List.length_take, List.length_drop, hlen0, List.length_cons, List.length_nil]; omega
  obtain ⟨W2, hW2⟩ : ∃ W2, W2 = W1.setRow w.heap.size L1.toArray := ⟨_, rfl⟩
  have hcp1 : ∀ ty dc, (Builtin.copy_ #[133, 133] ty #[.slice (some ⟨w.heap.size, i * 2, none⟩) (c + 1 - i) dc, .slice (some ⟨vb, 0, none⟩) 1 1]).run Tryz.prog W1 = .ok (goInt (1 : Nat)) W2 := fun ty dc => by
    have h := run_copy_sized Tryz.prog W1 133 133 ty 109 w.heap.size (i * 2) (c + 1 - i) dc ⟨vb, 0, none⟩ 1 1 2 L0.toArray 109 [.string f.1, .string f.2] Tryz.underlying133 hsz hN1
      (by simp only [Nat.min_def]; split <;> simp <;> omega)
      (fun j v hj => row_cell hv1 0 j v (by simpa using hj))
      (by simp [hlen0]; omega) (by intro u hu; simp at hu; rcases hu with rfl | rfl <;> rfl)
    simp only [List.length_cons, List.length_nil, Nat.zero_add] at h
    rw [← hL1, ← hW2] at h
    have e : Nat.min 1 (c + 1 - i) = 1 := by simp only [Nat.min_def]; split <;> omega
    rw [e] at h
    exact h
  have hg2 : W2.heap[g]? = some (.cells cur 109 (0, 0)) := by rw [hW2, setRow_other _ _ g _ (by omega)]; exact hg1
  have hN2 : W2.heap[w.heap.size]? = some (.cells L1.toArray 109 (0, 0)) := by rw [hW2]; exact setRow_heap _ _ _ _ _ _ hN1
  obtain ⟨L2, hL2⟩ : ∃ L2 : List Value, L2 = L1.take ((i + 1) * 2) ++ fileCells (fs.drop i) ++ L1.drop ((i + 1) * 2 + (c - i) * 2) := ⟨_, rfl⟩
  obtain ⟨W3, hW3⟩ : ∃ W3, W3 = W2.drew.setRow w.heap.size L2.toArray := ⟨_, rfl⟩
  have hcp2 : ∀ ty dc sc, (Builtin.copy_ #[133, 133] ty #[.slice (some ⟨w.heap.size, (i + 1) * 2, none⟩) (c - i) dc, .slice (some ⟨g, i * 2, none⟩) (c - i) sc]).run Tryz.prog W2.drew = .ok (goInt (c - i : Nat)) W3 := fun ty dc sc => by
    have h := run_copy_sized Tryz.prog W2.drew 133 133 ty 109 w.heap.size ((i + 1) * 2) (c - i) dc ⟨g, i * 2, none⟩ (c - i) sc 2 L1.toArray 109 (fileCells (fs.drop i)) Tryz.underlying133 hsz hN2
      (by rw [hD]; simp only [Nat.min_def]; split <;> omega)
      (fun j v hj => row_cell (w := W2.drew) hg2 (i * 2) j v (by
        rw [← fileCells_drop, ← htk, List.getElem?_drop, List.getElem?_take] at hj
        split at hj
        · exact hj
        · cases hj))
      (by rw [hD, List.size_toArray, hlen1]; omega) (fileCells_one _)
    rw [hD, ← hL2, ← hW3] at h
    have e : Nat.min (c - i) (c - i) = c - i := Nat.min_self _
    rw [e] at h
    exact h
  have hfin : ∃ cur' : Array Value, W3.heap[w.heap.size]? = some (.cells cur' 109 (0, 0)) ∧ cur'.size = G * 2 ∧ cur'.toList.take ((c + 1) * 2) = fileCells (fs.take i ++ f :: fs.drop i) ∧ w.grownBy W3 none := by
    refine ⟨L2.toArray, by rw [hW3]; exact setRow_heap W2.drew _ _ _ _ _ hN2, ?_, ?_, ?_⟩
    · rw [hL2]; simp only [List.size_toArray, List.length_append, List.length_take, List.length_drop, hlen1, hD]; omega
    · have h := grow_list (fileCells (fs.take i)) Z (fileCells (fs.drop i)) R (.string f.1) (.string f.2) i (c - i) hA hD
      rw [show i + 1 + (c - i) = c + 1 from by omega, ← hL0, ← hL1, ← hL2] at h
      show L2.take _ = _
      rw [h, fileCells_append, fileCells_cons]
      simp
    · refine ⟨by rw [hW3, hW2, hW1]; rfl, by rw [hW3, hW2, hW1]; rfl, by rw [hW3, hW2, hW1]; rfl, by rw [hW3, hW2, hW1]; simp [World.setRow], fun k hk _ => ?_⟩
      have hk' : k ≠ w.heap.size := by omega
      rw [hW3, setRow_other _ _ k _ hk']
      show W2.heap[k]? = _
      rw [hW2, setRow_other _ _ k _ hk', hW1]
      exact Below.heap_alloc w.drew _ k hk
  have HF := Lib.hid hfin
  clear hfin hold hL0 hL1 hL2 hW1 hW2 hW3 hg1 hv1 hN1 hg2 hN2 htk hlen0 hlen1 hA hD hZ hR hZl hRl hcs hg hv hfs hG hkk hik
  have b1 : ¬ ((i : Int) = (c : Int)) := by omega
  unfold maxLen at hGm
  go_enter Tryz.func134, Tryz.ntmps134
  have hGi : ¬ (G = i) := by omega
  have hGim : ¬ (G = i + 1) := by omega
  have hci : ¬ (c = i) := by omega
  have hw1 : IntKind.i64.wrap ((i : Int) + (1 : Int)) = (i : Int) + (1 : Int) := by rw [IntKind.wrap_i64]; omega
  have hb1 : (0 : Int) ≤ (i : Int) + (1 : Int) := by omega
  have htn : ((i : Int) + (1 : Int)).toNat = i + 1 := by omega
  have hb3 : (i : Int) ≤ (c : Int) := by omega
  have hb6 : c + 1 - (i + 1) = c - i := by omega
  go_wp2_with (at_builtin; refine Lib.wpList_append_run _ rfl _ _ _ _ rfl _ _ rfl rfl _ _ (hrz _) ?_)
  go_region_law (refine step_copy_runI rfl _ _ 133 133 rfl _ _ (by simp [Act.eval, Act.put]) (by simp [Act.eval, Act.put]) (hcp2 _ _ _) ?_)
  go_wp2_with fail
  go_ret
  exact ⟨G, rfl, hGn, by unfold maxLen; omega, HF.out⟩
end Go.Proofs.YtlmnabhhgplhnaaGreatDoor
namespace Go.Proofs.YtlmnabhhgplhnaaGreatDoor
open Go.RowKit

/-- What Norm tells. -/
def normS (s : List UInt8) : List UInt8 × Bool :=
  match normGo [] (cutAt 47 s) with
  | none => ([], false)
  | some k => if okName (joinS k) then (joinS k, true) else ([], false)

theorem ret_two {a b : ByteArray} {c d : Bool} (h : a = b) (h' : c = d) : Ending.returned (.tuple #[.string a, .bool c]) = .returned (.tuple #[.string b, .bool d]) := by rw [h, h']

theorem drop_at {α : Type} (l : List α) (k : Nat) (x : α) (h : l[k]? = some x) : l.drop k = x :: l.drop (k + 1) := by
  obtain ⟨hk, rfl⟩ := List.getElem?_eq_some_iff.1 h
  exact List.drop_eq_getElem_cons hk

/-- The shape of a row that is owned and not empty. -/
theorem own_shape {w : World} {B e size : Nat} {v : Value} {n : Nat} {xs : List Value} (h : w.ownsRow B e size v n xs) : ∃ a c, v = .slice a n c ∧ (n ≠ 0 → ∃ g, a = some ⟨g, 0, none⟩) ∧ n ≤ c ∧ c ≤ maxLen := by
  rcases h with ⟨_, ⟨rfl, h0⟩ | ⟨g, cap, cur, rfl, _, _, hn, hm, _⟩⟩
  · exact ⟨none, 0, by rw [h0], fun h => absurd h0 h, by omega, by simp [maxLen]⟩
  · exact ⟨_, _, rfl, fun _ => ⟨g, rfl⟩, hn, hm⟩

theorem own_pop {w : World} {B : Nat} {g cap : Nat} {kept : List ByteArray} (hne : kept ≠ [])
    (h : w.ownsRow B 9 1 (.slice (some ⟨g, 0, none⟩) kept.length cap) kept.length (kept.map Value.string)) :
    w.ownsRow B 9 1 (.slice (some ⟨g, 0, none⟩) kept.dropLast.length cap) kept.dropLast.length (kept.dropLast.map Value.string) := by
  obtain ⟨l, x, rfl⟩ : ∃ l x, kept = l ++ [x] := ⟨kept.dropLast, kept.getLast hne, (List.dropLast_concat_getLast hne).symm⟩
  rw [List.dropLast_concat]
  rw [List.length_append, List.map_append] at h
  exact ownsRow_pop (by simp) h

theorem nonE_sum (ls : List (List UInt8)) : ((nonE ls).map List.length).sum = (ls.map List.length).sum := by
  induction ls with
  | nil => rfl
  | cons a l ih =>
    unfold nonE at ih ⊢
    by_cases h : a = []
    · subst h; simp [ih]
    · rw [List.filter_cons_of_pos (by simp [h]), List.map_cons, List.sum_cons, List.map_cons, List.sum_cons, ih]

theorem joinS_len (ls : List (List UInt8)) : (joinS ls).length ≤ (ls.map List.length).sum + ls.length := by
  have h1 := nonE_sum ls
  have h2 : (nonE ls).length ≤ ls.length := List.length_filter_le _ _
  unfold joinS
  by_cases h : nonE ls = []
  · rw [h, Lib.join_nil]; simp
  · have := join_length 47 (nonE ls) h
    omega

theorem sum_append1 (kept : List ByteArray) (x : ByteArray) : ((kept ++ [x]).map ByteArray.size).sum = (kept.map ByteArray.size).sum + x.size := by simp
theorem sum_dropLast (kept : List ByteArray) : (kept.dropLast.map ByteArray.size).sum ≤ (kept.map ByteArray.size).sum := by
  by_cases h : kept = []
  · subst h; simp
  · have e := List.dropLast_concat_getLast h
    have : (kept.map ByteArray.size).sum = ((kept.dropLast ++ [kept.getLast h]).map ByteArray.size).sum := by rw [e]
    rw [this, sum_append1]; omega
theorem sum_data (xs : List ByteArray) : ((xs.map (·.data.toList)).map List.length).sum = (xs.map ByteArray.size).sum := by
  rw [List.map_map]; congr 1

/-- The head of a round of Norm's loop: what is kept and what is to come give what the whole gives. -/
def NormAt (xs : List ByteArray) (k : Nat) (kept : List ByteArray) (total : Nat) : Prop :=
  normGo (kept.map (·.data.toList)) ((xs.drop k).map (·.data.toList)) = normGo [] (xs.map (·.data.toList)) ∧ (kept.map ByteArray.size).sum + ((xs.drop k).map ByteArray.size).sum ≤ total ∧ kept.length ≤ k

theorem NormAt.skip {xs : List ByteArray} {k : Nat} {kept : List ByteArray} {total : Nat} {x : ByteArray} (h : NormAt xs k kept total) (hx : xs[k]? = some x) (he : x.toList = [] ∨ x.toList = [46]) : NormAt xs (k + 1) kept total := by
  obtain ⟨h1, h2, h3⟩ := h
  rw [drop_at xs k x hx] at h1 h2
  rw [List.map_cons, normGo_skip _ _ _ (by rw [← Lib.toList_data]; exact he)] at h1
  rw [List.map_cons, List.sum_cons] at h2
  exact ⟨h1, by omega, by omega⟩
theorem NormAt.fall {xs : List ByteArray} {k : Nat} {kept : List ByteArray} {total : Nat} {x : ByteArray} (h : NormAt xs k kept total) (hx : xs[k]? = some x) (he : x.toList = [46, 46]) (hk : kept.length = 0) : normGo [] (xs.map (·.data.toList)) = none := by
  obtain rfl := List.eq_nil_of_length_eq_zero hk
  obtain ⟨h1, h2, h3⟩ := h
  rw [← h1, drop_at xs k x hx, List.map_cons, ← Lib.toList_data, he]
  exact normGo_fall _
theorem NormAt.up {xs : List ByteArray} {k : Nat} {kept : List ByteArray} {total : Nat} {x : ByteArray} (h : NormAt xs k kept total) (hx : xs[k]? = some x) (he : x.toList = [46, 46]) (hk : kept ≠ []) : NormAt xs (k + 1) kept.dropLast total := by
  obtain ⟨h1, h2, h3⟩ := h
  rw [drop_at xs k x hx] at h1 h2
  rw [List.map_cons, ← Lib.toList_data, he, normGo_up _ _ (by simpa using hk)] at h1
  rw [List.map_cons, List.sum_cons] at h2
  have := sum_dropLast kept
  exact ⟨by rw [List.map_dropLast]; exact h1, by omega, by simp; omega⟩
theorem NormAt.keep {xs : List ByteArray} {k : Nat} {kept : List ByteArray} {total : Nat} {x : ByteArray} (h : NormAt xs k kept total) (hx : xs[k]? = some x) (e1 : ¬ x.toList = []) (e2 : ¬ x.toList = [46]) (e3 : ¬ x.toList = [46, 46]) : NormAt xs (k + 1) (kept ++ [x]) total := by
  obtain ⟨h1, h2, h3⟩ := h
  rw [Lib.toList_data] at e1 e2 e3
  rw [drop_at xs k x hx] at h1 h2
  rw [List.map_cons, normGo_keep _ _ _ e1 e2 e3] at h1
  rw [List.map_cons, List.sum_cons] at h2
  exact ⟨by rw [List.map_append]; exact h1, by rw [sum_append1]; omega, by simp; omega⟩
theorem NormAt.done {xs : List ByteArray} {k : Nat} {kept : List ByteArray} {total : Nat} (h : NormAt xs k kept total) (hk : xs.length ≤ k) : normGo [] (xs.map (·.data.toList)) = some (kept.map (·.data.toList)) ∧ (joinS (kept.map (·.data.toList))).length ≤ total + k := by
  obtain ⟨h1, h2, h3⟩ := h
  rw [List.drop_of_length_le hk] at h1 h2
  refine ⟨h1.symm, ?_⟩
  have := joinS_len (kept.map (·.data.toList))
  rw [sum_data, List.length_map] at this
  omega

set_option maxHeartbeats 4000000 in
theorem norm_any (s : ByteArray) (m : Int) (w : World) (hs : s.size < 4294967281) (hG : 1 < w.heap.size) (hm : w.cell? ⟨1, 0, none⟩ = some (.int .i64 m)) :
    Calls Tryz.prog 70 #[.string s] w fun e w' => e = .returned (.tuple #[.string ⟨(normS s.data.toList).1.toArray⟩, .bool (normS s.data.toList).2]) ∧ Below w.heap.size w w' := by
  obtain ⟨i0, hi, hz0, hz1, hz2⟩ := info_parts info_str
  obtain ⟨r, hr⟩ : ∃ r, r = normS s.data.toList := ⟨_, rfl⟩
  rw [← hr]
  obtain ⟨r1, r2⟩ := r
  have HR := Lib.hid hr
  clear hr
  have hsz := Lib.hid (Lib.size_eq s)
  go_enter Tryz.func70, Tryz.ntmps70
  go_wp2_with fail
  refine (parts_any s m w hs hm).mono ?_
  rintro e w' ⟨xs, hx, rfl, rfl⟩
  have hlen := congrArg List.length hx
  rw [List.length_map] at hlen
  have hcl := cutAt_length_le 47 s.data.toList
  rw [← hlen, ← hsz.out] at hcl
  have hsm : ∀ (k : Nat) x, xs[k]? = some x → x.size ≤ s.size := by
    intro k x hxk
    have h1 : x.data.toList ∈ cutAt 47 s.data.toList := by rw [← hx]; exact List.mem_map_of_mem (List.mem_of_getElem? hxk)
    have h2 := cutAt_len 47 s.data.toList _ h1
    rw [← hsz.out] at h2
    rw [Lib.size_eq x]; omega
  have HSM := Lib.hid hsm
  have HR' : Hid ((r1, r2) = match normGo [] (xs.map (·.data.toList)) with | none => ([], false) | some k => if okName (joinS k) then (joinS k, true) else ([], false)) := by
    show (r1, r2) = _
    rw [HR.out, normS, ← hx]
  have HX := Lib.hid hx
  clear hsm hlen hx
  obtain ⟨W1, hW1⟩ : ∃ W1 : World, w.alloc (.cells (xs.map Value.string).toArray 9) = W1 := ⟨_, rfl⟩
  have hcs : ∀ (k : Nat) x, xs[k]? = some x → W1.cell? ⟨w.heap.size, k, none⟩ = some (.string x) := fun k x h => hW1 ▸ cell_strs w xs 9 k x h
  have hsize : W1.heap.size = w.heap.size + 1 := by rw [← hW1]; simp
  have hb1 : Below w.heap.size w W1 := hW1 ▸ (Below.refl _ _).alloc (Nat.le_refl _) _
  have HCS := Lib.hid hcs
  have HSI := Lib.hid hsize
  rw [hW1]
  clear hcs hW1 hsize
  have htot : (xs.map ByteArray.size).sum ≤ s.size := by
    rw [← sum_data, HX.out]
    have h1 := cutAt_sum 47 s.data.toList
    have h2 : (cutAt 47 s.data.toList).length ≠ 0 := fun e => cutAt_ne 47 s.data.toList (List.eq_nil_of_length_eq_zero e)
    rw [hsz.out]; omega
  have H0 : NormAt xs 0 [] s.size := ⟨rfl, by simpa using htot, Nat.le_refl _⟩
  clear htot
  go_wp2
  go_loopw [4, 11] (fun v i wr => ∃ (k : Nat) (kept : List ByteArray) (a : Option Addr) (c : Nat), k ≤ xs.length ∧ i = .int .i64 k ∧ v = .slice a kept.length c ∧ wr.ownsRow W1.heap.size 9 1 (.slice a kept.length c) kept.length (kept.map Value.string) ∧ Below W1.heap.size W1 wr ∧ NormAt xs k kept s.size)
    (fun _ i _ => xs.length - (intOf i).toNat)
  case atStart => exact ⟨0, [], none, 0, Nat.zero_le _, rfl, rfl, World.ownsRow_nil _ _ _ _, Below.refl _ _, H0⟩
  case round =>
    obtain ⟨k, kept, a, c, hk, rfl, rfl, hown, hnx, hat⟩ := hrel
    have HAT := Lib.hid hat
    have hkl : kept.length ≤ k := hat.2.2
    clear hat H0
    by_cases hlt : k < xs.length
    · obtain ⟨x, hx⟩ : ∃ x, xs[k]? = some x := ⟨xs[k], List.getElem?_eq_getElem hlt⟩
      have hcx : wr.cell? ⟨w.heap.size, k, none⟩ = some (.string x) := (hnx.cell (by have := HSI.out; show w.heap.size < _; omega)).trans (HCS.out k x hx)
      have HX0 := Lib.hid hx
      clear hx
      by_cases e1 : x.toList = []
      · have HS := Lib.hid (HAT.out.skip HX0.out (.inl e1))
        go_wp2
        go_roundw
        case rel => exact ⟨k + 1, kept, a, c, by omega, by go_num, rfl, hown, hnx, HS.out⟩
        case measure => simp [intOf]; omega
      · have b1 : x.toList.isEmpty = false := List.isEmpty_eq_false_iff.2 e1
        by_cases e2 : x.toList = [46]
        · have HS := Lib.hid (HAT.out.skip HX0.out (.inr e2))
          go_wp2
          go_roundw
          case rel => exact ⟨k + 1, kept, a, c, by omega, by go_num, rfl, hown, hnx, HS.out⟩
          case measure => simp [intOf]; omega
        · have b2 : (x.toList == [46]) = false := by simpa using e2
          by_cases e3 : x.toList = [46, 46]
          · by_cases e4 : kept.length = 0
            · have HS := Lib.hid (HAT.out.fall HX0.out e3 e4)
              have b4 : ((kept.length : Int) == 0) = true := by rw [e4]; rfl
              clear e4 hown
              go_wp2
              go_ret2
              have hrr : r1 = [] ∧ r2 = false := by have := HR'.out; rw [HS.out] at this; simpa only [Prod.mk.injEq] using this
              exact ⟨ret_two (by rw [hrr.1]) hrr.2.symm, hb1.trans (hnx.mono hb1.size)⟩
            · have hne : kept ≠ [] := fun e => e4 (by rw [e]; rfl)
              obtain ⟨a', c', hv, hg, hn', hm'⟩ := own_shape hown
              obtain ⟨g, hg⟩ := hg e4
              cases hv
              subst hg
              have HS := Lib.hid (HAT.out.up HX0.out e3 hne)
              have hown' := own_pop hne hown
              have hdl : kept.dropLast.length = kept.length - 1 := List.length_dropLast
              have b4 : ((kept.length : Int) == 0) = false := by simp; omega
              have hp : 0 < kept.length := by omega
              have HD := Lib.hid hdl
              clear hdl e4 hne hown
              go_wp2
              go_roundw
              case rel => exact ⟨k + 1, kept.dropLast, some ⟨g, 0, none⟩, c, by omega, by go_num, by rw [HD.out], hown', hnx, HS.out⟩
              case measure => simp [intOf]; omega
          · have b3 : (x.toList == [46, 46]) = false := by simpa using e3
            have HS := Lib.hid (HAT.out.keep HX0.out e1 e2 e3)
            go_wp2_with (at_builtin; refine wpList_append_own _ rfl _ _ 35 rfl W1.heap.size 9 i0 (.string ByteArray.empty) 1 16 Tryz.underlying35 hi hz0 hz1 hz2 rfl (by decide) _ _ _ rfl (hown.alloc _) ⟨wr.heap.size, 0, none⟩ 1 1 [.string x] rfl rfl ?c1 ?c2 ?c3 ?c4 ?c5 ?_)
            case c1 =>
              intro j u hj
              match j, hj with
              | 0, hj => simp at hj; subst hj; simp [Addr.add]
            case c2 => intro u hu; simp at hu; subst hu; rfl
            case c3 => unfold maxLen; omega
            case c4 => omega
            case c5 => have := hnx.size; simp; omega
            · intro v' w1 hown' hgrow _
              have hnx' : Below W1.heap.size W1 w1 := (hnx.alloc hnx.size _).grown hgrow (by have := hnx.size; simp; omega) (fun g hg => (hown.lt g hg).1)
              clear hgrow hown hcx
              obtain ⟨a', c', hv, _⟩ := own_shape hown'
              have hl : (kept ++ [x]).length = kept.length + 1 := by simp
              have hmm : (kept ++ [x]).map Value.string = kept.map Value.string ++ [Value.string x] := by simp
              rw [hv, ← hl, ← hmm] at hown'
              have HV := Lib.hid hv
              clear hv hmm
              have HL := Lib.hid hl
              clear hl
              go_wp2
              go_roundw
              case rel => exact ⟨k + 1, kept ++ [x], a', c', by omega, by go_num, by rw [HV.out, HL.out], hown', hnx', HS.out⟩
              case measure => simp [intOf]; omega
    · have hd := HAT.out.done (by omega)
      have hS := strs_own (v := .slice a kept.length c) hown
      have cJ := join_any _ kept wr hS (by omega) (by have := hd.2; omega)
      have HD := Lib.hid hd
      obtain ⟨j, hj⟩ : ∃ j, joinS (kept.map (·.data.toList)) = j := ⟨_, rfl⟩
      have hjl : j.length ≤ 4294967281 * 2 := by have := HD.out.2; rw [hj] at this; omega
      rw [hj] at cJ
      have HJ := Lib.hid hj
      have hm2 : wr.cell? ⟨1, 0, none⟩ = some (.int .i64 m) := (hnx.cell (by have := hb1.size; show 1 < _; omega)).trans ((hb1.cell hG).trans hm)
      have HM := Lib.hid hm2
      clear hd hj hS hown hm2 hm
      go_wp2_with fail
      refine cJ.mono ?_
      rintro e w2 ⟨rfl, hb2⟩
      have hm3 : w2.cell? ⟨1, 0, none⟩ = some (.int .i64 m) := (hb2.cell (by have := hb1.size; have := hnx.size; show 1 < _; omega)).trans HM.out
      have cM := may_any ⟨j.toArray⟩ m w2 (by unfold maxLen; simp only [ByteArray.size, List.size_toArray]; omega) hm3
      obtain ⟨b, hb⟩ : ∃ b, okName j = b := ⟨_, rfl⟩
      rw [show (⟨j.toArray⟩ : ByteArray).data.toList = j from by simp, hb] at cM
      have HB := Lib.hid hb
      clear hb hm3
      have hrr : Hid ((r1, r2) = if b = true then (j, true) else ([], false)) := by
        show _ = _
        have := HR'.out
        rw [HD.out.1] at this
        simp only [HJ.out, HB.out] at this
        exact this
      have hbb := hb1.trans ((hnx.mono hb1.size).trans (hb2.mono (by have := hnx.size; have := hb1.size; omega)))
      have hs2 : w.heap.size ≤ w2.heap.size := hbb.size
      cases b
      · go_wp2_with (go_at_call 75; refine cM.mono ?_; rintro e w3 ⟨rfl, hb3⟩)
        go_ret2
        have hr3 : r1 = [] ∧ r2 = false := by have := hrr.out; simpa using this
        exact ⟨ret_two (by rw [hr3.1]) hr3.2.symm, hbb.trans (hb3.mono hs2)⟩
      · go_wp2_with (go_at_call 75; refine cM.mono ?_; rintro e w3 ⟨rfl, hb3⟩)
        go_ret2
        have hr3 : r1 = j ∧ r2 = true := by have := hrr.out; simpa using this
        exact ⟨ret_two (by rw [hr3.1]) hr3.2.symm, hbb.trans (hb3.mono hs2)⟩
end Go.Proofs.YtlmnabhhgplhnaaGreatDoor
namespace Go.Proofs.YtlmnabhhgplhnaaGreatDoor
open Go.RowKit

/-- A slice of files that owns its row (block r), or an empty one without room. -/
def OwnF (w : World) (B : Nat) (r : Option Nat) (v : Value) (fs : List F2) : Prop :=
  (w.ownsRow B 109 2 v fs.length (fileCells fs) ∧ r = v.ownBlock) ∨ (fs = [] ∧ r = none ∧ ∃ a, v = .slice a 0 0)

def InsPost (w : World) (B : Nat) (r : Option Nat) (fs : List F2) (e : Ending) (w' : World) : Prop :=
  ∃ v' r', e = .returned v' ∧ OwnF w' B r' v' fs ∧ w.grownBy w' r ∧ (r' = r ∨ ∃ k, r' = some k ∧ w.heap.size ≤ k)

theorem own_mono {w : World} {B B' e size : Nat} {v : Value} {n : Nat} {xs : List Value} (h : w.ownsRow B e size v n xs) (hB : B' ≤ B) : w.ownsRow B' e size v n xs := by
  obtain ⟨h1, h2 | ⟨g, cap, cur, hv, hg, hr⟩⟩ := h
  · exact ⟨h1, .inl h2⟩
  · exact ⟨h1, .inr ⟨g, cap, cur, hv, Nat.le_trans hB hg, hr⟩⟩
theorem own_fresh {w : World} {B e size : Nat} {v : Value} {n : Nat} {xs : List Value} (h : w.ownsRow B e size v n xs) (hn : n ≠ 0) : ∃ k, v.ownBlock = some k ∧ B ≤ k := by
  obtain ⟨h1, ⟨_, h2⟩ | ⟨g, cap, cur, hv, hg, hr⟩⟩ := h
  · exact absurd h2 hn
  · exact ⟨g, by rw [hv]; rfl, hg⟩

set_option maxHeartbeats 4000000 in
set_option maxRecDepth 100000 in
/-- At the end of a row that has room. -/
theorem insert_end_room (B vb g c : Nat) (fs : List F2) (f : F2) (w : World) (_hn : fs.length ≤ 1000) (hc : fs.length + 1 ≤ c)
    (hown : w.ownsRow B 109 2 (.slice (some ⟨g, 0, none⟩) fs.length c) fs.length (fileCells fs))
    (hv : w.heap[vb]? = some (.cells #[.string f.1, .string f.2] 109 (0, 0))) :
    Calls Tryz.prog 134 #[.slice (some ⟨g, 0, none⟩) fs.length c, .int .i64 fs.length, .slice (some ⟨vb, 0, none⟩) 1 1] w (InsPost w B (some g) (fs ++ [f])) := by
  obtain ⟨i0, hi0, hz0, hz1, hz2⟩ := info_parts info_file
  have hcm := (own_shape hown)
  obtain ⟨a', c', hv', _, hnc, hcm⟩ := hcm
  cases hv'
  unfold maxLen at hcm
  have hne : ¬ (c = fs.length) := by omega
  go_enter Tryz.func134, Tryz.ntmps134
  go_wp2_with (at_builtin; refine wpList_append_fits _ rfl _ _ 133 rfl B 109 i0 2 Tryz.underlying133 hi0 hz1 g _ _ _ rfl hown ⟨vb, 0, none⟩ 1 1 [.string f.1, .string f.2] rfl rfl ?c1 ?c2 hc ?_)
  case c1 => exact fun j u hj => row_cell hv 0 j u (by simpa using hj)
  case c2 => intro u hu; simp at hu; rcases hu with rfl | rfl <;> rfl
  intro w' hown' hgrow
  have HO : Hid (OwnF w' B (some g) (.slice (some ⟨g, 0, none⟩) (fs.length + 1) c) (fs ++ [f])) := by
    refine .inl ⟨?_, rfl⟩
    rw [fileCells_append, fileCells_cons, fileCells_nil]
    simpa using hown'
  clear hown'
  go_wp2
  go_ret
  exact ⟨_, _, rfl, HO.out, hgrow, .inl rfl⟩

set_option maxHeartbeats 4000000 in
set_option maxRecDepth 100000 in
/-- At the end of a row without room, or of none. -/
theorem insert_end_grow (B vb c : Nat) (a : Option Addr) (r : Option Nat) (fs : List F2) (f : F2) (w : World) (hn : fs.length ≤ 1000) (hc : c = fs.length) (hB : B ≤ w.heap.size) (hnone : a = none → fs.length = 0)
    (hcs : ∀ b, a = some b → ∀ j u, (fileCells fs)[j]? = some u → w.cell? (b.add j) = some u)
    (hv : w.heap[vb]? = some (.cells #[.string f.1, .string f.2] 109 (0, 0))) :
    Calls Tryz.prog 134 #[.slice a fs.length c, .int .i64 fs.length, .slice (some ⟨vb, 0, none⟩) 1 1] w (InsPost w B r (fs ++ [f])) := by
  obtain ⟨i0, hi0, hz0, hz1, hz2⟩ := info_parts info_file
  subst hc
  have HCS := Lib.hid hcs
  clear hcs
  go_enter Tryz.func134, Tryz.ntmps134
  go_wp2_with (at_builtin; refine wpList_append_grows _ rfl _ _ 133 rfl 109 i0 _ 2 32 Tryz.underlying133 hi0 hz0 hz1 hz2 rfl (by decide) a fs.length fs.length (fileCells fs) rfl ?c0 ?cl ?cs ⟨vb, 0, none⟩ 1 1 [.string f.1, .string f.2] rfl rfl ?c1 ?c2 ?c3 ?c4 ?c5 ?_)
  case c0 => exact fun h => ⟨hnone h, hnone h⟩
  case cl => exact fileCells_length fs
  case cs => exact HCS.out
  case c1 => exact fun j u hj => row_cell hv 0 j u (by simpa using hj)
  case c2 => intro u hu; simp at hu; rcases hu with rfl | rfl <;> rfl
  case c3 => omega
  case c4 => unfold maxLen; omega
  case c5 => omega
  all_goals
    intro v' w' hown' hgrow
    obtain ⟨k, hk, hkB⟩ := own_fresh hown' (by omega)
    have HO : Hid (OwnF w' B (some k) v' (fs ++ [f])) := by
      refine .inl ⟨?_, hk.symm⟩
      rw [fileCells_append, fileCells_cons, fileCells_nil]
      simpa using own_mono hown' hB
    have HG : Hid (w.grownBy w' r) := ⟨hgrow.os, hgrow.tape, hgrow.output, hgrow.size, fun k hk _ => hgrow.block k hk (by simp)⟩
    clear hown' hgrow
    go_wp2
    go_ret
    exact ⟨_, _, rfl, HO.out, HG.out, .inr ⟨k, rfl, hkB⟩⟩

theorem grown_of {w w' : World} {r : Option Nat} (h : w.grownBy w' none) : w.grownBy w' r := ⟨h.os, h.tape, h.output, h.size, fun k hk _ => h.block k hk (by simp)⟩

/-- slices.Insert of one file. -/
theorem insert_any (B vb i : Nat) (r : Option Nat) (v : Value) (fs : List F2) (f : F2) (w : World) (hi : i ≤ fs.length) (hn : fs.length ≤ 1000) (hB : B ≤ w.heap.size)
    (hown : OwnF w B r v fs) (hvb : some vb ≠ r)
    (hv : w.heap[vb]? = some (.cells #[.string f.1, .string f.2] 109 (0, 0))) :
    Calls Tryz.prog 134 #[v, .int .i64 i, .slice (some ⟨vb, 0, none⟩) 1 1] w (InsPost w B r (fs.take i ++ f :: fs.drop i)) := by
  rcases hown with ⟨hown, rfl⟩ | ⟨rfl, rfl, a, rfl⟩
  · obtain ⟨hl, ⟨rfl, h0⟩ | ⟨g, c, cur, rfl, hgB, hg, hnc, hcm, hcs, htk⟩⟩ := id hown
    · obtain rfl := List.eq_nil_of_length_eq_zero h0
      obtain rfl : i = 0 := by simpa using hi
      exact insert_end_grow B vb 0 none _ [] f w hn rfl hB (fun _ => rfl) (fun b hb => by cases hb) hv
    · by_cases he : i = fs.length
      · subst he
        rw [List.take_length, List.drop_length]
        by_cases hc : fs.length + 1 ≤ c
        · exact insert_end_room B vb g c fs f w hn hc hown hv
        · exact insert_end_grow B vb c (some ⟨g, 0, none⟩) _ fs f w hn (by omega) hB (fun h => by cases h) (fun b hb j u hj => by
            cases hb
            refine row_cell hg 0 j u ?_
            rw [← htk, List.getElem?_take] at hj
            split at hj
            · simpa using hj
            · cases hj) hv
      · by_cases hc : fs.length + 1 ≤ c
        · refine (insert_shift g fs.length c i vb fs f cur w (by omega) hc hn (by unfold maxLen at hcm; omega) (fun e => hvb (by rw [e]; rfl)) rfl hg hcs htk hv).mono ?_
          rintro e w' ⟨rfl, cur', hg', hcs', htk', hgrow⟩
          refine ⟨_, _, rfl, .inl ⟨⟨by rw [fileCells_length], .inr ⟨g, c, cur', ?_, hgB, hg', ?_, hcm, hcs', ?_⟩⟩, rfl⟩, hgrow, .inl rfl⟩
          · congr 1; simp; omega
          · simp; omega
          · rw [show (fs.take i ++ f :: fs.drop i).length = fs.length + 1 from by simp; omega]; exact htk'
        · refine (insert_grow g fs.length c i vb fs f cur w (by omega) (by omega) hn hnc rfl hg hcs htk hv).mono ?_
          rintro e w' ⟨G, rfl, hG, hGm, cur', hg', hcs', htk', hgrow⟩
          refine ⟨_, _, rfl, .inl ⟨⟨by rw [fileCells_length], .inr ⟨w.heap.size, G, cur', ?_, hB, hg', ?_, hGm, hcs', ?_⟩⟩, rfl⟩, grown_of hgrow, .inr ⟨w.heap.size, rfl, Nat.le_refl _⟩⟩
          · congr 1; simp; omega
          · simp; omega
          · rw [show (fs.take i ++ f :: fs.drop i).length = fs.length + 1 from by simp; omega]; exact htk'
  · obtain rfl : i = 0 := by simpa using hi
    exact insert_end_grow B vb 0 a _ [] f w hn rfl hB (fun _ => rfl) (fun b hb j u hj => by simp [fileCells] at hj) hv
end Go.Proofs.YtlmnabhhgplhnaaGreatDoor
namespace Go.Proofs.YtlmnabhhgplhnaaGreatDoor
open Go.RowKit

/-- A slice of files that can be read in a world. -/
def IsFiles (w : World) (v : Value) (fs : List F2) : Prop :=
  ∃ a c, v = .slice a fs.length c ∧ fs.length ≤ c ∧ c ≤ maxLen ∧ (fs ≠ [] → ∃ b o, a = some ⟨b, o, none⟩ ∧ b < w.heap.size ∧ ∀ (j : Nat) x, fs[j]? = some x → w.cell? ⟨b, o + j * 2, none⟩ = some (.string x.1) ∧ w.cell? ⟨b, o + j * 2 + 1, none⟩ = some (.string x.2))

theorem IsFiles.below {w w' : World} {v : Value} {fs : List F2} (h : IsFiles w v fs) (hb : Below w.heap.size w w') : IsFiles w' v fs := by
  obtain ⟨a, c, rfl, h1, h1m, h2⟩ := h
  refine ⟨a, c, rfl, h1, h1m, fun hne => ?_⟩
  obtain ⟨b, o, rfl, h3, h4⟩ := h2 hne
  exact ⟨b, o, rfl, Nat.lt_of_lt_of_le h3 hb.size, fun j x hx => ⟨(hb.cell h3).trans (h4 j x hx).1, (hb.cell h3).trans (h4 j x hx).2⟩⟩

theorem fileCells_at (fs : List F2) : ∀ (j : Nat) (x : F2), fs[j]? = some x → (fileCells fs)[j * 2]? = some (.string x.1) ∧ (fileCells fs)[j * 2 + 1]? = some (.string x.2) := by
  induction fs with
  | nil => intro j x h; simp at h
  | cons f fs ih =>
    intro j x h
    rw [fileCells_cons]
    cases j with
    | zero => simp at h; subst h; simp
    | succ j => rw [Nat.add_mul]; simpa using ih j x (by simpa using h)

theorem OwnF.files {w : World} {B : Nat} {r : Option Nat} {v : Value} {fs : List F2} (h : OwnF w B r v fs) : IsFiles w v fs := by
  rcases h with ⟨hown, rfl⟩ | ⟨rfl, rfl, a, rfl⟩
  · obtain ⟨hl, ⟨rfl, h0⟩ | ⟨g, c, cur, rfl, hgB, hg, hnc, hcm, hcs, htk⟩⟩ := hown
    · obtain rfl := List.eq_nil_of_length_eq_zero h0
      exact ⟨none, 0, rfl, by simp, by simp [maxLen], fun h => absurd rfl h⟩
    · refine ⟨_, c, rfl, hnc, hcm, fun _ => ⟨g, 0, rfl, ?_, fun j x hx => ?_⟩⟩
      · rcases Nat.lt_or_ge g w.heap.size with h | h
        · exact h
        · rw [Array.getElem?_eq_none h] at hg; cases hg
      · have key : ∀ (t : Nat) u, (fileCells fs)[t]? = some u → w.cell? ⟨g, t, none⟩ = some u := by
          intro t u hu
          rw [← htk, List.getElem?_take] at hu
          split at hu
          · simp only [World.cell?, hg]; simpa using hu
          · cases hu
        have := fileCells_at fs j x hx
        rw [Nat.zero_add]
        exact ⟨key _ _ this.1, key _ _ this.2⟩
  · exact ⟨a, 0, rfl, by simp, by simp [maxLen], fun h => absurd rfl h⟩

theorem compare_c (a b : ByteArray) (w : World) : Calls Tryz.prog 48 #[.string a, .string b] w fun e w' => e = .returned (.int .i64 (Lib.compareBytes a.data.toList b.data.toList)) ∧ w' = w :=
  Any.strings_Compare lLays_n106 a b w

theorem cmp_range : ∀ a b : List UInt8, -1 ≤ Lib.compareBytes a b ∧ Lib.compareBytes a b ≤ 1
  | [], [] => by simp [Lib.compareBytes]
  | [], _ :: _ => by simp [Lib.compareBytes]
  | _ :: _, [] => by simp [Lib.compareBytes]
  | a :: l, b :: m => by
    unfold Lib.compareBytes
    split
    · decide
    · split
      · decide
      · exact cmp_range l m

theorem closure_any (f : F2) (x : ByteArray) (w : World) : Calls Tryz.prog 136 #[.agg #[.string f.1, .string f.2], .string x] w fun e w' => e = .returned (.int .i64 (cmpF f x)) ∧ Below w.heap.size w w' := by
  obtain ⟨n, hn⟩ : ∃ n, cmpF f x = n := ⟨_, rfl⟩
  have hc := fun w => compare_c f.1 x w
  rw [hn]
  rw [show Lib.compareBytes f.1.data.toList x.data.toList = n from hn] at hc
  have HC := Lib.hid hc
  clear hc hn
  go_enter Tryz.func136, Tryz.ntmps136
  go_wp2_with (go_at_call 48; refine (HC.out _).mono ?_; rintro e w' ⟨rfl, rfl⟩)
  go_ret
  exact ⟨rfl, (Below.refl _ _).alloc (Nat.le_refl _) _⟩

set_option maxHeartbeats 4000000 in
set_option maxRecDepth 100000 in
theorem search_any (v : Value) (fs : List F2) (x : ByteArray) (w : World) (h : IsFiles w v fs) (hn : fs.length ≤ 1000) (hs : Sorted fs) :
    Calls Tryz.prog 135 #[v, .string x, .func (.func 136) #[] #[]] w fun e w' => e = .returned (.tuple #[.int .i64 (posOf fs x : Nat), .bool (hasF fs x)]) ∧ Below w.heap.size w w' := by
  obtain ⟨a, c, rfl, h1, h1m, h2⟩ := h
  have hcells : ∀ (k : Nat) x, fs[k]? = some x → ∃ b o, a = some ⟨b, o, none⟩ ∧ b < w.heap.size ∧ w.cell? ⟨b, o + k * 2, none⟩ = some (.string x.1) ∧ w.cell? ⟨b, o + k * 2 + 1, none⟩ = some (.string x.2) := by
    intro k x hx
    obtain ⟨b, o, ha, hb, hc⟩ := h2 (by rintro rfl; simp at hx)
    exact ⟨b, o, ha, hb, hc k x hx⟩
  have HC := Lib.hid hcells
  have HS := Lib.hid hs
  clear hcells h2 hs
  unfold maxLen at h1m
  go_enter Tryz.func135, Tryz.ntmps135
  go_wp2
  go_loopw [9, 10] (fun p q wr => ∃ i j : Nat, i ≤ j ∧ j ≤ fs.length ∧ p = .int .i64 i ∧ q = .int .i64 j ∧ (∀ (t : Nat) f, t < i → fs[t]? = some f → cmpF f x < 0) ∧ (∀ (t : Nat) f, j ≤ t → fs[t]? = some f → ¬ cmpF f x < 0) ∧ Below w.heap.size w wr)
    (fun p q _ => (intOf q).toNat - (intOf p).toNat)
  case atStart => exact ⟨0, fs.length, Nat.zero_le _, Nat.le_refl _, rfl, rfl, fun t f h => absurd h (by omega), fun t f h hf => by have := (List.getElem?_eq_some_iff.1 hf).1; omega, Below.refl _ _⟩
  case round =>
    obtain ⟨i, j, hij, hj, rfl, rfl, hlo, hhi, hnx⟩ := hrel
    have HLO := Lib.hid hlo
    have HHI := Lib.hid hhi
    clear hlo hhi
    by_cases hlt : i < j
    · obtain ⟨h, hh⟩ : ∃ h : Nat, h = (i + j) / 2 := ⟨_, rfl⟩
      have hih : i ≤ h := by omega
      have hhj : h < j := by omega
      have heq : ((i : Int) + (j : Int)) / 2 = (h : Int) := by omega
      clear hh
      obtain ⟨f, hf⟩ : ∃ f, fs[h]? = some f := ⟨fs[h], List.getElem?_eq_getElem (by omega)⟩
      obtain ⟨b, o, ha, hb, hc0, hc1⟩ := HC.out h f hf
      subst ha
      have hcx0 : wr.cell? ⟨b, o + h * 2, none⟩ = some (.string f.1) := (hnx.cell (by exact hb)).trans hc0
      have hcx1 : wr.cell? ⟨b, o + h * 2 + 1, none⟩ = some (.string f.2) := (hnx.cell (by exact hb)).trans hc1
      have HF := Lib.hid hf
      obtain ⟨cv, hcv⟩ : ∃ cv, cmpF f x = cv := ⟨_, rfl⟩
      have hrange : -1 ≤ cv ∧ cv ≤ 1 := by rw [← hcv]; exact cmp_range _ _
      have cC := closure_any f x wr
      rw [hcv] at cC
      have HCV := Lib.hid hcv
      have hlt' : h < fs.length := by omega
      clear hf hc0 hc1 hcv
      by_cases hneg : cv < 0
      · go_wp2_with (go_at_call 136; refine cC.mono ?_; rintro e w2 ⟨rfl, hb2⟩)
        go_roundw
        case rel => exact ⟨h + 1, j, by omega, hj, by go_num, rfl, fun t g ht hg => sorted_mono HS.out (by omega) hg HF.out (by rw [HCV.out]; exact hneg), fun t g ht hg => Int.not_lt.2 (HHI.out t g ht hg), hnx.trans (hb2.mono hnx.size)⟩
        case measure => simp [intOf]; omega
      · go_wp2_with (go_at_call 136; refine cC.mono ?_; rintro e w2 ⟨rfl, hb2⟩)
        go_roundw
        case rel => exact ⟨i, h, by omega, by omega, rfl, by go_num, HLO.out, fun t g ht hg hx => absurd (show cv < 0 by rw [← HCV.out]; exact sorted_mono HS.out ht HF.out hg hx) (Int.not_lt.2 hneg), hnx.trans (hb2.mono hnx.size)⟩
        case measure => simp [intOf]; omega
    · obtain rfl : i = j := by omega
      have hpos : posOf fs x = i := posOf_eq hj HLO.out HHI.out
      have hhas := hasF_at HS.out HLO.out HHI.out
      have HP := Lib.hid hpos
      have HH := Lib.hid hhas
      clear hpos hhas
      by_cases hin : i < fs.length
      · obtain ⟨f, hf⟩ : ∃ f, fs[i]? = some f := ⟨fs[i], List.getElem?_eq_getElem hin⟩
        obtain ⟨b, o, ha, hb, hc0, hc1⟩ := HC.out i f hf
        subst ha
        have hcx0 : wr.cell? ⟨b, o + i * 2, none⟩ = some (.string f.1) := (hnx.cell (by exact hb)).trans hc0
        have hcx1 : wr.cell? ⟨b, o + i * 2 + 1, none⟩ = some (.string f.2) := (hnx.cell (by exact hb)).trans hc1
        have HF := Lib.hid hf
        obtain ⟨cv, hcv⟩ : ∃ cv, cmpF f x = cv := ⟨_, rfl⟩
        have cC := closure_any f x wr
        rw [hcv] at cC
        have HCV := Lib.hid hcv
        clear hf hc0 hc1 hcv
        go_wp2_with (go_at_call 136; refine cC.mono ?_; rintro e w2 ⟨rfl, hb2⟩)
        go_ret2
        refine ⟨ret_num (by rw [HP.out]) ?_, hnx.trans (hb2.mono hnx.size)⟩
        rw [Bool.eq_iff_iff, ← HH.out]
        simp only [beq_iff_eq]
        exact ⟨fun h0 => ⟨f, HF.out, by rw [HCV.out]; exact h0⟩, fun ⟨g, hg, h0⟩ => by rw [HF.out] at hg; injection hg with hg; rw [← HCV.out, hg]; exact h0⟩
      · go_wp2
        go_ret2
        refine ⟨ret_num (by rw [HP.out]) ?_, hnx⟩
        rw [Bool.eq_iff_iff, ← HH.out]
        exact ⟨fun h => absurd h (by decide), fun ⟨g, hg, _⟩ => absurd (List.getElem?_eq_some_iff.1 hg).1 hin⟩
end Go.Proofs.YtlmnabhhgplhnaaGreatDoor
namespace Go.Proofs.YtlmnabhhgplhnaaGreatDoor
open Go.RowKit

/-- A tree in a world: its own block b, its row r. -/
def IsTree (w : World) (B b : Nat) (r : Option Nat) (fs : List F2) : Prop :=
  B ≤ b ∧ Sorted fs ∧ fs.length ≤ 60 ∧ ∃ v, w.heap[b]? = some (.cells #[v] 135 (0, 0)) ∧ OwnF w B r v fs

theorem OwnF.kept {w w' : World} {B : Nat} {r row : Option Nat} {v : Value} {fs : List F2} (h : OwnF w B r v fs) (hg : w.grownBy w' row) (hne : r = none ∨ r ≠ row) : OwnF w' B r v fs := by
  rcases h with ⟨hown, rfl⟩ | ⟨rfl, rfl, a, rfl⟩
  · exact .inl ⟨hown.kept hg hne, rfl⟩
  · exact .inr ⟨rfl, rfl, a, rfl⟩

theorem OwnF.shape {w : World} {B : Nat} {r : Option Nat} {v : Value} {fs : List F2} (h : OwnF w B r v fs) : ∃ a c, v = .slice a fs.length c ∧ fs.length ≤ c ∧ c ≤ maxLen := by
  obtain ⟨a, c, hv, h1, h2, _⟩ := h.files
  exact ⟨a, c, hv, h1, h2⟩

theorem OwnF.lt {w : World} {B : Nat} {r : Option Nat} {v : Value} {fs : List F2} (h : OwnF w B r v fs) {k : Nat} (hk : r = some k) : B ≤ k ∧ k < w.heap.size := by
  rcases h with ⟨hown, rfl⟩ | ⟨rfl, rfl, a, rfl⟩
  · exact hown.lt k hk
  · cases hk

theorem block_lt {w : World} {b : Nat} {o : Obj} (h : w.heap[b]? = some o) : b < w.heap.size := by
  rcases Nat.lt_or_ge b w.heap.size with h' | h'
  · exact h'
  · rw [Array.getElem?_eq_none h'] at h; cases h

theorem grown_below {w w' : World} (h : Below w.heap.size w w') (row : Option Nat) : w.grownBy w' row := ⟨h.os, h.tape, h.output, h.size, fun k hk _ => h.block k hk⟩

theorem IsTree.below {w w' : World} {B b : Nat} {r : Option Nat} {fs : List F2} (h : IsTree w B b r fs) (hb : Below w.heap.size w w') : IsTree w' B b r fs := by
  obtain ⟨h1, h2, h3, v, h4, h5⟩ := h
  exact ⟨h1, h2, h3, v, (hb.block b (block_lt h4)).trans h4, h5.kept (grown_below hb none) (by cases r <;> simp)⟩

theorem IsTree.ptr {w : World} {B b : Nat} {r : Option Nat} {fs : List F2} (h : IsTree w B b r fs) : ∃ a c, w.heap[b]? = some (.cells #[.slice a fs.length c] 135 (0, 0)) ∧ OwnF w B r (.slice a fs.length c) fs ∧ fs.length ≤ c ∧ c ≤ maxLen := by
  obtain ⟨_, _, _, v, h4, h5⟩ := h
  obtain ⟨a, c, rfl, h6, h7⟩ := h5.shape
  exact ⟨a, c, h4, h5, h6, h7⟩

theorem all_any (b n c : Nat) (a : Option Addr) (w : World) (h : w.heap[b]? = some (.cells #[.slice a n c] 135 (0, 0))) :
    Calls Tryz.prog 114 #[.pointer (some ⟨b, 0, none⟩)] w fun e w' => e = .returned (.slice a n c) ∧ w = w' := by
  have hc : w.cell? ⟨b, 0, none⟩ = some (.slice a n c) := by simp [World.cell?, h]
  clear h
  go_enter Tryz.func114, Tryz.ntmps114
  go_wp2
  go_ret
  exact ⟨rfl, rfl⟩

theorem all_nil (w : World) :
    Calls Tryz.prog 114 #[.pointer none] w fun e w' => e = .returned (.slice none 0 0) ∧ w = w' := by
  go_enter Tryz.func114, Tryz.ntmps114
  go_wp2
  go_ret
  exact ⟨rfl, rfl⟩

theorem find_any (B b : Nat) (r : Option Nat) (fs : List F2) (x : ByteArray) (w : World) (h : IsTree w B b r fs) :
    Calls Tryz.prog 109 #[.pointer (some ⟨b, 0, none⟩), .string x] w fun e w' => e = .returned (.tuple #[.int .i64 (posOf fs x : Nat), .bool (hasF fs x)]) ∧ Below w.heap.size w w' := by
  obtain ⟨a, c, hb, hown, hc⟩ := h.ptr
  have hA := all_any b fs.length c a w hb
  have hS := search_any _ fs x w hown.files (by have := h.2.2.1; omega) h.2.1
  obtain ⟨p, hp⟩ : ∃ p, posOf fs x = p := ⟨_, rfl⟩
  obtain ⟨q, hq⟩ : ∃ q, hasF fs x = q := ⟨_, rfl⟩
  rw [hp, hq] at hS ⊢
  clear hp hq h hown hc hb
  go_enter Tryz.func109, Tryz.ntmps109
  go_wp2_with fail
  refine hA.mono ?_
  rintro e w' ⟨rfl, rfl⟩
  go_wp2_with fail
  refine hS.mono ?_
  rintro e w' ⟨rfl, hb⟩
  go_wp2
  go_ret2
  exact ⟨rfl, hb⟩

theorem find_nil (x : ByteArray) (w : World) :
    Calls Tryz.prog 109 #[.pointer none, .string x] w fun e w' => e = .returned (.tuple #[.int .i64 0, .bool false]) ∧ Below w.heap.size w w' := by
  have hS := search_any (.slice none 0 0) [] x w ⟨none, 0, rfl, by simp, by simp [maxLen], fun h => absurd rfl h⟩ (by simp) List.Pairwise.nil
  go_enter Tryz.func109, Tryz.ntmps109
  go_wp2_with fail
  refine (all_nil w).mono ?_
  rintro e w' ⟨rfl, rfl⟩
  go_wp2_with fail
  refine hS.mono ?_
  rintro e w' ⟨rfl, hb⟩
  go_wp2
  go_ret2
  exact ⟨rfl, hb⟩

/-- What Read tells. -/
def readF (fs : List F2) (x : ByteArray) : ByteArray × Bool :=
  if hasF fs x then (match fs[posOf fs x]? with | some f => (f.2, true) | none => (ByteArray.empty, true)) else (ByteArray.empty, false)

theorem hasF_pos {fs : List F2} (hs : Sorted fs) {x : ByteArray} (h : hasF fs x = true) : ∃ f, fs[posOf fs x]? = some f ∧ f.1 = x := by
  obtain ⟨h1, h2⟩ := posOf_spec x hs
  obtain ⟨f, hf, h0⟩ := (hasF_at hs h1 h2).2 h
  exact ⟨f, hf, cmpF_zero h0⟩

theorem read_any (B b : Nat) (r : Option Nat) (fs : List F2) (x : ByteArray) (w : World) (h : IsTree w B b r fs) :
    Calls Tryz.prog 74 #[.pointer (some ⟨b, 0, none⟩), .string x] w fun e w' => e = .returned (.tuple #[.string (readF fs x).1, .bool (readF fs x).2]) ∧ Below w.heap.size w w' := by
  obtain ⟨a, c, hb, hown, hc⟩ := h.ptr
  have hF := find_any B b r fs x w h
  have hle := posOf_le fs x
  cases hq : hasF fs x with
  | false =>
    have hr : readF fs x = (ByteArray.empty, false) := by unfold readF; rw [hq]; rfl
    rw [hr]
    rw [hq] at hF
    generalize posOf fs x = p at *
    clear hr hq h hown hc hb hle
    go_enter Tryz.func74, Tryz.ntmps74
    go_wp2_with fail
    refine hF.mono ?_
    rintro e w' ⟨rfl, hb⟩
    go_wp2
    go_ret2
    exact ⟨rfl, hb⟩
  | true =>
    obtain ⟨f, hf, _⟩ := hasF_pos h.2.1 hq
    have hr : readF fs x = (f.2, true) := by unfold readF; rw [hq, hf]; rfl
    rw [hr]
    rw [hq] at hF
    obtain ⟨a', c', hv, hc1, hc2, hcell⟩ := hown.files
    cases hv
    obtain ⟨g, o, rfl, hg, hcells⟩ := hcell (by rintro rfl; simp at hf)
    have hcl := (hcells _ f hf).2
    have hpl := (List.getElem?_eq_some_iff.1 hf).1
    have hblt := block_lt hb
    generalize posOf fs x = p at *
    have h60 := h.2.2.1
    clear hr hq h hown hcells hf hcell hc
    unfold maxLen at hc2
    go_enter Tryz.func74, Tryz.ntmps74
    go_wp2_with fail
    refine hF.mono ?_
    rintro e w' ⟨rfl, hb'⟩
    have hbc : w'.cell? ⟨b, 0, none⟩ = some (.slice (some ⟨g, o, none⟩) fs.length c) := (hb'.cell (by exact hblt)).trans (by simp [World.cell?, hb])
    have hfc : w'.cell? ⟨g, o + p * 2 + 1, none⟩ = some (.string f.2) := (hb'.cell (by exact hg)).trans hcl
    go_wp2
    go_ret2
    exact ⟨rfl, hb'⟩
end Go.Proofs.YtlmnabhhgplhnaaGreatDoor
namespace Go.Proofs.YtlmnabhhgplhnaaGreatDoor
open Go.RowKit

/-- Blocks of the variables that the library reads lie below B. -/
def GB (B : Nat) : Prop := 1 < B ∧ 2 < B ∧ 3 < B ∧ 4 < B
theorem GB.mono {B B' : Nat} (h : GB B) (hB : B ≤ B') : GB B' := by
  obtain ⟨h1, h2, h3, h4⟩ := h
  exact ⟨by omega, by omega, by omega, by omega⟩
theorem Glob.gb {w : World} (h : Glob w) : GB w.heap.size := by
  obtain ⟨⟨m, hm⟩, ht, htop, ⟨t1, p1, h1⟩, ⟨t2, p2, h2⟩⟩ := h
  exact ⟨cell_lt hm, htop, cell_lt h1, cell_lt h2⟩
theorem Glob.low {w w' : World} {B : Nat} (h : Glob w) (hB : GB B) (hb : Below B w w') : Glob w' := by
  obtain ⟨⟨m, hm⟩, ht, htop, ⟨t1, p1, h1⟩, ⟨t2, p2, h2⟩⟩ := h
  exact ⟨⟨m, (hb.cell hB.1).trans hm⟩, var?_below hb (by kernel_rfl) hB.2.1 ht, Nat.lt_of_lt_of_le htop hb.size, ⟨t1, p1, (hb.cell hB.2.2.1).trans h1⟩, ⟨t2, p2, (hb.cell hB.2.2.2).trans h2⟩⟩

/-- Nothing that was there has turned but blocks b and r. -/
structure Frame2 (w w' : World) (b : Nat) (r : Option Nat) : Prop where
  os : w'.os = w.os
  tape : w'.tape = w.tape
  output : w'.output = w.output
  size : w.heap.size ≤ w'.heap.size
  block : ∀ k, k < w.heap.size → k ≠ b → some k ≠ r → w'.heap[k]? = w.heap[k]?

theorem Frame2.of_below {w w' : World} (h : Below w.heap.size w w') (b : Nat) (r : Option Nat) : Frame2 w w' b r := ⟨h.os, h.tape, h.output, h.size, fun k hk _ _ => h.block k hk⟩
theorem Frame2.trans {a b c : World} {k : Nat} {r r' : Option Nat} (h : Frame2 a b k r) (h' : Frame2 b c k r') (hr : r' = r ∨ ∃ g, r' = some g ∧ a.heap.size ≤ g) : Frame2 a c k r := by
  refine ⟨h'.os.trans h.os, h'.tape.trans h.tape, h'.output.trans h.output, Nat.le_trans h.size h'.size, fun j hj h1 h2 => ?_⟩
  refine (h'.block j (Nat.lt_of_lt_of_le hj h.size) h1 ?_).trans (h.block j hj h1 h2)
  rcases hr with rfl | ⟨g, rfl, hg⟩
  · exact h2
  · intro e; injection e with e; omega
theorem Frame2.below {w w' : World} {b B : Nat} {r : Option Nat} (h : Frame2 w w' b r) (hB : B ≤ w.heap.size) (hb : B ≤ b) (hr : ∀ k, r = some k → B ≤ k) : Below B w w' :=
  ⟨h.os, h.tape, h.output, h.size, fun k hk => h.block k (by omega) (by omega) (fun e => by have := hr k e.symm; omega)⟩

/-- What Write tells, and what the tree holds then. -/
def writeF (fs : List F2) (x b : ByteArray) : Int × List F2 :=
  if okName x.data.toList = false then (1, fs)
  else if 2000 < b.size then (4, fs)
  else if hasF fs x then (0, fs.set (posOf fs x) (x, b))
  else if 60 ≤ fs.length then (4, fs)
  else (0, fs.take (posOf fs x) ++ (x, b) :: fs.drop (posOf fs x))

def TreePost (w : World) (B b : Nat) (r : Option Nat) (code : Int) (fs : List F2) (e : Ending) (w' : World) : Prop :=
  ∃ r', e = .returned (.int .i64 code) ∧ IsTree w' B b r' fs ∧ Frame2 w w' b r ∧ (r' = r ∨ ∃ k, r' = some k ∧ w.heap.size ≤ k)

theorem fileCells_set (fs : List F2) : ∀ (p : Nat) (f : F2) (b : ByteArray), fs[p]? = some f → (fileCells fs).set (p * 2 + 1) (.string b) = fileCells (fs.set p (f.1, b)) := by
  induction fs with
  | nil => intro p f b h; simp at h
  | cons g fs ih =>
    intro p f b h
    cases p with
    | zero =>
      simp at h; subst h
      rw [List.set_cons_zero, fileCells_cons, fileCells_cons]
      rfl
    | succ p =>
      rw [List.set_cons_succ, fileCells_cons, fileCells_cons, ← ih p f b (by simpa using h), Nat.add_mul]
      rfl

/-- A content is set in place. -/
theorem own_set {w : World} {B g c : Nat} {fs : List F2} {p : Nat} {f : F2} (b : ByteArray) (hp : fs[p]? = some f)
    (h : w.ownsRow B 109 2 (.slice (some ⟨g, 0, none⟩) fs.length c) fs.length (fileCells fs)) :
    (w.setCell ⟨g, p * 2 + 1, none⟩ (.string b)).ownsRow B 109 2 (.slice (some ⟨g, 0, none⟩) fs.length c) (fs.set p (f.1, b)).length (fileCells (fs.set p (f.1, b))) := by
  obtain ⟨hl, ⟨hv, _⟩ | ⟨g', c', cur, hv, hgB, hg, hnc, hcm, hcs, htk⟩⟩ := h
  · cases hv
  · cases hv
    have hpl := (List.getElem?_eq_some_iff.1 hp).1
    rw [setCell_eq_setRow w g (p * 2 + 1) cur _ (0, 0) _ hg]
    refine ⟨by rw [fileCells_length], .inr ⟨g, c, cur.setIfInBounds (p * 2 + 1) (.string b), by rw [List.length_set], hgB, setRow_heap w g _ _ _ _ hg, by simpa using hnc, hcm, by simpa using hcs, ?_⟩⟩
    rw [← fileCells_set fs p f b hp, ← htk, Array.toList_setIfInBounds, List.length_set, List.take_set]

theorem frame_setCell (w : World) (b g : Nat) (o : Nat) (v : Value) : Frame2 w (w.setCell ⟨g, o, none⟩ v) b (some g) :=
  ⟨rfl, rfl, rfl, by simp [World.setCell], fun k _ _ h2 => Below.heap_setCell w _ _ k (fun e => h2 (congrArg some e))⟩

theorem OwnF.ne {w : World} {B b : Nat} {r : Option Nat} {v : Value} {fs : List F2} {cs : Array Value} (h : OwnF w B r v fs) (hb : w.heap[b]? = some (.cells cs 135 (0, 0))) : r ≠ some b := by
  rcases h with ⟨⟨_, ⟨rfl, _⟩ | ⟨g, c, cur, rfl, _, hg, _⟩⟩, rfl⟩ | ⟨_, rfl, _⟩
  · simp [Value.ownBlock]
  · intro e
    injection e with e
    subst e
    rw [hb] at hg; simp at hg
  · simp

/-- The row is laid anew into the tree's own block. -/
theorem tree_put {w : World} {B b : Nat} {r : Option Nat} {v v0 : Value} {fs : List F2} (hB : B ≤ b) (hs : Sorted fs) (hl : fs.length ≤ 60) (hb : w.heap[b]? = some (.cells #[v0] 135 (0, 0))) (h : OwnF w B r v fs) :
    IsTree (w.setCell ⟨b, 0, none⟩ v) B b r fs := by
  have hne := h.ne hb
  refine ⟨hB, hs, hl, v, ?_, h.kept (row := some b) ⟨rfl, rfl, rfl, by simp [World.setCell], fun k _ hk => Below.heap_setCell w _ _ k (fun e => hk (congrArg some e))⟩ (.inr hne)⟩
  rw [setCell_eq_setRow w b 0 _ _ (0, 0) _ hb]
  rw [setRow_heap w b _ _ _ _ hb]
  rfl

theorem insert_c (B vb i : Nat) (r : Option Nat) (v : Value) (fs : List F2) (f : F2) (w : World) (hi : i ≤ fs.length) (hn : fs.length ≤ 1000) (hB : B ≤ w.heap.size)
    (hown : OwnF w B r v fs) (hvb : some vb ≠ r) (hv : w.heap[vb]? = some (.cells #[.string f.1, .string f.2] 109 (0, 0))) :
    Calls Tryz.prog 134 #[v, .int .i64 i, .slice (some ⟨vb, 0, none⟩) 1 1] w fun e w' => ∃ a n c r', e = .returned (.slice a n c) ∧ OwnF w' B r' (.slice a n c) (fs.take i ++ f :: fs.drop i) ∧ w.grownBy w' r ∧ (r' = r ∨ ∃ k, r' = some k ∧ w.heap.size ≤ k) := by
  refine (insert_any B vb i r v fs f w hi hn hB hown hvb hv).mono ?_
  rintro e w' ⟨v', r', rfl, h1, h2, h3⟩
  obtain ⟨a, c, rfl, _⟩ := h1.shape
  exact ⟨a, _, c, r', rfl, h1, h2, h3⟩

set_option maxHeartbeats 2000000 in
theorem write_any (B b : Nat) (r : Option Nat) (fs : List F2) (x y : ByteArray) (w : World) (h : IsTree w B b r fs) (hG : Glob w) (hx : x.size ≤ maxLen) (hy : y.size ≤ maxLen) :
    Calls Tryz.prog 108 #[.pointer (some ⟨b, 0, none⟩), .string x, .string y] w (TreePost w B b r (writeF fs x y).1 (writeF fs x y).2) := by
  obtain ⟨m, hm⟩ := hG.max
  have hM := may_any x m w hx hm
  have hHB : B ≤ w.heap.size := by have := h.1; obtain ⟨a, c, hb, _⟩ := h.ptr; have := block_lt hb; omega
  unfold maxLen at hx hy
  cases hok : okName x.data.toList with
  | false =>
    have hr : writeF fs x y = (1, fs) := by unfold writeF; rw [if_pos hok]
    rw [hr]
    rw [hok] at hM
    have HT := Lib.hid h
    clear hok hr h hm hG
    go_enter Tryz.func108, Tryz.ntmps108
    go_wp2_with (go_at_call 75; refine hM.mono ?_; rintro e w' ⟨rfl, hb⟩)
    go_ret
    exact ⟨r, rfl, HT.out.below hb, Frame2.of_below hb b r, .inl rfl⟩
  | true =>
    rw [hok] at hM
    by_cases hbig : 2000 < y.size
    · have hr : writeF fs x y = (4, fs) := by unfold writeF; rw [if_neg (by rw [hok]; decide), if_pos hbig]
      rw [hr]
      have HT := Lib.hid h
      clear hok hr h hm hG
      go_enter Tryz.func108, Tryz.ntmps108
      go_wp2_with (go_at_call 75; refine hM.mono ?_; rintro e w' ⟨rfl, hb⟩)
      go_ret
      exact ⟨r, rfl, HT.out.below hb, Frame2.of_below hb b r, .inl rfl⟩
    · have hF := fun (w' : World) (hb : Below w.heap.size w w') => find_any B b r fs x w' (h.below hb)
      have hple := posOf_le fs x
      cases hq : hasF fs x with
      | true =>
        obtain ⟨f, hf, hfx⟩ := hasF_pos h.2.1 hq
        have hr : writeF fs x y = (0, fs.set (posOf fs x) (x, y)) := by unfold writeF; rw [if_neg (by rw [hok]; decide), if_neg hbig, if_pos hq]
        rw [hr]
        simp only [hq] at hF
        have hset := sorted_set h.2.1 hf y
        rw [hfx] at hset
        obtain ⟨p, hp⟩ : ∃ p, posOf fs x = p := ⟨_, rfl⟩
        rw [hp] at hF hf hset hple ⊢
        obtain ⟨a, c, hb, hown, hc, hcm⟩ := h.ptr
        have hpl := (List.getElem?_eq_some_iff.1 hf).1
        have h60 := h.2.2.1
        rcases hown with ⟨hown, hrr⟩ | ⟨rfl, _⟩
        · obtain ⟨a', c', hv, hne, _, _⟩ := own_shape hown
          cases hv
          obtain ⟨g, rfl⟩ := hne (by omega)
          obtain rfl : r = some g := hrr
          have hgl := (hown.lt g rfl)
          have hgh : ∃ cur, w.heap[g]? = some (.cells cur 109 (0, 0)) ∧ cur.size = c * 2 := by
            obtain ⟨_, ⟨hv, _⟩ | ⟨g', c', cur, hv, _, hg, _, _, hcs, _⟩⟩ := hown
            · cases hv
            · cases hv; exact ⟨cur, hg, hcs⟩
          have hgb : g ≠ b := by
            rintro rfl
            obtain ⟨cur, hg, _⟩ := hgh
            rw [hb] at hg; simp at hg
          have HF := Lib.hid hF
          have HB := Lib.hid hb
          have HO := Lib.hid hown
          have HP := Lib.hid hf
          have HS := Lib.hid hset
          have HH := Lib.hid hgh
          have HFX := Lib.hid hfx
          have hBb := h.1
          have hblt := block_lt hb
          clear hq hok hr h hm hG hF hp hset hfx hf hb hown hgh hne
          unfold maxLen at hcm
          go_enter Tryz.func108, Tryz.ntmps108
          go_wp2_with fail
          refine hM.mono ?_
          rintro e w1 ⟨rfl, hb1⟩
          go_wp2_with fail
          refine (HF.out w1 hb1).mono ?_
          rintro e w2 ⟨rfl, hb2⟩
          have hb12 := hb1.trans (hb2.mono hb1.size)
          have hbc : w2.cell? ⟨b, 0, none⟩ = some (.slice (some ⟨g, 0, none⟩) fs.length c) := (hb12.cell (by exact hblt)).trans (by have := HB.out; simp [World.cell?, this])
          have hex : ∃ v, w2.cell? ⟨g, p * 2 + 1, none⟩ = some v := by
            obtain ⟨cur, hg, hcs⟩ := HH.out
            have h2 := (hb12.block g hgl.2).trans hg
            exact ⟨cur[p * 2 + 1]'(by omega), by simp [World.cell?, h2]⟩
          obtain ⟨v0, hv0⟩ := hex
          have hfz : w2.frozen? ⟨g, p * 2 + 1, none⟩ = false := by
            obtain ⟨cur, hg, hcs⟩ := HH.out
            have h2 := (hb12.block g hgl.2).trans hg
            simp [World.frozen?, h2]
          go_wp2_with fail
          go_ret
          have hown2 : w2.ownsRow B 109 2 (.slice (some ⟨g, 0, none⟩) fs.length c) fs.length (fileCells fs) := HO.out.kept (grown_below hb12 none) (.inr (by simp [Value.ownBlock]))
          have hs2 := own_set y HP.out hown2
          have hl : (fs.set p (x, y)).length = fs.length := List.length_set
          refine ⟨some g, rfl, ⟨hBb, HS.out, by rw [hl]; exact h60, .slice (some ⟨g, 0, none⟩) fs.length c, ?_, .inl ⟨?_, rfl⟩⟩, (Frame2.of_below hb12 b (some g)).trans (frame_setCell w2 b g _ _) (.inl rfl), .inl rfl⟩
          · rw [Below.heap_setCell w2 _ _ b (fun e => hgb e.symm), hb12.block b hblt]; exact HB.out
          · have e : (x, y) = (f.1, y) := by rw [HFX.out]
            rw [e]; exact hs2
        · simp at hf
      | false =>
        simp only [hq] at hF
        by_cases hfull : 60 ≤ fs.length
        · have hr : writeF fs x y = (4, fs) := by unfold writeF; rw [if_neg (by rw [hok]; decide), if_neg hbig, if_neg (by rw [hq]; decide), if_pos hfull]
          rw [hr]
          obtain ⟨a, c, hb, hown, hc, hcm⟩ := h.ptr
          have hblt := block_lt hb
          generalize posOf fs x = p at *
          have HF := Lib.hid hF
          have HT := Lib.hid h
          have HB := Lib.hid hb
          clear hq hok hr h hm hG hF hb hown
          unfold maxLen at hcm
          go_enter Tryz.func108, Tryz.ntmps108
          go_wp2_with fail
          refine hM.mono ?_
          rintro e w1 ⟨rfl, hb1⟩
          go_wp2_with fail
          refine (HF.out w1 hb1).mono ?_
          rintro e w2 ⟨rfl, hb2⟩
          have hb12 := hb1.trans (hb2.mono hb1.size)
          have hbc : w2.cell? ⟨b, 0, none⟩ = some (.slice a fs.length c) := (hb12.cell (by exact hblt)).trans (by have := HB.out; simp [World.cell?, this])
          go_wp2_with fail
          go_ret
          exact ⟨r, rfl, HT.out.below hb12, Frame2.of_below hb12 b r, .inl rfl⟩
        · have hr : writeF fs x y = (0, fs.take (posOf fs x) ++ (x, y) :: fs.drop (posOf fs x)) := by unfold writeF; rw [if_neg (by rw [hok]; decide), if_neg hbig, if_neg (by rw [hq]; decide), if_neg hfull]
          rw [hr]
          obtain ⟨a, c, hb, hown, hc, hcm⟩ := h.ptr
          have hblt := block_lt hb
          have hso := sorted_ins h.2.1 y hq
          have hle : (fs.take (posOf fs x) ++ (x, y) :: fs.drop (posOf fs x)).length ≤ 60 := by simp; omega
          have hBb := h.1
          generalize posOf fs x = p at *
          have HF := Lib.hid hF
          have HT := Lib.hid h
          have HB := Lib.hid hb
          have HO := Lib.hid hown
          have HS := Lib.hid hso
          have HL := Lib.hid hle
          clear hq hok hr h hm hG hF hb hown hso hle
          unfold maxLen at hcm
          go_enter Tryz.func108, Tryz.ntmps108
          go_wp2_with fail
          refine hM.mono ?_
          rintro e w1 ⟨rfl, hb1⟩
          go_wp2_with fail
          refine (HF.out w1 hb1).mono ?_
          rintro e w2 ⟨rfl, hb2⟩
          have hb12 := hb1.trans (hb2.mono hb1.size)
          have hbc : w2.cell? ⟨b, 0, none⟩ = some (.slice a fs.length c) := (hb12.cell (by exact hblt)).trans (by have := HB.out; simp [World.cell?, this])
          obtain ⟨w3, hw3⟩ : ∃ w3 : World, w3 = w2.alloc (.cells #[.string x, .string y] 109) := ⟨_, rfl⟩
          have hb3 : Below w.heap.size w w3 := by rw [hw3]; exact hb12.alloc hb12.size _
          have hs3 : w3.heap.size = w2.heap.size + 1 := by rw [hw3]; simp
          have hO3 := HO.out.kept (grown_below hb3 none) (by cases r <;> simp)
          have hv3 : w3.heap[w2.heap.size]? = some (.cells #[.string x, .string y] 109 (0, 0)) := by rw [hw3]; exact heap_alloc_new w2 _
          have hrl : ∀ k, r = some k → k < w.heap.size := fun k hk => (HO.out.lt hk).2
          have hvb : some w2.heap.size ≠ r := by
            intro e
            have := hrl _ e.symm
            have := hb12.size
            omega
          have cI := insert_c B w2.heap.size p r _ fs (x, y) w3 hple (by omega) (by have := hb3.size; omega) hO3 hvb hv3
          have HW3 := Lib.hid hw3
          have HR := Lib.hid hrl
          rw [hw3] at cI
          clear hO3 hv3 hvb hw3 hrl
          go_wp2_with fail
          refine cI.mono ?_
          rintro e w4 ⟨a4, n4, c4, r4, rfl, hO4, hg4, hr4⟩
          rw [← HW3.out] at hg4 hr4
          have hbr : some b ≠ r := by
            have := (HO.out.ne HB.out)
            exact fun e => this e.symm
          have hbw4 : w4.heap[b]? = some (.cells #[.slice a fs.length c] 135 (0, 0)) := by
            rw [hg4.block b (by have := hb3.size; omega) hbr, hb3.block b hblt]; exact HB.out
          have hbc4 : w4.cell? ⟨b, 0, none⟩ = some (.slice a fs.length c) := by simp [World.cell?, hbw4]
          have hbf4 : w4.frozen? ⟨b, 0, none⟩ = false := by simp [World.frozen?, hbw4]
          have hT := tree_put hBb HS.out HL.out hbw4 hO4
          have hFr : Frame2 w (w4.setCell ⟨b, 0, none⟩ (.slice a4 n4 c4)) b r := by
            refine ⟨by show w4.os = _; rw [hg4.os]; exact hb3.os, by show w4.tape = _; rw [hg4.tape]; exact hb3.tape, by show w4.output = _; rw [hg4.output]; exact hb3.output, ?_, fun k hk h1 h2 => ?_⟩
            · have h1 := hg4.size; have h2 := hb3.size; simp [World.setCell]; omega
            · rw [Below.heap_setCell w4 _ _ k h1, hg4.block k (by have := hb3.size; omega) h2, hb3.block k hk]
          have hr5 : r4 = r ∨ ∃ k, r4 = some k ∧ w.heap.size ≤ k := by
            rcases hr4 with h | ⟨k, h, hk⟩
            · exact .inl h
            · exact .inr ⟨k, h, by have := hb3.size; omega⟩
          have HT5 := Lib.hid hT
          have HF5 := Lib.hid hFr
          have HR5 := Lib.hid hr5
          clear hT hFr hr5 hO4 hg4 hr4 hbw4 hbc hb12 hb3 hs3 hb1 hb2
          go_wp2_with fail
          go_ret
          exact ⟨r4, rfl, HT5.out, HF5.out, HR5.out⟩
end Go.Proofs.YtlmnabhhgplhnaaGreatDoor
namespace Go.Proofs.YtlmnabhhgplhnaaGreatDoor
open Go.RowKit

/-- What a tree holds when files have been written, one after another. -/
def newF (xs : List F2) : List F2 := xs.foldl (fun t f => (writeF t f.1 f.2).2) []
theorem newF_next (xs : List F2) (k : Nat) (x : F2) (h : xs[k]? = some x) : newF (xs.take (k + 1)) = (writeF (newF (xs.take k)) x.1 x.2).2 := by
  rw [List.take_add_one, h]
  simp [newF, List.foldl_append]

def NewPost (w : World) (fs : List F2) (e : Ending) (w' : World) : Prop :=
  ∃ b r, e = .returned (.pointer (some ⟨b, 0, none⟩)) ∧ IsTree w' w.heap.size b r fs ∧ Below w.heap.size w w'

theorem IsTree.rlt {w : World} {B b : Nat} {r : Option Nat} {fs : List F2} (h : IsTree w B b r fs) : (∀ k, r = some k → B ≤ k ∧ k < w.heap.size) ∧ B ≤ b ∧ b < w.heap.size := by
  obtain ⟨h1, _, _, v, h4, h5⟩ := h
  exact ⟨fun k hk => h5.lt hk, h1, block_lt h4⟩

set_option maxHeartbeats 2000000 in
theorem new_any (v : Value) (xs : List F2) (w : World) (h : IsFiles w v xs) (hg : Glob w) (hsz : ∀ x ∈ xs, x.1.size ≤ maxLen ∧ x.2.size ≤ maxLen) :
    Calls Tryz.prog 73 #[v] w (NewPost w (newF xs)) := by
  obtain ⟨a, c, rfl, h1, h1m, h2⟩ := h
  have hcells : ∀ (k : Nat) x, xs[k]? = some x → ∃ b o, a = some ⟨b, o, none⟩ ∧ b < w.heap.size ∧ w.cell? ⟨b, o + k * 2, none⟩ = some (.string x.1) ∧ w.cell? ⟨b, o + k * 2 + 1, none⟩ = some (.string x.2) := by
    intro k x hx
    obtain ⟨b, o, ha, hb, hc⟩ := h2 (by rintro rfl; simp at hx)
    exact ⟨b, o, ha, hb, hc k x hx⟩
  have HC := Lib.hid hcells
  have HG := Lib.hid hg
  have HSZ := Lib.hid hsz
  have hgb := hg.gb
  have h0 : IsTree (w.alloc (.cells #[.slice none 0 0] 135)) w.heap.size w.heap.size none (newF (xs.take 0)) :=
    ⟨Nat.le_refl _, List.Pairwise.nil, by simp [newF], .slice none 0 0, heap_alloc_new w _, .inl ⟨World.ownsRow_nil _ _ _ _, rfl⟩⟩
  have H0 := Lib.hid h0
  have HGB := Lib.hid hgb
  clear hcells h2 hg hsz h0 hgb
  unfold maxLen at h1m
  go_enter Tryz.func73, Tryz.ntmps73
  go_wp2
  go_loopw [10] (fun i wr => ∃ (k : Nat) (r : Option Nat), k ≤ xs.length ∧ i = .int .i64 k ∧ IsTree wr w.heap.size w.heap.size r (newF (xs.take k)) ∧ Below w.heap.size w wr)
    (fun i _ => xs.length - (intOf i).toNat)
  case atStart => exact ⟨0, none, Nat.zero_le _, rfl, H0.out, (Below.refl _ _).alloc (Nat.le_refl _) _⟩
  case round =>
    obtain ⟨k, r, hk, rfl, ht, hnx⟩ := hrel
    have HT := Lib.hid ht
    clear ht H0
    by_cases hlt : k < xs.length
    · obtain ⟨x, hx⟩ : ∃ x, xs[k]? = some x := ⟨xs[k], List.getElem?_eq_getElem hlt⟩
      obtain ⟨b, o, ha, hb, hc0, hc1⟩ := HC.out k x hx
      subst ha
      have hcx0 : wr.cell? ⟨b, o + k * 2, none⟩ = some (.string x.1) := (hnx.cell (by exact hb)).trans hc0
      have hcx1 : wr.cell? ⟨b, o + k * 2 + 1, none⟩ = some (.string x.2) := (hnx.cell (by exact hb)).trans hc1
      have hxs := HSZ.out x (List.mem_of_getElem? hx)
      have hnxt := newF_next xs k x hx
      have HN := Lib.hid hnxt
      have hb2 : Below wr.heap.size wr (wr.alloc (.cells #[.string x.1, .string x.2] 109)) := (Below.refl _ _).alloc (Nat.le_refl _) _
      have hnx2 : Below w.heap.size w (wr.alloc (.cells #[.string x.1, .string x.2] 109)) := hnx.alloc hnx.size _
      have hT2 := HT.out.below hb2
      have cW := write_any w.heap.size w.heap.size r _ x.1 x.2 _ hT2 (HG.out.low HGB.out hnx2) hxs.1 hxs.2
      have hrl := hT2.rlt
      have HRL := Lib.hid hrl
      have HX2 := Lib.hid hnx2
      clear hx hc0 hc1 hxs hnxt hT2 hrl hb2 hnx2
      go_wp2_with fail
      refine cW.mono ?_
      rintro e w3 ⟨r3, rfl, hT3, hF3, hr3⟩
      have hnx3 : Below w.heap.size w w3 := HX2.out.trans (hF3.below HX2.out.size (Nat.le_refl _) (fun g hg => (HRL.out.1 g hg).1))
      have HT3 := Lib.hid hT3
      clear hT3 hF3 hr3 cW
      go_wp2
      go_roundw
      case rel => exact ⟨k + 1, r3, by omega, by go_num, by rw [HN.out]; exact HT3.out, hnx3⟩
      case measure => simp [intOf]; omega
    · have hfull : xs.take k = xs := List.take_of_length_le (by omega)
      have HFu := Lib.hid hfull
      clear hfull
      go_wp2
      go_ret
      exact ⟨w.heap.size, r, rfl, by have := HT.out; rw [HFu.out] at this; exact this, hnx⟩

/-- 'all' tells this slice in every later world. -/
def AllIs (p : Value) (a : Option Addr) (c : Nat) (fs : List F2) (w : World) : Prop :=
  ∀ w', Below w.heap.size w w' → Calls Tryz.prog 114 #[p] w' fun e w'' => e = .returned (.slice a fs.length c) ∧ w' = w''

theorem IsTree.all {w : World} {B b : Nat} {r : Option Nat} {fs : List F2} (h : IsTree w B b r fs) : ∃ a c, AllIs (.pointer (some ⟨b, 0, none⟩)) a c fs w ∧ IsFiles w (.slice a fs.length c) fs := by
  obtain ⟨a, c, hb, hown, hc, hcm⟩ := h.ptr
  exact ⟨a, c, fun w' hw => all_any b fs.length c a w' ((hw.block b (block_lt hb)).trans hb), hown.files⟩
theorem allIs_nil (w : World) : AllIs (.pointer none) none 0 [] w ∧ IsFiles w (.slice none 0 0) [] :=
  ⟨fun w' _ => all_nil w', none, 0, rfl, by simp, by simp [maxLen], fun h => absurd rfl h⟩

theorem AllIs.below {p : Value} {a : Option Addr} {c : Nat} {fs : List F2} {w w' : World} (h : AllIs p a c fs w) (hb : Below w.heap.size w w') : AllIs p a c fs w' :=
  fun w'' h'' => h w'' (hb.trans (h''.mono hb.size))

theorem len_core (p : Option Addr) (a : Option Addr) (c : Nat) (fs : List F2) (w : World) (h : AllIs (.pointer p) a c fs w) :
    Calls Tryz.prog 80 #[.pointer p] w fun e w' => e = .returned (.int .i64 fs.length) ∧ w = w' := by
  have hA := h w (Below.refl _ _)
  clear h
  go_enter Tryz.func80, Tryz.ntmps80
  go_wp2_with fail
  refine hA.mono ?_
  rintro e w' ⟨rfl, rfl⟩
  go_wp2
  go_ret
  exact ⟨rfl, rfl⟩

def NamesPost (w : World) (fs : List F2) (e : Ending) (w' : World) : Prop :=
  ∃ a c, e = .returned (.slice a fs.length c) ∧ w'.ownsRow w.heap.size 9 1 (.slice a fs.length c) fs.length (fs.map fun f => .string f.1) ∧ Below w.heap.size w w'

set_option maxHeartbeats 2000000 in
theorem names_core (p : Option Addr) (a : Option Addr) (c : Nat) (fs : List F2) (w : World) (h : AllIs (.pointer p) a c fs w) (hF : IsFiles w (.slice a fs.length c) fs) (hl : fs.length ≤ 60) :
    Calls Tryz.prog 81 #[.pointer p] w (NamesPost w fs) := by
  obtain ⟨i0, hi, hz0, hz1, hz2⟩ := info_parts info_str
  obtain ⟨a', c', hv, h1, h1m, h2⟩ := hF
  cases hv
  have hcells : ∀ (k : Nat) x, fs[k]? = some x → ∃ b o, a = some ⟨b, o, none⟩ ∧ b < w.heap.size ∧ w.cell? ⟨b, o + k * 2, none⟩ = some (.string x.1) ∧ w.cell? ⟨b, o + k * 2 + 1, none⟩ = some (.string x.2) := by
    intro k x hx
    obtain ⟨b, o, ha, hb, hc⟩ := h2 (by rintro rfl; simp at hx)
    exact ⟨b, o, ha, hb, hc k x hx⟩
  have HC := Lib.hid hcells
  have hL := len_core p a c fs w h
  have HA := Lib.hid h
  obtain ⟨ms, hms⟩ : ∃ ms : List ByteArray, ms = fs.map fun f => f.1 := ⟨_, rfl⟩
  have hml : ms.length = fs.length := by rw [hms]; simp
  have hmm : ms.map Value.string = fs.map fun f => Value.string f.1 := by rw [hms]; simp
  have HMS := Lib.hid hms
  have HML := Lib.hid hml
  have HMM := Lib.hid hmm
  clear hcells h2 h hms hml hmm
  unfold maxLen at h1m
  go_enter Tryz.func81, Tryz.ntmps81
  go_wp2_with fail
  refine hL.mono ?_
  rintro e w' ⟨rfl, rfl⟩
  go_wp2_with (at_make; refine wpList_make_own _ rfl _ _ 35 rfl w.heap.size 9 i0 (.string ByteArray.empty) 1 Tryz.underlying35 hi hz0 hz1 _ _ _ fs.length rfl rfl rfl ?m1 ?m2 ?m3 ?_)
  case m1 => rw [hz2]; omega
  case m2 => unfold maxLen; omega
  case m3 => exact Nat.le_refl _
  intro w1 hown1 hgrow1
  have hnx1 : Below w.heap.size w w1 := (Below.refl _ _).grown hgrow1 (Nat.le_refl _) (by simp)
  clear hgrow1 hL
  have hA1 := HA.out w1 hnx1
  have hown0 : w1.ownsRow w.heap.size 9 1 (.slice (some ⟨w.heap.size, 0, none⟩) 0 fs.length) (ms.take 0).length ((ms.take 0).map Value.string) := by simpa using hown1
  clear hown1
  go_wp2_with fail
  refine hA1.mono ?_
  rintro e w' ⟨rfl, rfl⟩
  go_wp2
  go_loopw [3, 12] (fun v i wr => ∃ k : Nat, k ≤ fs.length ∧ i = .int .i64 k ∧ wr.ownsRow w.heap.size 9 1 v (ms.take k).length ((ms.take k).map Value.string) ∧ Below w.heap.size w wr)
    (fun _ i _ => fs.length - (intOf i).toNat)
  case atStart => exact ⟨0, Nat.zero_le _, rfl, hown0, hnx1⟩
  case round =>
    obtain ⟨k, hk, rfl, hown, hnx⟩ := hrel
    clear hown0
    by_cases hlt : k < fs.length
    · obtain ⟨x, hx⟩ : ∃ x, fs[k]? = some x := ⟨fs[k], List.getElem?_eq_getElem hlt⟩
      obtain ⟨b, o, ha, hb, hc0, hc1⟩ := HC.out k x hx
      subst ha
      have hcx0 : wr.cell? ⟨b, o + k * 2, none⟩ = some (.string x.1) := (hnx.cell (by exact hb)).trans hc0
      have hcx1 : wr.cell? ⟨b, o + k * 2 + 1, none⟩ = some (.string x.2) := (hnx.cell (by exact hb)).trans hc1
      have hmk : ms[k]? = some x.1 := by rw [HMS.out, List.getElem?_map, hx]; rfl
      have hms1 : (ms.take (k + 1)) = ms.take k ++ [x.1] := by rw [List.take_add_one, hmk]; rfl
      have HM1 := Lib.hid hms1
      have hkl : (ms.take k).length ≤ k := List.length_take_le _ _
      have hs2 := hnx.size
      clear hms1 hmk hc0 hc1 hx
      go_wp2_with (at_builtin; refine wpList_append_own _ rfl _ _ 35 rfl w.heap.size 9 i0 (.string ByteArray.empty) 1 16 Tryz.underlying35 hi hz0 hz1 hz2 rfl (by decide) _ _ _ rfl ((hown.alloc _).alloc _) ⟨wr.heap.size + 1, 0, none⟩ 1 1 [.string x.1] rfl rfl ?c1 ?c2 ?c3 ?c4 ?c5 ?_)
      case c1 =>
        intro j u hj
        match j, hj with
        | 0, hj => simp at hj; subst hj; rw [Addr.add_lit]; exact World.cell?_alloc_at _ _ _ _ (by simp)
      case c2 => intro u hu; simp at hu; subst hu; rfl
      case c3 => unfold maxLen; omega
      case c4 => omega
      case c5 => simp; omega
      · intro v' w3 hown' hgrow _
        have hnx' : Below w.heap.size w w3 := ((hnx.alloc hs2 _).alloc (by simp; omega) _).grown hgrow (by simp; omega) (fun g hg => (hown.lt g hg).1)
        have HO : Hid (w3.ownsRow w.heap.size 9 1 v' (ms.take (k + 1)).length ((ms.take (k + 1)).map Value.string)) := by
          show w3.ownsRow _ _ _ _ _ _
          rw [HM1.out, List.length_append, List.map_append]
          simpa using hown'
        clear hgrow hown hown'
        go_wp2
        go_roundw
        case rel => exact ⟨k + 1, by omega, by go_num, HO.out, hnx'⟩
        case measure => simp [intOf]; omega
    · have hfull : ms.take k = ms := List.take_of_length_le (by have := HML.out; omega)
      rw [hfull, HMM.out, HML.out] at hown
      obtain ⟨a9, c9, hv9, _⟩ := own_shape hown
      rw [hv9] at hown
      have HO := Lib.hid hown
      have HV := Lib.hid hv9
      clear hfull hown hv9
      go_wp2
      go_ret
      exact ⟨a9, c9, by rw [HV.out]; rfl, HO.out, hnx⟩
end Go.Proofs.YtlmnabhhgplhnaaGreatDoor
namespace Go.Proofs.YtlmnabhhgplhnaaGreatDoor
open Go.RowKit

/-- Names and contents, one after another. -/
def keyB (fs : List F2) : List ByteArray := (fs.map fun f => [f.1, f.2]).flatten
def keyL (fs : List F2) : List (List UInt8) := (fs.map fun f => [f.1.data.toList, f.2.data.toList]).flatten
theorem keyB_data (fs : List F2) : (keyB fs).map (·.data.toList) = keyL fs := by
  induction fs with
  | nil => rfl
  | cons f fs ih => simp only [keyB, keyL, List.map_cons, List.flatten_cons, List.map_append] at ih ⊢; rw [ih]; rfl
theorem keyB_length (fs : List F2) : (keyB fs).length = fs.length * 2 := by
  induction fs with
  | nil => rfl
  | cons f fs ih => simp only [keyB, List.map_cons, List.flatten_cons, List.length_append, List.length_cons, List.length_nil] at ih ⊢; omega
theorem keyB_next (fs : List F2) (k : Nat) (x : F2) (h : fs[k]? = some x) : keyB (fs.take (k + 1)) = keyB (fs.take k) ++ [x.1, x.2] := by
  rw [List.take_add_one, h]; simp [keyB]

set_option maxHeartbeats 2000000 in
theorem key_core (p : Option Addr) (a : Option Addr) (c : Nat) (fs : List F2) (w : World) (h : AllIs (.pointer p) a c fs w) (hF : IsFiles w (.slice a fs.length c) fs) (hl : fs.length ≤ 60) (hg : Glob w) (hlen : (putS (keyL fs)).length ≤ 140737488355328) :
    Calls Tryz.prog 82 #[.pointer p] w fun e w' => e = .returned (.string ⟨(putS (keyL fs)).toArray⟩) ∧ Below w.heap.size w w' := by
  obtain ⟨i0, hi, hz0, hz1, hz2⟩ := info_parts info_str
  obtain ⟨a', c', hv, h1, h1m, h2⟩ := hF
  cases hv
  have hcells : ∀ (k : Nat) x, fs[k]? = some x → ∃ b o, a = some ⟨b, o, none⟩ ∧ b < w.heap.size ∧ w.cell? ⟨b, o + k * 2, none⟩ = some (.string x.1) ∧ w.cell? ⟨b, o + k * 2 + 1, none⟩ = some (.string x.2) := by
    intro k x hx
    obtain ⟨b, o, ha, hb, hc⟩ := h2 (by rintro rfl; simp at hx)
    exact ⟨b, o, ha, hb, hc k x hx⟩
  have HC := Lib.hid hcells
  have hL := len_core p a c fs w h
  have HA := Lib.hid h
  have HG := Lib.hid hg
  have HLE := Lib.hid hlen
  obtain ⟨res, hres⟩ : ∃ res, res = putS (keyL fs) := ⟨_, rfl⟩
  rw [← hres]
  have HRES := Lib.hid hres
  clear hcells h2 h hg hlen hres
  unfold maxLen at h1m
  go_enter Tryz.func82, Tryz.ntmps82
  go_wp2_with fail
  refine hL.mono ?_
  rintro e w' ⟨rfl, rfl⟩
  go_wp2_with (at_make; refine wpList_make_own _ rfl _ _ 35 rfl w.heap.size 9 i0 (.string ByteArray.empty) 1 Tryz.underlying35 hi hz0 hz1 _ _ _ (2 * fs.length) rfl rfl ?m0 ?m1 ?m2 ?m3 ?_)
  case m0 => omega
  case m1 => rw [hz2]; omega
  case m2 => unfold maxLen; omega
  case m3 => exact Nat.le_refl _
  intro w1 hown1 hgrow1
  have hnx1 : Below w.heap.size w w1 := (Below.refl _ _).grown hgrow1 (Nat.le_refl _) (by simp)
  clear hgrow1 hL
  have hA1 := HA.out w1 hnx1
  have hown0 : w1.ownsRow w.heap.size 9 1 (.slice (some ⟨w.heap.size, 0, none⟩) 0 (2 * fs.length)) (keyB (fs.take 0)).length ((keyB (fs.take 0)).map Value.string) := by simpa [keyB] using hown1
  clear hown1
  go_wp2_with fail
  refine hA1.mono ?_
  rintro e w' ⟨rfl, rfl⟩
  go_wp2
  go_loopw [3, 13] (fun v i wr => ∃ k : Nat, k ≤ fs.length ∧ i = .int .i64 k ∧ wr.ownsRow w.heap.size 9 1 v (keyB (fs.take k)).length ((keyB (fs.take k)).map Value.string) ∧ Below w.heap.size w wr)
    (fun _ i _ => fs.length - (intOf i).toNat)
  case atStart => exact ⟨0, Nat.zero_le _, rfl, hown0, hnx1⟩
  case round =>
    obtain ⟨k, hk, rfl, hown, hnx⟩ := hrel
    clear hown0
    by_cases hlt : k < fs.length
    · obtain ⟨x, hx⟩ : ∃ x, fs[k]? = some x := ⟨fs[k], List.getElem?_eq_getElem hlt⟩
      obtain ⟨b, o, ha, hb, hc0, hc1⟩ := HC.out k x hx
      subst ha
      have hcx0 : wr.cell? ⟨b, o + k * 2, none⟩ = some (.string x.1) := (hnx.cell (by exact hb)).trans hc0
      have hcx1 : wr.cell? ⟨b, o + k * 2 + 1, none⟩ = some (.string x.2) := (hnx.cell (by exact hb)).trans hc1
      have hms1 := keyB_next fs k x hx
      have HM1 := Lib.hid hms1
      have hkl : (keyB (fs.take k)).length ≤ k * 2 := by rw [keyB_length]; have := List.length_take_le k fs; omega
      have hs2 := hnx.size
      clear hms1 hc0 hc1 hx
      go_wp2_with (at_builtin; refine wpList_append_own _ rfl _ _ 35 rfl w.heap.size 9 i0 (.string ByteArray.empty) 1 16 Tryz.underlying35 hi hz0 hz1 hz2 rfl (by decide) _ _ _ rfl ((hown.alloc _).alloc _) ⟨wr.heap.size + 1, 0, none⟩ 2 2 [.string x.1, .string x.2] rfl rfl ?c1 ?c2 ?c3 ?c4 ?c5 ?_)
      case c1 =>
        intro j u hj
        match j, hj with
        | 0, hj => simp at hj; subst hj; rw [Addr.add_lit]; exact World.cell?_alloc_at _ _ _ _ (by simp)
        | 1, hj => simp at hj; subst hj; rw [Addr.add_lit]; exact World.cell?_alloc_at _ _ _ _ (by simp)
      case c2 => intro u hu; simp at hu; rcases hu with rfl | rfl <;> rfl
      case c3 => unfold maxLen; omega
      case c4 => omega
      case c5 => simp; omega
      · intro v' w3 hown' hgrow _
        have hnx' : Below w.heap.size w w3 := ((hnx.alloc hs2 _).alloc (by simp; omega) _).grown hgrow (by simp; omega) (fun g hg => (hown.lt g hg).1)
        have HO : Hid (w3.ownsRow w.heap.size 9 1 v' (keyB (fs.take (k + 1))).length ((keyB (fs.take (k + 1))).map Value.string)) := by
          show w3.ownsRow _ _ _ _ _ _
          rw [HM1.out, List.length_append, List.map_append]
          simpa using hown'
        clear hgrow hown hown'
        go_wp2
        go_roundw
        case rel => exact ⟨k + 1, by omega, by go_num, HO.out, hnx'⟩
        case measure => simp [intOf]; omega
    · have hfull : fs.take k = fs := List.take_of_length_le (by omega)
      rw [hfull] at hown
      have hS := strs_own hown
      have hpl : putS ((keyB fs).map (·.data.toList)) = res := by rw [keyB_data, HRES.out]
      have cP := put_any _ (keyB fs) wr hS (by rw [keyB_length]; omega) (HG.out.below hnx) (by rw [keyB_data]; exact HLE.out)
      rw [hpl] at cP
      clear hfull hown hpl hS
      go_wp2_with fail
      refine cP.mono ?_
      rintro e w2 ⟨rfl, hb2⟩
      go_wp2
      go_ret
      exact ⟨rfl, hnx.trans (hb2.mono hnx.size)⟩
end Go.Proofs.YtlmnabhhgplhnaaGreatDoor
namespace Go.Proofs.YtlmnabhhgplhnaaGreatDoor
open Go.RowKit

/-- The first part that Put wrote into a text, and what follows. -/
def cutPartS (s : List UInt8) : Option (List UInt8 × List UInt8) :=
  if (Lib.cut s [58]).2.2 then
    if (getNum (Lib.cut s [58]).1 (Lib.cut s [58]).2.1.length).2 then
      some ((Lib.cut s [58]).2.1.take (getNum (Lib.cut s [58]).1 (Lib.cut s [58]).2.1.length).1.toNat, (Lib.cut s [58]).2.1.drop (getNum (Lib.cut s [58]).1 (Lib.cut s [58]).2.1.length).1.toNat)
    else none
  else none

theorem getNum_range (s : List UInt8) (most : Int) (h : (getNum s most).2 = true) : 0 ≤ (getNum s most).1 ∧ (getNum s most).1 ≤ most := by
  unfold getNum at h ⊢
  rcases ha : Lib.atoiAll s with v | _ | _
  · simp only [ha] at h ⊢
    by_cases hc : v ≤ most ∧ numS v = s
    · rw [if_pos hc]
      refine ⟨?_, hc.1⟩
      rcases Int.lt_or_le v 0 with hneg | hpos
      · exfalso
        have h0 : numS v = Lib.itoa 0 := by unfold numS; rw [Int.max_eq_right (by omega)]
        rw [← hc.2, h0] at ha
        have : Lib.atoiAll (Lib.itoa 0) = .ok 0 := by
          have e : Lib.itoa 0 = [48] := by unfold Lib.itoa; rw [if_neg (by decide), Lib.decDigits]; rfl
          rw [e]; decide
        rw [this] at ha
        injection ha with ha
        omega
      · exact hpos
    · rw [if_neg hc] at h; cases h
  · simp [ha] at h
  · simp [ha] at h

theorem cut_c (s sep : ByteArray) (m : Int) (w : World) (hs : s.size < 4294967281) (hm : w.cell? ⟨1, 0, none⟩ = some (.int .i64 m)) :
    Calls Tryz.prog 131 #[.string s, .string sep] w fun e w' => e = .returned (.tuple #[.string ⟨(Lib.cut s.data.toList sep.data.toList).1.toArray⟩, .string ⟨(Lib.cut s.data.toList sep.data.toList).2.1.toArray⟩, .bool (Lib.cut s.data.toList sep.data.toList).2.2]) ∧ ∃ n, w' = w.drewN n :=
  Any.strings_Cut lLays_n145 s sep m w hs hm

theorem cut_len (s sep : List UInt8) : (Lib.cut s sep).1.length ≤ s.length ∧ (Lib.cut s sep).2.1.length ≤ s.length := by
  unfold Lib.cut
  split
  · exact ⟨List.length_take_le' _ _, by simp⟩
  · simp

theorem ret_three {a b c d : ByteArray} {x y : Bool} (h : a = b) (h' : c = d) (hx : x = y) : Ending.returned (.tuple #[.string a, .string c, .bool x]) = .returned (.tuple #[.string b, .string d, .bool y]) := by rw [h, h', hx]

theorem extract_pre (s : ByteArray) (n : Nat) : s.extract 0 n = ⟨(s.data.toList.take n).toArray⟩ := by
  rw [Lib.extract_eq]; simp
theorem extract_post (s : ByteArray) (n : Nat) : s.extract n s.size = ⟨(s.data.toList.drop n).toArray⟩ := by
  rw [Lib.extract_eq, List.take_of_length_le (by rw [List.length_drop, ← Lib.size_eq]; exact Nat.le_refl _)]

def CutPost (r : Option (List UInt8 × List UInt8)) (w : World) (e : Ending) (w' : World) : Prop :=
  (e = .returned (match r with | some (p, q) => .tuple #[.string ⟨p.toArray⟩, .string ⟨q.toArray⟩, .bool true] | none => .tuple #[.string ⟨#[]⟩, .string ⟨#[]⟩, .bool false])) ∧ Below w.heap.size w w'

set_option maxHeartbeats 1000000 in
theorem cutPart_any (s : ByteArray) (w : World) (hs : s.size < 4294967281) (hg : Glob w) :
    Calls Tryz.prog 105 #[.string s] w (CutPost (cutPartS s.data.toList) w) := by
  obtain ⟨m, hm⟩ := hg.max
  obtain ⟨r, hr⟩ : ∃ r, r = cutPartS s.data.toList := ⟨_, rfl⟩
  rw [← hr]
  have cC := cut_c s ⟨#[58]⟩ m w hs hm
  have hl := cut_len s.data.toList [58]
  unfold cutPartS at hr
  change Calls _ _ _ _ fun e w' => e = .returned (.tuple #[.string ⟨(Lib.cut s.data.toList [58]).1.toArray⟩, .string ⟨(Lib.cut s.data.toList [58]).2.1.toArray⟩, .bool (Lib.cut s.data.toList [58]).2.2]) ∧ ∃ n, w' = w.drewN n at cC
  generalize Lib.cut s.data.toList [58] = cc at *
  obtain ⟨a, b, ok⟩ := cc
  simp only at hr hl
  rw [← Lib.size_eq] at hl
  have HG := Lib.hid hg
  have HR := Lib.hid hr
  clear hg hr hm
  go_enter Tryz.func105, Tryz.ntmps105
  go_wp2_with fail
  refine cC.mono ?_
  rintro e w' ⟨rfl, nd, rfl⟩
  cases ok
  · go_wp2
    go_ret3
    have hrn : r = none := by rw [HR.out]; rfl
    exact ⟨by rw [hrn]; rfl, below_drewN (Below.refl _ _) nd⟩
  · have hb1 : Below w.heap.size w (w.drewN nd) := below_drewN (Below.refl _ _) nd
    have cN := getNumber_any ⟨a.toArray⟩ b.length (by simp only [ByteArray.size, List.size_toArray]; omega) (w.drewN nd) (HG.out.below hb1)
    have hgr := getNum_range a b.length
    rw [show (⟨a.toArray⟩ : ByteArray).data.toList = a from by simp] at cN
    have hrr : r = if (getNum a b.length).2 then some (b.take (getNum a b.length).1.toNat, b.drop (getNum a b.length).1.toNat) else none := by rw [HR.out]; rfl
    generalize getNum a b.length = g at *
    obtain ⟨n, ok2⟩ := g
    have HRR := Lib.hid hrr
    clear hrr HR
    obtain ⟨bb, hbb⟩ : ∃ bb : ByteArray, bb = ⟨b.toArray⟩ := ⟨_, rfl⟩
    have hbl : bb.size = b.length := by rw [hbb]; simp [ByteArray.size]
    have hbd : bb.data.toList = b := by rw [hbb]
    rw [← hbl] at cN hgr
    rw [← hbb]
    have HBD := Lib.hid hbd
    have hbs : bb.size ≤ s.size := by omega
    clear hbb hbd hbl hl
    cases ok2
    · go_wp2_with (go_at_call 72; refine cN.mono ?_; rintro e w2 ⟨rfl, hb2⟩)
      go_ret3
      have hrn : r = none := by rw [HRR.out]; rfl
      exact ⟨by rw [hrn]; rfl, hb1.trans hb2⟩
    · have hgr' := hgr rfl
      simp only at hgr'
      obtain ⟨hn0, hn1⟩ := hgr'
      clear hgr
      go_wp2_with (go_at_call 72; refine cN.mono ?_; rintro e w2 ⟨rfl, hb2⟩)
      go_quiet (fail)
      go_wp2
      go_ret3
      have hrn : r = some (b.take n.toNat, b.drop n.toNat) := by rw [HRR.out]; rfl
      exact ⟨by rw [hrn]; exact ret_three (by rw [extract_pre, HBD.out]) (by rw [extract_post, HBD.out]) rfl, hb1.trans (below_drewN hb2 _)⟩
end Go.Proofs.YtlmnabhhgplhnaaGreatDoor
namespace Go.Proofs.YtlmnabhhgplhnaaGreatDoor
open Go.RowKit

theorem cut_miss {s : List UInt8} {d : UInt8} (h : d ∉ s) : Lib.cut s [d] = (s, [], false) := by
  unfold Lib.cut
  rw [index_miss h, if_neg (by decide)]
theorem cut_hit {a b : List UInt8} {d : UInt8} (h : d ∉ a) : Lib.cut (a ++ d :: b) [d] = (a, b, true) := by
  unfold Lib.cut
  rw [index_hit h, if_pos (Int.natCast_nonneg _)]
  simp only [Int.toNat_natCast, List.length_cons, List.length_nil, Nat.zero_add, drop_hit]
  simp

theorem cutPartS_miss {s : List UInt8} (h : 58 ∉ s) : cutPartS s = none := by
  unfold cutPartS
  rw [cut_miss h]; rfl
theorem cutPartS_hit {a b : List UInt8} (h : 58 ∉ a) : cutPartS (a ++ 58 :: b) = if (getNum a b.length).2 then some (b.take (getNum a b.length).1.toNat, b.drop (getNum a b.length).1.toNat) else none := by
  unfold cutPartS
  rw [cut_hit h]; rfl

theorem cutPartS_lt {s p q : List UInt8} (h : cutPartS s = some (p, q)) : q.length < s.length := by
  rcases first_of 58 s with hs | ⟨a, b, rfl, ha⟩
  · rw [cutPartS_miss hs] at h; cases h
  · rw [cutPartS_hit ha] at h
    split at h
    · injection h with h
      injection h with h1 h2
      rw [← h2]
      simp; omega
    · cases h

def getF : Nat → List UInt8 → Option (List (List UInt8))
  | 0, _ => none
  | f + 1, s => if s = [] then some [] else match cutPartS s with
    | none => none
    | some (p, q) => (getF f q).map (p :: ·)

theorem getF_fuel : ∀ (f : Nat) (s : List UInt8), s.length < f → ∀ f', s.length < f' → getF f s = getF f' s
  | 0, s, h, _, _ => absurd h (by omega)
  | f + 1, s, h, 0, h' => absurd h' (by omega)
  | f + 1, s, h, f' + 1, h' => by
    unfold getF
    split
    · rfl
    · cases hc : cutPartS s with
      | none => rfl
      | some pq =>
        obtain ⟨p, q⟩ := pq
        have := cutPartS_lt hc
        simp only
        rw [getF_fuel f q (by omega) f' (by omega)]

/-- The parts of which Put makes a text, if there are such. -/
def getS (s : List UInt8) : Option (List (List UInt8)) := getF (s.length + 1) s
theorem getS_nil : getS [] = some [] := rfl
theorem getS_none {s : List UInt8} (h0 : s ≠ []) (h : cutPartS s = none) : getS s = none := by
  rw [getS, getF, if_neg h0, h]
theorem getS_some {s p q : List UInt8} (h0 : s ≠ []) (h : cutPartS s = some (p, q)) : getS s = (getS q).map (p :: ·) := by
  rw [getS, getF, if_neg h0, h]
  have := cutPartS_lt h
  simp only
  rw [getF_fuel s.length q (by omega) (q.length + 1) (by omega)]
  rfl

def GetPost (r : Option (List (List UInt8))) (w : World) (e : Ending) (w' : World) : Prop :=
  Below w.heap.size w w' ∧ match r with
  | some ls => ∃ (a : Option Addr) (c : Nat) (xs : List ByteArray), xs.map (·.data.toList) = ls ∧ e = .returned (.tuple #[.slice a xs.length c, .bool true]) ∧ w'.ownsRow w.heap.size 9 1 (.slice a xs.length c) xs.length (xs.map Value.string)
  | none => e = .returned (.tuple #[.slice none 0 0, .bool false])

def strSize : Value → Nat
  | .string s => s.size
  | _ => 0

/-- The head of a round of Get's loop. -/
def GetAt (s cur : List UInt8) (done : List ByteArray) : Prop :=
  getS s = (getS cur).map (done.map (·.data.toList) ++ ·) ∧ done.length + cur.length ≤ s.length

theorem GetAt.none {s cur : List UInt8} {done : List ByteArray} (h : GetAt s cur done) (h0 : cur ≠ []) (hc : cutPartS cur = none) : getS s = none := by
  rw [h.1, getS_none h0 hc]; rfl
theorem GetAt.next {s cur p q : List UInt8} {done : List ByteArray} (h : GetAt s cur done) (h0 : cur ≠ []) (hc : cutPartS cur = some (p, q)) : GetAt s q (done ++ [⟨p.toArray⟩]) := by
  have h1 := h.1
  have h2 := h.2
  have h3 := cutPartS_lt hc
  refine ⟨?_, by simp; omega⟩
  rw [h1, getS_some h0 hc, Option.map_map]
  congr 1
  funext l
  simp
theorem GetAt.done {s : List UInt8} {done : List ByteArray} (h : GetAt s [] done) : getS s = some (done.map (·.data.toList)) := by
  rw [h.1, getS_nil]; simp

set_option maxHeartbeats 2000000 in
theorem get_any (s : ByteArray) (w : World) (hs : s.size < 4294967281) (hg : Glob w) :
    Calls Tryz.prog 71 #[.string s] w (GetPost (getS s.data.toList) w) := by
  obtain ⟨r, hr⟩ : ∃ r, r = getS s.data.toList := ⟨_, rfl⟩
  rw [← hr]
  obtain ⟨i0, hi, hz0, hz1, hz2⟩ := info_parts info_str
  have HG := Lib.hid hg
  have HR := Lib.hid hr
  have hsl := Lib.hid (Lib.size_eq s)
  have H0 : GetAt s.data.toList s.data.toList [] := ⟨by simp, by simp⟩
  clear hg hr
  go_enter Tryz.func71, Tryz.ntmps71
  go_wp2
  go_loopw [0, 4] (fun t v wr => ∃ (cur : ByteArray) (done : List ByteArray) (a : Option Addr) (c : Nat), t = .string cur ∧ v = .slice a done.length c ∧ wr.ownsRow w.heap.size 9 1 (.slice a done.length c) done.length (done.map Value.string) ∧ Below w.heap.size w wr ∧ GetAt s.data.toList cur.data.toList done)
    (fun t _ _ => strSize t)
  case atStart => exact ⟨s, [], none, 0, rfl, rfl, World.ownsRow_nil _ _ _ _, Below.refl _ _, H0⟩
  case round =>
    obtain ⟨cur, done, a, c, rfl, rfl, hown, hnx, hat⟩ := hrel
    have hlen := hat.2
    rw [← Lib.size_eq, ← hsl.out] at hlen
    have HAT := Lib.hid hat
    clear hat H0
    by_cases h0 : cur.toList = []
    · go_wp2
      go_ret2
      have hd : r = some (done.map (·.data.toList)) := by
        rw [HR.out]
        have h := HAT.out
        have e : cur.data.toList = [] := by rw [← Lib.toList_data]; exact h0
        rw [e] at h
        exact h.done
      exact ⟨hnx, by rw [hd]; exact ⟨a, c, done, rfl, rfl, hown⟩⟩
    · have b0 : cur.toList.isEmpty = false := List.isEmpty_eq_false_iff.2 h0
      have h0' : cur.data.toList ≠ [] := by rw [← Lib.toList_data]; exact h0
      have cP := cutPart_any cur wr (by omega) (HG.out.below hnx)
      have hs1 := hnx.size
      cases hcp : cutPartS cur.data.toList with
      | none =>
        rw [hcp] at cP
        have HN := Lib.hid (HAT.out.none h0' hcp)
        clear hcp
        go_wp2_with fail
        refine cP.mono ?_
        rintro e w2 ⟨rfl, hb2⟩
        go_wp2
        go_ret2
        have hd : r = none := by rw [HR.out, HN.out]
        exact ⟨hnx.trans (hb2.mono hs1), by rw [hd]; rfl⟩
      | some pq =>
        obtain ⟨p, q⟩ := pq
        rw [hcp] at cP
        have HN := Lib.hid (HAT.out.next h0' hcp)
        have hlt := cutPartS_lt hcp
        rw [← Lib.size_eq] at hlt
        obtain ⟨pb, hpb⟩ : ∃ pb : ByteArray, pb = ⟨p.toArray⟩ := ⟨_, rfl⟩
        obtain ⟨qb, hqb⟩ : ∃ qb : ByteArray, qb = ⟨q.toArray⟩ := ⟨_, rfl⟩
        have hqs : qb.size = q.length := by rw [hqb]; simp [ByteArray.size]
        have HN' : Hid (GetAt s.data.toList qb.data.toList (done ++ [pb])) := by
          show GetAt _ _ _
          have : qb.data.toList = q := by rw [hqb]
          rw [this, hpb]; exact HN.out
        have cP' : Calls Tryz.prog 105 #[.string cur] wr fun e w' => e = .returned (.tuple #[.string pb, .string qb, .bool true]) ∧ Below wr.heap.size wr w' := by
          rw [hpb, hqb]; exact cP
        have HQ := Lib.hid hqs
        clear hcp cP hpb hqb hqs HN
        go_wp2_with fail
        refine cP'.mono ?_
        rintro e w2 ⟨rfl, hb2⟩
        have hnx2 := hnx.trans (hb2.mono hs1)
        have hown2 : w2.ownsRow w.heap.size 9 1 (.slice a done.length c) done.length (done.map Value.string) := hown.kept (row := none) ⟨hb2.os, hb2.tape, hb2.output, hb2.size, fun g hg _ => hb2.block g hg⟩ (by cases h : Value.ownBlock _ <;> simp)
        have hs2 := hnx2.size
        clear hb2 hown cP'
        go_wp2_with (at_builtin; refine wpList_append_own _ rfl _ _ 35 rfl w.heap.size 9 i0 (.string ByteArray.empty) 1 16 Tryz.underlying35 hi hz0 hz1 hz2 rfl (by decide) _ _ _ rfl (hown2.alloc _) ⟨w2.heap.size, 0, none⟩ 1 1 [.string pb] rfl rfl ?c1 ?c2 ?c3 ?c4 ?c5 ?_)
        case c1 =>
          intro j u hj
          match j, hj with
          | 0, hj => simp at hj; subst hj; simp [Addr.add]
        case c2 => intro u hu; simp at hu; subst hu; rfl
        case c3 => unfold maxLen; omega
        case c4 => omega
        case c5 => simp; omega
        · intro v' w3 hown' hgrow _
          have hnx' : Below w.heap.size w w3 := (hnx2.alloc hs2 _).grown hgrow (by simp; omega) (fun g hg => (hown2.lt g hg).1)
          obtain ⟨a', c', hv, _⟩ := own_shape hown'
          have HO : Hid (w3.ownsRow w.heap.size 9 1 (.slice a' (done ++ [pb]).length c') (done ++ [pb]).length ((done ++ [pb]).map Value.string)) := by
            show w3.ownsRow _ _ _ _ _ _
            rw [hv] at hown'
            simpa using hown'
          have HV : Hid (v' = .slice a' (done ++ [pb]).length c') := by
            show v' = _
            rw [hv]; simp
          clear hgrow hown2 hown' hv
          go_wp2
          go_roundw
          case rel => exact ⟨qb, done ++ [pb], a', c', rfl, HV.out, HO.out, hnx', HN'.out⟩
          case measure => simp only [strSize]; rw [HQ.out]; exact hlt
end Go.Proofs.YtlmnabhhgplhnaaGreatDoor
namespace Go.Proofs.YtlmnabhhgplhnaaGreatDoor
open Go.RowKit

/-- One value as Vals marks it. -/
def markS (v : Bool × List UInt8) : List UInt8 := if v.1 then 43 :: v.2 else [45]

theorem markVal_any (ok : Bool) (s : ByteArray) (hs : s.size ≤ 140737488351232) (w : World) :
    Calls Tryz.prog 113 #[.agg #[.bool ok, .string s]] w fun e w' => e = .returned (.string ⟨(markS (ok, s.data.toList)).toArray⟩) ∧ Below w.heap.size w w' := by
  cases ok
  · go_enter Tryz.func113, Tryz.ntmps113
    go_wp2
    go_ret
    exact ⟨rfl, (Below.refl _ _).alloc (Nat.le_refl _) _⟩
  · go_enter Tryz.func113, Tryz.ntmps113
    go_wp2
    go_ret
    exact ⟨ret_str (by apply ByteArray.ext; simp [markS]), (Below.refl _ _).alloc (Nat.le_refl _) _⟩

/-- A slice of values that can be read in a world. -/
def IsVals (w : World) (v : Value) (vs : List (Bool × ByteArray)) : Prop :=
  ∃ a c, v = .slice a vs.length c ∧ vs.length ≤ c ∧ c ≤ maxLen ∧ (vs ≠ [] → ∃ b o, a = some ⟨b, o, none⟩ ∧ b < w.heap.size ∧ ∀ (j : Nat) x, vs[j]? = some x → w.cell? ⟨b, o + j * 2, none⟩ = some (.bool x.1) ∧ w.cell? ⟨b, o + j * 2 + 1, none⟩ = some (.string x.2))

set_option maxHeartbeats 2000000 in
theorem vals_any (v : Value) (vs : List (Bool × ByteArray)) (w : World) (h : IsVals w v vs) (hN : vs.length ≤ 1048576) (hg : Glob w)
    (hsz : ∀ x ∈ vs, x.2.size ≤ 140737488351232)
    (hlen : (putS (vs.map fun x => markS (x.1, x.2.data.toList))).length ≤ 140737488355328) :
    Calls Tryz.prog 79 #[v] w fun e w' => e = .returned (.string ⟨(putS (vs.map fun x => markS (x.1, x.2.data.toList))).toArray⟩) ∧ Below w.heap.size w w' := by
  obtain ⟨a, c, rfl, h1, h1m, h2⟩ := h
  obtain ⟨i0, hi, hz0, hz1, hz2⟩ := info_parts info_str
  have hcells : ∀ (k : Nat) x, vs[k]? = some x → ∃ b o, a = some ⟨b, o, none⟩ ∧ b < w.heap.size ∧ w.cell? ⟨b, o + k * 2, none⟩ = some (.bool x.1) ∧ w.cell? ⟨b, o + k * 2 + 1, none⟩ = some (.string x.2) := by
    intro k x hx
    obtain ⟨b, o, ha, hb, hc⟩ := h2 (by rintro rfl; simp at hx)
    exact ⟨b, o, ha, hb, hc k x hx⟩
  have HC := Lib.hid hcells
  have HG := Lib.hid hg
  have HLE := Lib.hid hlen
  have HSZ := Lib.hid hsz
  clear hcells h2 hg hlen hsz
  obtain ⟨ms, hms⟩ : ∃ ms : List ByteArray, ms = vs.map fun x => ⟨(markS (x.1, x.2.data.toList)).toArray⟩ := ⟨_, rfl⟩
  have hmd : ms.map (·.data.toList) = vs.map fun x => markS (x.1, x.2.data.toList) := by rw [hms, List.map_map]; apply List.map_congr_left; intro x _; simp
  have HMS := Lib.hid hms
  have HMD := Lib.hid hmd
  have hml : ms.length = vs.length := by rw [hms]; simp
  have HML := Lib.hid hml
  obtain ⟨res, hres⟩ : ∃ res, res = putS (vs.map fun x => markS (x.1, x.2.data.toList)) := ⟨_, rfl⟩
  rw [← hres]
  have HRES := Lib.hid hres
  clear hres hms hmd hml
  unfold maxLen at h1m
  go_enter Tryz.func79, Tryz.ntmps79
  go_wp2_with (at_make; refine wpList_make_own _ rfl _ _ 35 rfl w.heap.size 9 i0 (.string ByteArray.empty) 1 Tryz.underlying35 hi hz0 hz1 _ _ _ vs.length rfl rfl rfl ?m1 ?m2 ?m3 ?_)
  case m1 => rw [hz2]; omega
  case m2 => unfold maxLen; omega
  case m3 => exact Nat.le_refl _
  intro w1 hown1 hgrow1
  have hnx1 : Below w.heap.size w w1 := (Below.refl _ _).grown hgrow1 (Nat.le_refl _) (by simp)
  clear hgrow1
  have hown0 : w1.ownsRow w.heap.size 9 1 (.slice (some ⟨w.heap.size, 0, none⟩) 0 vs.length) (ms.take 0).length ((ms.take 0).map Value.string) := by simpa using hown1
  clear hown1
  go_wp2
  go_loopw [3, 11] (fun v i wr => ∃ k : Nat, k ≤ vs.length ∧ i = .int .i64 k ∧ wr.ownsRow w.heap.size 9 1 v (ms.take k).length ((ms.take k).map Value.string) ∧ Below w.heap.size w wr)
    (fun _ i _ => vs.length - (intOf i).toNat)
  case atStart => exact ⟨0, Nat.zero_le _, rfl, hown0, hnx1⟩
  case round =>
    obtain ⟨k, hk, rfl, hown, hnx⟩ := hrel
    clear hown0
    by_cases hlt : k < vs.length
    · obtain ⟨x, hx⟩ : ∃ x, vs[k]? = some x := ⟨vs[k], List.getElem?_eq_getElem hlt⟩
      obtain ⟨b, o, ha, hb, hc0, hc1⟩ := HC.out k x hx
      subst ha
      have hcx0 : wr.cell? ⟨b, o + k * 2, none⟩ = some (.bool x.1) := (hnx.cell (by exact hb)).trans hc0
      have hcx1 : wr.cell? ⟨b, o + k * 2 + 1, none⟩ = some (.string x.2) := (hnx.cell (by exact hb)).trans hc1
      have hxs := HSZ.out x (List.mem_of_getElem? hx)
      have hmk : ms[k]? = some ⟨(markS (x.1, x.2.data.toList)).toArray⟩ := by rw [HMS.out, List.getElem?_map, hx]; rfl
      have hms1 : (ms.take (k + 1)) = ms.take k ++ [⟨(markS (x.1, x.2.data.toList)).toArray⟩] := by rw [List.take_add_one, hmk]; rfl
      obtain ⟨mb, hmb⟩ : ∃ mb : ByteArray, mb = ⟨(markS (x.1, x.2.data.toList)).toArray⟩ := ⟨_, rfl⟩
      rw [← hmb] at hms1
      have cM := markVal_any x.1 x.2 hxs (wr.alloc (.cells #[.bool x.1, .string x.2] 115))
      rw [← hmb] at cM
      have HM1 := Lib.hid hms1
      have hkl : (ms.take k).length ≤ k := List.length_take_le _ _
      clear hmb hms1 hmk hc0 hc1 hx
      go_wp2_with fail
      refine cM.mono ?_
      rintro e w2 ⟨rfl, hb2⟩
      have hnx2 : Below w.heap.size w w2 := (hnx.alloc hnx.size _).trans (hb2.mono (by have := hnx.size; simp; omega))
      have hown2 : w2.ownsRow w.heap.size 9 1 _ (ms.take k).length ((ms.take k).map Value.string) := (hown.alloc (.cells #[.bool x.1, .string x.2] 115)).kept (row := none) ⟨hb2.os, hb2.tape, hb2.output, hb2.size, fun g hg _ => hb2.block g hg⟩ (by cases h : Value.ownBlock _ <;> simp)
      have hs2 := hnx2.size
      clear hb2 hown hcx0 hcx1 cM
      go_wp2_with (at_builtin; refine wpList_append_own _ rfl _ _ 35 rfl w.heap.size 9 i0 (.string ByteArray.empty) 1 16 Tryz.underlying35 hi hz0 hz1 hz2 rfl (by decide) _ _ _ rfl (hown2.alloc _) ⟨w2.heap.size, 0, none⟩ 1 1 [.string mb] rfl rfl ?c1 ?c2 ?c3 ?c4 ?c5 ?_)
      case c1 =>
        intro j u hj
        match j, hj with
        | 0, hj => simp at hj; subst hj; simp [Addr.add]
      case c2 => intro u hu; simp at hu; subst hu; rfl
      case c3 => unfold maxLen; omega
      case c4 => omega
      case c5 => simp; omega
      · intro v' w3 hown' hgrow _
        have hnx' : Below w.heap.size w w3 := (hnx2.alloc hs2 _).grown hgrow (by simp; omega) (fun g hg => (hown2.lt g hg).1)
        have HO : Hid (w3.ownsRow w.heap.size 9 1 v' (ms.take (k + 1)).length ((ms.take (k + 1)).map Value.string)) := by
          show w3.ownsRow _ _ _ _ _ _
          rw [HM1.out, List.length_append, List.map_append]
          simpa using hown'
        clear hgrow hown2 hown'
        go_wp2
        go_roundw
        case rel => exact ⟨k + 1, by omega, by go_num, HO.out, hnx'⟩
        case measure => simp [intOf]; omega
    · have hfull : ms.take k = ms := List.take_of_length_le (by have := HML.out; omega)
      rw [hfull] at hown
      have hS := strs_own hown
      have hpl : putS (ms.map (·.data.toList)) = res := by rw [HMD.out, HRES.out]
      have cP := put_any _ ms wr hS (by have := HML.out; omega) (HG.out.below hnx) (by rw [HMD.out]; exact HLE.out)
      rw [hpl] at cP
      clear hfull hown hpl hS
      go_wp2_with fail
      refine cP.mono ?_
      rintro e w2 ⟨rfl, hb2⟩
      go_wp2
      go_ret
      exact ⟨rfl, hnx.trans (hb2.mono hnx.size)⟩
end Go.Proofs.YtlmnabhhgplhnaaGreatDoor
namespace Go.Proofs.YtlmnabhhgplhnaaGreatDoor
open Go.RowKit

theorem erase_none (B b : Nat) (r : Option Nat) (fs : List F2) (x : ByteArray) (w : World) (h : IsTree w B b r fs) (hx : hasF fs x = false) :
    Calls Tryz.prog 83 #[.pointer (some ⟨b, 0, none⟩), .string x] w fun e w' => e = .returned (.int .i64 6) ∧ Below w.heap.size w w' := by
  have hF := find_any B b r fs x w h
  rw [hx] at hF
  generalize posOf fs x = p at *
  clear h hx
  go_enter Tryz.func83, Tryz.ntmps83
  go_wp2_with fail
  refine hF.mono ?_
  rintro e w' ⟨rfl, hb⟩
  go_wp2
  go_ret
  exact ⟨rfl, hb⟩

theorem numS_digit (n : Nat) (h : n < 10) : numS n = [UInt8.ofNat (48 + n)] := by
  unfold numS Lib.itoa
  rw [Int.max_eq_left (by omega), if_neg (by omega), Int.toNat_natCast, Lib.decDigits, dif_pos h]
theorem numS_two (n : Nat) (h1 : 10 ≤ n) (h : n < 100) : numS n = [UInt8.ofNat (48 + n / 10), UInt8.ofNat (48 + n % 10)] := by
  unfold numS Lib.itoa
  rw [Int.max_eq_left (by omega), if_neg (by omega), Int.toNat_natCast, Lib.decDigits, dif_neg (by omega), Lib.decDigits, dif_pos (by omega)]
  rfl

theorem b_norm1 : normS [97, 47, 47, 46, 47, 98, 47, 46, 46, 47, 99] = ([97, 47, 99], true) := by decide +kernel
theorem b_norm2 : normS [46, 46] = ([], false) := by decide +kernel
theorem b_num : getNum [49, 50] 20 = (12, true) := by
  have h : Lib.atoiAll [49, 50] = .ok 12 := by decide +kernel
  unfold getNum
  rw [h]
  have e : numS (12 : Int) = [49, 50] := numS_two 12 (by decide) (by decide)
  simp only [e]
  decide
theorem b_num1 : getNum [49] 4 = (1, true) := by
  have h : Lib.atoiAll [49] = .ok 1 := by decide +kernel
  unfold getNum
  rw [h]
  have e : numS (1 : Int) = [49] := numS_digit 1 (by decide)
  simp only [e]
  decide
theorem b_num0 : getNum [48] 0 = (0, true) := by
  have h : Lib.atoiAll [48] = .ok 0 := by decide +kernel
  unfold getNum
  rw [h]
  have e : numS (0 : Int) = [48] := numS_digit 0 (by decide)
  simp only [e]
  decide
theorem b_get : getS [49, 58, 97, 48, 58] = some [[97], []] := by
  have h1 : cutPartS [49, 58, 97, 48, 58] = some ([97], [48, 58]) := by
    have := cutPartS_hit (a := [49]) (b := [97, 48, 58]) (by decide)
    rw [show ([49] : List UInt8) ++ 58 :: [97, 48, 58] = [49, 58, 97, 48, 58] from rfl] at this
    rw [this]
    have e : getNum [49] (([97, 48, 58] : List UInt8).length : Nat) = (1, true) := by
      have h : Lib.atoiAll [49] = .ok 1 := by decide +kernel
      unfold getNum
      rw [h]
      have e : numS (1 : Int) = [49] := numS_digit 1 (by decide)
      simp only [e]
      decide
    rw [e]; rfl
  have h2 : cutPartS [48, 58] = some ([], []) := by
    have := cutPartS_hit (a := [48]) (b := []) (by decide)
    rw [show ([48] : List UInt8) ++ 58 :: [] = [48, 58] from rfl] at this
    rw [this]
    have e : getNum [48] (([] : List UInt8).length : Nat) = (0, true) := b_num0
    rw [e]; rfl
  rw [getS_some (by decide) h1, getS_some (by decide) h2, getS_nil]
  rfl
theorem b_put : putS [[97], []] = [49, 58, 97, 48, 58] := by
  have e1 : numS ((([97] : List UInt8).length : Nat) : Int) = [49] := numS_digit 1 (by decide)
  have e0 : numS ((([] : List UInt8).length : Nat) : Int) = [48] := numS_digit 0 (by decide)
  simp only [putS, partS, List.map_cons, List.map_nil, List.flatten_cons, List.flatten_nil, e1, e0]
  rfl
theorem b_vals : putS [[43, 122], [45]] = [50, 58, 43, 122, 49, 58, 45] := by
  have e1 : numS ((([43, 122] : List UInt8).length : Nat) : Int) = [50] := numS_digit 2 (by decide)
  have e0 : numS ((([45] : List UInt8).length : Nat) : Int) = [49] := numS_digit 1 (by decide)
  simp only [putS, partS, List.map_cons, List.map_nil, List.flatten_cons, List.flatten_nil, e1, e0]
  rfl
theorem b_key : putS [[97], [], [98], [120]] = [49, 58, 97, 48, 58, 49, 58, 98, 49, 58, 120] := by
  have e1 : ∀ c : UInt8, numS ((([c] : List UInt8).length : Nat) : Int) = [49] := fun _ => numS_digit 1 (by decide)
  have e0 : numS ((([] : List UInt8).length : Nat) : Int) = [48] := numS_digit 0 (by decide)
  simp only [putS, partS, List.map_cons, List.map_nil, List.flatten_cons, List.flatten_nil, e1, e0]
  rfl
def bFiles : List F2 := [(⟨#[98]⟩, ⟨#[120]⟩), (⟨#[97]⟩, ⟨#[]⟩), (⟨#[105, 110]⟩, ⟨#[]⟩)]
def bTree : List F2 := [(⟨#[97]⟩, ⟨#[]⟩), (⟨#[98]⟩, ⟨#[120]⟩)]
theorem b_new : newF bFiles = bTree := by kernel_rfl
theorem b_read : readF bTree ⟨#[98]⟩ = (⟨#[120]⟩, true) := by kernel_rfl
theorem b_has : hasF bTree ⟨#[99]⟩ = false := by kernel_rfl
theorem b_may1 : okName [97, 47, 98, 46, 99] = true := by decide +kernel
theorem b_may2 : okName [97, 47, 47, 98] = false := by decide +kernel
theorem b_may3 : okName [114, 117, 108, 101] = false := by decide +kernel
theorem b_join : joinS [[97], [], [98]] = [97, 47, 98] := by decide +kernel
theorem b_cut : cutAt 47 [47] = [[], []] := by decide +kernel
end Go.Proofs.YtlmnabhhgplhnaaGreatDoor
namespace Go.Proofs.YtlmnabhhgplhnaaGreatDoor
open Go.RowKit

theorem strs_of_alloc (w : World) (xs : List ByteArray) (cells : Array Value) (hc : cells = (xs.map Value.string).toArray) (hl : xs.length ≤ 1000) :
    IsStrs (w.alloc (.cells cells 9)) (.slice (some ⟨w.heap.size, 0, none⟩) xs.length xs.length) xs := by
  subst hc
  refine ⟨_, xs.length, rfl, Nat.le_refl _, by unfold maxLen; omega, fun _ => ⟨w.heap.size, 0, rfl, by simp, fun j x hx => ?_⟩⟩
  rw [Nat.zero_add]
  exact cell_strs w xs _ j x hx

theorem files_of_alloc (w : World) (fs : List F2) (cells : Array Value) (hc : cells = (fileCells fs).toArray) (hl : fs.length ≤ 1000) :
    IsFiles (w.alloc (.cells cells 109)) (.slice (some ⟨w.heap.size, 0, none⟩) fs.length fs.length) fs := by
  subst hc
  refine ⟨_, fs.length, rfl, Nat.le_refl _, by unfold maxLen; omega, fun _ => ⟨w.heap.size, 0, rfl, by simp, fun j x hx => ?_⟩⟩
  obtain ⟨h1, h2⟩ := fileCells_at fs j x hx
  rw [Nat.zero_add]
  exact ⟨by rw [World.cell?_alloc_at _ _ _ _ rfl]; simpa using h1, by rw [World.cell?_alloc_at _ _ _ _ rfl]; simpa using h2⟩

theorem vals_of_alloc (w : World) (vs : List (Bool × ByteArray)) (cells : Array Value) (hc : ∀ (j : Nat) x, vs[j]? = some x → cells[j * 2]? = some (.bool x.1) ∧ cells[j * 2 + 1]? = some (.string x.2)) (hl : vs.length ≤ 1000) :
    IsVals (w.alloc (.cells cells 115)) (.slice (some ⟨w.heap.size, 0, none⟩) vs.length vs.length) vs := by
  refine ⟨_, vs.length, rfl, Nat.le_refl _, by unfold maxLen; omega, fun _ => ⟨w.heap.size, 0, rfl, by simp, fun j x hx => ?_⟩⟩
  obtain ⟨h1, h2⟩ := hc j x hx
  rw [Nat.zero_add]
  exact ⟨by rw [World.cell?_alloc_at _ _ _ _ rfl]; exact h1, by rw [World.cell?_alloc_at _ _ _ _ rfl]; exact h2⟩

/-- A step of a chain of calls: below, and the library's variables still there. -/
theorem chain {w a b : World} (h : Below w.heap.size w a) (h' : Below a.heap.size a b) : Below w.heap.size w b := h.trans (h'.mono h.size)

set_option maxHeartbeats 4000000 in
set_option maxRecDepth 100000 in
theorem begun_any (w : World) (hG : Glob w) : Calls Tryz.prog 42 #[] w fun e w' => e = .returned (.bool true) ∧ Below w.heap.size w w' := by
  have HG := Lib.hid hG
  clear hG
  have cN1 : ∀ w, Glob w → Calls Tryz.prog 70 #[.string ⟨#[97, 47, 47, 46, 47, 98, 47, 46, 46, 47, 99]⟩] w fun e w' => e = .returned (.tuple #[.string ⟨#[97, 47, 99]⟩, .bool true]) ∧ Below w.heap.size w w' := fun w hg => by
    obtain ⟨m, hm⟩ := hg.max
    have h := norm_any ⟨#[97, 47, 47, 46, 47, 98, 47, 46, 46, 47, 99]⟩ m w (by decide) (cell_lt hm) hm
    rw [show (⟨#[97, 47, 47, 46, 47, 98, 47, 46, 46, 47, 99]⟩ : ByteArray).data.toList = [97, 47, 47, 46, 47, 98, 47, 46, 46, 47, 99] from rfl, b_norm1] at h
    exact h
  have cN2 : ∀ w, Glob w → Calls Tryz.prog 70 #[.string ⟨#[46, 46]⟩] w fun e w' => e = .returned (.tuple #[.string ⟨#[]⟩, .bool false]) ∧ Below w.heap.size w w' := fun w hg => by
    obtain ⟨m, hm⟩ := hg.max
    have h := norm_any ⟨#[46, 46]⟩ m w (by decide) (cell_lt hm) hm
    rw [show (⟨#[46, 46]⟩ : ByteArray).data.toList = [46, 46] from rfl, b_norm2] at h
    exact h
  have cG : ∀ w, Glob w → Calls Tryz.prog 71 #[.string ⟨#[49, 58, 97, 48, 58]⟩] w fun e w' => (∃ a c, e = .returned (.tuple #[.slice a 2 c, .bool true])) ∧ Below w.heap.size w w' := fun w hg => by
    have h := get_any ⟨#[49, 58, 97, 48, 58]⟩ w (by decide) hg
    rw [show (⟨#[49, 58, 97, 48, 58]⟩ : ByteArray).data.toList = [49, 58, 97, 48, 58] from rfl, b_get] at h
    refine h.mono ?_
    rintro e w' ⟨hb, a, c, xs, hxs, rfl, _⟩
    have : xs.length = 2 := by rw [← List.length_map (·.data.toList), hxs]; rfl
    exact ⟨⟨a, c, by rw [this]⟩, hb⟩
  have cGN : ∀ w, Glob w → Calls Tryz.prog 72 #[.string ⟨#[49, 50]⟩, .int .i64 20] w fun e w' => e = .returned (.tuple #[.int .i64 12, .bool true]) ∧ Below w.heap.size w w' := fun w hg => by
    have h := getNumber_any ⟨#[49, 50]⟩ 20 (by decide) w hg
    rw [show (⟨#[49, 50]⟩ : ByteArray).data.toList = [49, 50] from rfl, b_num] at h
    exact h
  have cMay : ∀ (l : List UInt8) (r : Bool), l.length ≤ 40 → okName l = r → ∀ w, Glob w → Calls Tryz.prog 75 #[.string ⟨l.toArray⟩] w fun e w' => e = .returned (.bool r) ∧ Below w.heap.size w w' := fun l r hl hr w hg => by
    obtain ⟨m, hm⟩ := hg.max
    have h := may_any ⟨l.toArray⟩ m w (by unfold maxLen; simp only [ByteArray.size, List.size_toArray]; omega) hm
    rw [show (⟨l.toArray⟩ : ByteArray).data.toList = l from by simp, hr] at h
    exact h
  have cM1 := cMay [97, 47, 98, 46, 99] true (by decide) b_may1
  have cM2 := cMay [97, 47, 47, 98] false (by decide) b_may2
  have cM3 := cMay [114, 117, 108, 101] false (by decide) b_may3
  have cJ : ∀ w, Glob w → Calls Tryz.prog 76 #[.slice (some ⟨w.heap.size, 0, none⟩) 3 3] (w.alloc (.cells #[.string ⟨#[97]⟩, .string ⟨#[]⟩, .string ⟨#[98]⟩] 9)) fun e w' => e = .returned (.string ⟨#[97, 47, 98]⟩) ∧ Below w.heap.size w w' := fun w hg => by
    have h := join_any _ [⟨#[97]⟩, ⟨#[]⟩, ⟨#[98]⟩] _ (strs_of_alloc w [⟨#[97]⟩, ⟨#[]⟩, ⟨#[98]⟩] _ rfl (by decide)) (by decide) (by show (joinS [[97], [], [98]]).length ≤ _; rw [b_join]; decide)
    rw [show ([⟨#[97]⟩, ⟨#[]⟩, ⟨#[98]⟩] : List ByteArray).map (·.data.toList) = [[97], [], [98]] from rfl, b_join] at h
    exact h.mono fun e w' ⟨he, hb⟩ => ⟨he, chain ((Below.refl _ _).alloc (Nat.le_refl _) _) hb⟩
  have cP : ∀ w, Glob w → Calls Tryz.prog 77 #[.string ⟨#[47]⟩] w fun e w' => (∃ a c, e = .returned (.slice a 2 c)) ∧ Below w.heap.size w w' := fun w hg => by
    obtain ⟨m, hm⟩ := hg.max
    refine (parts_any ⟨#[47]⟩ m w (by decide) hm).mono ?_
    rintro e w' ⟨xs, hxs, rfl, rfl⟩
    have : xs.length = 2 := by
      rw [← List.length_map (·.data.toList), hxs]
      show (cutAt 47 [47]).length = 2
      rw [b_cut]; rfl
    exact ⟨⟨_, _, by rw [this]⟩, (Below.refl _ _).alloc (Nat.le_refl _) _⟩
  have cPut : ∀ w, Glob w → Calls Tryz.prog 78 #[.slice (some ⟨w.heap.size, 0, none⟩) 2 2] (w.alloc (.cells #[.string ⟨#[97]⟩, .string ⟨#[]⟩] 9)) fun e w' => e = .returned (.string ⟨#[49, 58, 97, 48, 58]⟩) ∧ Below w.heap.size w w' := fun w hg => by
    have hb0 : Below w.heap.size w (w.alloc (.cells #[.string ⟨#[97]⟩, .string ⟨#[]⟩] 9)) := (Below.refl _ _).alloc (Nat.le_refl _) _
    have h := put_any _ [⟨#[97]⟩, ⟨#[]⟩] _ (strs_of_alloc w [⟨#[97]⟩, ⟨#[]⟩] _ rfl (by decide)) (by decide) (hg.below hb0) (by show (putS [[97], []]).length ≤ _; rw [b_put]; decide)
    rw [show ([⟨#[97]⟩, ⟨#[]⟩] : List ByteArray).map (·.data.toList) = [[97], []] from rfl, b_put] at h
    exact h.mono fun e w' ⟨he, hb⟩ => ⟨he, chain hb0 hb⟩
  have cVals : ∀ w, Glob w → Calls Tryz.prog 79 #[.slice (some ⟨w.heap.size, 0, none⟩) 2 2] (w.alloc (.cells #[.bool true, .string ⟨#[122]⟩, .bool false, .string ⟨#[]⟩] 115)) fun e w' => e = .returned (.string ⟨#[50, 58, 43, 122, 49, 58, 45]⟩) ∧ Below w.heap.size w w' := fun w hg => by
    have hb0 : Below w.heap.size w (w.alloc (.cells #[.bool true, .string ⟨#[122]⟩, .bool false, .string ⟨#[]⟩] 115)) := (Below.refl _ _).alloc (Nat.le_refl _) _
    have h := vals_any _ [(true, ⟨#[122]⟩), (false, ⟨#[]⟩)] _ (vals_of_alloc w [(true, ⟨#[122]⟩), (false, ⟨#[]⟩)] _ (fun j x hx => by
        match j, hx with
        | 0, hx => simp at hx; subst hx; exact ⟨rfl, rfl⟩
        | 1, hx => simp at hx; subst hx; exact ⟨rfl, rfl⟩) (by decide)) (by decide) (hg.below hb0) (by intro x hx; simp at hx; rcases hx with rfl | rfl <;> decide) (by show (putS [[43, 122], [45]]).length ≤ _; rw [b_vals]; decide)
    rw [show ([(true, ⟨#[122]⟩), (false, ⟨#[]⟩)] : List (Bool × ByteArray)).map (fun x => markS (x.1, x.2.data.toList)) = [[43, 122], [45]] from rfl, b_vals] at h
    exact h.mono fun e w' ⟨he, hb⟩ => ⟨he, chain hb0 hb⟩
  have cNew : ∀ w, Glob w → Calls Tryz.prog 73 #[.slice (some ⟨w.heap.size, 0, none⟩) 3 3] (w.alloc (.cells #[.string ⟨#[98]⟩, .string ⟨#[120]⟩, .string ⟨#[97]⟩, .string ⟨#[]⟩, .string ⟨#[105, 110]⟩, .string ⟨#[]⟩] 109)) fun e w' => ∃ b B r, e = .returned (.pointer (some ⟨b, 0, none⟩)) ∧ Below w.heap.size w w' ∧ IsTree w' B b r bTree := fun w hg => by
    have hb0 : Below w.heap.size w (w.alloc (.cells #[.string ⟨#[98]⟩, .string ⟨#[120]⟩, .string ⟨#[97]⟩, .string ⟨#[]⟩, .string ⟨#[105, 110]⟩, .string ⟨#[]⟩] 109)) := (Below.refl _ _).alloc (Nat.le_refl _) _
    have h := new_any _ bFiles _ (files_of_alloc w bFiles _ rfl (by decide)) (hg.below hb0) (by intro x hx; simp [bFiles] at hx; rcases hx with rfl | rfl | rfl <;> exact ⟨by decide, by decide⟩)
    rw [b_new] at h
    refine h.mono ?_
    rintro e w' ⟨b, r, rfl, hT, hb⟩
    exact ⟨b, _, r, rfl, chain hb0 hb, hT⟩
  have HN1 := Lib.hid cN1; have HN2 := Lib.hid cN2; have HCG := Lib.hid cG; have HGN := Lib.hid cGN; have HM1 := Lib.hid cM1; have HM2 := Lib.hid cM2; have HM3 := Lib.hid cM3
  have HJ := Lib.hid cJ; have HP := Lib.hid cP; have HPut := Lib.hid cPut; have HVals := Lib.hid cVals; have HNew := Lib.hid cNew
  clear cN1 cN2 cG cGN cMay cM1 cM2 cM3 cJ cP cPut cVals cNew
  go_enter Tryz.func42, Tryz.ntmps42
  go_wp2_with fail
  refine (HN1.out _ HG.out).mono ?_
  rintro e w1 ⟨rfl, hb1⟩
  go_wp2_with fail
  refine (HN2.out _ (HG.out.below hb1)).mono ?_
  rintro e w2 ⟨rfl, hb2⟩
  replace hb2 := chain hb1 hb2
  clear hb1
  go_wp2_with fail
  refine (HCG.out _ (HG.out.below hb2)).mono ?_
  rintro e w3 ⟨⟨a3, c3, rfl⟩, hb3⟩
  replace hb3 := chain hb2 hb3
  clear hb2
  go_wp2_with fail
  refine (HGN.out _ (HG.out.below hb3)).mono ?_
  rintro e w4 ⟨rfl, hb4⟩
  replace hb4 := chain hb3 hb4
  clear hb3
  go_wp2_with fail
  refine (HNew.out _ (HG.out.below hb4)).mono ?_
  rintro e w5 ⟨b5, B5, r5, rfl, hb5, ht5⟩
  replace hb5 := chain hb4 hb5
  have HT5 := Lib.hid ht5
  clear hb4 ht5
  go_wp2_with fail
  refine (read_any B5 b5 r5 bTree ⟨#[98]⟩ _ HT5.out).mono ?_
  rw [b_read]
  rintro e w6 ⟨rfl, hb6⟩
  have HT6 := Lib.hid (HT5.out.below hb6)
  replace hb6 := chain hb5 hb6
  clear hb5 HT5
  go_wp2_with fail
  refine (HM1.out _ (HG.out.below hb6)).mono ?_
  rintro e w7 ⟨rfl, hb7⟩
  have HT7 := Lib.hid (HT6.out.below hb7)
  replace hb7 := chain hb6 hb7
  clear hb6 HT6
  go_wp2_with fail
  refine (HM2.out _ (HG.out.below hb7)).mono ?_
  rintro e w8 ⟨rfl, hb8⟩
  have HT8 := Lib.hid (HT7.out.below hb8)
  replace hb8 := chain hb7 hb8
  clear hb7 HT7
  go_wp2_with fail
  refine (HM3.out _ (HG.out.below hb8)).mono ?_
  rintro e w9 ⟨rfl, hb9⟩
  have HT9 := Lib.hid (HT8.out.below hb9)
  replace hb9 := chain hb8 hb9
  clear hb8 HT8
  go_wp2_with fail
  refine (HJ.out _ (HG.out.below hb9)).mono ?_
  rintro e w10 ⟨rfl, hb10⟩
  have HT10 := Lib.hid (HT9.out.below hb10)
  replace hb10 := chain hb9 hb10
  clear hb9 HT9
  go_wp2_with fail
  refine (HP.out _ (HG.out.below hb10)).mono ?_
  rintro e w11 ⟨⟨a11, c11, rfl⟩, hb11⟩
  have HT11 := Lib.hid (HT10.out.below hb11)
  replace hb11 := chain hb10 hb11
  clear hb10 HT10
  go_wp2_with fail
  refine (HPut.out _ (HG.out.below hb11)).mono ?_
  rintro e w12 ⟨rfl, hb12⟩
  have HT12 := Lib.hid (HT11.out.below hb12)
  replace hb12 := chain hb11 hb12
  clear hb11 HT11
  go_wp2_with fail
  refine (HVals.out _ (HG.out.below hb12)).mono ?_
  rintro e w13 ⟨rfl, hb13⟩
  have HT13 := Lib.hid (HT12.out.below hb13)
  replace hb13 := chain hb12 hb13
  clear hb12 HT12
  obtain ⟨a9, c9, hA, hF⟩ := HT13.out.all
  have HA := Lib.hid hA
  have HF := Lib.hid hF
  clear hA hF
  go_wp2_with fail
  refine (len_core _ a9 c9 bTree _ HA.out).mono ?_
  rintro e w14 ⟨rfl, rfl⟩
  go_wp2_with fail
  refine (names_core _ a9 c9 bTree _ HA.out HF.out (by decide)).mono ?_
  rintro e w15 ⟨a15, c15, rfl, hown15, hb15⟩
  have HT15 := Lib.hid (HT13.out.below hb15)
  replace hb15' := chain hb13 hb15
  have hn15 : ∃ g, a15 = some ⟨g, 0, none⟩ ∧ w15.cell? ⟨g, 0, none⟩ = some (.string ⟨#[97]⟩) := by
    have hS := strs_own (xs := [⟨#[97]⟩, ⟨#[98]⟩]) hown15
    obtain ⟨_, ⟨hv, h0⟩ | ⟨g, cap, cur, hv, _⟩⟩ := hown15
    · cases h0
    · cases hv
      obtain ⟨a', c', hv, _, _, hc⟩ := hS
      cases hv
      obtain ⟨b', o', h1, _, h2⟩ := hc (by simp)
      cases h1
      exact ⟨g, rfl, h2 0 _ rfl⟩
  obtain ⟨g15, rfl, hc15⟩ := hn15
  have HA15 := Lib.hid (HA.out.below hb15)
  have HF15 := Lib.hid (HF.out.below hb15)
  clear hown15 hb15 hb13 HT13 HA HF
  go_wp2_with fail
  refine (key_core _ a9 c9 bTree _ HA15.out HF15.out (by decide) (HG.out.below hb15') (by show (putS [[97], [], [98], [120]]).length ≤ _; rw [b_key]; decide)).mono ?_
  rw [show keyL bTree = [[97], [], [98], [120]] from rfl, b_key]
  rintro e w16 ⟨rfl, hb16⟩
  have HT16 := Lib.hid (HT15.out.below hb16)
  replace hb16 := chain hb15' hb16
  clear hb15' HT15 hc15
  go_wp2_with fail
  refine (erase_none B5 b5 r5 bTree ⟨#[99]⟩ _ HT16.out b_has).mono ?_
  rintro e w17 ⟨rfl, hb17⟩
  replace hb17 := chain hb16 hb17
  clear hb16
  go_wp2_with fail
  go_ret
  exact ⟨rfl, hb17⟩
end Go.Proofs.YtlmnabhhgplhnaaGreatDoor
namespace Go.Proofs.YtlmnabhhgplhnaaGreatDoor
open Go.RowKit

theorem step_append_own {P : Program} {ops : Array Oper} {o : Oper} {a : Act} {w : World} {K : Act → World → Prop} {Q : Exit → Act → World → Prop} {E : Prop} (hgd : o.guard = none) (s x : Operand) (t : TypeId)
    (ho : o.op = .call { callee := .builtin .append, args := #[s, x], argTypes := #[t, t] })
    (base : Nat) (e : TypeId) (i : TypeInfo) (z : Value) (size bytes : Nat) (ht : P.underlying t = some (.slice e)) (hi : P.info? e = some i) (hz : i.zero = some z)
    (hsize : i.size = size) (hby : i.bytes = bytes) (hzs : z.cells.size = size) (hsz : 0 < size)
    (v : Value) (n : Nat) (xs : List Value) (hs : a.eval s = v) (hown : w.ownsRow base e size v n xs)
    (ad : Addr) (m c : Nat) (news : List Value) (hx : a.eval x = .slice (some ad) m c) (hl : news.length = m * size) (hnews : ∀ j u, news[j]? = some u → w.cell? (ad.add j) = some u) (h1 : ∀ u ∈ news, u.oneCell' = true)
    (h63 : n + m ≤ maxLen) (hbytes : (n + m) * bytes ≤ 140737488355328) (hbase : base ≤ w.heap.size)
    (h : ∀ v' w', w'.ownsRow base e size v' (n + m) (xs ++ news) → w.grownBy w' v.ownBlock → K (a.put o.dst v') w') :
    if Region.wanted o (yielded ops a.tmps) = true then Oper.wp P o a w K Q else E := by
  have hw : Region.wanted o (yielded ops a.tmps) = true := by simp [Region.wanted, hgd]
  rw [if_pos hw]
  obtain ⟨v', w', hr, h2, h3, _⟩ := run_append_own (P := P) w base t o.type e i z size bytes ht hi hz hsize hby hzs hsz v n xs hown ad m c news hl hnews h1 h63 hbytes hbase
  unfold Oper.wp execOp
  simp only [ho, resolve, invoke, builtin, Sem.run_bind, Sem.run_pure, Result.andThen_ok, List.map_toArray, List.map_cons, List.map_nil, hs, hx, hr]
  exact h v' w' h2 h3

def RowAt (w : World) (B : Nat) (v : Value) (fs : List F2) : Prop := w.ownsRow B 109 2 v fs.length (fileCells fs)
def Apart (v : Value) (b : Nat) (r : Option Nat) : Prop := ∀ g, v.ownBlock = some g → g ≠ b ∧ r ≠ some g
theorem RowAt.below {w w' : World} {B : Nat} {v : Value} {fs : List F2} (h : RowAt w B v fs) (hb : Below w.heap.size w w') : RowAt w' B v fs := World.ownsRow.kept h (grown_below hb none) (by cases Value.ownBlock v <;> simp)
theorem RowAt.files {w : World} {B : Nat} {v : Value} {fs : List F2} (h : RowAt w B v fs) : IsFiles w v fs := OwnF.files (.inl ⟨h, rfl⟩)
theorem RowAt.new {w : World} {B b : Nat} {v : Value} {fs T : List F2} {r : Option Nat} (h : RowAt w B v fs) (w' : World) (ht : IsTree w' w.heap.size b r T) : Apart v b r := by
  intro g hg
  have := World.ownsRow.lt h g hg
  obtain ⟨h1, h2, _⟩ := ht.rlt
  exact ⟨by omega, fun e => by have := (h1 g e).1; omega⟩
theorem IsTree.grown {w w' : World} {B b : Nat} {r row : Option Nat} {fs : List F2} (h : IsTree w B b r fs) (hg : w.grownBy w' row) (hb : some b ≠ row) (hr : r = none ∨ r ≠ row) : IsTree w' B b r fs := by
  obtain ⟨h1, h2, h3, v, h4, h5⟩ := h
  exact ⟨h1, h2, h3, v, (hg.block b (block_lt h4) hb).trans h4, h5.kept hg hr⟩
theorem RowAt.after {w w' : World} {B b : Nat} {r : Option Nat} {v : Value} {fs T : List F2} (h : RowAt w' w.heap.size v fs) (ht : IsTree w B b r T) (hg : w.grownBy w' none) : IsTree w' B b r T ∧ Apart v b r := by
  refine ⟨ht.grown hg (by simp) (by cases r <;> simp), fun g hgv => ?_⟩
  have := World.ownsRow.lt h g hgv
  obtain ⟨h1, h2, h3⟩ := ht.rlt
  exact ⟨by omega, fun e => by have := (h1 g e).2; omega⟩
theorem Apart.tree {w w' : World} {B b : Nat} {r : Option Nat} {v : Value} {T : List F2} (h : Apart v b r) (ht : IsTree w B b r T) (hg : w.grownBy w' v.ownBlock) : IsTree w' B b r T := by
  refine ht.grown hg (fun e => (h b e.symm).1 rfl) ?_
  cases r with
  | none => exact .inl rfl
  | some g => exact .inr fun e => (h g e.symm).2 rfl

/-- Two trees, the second one made when the first one was there. -/
def BothT (wr w : World) (b1 b2 : Nat) (r1 r2 : Option Nat) (T U : List F2) : Prop :=
  ∃ B1 B2, IsTree w B1 b1 r1 T ∧ IsTree w B2 b2 r2 U ∧ b1 < B2 ∧ (∀ k, r1 = some k → k < B2) ∧ Below wr.heap.size wr w ∧ wr.heap.size ≤ B1 ∧ wr.heap.size ≤ B2
theorem BothT.make {wr w w' : World} {B1 b1 b2 : Nat} {r1 r2 : Option Nat} {T U : List F2} (h1 : IsTree w B1 b1 r1 T) (h2 : IsTree w' w.heap.size b2 r2 U) (hb : Below w.heap.size w w') (hw : Below wr.heap.size wr w) (hB : wr.heap.size ≤ B1) : BothT wr w' b1 b2 r1 r2 T U :=
  ⟨B1, w.heap.size, h1.below hb, h2, h1.rlt.2.2, fun k hk => (h1.rlt.1 k hk).2, hw.trans (hb.mono hw.size), hB, hw.size⟩
theorem BothT.below {wr w w' : World} {b1 b2 : Nat} {r1 r2 : Option Nat} {T U : List F2} (h : BothT wr w b1 b2 r1 r2 T U) (hb : Below w.heap.size w w') : BothT wr w' b1 b2 r1 r2 T U := by
  obtain ⟨B1, B2, h1, h2, h3, h4, h5, h6⟩ := h
  exact ⟨B1, B2, h1.below hb, h2.below hb, h3, h4, h5.trans (hb.mono h5.size), h6⟩
theorem grown_up {wr w w' : World} {row : Option Nat} (h : Below wr.heap.size wr w) (hg : w.grownBy w' row) (hr : ∀ k, row = some k → wr.heap.size ≤ k) : Below wr.heap.size wr w' := h.grown hg h.size hr
theorem tree_frame {w w' : World} {B b b2 : Nat} {r r2 : Option Nat} {fs : List F2} (h : IsTree w B b r fs) (hf : Frame2 w w' b2 r2) (hb : b ≠ b2) (hb2 : r2 ≠ some b) (hr : ∀ k, r = some k → k ≠ b2) (hr2 : ∀ k, r = some k → r2 ≠ some k) : IsTree w' B b r fs := by
  obtain ⟨h1, h2, h3, v, h4, h5⟩ := h
  refine ⟨h1, h2, h3, v, (hf.block b (block_lt h4) hb (fun e => hb2 e.symm)).trans h4, ?_⟩
  rcases h5 with ⟨hown, rfl⟩ | ⟨rfl, rfl, a, rfl⟩
  · refine .inl ⟨⟨hown.1, ?_⟩, rfl⟩
    rcases hown.2 with hn | ⟨g, cap, cur, rfl, hb', hgg, rest⟩
    · exact .inl hn
    · refine .inr ⟨g, cap, cur, rfl, hb', ?_, rest⟩
      rw [hf.block g (block_lt hgg) (hr g rfl) (fun e => hr2 g rfl e.symm)]
      exact hgg
  · exact .inr ⟨rfl, rfl, a, rfl⟩
theorem row_first {w : World} {B n : Nat} {v : Value} {fs : List F2} (h : w.ownsRow B 109 2 v (0 + n) ([] ++ fileCells fs)) (hn : fs.length = n) : RowAt w B v fs := by
  unfold RowAt
  rw [hn]
  simpa using h
theorem row_more {w : World} {B n m : Nat} {v : Value} {xs ys : List F2} (h : w.ownsRow B 109 2 v (n + m) (fileCells xs ++ fileCells ys)) (hn : xs.length = n) (hm : ys.length = m) : RowAt w B v (xs ++ ys) := by
  unfold RowAt
  rw [List.length_append, fileCells_append, hn, hm]
  exact h
end Go.Proofs.YtlmnabhhgplhnaaGreatDoor
