/- Contracts of package path: Parts, May. -/
import Derived.Test.YtmpiaaangbjapaaDoorWalkA
import Derived.Test.YtmpiaaangbjapaaDoorLays
namespace Go.Proofs.YtmpiaaangbjapaaDoor
open Go.RowKit

def slashB : ByteArray := ⟨#[47]⟩

theorem split_c (s sep : ByteArray) (m : Int) (w : World) (hs : s.size < 4294967281) (hm : w.cell? ⟨2, 0, none⟩ = some (.int .i64 m)) (h1 : 1 ≤ sep.size) :
    Calls Tryd.prog 31 #[.string s, .string sep] w fun e w' =>
      e = .returned (.slice (some ⟨w.heap.size, 0, none⟩) (Lib.countB s sep + 1) (Lib.countB s sep + 1)) ∧ w' = w.alloc (.cells ((Lib.splitB sep 0 (Lib.countB s sep) s).map Value.string).toArray 9) :=
  Any.strings_Split lLays_n146 (by kernel_rfl) s sep m w hs hm h1

theorem parts_any (s : ByteArray) (m : Int) (w : World) (hs : s.size < 4294967281) (hm : w.cell? ⟨2, 0, none⟩ = some (.int .i64 m)) :
    Calls Tryd.prog 14 #[.string s] w fun e w' => ∃ xs : List ByteArray, xs.map (·.data.toList) = cutAt 47 s.data.toList ∧
      e = .returned (.slice (some ⟨w.heap.size, 0, none⟩) xs.length xs.length) ∧ w' = w.alloc (.cells (xs.map Value.string).toArray 9) := by
  have hc := split_c s slashB m w hs hm (by decide)
  have hl : (Lib.splitB slashB 0 (Lib.countB s slashB) s).map (·.data.toList) = cutAt 47 s.data.toList := split_bytes 47 s
  have hn : Lib.countB s slashB + 1 = (Lib.splitB slashB 0 (Lib.countB s slashB) s).length := by
    rw [← List.length_map (·.data.toList), hl]; exact split_count 47 s
  rw [hn] at hc
  generalize Lib.splitB slashB 0 (Lib.countB s slashB) s = xs at *
  clear hn
  have HL := Lib.hid hl
  clear hl
  go_enter Tryd.func14, Tryd.ntmps14
  go_wp2_with (go_at_call 31; refine hc.mono ?_; rintro e w' ⟨rfl, rfl⟩)
  go_ret
  exact ⟨xs, HL.out, rfl, rfl⟩

/-- Which texts are names. -/
def okName (l : List UInt8) : Bool := decide (l.length ≤ 40) && !isCl l && (cutAt 47 l).all okPart

theorem all_map_data (xs : List ByteArray) (p : List UInt8 → Bool) : (xs.map (·.data.toList)).all p = xs.all fun x => p x.data.toList := by
  rw [List.all_map]; rfl

theorem cell_strs (w : World) (xs : List ByteArray) (t : TypeId) (k : Nat) (x : ByteArray) (h : xs[k]? = some x) : (w.alloc (.cells (xs.map Value.string).toArray t)).cell? ⟨w.heap.size, k, none⟩ = some (.string x) := by
  rw [World.cell?_alloc_at _ _ _ _ rfl]; simp [h]

theorem all_take_succ {α : Type} (l : List α) (p : α → Bool) (k : Nat) (x : α) (h : l[k]? = some x) : (l.take (k + 1)).all p = ((l.take k).all p && p x) := by
  rw [List.take_add_one, h, List.all_append]; simp
theorem all_false_at {α : Type} (l : List α) (p : α → Bool) (k : Nat) (x : α) (h : l[k]? = some x) (hp : p x = false) : l.all p = false := by
  rw [List.all_eq_false]; exact ⟨x, List.mem_of_getElem? h, by simp [hp]⟩

set_option maxHeartbeats 1000000 in
theorem may_any (s : ByteArray) (m : Int) (w : World) (hs : s.size ≤ maxLen) (hm : w.cell? ⟨2, 0, none⟩ = some (.int .i64 m)) :
    Calls Tryd.prog 12 #[.string s] w fun e w' => e = .returned (.bool (okName s.data.toList)) ∧ Below w.heap.size w w' := by
  unfold maxLen at hs
  obtain ⟨r, hr⟩ : ∃ r, r = okName s.data.toList := ⟨_, rfl⟩
  rw [← hr]
  have HR := Lib.hid hr
  clear hr
  have hsz := Lib.hid (Lib.size_eq s)
  by_cases h40 : s.size ≤ 40
  · obtain ⟨c, hc⟩ : ∃ c, isCl s.data.toList = c := ⟨_, rfl⟩
    have cC := isClause_any s w
    rw [hc] at cC
    have HC := Lib.hid hc
    clear hc
    go_enter Tryd.func12, Tryd.ntmps12
    cases c
    · go_wp2_with (first
        | (go_at_call 28; refine cC.mono ?_; rintro e w' ⟨rfl, rfl⟩)
        | (go_at_call 14; refine (parts_any s m w (by omega) hm).mono ?_; rintro e w' ⟨xs, hx, rfl, rfl⟩; have HX := Lib.hid hx; clear hx))
      have hlen := congrArg List.length HX.out
      rw [List.length_map] at hlen
      have hcl := cutAt_length_le 47 s.data.toList
      rw [← hlen, ← hsz.out] at hcl
      have hsm : ∀ (k : Nat) x, xs[k]? = some x → x.size ≤ 40 := by
        intro k x hx
        have h1 : x.data.toList ∈ cutAt 47 s.data.toList := by rw [← HX.out]; exact List.mem_map_of_mem (List.mem_of_getElem? hx)
        have h2 := cutAt_len 47 s.data.toList _ h1
        rw [← hsz.out] at h2
        rw [Lib.size_eq x]; omega
      have HSM := Lib.hid hsm
      clear hsm hlen
      have HR' : Hid (r = (xs.all fun x => okPart x.data.toList)) := by
        show r = _
        rw [HR.out, okName, HC.out, ← HX.out, all_map_data, decide_eq_true (by rw [← hsz.out]; exact h40)]; rfl
      go_loop [15] (fun i => ∃ k : Nat, k ≤ xs.length ∧ i = .int .i64 k ∧ ((xs.take k).all fun x => okPart x.data.toList) = true) (fun i => xs.length - (intOf i).toNat)
      case atStart => exact ⟨0, by omega, rfl, by simp⟩
      case round =>
        obtain ⟨k, hk, rfl, hr⟩ := hrel
        have HK := Lib.hid hr
        clear hr
        by_cases hlt : k < xs.length
        · obtain ⟨x, hx⟩ : ∃ x, xs[k]? = some x := ⟨xs[k], List.getElem?_eq_getElem hlt⟩
          have hcell := cell_strs w xs 9 k x hx
          have hxs := HSM.out k x hx
          have HA := Lib.hid (all_take_succ xs (fun x => okPart x.data.toList) k x hx)
          have HB := Lib.hid (all_false_at xs (fun x => okPart x.data.toList) k x hx)
          obtain ⟨b, hb⟩ : ∃ b, okPart x.data.toList = b := ⟨_, rfl⟩
          have cP := mayPart_any x (w.alloc (.cells (xs.map Value.string).toArray 9)) (by unfold maxLen; omega)
          rw [hb] at cP
          have HBV := Lib.hid hb
          clear hb hx
          cases b
          · go_wp2_with (go_at_call 29; refine cP.mono ?_; rintro e w' ⟨rfl, rfl⟩)
            go_ret
            exact ⟨ret_bool (by rw [HR'.out, HB.out HBV.out]), (Below.refl _ _).alloc (Nat.le_refl _) _⟩
          · go_wp2_with (go_at_call 29; refine cP.mono ?_; rintro e w' ⟨rfl, rfl⟩)
            go_round
            case rel => exact ⟨k + 1, by omega, by go_num, by rw [HA.out, HK.out, HBV.out]; rfl⟩
            case measure => simp [intOf]; omega
        · go_wp2
          go_ret
          exact ⟨ret_bool (by have := HK.out; rw [List.take_of_length_le (by omega)] at this; rw [HR'.out, this]), (Below.refl _ _).alloc (Nat.le_refl _) _⟩
    · go_wp2_with (first
        | (go_at_call 28; refine cC.mono ?_; rintro e w' ⟨rfl, rfl⟩))
      go_ret
      exact ⟨ret_bool (by rw [HR.out, okName, HC.out]; simp), Below.refl _ _⟩
  · go_enter Tryd.func12, Tryd.ntmps12
    go_wp2
    go_ret
    exact ⟨ret_bool (by rw [HR.out, okName, decide_eq_false (by rw [← hsz.out]; exact h40)]; simp), Below.refl _ _⟩
end Go.Proofs.YtmpiaaangbjapaaDoor
