/- Contracts of Short and of package path's inner functions. -/
import Derived.WalkKit
import Derived.WalkSpells
import Derived.WalkLawsBesides
import Derived.Deep.DeepFit
import Derived.Deep.DeepMust
import Derived.Deep.QuietTactic
import Derived.BigQuiet
import Derived.Lib.Hide
import Derived.Test.YtmpiaaangbjapaaDoorProg
import Derived.Test.YtmpiaaangbjapaaDoorMathA
namespace Go.Proofs.YtmpiaaangbjapaaDoor
open Go.RowKit

theorem ret_str {a b : ByteArray} (h : a = b) : Ending.returned (.string a) = .returned (.string b) := by rw [h]
theorem ret_bool {a b : Bool} (h : a = b) : Ending.returned (.bool a) = .returned (.bool b) := by rw [h]
theorem ret_int {k : IntKind} {a b : Int} (h : a = b) : Ending.returned (.int k a) = .returned (.int k b) := by rw [h]

/-- Which bytes may stand in a name's part. -/
def okByte (c : UInt8) : Bool := decide ((97 ≤ c.toNat ∧ c.toNat ≤ 122) ∨ (65 ≤ c.toNat ∧ c.toNat ≤ 90) ∨ (48 ≤ c.toNat ∧ c.toNat ≤ 57) ∨ c.toNat = 46 ∨ c.toNat = 95 ∨ c.toNat = 45)

theorem mayByte_any (c : UInt8) (w : World) :
    Calls Tryd.prog 44 #[.int .u8 c.toNat] w fun e w' => e = .returned (.bool (okByte c)) ∧ w = w' := by
  have hb : c.toNat < 256 := c.toNat_lt
  go_enter Tryd.func44, Tryd.ntmps44
  go_wp2
  all_goals go_ret
  all_goals exact ⟨ret_bool (by rw [Bool.eq_iff_iff]; simp [okByte]; omega), rfl⟩

/-- The four words that are no names. -/
def isCl (l : List UInt8) : Bool := l == [114, 117, 108, 101] || l == [105, 110] || l == [111, 117, 116] || l == [97, 102, 116, 101, 114]

theorem isClause_any (s : ByteArray) (w : World) :
    Calls Tryd.prog 28 #[.string s] w fun e w' => e = .returned (.bool (isCl s.data.toList)) ∧ w = w' := by
  go_enter Tryd.func28, Tryd.ntmps28
  go_wp2
  all_goals go_ret
  all_goals exact ⟨ret_bool (by simp_all [isCl, Lib.toList_data]), rfl⟩

/-- A part of a name that may be. -/
def okPart (l : List UInt8) : Bool := l != [] && l != [46] && l != [46, 46] && l.all okByte

theorem take_all_succ (l : List UInt8) (p : UInt8 → Bool) (k : Nat) (h : k < l.length) : (l.take (k + 1)).all p = ((l.take k).all p && p l[k]) := by
  rw [List.take_succ_eq_append_getElem h, List.all_append]; simp
theorem all_false_of (l : List UInt8) (p : UInt8 → Bool) (k : Nat) (h : k < l.length) (hp : p l[k] = false) : l.all p = false := by
  rw [List.all_eq_false]; exact ⟨l[k], List.getElem_mem h, by simp [hp]⟩

theorem okPart_rest {l : List UInt8} (h : ¬ (l = [] ∨ l = [46] ∨ l = [46, 46])) : okPart l = l.all okByte := by
  simp only [not_or] at h
  simp [okPart, h]

set_option maxHeartbeats 1000000 in
theorem mayPart_any (s : ByteArray) (w : World) (hs : s.size ≤ maxLen) :
    Calls Tryd.prog 29 #[.string s] w fun e w' => e = .returned (.bool (okPart s.data.toList)) ∧ w = w' := by
  unfold maxLen at hs
  obtain ⟨r, hr⟩ : ∃ r, r = okPart s.data.toList := ⟨_, rfl⟩
  rw [← hr]
  by_cases h1 : s.toList = [] ∨ s.toList = [46] ∨ s.toList = [46, 46]
  · have hf : r = false := by
      rw [hr, ← Lib.toList_data]
      rcases h1 with h | h | h <;> simp [okPart, h]
    subst hf
    clear hr
    go_enter Tryd.func29, Tryd.ntmps29
    by_cases ha : s.toList = []
    · go_wp2
      go_ret
      exact ⟨rfl, rfl⟩
    · by_cases hb : s.toList = [46]
      · go_wp2
        go_ret
        exact ⟨rfl, rfl⟩
      · have hc : s.toList = [46, 46] := by rcases h1 with h | h | h <;> first | exact absurd h ha | exact absurd h hb | exact h
        clear h1
        go_wp2
        go_ret
        exact ⟨rfl, rfl⟩
  · have ha : s.toList.isEmpty = false := by rw [Bool.eq_false_iff]; intro h; exact h1 (.inl (by simpa using h))
    have hb : (s.toList == [46]) = false := by rw [Bool.eq_false_iff]; intro h; exact h1 (.inr (.inl (by simpa using h)))
    have hc : (s.toList == [46, 46]) = false := by rw [Bool.eq_false_iff]; intro h; exact h1 (.inr (.inr (by simpa using h)))
    have HR := Lib.hid (hr.trans (okPart_rest (l := s.data.toList) (by rw [← Lib.toList_data]; exact h1)))
    clear hr h1
    go_enter Tryd.func29, Tryd.ntmps29
    go_wp2
    go_loop [16] (fun i => ∃ k : Nat, k ≤ s.size ∧ i = .int .i64 k ∧ (s.data.toList.take k).all okByte = true) (fun i => s.size - (intOf i).toNat)
    case atStart => exact ⟨0, by omega, rfl, by simp⟩
    case round =>
      obtain ⟨k, hk, rfl, hr⟩ := hrel
      have HK := Lib.hid hr
      clear hr
      by_cases hlt : k < s.size
      · have hlt' : k < s.data.toList.length := by rw [← Lib.size_eq]; exact hlt
        have hsucc := Lib.hid (take_all_succ s.data.toList okByte k hlt')
        have hfalse := Lib.hid (all_false_of s.data.toList okByte k hlt')
        have hget := Lib.hid (show s[k] = s.data.toList[k] from rfl)
        go_wp2_with (go_at_call 44; refine (mayByte_any _ _).mono ?_; rintro e w' ⟨rfl, rfl⟩)
        · go_ret
          exact ⟨ret_bool (by rw [HR.out, hfalse.out]; rw [← hget.out]; simp_all), rfl⟩
        · go_round
          case rel => exact ⟨k + 1, by omega, by go_num, by rw [hsucc.out, HK.out, ← hget.out]; simp_all⟩
          case measure => simp [intOf]; omega
      · go_wp2
        go_ret
        exact ⟨ret_bool (by have := HK.out; rw [List.take_of_length_le (by rw [← Lib.size_eq]; omega)] at this; rw [HR.out, this]), rfl⟩
end Go.Proofs.YtmpiaaangbjapaaDoor
