import Derived.Lib.Bytealg
import Derived.WalkKit
import Derived.WalkSpells
import Derived.WalkLawsBesides
import Derived.Deep.DeepFit
import Derived.Deep.DeepMust
import Derived.Deep.QuietTactic
import Derived.BigQuiet
import Derived.Lib.Hide
import Derived.Test.YtdhmeganlnpohaaGreatDoorProg
import Derived.Test.YtdhmeganlnpohaaGreatDoorLays
namespace Go.Proofs.YtdhmeganlnpohaaGreatDoor
def blankB (c : UInt8) : Bool := decide (c.toNat = 32 ∨ c.toNat = 9 ∨ c.toNat = 10 ∨ c.toNat = 13)
def nameB (c : UInt8) : Bool := decide ((97 ≤ c.toNat ∧ c.toNat ≤ 122) ∨ (65 ≤ c.toNat ∧ c.toNat ≤ 90) ∨ (48 ≤ c.toNat ∧ c.toNat ≤ 57) ∨ c.toNat = 46 ∨ c.toNat = 95 ∨ c.toNat = 45 ∨ c.toNat = 47)
def punctL : List UInt8 := [123, 125, 44, 59, 61, 40, 41, 43, 94, 58, 36]
def punctB (c : UInt8) : Bool := punctL.contains c
def plainB (c : UInt8) : Bool := decide (32 ≤ c.toNat ∧ c.toNat ≤ 126 ∧ c.toNat ≠ 34 ∧ c.toNat ≠ 92)
def hexV (c : UInt8) : Option Nat := if 48 ≤ c.toNat ∧ c.toNat ≤ 57 then some (c.toNat - 48) else if 97 ≤ c.toNat ∧ c.toNat ≤ 102 then some (c.toNat - 87) else none
def skipN : Bool → List UInt8 → Nat
 | _, [] => 0
 | false, c :: r => if blankB c then skipN false r + 1 else if c = 35 then skipN true r + 1 else 0
 | true, c :: r => if c = 10 then skipN false (c :: r) else skipN true r + 1
termination_by b l => (l.length, if b then 1 else 0)
theorem skip_blank {c : UInt8} (r : List UInt8) (h : blankB c = true) : skipN false (c :: r) = skipN false r + 1 := by rw [skipN, if_pos h]
theorem skip_rem {c : UInt8} (r : List UInt8) (h : c = 35) : skipN false (c :: r) = skipN true r + 1 := by
 rw [skipN, if_neg (by rw [h]; decide), if_pos h]
theorem skip_stop {c : UInt8} (r : List UInt8) (h : blankB c = false) (h' : c ≠ 35) : skipN false (c :: r) = 0 := by
 rw [skipN, if_neg (by rw [h]; decide), if_neg h']
theorem skip_nil (b : Bool) : skipN b [] = 0 := by rw [skipN]
theorem skip_in {c : UInt8} (r : List UInt8) (h : c ≠ 10) : skipN true (c :: r) = skipN true r + 1 := by rw [skipN, if_neg h]
theorem skip_out {c : UInt8} (r : List UInt8) (h : c = 10) : skipN true (c :: r) = skipN false (c :: r) := by conv => lhs; rw [skipN, if_pos h]
def elemS : List UInt8 → Option (UInt8 × Nat)
 | [] => none
 | c :: r => if plainB c then some (c, 1) else if c = 92 then
   match r with
   | [] => none
   | d :: t => if d = 110 then some (10, 2) else if d = 116 then some (9, 2) else if d = 92 ∨ d = 34 then some (d, 2) else if d = 120 then
     match t with
     | h :: l :: _ => match hexV h, hexV l with
      | some a, some b => some (UInt8.ofNat (16 * a + b), 4)
      | _, _ => none
     | _ => none
    else none
  else none
theorem elem_pos {l : List UInt8} {c : UInt8} {n : Nat} (h : elemS l = some (c, n)) : 1 ≤ n ∧ n ≤ l.length := by
 match l, h with
 | [], h => simp [elemS] at h
 | [a], h =>
  simp only [elemS] at h
  split at h
  ·simp at h; simp [← h.2]
  ·split at h <;> cases h
 | [a, d], h =>
  simp only [elemS] at h
  split at h
  ·simp at h; simp [← h.2]
  ·split at h
   ·split at h
    ·simp at h; simp [← h.2]
    ·split at h
     ·simp at h; simp [← h.2]
     ·split at h
      ·simp at h; simp [← h.2]
      ·split at h <;> cases h
   ·cases h
 | [a, d, x], h =>
  simp only [elemS] at h
  split at h
  ·simp at h; simp [← h.2]
  ·split at h
   ·split at h
    ·simp at h; simp [← h.2]
    ·split at h
     ·simp at h; simp [← h.2]
     ·split at h
      ·simp at h; simp [← h.2]
      ·split at h <;> cases h
   ·cases h
 | a :: d :: x :: y :: t, h =>
  simp only [elemS] at h
  split at h
  ·simp at h; simp [← h.2]
  ·split at h
   ·split at h
    ·simp at h; simp [← h.2]
    ·split at h
     ·simp at h; simp [← h.2]
     ·split at h
      ·simp at h; simp [← h.2]
      ·split at h
       ·split at h
        ·simp at h; simp [← h.2]
        ·cases h
       ·cases h
   ·cases h
def strF : Nat → List UInt8 → Option (List UInt8 × Nat)
 | 0, _ => none
 | f + 1, l => match l with
  | [] => none
  | c :: r => if c = 34 then some ([], 1) else match elemS (c :: r) with
   | none => none
   | some (d, n) => (strF f ((c :: r).drop n)).map fun x => (d :: x.1, n + x.2)
def strS (l : List UInt8) : Option (List UInt8 × Nat) := strF (l.length + 1) l
theorem strF_cons (f : Nat) (c : UInt8) (r : List UInt8) : strF (f + 1) (c :: r) = if c = 34 then some ([], 1) else match elemS (c :: r) with
   | none => none
   | some (d, n) => (strF f ((c :: r).drop n)).map fun x => (d :: x.1, n + x.2) := rfl
theorem strF_fuel : ∀ (f : Nat) (l : List UInt8), l.length < f → ∀ f', l.length < f' → strF f l = strF f' l
 | 0, l, h, _, _ => absurd h (by omega)
 | f + 1, l, h, 0, h' => absurd h' (by omega)
 | f + 1, [], _, f' + 1, _ => rfl
 | f + 1, c :: r, h, f' + 1, h' => by
  rw [strF_cons, strF_cons]
  by_cases hq : c = 34
  ·simp [hq]
  ·rw [if_neg hq, if_neg hq]
   cases he : elemS (c :: r) with
   | none => rfl
   | some x =>
    obtain ⟨d, n⟩ := x
    have hp := elem_pos he
    simp only
    rw [strF_fuel f _ (by rw [List.length_drop]; omega) f' (by rw [List.length_drop]; omega)]
theorem strS_nil : strS [] = none := rfl
theorem strS_end (r : List UInt8) : strS (34 :: r) = some ([], 1) := by unfold strS; rw [strF_cons, if_pos rfl]
theorem strS_bad {c : UInt8} {r : List UInt8} (h : c ≠ 34) (he : elemS (c :: r) = none) : strS (c :: r) = none := by
 unfold strS
 rw [strF_cons, if_neg h, he]
theorem strS_next {c d : UInt8} {r : List UInt8} {n : Nat} (h : c ≠ 34) (he : elemS (c :: r) = some (d, n)) : strS (c :: r) = (strS ((c :: r).drop n)).map fun x => (d :: x.1, n + x.2) := by
 have hp := elem_pos he
 unfold strS
 rw [strF_cons, if_neg h, he]
 simp only
 rw [strF_fuel _ _ (by rw [List.length_drop]; simp only [List.length_cons] at hp ⊢; omega) (((c :: r).drop n).length + 1) (by omega)]
def wordS : List UInt8 → Option (Int × List UInt8 × Nat)
 | [] => none
 | c :: r => if c = 34 then (strS r).map fun x => (2, x.1, x.2 + 1)
  else if nameB c then some (1, (c :: r).takeWhile nameB, ((c :: r).takeWhile nameB).length)
  else if punctB c then some (3, [c], 1) else none
theorem strF_pos : ∀ (f : Nat) {l : List UInt8} {x : List UInt8 × Nat}, strF f l = some x → 1 ≤ x.2 ∧ x.2 ≤ l.length
 | 0, _, _, h => by simp [strF] at h
 | f + 1, [], _, h => by simp [strF] at h
 | f + 1, c :: r, x, h => by
  rw [strF_cons] at h
  split at h
  ·injection h with h; subst h; simp
  ·cases he : elemS (c :: r) with
   | none => rw [he] at h; cases h
   | some y =>
    obtain ⟨d, n⟩ := y
    have hp := elem_pos he
    rw [he] at h
    simp only [Option.map_eq_some_iff] at h
    obtain ⟨z, hz, rfl⟩ := h
    have := strF_pos f hz
    rw [List.length_drop] at this
    simp only
    omega
theorem wordS_cons (c : UInt8) (r : List UInt8) : wordS (c :: r) = if c = 34 then (strS r).map fun x => (2, x.1, x.2 + 1)
  else if nameB c then some (1, (c :: r).takeWhile nameB, ((c :: r).takeWhile nameB).length)
  else if punctB c then some (3, [c], 1) else none := rfl
theorem word_pos {l : List UInt8} {k : Int} {t : List UInt8} {n : Nat} (h : wordS l = some (k, t, n)) : 1 ≤ n ∧ n ≤ l.length := by
 cases l with
 | nil => simp [wordS] at h
 | cons c r =>
  rw [wordS_cons] at h
  split at h
  ·obtain ⟨x, hx, h⟩ := Option.map_eq_some_iff.1 h
   injection h with _ h; injection h with _ h
   have := strF_pos _ hx
   simp only [List.length_cons]; omega
  ·split at h
   ·rename_i hn
    injection h with h; injection h with _ h; injection h with _ h
    subst h
    refine ⟨?_, (List.takeWhile_sublist _).length_le⟩
    rw [List.takeWhile_cons, if_pos hn]; simp
   ·split at h
    ·injection h with h; injection h with _ h; injection h with _ h
     subst h; simp
    ·cases h
def allF : Nat → Nat → List UInt8 → Except Nat (List (Int × Nat × List UInt8))
 | 0, at', _ => .error at'
 | f + 1, at', l =>
  if l.drop (skipN false l) = [] then .ok [(4, at' + skipN false l, [])] else
   match wordS (l.drop (skipN false l)) with
   | none => .error (at' + skipN false l)
   | some (k, t, n) => match allF f (at' + skipN false l + n) ((l.drop (skipN false l)).drop n) with
    | .error e => .error e
    | .ok ws => .ok ((k, at' + skipN false l, t) :: ws)
def allS (l : List UInt8) : Except Nat (List (Int × Nat × List UInt8)) := allF (l.length + 1) 0 l
def digitS (n : Nat) : UInt8 := if n < 10 then UInt8.ofNat (48 + n) else UInt8.ofNat (87 + n)
def quoteB (c : UInt8) : List UInt8 :=
 if plainB c then [c] else if c = 34 ∨ c = 92 then [92, c] else if c = 10 then [92, 110] else if c = 9 then [92, 116] else [92, 120, digitS (c.toNat / 16), digitS (c.toNat % 16)]
def quoteS (l : List UInt8) : List UInt8 := 34 :: (l.map quoteB).flatten ++ [34]
end Go.Proofs.YtdhmeganlnpohaaGreatDoor
namespace Go.Proofs.YtdhmeganlnpohaaGreatDoor
open Go.RowKit
theorem retx_bool {a b : Bool} (h : a = b) : Ending.returned (.bool a) = .returned (.bool b) := by rw [h]
theorem retx_int {k : IntKind} {a b : Int} (h : a = b) : Ending.returned (.int k a) = .returned (.int k b) := by rw [h]
theorem isBlank_any (c : UInt8) (w : World) :
  Calls Tryz.prog 210 #[.int .u8 c.toNat] w fun e w' => e = .returned (.bool (blankB c)) ∧ w = w' := by
 have hb : c.toNat < 256 := c.toNat_lt
 go_enter Tryz.func210, Tryz.ntmps210
 go_wp2
 all_goals go_ret
 all_goals exact ⟨retx_bool (by rw [Bool.eq_iff_iff]; simp [blankB]; omega), rfl⟩
theorem isName_any (c : UInt8) (w : World) :
  Calls Tryz.prog 213 #[.int .u8 c.toNat] w fun e w' => e = .returned (.bool (nameB c)) ∧ w = w' := by
 have hb : c.toNat < 256 := c.toNat_lt
 go_enter Tryz.func213, Tryz.ntmps213
 go_wp2
 all_goals go_ret
 all_goals exact ⟨retx_bool (by rw [Bool.eq_iff_iff]; simp [nameB]; omega), rfl⟩
theorem isPlain_any (c : UInt8) (w : World) :
  Calls Tryz.prog 229 #[.int .u8 c.toNat] w fun e w' => e = .returned (.bool (plainB c)) ∧ w = w' := by
 have hb : c.toNat < 256 := c.toNat_lt
 go_enter Tryz.func229, Tryz.ntmps229
 go_wp2
 all_goals go_ret
 all_goals exact ⟨retx_bool (by rw [Bool.eq_iff_iff]; simp [plainB]; omega), rfl⟩
def runN (p : UInt8 → Bool) (l : List UInt8) : Nat := (l.takeWhile p).length
theorem run_step {p : UInt8 → Bool} {l : List UInt8} {k : Nat} (h : k < l.length) (hp : p l[k] = true) : runN p (l.drop k) = runN p (l.drop (k + 1)) + 1 := by
 unfold runN
 rw [List.drop_eq_getElem_cons h, List.takeWhile_cons, if_pos hp, List.length_cons]
theorem run_stop {p : UInt8 → Bool} {l : List UInt8} {k : Nat} (h : k < l.length) (hp : p l[k] = false) : runN p (l.drop k) = 0 := by
 unfold runN
 rw [List.drop_eq_getElem_cons h, List.takeWhile_cons, if_neg (by rw [hp]; decide)]; rfl
theorem run_over {p : UInt8 → Bool} {l : List UInt8} {k : Nat} (h : l.length ≤ k) : runN p (l.drop k) = 0 := by
 unfold runN
 rw [List.drop_eq_nil_of_le h]; rfl
theorem run_le (p : UInt8 → Bool) (l : List UInt8) (k : Nat) (h : k ≤ l.length) : k + runN p (l.drop k) ≤ l.length := by
 have := (List.takeWhile_sublist (l := l.drop k) p).length_le
 rw [List.length_drop] at this
 unfold runN
 omega
set_option maxHeartbeats 1000000 in
theorem lineEnd_any (s : ByteArray) (at' : Nat) (w : World) (hs : s.size ≤ maxLen) (ha : at' ≤ s.size) :
  Calls Tryz.prog 211 #[.string s, .int .i64 at'] w fun e w' => e = .returned (.int .i64 (at' + runN (fun c => c != 10) (s.data.toList.drop at') : Nat)) ∧ w = w' := by
 unfold maxLen at hs
 obtain ⟨L, hL⟩ : ∃ L, s.data.toList = L := ⟨_, rfl⟩
 have hsz : s.size = L.length := by rw [← hL]; exact Lib.size_eq s
 rw [hL]
 obtain ⟨E, hE⟩ : ∃ E, at' + runN (fun c => c != 10) (L.drop at') = E := ⟨_, rfl⟩
 rw [hE]
 have HL := Lib.hid hL
 have HSZ := Lib.hid hsz
 have HE := Lib.hid hE
 clear hL hsz hE
 go_enter Tryz.func211, Tryz.ntmps211
 go_wp2
 go_loop [1] (fun i => ∃ k : Nat, k ≤ s.size ∧ i = .int .i64 k ∧ k + runN (fun c => c != 10) (L.drop k) = E) (fun i => s.size - (intOf i).toNat)
 case atStart => exact ⟨at', ha, rfl, HE.out⟩
 case round =>
  obtain ⟨k, hk, rfl, hr⟩ := hrel
  have HR := Lib.hid hr
  clear hr
  by_cases hlt : k < s.size
  ·have hlt' : k < L.length := by rw [← HSZ.out]; exact hlt
   have hget : L[k] = s[k] := by
    have := HL.out
    subst this
    rfl
   by_cases h10 : (s[k].toNat : Int) = 10
   ·have h10' : s[k].toNat = 10 := by omega
    have hx : L[k] = 10 := by rw [hget]; exact UInt8.toNat_inj.1 (by rw [h10']; rfl)
    have hEk : k = E := by rw [← HR.out, run_stop hlt' (by rw [hx]; rfl)]; rfl
    have HK := Lib.hid hEk
    clear hEk hx h10' hget
    go_wp2
    go_ret
    exact ⟨retx_int (by rw [HK.out]), rfl⟩
   ·have hx : L[k] ≠ 10 := by rw [hget]; intro e; exact h10 (by rw [e]; rfl)
    have hEk : k + 1 + runN (fun c => c != 10) (L.drop (k + 1)) = E := by rw [← HR.out, run_step hlt' (by simpa using hx)]; omega
    have HK := Lib.hid hEk
    clear hEk hx hget
    go_wp2
    go_round
    case rel => exact ⟨k + 1, by omega, by go_num, HK.out⟩
    case measure => simp [intOf]; omega
  ·have hEk : k = E := by rw [← HR.out, run_over (by have := HSZ.out; omega)]; rfl
   have HK := Lib.hid hEk
   clear hEk
   go_wp2
   go_ret
   exact ⟨retx_int (by rw [HK.out]), rfl⟩
set_option maxHeartbeats 1000000 in
theorem nameEnd_any (s : ByteArray) (at' : Nat) (w : World) (hs : s.size ≤ maxLen) (ha : at' ≤ s.size) :
  Calls Tryz.prog 214 #[.string s, .int .i64 at'] w fun e w' => e = .returned (.int .i64 (at' + runN nameB (s.data.toList.drop at') : Nat)) ∧ w = w' := by
 unfold maxLen at hs
 obtain ⟨L, hL⟩ : ∃ L, s.data.toList = L := ⟨_, rfl⟩
 have hsz : s.size = L.length := by rw [← hL]; exact Lib.size_eq s
 rw [hL]
 obtain ⟨E, hE⟩ : ∃ E, at' + runN nameB (L.drop at') = E := ⟨_, rfl⟩
 rw [hE]
 have HL := Lib.hid hL
 have HSZ := Lib.hid hsz
 have HE := Lib.hid hE
 clear hL hsz hE
 go_enter Tryz.func214, Tryz.ntmps214
 go_wp2
 go_loop [1] (fun i => ∃ k : Nat, k ≤ s.size ∧ i = .int .i64 k ∧ k + runN nameB (L.drop k) = E) (fun i => s.size - (intOf i).toNat)
 case atStart => exact ⟨at', ha, rfl, HE.out⟩
 case round =>
  obtain ⟨k, hk, rfl, hr⟩ := hrel
  have HR := Lib.hid hr
  clear hr
  by_cases hlt : k < s.size
  ·have hlt' : k < L.length := by rw [← HSZ.out]; exact hlt
   have hget : L[k] = s[k] := by
    have := HL.out
    subst this
    rfl
   obtain ⟨q, hq⟩ : ∃ q, nameB s[k] = q := ⟨_, rfl⟩
   have cN := fun w => isName_any s[k] w
   simp only [hq] at cN
   have CN := Lib.hid cN
   have hqL : nameB L[k] = q := by rw [hget]; exact hq
   have HQL := Lib.hid hqL
   clear hq cN hqL hget
   cases q
   ·have hEk : k = E := by rw [← HR.out, run_stop hlt' HQL.out]; rfl
    have HK := Lib.hid hEk
    clear hEk
    go_wp2_with fail
    refine (CN.out _).mono ?_
    rintro e w2 ⟨rfl, rfl⟩
    go_wp2
    go_ret
    exact ⟨retx_int (by rw [HK.out]), rfl⟩
   ·have hEk : k + 1 + runN nameB (L.drop (k + 1)) = E := by rw [← HR.out, run_step hlt' HQL.out]; omega
    have HK := Lib.hid hEk
    clear hEk
    go_wp2_with fail
    refine (CN.out _).mono ?_
    rintro e w2 ⟨rfl, rfl⟩
    go_wp2
    go_round
    case rel => exact ⟨k + 1, by omega, by go_num, HK.out⟩
    case measure => simp [intOf]; omega
  ·have hEk : k = E := by rw [← HR.out, run_over (by have := HSZ.out; omega)]; rfl
   have HK := Lib.hid hEk
   clear hEk
   go_wp2
   go_ret
   exact ⟨retx_int (by rw [HK.out]), rfl⟩
theorem skip_line : ∀ (l : List UInt8), skipN true l = runN (fun c => c != 10) l + skipN false (l.drop (runN (fun c => c != 10) l))
 | [] => by simp [runN, skip_nil]
 | c :: r => by
  by_cases h : c = 10
  ·rw [skip_out r h, show runN (fun c => c != 10) (c :: r) = 0 from run_stop (l := c :: r) (k := 0) (by simp) (by simp [h])]
   simp
  ·have e : runN (fun c => c != 10) (c :: r) = runN (fun c => c != 10) r + 1 := run_step (l := c :: r) (k := 0) (by simp) (by simpa using h)
   rw [skip_in r h, skip_line r, e, List.drop_succ_cons]
   omega
set_option maxHeartbeats 1000000 in
theorem skipBlanks_any (s : ByteArray) (at' : Nat) (w : World) (hs : s.size ≤ maxLen) (ha : at' ≤ s.size) :
  Calls Tryz.prog 164 #[.string s, .int .i64 at'] w fun e w' => e = .returned (.int .i64 (at' + skipN false (s.data.toList.drop at') : Nat)) ∧ w = w' := by
 have hs' := hs
 unfold maxLen at hs
 obtain ⟨L, hL⟩ : ∃ L, s.data.toList = L := ⟨_, rfl⟩
 have hsz : s.size = L.length := by rw [← hL]; exact Lib.size_eq s
 rw [hL]
 obtain ⟨E, hE⟩ : ∃ E, at' + skipN false (L.drop at') = E := ⟨_, rfl⟩
 rw [hE]
 have CLE : Hid (∀ k : Nat, k ≤ s.size → ∀ w, Calls Tryz.prog 211 #[.string s, .int .i64 k] w fun e w' => e = .returned (.int .i64 (k + runN (fun c => c != 10) (L.drop k) : Nat)) ∧ w = w') := by
  show ∀ k : Nat, _
  intro k hk w
  have := lineEnd_any s k w hs' hk
  rwa [hL] at this
 have HL := Lib.hid hL
 have HSZ := Lib.hid hsz
 have HE := Lib.hid hE
 clear hL hsz hE hs'
 go_enter Tryz.func164, Tryz.ntmps164
 go_wp2
 go_loop [1] (fun i => ∃ k : Nat, k ≤ s.size ∧ i = .int .i64 k ∧ k + skipN false (L.drop k) = E) (fun i => s.size - (intOf i).toNat)
 case atStart => exact ⟨at', ha, rfl, HE.out⟩
 case round =>
  obtain ⟨k, hk, rfl, hr⟩ := hrel
  have HR := Lib.hid hr
  clear hr
  by_cases hlt : k < s.size
  ·have hlt' : k < L.length := by rw [← HSZ.out]; exact hlt
   have hget : L[k] = s[k] := by
    have := HL.out
    subst this
    rfl
   have HDR := Lib.hid (List.drop_eq_getElem_cons hlt')
   obtain ⟨q, hq⟩ : ∃ q, blankB s[k] = q := ⟨_, rfl⟩
   have cN := fun w => isBlank_any s[k] w
   simp only [hq] at cN
   have CN := Lib.hid cN
   have hqL : blankB L[k] = q := by rw [hget]; exact hq
   have HQL := Lib.hid hqL
   have HGET := Lib.hid hget
   clear hq cN hqL hget
   cases q
   ·by_cases h35 : (s[k].toNat : Int) = 35
    ·have h35' : s[k].toNat = 35 := by omega
     have hx : L[k] = 35 := by rw [HGET.out]; exact UInt8.toNat_inj.1 (by rw [h35']; rfl)
     have hrun : runN (fun c => c != 10) (L.drop k) = runN (fun c => c != 10) (L.drop (k + 1)) + 1 := run_step hlt' (by rw [hx]; rfl)
     have hle := run_le (fun c => c != 10) L k (by omega)
     have hEk : (k + runN (fun c => c != 10) (L.drop k)) + skipN false (L.drop (k + runN (fun c => c != 10) (L.drop k))) = E := by
      rw [← HR.out, HDR.out, skip_rem _ hx, skip_line, ← HDR.out, hrun, List.drop_drop]
      rw [show k + (runN (fun c => c != 10) (L.drop (k + 1)) + 1) = k + 1 + runN (fun c => c != 10) (L.drop (k + 1)) by omega]
      omega
     have hgt : k < k + runN (fun c => c != 10) (L.drop k) := by omega
     have cE := CLE.out k (by omega)
     obtain ⟨m, hm⟩ : ∃ m, k + runN (fun c => c != 10) (L.drop k) = m := ⟨_, rfl⟩
     rw [hm] at hEk hgt hle
     simp only [hm] at cE
     have HK := Lib.hid hEk
     have CE := Lib.hid cE
     have hml : m ≤ s.size := by have := HSZ.out; omega
     have H35 := Lib.hid (show ((s[k].toNat : Int) == 35) = true by simpa using h35)
     clear hEk hx h35' h35 hrun hle hm cE
     go_wp2_with fail
     refine (CN.out _).mono ?_
     rintro e w2 ⟨rfl, rfl⟩
     have h35b := H35.out
     go_wp2_with fail
     refine (CE.out _).mono ?_
     rintro e w2 ⟨rfl, rfl⟩
     go_wp2
     go_round
     case rel => exact ⟨m, hml, rfl, HK.out⟩
     case measure => simp [intOf]; omega
    ·have hx : L[k] ≠ 35 := by rw [HGET.out]; intro e; exact h35 (by rw [e]; rfl)
     have hEk : k = E := by rw [← HR.out, HDR.out, skip_stop _ HQL.out hx]; rfl
     have HK := Lib.hid hEk
     have H35 := Lib.hid (show ((s[k].toNat : Int) == 35) = false by simpa using h35)
     clear hEk hx h35
     go_wp2_with fail
     refine (CN.out _).mono ?_
     rintro e w2 ⟨rfl, rfl⟩
     have h35b := H35.out
     go_wp2
     go_ret
     exact ⟨retx_int (by rw [HK.out]), rfl⟩
   ·have hEk : k + 1 + skipN false (L.drop (k + 1)) = E := by rw [← HR.out, HDR.out, skip_blank _ HQL.out]; omega
    have HK := Lib.hid hEk
    clear hEk
    go_wp2_with fail
    refine (CN.out _).mono ?_
    rintro e w2 ⟨rfl, rfl⟩
    go_wp2
    go_round
    case rel => exact ⟨k + 1, by omega, by go_num, HK.out⟩
    case measure => simp [intOf]; omega
  ·have hEk : k = E := by rw [← HR.out, List.drop_eq_nil_of_le (by have := HSZ.out; omega), skip_nil]; rfl
   have HK := Lib.hid hEk
   clear hEk
   go_wp2
   go_ret
   exact ⟨retx_int (by rw [HK.out]), rfl⟩
end Go.Proofs.YtdhmeganlnpohaaGreatDoor
namespace Go.Proofs.YtdhmeganlnpohaaGreatDoor
open Go.RowKit Go.Shelf
theorem idx_nonneg : ∀ (l : List UInt8) (c : UInt8), (0 ≤ Lib.indexByte l c ↔ c ∈ l)
 | [], c => by simp [Lib.indexByte]
 | b :: l, c => by
  have ih := idx_nonneg l c
  have hg := Lib.indexByte_ge l c
  unfold Lib.indexByte
  by_cases h : b = c
  ·simp [h]
  ·have h' : ¬ c = b := fun e => h e.symm
   have hb : (b == c) = false := by simpa using h
   rw [hb]
   simp only [Bool.false_eq_true, if_false, List.mem_cons, h', false_or]
   by_cases h1 : Lib.indexByte l c = -1
   ·rw [h1] at ih ⊢
    simp at ih ⊢
    exact ih
   ·rw [if_neg (by simpa using h1), ← ih]
    omega
theorem isPunct_any (c : UInt8) (w : World) :
  Calls Tryz.prog 215 #[.int .u8 c.toNat] w fun e w' => e = .returned (.bool (punctB c)) ∧ w = w' := by
 go_enter Tryz.func215, Tryz.ntmps215
 go_wp2_with fail
 refine (Any.strings_IndexByte lLays_n137 _ _ _).mono ?_
 rintro e w2 ⟨rfl, rfl⟩
 go_wp2
 all_goals go_ret
 exact ⟨retx_bool (by rw [Bool.eq_iff_iff, decide_eq_true_eq, idx_nonneg]; simp [punctB, punctL]), rfl⟩
def digitL : List UInt8 := [48, 49, 50, 51, 52, 53, 54, 55, 56, 57, 97, 98, 99, 100, 101, 102]
theorem hex_fin : ∀ n : Fin 256, Lib.indexByte digitL (UInt8.ofNat n.val) = ((hexV (UInt8.ofNat n.val)).map fun (k : Nat) => (k : Int)).getD (-1) := by decide +kernel
theorem hex_idx (c : UInt8) : Lib.indexByte digitL c = ((hexV c).map fun (k : Nat) => (k : Int)).getD (-1) := by
 have := hex_fin ⟨c.toNat, c.toNat_lt⟩
 simpa using this
theorem hex_lt {c : UInt8} {n : Nat} (h : hexV c = some n) : n < 16 := by
 unfold hexV at h
 split at h
 ·injection h with h; omega
 ·split at h
  ·injection h with h; omega
  ·cases h
theorem hex_none {c : UInt8} {x : Int} (h : x = ((hexV c).map fun (k : Nat) => (k : Int)).getD (-1)) (hx : x < 0) : hexV c = none := by
 cases e : hexV c with
 | none => rfl
 | some n => rw [e] at h; simp at h; omega
theorem hex_some {c : UInt8} {x : Int} (h : x = ((hexV c).map fun (k : Nat) => (k : Int)).getD (-1)) (hx : ¬ x < 0) : ∃ n : Nat, hexV c = some n ∧ x = n ∧ n < 16 := by
 cases e : hexV c with
 | none => rw [e] at h; simp at h; omega
 | some n => rw [e] at h; simp at h; exact ⟨n, rfl, h, hex_lt e⟩
theorem hex_wrap {a b : Nat} (ha : a < 16) (hb : b < 16) : wrap64 (wrap64 (16 * (a : Int)) + (b : Int)) % 256 = ((UInt8.ofNat (16 * a + b)).toNat : Int) := by
 have h1 : wrap64 (16 * (a : Int)) = 16 * (a : Int) := by unfold wrap64; omega
 have h2 : wrap64 (16 * (a : Int) + (b : Int)) = 16 * (a : Int) + (b : Int) := by unfold wrap64; omega
 rw [h1, h2, UInt8.toNat_ofNat']
 omega
def hexS (s : ByteArray) : UInt8 × Bool :=
 match s.data.toList with
 | h :: l :: _ => match hexV h, hexV l with
  | some a, some b => (UInt8.ofNat (16 * a + b), true)
  | _, _ => (0, false)
 | _ => (0, false)
theorem hexS_short {s : ByteArray} (h : s.size < 2) : hexS s = (0, false) := by
 rw [Lib.size_eq] at h
 unfold hexS
 split
 ·rename_i e; rw [e] at h; simp at h; omega
 ·rfl
theorem hexS_two {s : ByteArray} (h : 2 ≤ s.size) : hexS s = match hexV s[0], hexV s[1] with
  | some a, some b => (UInt8.ofNat (16 * a + b), true)
  | _, _ => (0, false) := by
 obtain ⟨⟨l⟩⟩ := s
 match l, h with
 | a :: b :: r, _ => rfl
set_option maxHeartbeats 1000000 in
theorem hexByte_any (s : ByteArray) (w : World) (hs : s.size ≤ maxLen) :
  Calls Tryz.prog 295 #[.string s] w fun e w' => e = .returned (.tuple #[.int .u8 (hexS s).1.toNat, .bool (hexS s).2]) ∧ w = w' := by
 unfold maxLen at hs
 by_cases h2 : s.size < 2
 ·have h2' : (s.size : Int) < 2 := by omega
  go_enter Tryz.func295, Tryz.ntmps295
  go_wp2
  all_goals go_ret2
  all_goals exact ⟨by rw [hexS_short h2]; rfl, rfl⟩
 ·have h2' : ¬ (s.size : Int) < 2 := by omega
  have h0 : 0 < s.size := by omega
  have h1 : 1 < s.size := by omega
  have HX := Lib.hid (hexS_two (s := s) (by omega))
  obtain ⟨c0, hc0⟩ : ∃ c, s[0] = c := ⟨_, rfl⟩
  obtain ⟨c1, hc1⟩ : ∃ c, s[1] = c := ⟨_, rfl⟩
  have HC0 := Lib.hid hc0
  have HC1 := Lib.hid hc1
  obtain ⟨x0, hx0⟩ : ∃ x, Lib.indexByte digitL c0 = x := ⟨_, rfl⟩
  obtain ⟨x1, hx1⟩ : ∃ x, Lib.indexByte digitL c1 = x := ⟨_, rfl⟩
  have g0 := Lib.indexByte_ge digitL c0
  have g1 := Lib.indexByte_ge digitL c1
  have HE0 := Lib.hid (hx0.symm.trans (hex_idx c0))
  have HE1 := Lib.hid (hx1.symm.trans (hex_idx c1))
  rw [hx0] at g0
  rw [hx1] at g1
  unfold digitL at hx0 hx1
  have HG0 := Lib.hid g0
  have HG1 := Lib.hid g1
  clear g0 g1
  go_enter Tryz.func295, Tryz.ntmps295
  go_wp2_with fail
  refine (Any.strings_IndexByte lLays_n137 _ _ _).mono ?_
  rintro e w2 ⟨rfl, rfl⟩
  go_wp2_with fail
  refine (Any.strings_IndexByte lLays_n137 _ _ _).mono ?_
  rintro e w2 ⟨rfl, rfl⟩
  have hcc0 := HC0.out
  have hcc1 := HC1.out
  by_cases hn0 : x0 < 0
  ·go_wp2
   all_goals go_ret2
   all_goals exact ⟨by rw [HX.out, HC0.out, hex_none HE0.out hn0]; rfl, rfl⟩
  ·by_cases hn1 : x1 < 0
   ·go_wp2
    all_goals go_ret2
    all_goals exact ⟨by rw [HX.out, HC0.out, HC1.out, hex_none HE1.out hn1]; (cases hexV c0 <;> rfl), rfl⟩
   ·go_wp2
    all_goals go_ret2
    all_goals obtain ⟨n0, e0, q0, l0⟩ := hex_some HE0.out (by omega)
    all_goals obtain ⟨n1, e1, q1, l1⟩ := hex_some HE1.out (by omega)
    all_goals subst q0 q1
    all_goals exact ⟨by rw [HX.out, HC0.out, HC1.out, e0, e1]; simp only [← hex_wrap l0 l1]; rfl, rfl⟩
end Go.Proofs.YtdhmeganlnpohaaGreatDoor
namespace Go.Proofs.YtdhmeganlnpohaaGreatDoor
open Go.RowKit Go.Shelf
def ElemE (s : ByteArray) (e : Ending) : Prop :=
 match elemS s.data.toList with
 | some (c, n) => e = .returned (.tuple #[.int .u8 c.toNat, .int .i64 n, .bool true])
 | none => ∃ n : Int, e = .returned (.tuple #[.int .u8 0, .int .i64 n, .bool false])
theorem elemE_bad {s : ByteArray} {e : Ending} (h : elemS s.data.toList = none) (n : Int) (he : e = .returned (.tuple #[.int .u8 0, .int .i64 n, .bool false])) : ElemE s e := by
 unfold ElemE; rw [h]; exact ⟨n, he⟩
theorem elemE_good {s : ByteArray} {e : Ending} {c : UInt8} {n : Nat} (h : elemS s.data.toList = some (c, n)) (he : e = .returned (.tuple #[.int .u8 c.toNat, .int .i64 n, .bool true])) : ElemE s e := by
 unfold ElemE; rw [h]; exact he
theorem elem_one {c : UInt8} (h : plainB c = true) (r : List UInt8) : elemS (c :: r) = some (c, 1) := by simp [elemS, h]
theorem elem_other {c : UInt8} (h : plainB c = false) (h' : c ≠ 92) (r : List UInt8) : elemS (c :: r) = none := by simp [elemS, h, h']
theorem elem_alone {c : UInt8} (h : plainB c = false) : elemS [c] = none := by
 simp only [elemS, h, Bool.false_eq_true, if_false]
 split <;> rfl
theorem elem_hex {s : ByteArray} (h : 2 ≤ s.size) (h0 : s[0] = 92) (h1 : s[1] = 120) : elemS s.data.toList = if (hexS (s.extract 2 s.size)).2 then some ((hexS (s.extract 2 s.size)).1, 4) else none := by
 obtain ⟨⟨l⟩⟩ := s
 match l, h with
 | a :: b :: r, _ =>
  obtain rfl : a = 92 := h0
  obtain rfl : b = 120 := h1
  have hx : (ByteArray.extract ⟨⟨92 :: 120 :: r⟩⟩ 2 (ByteArray.size ⟨⟨92 :: 120 :: r⟩⟩)).data.toList = r := by
   rw [ByteArray.data_extract]
   simp [ByteArray.size, Array.size]
  unfold hexS
  rw [hx]
  match r with
  | [] => rfl
  | [x] => rfl
  | x :: y :: t =>
   rcases h1 : hexV x with _ | a <;> rcases h2 : hexV y with _ | b <;> simp [elemS, h1, h2, show plainB 92 = false by decide]
theorem hexS_bad {s : ByteArray} (h : (hexS s).2 = false) : (hexS s).1 = 0 := by
 unfold hexS at h ⊢
 generalize s.data.toList = l at h ⊢
 rcases l with _ | ⟨x, _ | ⟨y, t⟩⟩
 ·rfl
 ·rfl
 ·rcases h1 : hexV x with _ | a <;> rcases h2 : hexV y with _ | b <;> simp [h1, h2] at h ⊢
theorem elem_two {s : ByteArray} {c : UInt8} {d : UInt8} (h : 2 ≤ s.size) (h0 : s[0] = 92) (h1 : s[1] = c) (hc : (if c = 110 then some ((10 : UInt8), 2) else if c = 116 then some (9, 2) else if c = 92 ∨ c = 34 then some (c, 2) else none) = some (d, 2)) : elemS s.data.toList = some (d, 2) := by
 obtain ⟨⟨l⟩⟩ := s
 match l, h with
 | a :: b :: r, _ =>
  obtain rfl : a = 92 := h0
  obtain rfl : b = c := h1
  simp only [elemS, show plainB 92 = false by decide, Bool.false_eq_true, if_false, if_true]
  split at hc
  ·rename_i e; rw [if_pos e]; exact hc
  ·rename_i e; rw [if_neg e]
   split at hc
   ·rename_i e; rw [if_pos e]; exact hc
   ·rename_i e; rw [if_neg e]
    split at hc
    ·rename_i e; rw [if_pos e]; exact hc
    ·cases hc
theorem elem_else {s : ByteArray} (h : 2 ≤ s.size) (h0 : s[0] = 92) (h1 : s[1] ≠ 110) (h2 : s[1] ≠ 116) (h3 : s[1] ≠ 92) (h4 : s[1] ≠ 34) (h5 : s[1] ≠ 120) : elemS s.data.toList = none := by
 obtain ⟨⟨l⟩⟩ := s
 match l, h with
 | a :: b :: r, _ =>
  obtain rfl : a = 92 := h0
  have h1 : b ≠ 110 := h1
  have h2 : b ≠ 116 := h2
  have h3 : b ≠ 92 := h3
  have h4 : b ≠ 34 := h4
  have h5 : b ≠ 120 := h5
  simp [elemS, show plainB 92 = false by decide, h1, h2, h3, h4, h5]
end Go.Proofs.YtdhmeganlnpohaaGreatDoor
