/- The words of a rule file, as plain functions on lists of bytes; no program is spoken of. Contracts of package lex: which bytes are what; blanks; the ends of lines and names. Contracts of package lex: punctuation marks and digits, by the shelf's law on strings.IndexByte. Contract of package lex: the first element of a string. Contract of package lex: the function 'element'. Contract of package lex: the function 'stringAt'. Contract of package lex: the function 'wordAt'. Rows of records, and the contract of lex.All. Contract of package lex: All. -/
import Derived.Lib.Bytealg
import Derived.WalkKit
import Derived.WalkSpells
import Derived.WalkLawsBesides
import Derived.Deep.DeepFit
import Derived.Deep.DeepMust
import Derived.Deep.QuietTactic
import Derived.BigQuiet
import Derived.Lib.Hide
import Derived.Test.YtlmnabhhgplhnaaGreatDoorProg
import Derived.Test.YtlmnabhhgplhnaaGreatDoorLays
import Derived.Laws.Tables
import Derived.Laws.Rows
import Derived.Laws.AppendOwn
import Derived.OwnWalk
namespace Go.Proofs.YtlmnabhhgplhnaaGreatDoor

def blankB (c : UInt8) : Bool := decide (c.toNat = 32 ∨ c.toNat = 9 ∨ c.toNat = 10 ∨ c.toNat = 13)
def nameB (c : UInt8) : Bool := decide ((97 ≤ c.toNat ∧ c.toNat ≤ 122) ∨ (65 ≤ c.toNat ∧ c.toNat ≤ 90) ∨ (48 ≤ c.toNat ∧ c.toNat ≤ 57) ∨ c.toNat = 46 ∨ c.toNat = 95 ∨ c.toNat = 45 ∨ c.toNat = 47)
def punctL : List UInt8 := [123, 125, 44, 59, 61, 40, 41, 43, 94, 58, 36]
def punctB (c : UInt8) : Bool := punctL.contains c
def plainB (c : UInt8) : Bool := decide (32 ≤ c.toNat ∧ c.toNat ≤ 126 ∧ c.toNat ≠ 34 ∧ c.toNat ≠ 92)
def hexV (c : UInt8) : Option Nat := if 48 ≤ c.toNat ∧ c.toNat ≤ 57 then some (c.toNat - 48) else if 97 ≤ c.toNat ∧ c.toNat ≤ 102 then some (c.toNat - 87) else none

/-- How many bytes are blanks and remarks, at the beginning; within a remark or not. -/
def skipN : Bool → List UInt8 → Nat
  | _, [] => 0
  | false, c :: r => if blankB c then skipN false r + 1 else if c = 35 then skipN true r + 1 else 0
  | true, c :: r => if c = 10 then skipN false (c :: r) else skipN true r + 1
termination_by b l => (l.length, if b then 1 else 0)

theorem skip_blank {c : UInt8} (r : List UInt8) (h : blankB c = true) : skipN false (c :: r) = skipN false r + 1 := by rw [skipN, if_pos h]
theorem skip_rem {c : UInt8} (r : List UInt8) (h : c = 35) : skipN false (c :: r) = skipN true r + 1 := by
  rw [skipN, if_neg (by rw [h]; decide), if_pos h]
theorem skip_stop {c : UInt8} (r : List UInt8) (h : blankB c = false) (h' : c ≠ 35) : skipN false (c :: r) = 0 := by
  rw [skipN, if_neg (by rw [h]; decide), if_neg h']
theorem skip_nil (b : Bool) : skipN b [] = 0 := by rw [skipN]
theorem skip_in {c : UInt8} (r : List UInt8) (h : c ≠ 10) : skipN true (c :: r) = skipN true r + 1 := by rw [skipN, if_neg h]
theorem skip_out {c : UInt8} (r : List UInt8) (h : c = 10) : skipN true (c :: r) = skipN false (c :: r) := by conv => lhs; rw [skipN, if_pos h]

/-- The first element of a string: what it stands for, how long it is. -/
def elemS : List UInt8 → Option (UInt8 × Nat)
  | [] => none
  | c :: r => if plainB c then some (c, 1) else if c = 92 then
      match r with
      | [] => none
      | d :: t => if d = 110 then some (10, 2) else if d = 116 then some (9, 2) else if d = 92 ∨ d = 34 then some (d, 2) else if d = 120 then
          match t with
          | h :: l :: _ => match hexV h, hexV l with
            | some a, some b => some (UInt8.ofNat (16 * a + b), 4)
            | _, _ => none
          | _ => none
        else none
    else none

theorem elem_pos {l : List UInt8} {c : UInt8} {n : Nat} (h : elemS l = some (c, n)) : 1 ≤ n ∧ n ≤ l.length := by
  match l, h with
  | [], h => simp [elemS] at h
  | [a], h =>
    simp only [elemS] at h
    split at h
    · simp at h; simp [← h.2]
    · split at h <;> cases h
  | [a, d], h =>
    simp only [elemS] at h
    split at h
    · simp at h; simp [← h.2]
    · split at h
      · split at h
        · simp at h; simp [← h.2]
        · split at h
          · simp at h; simp [← h.2]
          · split at h
            · simp at h; simp [← h.2]
            · split at h <;> cases h
      · cases h
  | [a, d, x], h =>
    simp only [elemS] at h
    split at h
    · simp at h; simp [← h.2]
    · split at h
      · split at h
        · simp at h; simp [← h.2]
        · split at h
          · simp at h; simp [← h.2]
          · split at h
            · simp at h; simp [← h.2]
            · split at h <;> cases h
      · cases h
  | a :: d :: x :: y :: t, h =>
    simp only [elemS] at h
    split at h
    · simp at h; simp [← h.2]
    · split at h
      · split at h
        · simp at h; simp [← h.2]
        · split at h
          · simp at h; simp [← h.2]
          · split at h
            · simp at h; simp [← h.2]
            · split at h
              · split at h
                · simp at h; simp [← h.2]
                · cases h
              · cases h
      · cases h

/-- A string behind its first sign: what it stands for, how long it is with its last sign. -/
def strF : Nat → List UInt8 → Option (List UInt8 × Nat)
  | 0, _ => none
  | f + 1, l => match l with
    | [] => none
    | c :: r => if c = 34 then some ([], 1) else match elemS (c :: r) with
      | none => none
      | some (d, n) => (strF f ((c :: r).drop n)).map fun x => (d :: x.1, n + x.2)
def strS (l : List UInt8) : Option (List UInt8 × Nat) := strF (l.length + 1) l
theorem strF_cons (f : Nat) (c : UInt8) (r : List UInt8) : strF (f + 1) (c :: r) = if c = 34 then some ([], 1) else match elemS (c :: r) with
      | none => none
      | some (d, n) => (strF f ((c :: r).drop n)).map fun x => (d :: x.1, n + x.2) := rfl
theorem strF_fuel : ∀ (f : Nat) (l : List UInt8), l.length < f → ∀ f', l.length < f' → strF f l = strF f' l
  | 0, l, h, _, _ => absurd h (by omega)
  | f + 1, l, h, 0, h' => absurd h' (by omega)
  | f + 1, [], _, f' + 1, _ => rfl
  | f + 1, c :: r, h, f' + 1, h' => by
    rw [strF_cons, strF_cons]
    by_cases hq : c = 34
    · simp [hq]
    · rw [if_neg hq, if_neg hq]
      cases he : elemS (c :: r) with
      | none => rfl
      | some x =>
        obtain ⟨d, n⟩ := x
        have hp := elem_pos he
        simp only
        rw [strF_fuel f _ (by rw [List.length_drop]; omega) f' (by rw [List.length_drop]; omega)]
theorem strS_nil : strS [] = none := rfl
theorem strS_end (r : List UInt8) : strS (34 :: r) = some ([], 1) := by unfold strS; rw [strF_cons, if_pos rfl]
theorem strS_bad {c : UInt8} {r : List UInt8} (h : c ≠ 34) (he : elemS (c :: r) = none) : strS (c :: r) = none := by
  unfold strS
  rw [strF_cons, if_neg h, he]
theorem strS_next {c d : UInt8} {r : List UInt8} {n : Nat} (h : c ≠ 34) (he : elemS (c :: r) = some (d, n)) : strS (c :: r) = (strS ((c :: r).drop n)).map fun x => (d :: x.1, n + x.2) := by
  have hp := elem_pos he
  unfold strS
  rw [strF_cons, if_neg h, he]
  simp only
  rw [strF_fuel _ _ (by rw [List.length_drop]; simp only [List.length_cons] at hp ⊢; omega) (((c :: r).drop n).length + 1) (by omega)]

/-- The word that begins here: its kind, its text, how long it is. -/
def wordS : List UInt8 → Option (Int × List UInt8 × Nat)
  | [] => none
  | c :: r => if c = 34 then (strS r).map fun x => (2, x.1, x.2 + 1)
    else if nameB c then some (1, (c :: r).takeWhile nameB, ((c :: r).takeWhile nameB).length)
    else if punctB c then some (3, [c], 1) else none

theorem strF_pos : ∀ (f : Nat) {l : List UInt8} {x : List UInt8 × Nat}, strF f l = some x → 1 ≤ x.2 ∧ x.2 ≤ l.length
  | 0, _, _, h => by simp [strF] at h
  | f + 1, [], _, h => by simp [strF] at h
  | f + 1, c :: r, x, h => by
    rw [strF_cons] at h
    split at h
    · injection h with h; subst h; simp
    · cases he : elemS (c :: r) with
      | none => rw [he] at h; cases h
      | some y =>
        obtain ⟨d, n⟩ := y
        have hp := elem_pos he
        rw [he] at h
        simp only [Option.map_eq_some_iff] at h
        obtain ⟨z, hz, rfl⟩ := h
        have := strF_pos f hz
        rw [List.length_drop] at this
        simp only
        omega
theorem wordS_cons (c : UInt8) (r : List UInt8) : wordS (c :: r) = if c = 34 then (strS r).map fun x => (2, x.1, x.2 + 1)
    else if nameB c then some (1, (c :: r).takeWhile nameB, ((c :: r).takeWhile nameB).length)
    else if punctB c then some (3, [c], 1) else none := rfl
theorem word_pos {l : List UInt8} {k : Int} {t : List UInt8} {n : Nat} (h : wordS l = some (k, t, n)) : 1 ≤ n ∧ n ≤ l.length := by
  cases l with
  | nil => simp [wordS] at h
  | cons c r =>
    rw [wordS_cons] at h
    split at h
    · obtain ⟨x, hx, h⟩ := Option.map_eq_some_iff.1 h
      injection h with _ h; injection h with _ h
      have := strF_pos _ hx
      simp only [List.length_cons]; omega
    · split at h
      · rename_i hn
        injection h with h; injection h with _ h; injection h with _ h
        subst h
        refine ⟨?_, (List.takeWhile_sublist _).length_le⟩
        rw [List.takeWhile_cons, if_pos hn]; simp
      · split at h
        · injection h with h; injection h with _ h; injection h with _ h
          subst h; simp
        · cases h

/-- All words of a text from a place on, or where there is none. -/
def allF : Nat → Nat → List UInt8 → Except Nat (List (Int × Nat × List UInt8))
  | 0, at', _ => .error at'
  | f + 1, at', l =>
    if l.drop (skipN false l) = [] then .ok [(4, at' + skipN false l, [])] else
      match wordS (l.drop (skipN false l)) with
      | none => .error (at' + skipN false l)
      | some (k, t, n) => match allF f (at' + skipN false l + n) ((l.drop (skipN false l)).drop n) with
        | .error e => .error e
        | .ok ws => .ok ((k, at' + skipN false l, t) :: ws)
def allS (l : List UInt8) : Except Nat (List (Int × Nat × List UInt8)) := allF (l.length + 1) 0 l

/-- A byte as it stands in a string. -/
def digitS (n : Nat) : UInt8 := if n < 10 then UInt8.ofNat (48 + n) else UInt8.ofNat (87 + n)
def quoteB (c : UInt8) : List UInt8 :=
  if plainB c then [c] else if c = 34 ∨ c = 92 then [92, c] else if c = 10 then [92, 110] else if c = 9 then [92, 116] else [92, 120, digitS (c.toNat / 16), digitS (c.toNat % 16)]
def quoteS (l : List UInt8) : List UInt8 := 34 :: (l.map quoteB).flatten ++ [34]
end Go.Proofs.YtlmnabhhgplhnaaGreatDoor
namespace Go.Proofs.YtlmnabhhgplhnaaGreatDoor
open Go.RowKit

theorem retx_bool {a b : Bool} (h : a = b) : Ending.returned (.bool a) = .returned (.bool b) := by rw [h]
theorem retx_int {k : IntKind} {a b : Int} (h : a = b) : Ending.returned (.int k a) = .returned (.int k b) := by rw [h]

theorem isBlank_any (c : UInt8) (w : World) :
    Calls Tryz.prog 60 #[.int .u8 c.toNat] w fun e w' => e = .returned (.bool (blankB c)) ∧ w = w' := by
  have hb : c.toNat < 256 := c.toNat_lt
  go_enter Tryz.func60, Tryz.ntmps60
  go_wp2
  all_goals go_ret
  all_goals exact ⟨retx_bool (by rw [Bool.eq_iff_iff]; simp [blankB]; omega), rfl⟩

theorem isName_any (c : UInt8) (w : World) :
    Calls Tryz.prog 63 #[.int .u8 c.toNat] w fun e w' => e = .returned (.bool (nameB c)) ∧ w = w' := by
  have hb : c.toNat < 256 := c.toNat_lt
  go_enter Tryz.func63, Tryz.ntmps63
  go_wp2
  all_goals go_ret
  all_goals exact ⟨retx_bool (by rw [Bool.eq_iff_iff]; simp [nameB]; omega), rfl⟩

theorem isPlain_any (c : UInt8) (w : World) :
    Calls Tryz.prog 69 #[.int .u8 c.toNat] w fun e w' => e = .returned (.bool (plainB c)) ∧ w = w' := by
  have hb : c.toNat < 256 := c.toNat_lt
  go_enter Tryz.func69, Tryz.ntmps69
  go_wp2
  all_goals go_ret
  all_goals exact ⟨retx_bool (by rw [Bool.eq_iff_iff]; simp [plainB]; omega), rfl⟩

/-- How far a run of bytes goes. -/
def runN (p : UInt8 → Bool) (l : List UInt8) : Nat := (l.takeWhile p).length
theorem run_step {p : UInt8 → Bool} {l : List UInt8} {k : Nat} (h : k < l.length) (hp : p l[k] = true) : runN p (l.drop k) = runN p (l.drop (k + 1)) + 1 := by
  unfold runN
  rw [List.drop_eq_getElem_cons h, List.takeWhile_cons, if_pos hp, List.length_cons]
theorem run_stop {p : UInt8 → Bool} {l : List UInt8} {k : Nat} (h : k < l.length) (hp : p l[k] = false) : runN p (l.drop k) = 0 := by
  unfold runN
  rw [List.drop_eq_getElem_cons h, List.takeWhile_cons, if_neg (by rw [hp]; decide)]; rfl
theorem run_over {p : UInt8 → Bool} {l : List UInt8} {k : Nat} (h : l.length ≤ k) : runN p (l.drop k) = 0 := by
  unfold runN
  rw [List.drop_eq_nil_of_le h]; rfl
theorem run_le (p : UInt8 → Bool) (l : List UInt8) (k : Nat) (h : k ≤ l.length) : k + runN p (l.drop k) ≤ l.length := by
  have := (List.takeWhile_sublist (l := l.drop k) p).length_le
  rw [List.length_drop] at this
  unfold runN
  omega

set_option maxHeartbeats 1000000 in
theorem lineEnd_any (s : ByteArray) (at' : Nat) (w : World) (hs : s.size ≤ maxLen) (ha : at' ≤ s.size) :
    Calls Tryz.prog 61 #[.string s, .int .i64 at'] w fun e w' => e = .returned (.int .i64 (at' + runN (fun c => c != 10) (s.data.toList.drop at') : Nat)) ∧ w = w' := by
  unfold maxLen at hs
  obtain ⟨L, hL⟩ : ∃ L, s.data.toList = L := ⟨_, rfl⟩
  have hsz : s.size = L.length := by rw [← hL]; exact Lib.size_eq s
  rw [hL]
  obtain ⟨E, hE⟩ : ∃ E, at' + runN (fun c => c != 10) (L.drop at') = E := ⟨_, rfl⟩
  rw [hE]
  have HL := Lib.hid hL
  have HSZ := Lib.hid hsz
  have HE := Lib.hid hE
  clear hL hsz hE
  go_enter Tryz.func61, Tryz.ntmps61
  go_wp2
  go_loop [1] (fun i => ∃ k : Nat, k ≤ s.size ∧ i = .int .i64 k ∧ k + runN (fun c => c != 10) (L.drop k) = E) (fun i => s.size - (intOf i).toNat)
  case atStart => exact ⟨at', ha, rfl, HE.out⟩
  case round =>
    obtain ⟨k, hk, rfl, hr⟩ := hrel
    have HR := Lib.hid hr
    clear hr
    by_cases hlt : k < s.size
    · have hlt' : k < L.length := by rw [← HSZ.out]; exact hlt
      have hget : L[k] = s[k] := by
        have := HL.out
        subst this
        rfl
      by_cases h10 : (s[k].toNat : Int) = 10
      · have h10' : s[k].toNat = 10 := by omega
        have hx : L[k] = 10 := by rw [hget]; exact UInt8.toNat_inj.1 (by rw [h10']; rfl)
        have hEk : k = E := by rw [← HR.out, run_stop hlt' (by rw [hx]; rfl)]; rfl
        have HK := Lib.hid hEk
        clear hEk hx h10' hget
        go_wp2
        go_ret
        exact ⟨retx_int (by rw [HK.out]), rfl⟩
      · have hx : L[k] ≠ 10 := by rw [hget]; intro e; exact h10 (by rw [e]; rfl)
        have hEk : k + 1 + runN (fun c => c != 10) (L.drop (k + 1)) = E := by rw [← HR.out, run_step hlt' (by simpa using hx)]; omega
        have HK := Lib.hid hEk
        clear hEk hx hget
        go_wp2
        go_round
        case rel => exact ⟨k + 1, by omega, by go_num, HK.out⟩
        case measure => simp [intOf]; omega
    · have hEk : k = E := by rw [← HR.out, run_over (by have := HSZ.out; omega)]; rfl
      have HK := Lib.hid hEk
      clear hEk
      go_wp2
      go_ret
      exact ⟨retx_int (by rw [HK.out]), rfl⟩

set_option maxHeartbeats 1000000 in
theorem nameEnd_any (s : ByteArray) (at' : Nat) (w : World) (hs : s.size ≤ maxLen) (ha : at' ≤ s.size) :
    Calls Tryz.prog 64 #[.string s, .int .i64 at'] w fun e w' => e = .returned (.int .i64 (at' + runN nameB (s.data.toList.drop at') : Nat)) ∧ w = w' := by
  unfold maxLen at hs
  obtain ⟨L, hL⟩ : ∃ L, s.data.toList = L := ⟨_, rfl⟩
  have hsz : s.size = L.length := by rw [← hL]; exact Lib.size_eq s
  rw [hL]
  obtain ⟨E, hE⟩ : ∃ E, at' + runN nameB (L.drop at') = E := ⟨_, rfl⟩
  rw [hE]
  have HL := Lib.hid hL
  have HSZ := Lib.hid hsz
  have HE := Lib.hid hE
  clear hL hsz hE
  go_enter Tryz.func64, Tryz.ntmps64
  go_wp2
  go_loop [1] (fun i => ∃ k : Nat, k ≤ s.size ∧ i = .int .i64 k ∧ k + runN nameB (L.drop k) = E) (fun i => s.size - (intOf i).toNat)
  case atStart => exact ⟨at', ha, rfl, HE.out⟩
  case round =>
    obtain ⟨k, hk, rfl, hr⟩ := hrel
    have HR := Lib.hid hr
    clear hr
    by_cases hlt : k < s.size
    · have hlt' : k < L.length := by rw [← HSZ.out]; exact hlt
      have hget : L[k] = s[k] := by
        have := HL.out
        subst this
        rfl
      obtain ⟨q, hq⟩ : ∃ q, nameB s[k] = q := ⟨_, rfl⟩
      have cN := fun w => isName_any s[k] w
      simp only [hq] at cN
      have CN := Lib.hid cN
      have hqL : nameB L[k] = q := by rw [hget]; exact hq
      have HQL := Lib.hid hqL
      clear hq cN hqL hget
      cases q
      · have hEk : k = E := by rw [← HR.out, run_stop hlt' HQL.out]; rfl
        have HK := Lib.hid hEk
        clear hEk
        go_wp2_with fail
        refine (CN.out _).mono ?_
        rintro e w2 ⟨rfl, rfl⟩
        go_wp2
        go_ret
        exact ⟨retx_int (by rw [HK.out]), rfl⟩
      · have hEk : k + 1 + runN nameB (L.drop (k + 1)) = E := by rw [← HR.out, run_step hlt' HQL.out]; omega
        have HK := Lib.hid hEk
        clear hEk
        go_wp2_with fail
        refine (CN.out _).mono ?_
        rintro e w2 ⟨rfl, rfl⟩
        go_wp2
        go_round
        case rel => exact ⟨k + 1, by omega, by go_num, HK.out⟩
        case measure => simp [intOf]; omega
    · have hEk : k = E := by rw [← HR.out, run_over (by have := HSZ.out; omega)]; rfl
      have HK := Lib.hid hEk
      clear hEk
      go_wp2
      go_ret
      exact ⟨retx_int (by rw [HK.out]), rfl⟩

theorem skip_line : ∀ (l : List UInt8), skipN true l = runN (fun c => c != 10) l + skipN false (l.drop (runN (fun c => c != 10) l))
  | [] => by simp [runN, skip_nil]
  | c :: r => by
    by_cases h : c = 10
    · rw [skip_out r h, show runN (fun c => c != 10) (c :: r) = 0 from run_stop (l := c :: r) (k := 0) (by simp) (by simp [h])]
      simp
    · have e : runN (fun c => c != 10) (c :: r) = runN (fun c => c != 10) r + 1 := run_step (l := c :: r) (k := 0) (by simp) (by simpa using h)
      rw [skip_in r h, skip_line r, e, List.drop_succ_cons]
      omega

set_option maxHeartbeats 1000000 in
theorem skipBlanks_any (s : ByteArray) (at' : Nat) (w : World) (hs : s.size ≤ maxLen) (ha : at' ≤ s.size) :
    Calls Tryz.prog 36 #[.string s, .int .i64 at'] w fun e w' => e = .returned (.int .i64 (at' + skipN false (s.data.toList.drop at') : Nat)) ∧ w = w' := by
  have hs' := hs
  unfold maxLen at hs
  obtain ⟨L, hL⟩ : ∃ L, s.data.toList = L := ⟨_, rfl⟩
  have hsz : s.size = L.length := by rw [← hL]; exact Lib.size_eq s
  rw [hL]
  obtain ⟨E, hE⟩ : ∃ E, at' + skipN false (L.drop at') = E := ⟨_, rfl⟩
  rw [hE]
  have CLE : Hid (∀ k : Nat, k ≤ s.size → ∀ w, Calls Tryz.prog 61 #[.string s, .int .i64 k] w fun e w' => e = .returned (.int .i64 (k + runN (fun c => c != 10) (L.drop k) : Nat)) ∧ w = w') := by
    show ∀ k : Nat, _
    intro k hk w
    have := lineEnd_any s k w hs' hk
    rwa [hL] at this
  have HL := Lib.hid hL
  have HSZ := Lib.hid hsz
  have HE := Lib.hid hE
  clear hL hsz hE hs'
  go_enter Tryz.func36, Tryz.ntmps36
  go_wp2
  go_loop [1] (fun i => ∃ k : Nat, k ≤ s.size ∧ i = .int .i64 k ∧ k + skipN false (L.drop k) = E) (fun i => s.size - (intOf i).toNat)
  case atStart => exact ⟨at', ha, rfl, HE.out⟩
  case round =>
    obtain ⟨k, hk, rfl, hr⟩ := hrel
    have HR := Lib.hid hr
    clear hr
    by_cases hlt : k < s.size
    · have hlt' : k < L.length := by rw [← HSZ.out]; exact hlt
      have hget : L[k] = s[k] := by
        have := HL.out
        subst this
        rfl
      have HDR := Lib.hid (List.drop_eq_getElem_cons hlt')
      obtain ⟨q, hq⟩ : ∃ q, blankB s[k] = q := ⟨_, rfl⟩
      have cN := fun w => isBlank_any s[k] w
      simp only [hq] at cN
      have CN := Lib.hid cN
      have hqL : blankB L[k] = q := by rw [hget]; exact hq
      have HQL := Lib.hid hqL
      have HGET := Lib.hid hget
      clear hq cN hqL hget
      cases q
      · by_cases h35 : (s[k].toNat : Int) = 35
        · have h35' : s[k].toNat = 35 := by omega
          have hx : L[k] = 35 := by rw [HGET.out]; exact UInt8.toNat_inj.1 (by rw [h35']; rfl)
          have hrun : runN (fun c => c != 10) (L.drop k) = runN (fun c => c != 10) (L.drop (k + 1)) + 1 := run_step hlt' (by rw [hx]; rfl)
          have hle := run_le (fun c => c != 10) L k (by omega)
          have hEk : (k + runN (fun c => c != 10) (L.drop k)) + skipN false (L.drop (k + runN (fun c => c != 10) (L.drop k))) = E := by
            rw [← HR.out, HDR.out, skip_rem _ hx, skip_line, ← HDR.out, hrun, List.drop_drop]
            rw [show k + (runN (fun c => c != 10) (L.drop (k + 1)) + 1) = k + 1 + runN (fun c => c != 10) (L.drop (k + 1)) by omega]
            omega
          have hgt : k < k + runN (fun c => c != 10) (L.drop k) := by omega
          have cE := CLE.out k (by omega)
          obtain ⟨m, hm⟩ : ∃ m, k + runN (fun c => c != 10) (L.drop k) = m := ⟨_, rfl⟩
          rw [hm] at hEk hgt hle
          simp only [hm] at cE
          have HK := Lib.hid hEk
          have CE := Lib.hid cE
          have hml : m ≤ s.size := by have := HSZ.out; omega
          have H35 := Lib.hid (show ((s[k].toNat : Int) == 35) = true by simpa using h35)
          clear hEk hx h35' h35 hrun hle hm cE
          go_wp2_with fail
          refine (CN.out _).mono ?_
          rintro e w2 ⟨rfl, rfl⟩
          have h35b := H35.out
          go_wp2_with fail
          refine (CE.out _).mono ?_
          rintro e w2 ⟨rfl, rfl⟩
          go_wp2
          go_round
          case rel => exact ⟨m, hml, rfl, HK.out⟩
          case measure => simp [intOf]; omega
        · have hx : L[k] ≠ 35 := by rw [HGET.out]; intro e; exact h35 (by rw [e]; rfl)
          have hEk : k = E := by rw [← HR.out, HDR.out, skip_stop _ HQL.out hx]; rfl
          have HK := Lib.hid hEk
          have H35 := Lib.hid (show ((s[k].toNat : Int) == 35) = false by simpa using h35)
          clear hEk hx h35
          go_wp2_with fail
          refine (CN.out _).mono ?_
          rintro e w2 ⟨rfl, rfl⟩
          have h35b := H35.out
          go_wp2
          go_ret
          exact ⟨retx_int (by rw [HK.out]), rfl⟩
      · have hEk : k + 1 + skipN false (L.drop (k + 1)) = E := by rw [← HR.out, HDR.out, skip_blank _ HQL.out]; omega
        have HK := Lib.hid hEk
        clear hEk
        go_wp2_with fail
        refine (CN.out _).mono ?_
        rintro e w2 ⟨rfl, rfl⟩
        go_wp2
        go_round
        case rel => exact ⟨k + 1, by omega, by go_num, HK.out⟩
        case measure => simp [intOf]; omega
    · have hEk : k = E := by rw [← HR.out, List.drop_eq_nil_of_le (by have := HSZ.out; omega), skip_nil]; rfl
      have HK := Lib.hid hEk
      clear hEk
      go_wp2
      go_ret
      exact ⟨retx_int (by rw [HK.out]), rfl⟩
end Go.Proofs.YtlmnabhhgplhnaaGreatDoor
namespace Go.Proofs.YtlmnabhhgplhnaaGreatDoor
open Go.RowKit Go.Shelf

theorem idx_nonneg : ∀ (l : List UInt8) (c : UInt8), (0 ≤ Lib.indexByte l c ↔ c ∈ l)
  | [], c => by simp [Lib.indexByte]
  | b :: l, c => by
    have ih := idx_nonneg l c
    have hg := Lib.indexByte_ge l c
    unfold Lib.indexByte
    by_cases h : b = c
    · simp [h]
    · have h' : ¬ c = b := fun e => h e.symm
      have hb : (b == c) = false := by simpa using h
      rw [hb]
      simp only [Bool.false_eq_true, if_false, List.mem_cons, h', false_or]
      by_cases h1 : Lib.indexByte l c = -1
      · rw [h1] at ih ⊢
        simp at ih ⊢
        exact ih
      · rw [if_neg (by simpa using h1), ← ih]
        omega

theorem isPunct_any (c : UInt8) (w : World) :
    Calls Tryz.prog 65 #[.int .u8 c.toNat] w fun e w' => e = .returned (.bool (punctB c)) ∧ w = w' := by
  go_enter Tryz.func65, Tryz.ntmps65
  go_wp2_with fail
  refine (Any.strings_IndexByte lLays_n137 _ _ _).mono ?_
  rintro e w2 ⟨rfl, rfl⟩
  go_wp2
  all_goals go_ret
  exact ⟨retx_bool (by rw [Bool.eq_iff_iff, decide_eq_true_eq, idx_nonneg]; simp [punctB, punctL]), rfl⟩

def digitL : List UInt8 := [48, 49, 50, 51, 52, 53, 54, 55, 56, 57, 97, 98, 99, 100, 101, 102]
theorem hex_fin : ∀ n : Fin 256, Lib.indexByte digitL (UInt8.ofNat n.val) = ((hexV (UInt8.ofNat n.val)).map fun (k : Nat) => (k : Int)).getD (-1) := by decide +kernel
theorem hex_idx (c : UInt8) : Lib.indexByte digitL c = ((hexV c).map fun (k : Nat) => (k : Int)).getD (-1) := by
  have := hex_fin ⟨c.toNat, c.toNat_lt⟩
  simpa using this
theorem hex_lt {c : UInt8} {n : Nat} (h : hexV c = some n) : n < 16 := by
  unfold hexV at h
  split at h
  · injection h with h; omega
  · split at h
    · injection h with h; omega
    · cases h

theorem hex_none {c : UInt8} {x : Int} (h : x = ((hexV c).map fun (k : Nat) => (k : Int)).getD (-1)) (hx : x < 0) : hexV c = none := by
  cases e : hexV c with
  | none => rfl
  | some n => rw [e] at h; simp at h; omega
theorem hex_some {c : UInt8} {x : Int} (h : x = ((hexV c).map fun (k : Nat) => (k : Int)).getD (-1)) (hx : ¬ x < 0) : ∃ n : Nat, hexV c = some n ∧ x = n ∧ n < 16 := by
  cases e : hexV c with
  | none => rw [e] at h; simp at h; omega
  | some n => rw [e] at h; simp at h; exact ⟨n, rfl, h, hex_lt e⟩
theorem hex_wrap {a b : Nat} (ha : a < 16) (hb : b < 16) : wrap64 (wrap64 (16 * (a : Int)) + (b : Int)) % 256 = ((UInt8.ofNat (16 * a + b)).toNat : Int) := by
  have h1 : wrap64 (16 * (a : Int)) = 16 * (a : Int) := by unfold wrap64; omega
  have h2 : wrap64 (16 * (a : Int) + (b : Int)) = 16 * (a : Int) + (b : Int) := by unfold wrap64; omega
  rw [h1, h2, UInt8.toNat_ofNat']
  omega

def hexS (s : ByteArray) : UInt8 × Bool :=
  match s.data.toList with
  | h :: l :: _ => match hexV h, hexV l with
    | some a, some b => (UInt8.ofNat (16 * a + b), true)
    | _, _ => (0, false)
  | _ => (0, false)
theorem hexS_short {s : ByteArray} (h : s.size < 2) : hexS s = (0, false) := by
  rw [Lib.size_eq] at h
  unfold hexS
  split
  · rename_i e; rw [e] at h; simp at h; omega
  · rfl
theorem hexS_two {s : ByteArray} (h : 2 ≤ s.size) : hexS s = match hexV s[0], hexV s[1] with
    | some a, some b => (UInt8.ofNat (16 * a + b), true)
    | _, _ => (0, false) := by
  obtain ⟨⟨l⟩⟩ := s
  match l, h with
  | a :: b :: r, _ => rfl

set_option maxHeartbeats 1000000 in
theorem hexByte_any (s : ByteArray) (w : World) (hs : s.size ≤ maxLen) :
    Calls Tryz.prog 129 #[.string s] w fun e w' => e = .returned (.tuple #[.int .u8 (hexS s).1.toNat, .bool (hexS s).2]) ∧ w = w' := by
  unfold maxLen at hs
  by_cases h2 : s.size < 2
  · have h2' : (s.size : Int) < 2 := by omega
    go_enter Tryz.func129, Tryz.ntmps129
    go_wp2
    all_goals go_ret2
    all_goals exact ⟨by rw [hexS_short h2]; rfl, rfl⟩
  · have h2' : ¬ (s.size : Int) < 2 := by omega
    have h0 : 0 < s.size := by omega
    have h1 : 1 < s.size := by omega
    have HX := Lib.hid (hexS_two (s := s) (by omega))
    obtain ⟨c0, hc0⟩ : ∃ c, s[0] = c := ⟨_, rfl⟩
    obtain ⟨c1, hc1⟩ : ∃ c, s[1] = c := ⟨_, rfl⟩
    have HC0 := Lib.hid hc0
    have HC1 := Lib.hid hc1
    obtain ⟨x0, hx0⟩ : ∃ x, Lib.indexByte digitL c0 = x := ⟨_, rfl⟩
    obtain ⟨x1, hx1⟩ : ∃ x, Lib.indexByte digitL c1 = x := ⟨_, rfl⟩
    have g0 := Lib.indexByte_ge digitL c0
    have g1 := Lib.indexByte_ge digitL c1
    have HE0 := Lib.hid (hx0.symm.trans (hex_idx c0))
    have HE1 := Lib.hid (hx1.symm.trans (hex_idx c1))
    rw [hx0] at g0
    rw [hx1] at g1
    unfold digitL at hx0 hx1
    have HG0 := Lib.hid g0
    have HG1 := Lib.hid g1
    clear g0 g1
    go_enter Tryz.func129, Tryz.ntmps129
    go_wp2_with fail
    refine (Any.strings_IndexByte lLays_n137 _ _ _).mono ?_
    rintro e w2 ⟨rfl, rfl⟩
    go_wp2_with fail
    refine (Any.strings_IndexByte lLays_n137 _ _ _).mono ?_
    rintro e w2 ⟨rfl, rfl⟩
    have hcc0 := HC0.out
    have hcc1 := HC1.out
    by_cases hn0 : x0 < 0
    · go_wp2
      all_goals go_ret2
      all_goals exact ⟨by rw [HX.out, HC0.out, hex_none HE0.out hn0]; rfl, rfl⟩
    · by_cases hn1 : x1 < 0
      · go_wp2
        all_goals go_ret2
        all_goals exact ⟨by rw [HX.out, HC0.out, HC1.out, hex_none HE1.out hn1]; (cases hexV c0 <;> rfl), rfl⟩
      · go_wp2
        all_goals go_ret2
        all_goals obtain ⟨n0, e0, q0, l0⟩ := hex_some HE0.out (by omega)
        all_goals obtain ⟨n1, e1, q1, l1⟩ := hex_some HE1.out (by omega)
        all_goals subst q0 q1
        all_goals exact ⟨by rw [HX.out, HC0.out, HC1.out, e0, e1]; simp only [← hex_wrap l0 l1]; rfl, rfl⟩
end Go.Proofs.YtlmnabhhgplhnaaGreatDoor
namespace Go.Proofs.YtlmnabhhgplhnaaGreatDoor
open Go.RowKit Go.Shelf

/-- What 'element' answers. -/
def ElemE (s : ByteArray) (e : Ending) : Prop :=
  match elemS s.data.toList with
  | some (c, n) => e = .returned (.tuple #[.int .u8 c.toNat, .int .i64 n, .bool true])
  | none => ∃ n : Int, e = .returned (.tuple #[.int .u8 0, .int .i64 n, .bool false])
theorem elemE_bad {s : ByteArray} {e : Ending} (h : elemS s.data.toList = none) (n : Int) (he : e = .returned (.tuple #[.int .u8 0, .int .i64 n, .bool false])) : ElemE s e := by
  unfold ElemE; rw [h]; exact ⟨n, he⟩
theorem elemE_good {s : ByteArray} {e : Ending} {c : UInt8} {n : Nat} (h : elemS s.data.toList = some (c, n)) (he : e = .returned (.tuple #[.int .u8 c.toNat, .int .i64 n, .bool true])) : ElemE s e := by
  unfold ElemE; rw [h]; exact he
theorem elem_one {c : UInt8} (h : plainB c = true) (r : List UInt8) : elemS (c :: r) = some (c, 1) := by simp [elemS, h]
theorem elem_other {c : UInt8} (h : plainB c = false) (h' : c ≠ 92) (r : List UInt8) : elemS (c :: r) = none := by simp [elemS, h, h']
theorem elem_alone {c : UInt8} (h : plainB c = false) : elemS [c] = none := by
  simp only [elemS, h, Bool.false_eq_true, if_false]
  split <;> rfl
theorem elem_hex {s : ByteArray} (h : 2 ≤ s.size) (h0 : s[0] = 92) (h1 : s[1] = 120) : elemS s.data.toList = if (hexS (s.extract 2 s.size)).2 then some ((hexS (s.extract 2 s.size)).1, 4) else none := by
  obtain ⟨⟨l⟩⟩ := s
  match l, h with
  | a :: b :: r, _ =>
    obtain rfl : a = 92 := h0
    obtain rfl : b = 120 := h1
    have hx : (ByteArray.extract ⟨⟨92 :: 120 :: r⟩⟩ 2 (ByteArray.size ⟨⟨92 :: 120 :: r⟩⟩)).data.toList = r := by
      rw [ByteArray.data_extract]
      simp [ByteArray.size, Array.size]
    unfold hexS
    rw [hx]
    match r with
    | [] => rfl
    | [x] => rfl
    | x :: y :: t =>
      rcases h1 : hexV x with _ | a <;> rcases h2 : hexV y with _ | b <;> simp [elemS, h1, h2, show plainB 92 = false by decide]
theorem hexS_bad {s : ByteArray} (h : (hexS s).2 = false) : (hexS s).1 = 0 := by
  unfold hexS at h ⊢
  generalize s.data.toList = l at h ⊢
  rcases l with _ | ⟨x, _ | ⟨y, t⟩⟩
  · rfl
  · rfl
  · rcases h1 : hexV x with _ | a <;> rcases h2 : hexV y with _ | b <;> simp [h1, h2] at h ⊢
theorem hexS_pair (s : ByteArray) : ∃ c b, hexS s = (c, b) := ⟨_, _, rfl⟩
theorem elem_two {s : ByteArray} {c : UInt8} {d : UInt8} (h : 2 ≤ s.size) (h0 : s[0] = 92) (h1 : s[1] = c) (hc : (if c = 110 then some ((10 : UInt8), 2) else if c = 116 then some (9, 2) else if c = 92 ∨ c = 34 then some (c, 2) else none) = some (d, 2)) : elemS s.data.toList = some (d, 2) := by
  obtain ⟨⟨l⟩⟩ := s
  match l, h with
  | a :: b :: r, _ =>
    obtain rfl : a = 92 := h0
    obtain rfl : b = c := h1
    simp only [elemS, show plainB 92 = false by decide, Bool.false_eq_true, if_false, if_true]
    split at hc
    · rename_i e; rw [if_pos e]; exact hc
    · rename_i e; rw [if_neg e]
      split at hc
      · rename_i e; rw [if_pos e]; exact hc
      · rename_i e; rw [if_neg e]
        split at hc
        · rename_i e; rw [if_pos e]; exact hc
        · cases hc
theorem elem_else {s : ByteArray} (h : 2 ≤ s.size) (h0 : s[0] = 92) (h1 : s[1] ≠ 110) (h2 : s[1] ≠ 116) (h3 : s[1] ≠ 92) (h4 : s[1] ≠ 34) (h5 : s[1] ≠ 120) : elemS s.data.toList = none := by
  obtain ⟨⟨l⟩⟩ := s
  match l, h with
  | a :: b :: r, _ =>
    obtain rfl : a = 92 := h0
    have h1 : b ≠ 110 := h1
    have h2 : b ≠ 116 := h2
    have h3 : b ≠ 92 := h3
    have h4 : b ≠ 34 := h4
    have h5 : b ≠ 120 := h5
    simp [elemS, show plainB 92 = false by decide, h1, h2, h3, h4, h5]
end Go.Proofs.YtlmnabhhgplhnaaGreatDoor
namespace Go.Proofs.YtlmnabhhgplhnaaGreatDoor
open Go.RowKit Go.Shelf

theorem u8_ne {c : UInt8} {n : Nat} (h : ¬ (c.toNat : Int) = (n : Int)) : ¬ c = UInt8.ofNat n ∨ 256 ≤ n := by
  by_cases hn : 256 ≤ n
  · exact Or.inr hn
  · refine Or.inl fun e => h ?_
    rw [e, UInt8.toNat_ofNat']
    omega
theorem u8_is {c : UInt8} {n : Nat} (hn : n < 256) (h : (c.toNat : Int) = (n : Int)) : c = UInt8.ofNat n := by
  apply UInt8.toNat_inj.1
  rw [UInt8.toNat_ofNat']
  omega
theorem byte_first {s : ByteArray} (h : 0 < s.size) : ∃ r, s.data.toList = s[0] :: r := by
  obtain ⟨⟨l⟩⟩ := s
  match l, h with
  | a :: r, _ => exact ⟨r, rfl⟩
theorem first_alone {s : ByteArray} (h : s.size = 1) : s.data.toList = [s[0]] := by
  obtain ⟨⟨l⟩⟩ := s
  match l, h with
  | [a], _ => rfl

set_option maxHeartbeats 1000000 in
theorem element_any (s : ByteArray) (w : World) (hs : s.size ≤ maxLen) (hp : 0 < s.size) :
    Calls Tryz.prog 102 #[.string s] w fun e w' => ElemE s e ∧ w = w' := by
  have hs' := hs
  unfold maxLen at hs
  obtain ⟨r, hr⟩ := byte_first hp
  have HR := Lib.hid hr
  clear hr
  obtain ⟨c, hc⟩ : ∃ c, s[0] = c := ⟨_, rfl⟩
  have HC := Lib.hid hc
  obtain ⟨q, hq⟩ : ∃ q, plainB c = q := ⟨_, rfl⟩
  have HQ := Lib.hid hq
  have cP := fun w => isPlain_any c w
  simp only [hq] at cP
  have CP := Lib.hid cP
  clear hq cP
  go_enter Tryz.func102, Tryz.ntmps102
  go_wp2_with fail
  refine (CP.out _).mono ?_
  rintro e w2 ⟨rfl, rfl⟩
  cases q
  · by_cases h92 : (c.toNat : Int) = 92
    · have H92 := Lib.hid h92
      have h92b : ((c.toNat : Int) == 92) = true := by simpa using h92
      clear h92
      by_cases h2 : (s.size : Int) < 2
      · go_wp2
        all_goals go_ret3
        all_goals exact ⟨elemE_bad (by rw [first_alone (by omega), HC.out]; exact elem_alone HQ.out) 0 rfl, rfl⟩
      · have h1 : 1 < s.size := by omega
        obtain ⟨d, hd⟩ : ∃ d, s[1] = d := ⟨_, rfl⟩
        have HD := Lib.hid hd
        have HC92 := Lib.hid (HC.out.trans (u8_is (n := 92) (by omega) H92.out))
        by_cases h110 : (d.toNat : Int) = 110
        · go_wp2
          all_goals go_ret3
          all_goals exact ⟨elemE_good (c := 10) (n := 2) (elem_two (by omega) HC92.out (HD.out.trans (u8_is (n := 110) (by omega) h110)) rfl) rfl, rfl⟩
        · by_cases h116 : (d.toNat : Int) = 116
          · go_wp2
            all_goals go_ret3
            all_goals exact ⟨elemE_good (c := 9) (n := 2) (elem_two (by omega) HC92.out (HD.out.trans (u8_is (n := 116) (by omega) h116)) rfl) rfl, rfl⟩
          · by_cases hd92 : (d.toNat : Int) = 92
            · go_wp2
              all_goals go_ret3
              all_goals exact ⟨elemE_good (c := 92) (n := 2) (elem_two (by omega) HC92.out (HD.out.trans (u8_is (n := 92) (by omega) hd92)) rfl) (by first | rfl | (rw [u8_is (n := 92) (by omega) hd92]; rfl)), rfl⟩
            · by_cases hd34 : (d.toNat : Int) = 34
              · go_wp2
                all_goals go_ret3
                all_goals exact ⟨elemE_good (c := 34) (n := 2) (elem_two (by omega) HC92.out (HD.out.trans (u8_is (n := 34) (by omega) hd34)) rfl) (by first | rfl | (rw [u8_is (n := 34) (by omega) hd34]; rfl)), rfl⟩
              · by_cases h120 : (d.toNat : Int) = 120
                · have HX := Lib.hid (elem_hex (by omega) HC92.out (HD.out.trans (u8_is (n := 120) (by omega) h120)))
                  go_wp2_with fail
                  refine (hexByte_any _ _ ?_).mono ?_
                  · rw [ByteArray.size_extract]; unfold maxLen; omega
                  rintro e w3 ⟨rfl, rfl⟩
                  go_wp2
                  all_goals go_ret3
                  all_goals (
                    refine ⟨?_, rfl⟩
                    have hx := HX.out
                    cases hb : (hexS (s.extract 2 s.size)).2 with
                    | true =>
                      rw [hb, if_pos rfl] at hx
                      exact elemE_good hx (by rw [← hb]; rfl)
                    | false =>
                      rw [hb, if_neg (by decide)] at hx
                      exact elemE_bad hx 4 (by rw [← hb, show (0 : Int) = ((hexS (s.extract 2 s.size)).1.toNat : Int) by rw [hexS_bad hb]; rfl]; rfl))
                · have n1 : s[1] ≠ 110 := fun e => h110 (by rw [← HD.out, e]; rfl)
                  have n2 : s[1] ≠ 116 := fun e => h116 (by rw [← HD.out, e]; rfl)
                  have n3 : s[1] ≠ 92 := fun e => hd92 (by rw [← HD.out, e]; rfl)
                  have n4 : s[1] ≠ 34 := fun e => hd34 (by rw [← HD.out, e]; rfl)
                  have n5 : s[1] ≠ 120 := fun e => h120 (by rw [← HD.out, e]; rfl)
                  have HN := Lib.hid (elem_else (by omega) HC92.out n1 n2 n3 n4 n5)
                  clear n1 n2 n3 n4 n5
                  go_wp2
                  all_goals go_ret3
                  all_goals exact ⟨elemE_bad HN.out 0 rfl, rfl⟩
    · have h92b : ((c.toNat : Int) == 92) = false := by simpa using h92
      have H92 := Lib.hid h92
      clear h92
      go_wp2
      all_goals go_ret3
      all_goals exact ⟨elemE_bad (by rw [HR.out, HC.out]; exact elem_other HQ.out (fun e => H92.out (by rw [e]; rfl)) _) 0 rfl, rfl⟩
  · go_wp2
    all_goals go_ret3
    all_goals exact ⟨elemE_good (n := 1) (by rw [HR.out, HC.out]; exact elem_one HQ.out _) rfl, rfl⟩
end Go.Proofs.YtlmnabhhgplhnaaGreatDoor
namespace Go.Proofs.YtlmnabhhgplhnaaGreatDoor
open Go.RowKit Go.Shelf

theorem lx_writeByte (B b : Nat) (l : List UInt8) (c : UInt8) (w : World) (h : Lib.IsBuilder 60 5 B b (Lib.byteCells l) w) (hlen : l.length + 1 ≤ 140737488355328) (hBw : B ≤ w.heap.size) :
    Calls Tryz.prog 40 #[.pointer (some ⟨b, 0, none⟩), .int .u8 c.toNat] w fun e w' => e = .returned .nilIface ∧ Lib.IsBuilder 60 5 B b (Lib.byteCells (l ++ [c])) w' ∧ Below B w w' := by
  refine (Any.Builder_WriteByte lLays_n167 lExtra B b (Lib.byteCells l) c.toNat w h (by simpa [Lib.byteCells] using hlen) hBw).mono ?_
  rintro e w' ⟨rfl, h1, h2⟩
  refine ⟨rfl, .inr ?_, h2⟩
  rw [show Lib.byteCells (l ++ [c]) = Lib.byteCells l ++ [Value.int .u8 c.toNat] from by simp [Lib.byteCells]]
  exact h1

theorem lx_builderString (B b : Nat) (l : List UInt8) (w : World) (h : Lib.IsBuilder 60 5 B b (Lib.byteCells l) w) (hBw : B ≤ w.heap.size) :
    Calls Tryz.prog 30 #[.pointer (some ⟨b, 0, none⟩)] w fun e w' => e = .returned (.string ⟨l.toArray⟩) ∧ Below B w w' :=
  Any.Builder_String_any lLays_n169 lExtra B b l w h hBw

/-- What 'stringAt' answers. -/
def StrE (L : List UInt8) (p : Nat) (e : Ending) : Prop :=
  match strS (L.drop p) with
  | some (t, n) => e = .returned (.tuple #[.string ⟨t.toArray⟩, .int .i64 ((p + n : Nat) : Int), .bool true])
  | none => e = .returned (.tuple #[.string ⟨#[]⟩, .int .i64 0, .bool false])
theorem strE_bad {L : List UInt8} {p : Nat} {e : Ending} (h : strS (L.drop p) = none) (he : e = .returned (.tuple #[.string ⟨#[]⟩, .int .i64 0, .bool false])) : StrE L p e := by
  unfold StrE; rw [h]; exact he
theorem strE_good {L : List UInt8} {p : Nat} {e : Ending} {t : List UInt8} {n : Nat} (h : strS (L.drop p) = some (t, n)) (he : e = .returned (.tuple #[.string ⟨t.toArray⟩, .int .i64 ((p + n : Nat) : Int), .bool true])) : StrE L p e := by
  unfold StrE; rw [h]; exact he
theorem ext_drop (s : ByteArray) (k : Nat) : (s.extract k s.size).data.toList = s.data.toList.drop k := by
  rw [ByteArray.data_extract, Array.toList_extract, List.extract_eq_take_drop, List.take_of_length_le]
  rw [List.length_drop, ← Lib.size_eq]; omega

theorem ret_str3 {a a' : ByteArray} {b b' : Int} {c : Bool} (h : a = a') (h' : b = b') : Ending.returned (.tuple #[.string a, .int .i64 b, .bool c]) = .returned (.tuple #[.string a', .int .i64 b', .bool c]) := by rw [h, h']

set_option maxHeartbeats 2000000 in
theorem stringAt_any (s : ByteArray) (at' : Nat) (w : World) (hs : s.size ≤ 140737488351232) (ha : at' < s.size) :
    Calls Tryz.prog 62 #[.string s, .int .i64 at'] w fun e w' => StrE s.data.toList (at' + 1) e ∧ Below w.heap.size w w' := by
  obtain ⟨L, hL⟩ : ∃ L, s.data.toList = L := ⟨_, rfl⟩
  have hsz : s.size = L.length := by rw [← hL]; exact Lib.size_eq s
  rw [hL]
  obtain ⟨p, hp⟩ : ∃ p, at' + 1 = p := ⟨_, rfl⟩
  have hpi : (at' : Int) + 1 = (p : Int) := by omega
  have hpw : IntKind.i64.wrap ((at' : Int) + 1) = (p : Int) := by rw [hpi]; exact IntWalk.i64_in _ (by omega)
  rw [hp]
  have hps : p ≤ s.size := by omega
  have hB0 := Lib.fresh_isBuilder 60 5 w
  have HL := Lib.hid hL
  have HSZ := Lib.hid hsz
  clear hL hsz
  go_enter Tryz.func62, Tryz.ntmps62
  go_wp2
  go_loopw [1] (fun i wr => ∃ (k : Nat) (acc : List UInt8), p ≤ k ∧ k ≤ s.size ∧ i = .int .i64 k ∧ Lib.IsBuilder 60 5 w.heap.size w.heap.size (Lib.byteCells acc) wr ∧ Below w.heap.size w wr ∧ acc.length + p ≤ k ∧ (strS (L.drop k)).map (fun x => (acc ++ x.1, (k - p) + x.2)) = strS (L.drop p))
    (fun i _ => s.size - (intOf i).toNat)
  case atStart => exact ⟨p, [], Nat.le_refl _, hps, rfl, hB0, (Below.refl _ _).alloc (Nat.le_refl _) _, by simp, by simp⟩
  case round =>
    obtain ⟨k, acc, hpk, hk, rfl, hbu, hnx, hacc, hR⟩ := hrel
    have HR := Lib.hid hR
    have HBU := Lib.hid hbu
    have hszw := hnx.size
    clear hR hB0 hbu hpi hpw hp
    by_cases hlt : k < s.size
    · have hlt' : k < L.length := by rw [← HSZ.out]; exact hlt
      have hget : L[k] = s[k] := by
        have := HL.out
        subst this
        rfl
      have HDR := Lib.hid (List.drop_eq_getElem_cons hlt')
      have HGET := Lib.hid hget
      clear hget
      have hne : ¬ ((k : Int) = (s.size : Int)) := by omega
      by_cases h34 : (s[k].toNat : Int) = 34
      · have hx : L[k] = 34 := by rw [HGET.out]; exact u8_is (n := 34) (by omega) h34
        have hgood : strS (L.drop p) = some (acc, k - p + 1) := by rw [← HR.out, HDR.out, hx, strS_end]; simp
        have HGOOD := Lib.hid hgood
        have h34b : ((s[k].toNat : Int) != 34) = false := by simpa using h34
        clear hx hgood h34
        go_wp2_with fail
        refine (lx_builderString w.heap.size w.heap.size acc wr HBU.out hszw).mono ?_
        rintro e w2 ⟨rfl, hb2⟩
        go_wp2
        go_ret3
        exact ⟨strE_good HGOOD.out (ret_str3 rfl (by omega)), hnx.trans hb2⟩
      · have hx : L[k] ≠ 34 := by rw [HGET.out]; intro e; exact h34 (by rw [e]; rfl)
        have HX := Lib.hid hx
        have h34b : ((s[k].toNat : Int) != 34) = true := by simpa using h34
        clear hx h34
        have cE := element_any (s.extract k s.size) wr (by rw [ByteArray.size_extract]; unfold maxLen; omega) (by rw [ByteArray.size_extract]; omega)
        unfold ElemE at cE
        rw [ext_drop, HL.out] at cE
        cases he : elemS (L.drop k) with
        | none =>
          rw [he] at cE
          simp only at cE
          have hbad : strS (L.drop p) = none := by rw [← HR.out]; rw [HDR.out] at he ⊢; rw [strS_bad HX.out he]; rfl
          have HBAD := Lib.hid hbad
          clear hbad he
          go_wp2_with fail
          refine cE.mono ?_
          rintro e w2 ⟨⟨n, rfl⟩, rfl⟩
          go_wp2
          go_ret3
          exact ⟨strE_bad HBAD.out rfl, hnx⟩
        | some x =>
          obtain ⟨c, n⟩ := x
          rw [he] at cE
          simp only at cE
          have hpos := elem_pos he
          rw [List.length_drop, ← HSZ.out] at hpos
          have hR2 : (strS (L.drop (k + n))).map (fun x => ((acc ++ [c]) ++ x.1, (k + n - p) + x.2)) = strS (L.drop p) := by
            rw [← HR.out]
            have hd : L.drop (k + n) = (L.drop k).drop n := by rw [List.drop_drop]
            rw [hd]
            rw [HDR.out] at he ⊢
            rw [strS_next HX.out he, Option.map_map]
            congr 1
            funext x
            simp only [Function.comp, List.append_assoc, List.cons_append, List.nil_append, Prod.mk.injEq, true_and]
            omega
          have HR2 := Lib.hid hR2
          clear hR2 he
          go_wp2_with fail
          refine cE.mono ?_
          rintro e w2 ⟨rfl, rfl⟩
          go_wp2_with fail
          refine (lx_writeByte w.heap.size w.heap.size acc c _ HBU.out (by omega) hszw).mono ?_
          rintro e w3 ⟨rfl, h3, hb3⟩
          have H3 := Lib.hid h3
          have hnx3 := hnx.trans hb3
          clear h3 hb3
          go_wp2
          go_roundw
          case rel => exact ⟨k + n, acc ++ [c], by omega, by omega, by go_num, H3.out, hnx3, by simp only [List.length_append, List.length_cons, List.length_nil]; omega, HR2.out⟩
          case measure => simp [intOf]; omega
    · have hke : k = s.size := by omega
      have hbad : strS (L.drop p) = none := by rw [← HR.out, List.drop_eq_nil_of_le (by have := HSZ.out; omega), strS_nil]; rfl
      have HBAD := Lib.hid hbad
      clear hbad
      go_wp2
      go_ret3
      exact ⟨strE_bad HBAD.out rfl, hnx⟩
end Go.Proofs.YtlmnabhhgplhnaaGreatDoor
namespace Go.Proofs.YtlmnabhhgplhnaaGreatDoor
open Go.RowKit Go.Shelf

/-- What 'wordAt' answers at a place of a text. -/
def WordE (L : List UInt8) (p : Nat) (e : Ending) : Prop :=
  match wordS (L.drop p) with
  | some (k, t, n) => e = .returned (.tuple #[.agg #[.int .i64 k, .int .i64 (p : Int), .string ⟨t.toArray⟩], .int .i64 ((p + n : Nat) : Int), .bool true])
  | none => ∃ a b c n, e = .returned (.tuple #[.agg #[.int .i64 a, .int .i64 b, .string c], .int .i64 n, .bool false])
theorem wordE_bad {L : List UInt8} {p : Nat} {e : Ending} (h : wordS (L.drop p) = none) (a b : Int) (c : ByteArray) (n : Int) (he : e = .returned (.tuple #[.agg #[.int .i64 a, .int .i64 b, .string c], .int .i64 n, .bool false])) : WordE L p e := by
  unfold WordE; rw [h]; exact ⟨a, b, c, n, he⟩
theorem wordE_good {L : List UInt8} {p : Nat} {e : Ending} {k : Int} {t : List UInt8} {n : Nat} (h : wordS (L.drop p) = some (k, t, n))
    (he : e = .returned (.tuple #[.agg #[.int .i64 k, .int .i64 (p : Int), .string ⟨t.toArray⟩], .int .i64 ((p + n : Nat) : Int), .bool true])) : WordE L p e := by
  unfold WordE; rw [h]; exact he

theorem heap_set {w : World} {g : Nat} {cur : Array Value} {t : TypeId} {fr : Nat × Nat} (i : Nat) (v : Value) (hg : w.heap[g]? = some (.cells cur t fr)) :
    (w.setCell ⟨g, i, none⟩ v).heap[g]? = some (.cells (cur.setIfInBounds i v) t fr) := by
  rw [setCell_eq_setRow w g i cur t fr v hg]
  exact setRow_heap w g cur _ t fr hg
theorem results_ctt {P : Program} {fn : Func} {p u v : Tmp} {ty : TypeId} (h : fn.results = #[.cell p ty, .tmp u, .tmp v]) (tmps : Array Value) (w : World) (g : Nat) (t : TypeId) (cs : Array Value) (fr : Nat × Nat) (d : TypeDesc)
    (hp : tmps.getD p undef = .pointer (some ⟨g, 0, none⟩)) (hg : w.heap[g]? = some (.cells cs t fr))
    (hu : P.underlying ty = some d) (hd : (match d with | .struct _ | .array _ _ => true | _ => false) = true) (hi : (P.info? ty).map (·.size) = some cs.size) :
    (results fn tmps).run P w = .ok (.tuple #[.agg cs, tmps.getD u undef, tmps.getD v undef]) w := by
  have hp' : tmps[p]?.getD undef = .pointer (some ⟨g, 0, none⟩) := by simpa using hp
  simp [results, h, hp', asAddr, run_loadVar_row w g t ty cs fr d hg hu hd hi]
theorem results_tc {P : Program} {fn : Func} {p u : Tmp} {ty : TypeId} (h : fn.results = #[.tmp u, .cell p ty]) (tmps : Array Value) (w : World) (g : Nat) (t : TypeId) (cs : Array Value) (fr : Nat × Nat) (d : TypeDesc)
    (hp : tmps.getD p undef = .pointer (some ⟨g, 0, none⟩)) (hg : w.heap[g]? = some (.cells cs t fr))
    (hu : P.underlying ty = some d) (hd : (match d with | .struct _ | .array _ _ => true | _ => false) = true) (hi : (P.info? ty).map (·.size) = some cs.size) :
    (results fn tmps).run P w = .ok (.tuple #[tmps.getD u undef, .agg cs]) w := by
  have hp' : tmps[p]?.getD undef = .pointer (some ⟨g, 0, none⟩) := by simpa using hp
  simp [results, h, hp', asAddr, run_loadVar_row w g t ty cs fr d hg hu hd hi]
theorem cells3 {w : World} {b : Nat} {x y z : Value} {T : TypeId} (h : w.heap[b]? = some (.cells #[x, y, z] T)) :
    w.cell? ⟨b, 0, none⟩ = some x ∧ w.cell? ⟨b, 1, none⟩ = some y ∧ w.cell? ⟨b, 2, none⟩ = some z ∧ w.frozen? ⟨b, 0, none⟩ = false ∧ w.frozen? ⟨b, 1, none⟩ = false ∧ w.frozen? ⟨b, 2, none⟩ = false := by
  simp [World.cell?, World.frozen?, h]
theorem alloc_at (w : World) (o : Obj) : (w.alloc o).heap[w.heap.size]? = some o := by show (w.heap.push _)[w.heap.size]? = _; simp
theorem below_new {w w2 : World} {o : Obj} (h : Below (w.alloc o).heap.size (w.alloc o) w2) : Below w.heap.size w w2 :=
  ((Below.refl w.heap.size w).alloc (Nat.le_refl _) o).trans (h.mono (by simp))
theorem at_new {w w2 : World} {o : Obj} (h : Below (w.alloc o).heap.size (w.alloc o) w2) : w2.heap[w.heap.size]? = some o := by
  rw [h.block _ (by simp)]; exact alloc_at w o

theorem word_string {L : List UInt8} {p : Nat} (h : p < L.length) (hq : L[p] = 34) : wordS (L.drop p) = (strS (L.drop (p + 1))).map fun x => (2, x.1, x.2 + 1) := by
  rw [List.drop_eq_getElem_cons h, hq, wordS_cons, if_pos rfl]
theorem word_name {L : List UInt8} {p : Nat} (h : p < L.length) (hq : L[p] ≠ 34) (hn : nameB L[p] = true) : wordS (L.drop p) = some (1, (L.drop p).takeWhile nameB, runN nameB (L.drop p)) := by
  rw [List.drop_eq_getElem_cons h, wordS_cons, if_neg hq, if_pos hn]; rfl
theorem word_punct {L : List UInt8} {p : Nat} (h : p < L.length) (hq : L[p] ≠ 34) (hn : nameB L[p] = false) (hp : punctB L[p] = true) : wordS (L.drop p) = some (3, [L[p]], 1) := by
  rw [List.drop_eq_getElem_cons h, wordS_cons, if_neg hq, if_neg (by rw [hn]; decide), if_pos hp]
theorem word_none {L : List UInt8} {p : Nat} (h : p < L.length) (hq : L[p] ≠ 34) (hn : nameB L[p] = false) (hp : punctB L[p] = false) : wordS (L.drop p) = none := by
  rw [List.drop_eq_getElem_cons h, wordS_cons, if_neg hq, if_neg (by rw [hn]; decide), if_neg (by rw [hp]; decide)]
theorem ext_run (s : ByteArray) (p : Nat) : s.extract p (p + runN nameB (s.data.toList.drop p)) = ⟨((s.data.toList.drop p).takeWhile nameB).toArray⟩ := by
  apply ByteArray.ext
  apply Array.toList_inj.1
  rw [ByteArray.data_extract, Array.toList_extract, List.extract_eq_take_drop]
  simp only [runN, Nat.add_sub_cancel_left]
  exact (List.prefix_iff_eq_take.1 (List.takeWhile_prefix nameB)).symm
theorem ext_one (s : ByteArray) (p : Nat) (h : p < s.size) : s.extract p (p + 1) = ⟨[s[p]].toArray⟩ := by
  apply ByteArray.ext
  apply Array.toList_inj.1
  rw [ByteArray.data_extract, Array.toList_extract, List.extract_eq_take_drop, Nat.add_sub_cancel_left]
  have h' : p < s.data.toList.length := by rw [← Lib.size_eq]; exact h
  rw [List.drop_eq_getElem_cons h']
  rfl

set_option maxHeartbeats 2000000 in
theorem wordAt_any (s : ByteArray) (at' : Nat) (w : World) (hs : s.size ≤ 140737488351232) (ha : at' < s.size) :
    Calls Tryz.prog 37 #[.string s, .int .i64 at'] w fun e w' => WordE s.data.toList at' e ∧ Below w.heap.size w w' := by
  obtain ⟨L, hL⟩ : ∃ L, s.data.toList = L := ⟨_, rfl⟩
  have hsz : s.size = L.length := by rw [← hL]; exact Lib.size_eq s
  rw [hL]
  have hlt' : at' < L.length := by rw [← hsz]; exact ha
  have hget : L[at'] = s[at'] := by subst hL; rfl
  obtain ⟨c, hc⟩ : ∃ c, s[at'] = c := ⟨_, rfl⟩
  have HC := Lib.hid hc
  have HGET := Lib.hid (hget.trans hc)
  have HL := Lib.hid hL
  have HSZ := Lib.hid hsz
  clear hL hsz hget
  by_cases h34 : (c.toNat : Int) = 34
  · have HW := Lib.hid (word_string hlt' (HGET.out.trans (u8_is (n := 34) (by omega) h34)))
    go_enter Tryz.func37, Tryz.ntmps37
    go_wp2_with fail
    refine (stringAt_any s at' _ hs ha).mono ?_
    rintro e w2 ⟨he, hb2⟩
    have hnx := below_new hb2
    have hbk := at_new hb2
    obtain ⟨c0, c1, c2, f0, f1, f2⟩ := cells3 hbk
    have HBK := Lib.hid hbk
    have HNX := Lib.hid hnx
    clear hbk hb2 hnx
    unfold StrE at he
    rw [HL.out] at he
    cases hS : strS (L.drop (at' + 1)) with
    | none =>
      rw [hS] at he
      simp only at he
      subst he
      have hW := HW.out
      rw [hS] at hW
      have HW2 := Lib.hid hW
      clear hW hS
      go_wp2
      refine bodyPost_ret (results_ctt rfl _ _ w.heap.size _ _ _ _ rfl (heap_set _ _ (heap_set _ _ (heap_set _ _ (heap_set _ _ HBK.out)))) Tryz.underlying46 rfl (by kernel_rfl)) rfl ?_
      exact ⟨wordE_bad HW2.out 2 at' ⟨#[]⟩ 0 rfl, (((HNX.out.setCell (Nat.le_refl _) _).setCell (Nat.le_refl _) _).setCell (Nat.le_refl _) _).setCell (Nat.le_refl _) _⟩
    | some x => 
      obtain ⟨t, n⟩ := x
      rw [hS] at he
      simp only at he
      subst he
      have hW := HW.out
      rw [hS] at hW
      have HW2 := Lib.hid hW
      clear hW hS
      go_wp2
      refine bodyPost_ret (results_ctt rfl _ _ w.heap.size _ _ _ _ rfl (heap_set _ _ (heap_set _ _ (heap_set _ _ (heap_set _ _ HBK.out)))) Tryz.underlying46 rfl (by kernel_rfl)) rfl ?_
      exact ⟨wordE_good HW2.out (by simp; omega), (((HNX.out.setCell (Nat.le_refl _) _).setCell (Nat.le_refl _) _).setCell (Nat.le_refl _) _).setCell (Nat.le_refl _) _⟩
  · have h34b : ((c.toNat : Int) == 34) = false := by simpa using h34
    have hq : L[at'] ≠ 34 := by rw [HGET.out]; intro e; exact h34 (by rw [e]; rfl)
    have HQ := Lib.hid hq
    obtain ⟨q, hqn⟩ : ∃ q, nameB c = q := ⟨_, rfl⟩
    have cN := fun w => isName_any c w
    simp only [hqn] at cN
    have CN := Lib.hid cN
    have HQN := Lib.hid (show nameB L[at'] = q by rw [HGET.out]; exact hqn)
    clear hq hqn cN h34
    cases q
    · obtain ⟨q, hqn⟩ : ∃ q, punctB c = q := ⟨_, rfl⟩
      have cP := fun w => isPunct_any c w
      simp only [hqn] at cP
      have CP := Lib.hid cP
      have HQP := Lib.hid (show punctB L[at'] = q by rw [HGET.out]; exact hqn)
      clear hqn cP
      cases q
      · have HW := Lib.hid (word_none hlt' HQ.out HQN.out HQP.out)
        go_enter Tryz.func37, Tryz.ntmps37
        go_wp2_with fail
        refine (CN.out _).mono ?_
        rintro e w2 ⟨rfl, rfl⟩
        go_wp2_with fail
        refine (CP.out _).mono ?_
        rintro e w2 ⟨rfl, rfl⟩
        go_wp2
        refine bodyPost_ret (results_ctt rfl _ _ w.heap.size _ _ _ _ rfl (alloc_at w _) Tryz.underlying46 rfl (by kernel_rfl)) rfl ?_
        exact ⟨wordE_bad HW.out 0 0 ⟨#[]⟩ 0 rfl, (Below.refl _ _).alloc (Nat.le_refl _) _⟩
      · have HW := Lib.hid (word_punct hlt' HQ.out HQN.out HQP.out)
        go_enter Tryz.func37, Tryz.ntmps37
        go_wp2_with fail
        refine (CN.out _).mono ?_
        rintro e w2 ⟨rfl, rfl⟩
        go_wp2_with fail
        refine (CP.out _).mono ?_
        rintro e w2 ⟨rfl, rfl⟩
        go_wp2_with fail
        go_region
        all_goals go_wp2
        all_goals refine bodyPost_ret (results_ctt rfl _ _ w.heap.size _ _ _ _ rfl (alloc_at w _) Tryz.underlying46 rfl (by kernel_rfl)) rfl ?_
        all_goals exact ⟨wordE_good HW.out (by rw [ext_one s at' ha, HGET.out, HC.out]; rfl), ((Below.refl _ _).alloc (Nat.le_refl _) _).drew⟩
    · have HW := Lib.hid (word_name hlt' HQ.out HQN.out)
      obtain ⟨m, hm⟩ : ∃ m, runN nameB (L.drop at') = m := ⟨_, rfl⟩
      have hle := run_le nameB L at' (by omega)
      have cE := fun w => nameEnd_any s at' w (by unfold maxLen; omega) (by omega)
      rw [hm] at hle
      rw [← HSZ.out] at hle
      simp only [HL.out, hm] at cE
      have CE := Lib.hid cE
      have hx := ext_run s at'
      rw [HL.out, hm] at hx
      have HX := Lib.hid hx
      have HM := Lib.hid hm
      obtain ⟨en, hen⟩ : ∃ en, at' + m = en := ⟨_, rfl⟩
      have HEN := Lib.hid hen
      have hen1 : at' ≤ en := by omega
      have hen2 : en ≤ s.size := by omega
      clear cE hx hm hle
      rw [hen] at CE
      clear hen
      go_enter Tryz.func37, Tryz.ntmps37
      go_wp2_with fail
      refine (CN.out _).mono ?_
      rintro e w2 ⟨rfl, rfl⟩
      go_wp2_with fail
      refine (CE.out _).mono ?_
      rintro e w2 ⟨rfl, rfl⟩
      go_wp2_with fail
      go_region
      all_goals go_wp2
      all_goals refine bodyPost_ret (results_ctt rfl _ _ w.heap.size _ _ _ _ rfl (alloc_at w _) Tryz.underlying46 rfl (by kernel_rfl)) rfl ?_
      all_goals exact ⟨wordE_good HW.out (by rw [← HX.out, HM.out, HEN.out]; rfl), ((Below.refl _ _).alloc (Nat.le_refl _) _).drew⟩
end Go.Proofs.YtlmnabhhgplhnaaGreatDoor
namespace Go.Proofs.YtlmnabhhgplhnaaGreatDoor
open Go.RowKit Go.Shelf

/-- A slice whose elements take k cells each, and what lies in them. -/
def IsRow (w : World) (v : Value) (k : Nat) (rows : List (List Value)) : Prop :=
  ∃ a c, v = .slice a rows.length c ∧ rows.length ≤ c ∧ c ≤ maxLen ∧ (rows ≠ [] → ∃ b o, a = some ⟨b, o, none⟩ ∧ b < w.heap.size ∧ ∀ (j : Nat) r, rows[j]? = some r → ∀ (i : Nat) u, r[i]? = some u → w.cell? ⟨b, o + j * k + i, none⟩ = some u)

theorem flat_at (k : Nat) : ∀ (rows : List (List Value)), (∀ r ∈ rows, r.length = k) → ∀ (j : Nat) r, rows[j]? = some r → ∀ (i : Nat) u, r[i]? = some u → rows.flatten[j * k + i]? = some u
  | [], _, j, r, h, _, _, _ => by simp at h
  | r0 :: rows, hk, j, r, h, i, u, hi => by
    rw [List.flatten_cons]
    cases j with
    | zero =>
      simp only [List.getElem?_cons_zero, Option.some.injEq] at h
      subst h
      rw [Nat.zero_mul, Nat.zero_add, List.getElem?_append_left (List.getElem?_eq_some_iff.1 hi).1]
      exact hi
    | succ j =>
      simp only [List.getElem?_cons_succ] at h
      have h0 := hk r0 (by simp)
      rw [List.getElem?_append_right (by rw [h0, Nat.succ_mul]; omega), h0, show (j + 1) * k + i - k = j * k + i by rw [Nat.succ_mul]; omega]
      exact flat_at k rows (fun r hr => hk r (by simp [hr])) j r h i u hi
theorem row_own {w : World} {B k : Nat} {t : TypeId} {v : Value} {rows : List (List Value)} (h : w.ownsRow B t k v rows.length rows.flatten) (hk : ∀ r ∈ rows, r.length = k) : IsRow w v k rows := by
  rcases h with ⟨_, ⟨rfl, h0⟩ | ⟨g, cap, cur, rfl, hB, hb, hn, hm, hs, ht⟩⟩
  · obtain rfl : rows = [] := List.eq_nil_of_length_eq_zero h0
    exact ⟨none, 0, rfl, by simp, by simp [maxLen], fun h => absurd rfl h⟩
  · refine ⟨_, cap, rfl, hn, hm, fun _ => ⟨g, 0, rfl, ?_, fun j r hr i u hu => ?_⟩⟩
    · rcases Nat.lt_or_ge g w.heap.size with h' | h'
      · exact h'
      · rw [Array.getElem?_eq_none h'] at hb; cases hb
    · have := flat_at k rows hk j r hr i u hu
      rw [← ht, List.getElem?_take] at this
      split at this
      · simp only [World.cell?, hb, Nat.zero_add]
        simpa using this
      · cases this
theorem IsRow.below {w w' : World} {v : Value} {k : Nat} {rows : List (List Value)} (h : IsRow w v k rows) (hb : Below w.heap.size w w') : IsRow w' v k rows := by
  obtain ⟨a, c, rfl, h1, h1m, h2⟩ := h
  refine ⟨a, c, rfl, h1, h1m, fun hne => ?_⟩
  obtain ⟨b, o, rfl, h3, h4⟩ := h2 hne
  exact ⟨b, o, rfl, Nat.lt_of_lt_of_le h3 hb.size, fun j r hr i u hu => (hb.cell h3).trans (h4 j r hr i u hu)⟩

/-- A word, as it lies in memory. -/
abbrev WordT := Int × Nat × List UInt8
def wordRow (x : WordT) : List Value := [.int .i64 x.1, .int .i64 (x.2.1 : Int), .string ⟨x.2.2.toArray⟩]
def wordRows (ws : List WordT) : List (List Value) := ws.map wordRow
def IsWords (w : World) (v : Value) (ws : List WordT) : Prop := IsRow w v 3 (wordRows ws)
theorem wordRows_len (ws : List WordT) : ∀ r ∈ wordRows ws, r.length = 3 := by
  intro r hr
  obtain ⟨x, _, rfl⟩ := List.mem_map.1 hr
  rfl
theorem wordRows_append (a b : List WordT) : wordRows (a ++ b) = wordRows a ++ wordRows b := by simp [wordRows]
theorem wordRows_length (ws : List WordT) : (wordRows ws).length = ws.length := by simp [wordRows]
theorem info_word : (Tryz.prog.info? 46).map (fun i => (i.zero, i.size, i.bytes)) = some (some (.agg #[.int .i64 0, .int .i64 0, .string ByteArray.empty]), 3, 32) := by kernel_rfl
theorem info_of {p : Program} {t : TypeId} {z : Option Value} {s b : Nat} (h : (p.info? t).map (fun i => (i.zero, i.size, i.bytes)) = some (z, s, b)) : ∃ i, p.info? t = some i ∧ i.zero = z ∧ i.size = s ∧ i.bytes = b := by
  cases hi : p.info? t with
  | none => rw [hi] at h; cases h
  | some i => rw [hi] at h; injection h with h; injection h with h1 h; injection h with h2 h3; exact ⟨i, rfl, h1, h2, h3⟩

theorem skip_idem : ∀ (l : List UInt8) (b : Bool), skipN false (l.drop (skipN b l)) = 0
  | [], b => by simp [skip_nil]
  | c :: r, b => by
    have hf : skipN false ((c :: r).drop (skipN false (c :: r))) = 0 := by
      by_cases hb : blankB c = true
      · rw [skip_blank r hb, List.drop_succ_cons]; exact skip_idem r false
      · by_cases h35 : c = 35
        · rw [skip_rem r h35, List.drop_succ_cons]; exact skip_idem r true
        · have hb' : blankB c = false := by simpa using hb
          rw [skip_stop r hb' h35]; simpa using skip_stop r hb' h35
    cases b with
    | false => exact hf
    | true =>
      by_cases h10 : c = 10
      · rw [skip_out r h10]; exact hf
      · rw [skip_in r h10, List.drop_succ_cons]; exact skip_idem r true
theorem skip_le : ∀ (l : List UInt8) (b : Bool), skipN b l ≤ l.length
  | [], b => by simp [skip_nil]
  | c :: r, b => by
    have hf : skipN false (c :: r) ≤ (c :: r).length := by
      by_cases hb : blankB c = true
      · rw [skip_blank r hb]; simpa using skip_le r false
      · by_cases h35 : c = 35
        · rw [skip_rem r h35]; simpa using skip_le r true
        · rw [skip_stop r (by simpa using hb) h35]; simp
    cases b with
    | false => exact hf
    | true =>
      by_cases h10 : c = 10
      · rw [skip_out r h10]; exact hf
      · rw [skip_in r h10]; simpa using skip_le r true

theorem allF_succ (f a : Nat) (l : List UInt8) : allF (f + 1) a l = if l.drop (skipN false l) = [] then .ok [(4, a + skipN false l, [])] else
      match wordS (l.drop (skipN false l)) with
      | none => .error (a + skipN false l)
      | some (k, t, n) => match allF f (a + skipN false l + n) ((l.drop (skipN false l)).drop n) with
        | .error e => .error e
        | .ok ws => .ok ((k, a + skipN false l, t) :: ws) := rfl
theorem allF_skip (f a : Nat) (l : List UInt8) : allF f a l = allF f (a + skipN false l) (l.drop (skipN false l)) ∨ f = 0 := by
  cases f with
  | zero => exact .inr rfl
  | succ f =>
    refine .inl ?_
    rw [allF_succ, allF_succ, skip_idem]
    simp
/-- What is told of the words ahead and of the rest. -/
def joinW (ws : List WordT) (r : Except Nat (List WordT)) : Except Nat (List WordT) :=
  match r with
  | .error e => .error e
  | .ok x => .ok (ws ++ x)
theorem joinW_nil (r : Except Nat (List WordT)) : joinW [] r = r := by cases r <;> rfl
theorem all_end {f k : Nat} {l : List UInt8} (h : l = []) : allF (f + 1) k l = .ok [(4, k, [])] := by
  subst h; rw [allF_succ]; simp [skip_nil]
theorem all_bad {f k : Nat} {l : List UInt8} (hl : l ≠ []) (h0 : skipN false l = 0) (h : wordS l = none) : allF (f + 1) k l = .error k := by
  rw [allF_succ, h0, List.drop_zero, if_neg hl, h]; rfl
theorem all_word {f k n : Nat} {l t : List UInt8} {kd : Int} (hl : l ≠ []) (h0 : skipN false l = 0) (h : wordS l = some (kd, t, n)) :
    allF (f + 1) k l = joinW [(kd, k, t)] (allF f (k + n) (l.drop n)) := by
  rw [allF_succ, h0, List.drop_zero, if_neg hl, h]
  simp only [Nat.add_zero]
  cases allF f (k + n) (l.drop n) <;> rfl
theorem joinW_join (a b : List WordT) (r : Except Nat (List WordT)) : joinW a (joinW b r) = joinW (a ++ b) r := by
  cases r <;> simp [joinW]

/-- What 'All' answers. -/
def AllE (L : List UInt8) (e : Ending) (w' : World) : Prop :=
  match allS L with
  | .ok ws => ∃ v, e = .returned (.tuple #[v, .agg #[.int .i64 0, .int .i64 0]]) ∧ IsWords w' v ws
  | .error p => e = .returned (.tuple #[.slice none 0 0, .agg #[.int .i64 1, .int .i64 (p : Int)]])
theorem allE_bad {L : List UInt8} {e : Ending} {w' : World} {p : Nat} (h : allS L = .error p) (he : e = .returned (.tuple #[.slice none 0 0, .agg #[.int .i64 1, .int .i64 (p : Int)]])) : AllE L e w' := by
  unfold AllE; rw [h]; exact he
theorem allE_good {L : List UInt8} {e : Ending} {w' : World} {ws : List WordT} {v : Value} (h : allS L = .ok ws) (he : e = .returned (.tuple #[v, .agg #[.int .i64 0, .int .i64 0]])) (hw : IsWords w' v ws) : AllE L e w' := by
  unfold AllE; rw [h]; exact ⟨v, he, hw⟩
end Go.Proofs.YtlmnabhhgplhnaaGreatDoor
namespace Go.Proofs.YtlmnabhhgplhnaaGreatDoor
open Go.RowKit Go.Shelf


theorem cells2 {w : World} {b : Nat} {x y : Value} {T : TypeId} (h : w.heap[b]? = some (.cells #[x, y] T)) :
    w.cell? ⟨b, 0, none⟩ = some x ∧ w.cell? ⟨b, 1, none⟩ = some y ∧ w.frozen? ⟨b, 0, none⟩ = false ∧ w.frozen? ⟨b, 1, none⟩ = false := by
  simp [World.cell?, World.frozen?, h]

set_option maxHeartbeats 4000000 in
set_option maxRecDepth 100000 in
theorem lexAll_any (s : ByteArray) (w : World) (hs : s.size ≤ 1048576) :
    Calls Tryz.prog 14 #[.string s] w fun e w' => AllE s.data.toList e w' ∧ Below w.heap.size w w' := by
  obtain ⟨L, hL⟩ : ∃ L, s.data.toList = L := ⟨_, rfl⟩
  have hsz : s.size = L.length := by rw [← hL]; exact Lib.size_eq s
  rw [hL]
  obtain ⟨i0, hi, hz0, hz1, hz2⟩ := info_of info_word
  have CSK : Hid (∀ k : Nat, k ≤ s.size → ∀ w, Calls Tryz.prog 36 #[.string s, .int .i64 k] w fun e w' => e = .returned (.int .i64 (k + skipN false (L.drop k) : Nat)) ∧ w = w') := by
    show ∀ k : Nat, _
    intro k hk w
    have := skipBlanks_any s k w (by unfold maxLen; omega) hk
    rwa [hL] at this
  have CWO : Hid (∀ k : Nat, k < s.size → ∀ w, Calls Tryz.prog 37 #[.string s, .int .i64 k] w fun e w' => WordE L k e ∧ Below w.heap.size w w') := by
    show ∀ k : Nat, _
    intro k hk w
    have := wordAt_any s k w (by omega) hk
    rwa [hL] at this
  have HSZ := Lib.hid hsz
  have c0 := CSK.out 0 (by omega)
  obtain ⟨k0, hk0⟩ : ∃ k0, 0 + skipN false (L.drop 0) = k0 := ⟨_, rfl⟩
  simp only [hk0] at c0
  have C0 := Lib.hid c0
  have hk0' : skipN false L = k0 := by rw [← hk0]; simp
  have hle0 : k0 ≤ s.size := by have := skip_le L false; omega
  have hst : joinW [] (allF (L.length + 1) k0 (L.drop k0)) = allS L := by
    rw [joinW_nil]
    unfold allS
    rcases allF_skip (L.length + 1) 0 L with h | h
    · rw [h, hk0', Nat.zero_add]
    · omega
  have h00 : skipN false (L.drop k0) = 0 := by rw [← hk0']; exact skip_idem L false
  have HST := Lib.hid hst
  have H00 := Lib.hid h00
  clear hL hsz c0 hk0 hk0' hst h00
  go_enter Tryz.func14, Tryz.ntmps14
  go_wp2_with fail
  refine (C0.out _).mono ?_
  rintro e w2 ⟨rfl, rfl⟩
  go_wp2
  go_loopw [4, 5] (fun v i wr => ∃ (k f : Nat) (ws : List WordT), i = .int .i64 k ∧ k ≤ s.size ∧ ws.length ≤ k ∧ s.size - k < f ∧ skipN false (L.drop k) = 0 ∧ joinW ws (allF f k (L.drop k)) = allS L ∧
      wr.ownsRow (w.heap.size + 1) 46 3 v (wordRows ws).length (wordRows ws).flatten ∧ wr.heap[w.heap.size]? = some (.cells #[.int .i64 0, .int .i64 0] 30) ∧ Below w.heap.size w wr ∧ w.heap.size + 1 ≤ wr.heap.size)
    (fun _ i _ => s.size - (intOf i).toNat)
  case atStart => exact ⟨k0, L.length + 1, [], rfl, hle0, by simp, by have := HSZ.out; omega, H00.out, HST.out, ⟨by simp [wordRows], .inl ⟨rfl, rfl⟩⟩, alloc_at w _, (Below.refl _ _).alloc (Nat.le_refl _) _, by simp⟩
  case round =>
    obtain ⟨k, f, ws, rfl, hk, hwl, hf, hz, hj, hown, herr, hnx, hsz1⟩ := hrel
    obtain ⟨f, rfl⟩ : ∃ g, f = g + 1 := ⟨f - 1, by omega⟩
    have HJ := Lib.hid hj
    have HZ := Lib.hid hz
    have HERR := Lib.hid herr
    clear hj hz herr
    by_cases hlt : k < s.size
    · have cW := CWO.out k hlt wr
      have hne : L.drop k ≠ [] := by
        intro e
        have := congrArg List.length e
        rw [List.length_drop, ← HSZ.out] at this
        simp at this; omega
      have HNE := Lib.hid hne
      clear hne
      unfold WordE at cW
      cases hW : wordS (L.drop k) with
      | none =>
        rw [hW] at cW
        simp only at cW
        have hbad := HJ.out
        rw [all_bad HNE.out HZ.out hW] at hbad
        have HBAD := Lib.hid hbad.symm
        clear hbad hW
        go_wp2_with fail
        refine cW.mono ?_
        rintro e w2 ⟨⟨a, b, c, n, rfl⟩, hb2⟩
        have herr2 : w2.heap[w.heap.size]? = some (.cells #[.int .i64 0, .int .i64 0] 30) := by rw [hb2.block _ (by omega)]; exact HERR.out
        have herr3 : (w2.alloc (.cells #[.int .i64 a, .int .i64 b, .string c] 46)).heap[w.heap.size]? = some (.cells #[.int .i64 0, .int .i64 0] 30) := by
          rw [Below.heap_alloc _ _ _ (by have := hb2.size; omega)]; exact herr2
        obtain ⟨e0, e1, f0, f1⟩ := cells2 herr3
        have hs2 := hb2.size
        have HE3 := Lib.hid herr3
        have HB2 := Lib.hid hb2
        clear herr2 herr3 hb2 cW hown
        go_wp2
        refine bodyPost_ret (results_tc rfl _ _ w.heap.size _ _ _ _ rfl (heap_set _ _ (heap_set _ _ HE3.out)) Tryz.underlying30 rfl (by kernel_rfl)) rfl ?_
        have h1 := hnx.trans (HB2.out.mono hnx.size)
        exact ⟨allE_bad HBAD.out rfl, ((h1.alloc h1.size _).setCell (Nat.le_refl _) _).setCell (Nat.le_refl _) _⟩
      | some x =>
        obtain ⟨kd, t, n⟩ := x
        rw [hW] at cW
        simp only at cW
        have hpos := word_pos hW
        rw [List.length_drop, ← HSZ.out] at hpos
        obtain ⟨g, rfl⟩ : ∃ g, f = g + 1 := ⟨f - 1, by omega⟩
        obtain ⟨k', hk'⟩ : ∃ k', k + n + skipN false (L.drop (k + n)) = k' := ⟨_, rfl⟩
        have hk'2 : k' ≤ s.size := by have := skip_le (L.drop (k + n)) false; rw [List.length_drop, ← HSZ.out] at this; omega
        have hj' : joinW (ws ++ [(kd, k, t)]) (allF (g + 1) k' (L.drop k')) = allS L := by
          rw [← HJ.out, all_word HNE.out HZ.out hW, joinW_join, List.drop_drop]
          rcases allF_skip (g + 1) (k + n) (L.drop (k + n)) with h | h
          · rw [h, List.drop_drop, hk']
          · omega
        have hz' : skipN false (L.drop k') = 0 := by rw [← hk', ← List.drop_drop]; exact skip_idem _ false
        have cS := CSK.out (k + n) (by omega)
        simp only [hk'] at cS
        have CS := Lib.hid cS
        have HJ2 := Lib.hid hj'
        have HZ2 := Lib.hid hz'
        have hkk : k + n ≤ k' := by omega
        clear hj' hz' cS hk' hW
        go_wp2_with fail
        refine cW.mono ?_
        rintro e w2 ⟨rfl, hb2⟩
        have hown2 : w2.ownsRow (w.heap.size + 1) 46 3 _ (wordRows ws).length (wordRows ws).flatten := hown.kept (row := none) ⟨hb2.os, hb2.tape, hb2.output, hb2.size, fun g hg _ => hb2.block g hg⟩ (by cases h : Value.ownBlock _ <;> simp)
        have herr2 : w2.heap[w.heap.size]? = some (.cells #[.int .i64 0, .int .i64 0] 30) := by rw [hb2.block _ (by omega)]; exact HERR.out
        have hnx2 := hnx.trans (hb2.mono hnx.size)
        have hs2 := hb2.size
        have HE2 := Lib.hid herr2
        have HO2 := Lib.hid hown2
        clear herr2 hown2 hown hb2 cW
        have hrl := wordRows_length ws
        go_wp2_with (at_builtin; refine wpList_append_own _ rfl _ _ 41 rfl (w.heap.size + 1) 46 i0 (.agg #[.int .i64 0, .int .i64 0, .string ByteArray.empty]) 3 32 Tryz.underlying41 hi hz0 hz1 hz2 rfl (by decide) _ _ _ rfl ((HO2.out.alloc _).alloc _) ⟨w2.heap.size + 1, 0, none⟩ 1 1 (wordRow (kd, k, t)) rfl rfl ?c1 ?c2 ?c3 ?c4 ?c5 ?_)
        case c1 =>
          intro j u hj
          match j, hj with
          | 0, hj => simp [wordRow] at hj; subst hj; simp [Addr.add]
          | 1, hj => simp [wordRow] at hj; subst hj; simp [Addr.add]
          | 2, hj => simp [wordRow] at hj; subst hj; simp [Addr.add]
        case c2 => intro u hu; simp [wordRow] at hu; rcases hu with rfl | rfl | rfl <;> rfl
        case c3 => unfold maxLen; omega
        case c4 => omega
        case c5 => simp; omega
        intro v' w3 hown' hgrow _
        have hlt2 := fun b hb => (HO2.out.lt b hb).1
        have hnx3 : Below w.heap.size w w3 := ((hnx2.alloc hnx2.size _).alloc (by simp; omega) _).grown hgrow (by simp; omega) (fun b hb => by have := hlt2 b hb; omega)
        have herr3 : w3.heap[w.heap.size]? = some (.cells #[.int .i64 0, .int .i64 0] 30) := by
          rw [hgrow.block _ (by simp; omega) (fun e => by have := hlt2 _ e.symm; omega), Below.heap_alloc _ _ _ (by simp; omega), Below.heap_alloc _ _ _ (by omega)]
          exact HE2.out
        have hs3 := hgrow.size
        simp at hs3
        have HO3 : Hid (w3.ownsRow (w.heap.size + 1) 46 3 v' (wordRows (ws ++ [(kd, k, t)])).length (wordRows (ws ++ [(kd, k, t)])).flatten) := by
          show w3.ownsRow _ _ _ _ _ _
          rw [wordRows_append, List.length_append, List.flatten_append]
          simpa [wordRows] using hown'
        have HE3 := Lib.hid herr3
        have HN3 := Lib.hid hnx3
        clear hgrow hown' herr3 hnx3 hlt2
        go_wp2_with fail
        refine (CS.out _).mono ?_
        rintro e w4 ⟨rfl, rfl⟩
        go_wp2
        go_roundw
        case rel => exact ⟨k', g + 1, ws ++ [(kd, k, t)], rfl, hk'2, by simp; omega, by omega, HZ2.out, HJ2.out, HO3.out, HE3.out, HN3.out, by omega⟩
        case measure => simp [intOf]; omega
    · have hke : L.drop k = [] := List.drop_eq_nil_of_le (by have := HSZ.out; omega)
      have hgood := HJ.out
      rw [all_end hke] at hgood
      have HGOOD := Lib.hid hgood.symm
      have hkk : (s.size : Int) = (k : Int) := by omega
      have hkn : s.size = k := by omega
      have HO2 := Lib.hid hown
      have hrl := wordRows_length ws
      clear hke hgood hown
      go_wp2_with (at_builtin; refine wpList_append_own _ rfl _ _ 41 rfl (w.heap.size + 1) 46 i0 (.agg #[.int .i64 0, .int .i64 0, .string ByteArray.empty]) 3 32 Tryz.underlying41 hi hz0 hz1 hz2 rfl (by decide) _ _ _ rfl (HO2.out.alloc _) ⟨wr.heap.size, 0, none⟩ 1 1 (wordRow (4, k, [])) rfl rfl ?c1 ?c2 ?c3 ?c4 ?c5 ?_)
      case c1 =>
        intro j u hj
        match j, hj with
        | 0, hj => simp [wordRow] at hj; subst hj; simp [Addr.add]
        | 1, hj => simp [wordRow] at hj; subst hj; simp [Addr.add]
        | 2, hj => simp [wordRow] at hj; subst hj; simp [Addr.add]
      case c2 => intro u hu; simp [wordRow] at hu; rcases hu with rfl | rfl | rfl <;> rfl
      case c3 => unfold maxLen; omega
      case c4 => omega
      case c5 => simp; omega
      intro v' w3 hown' hgrow _
      have hlt2 := fun b hb => (HO2.out.lt b hb).1
      have hnx3 : Below w.heap.size w w3 := (hnx.alloc hnx.size _).grown hgrow (by simp; omega) (fun b hb => by have := hlt2 b hb; omega)
      have herr3 : w3.heap[w.heap.size]? = some (.cells #[.int .i64 0, .int .i64 0] 30) := by
        rw [hgrow.block _ (by simp; omega) (fun e => by have := hlt2 _ e.symm; omega), Below.heap_alloc _ _ _ (by omega)]
        exact HERR.out
      have HO3 : Hid (w3.ownsRow (w.heap.size + 1) 46 3 v' (wordRows (ws ++ [(4, k, [])])).length (wordRows (ws ++ [(4, k, [])])).flatten) := by
        show w3.ownsRow _ _ _ _ _ _
        rw [wordRows_append, List.length_append, List.flatten_append]
        simpa [wordRows] using hown'
      obtain ⟨e0, e1, f0, f1⟩ := cells2 herr3
      have HE3 := Lib.hid herr3
      have HN3 := Lib.hid hnx3
      clear hgrow hown' herr3 hnx3 hlt2
      go_wp2
      refine bodyPost_ret (results_tc rfl _ _ w.heap.size _ _ _ _ rfl (heap_set _ _ (heap_set _ _ HE3.out)) Tryz.underlying30 rfl (by kernel_rfl)) rfl ?_
      refine ⟨allE_good HGOOD.out rfl ?_, (HN3.out.setCell (Nat.le_refl _) _).setCell (Nat.le_refl _) _⟩
      exact row_own (ownsRow_setCell_below (ownsRow_setCell_below HO3.out (by simp) _) (by simp) _) (wordRows_len _)
end Go.Proofs.YtlmnabhhgplhnaaGreatDoor
