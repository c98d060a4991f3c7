/- The reference's check of rules: Find, twice, At, Maker. The reference's check of rules: MayStep. The reference's check of rules: form. The reference's check of rules: Rule. -/
import Derived.Test.YtlmnabhhgplhnaaGreatDoorMlaw
import Derived.Deep.CutBlock
import Derived.Deep.DeepCutAuto
import Derived.Test.YtlmnabhhgplhnaaGreatDoorMbck
import Derived.Test.YtlmnabhhgplhnaaGreatDoorMmb
import Derived.Test.YtlmnabhhgplhnaaGreatDoorMrs
namespace Go.Proofs.YtlmnabhhgplhnaaGreatDoor
open Go.RowKit Go.Shelf

/-- Where a text is among some; -1: nowhere. -/
def FindR (xs : List ByteArray) (s : ByteArray) (r : Int) : Prop := (r = -1 ∧ ∀ k : Nat, xs[k]? ≠ some s) ∨ ∃ k : Nat, r = (k : Int) ∧ xs[k]? = some s ∧ ∀ j < k, xs[j]? ≠ some s
def FindE (xs : List ByteArray) (s : ByteArray) (e : Ending) : Prop := ∃ r : Int, e = .returned (.int .i64 r) ∧ FindR xs s r ∧ -1 ≤ r ∧ r < (xs.length : Int)
theorem findE_some {xs : List ByteArray} {s : ByteArray} {k : Nat} (h : xs[k]? = some s) (hn : ∀ j < k, xs[j]? ≠ some s) : FindE xs s (.returned (.int .i64 (k : Int))) :=
 ⟨k, rfl, .inr ⟨k, rfl, h, hn⟩, by omega, by have := (List.getElem?_eq_some_iff.1 h).1; omega⟩
theorem findE_none {xs : List ByteArray} {s : ByteArray} {k : Nat} (hk : xs.length ≤ k) (hn : ∀ j < k, xs[j]? ≠ some s) : FindE xs s (.returned (.int .i64 (-1))) :=
 ⟨-1, rfl, .inl ⟨rfl, fun j e => hn j (by have := (List.getElem?_eq_some_iff.1 e).1; omega) e⟩, by omega, by omega⟩
theorem bytes_eq {x s : ByteArray} (h : (x.toList == s.toList) = true) : x = s := by
 rw [ByteArray.toList_eq, ByteArray.toList_eq] at h
 have := eq_of_beq h
 exact ByteArray.ext (Array.toList_inj.1 this)
theorem bytes_ne {x s : ByteArray} (h : (x.toList == s.toList) = false) : x ≠ s := by
 rintro rfl
 simp at h
theorem isStrs_cells {w : World} {v : Value} {xs : List ByteArray} (h : IsStrs w v xs) : ∃ a c, v = .slice a xs.length c ∧ xs.length ≤ c ∧ c ≤ maxLen ∧ ∀ (k : Nat) x, xs[k]? = some x → ∃ b o, a = some ⟨b, o, none⟩ ∧ ∀ w', Below w.heap.size w w' → w'.cell? ⟨b, o + k, none⟩ = some (.string x) := by
 obtain ⟨a, c, rfl, hlc, hcm, hcell⟩ := h
 refine ⟨a, c, rfl, hlc, hcm, fun k x hx => ?_⟩
 obtain ⟨b, o, e, hb, hc⟩ := hcell (by rintro rfl; simp at hx)
 exact ⟨b, o, e, fun w' hw => (hw.cell (p := ⟨b, o + k, none⟩) hb).trans (hc k x hx)⟩

set_option maxHeartbeats 2000000 in
theorem cFind_any (v : Value) (xs : List ByteArray) (s : ByteArray) (w : World) (h : IsStrs w v xs) :
  Calls Tryz.prog 53 #[v, .string s] w fun e w' => FindE xs s e ∧ w = w' := by
 obtain ⟨a1, c1, rfl, _, hm1, hc1⟩ := isStrs_cells h
 have hlm : xs.length ≤ maxLen := by omega
 unfold maxLen at hlm
 have HC1 := Lib.hid hc1
 clear hc1 h
 go_enter Tryz.func53, Tryz.ntmps53
 go_wp2
 go_loopw [5] (fun i wr => ∃ k : Nat, k ≤ xs.length ∧ i = .int .i64 k ∧ (∀ j < k, xs[j]? ≠ some s) ∧ w = wr)
  (fun i _ => xs.length - (intOf i).toNat)
 case atStart => exact ⟨0, Nat.zero_le _, rfl, fun j hj => absurd hj (by omega), rfl⟩
 case round =>
  obtain ⟨k, hk, rfl, hno, rfl⟩ := hrel
  have HNX := Lib.hid (Below.refl w.heap.size w)
  have HNO := Lib.hid hno
  clear hno
  by_cases hlt : k < xs.length
  ·obtain ⟨x, hx⟩ : ∃ x, xs[k]? = some x := ⟨xs[k], List.getElem?_eq_getElem hlt⟩
   obtain ⟨b1, o1, q1, hk1⟩ := HC1.out k x hx
   subst q1
   have HX := Lib.hid hx
   have e1 := hk1 _ HNX.out
   have hi1 : (k : Int) < (xs.length : Int) := by omega
   have hi0 : (0 : Int) ≤ (k : Int) := by omega
   obtain ⟨q, hq⟩ : ∃ q, (x.toList == s.toList) = q := ⟨_, rfl⟩
   have HQ := Lib.hid hq
   clear hk1 hx
   cases q
   ·go_wp2
    all_goals go_roundw
    case rel => exact ⟨k + 1, by omega, by go_num, fun j hj => by
     rcases Nat.lt_or_ge j k with h | h
     ·exact HNO.out j h
     ·obtain rfl : j = k := by omega
      rw [HX.out]
      exact fun e => bytes_ne HQ.out (Option.some.inj e), trivial⟩
    case measure => simp [intOf]; omega
   ·go_wp2
    go_ret
    exact ⟨findE_some (by rw [HX.out, bytes_eq HQ.out]) HNO.out, rfl⟩
  ·have hi1 : ¬ (k : Int) < (xs.length : Int) := by omega
   have HKL := Lib.hid (show xs.length ≤ k by omega)
   go_wp2
   go_ret
   exact ⟨findE_none HKL.out HNO.out, rfl⟩

/-- The place as a number. -/
def findN (s : ByteArray) : List ByteArray → Nat → Int
 | [], _ => -1
 | y :: r, k => if y.toList == s.toList then (k : Int) else findN s r (k + 1)
def findI (xs : List ByteArray) (s : ByteArray) : Int := findN s xs 0
theorem findN_spec (s : ByteArray) : ∀ (xs : List ByteArray) (k : Nat), (findN s xs k = -1 ∧ ∀ j : Nat, xs[j]? ≠ some s) ∨ ∃ j : Nat, findN s xs k = ((k + j : Nat) : Int) ∧ xs[j]? = some s ∧ ∀ i < j, xs[i]? ≠ some s
 | [], k => .inl ⟨rfl, fun j => by simp⟩
 | y :: r, k => by
  unfold findN
  by_cases h : (y.toList == s.toList) = true
  ·rw [if_pos h]
   exact .inr ⟨0, rfl, by rw [bytes_eq h]; rfl, fun i hi => absurd hi (by omega)⟩
  ·rw [if_neg h]
   have hne : y ≠ s := bytes_ne (by simpa using h)
   rcases findN_spec s r (k + 1) with ⟨h1, h2⟩ | ⟨j, h1, h2, h3⟩
   ·refine .inl ⟨h1, fun j => ?_⟩
    cases j with
    | zero => intro e; exact hne (by simpa using e)
    | succ j => simpa using h2 j
   ·refine .inr ⟨j + 1, by rw [h1]; congr 1; omega, by simpa using h2, fun i hi => ?_⟩
    cases i with
    | zero => intro e; exact hne (by simpa using e)
    | succ i => simpa using h3 i (by omega)
theorem findI_spec (xs : List ByteArray) (s : ByteArray) : FindR xs s (findI xs s) := by
 rcases findN_spec s xs 0 with h | ⟨j, h1, h2, h3⟩
 ·exact .inl h
 ·exact .inr ⟨j, by unfold findI; rw [h1]; congr 1; omega, h2, h3⟩
theorem findR_one {xs : List ByteArray} {s : ByteArray} {r t : Int} (h : FindR xs s r) (h' : FindR xs s t) : r = t := by
 rcases h with ⟨rfl, h1⟩ | ⟨k, rfl, h1, h2⟩ <;> rcases h' with ⟨rfl, h3⟩ | ⟨j, rfl, h3, h4⟩
 ·rfl
 ·exact absurd h3 (h1 j)
 ·exact absurd h1 (h3 k)
 ·rcases Nat.lt_trichotomy k j with h | h | h
  ·exact absurd h1 (h4 k h)
  ·rw [h]
  ·exact absurd h3 (h2 j h)
theorem findI_range (xs : List ByteArray) (s : ByteArray) : -1 ≤ findI xs s ∧ findI xs s < (xs.length : Int) := by
 rcases findI_spec xs s with ⟨h, _⟩ | ⟨k, h, h1, _⟩
 ·omega
 ·have := (List.getElem?_eq_some_iff.1 h1).1
  omega
theorem cFind_eq (v : Value) (xs : List ByteArray) (s : ByteArray) (w : World) (h : IsStrs w v xs) :
  Calls Tryz.prog 53 #[v, .string s] w fun e w' => e = .returned (.int .i64 (findI xs s)) ∧ w' = w := by
 refine (cFind_any v xs s w h).mono ?_
 rintro e w' ⟨⟨r, rfl, hr, _⟩, rfl⟩
 exact ⟨by rw [findR_one hr (findI_spec xs s)], rfl⟩

/-- A list of names that is not the one: the place of a rule. -/
theorem rules_cells {w : World} {v : Value} {xs : List RuleS} (h : RulesI w v xs) : ∃ a c, v = .slice a xs.length c ∧ xs.length ≤ c ∧ c ≤ maxLen ∧ ∀ (k : Nat) x, xs[k]? = some x → ∃ b o a1 c1 a2 c2 a3 c3 a4 c4, a = some ⟨b, o, none⟩ ∧ RuleI w [.string x.name, .slice a1 x.ins.length c1, .slice a2 x.outs.length c2, .slice a3 x.after.length c3, .slice a4 x.steps.length c4] x ∧ ∀ w', Below w.heap.size w w' →
   w'.cell? ⟨b, o + k * 5, none⟩ = some (.string x.name) ∧ w'.cell? ⟨b, o + k * 5 + 1, none⟩ = some (.slice a1 x.ins.length c1) ∧ w'.cell? ⟨b, o + k * 5 + 2, none⟩ = some (.slice a2 x.outs.length c2) ∧ w'.cell? ⟨b, o + k * 5 + 3, none⟩ = some (.slice a3 x.after.length c3) ∧ w'.cell? ⟨b, o + k * 5 + 4, none⟩ = some (.slice a4 x.steps.length c4) := by
 obtain ⟨a, c, rfl, h1, h2⟩ := rulesI_len h
 refine ⟨a, c, rfl, h1, h2, fun k x hx => ?_⟩
 obtain ⟨g, o, cap, a1, c1, a2, c2, a3, c3, a4, c4, e, _, hr, hc⟩ := rulesI_at h hx
 injection e with e1 _ _
 exact ⟨g, o, a1, c1, a2, c2, a3, c3, a4, c4, e1, hr, hc⟩

set_option maxHeartbeats 2000000 in
theorem cAt_any (v : Value) (xs : List RuleS) (s : ByteArray) (w : World) (h : RulesI w v xs) :
  Calls Tryz.prog 25 #[v, .string s] w fun e w' => FindE (xs.map (·.name)) s e ∧ w = w' := by
 obtain ⟨a1, c1, rfl, _, hm1, hc1⟩ := rules_cells h
 have hlm : xs.length ≤ maxLen := by omega
 unfold maxLen at hlm
 have HC1 := Lib.hid hc1
 clear hc1 h
 go_enter Tryz.func25, Tryz.ntmps25
 go_wp2
 go_loopw [5] (fun i wr => ∃ k : Nat, k ≤ xs.length ∧ i = .int .i64 k ∧ (∀ j < k, (xs.map (·.name))[j]? ≠ some s) ∧ w = wr)
  (fun i _ => xs.length - (intOf i).toNat)
 case atStart => exact ⟨0, Nat.zero_le _, rfl, fun j hj => absurd hj (by omega), rfl⟩
 case round =>
  obtain ⟨k, hk, rfl, hno, rfl⟩ := hrel
  have HNX := Lib.hid (Below.refl w.heap.size w)
  have HNO := Lib.hid hno
  clear hno
  by_cases hlt : k < xs.length
  ·obtain ⟨x, hx⟩ : ∃ x, xs[k]? = some x := ⟨xs[k], List.getElem?_eq_getElem hlt⟩
   obtain ⟨b1, o1, _, _, _, _, _, _, _, _, q1, _, hk1⟩ := HC1.out k x hx
   subst q1
   have HX : Hid ((xs.map (·.name))[k]? = some x.name) := by show (xs.map (·.name))[k]? = _; rw [List.getElem?_map, hx]; rfl
   obtain ⟨e1, _⟩ := hk1 _ HNX.out
   obtain ⟨n, hn⟩ : ∃ n, x.name = n := ⟨_, rfl⟩
   rw [hn] at e1 HX
   have hi1 : (k : Int) < (xs.length : Int) := by omega
   have hi0 : (0 : Int) ≤ (k : Int) := by omega
   obtain ⟨q, hq⟩ : ∃ q, (n.toList == s.toList) = q := ⟨_, rfl⟩
   have HQ := Lib.hid hq
   clear hk1 hx hn
   cases q
   ·go_wp2
    all_goals go_roundw
    case rel => exact ⟨k + 1, by omega, by go_num, fun j hj => by
     rcases Nat.lt_or_ge j k with h | h
     ·exact HNO.out j h
     ·obtain rfl : j = k := by omega
      rw [HX.out]
      exact fun e => bytes_ne HQ.out (Option.some.inj e), trivial⟩
    case measure => simp [intOf]; omega
   ·go_wp2
    go_ret
    exact ⟨findE_some (by rw [HX.out, bytes_eq HQ.out]) HNO.out, rfl⟩
  ·have hi1 : ¬ (k : Int) < (xs.length : Int) := by omega
   have HKL : Hid ((xs.map (·.name)).length ≤ k) := by show (xs.map (·.name)).length ≤ k; rw [List.length_map]; omega
   go_wp2
   go_ret
   exact ⟨findE_none HKL.out HNO.out, rfl⟩

/-- The place of the rule that makes a file. -/
def MakerR (xs : List RuleS) (s : ByteArray) (r : Int) : Prop := (r = -1 ∧ ∀ x ∈ xs, s ∉ x.outs) ∨ ∃ (k : Nat) (x : RuleS), r = (k : Int) ∧ xs[k]? = some x ∧ s ∈ x.outs
def MakerE (xs : List RuleS) (s : ByteArray) (e : Ending) : Prop := ∃ r : Int, e = .returned (.int .i64 r) ∧ MakerR xs s r ∧ -1 ≤ r ∧ r < (xs.length : Int)
theorem find_in {xs : List ByteArray} {s : ByteArray} {r : Int} (h : FindR xs s r) (h0 : 0 ≤ r) : s ∈ xs := by
 rcases h with ⟨rfl, _⟩ | ⟨k, _, h, _⟩
 ·omega
 ·exact List.mem_of_getElem? h
theorem find_out {xs : List ByteArray} {s : ByteArray} {r : Int} (h : FindR xs s r) (h0 : r < 0) : s ∉ xs := by
 rcases h with ⟨_, h⟩ | ⟨k, h, _⟩
 ·intro hm
  obtain ⟨i, hi⟩ := List.getElem?_of_mem hm
  exact h i hi
 ·omega

set_option maxHeartbeats 2000000 in
theorem cMaker_any (v : Value) (xs : List RuleS) (s : ByteArray) (w : World) (h : RulesI w v xs) :
  Calls Tryz.prog 26 #[v, .string s] w fun e w' => MakerE xs s e ∧ w = w' := by
 obtain ⟨a1, c1, rfl, _, hm1, hc1⟩ := rules_cells h
 have hlm : xs.length ≤ maxLen := by omega
 unfold maxLen at hlm
 have HC1 := Lib.hid hc1
 clear hc1 h
 go_enter Tryz.func26, Tryz.ntmps26
 go_wp2
 go_loopw [5] (fun i wr => ∃ k : Nat, k ≤ xs.length ∧ i = .int .i64 k ∧ (∀ j < k, ∀ x, xs[j]? = some x → s ∉ x.outs) ∧ w = wr)
  (fun i _ => xs.length - (intOf i).toNat)
 case atStart => exact ⟨0, Nat.zero_le _, rfl, fun j hj => absurd hj (by omega), rfl⟩
 case round =>
  obtain ⟨k, hk, rfl, hno, rfl⟩ := hrel
  have HNX := Lib.hid (Below.refl w.heap.size w)
  have HNO := Lib.hid hno
  clear hno
  by_cases hlt : k < xs.length
  ·obtain ⟨x, hx⟩ : ∃ x, xs[k]? = some x := ⟨xs[k], List.getElem?_eq_getElem hlt⟩
   obtain ⟨b1, o1, _, _, a2, c2, _, _, _, _, q1, hr, hk1⟩ := HC1.out k x hx
   subst q1
   have HX := Lib.hid hx
   obtain ⟨_, _, e1, _⟩ := hk1 _ HNX.out
   have hstr : IsStrs w (.slice a2 x.outs.length c2) x.outs := by
    obtain ⟨vi, vo, vf, vs, q, _, h2, _, _⟩ := hr
    simp only [List.cons.injEq, and_true] at q
    obtain ⟨_, rfl, rfl, rfl, rfl⟩ := q
    exact h2
   have cF := cFind_any _ x.outs s w hstr
   have hi1 : (k : Int) < (xs.length : Int) := by omega
   have hi0 : (0 : Int) ≤ (k : Int) := by omega
   have CF := Lib.hid cF
   clear hk1 hx hr hstr cF
   go_wp2_with fail
   refine CF.out.mono ?_
   rintro e w1 ⟨⟨r, rfl, hr, hr0, hr1⟩, rfl⟩
   have HR := Lib.hid hr
   clear hr hr1
   by_cases hneg : 0 ≤ r
   ·go_wp2
    go_ret
    exact ⟨⟨k, rfl, .inr ⟨k, x, rfl, HX.out, find_in HR.out hneg⟩, by omega, by omega⟩, rfl⟩
   ·have HNI := Lib.hid (find_out HR.out (by omega))
    go_wp2
    all_goals go_roundw
    case rel => exact ⟨k + 1, by omega, by go_num, fun j hj y hy => by
     rcases Nat.lt_or_ge j k with h | h
     ·exact HNO.out j h y hy
     ·obtain rfl : j = k := by omega
      rw [HX.out] at hy
      injection hy with hy
      rw [← hy]
      exact HNI.out, trivial⟩
    case measure => simp [intOf]; omega
  ·have hi1 : ¬ (k : Int) < (xs.length : Int) := by omega
   have HKL := Lib.hid (show xs.length ≤ k by omega)
   go_wp2
   go_ret
   exact ⟨⟨-1, rfl, .inl ⟨rfl, fun x hx => by
    obtain ⟨i, hi⟩ := List.getElem?_of_mem hx
    exact HNO.out i (by have := (List.getElem?_eq_some_iff.1 hi).1; have := HKL.out; omega) x hi⟩, by omega, by omega⟩, rfl⟩

set_option maxHeartbeats 4000000 in
set_option maxRecDepth 100000 in
theorem cTwice_any (v : Value) (xs : List ByteArray) (w : World) (h : IsStrs w v xs) :
  Calls Tryz.prog 52 #[v] w fun e w' => (∃ b, e = .returned (.bool b)) ∧ Below w.heap.size w w' := by
 obtain ⟨a1, c1, rfl, hlc, hm1, hc1⟩ := isStrs_cells h
 have hlm : xs.length ≤ maxLen := by omega
 have CF : Hid (∀ (k : Nat) (s : ByteArray) w', Below w.heap.size w w' → k ≤ xs.length → Calls Tryz.prog 53 #[.slice a1 k c1, .string s] w' fun e w'' => e = .returned (.int .i64 (findI (xs.take k) s)) ∧ w'' = w') := by
  show ∀ (k : Nat) (s : ByteArray) w', _
  intro k s w' hb hk
  have := isStrs_take (h.below hb) k
  rw [Nat.min_eq_left hk] at this
  exact cFind_eq _ _ s w' this
 unfold maxLen at hlm
 have HC1 := Lib.hid hc1
 clear hc1 h
 go_enter Tryz.func52, Tryz.ntmps52
 go_wp2
 go_loopw [3] (fun i wr => ∃ k : Nat, k ≤ xs.length ∧ i = .int .i64 k ∧ Below w.heap.size w wr)
  (fun i _ => xs.length - (intOf i).toNat)
 case atStart => exact ⟨0, Nat.zero_le _, rfl, Below.refl _ _⟩
 case round =>
  obtain ⟨k, hk, rfl, hnx⟩ := hrel
  have HNX := Lib.hid hnx
  clear hnx
  by_cases hlt : k < xs.length
  ·obtain ⟨x, hx⟩ : ∃ x, xs[k]? = some x := ⟨xs[k], List.getElem?_eq_getElem hlt⟩
   obtain ⟨b1, o1, q1, hk1⟩ := HC1.out k x hx
   subst q1
   have e1 : ∀ n, (wr.drewN n).cell? ⟨b1, o1 + k, none⟩ = some (.string x) := fun n => hk1 _ (below_drewN HNX.out n)
   have hi1 : (k : Int) < (xs.length : Int) := by omega
   have hi0 : (0 : Int) ≤ (k : Int) := by omega
   have hi2 : (k : Int) ≤ (c1 : Int) := by omega
   obtain ⟨r, hr⟩ : ∃ r, findI (xs.take k) x = r := ⟨_, rfl⟩
   have CF1 : Hid (∀ n, Calls Tryz.prog 53 #[.slice (some ⟨b1, o1, none⟩) k c1, .string x] (wr.drewN n) fun e w'' => e = .returned (.int .i64 r) ∧ w'' = wr.drewN n) := by show ∀ n, _; rw [← hr]; exact fun n => CF.out k x (wr.drewN n) (below_drewN HNX.out n) (by omega)
   have HN : Hid (∀ n, Below w.heap.size w (wr.drewN n)) := by show ∀ n, _; exact fun n => below_drewN HNX.out n
   clear hk1 hx hr
   go_wp2_with fail
   go_quiet ((go_at_call 53; refine Calls.quiet_of_same (CF1.out _)))
   all_goals by_cases hneg : 0 ≤ r
   all_goals go_wp2
   all_goals first | (go_ret; first | exact ⟨⟨true, rfl⟩, HN.out _⟩ | exact ⟨.inr rfl, HN.out _⟩) | skip
   all_goals go_roundw
   case rel => exact ⟨k + 1, by omega, by go_num, HN.out _⟩
   case measure => simp [intOf]; omega
  ·have hi1 : ¬ (k : Int) < (xs.length : Int) := by omega
   go_wp2
   go_ret
   first | exact ⟨⟨false, rfl⟩, HNX.out⟩ | exact ⟨.inl rfl, HNX.out⟩
end Go.Proofs.YtlmnabhhgplhnaaGreatDoor
namespace Go.Proofs.YtlmnabhhgplhnaaGreatDoor
open Go.RowKit Go.Shelf

/-- A step that may be, as far as its numbers go. -/
def MayF (x : StepS) : Prop := ((x.op = 1 ∨ x.op = 2 ∨ x.op = 3 ∨ x.op = 4) ∧ x.args.length = 1 ∧ x.lits = [] ∧ x.n = 0) ∨ (x.op = 5 ∧ x.lits = [] ∧ x.n = 0) ∨ (x.op = 6 ∧ x.args = [] ∧ x.lits.length = 1 ∧ x.n = 0) ∨
  (x.op = 7 ∧ x.args.length = 1 ∧ x.lits.length = 1 ∧ x.n = 0) ∨ (x.op = 8 ∧ x.args.length = 1 ∧ x.lits.length = 2 ∧ x.n = 0) ∨ (x.op = 9 ∧ x.args.length = 1 ∧ x.lits = [] ∧ 0 ≤ x.n ∧ x.n ≤ 2000)
/-- .. and its texts are short. -/
def MayS (x : StepS) : Prop := MayF x ∧ ∀ l ∈ x.lits, l.size ≤ 100
def MayE (x : StepS) (e : Ending) : Prop := ∃ b, e = .returned (.bool b) ∧ (b = true → MayS x)
def ArgR (op na nl : Int) : Prop := ((op = 1 ∨ op = 2 ∨ op = 3 ∨ op = 4 ∨ op = 9) ∧ na = 1 ∧ nl = 0) ∨ (op = 5 ∧ nl = 0) ∨ (op = 6 ∧ na = 0 ∧ nl = 1) ∨ (op = 7 ∧ na = 1 ∧ nl = 1) ∨ (op = 8 ∧ na = 1 ∧ nl = 2)
theorem nil_of_int {α : Type} {l : List α} (h : (l.length : Int) = 0) : l = [] := List.eq_nil_of_length_eq_zero (by omega)
theorem mayF_of {out : ByteArray} {args lits : List ByteArray} {op n na nl : Int} (h : ArgR op na nl) (h1 : (args.length : Int) = na) (h2 : (lits.length : Int) = nl) (h3 : 0 ≤ n) (h4 : n ≤ 2000) (h5 : op = 9 ∨ n = 0) : MayF ⟨out, op, args, lits, n⟩ := by
 unfold MayF
 simp only
 rcases h with ⟨ho, rfl, rfl⟩ | ⟨rfl, rfl⟩ | ⟨rfl, rfl, rfl⟩ | ⟨rfl, rfl, rfl⟩ | ⟨rfl, rfl, rfl⟩
 ·have := nil_of_int h2
  have h1 : args.length = 1 := by omega
  by_cases h9 : op = 9
  ·exact .inr (.inr (.inr (.inr (.inr ⟨h9, h1, this, h3, h4⟩))))
  ·exact .inl ⟨by omega, h1, this, by omega⟩
 ·exact .inr (.inl ⟨rfl, nil_of_int h2, by omega⟩)
 ·exact .inr (.inr (.inl ⟨rfl, nil_of_int h1, by omega, by omega⟩))
 ·exact .inr (.inr (.inr (.inl ⟨rfl, by omega, by omega, by omega⟩)))
 ·exact .inr (.inr (.inr (.inr (.inl ⟨rfl, by omega, by omega, by omega⟩))))

set_option maxHeartbeats 8000000 in
set_option maxRecDepth 100000 in
theorem cMayStep_any (x : StepS) (va vl : Value) (w : World) (h : StepI w [.string x.out, .int .i64 x.op, va, vl, .int .i64 x.n] x) (hs : SmallS x 1048576) :
  Calls Tryz.prog 93 #[.agg #[.string x.out, .int .i64 x.op, va, vl, .int .i64 x.n]] w fun e w' => MayE x e ∧ Below w.heap.size w w' := by
 obtain ⟨va', vl', q, ha, hl⟩ := h
 simp only [List.cons.injEq, and_true, true_and] at q
 obtain ⟨rfl, rfl⟩ := q
 have hna := hs.args.1
 have hnl := hs.lits.1
 have hsl := hs.lits.2
 obtain ⟨out, op, args, lits, n⟩ := x
 simp only at ha hl hna hnl hsl ⊢
 obtain ⟨a1, c1, rfl, _, hm1, _⟩ := isStrs_cells ha
 obtain ⟨a2, c2, rfl, _, hm2, hc2⟩ := isStrs_cells hl
 obtain ⟨o1, ho1⟩ : ∃ o : Obj, o = .cells #[.string out, .int .i64 op, .slice a1 args.length c1, .slice a2 lits.length c2, .int .i64 n] 50 := ⟨_, rfl⟩
 have hb0 : Below w.heap.size w (w.alloc o1) := (Below.refl _ _).alloc (Nat.le_refl _) _
 have hx1 := alloc_at w o1
 have hlt := block_lt' hx1
 obtain ⟨W1, hW1⟩ : ∃ W1, w.alloc o1 = W1 := ⟨_, rfl⟩
 rw [hW1] at hx1 hb0 hlt
 rw [ho1] at hx1 hW1
 have HCE : Hid (∀ w', Below W1.heap.size W1 w' → w'.cell? ⟨w.heap.size, 1, none⟩ = some (.int .i64 op) ∧ w'.cell? ⟨w.heap.size, 2, none⟩ = some (.slice a1 args.length c1) ∧ w'.cell? ⟨w.heap.size, 3, none⟩ = some (.slice a2 lits.length c2) ∧ w'.cell? ⟨w.heap.size, 4, none⟩ = some (.int .i64 n)) := by
  show ∀ w', _
  intro w' hb
  obtain ⟨_, d1, d2, d3, d4, _⟩ := cells5 ((hb.block _ hlt).trans hx1)
  exact ⟨d1, d2, d3, d4⟩
 have HL : Hid (∀ (k : Nat) y, lits[k]? = some y → ∃ b o, a2 = some ⟨b, o, none⟩ ∧ ∀ w', Below W1.heap.size W1 w' → w'.cell? ⟨b, o + k, none⟩ = some (.string y)) := by
  show ∀ (k : Nat) y, _
  intro k y hy
  obtain ⟨b, o, e, hc⟩ := hc2 k y hy
  exact ⟨b, o, e, fun w' hw => hc w' (hb0.trans (hw.mono hb0.size))⟩
 have HUP : Hid (∀ w', Below W1.heap.size W1 w' → Below w.heap.size w w') := by show ∀ w', _; exact fun w' hw => hb0.trans (hw.mono hb0.size)
 have HW1 := Lib.hid hW1
 have HSL := Lib.hid hsl
 clear ha hl hc2 hb0 hx1 hlt hW1 ho1 hsl hs o1
 by_cases hop : 1 ≤ op ∧ op ≤ 9
 ·go_enter Tryz.func93, Tryz.ntmps93
  go_upto_block 0 with fail
  go_cut [3, 4] (fun a b wx => ∃ na nl : Int, a = .int .i64 na ∧ b = .int .i64 nl ∧ ArgR op na nl ∧ W1 = wx)
  case first =>
   have hcs : op = 1 ∨ op = 2 ∨ op = 3 ∨ op = 4 ∨ op = 5 ∨ op = 6 ∨ op = 7 ∨ op = 8 ∨ op = 9 := by omega
   clear hop
   rcases hcs with rfl | rfl | rfl | rfl | rfl | rfl | rfl | rfl | rfl
   all_goals go_wp2_with fail
   all_goals go_meet
   all_goals first
    | exact ⟨1, 0, rfl, rfl, .inl ⟨by omega, rfl, rfl⟩, HW1.out.symm⟩
    | exact ⟨0, 1, rfl, rfl, .inr (.inr (.inl ⟨rfl, rfl, rfl⟩)), HW1.out.symm⟩
    | exact ⟨1, 1, rfl, rfl, .inr (.inr (.inr (.inl ⟨rfl, rfl, rfl⟩))), HW1.out.symm⟩
    | exact ⟨1, 2, rfl, rfl, .inr (.inr (.inr (.inr ⟨rfl, rfl, rfl⟩))), HW1.out.symm⟩
    | exact ⟨_, 0, rfl, rfl, .inr (.inl ⟨rfl, rfl⟩), HW1.out.symm⟩
  case rest =>
   obtain ⟨na, nl, rfl, rfl, har, rfl⟩ := hcut
   obtain ⟨d1, d2, d3, d4⟩ := HCE.out W1 (Below.refl _ _)
   have HAR := Lib.hid har
   have HOP := Lib.hid hop
   unfold maxLen at hm2
   clear har hop
   go_wp2_with fail
   go_loopw [5] (fun iv wr => ∃ k : Nat, k ≤ lits.length ∧ iv = .int .i64 (k : Int) ∧ (∀ l ∈ lits.take k, l.size ≤ 100) ∧ W1 = wr) (fun iv _ => lits.length - (intOf iv).toNat)
   case atStart => exact ⟨0, Nat.zero_le _, rfl, fun l hl => by simp at hl, rfl⟩
   case round =>
    obtain ⟨k, hk, rfl, hsm, rfl⟩ := hrel
    have HSM := Lib.hid hsm
    clear hsm
    have HBW := Lib.hid (HUP.out _ (Below.refl _ _))
    by_cases hlt : k < lits.length
    ·obtain ⟨y, hy⟩ : ∃ y, lits[k]? = some y := ⟨lits[k], List.getElem?_eq_getElem hlt⟩
     obtain ⟨b, o, hab, hc⟩ := HL.out k y hy
     have hcy := hc _ (Below.refl _ _)
     subst hab
     have hi1 : (k : Int) < (lits.length : Int) := by omega
     have hi0 : (0 : Int) ≤ (k : Int) := by omega
     have hys := HSL.out y (List.mem_of_getElem? hy)
     obtain ⟨z, hz⟩ : ∃ z, y.size = z := ⟨_, rfl⟩
     have HZ := Lib.hid hz
     have HY := Lib.hid hy
     rw [hz] at hys
     clear hc hy
     by_cases h100 : 100 < z
     ·have hj : (100 : Int) < (z : Int) := by omega
      go_wp2
      go_ret
      exact ⟨⟨false, rfl, fun e => by cases e⟩, HUP.out _ (Below.refl _ _)⟩
     ·have hj : ¬ (100 : Int) < (z : Int) := by omega
      have HSN : Hid (∀ l ∈ lits.take (k + 1), l.size ≤ 100) := by
       show ∀ l ∈ lits.take (k + 1), _
       intro l hl
       rw [List.take_add_one, HY.out] at hl
       rcases List.mem_append.1 hl with hl | hl
       ·exact HSM.out l hl
       ·have : l = y := by simpa using hl
        rw [this, HZ.out]
        omega
      go_wp2
      go_roundw
      case rel => exact ⟨k + 1, by omega, by go_num, HSN.out, trivial⟩
      case measure => simp [intOf]; omega
    ·have hi1 : ¬ (k : Int) < (lits.length : Int) := by omega
     have HLA : Hid (∀ l ∈ lits, l.size ≤ 100) := by show ∀ l ∈ lits, _; have := HSM.out; rw [List.take_of_length_le (by omega)] at this; exact this
     by_cases g1 : (args.length : Int) = na
     ·by_cases g2 : (lits.length : Int) = nl
      ·by_cases h8 : op = 8
       ·subst h8
        have hl2 : lits.length = 2 := by
         rcases HAR.out with ⟨h, _⟩ | ⟨h, _⟩ | ⟨h, _⟩ | ⟨h, _⟩ | ⟨_, _, h⟩
         all_goals first | (exfalso; omega) | omega
        obtain ⟨y, hy⟩ : ∃ y, lits[0]? = some y := ⟨lits[0], List.getElem?_eq_getElem (by omega)⟩
        obtain ⟨b, o, hab, hc⟩ := HL.out 0 y hy
        have hcy := hc _ (Below.refl _ _)
        rw [Nat.add_zero] at hcy
        subst hab
        have hp0 : (0 : Int) < (lits.length : Int) := by omega
        obtain ⟨q, hq⟩ : ∃ q, (y.toList == ([] : List UInt8)) = q := ⟨_, rfl⟩
        clear hc hy hl2
        cases q
        ·by_cases g3 : 0 ≤ n
         ·by_cases g4 : n ≤ 2000
          ·by_cases g5 : n = 0
           ·have HM : Hid (MayS ⟨out, 8, args, lits, n⟩) := Lib.hid ⟨mayF_of HAR.out g1 g2 g3 g4 (.inr g5), HLA.out⟩
            go_wp2
            go_ret
            first | exact ⟨⟨true, rfl, fun _ => HM.out⟩, HBW.out⟩ | exact ⟨⟨true, rfl, fun _ => by have h := HM.out; rw [g5] at h; exact h⟩, HBW.out⟩
           ·go_wp2
            go_ret
            first | exact ⟨⟨false, rfl, fun e => by cases e⟩, HBW.out⟩ | exact ⟨⟨_, rfl, fun e => by simp_all⟩, HBW.out⟩
          ·go_wp2
           go_ret
           first | exact ⟨⟨false, rfl, fun e => by cases e⟩, HBW.out⟩ | exact ⟨⟨_, rfl, fun e => by simp_all⟩, HBW.out⟩
         ·go_wp2
          go_ret
          first | exact ⟨⟨false, rfl, fun e => by cases e⟩, HBW.out⟩ | exact ⟨⟨_, rfl, fun e => by simp_all⟩, HBW.out⟩
        ·go_wp2
         go_ret
         first | exact ⟨⟨false, rfl, fun e => by cases e⟩, HBW.out⟩ | exact ⟨⟨_, rfl, fun e => by simp_all⟩, HBW.out⟩
       ·by_cases h9 : op = 9
        ·subst h9
         by_cases g3 : 0 ≤ n
         ·by_cases g4 : n ≤ 2000
          ·have HM : Hid (MayS ⟨out, 9, args, lits, n⟩) := Lib.hid ⟨mayF_of HAR.out g1 g2 g3 g4 (.inl rfl), HLA.out⟩
           go_wp2
           go_ret
           first | exact ⟨⟨true, rfl, fun _ => HM.out⟩, HBW.out⟩ | exact ⟨⟨true, rfl, fun _ => by have h := HM.out; rw [g5] at h; exact h⟩, HBW.out⟩
          ·go_wp2
           go_ret
           first | exact ⟨⟨false, rfl, fun e => by cases e⟩, HBW.out⟩ | exact ⟨⟨_, rfl, fun e => by simp_all⟩, HBW.out⟩
         ·go_wp2
          go_ret
          first | exact ⟨⟨false, rfl, fun e => by cases e⟩, HBW.out⟩ | exact ⟨⟨_, rfl, fun e => by simp_all⟩, HBW.out⟩
        ·by_cases g3 : 0 ≤ n
         ·by_cases g4 : n ≤ 2000
          ·by_cases g5 : n = 0
           ·have HM : Hid (MayS ⟨out, op, args, lits, n⟩) := Lib.hid ⟨mayF_of HAR.out g1 g2 g3 g4 (.inr g5), HLA.out⟩
            go_wp2
            go_ret
            first | exact ⟨⟨true, rfl, fun _ => HM.out⟩, HBW.out⟩ | exact ⟨⟨true, rfl, fun _ => by have h := HM.out; rw [g5] at h; exact h⟩, HBW.out⟩
           ·go_wp2
            go_ret
            first | exact ⟨⟨false, rfl, fun e => by cases e⟩, HBW.out⟩ | exact ⟨⟨_, rfl, fun e => by simp_all⟩, HBW.out⟩
          ·go_wp2
           go_ret
           first | exact ⟨⟨false, rfl, fun e => by cases e⟩, HBW.out⟩ | exact ⟨⟨_, rfl, fun e => by simp_all⟩, HBW.out⟩
         ·go_wp2
          go_ret
          first | exact ⟨⟨false, rfl, fun e => by cases e⟩, HBW.out⟩ | exact ⟨⟨_, rfl, fun e => by simp_all⟩, HBW.out⟩
      ·go_wp2
       go_ret
       first | exact ⟨⟨false, rfl, fun e => by cases e⟩, HBW.out⟩ | exact ⟨⟨_, rfl, fun e => by simp_all⟩, HBW.out⟩
     ·go_wp2
      go_ret
      first | exact ⟨⟨false, rfl, fun e => by cases e⟩, HBW.out⟩ | exact ⟨⟨_, rfl, fun e => by simp_all⟩, HBW.out⟩
 ·have hno : ¬ op = 1 ∧ ¬ op = 2 ∧ ¬ op = 3 ∧ ¬ op = 4 ∧ ¬ op = 5 ∧ ¬ op = 6 ∧ ¬ op = 7 ∧ ¬ op = 8 ∧ ¬ op = 9 := by omega
  obtain ⟨n1, n2, n3, n4, n5, n6, n7, n8, n9⟩ := hno
  have HB0 : Hid (Below w.heap.size w W1) := by show Below _ _ _; exact HUP.out _ (Below.refl _ _)
  clear hop
  go_enter Tryz.func93, Tryz.ntmps93
  go_wp2
  go_ret
  exact ⟨⟨false, rfl, fun e => by cases e⟩, by rw [HW1.out]; exact HB0.out⟩
end Go.Proofs.YtlmnabhhgplhnaaGreatDoor
namespace Go.Proofs.YtlmnabhhgplhnaaGreatDoor
open Go.RowKit Go.Shelf

theorem own_one {w : World} {g B : Nat} {x : ByteArray} (h : w.heap[g]? = some (.cells #[.string x] 9)) (hB : B ≤ g) : OwnStrs B w (.slice (some ⟨g, 0, none⟩) 1 1) [x] :=
 ⟨rfl, .inr ⟨g, 1, #[.string x], rfl, hB, h, Nat.le_refl _, by decide, rfl, rfl⟩⟩
theorem isStrs_row {w : World} {v : Value} {xs : List ByteArray} (h : IsStrs w v xs) : IsRow w v 1 (strRows xs) := by
 obtain ⟨a, c, rfl, h1, h2, h3⟩ := h
 refine ⟨a, c, by rw [strRows_length], by rw [strRows_length]; exact h1, h2, fun hne => ?_⟩
 obtain ⟨b, o, e, hb, hc⟩ := h3 (by rintro rfl; exact hne rfl)
 refine ⟨b, o, e, hb, fun j r hr i u hu => ?_⟩
 unfold strRows at hr
 rw [List.getElem?_map] at hr
 obtain ⟨y, hy, rfl⟩ := Option.map_eq_some_iff.1 hr
 match i, hu with
 | 0, hu =>
  simp at hu
  subst hu
  have := hc j y hy
  simpa using this
theorem steps_cells {w : World} {v : Value} {xs : List StepS} (h : StepsI w v xs) : ∃ a c, v = .slice a xs.length c ∧ xs.length ≤ c ∧ c ≤ maxLen ∧ ∀ (k : Nat) y, xs[k]? = some y → ∃ b o a1 c1 a2 c2, a = some ⟨b, o, none⟩ ∧ StepI w [.string y.out, .int .i64 y.op, .slice a1 y.args.length c1, .slice a2 y.lits.length c2, .int .i64 y.n] y ∧ IsStrs w (.slice a1 y.args.length c1) y.args ∧ ∀ w', Below w.heap.size w w' →
   w'.cell? ⟨b, o + k * 5, none⟩ = some (.string y.out) ∧ w'.cell? ⟨b, o + k * 5 + 1, none⟩ = some (.int .i64 y.op) ∧ w'.cell? ⟨b, o + k * 5 + 2, none⟩ = some (.slice a1 y.args.length c1) ∧ w'.cell? ⟨b, o + k * 5 + 3, none⟩ = some (.slice a2 y.lits.length c2) ∧ w'.cell? ⟨b, o + k * 5 + 4, none⟩ = some (.int .i64 y.n) := by
 obtain ⟨rows, ⟨a, c, rfl, h1, h2, h3⟩, hall⟩ := h
 refine ⟨a, c, by rw [hall.1], by rw [← hall.1]; exact h1, h2, fun k y hy => ?_⟩
 have hk : k < rows.length := by rw [hall.1]; exact (List.getElem?_eq_some_iff.1 hy).1
 have hR := hall.2 k _ y (List.getElem?_eq_getElem hk) hy
 obtain ⟨b, o, rfl, hb, hc⟩ := h3 (by rintro rfl; simp at hk)
 obtain ⟨va, vl, e, ha, hl⟩ := id hR
 obtain ⟨a1, c1, q1⟩ := isStrs_shape ha
 obtain ⟨a2, c2, q2⟩ := isStrs_shape hl
 subst q1 q2
 rw [e] at hR
 refine ⟨b, o, a1, c1, a2, c2, rfl, hR, ha, fun w' hw => ?_⟩
 have key : ∀ (i : Nat) u, rows[k][i]? = some u → w'.cell? ⟨b, o + k * 5 + i, none⟩ = some u := fun i u hu => (hw.cell (p := ⟨b, o + k * 5 + i, none⟩) hb).trans (hc k _ (List.getElem?_eq_getElem hk) i u hu)
 rw [e] at key
 exact ⟨key 0 _ rfl, key 1 _ rfl, key 2 _ rfl, key 3 _ rfl, key 4 _ rfl⟩

/-- All names of a rule: its own, its lists', its first steps'. -/
def nmsS (ys : List StepS) : List ByteArray := (ys.map fun y => y.out :: y.args).flatten
def nmsR (x : RuleS) (k : Nat) : List ByteArray := [x.name] ++ x.ins ++ x.outs ++ x.after ++ nmsS (x.steps.take k)
theorem nmsS_len : ∀ ys : List StepS, (∀ y ∈ ys, y.args.length ≤ 8) → (nmsS ys).length ≤ 9 * ys.length
 | [], _ => by simp [nmsS]
 | y :: ys, h => by
  have h1 := nmsS_len ys fun z hz => h z (by simp [hz])
  have h2 := h y (by simp)
  simp only [nmsS, List.map_cons, List.flatten_cons, List.length_append, List.length_cons] at h1 ⊢
  omega
theorem nmsR_zero (x : RuleS) : nmsR x 0 = [x.name] ++ x.ins ++ x.outs ++ x.after := by simp [nmsR, nmsS]
theorem nmsR_next {x : RuleS} {k : Nat} {y : StepS} (h : x.steps[k]? = some y) : nmsR x (k + 1) = nmsR x k ++ [y.out] ++ y.args := by
 unfold nmsR nmsS
 rw [List.take_add_one, h]
 simp
theorem nmsR_len {x : RuleS} (h : ShortR x) (k : Nat) : (nmsR x k).length ≤ 200 := by
 have h1 := nmsS_len (x.steps.take k) fun y hy => (h.each y (List.mem_of_mem_take hy)).1
 have h2 := h.ins
 have h3 := h.outs
 have h4 := h.after
 have h5 := h.steps
 rw [List.length_take] at h1
 unfold nmsR
 simp only [List.length_append, List.length_cons, List.length_nil]
 omega
theorem nmsR_small {x : RuleS} (h : SmallR x 1048576) (k : Nat) : ∀ y ∈ nmsR x k, y.size ≤ 1048576 := by
 intro y hy
 unfold nmsR nmsS at hy
 simp only [List.mem_append, List.mem_cons, List.not_mem_nil, or_false, List.mem_flatten, List.mem_map] at hy
 rcases hy with (((rfl | hy) | hy) | hy) | ⟨l, ⟨z, hz, rfl⟩, hy⟩
 ·exact h.name
 ·exact h.ins.2 y hy
 ·exact h.outs.2 y hy
 ·exact h.after.2 y hy
 ·have hz := h.steps z (List.mem_of_mem_take hz)
  rcases List.mem_cons.1 hy with rfl | hy
  ·exact hz.out
  ·exact hz.args.2 y hy
def FormE (x : RuleS) (e : Ending) : Prop := ∃ b, e = .returned (.bool b) ∧ (b = true → OkRu x)
theorem okRu_of {x : RuleS} (h1 : ∀ y ∈ nmsR x x.steps.length, okName y.data.toList = true) (h2 : ∀ (j : Nat) y, x.steps[j]? = some y → MayS y) (h3 : (0 : Int) < (x.outs.length : Int)) : OkRu x := by
 unfold nmsR nmsS at h1
 simp only [List.mem_append, List.mem_cons, List.not_mem_nil, or_false, List.mem_flatten, List.mem_map, List.take_length] at h1
 refine ⟨h1 _ (.inl (.inl (.inl (.inl rfl)))), fun a ha => h1 a (.inl (.inl (.inl (.inr ha)))), fun a ha => h1 a (.inl (.inl (.inr ha))), fun a ha => h1 a (.inl (.inr ha)), fun e => by rw [e] at h3; simp at h3, fun y hy => ?_⟩
 obtain ⟨j, hj⟩ := List.getElem?_of_mem hy
 exact ⟨h1 _ (.inr ⟨_, ⟨y, hy, rfl⟩, by simp⟩), fun a ha => h1 a (.inr ⟨_, ⟨y, hy, rfl⟩, by simp [ha]⟩), (h2 j y hj).1, (h2 j y hj).2⟩

set_option maxHeartbeats 8000000 in
set_option maxRecDepth 100000 in
theorem cForm_any (x : RuleS) (vi vo vf vs : Value) (w : World) (h : RuleI w [.string x.name, vi, vo, vf, vs] x) (hs : SmallR x 1048576) (hsh : ShortR x) :
  Calls Tryz.prog 51 #[.agg #[.string x.name, vi, vo, vf, vs]] w fun e w' => FormE x e ∧ Below w.heap.size w w' := by
 obtain ⟨_, _, _, _, q, h1, h2, h3, h4⟩ := h
 simp only [List.cons.injEq, and_true, true_and] at q
 obtain ⟨rfl, rfl, rfl, rfl⟩ := q
 obtain ⟨a1, c1, rfl, _, _, _⟩ := isStrs_cells h1
 obtain ⟨a2, c2, rfl, _, hm2, _⟩ := isStrs_cells h2
 obtain ⟨a3, c3, rfl, _, _, _⟩ := isStrs_cells h3
 obtain ⟨a4, c4, rfl, hl4, hm4, hst⟩ := steps_cells h4
 obtain ⟨o1, ho1⟩ : ∃ o : Obj, o = .cells #[.string x.name, .slice a1 x.ins.length c1, .slice a2 x.outs.length c2, .slice a3 x.after.length c3, .slice a4 x.steps.length c4] 38 := ⟨_, rfl⟩
 have hb0 : Below w.heap.size w (w.alloc o1) := (Below.refl _ _).alloc (Nat.le_refl _) _
 have hx1 := alloc_at w o1
 have hlt := block_lt' hx1
 obtain ⟨W1, hW1⟩ : ∃ W1, w.alloc o1 = W1 := ⟨_, rfl⟩
 rw [hW1] at hx1 hb0 hlt
 rw [ho1] at hx1 hW1
 have HCE : Hid (∀ w', Below W1.heap.size W1 w' → w'.cell? ⟨w.heap.size, 0, none⟩ = some (.string x.name) ∧ w'.cell? ⟨w.heap.size, 1, none⟩ = some (.slice a1 x.ins.length c1) ∧ w'.cell? ⟨w.heap.size, 2, none⟩ = some (.slice a2 x.outs.length c2) ∧ w'.cell? ⟨w.heap.size, 3, none⟩ = some (.slice a3 x.after.length c3) ∧ w'.cell? ⟨w.heap.size, 4, none⟩ = some (.slice a4 x.steps.length c4)) := by
  show ∀ w', _
  intro w' hb
  obtain ⟨d0, d1, d2, d3, d4, _⟩ := cells5 ((hb.block _ hlt).trans hx1)
  exact ⟨d0, d1, d2, d3, d4⟩
 have up : ∀ w', Below W1.heap.size W1 w' → Below w.heap.size w w' := fun w' hw => hb0.trans (hw.mono hb0.size)
 have H1 : Hid (∀ w', Below W1.heap.size W1 w' → IsRow w' (.slice a1 x.ins.length c1) 1 (strRows x.ins)) := by show ∀ w', _; exact fun w' hw => isStrs_row (h1.below (up w' hw))
 have H2 : Hid (∀ w', Below W1.heap.size W1 w' → IsRow w' (.slice a2 x.outs.length c2) 1 (strRows x.outs)) := by show ∀ w', _; exact fun w' hw => isStrs_row (h2.below (up w' hw))
 have H3 : Hid (∀ w', Below W1.heap.size W1 w' → IsRow w' (.slice a3 x.after.length c3) 1 (strRows x.after)) := by show ∀ w', _; exact fun w' hw => isStrs_row (h3.below (up w' hw))
 have HST : Hid (∀ (k : Nat) y, x.steps[k]? = some y → ∃ b o b1 e1 b2 e2, a4 = some ⟨b, o, none⟩ ∧ (∀ w', Below W1.heap.size W1 w' → Calls Tryz.prog 93 #[.agg #[.string y.out, .int .i64 y.op, .slice b1 y.args.length e1, .slice b2 y.lits.length e2, .int .i64 y.n]] w' fun e w'' => MayE y e ∧ Below w'.heap.size w' w'') ∧ (∀ w', Below W1.heap.size W1 w' → IsRow w' (.slice b1 y.args.length e1) 1 (strRows y.args)) ∧ ∀ w', Below W1.heap.size W1 w' →
   w'.cell? ⟨b, o + k * 5, none⟩ = some (.string y.out) ∧ w'.cell? ⟨b, o + k * 5 + 1, none⟩ = some (.int .i64 y.op) ∧ w'.cell? ⟨b, o + k * 5 + 2, none⟩ = some (.slice b1 y.args.length e1) ∧ w'.cell? ⟨b, o + k * 5 + 3, none⟩ = some (.slice b2 y.lits.length e2) ∧ w'.cell? ⟨b, o + k * 5 + 4, none⟩ = some (.int .i64 y.n)) := by
  show ∀ (k : Nat) y, _
  intro k y hy
  obtain ⟨b, o, b1, e1, b2, e2, ha, hI, hA, hc⟩ := hst k y hy
  exact ⟨b, o, b1, e1, b2, e2, ha, fun w' hw => cMayStep_any y _ _ w' (by obtain ⟨va, vl, q, ha, hl⟩ := hI; exact ⟨va, vl, q, ha.below (up w' hw), hl.below (up w' hw)⟩) (hs.steps y (List.mem_of_getElem? hy)), fun w' hw => isStrs_row (hA.below (up w' hw)), fun w' hw => hc w' (up w' hw)⟩
 have HUP : Hid (∀ w', Below W1.heap.size W1 w' → Below w.heap.size w w') := by show ∀ w', _; exact up
 have HW1 := Lib.hid hW1
 have HS := Lib.hid hs
 have HSH := Lib.hid hsh
 have HN0 := Lib.hid (nmsR_zero x)
 have HO0 : Hid (OwnStrs W1.heap.size (W1.alloc (.cells #[.string x.name] 9)).drew (.slice (some ⟨W1.heap.size, 0, none⟩) 1 1) [x.name]) := Lib.hid (own_one (alloc_at W1 _) (Nat.le_refl _))
 have HS0 : Hid (Below W1.heap.size W1 W1.drew) := by show Below _ _ _; exact (Below.refl _ _).drew
 have HU : Hid (∀ w' o, Below W1.heap.size W1 w' → Below W1.heap.size W1 (w'.alloc o)) := by show ∀ w' o, _; exact fun w' o h => h.alloc h.size o
 have HUD : Hid (∀ w' o, Below W1.heap.size W1 w' → Below W1.heap.size W1 (w'.alloc o).drew) := by show ∀ w' o, _; exact fun w' o h => (h.alloc h.size o).drew
 have HMAY : Hid (∀ (k : Nat) y w', y ∈ nmsR x k → Calls Tryz.prog 94 #[.string y] w' fun e w'' => e = .returned (.bool (okName y.data.toList)) ∧ Below w'.heap.size w' w'') := by
  show ∀ (k : Nat) y w', _
  exact fun k y w' hy => mayR_any y w' (by have := nmsR_small hs k y hy; unfold maxLen; omega)
 have hlen : x.ins.length ≤ 10 ∧ x.outs.length ≤ 6 ∧ x.after.length ≤ 10 ∧ x.steps.length ≤ 14 := ⟨hsh.ins, hsh.outs, hsh.after, hsh.steps⟩
 obtain ⟨n1, n2, n3, n4⟩ := hlen
 unfold maxLen at hm4 hm2
 clear h1 h2 h3 h4 hst hb0 hx1 hlt hW1 ho1 o1 up hs hsh
 go_enter Tryz.func51, Tryz.ntmps51
 go_wp2_with fail
 rw [HW1.out]
 refine wp_region_held_drew (S := fun w' => Below W1.heap.size W1 w') (by kernel_rfl) ?_ (fun hHeld => ?_)
 ·exact HS0.out
 refine wpAnyH_take (i := 0) (oi := _) (v := ?_) (by simp only [List.getElem?_toArray, List.getElem?_cons_zero]; rfl) (by kernel_rfl) (by kernel_rfl) (by kernel_rfl) (by exact fun _ _ _ h => h) (Or.inl ⟨by rfl, ?_⟩) (by assumption) ?_
 rotate_left
 ·intro w hSw; obtain ⟨y0, y1, y2, y3, y4⟩ := HCE.out _ hSw; go_simp; try with_reducible rfl
 try simp only [Act.put, List.setIfInBounds_toArray, List.set_cons_zero, List.set_cons_succ]
 refine wpAnyH_take (i := 1) (oi := _) (v := ?_) (by simp only [List.getElem?_toArray, List.getElem?_cons_succ, List.getElem?_cons_zero]; rfl) (by kernel_rfl) (by kernel_rfl) (by kernel_rfl) (by exact fun _ _ _ h => h) (Or.inl ⟨by rfl, ?_⟩) (by assumption) ?_
 rotate_left
 ·intro w hSw; obtain ⟨y0, y1, y2, y3, y4⟩ := HCE.out _ hSw; go_simp; try with_reducible rfl
 try simp only [Act.put, List.setIfInBounds_toArray, List.set_cons_zero, List.set_cons_succ]
 refine wpAnyH_take (i := 3) (oi := _) (v := ?_) (by simp only [List.getElem?_toArray, List.getElem?_cons_succ, List.getElem?_cons_zero]; rfl) (by kernel_rfl) (by kernel_rfl) (by kernel_rfl) (by exact fun _ _ _ h => h) (Or.inl ⟨by rfl, ?_⟩) (by assumption) ?_
 rotate_left
 ·intro w hSw; obtain ⟨y0, y1, y2, y3, y4⟩ := HCE.out _ hSw; go_simp; try with_reducible rfl
 try simp only [Act.put, List.setIfInBounds_toArray, List.set_cons_zero, List.set_cons_succ]
 refine wpAnyH_take (i := 4) (oi := _) (v := ?_) (by simp only [List.getElem?_toArray, List.getElem?_cons_succ, List.getElem?_cons_zero]; rfl) (by kernel_rfl) (by kernel_rfl) (by kernel_rfl) (by exact fun _ _ _ h => h) (Or.inl ⟨by rfl, ?_⟩) (by assumption) ?_
 rotate_left
 ·intro w hSw; obtain ⟨y0, y1, y2, y3, y4⟩ := HCE.out _ hSw; go_simp; try with_reducible rfl
 try simp only [Act.put, List.setIfInBounds_toArray, List.set_cons_zero, List.set_cons_succ]
 refine wpAnyH_take (i := 6) (oi := _) (v := ?_) (by simp only [List.getElem?_toArray, List.getElem?_cons_succ, List.getElem?_cons_zero]; rfl) (by kernel_rfl) (by kernel_rfl) (by kernel_rfl) (by exact fun _ _ _ h => h) (Or.inl ⟨by rfl, ?_⟩) (by assumption) ?_
 rotate_left
 ·intro w hSw; obtain ⟨y0, y1, y2, y3, y4⟩ := HCE.out _ hSw; go_simp; try with_reducible rfl
 try simp only [Act.put, List.setIfInBounds_toArray, List.set_cons_zero, List.set_cons_succ]
 refine wpAnyH_take (i := 7) (oi := _) (v := ?_) (by simp only [List.getElem?_toArray, List.getElem?_cons_succ, List.getElem?_cons_zero]; rfl) (by kernel_rfl) (by kernel_rfl) (by kernel_rfl) (by exact fun _ _ _ h => h) (Or.inl ⟨by rfl, ?_⟩) (by assumption) ?_
 rotate_left
 ·intro w hSw; obtain ⟨y0, y1, y2, y3, y4⟩ := HCE.out _ hSw; go_simp; try with_reducible rfl
 try simp only [Act.put, List.setIfInBounds_toArray, List.set_cons_zero, List.set_cons_succ]
 refine wpAnyH_take (i := 9) (oi := _) (v := ?_) (by simp only [List.getElem?_toArray, List.getElem?_cons_succ, List.getElem?_cons_zero]; rfl) (by kernel_rfl) (by kernel_rfl) (by kernel_rfl) (by exact fun _ _ _ h => h) (Or.inl ⟨by rfl, ?_⟩) (by assumption) ?_
 rotate_left
 ·intro w hSw; obtain ⟨y0, y1, y2, y3, y4⟩ := HCE.out _ hSw; go_simp; try with_reducible rfl
 try simp only [Act.put, List.setIfInBounds_toArray, List.set_cons_zero, List.set_cons_succ]
 refine wpAnyH_take (i := 10) (oi := _) (v := ?_) (by simp only [List.getElem?_toArray, List.getElem?_cons_succ, List.getElem?_cons_zero]; rfl) (by kernel_rfl) (by kernel_rfl) (by kernel_rfl) (by exact fun _ _ _ h => h) (Or.inl ⟨by rfl, ?_⟩) (by assumption) ?_
 rotate_left
 ·intro w hSw; obtain ⟨y0, y1, y2, y3, y4⟩ := HCE.out _ hSw; go_simp; try with_reducible rfl
 try simp only [Act.put, List.setIfInBounds_toArray, List.set_cons_zero, List.set_cons_succ]
 refine wpAnyH_ready (rs := [2]) (by kernel_rfl) (by simp) ?_
 refine AllReadyH.cons (o := _) (by simp only [List.getElem?_toArray, List.getElem?_cons_succ, List.getElem?_cons_zero]; rfl) (fun K hK => ?_) ?_
 ·go_simp
  refine hK.out _ _ ?_ (fun hHeld => ?_)
  ·try dsimp only
   exact HUD.out _ _ (Below.refl _ _)
  clear hK K
  try simp only [Act.put, List.setIfInBounds_toArray, List.set_cons_zero, List.set_cons_succ]
  refine wpAnyH_ready (rs := [5]) (by kernel_rfl) (by simp) ?_
  refine AllReadyH.cons (o := _) (by simp only [List.getElem?_toArray, List.getElem?_cons_succ, List.getElem?_cons_zero]; rfl) (fun K hK => ?_) ?_
  ·refine step_append_S (by rfl) _ _ (by rfl) W1.heap.size _ _ ([x.name]) (x.ins) (by rfl) (by rfl) (HO0.out) (H1.out _ (by assumption)) (by have := n1; have := n2; have := n3; simp only [List.length_cons, List.length_nil]; omega) (Below.size (by assumption)) ?_; intro v1 w1 ho1 hg1 _; have hS1 := below_own (show Below W1.heap.size W1 _ by assumption) hg1 (Below.size (by assumption)) (fun k hk => (World.ownsRow.lt HO0.out k hk).1); have HO1 := Lib.hid ho1; clear ho1
   refine hK.out _ _ ?_ (fun hHeld => ?_)
   ·try dsimp only
    assumption
   clear hK K
   try simp only [Act.put, List.setIfInBounds_toArray, List.set_cons_zero, List.set_cons_succ]
   refine wpAnyH_ready (rs := [8]) (by kernel_rfl) (by simp) ?_
   refine AllReadyH.cons (o := _) (by simp only [List.getElem?_toArray, List.getElem?_cons_succ, List.getElem?_cons_zero]; rfl) (fun K hK => ?_) ?_
   ·refine step_append_S (by rfl) _ _ (by rfl) W1.heap.size _ _ ([x.name] ++ x.ins) (x.outs) (by rfl) (by rfl) (HO1.out) (H2.out _ (by assumption)) (by have := n1; have := n2; have := n3; simp only [List.length_append, List.length_cons, List.length_nil]; omega) (Below.size (by assumption)) ?_; intro v2 w2 ho2 hg2 _; have hS2 := below_own (show Below W1.heap.size W1 _ by assumption) hg2 (Below.size (by assumption)) (fun k hk => (World.ownsRow.lt HO1.out k hk).1); have HO2 := Lib.hid ho2; clear ho2
    refine hK.out _ _ ?_ (fun hHeld => ?_)
    ·try dsimp only
     assumption
    clear hK K
    try simp only [Act.put, List.setIfInBounds_toArray, List.set_cons_zero, List.set_cons_succ]
    refine wpAnyH_ready (rs := [11]) (by kernel_rfl) (by simp) ?_
    refine AllReadyH.cons (o := _) (by simp only [List.getElem?_toArray, List.getElem?_cons_succ, List.getElem?_cons_zero]; rfl) (fun K hK => ?_) ?_
    ·refine step_append_S (by rfl) _ _ (by rfl) W1.heap.size _ _ ([x.name] ++ x.ins ++ x.outs) (x.after) (by rfl) (by rfl) (HO2.out) (H3.out _ (by assumption)) (by have := n1; have := n2; have := n3; simp only [List.length_append, List.length_cons, List.length_nil]; omega) (Below.size (by assumption)) ?_; intro v3 w3 ho3 hg3 _; have hS3 := below_own (show Below W1.heap.size W1 _ by assumption) hg3 (Below.size (by assumption)) (fun k hk => (World.ownsRow.lt HO2.out k hk).1); have HO3 := Lib.hid ho3; clear ho3
     refine hK.out _ _ ?_ (fun hHeld => ?_)
     ·try dsimp only
      assumption
     clear hK K
     try simp only [Act.put, List.setIfInBounds_toArray, List.set_cons_zero, List.set_cons_succ]
     refine wpAnyH_take (i := 12) (oi := _) (v := ?_) (by simp only [List.getElem?_toArray, List.getElem?_cons_succ, List.getElem?_cons_zero]; rfl) (by kernel_rfl) (by kernel_rfl) (by kernel_rfl) (by exact fun _ _ _ h => h) (Or.inl ⟨by rfl, ?_⟩) (by assumption) ?_
     rotate_left
     ·intro w hSw; go_simp; try with_reducible rfl
     try simp only [Act.put, List.setIfInBounds_toArray, List.set_cons_zero, List.set_cons_succ]
     refine wpAnyH_done (by kernel_rfl) ?_ _
     have hB3 : Below W1.heap.size W1 w3 := by assumption
     have HOW : Hid (OwnStrs W1.heap.size w3 v3 (nmsR x 0)) := by show OwnStrs _ _ _ _; rw [HN0.out]; exact HO3.out
     obtain ⟨W3, hW3⟩ : ∃ V, w3 = V := ⟨_, rfl⟩
     rw [hW3] at hB3 HOW ⊢
     have HB3 := Lib.hid hB3
     clear hW3 hB3 hS1 hS2 hS3 hHeld HO1 HO2 HO3
     go_wp2_with fail
     go_loopw [3, 4] (fun lv iv wr => ∃ k : Nat, k ≤ x.steps.length ∧ iv = .int .i64 (k : Int) ∧ OwnStrs W1.heap.size wr lv (nmsR x k) ∧ (∀ (j : Nat) y, j < k → x.steps[j]? = some y → MayS y) ∧ Below W1.heap.size W1 wr) (fun _ iv _ => x.steps.length - (intOf iv).toNat)
     case atStart => exact ⟨0, Nat.zero_le _, rfl, HOW.out, fun j y hj => absurd hj (by omega), HB3.out⟩
     case round =>
      obtain ⟨k, hk, rfl, hown, hmay, hbr⟩ := hrel
      obtain ⟨WR, hWR⟩ : ∃ V, wr = V := ⟨_, rfl⟩
      rw [hWR] at hown hbr ⊢
      clear hWR
      have HBR := Lib.hid hbr
      have HOWN := Lib.hid hown
      have HMS := Lib.hid hmay
      obtain ⟨_, _, y2, _, y4⟩ := HCE.out _ hbr
      obtain ⟨la, lc, q, _, hllc, hlcm⟩ := own_shape hown
      subst q
      have hnl := nmsR_len HSH.out k
      unfold maxLen at hlcm
      clear hbr hown hmay
      by_cases hlt : k < x.steps.length
      ·obtain ⟨y, hy⟩ : ∃ y, x.steps[k]? = some y := ⟨x.steps[k], List.getElem?_eq_getElem hlt⟩
       obtain ⟨b, o, b1, e1, b2, e2, hab, hcm, hrow, hcs⟩ := HST.out k y hy
       have HCM := Lib.hid (hcm _ HBR.out)
       have HROW := Lib.hid hrow
       have HCS := Lib.hid hcs
       have HY := Lib.hid hy
       have HYA := Lib.hid ((HSH.out).each y (List.mem_of_getElem? hy)).1
       have HNX := Lib.hid (nmsR_next hy)
       obtain ⟨z0, z1, z2, z3, z4⟩ := hcs _ HBR.out
       have hi1 : (k : Int) < (x.steps.length : Int) := by omega
       have hi0 : (0 : Int) ≤ (k : Int) := by omega
       subst hab
       clear hcm hrow hcs hy
       go_wp2_with fail
       refine HCM.out.mono ?_
       rintro e w5 ⟨⟨bb, rfl, hbb⟩, hb5⟩
       have HBB := Lib.hid hbb
       have HB5 := Lib.hid (HBR.out.trans (hb5.mono HBR.out.size))
       have HO5 : Hid (OwnStrs W1.heap.size w5 (.slice la (nmsR x k).length lc) (nmsR x k)) := by show OwnStrs _ _ _ _; exact HOWN.out.below hb5
       clear hbb hb5 z0 z1 z2 z3 z4
       cases bb
       ·go_wp2
        go_ret
        exact ⟨⟨false, rfl, fun e => by cases e⟩, HUP.out _ HB5.out⟩
       ·have HS5 : Hid (Below W1.heap.size W1 w5.drew) := by show Below _ _ _; exact HB5.out.drew
        go_wp2_with fail
        refine wp_region_held_drew (S := fun w' => Below W1.heap.size W1 w') (by kernel_rfl) ?_ (fun hHeld => ?_)
        ·exact HS5.out
        refine wpAnyH_take (i := 0) (oi := _) (v := ?_) (by simp only [List.getElem?_toArray, List.getElem?_cons_zero]; rfl) (by kernel_rfl) (by kernel_rfl) (by kernel_rfl) (by exact fun _ _ _ h => h) (Or.inl ⟨by rfl, ?_⟩) (by assumption) ?_
        rotate_left
        ·intro w hSw; obtain ⟨y0, y1, y2, y3, y4⟩ := HCE.out _ hSw; obtain ⟨z0, z1, z2, z3, z4⟩ := HCS.out _ hSw; go_simp; try with_reducible rfl
        try simp only [Act.put, List.setIfInBounds_toArray, List.set_cons_zero, List.set_cons_succ]
        refine wpAnyH_take (i := 1) (oi := _) (v := ?_) (by simp only [List.getElem?_toArray, List.getElem?_cons_succ, List.getElem?_cons_zero]; rfl) (by kernel_rfl) (by kernel_rfl) (by kernel_rfl) (by exact fun _ _ _ h => h) (Or.inl ⟨by rfl, ?_⟩) (by assumption) ?_
        rotate_left
        ·intro w hSw; obtain ⟨y0, y1, y2, y3, y4⟩ := HCE.out _ hSw; obtain ⟨z0, z1, z2, z3, z4⟩ := HCS.out _ hSw; go_simp; try with_reducible rfl
        try simp only [Act.put, List.setIfInBounds_toArray, List.set_cons_zero, List.set_cons_succ]
        refine wpAnyH_take (i := 2) (oi := _) (v := ?_) (by simp only [List.getElem?_toArray, List.getElem?_cons_succ, List.getElem?_cons_zero]; rfl) (by kernel_rfl) (by kernel_rfl) (by kernel_rfl) (by exact fun _ _ _ h => h) (Or.inl ⟨by rfl, ?_⟩) (by assumption) ?_
        rotate_left
        ·intro w hSw; obtain ⟨y0, y1, y2, y3, y4⟩ := HCE.out _ hSw; obtain ⟨z0, z1, z2, z3, z4⟩ := HCS.out _ hSw; go_simp; try with_reducible rfl
        try simp only [Act.put, List.setIfInBounds_toArray, List.set_cons_zero, List.set_cons_succ]
        refine wpAnyH_take (i := 3) (oi := _) (v := ?_) (by simp only [List.getElem?_toArray, List.getElem?_cons_succ, List.getElem?_cons_zero]; rfl) (by kernel_rfl) (by kernel_rfl) (by kernel_rfl) (by exact fun _ _ _ h => h) (Or.inl ⟨by rfl, ?_⟩) (by assumption) ?_
        rotate_left
        ·intro w hSw; obtain ⟨y0, y1, y2, y3, y4⟩ := HCE.out _ hSw; obtain ⟨z0, z1, z2, z3, z4⟩ := HCS.out _ hSw; go_simp; try with_reducible rfl
        try simp only [Act.put, List.setIfInBounds_toArray, List.set_cons_zero, List.set_cons_succ]
        refine wpAnyH_take (i := 4) (oi := _) (v := ?_) (by simp only [List.getElem?_toArray, List.getElem?_cons_succ, List.getElem?_cons_zero]; rfl) (by kernel_rfl) (by kernel_rfl) (by kernel_rfl) (by exact fun _ _ _ h => h) (Or.inl ⟨by rfl, ?_⟩) (by assumption) ?_
        rotate_left
        ·intro w hSw; obtain ⟨y0, y1, y2, y3, y4⟩ := HCE.out _ hSw; obtain ⟨z0, z1, z2, z3, z4⟩ := HCS.out _ hSw; go_simp; try with_reducible rfl
        try simp only [Act.put, List.setIfInBounds_toArray, List.set_cons_zero, List.set_cons_succ]
        refine wpAnyH_take (i := 5) (oi := _) (v := ?_) (by simp only [List.getElem?_toArray, List.getElem?_cons_succ, List.getElem?_cons_zero]; rfl) (by kernel_rfl) (by kernel_rfl) (by kernel_rfl) (by exact fun _ _ _ h => h) (Or.inl ⟨by rfl, ?_⟩) (by assumption) ?_
        rotate_left
        ·intro w hSw; obtain ⟨y0, y1, y2, y3, y4⟩ := HCE.out _ hSw; obtain ⟨z0, z1, z2, z3, z4⟩ := HCS.out _ hSw; go_simp; try with_reducible rfl
        try simp only [Act.put, List.setIfInBounds_toArray, List.set_cons_zero, List.set_cons_succ]
        refine wpAnyH_take (i := 6) (oi := _) (v := ?_) (by simp only [List.getElem?_toArray, List.getElem?_cons_succ, List.getElem?_cons_zero]; rfl) (by kernel_rfl) (by kernel_rfl) (by kernel_rfl) (by exact fun _ _ _ h => h) (Or.inl ⟨by rfl, ?_⟩) (by assumption) ?_
        rotate_left
        ·intro w hSw; obtain ⟨y0, y1, y2, y3, y4⟩ := HCE.out _ hSw; obtain ⟨z0, z1, z2, z3, z4⟩ := HCS.out _ hSw; go_simp; try with_reducible rfl
        try simp only [Act.put, List.setIfInBounds_toArray, List.set_cons_zero, List.set_cons_succ]
        refine wpAnyH_take (i := 9) (oi := _) (v := ?_) (by simp only [List.getElem?_toArray, List.getElem?_cons_succ, List.getElem?_cons_zero]; rfl) (by kernel_rfl) (by kernel_rfl) (by kernel_rfl) (by exact fun _ _ _ h => h) (Or.inl ⟨by rfl, ?_⟩) (by assumption) ?_
        rotate_left
        ·intro w hSw; obtain ⟨y0, y1, y2, y3, y4⟩ := HCE.out _ hSw; obtain ⟨z0, z1, z2, z3, z4⟩ := HCS.out _ hSw; go_simp; try with_reducible rfl
        try simp only [Act.put, List.setIfInBounds_toArray, List.set_cons_zero, List.set_cons_succ]
        refine wpAnyH_take (i := 10) (oi := _) (v := ?_) (by simp only [List.getElem?_toArray, List.getElem?_cons_succ, List.getElem?_cons_zero]; rfl) (by kernel_rfl) (by kernel_rfl) (by kernel_rfl) (by exact fun _ _ _ h => h) (Or.inl ⟨by rfl, ?_⟩) (by assumption) ?_
        rotate_left
        ·intro w hSw; obtain ⟨y0, y1, y2, y3, y4⟩ := HCE.out _ hSw; obtain ⟨z0, z1, z2, z3, z4⟩ := HCS.out _ hSw; go_simp; try with_reducible rfl
        try simp only [Act.put, List.setIfInBounds_toArray, List.set_cons_zero, List.set_cons_succ]
        refine wpAnyH_take (i := 11) (oi := _) (v := ?_) (by simp only [List.getElem?_toArray, List.getElem?_cons_succ, List.getElem?_cons_zero]; rfl) (by kernel_rfl) (by kernel_rfl) (by kernel_rfl) (by exact fun _ _ _ h => h) (Or.inl ⟨by rfl, ?_⟩) (by assumption) ?_
        rotate_left
        ·intro w hSw; obtain ⟨y0, y1, y2, y3, y4⟩ := HCE.out _ hSw; obtain ⟨z0, z1, z2, z3, z4⟩ := HCS.out _ hSw; go_simp; try with_reducible rfl
        try simp only [Act.put, List.setIfInBounds_toArray, List.set_cons_zero, List.set_cons_succ]
        refine wpAnyH_take (i := 12) (oi := _) (v := ?_) (by simp only [List.getElem?_toArray, List.getElem?_cons_succ, List.getElem?_cons_zero]; rfl) (by kernel_rfl) (by kernel_rfl) (by kernel_rfl) (by exact fun _ _ _ h => h) (Or.inl ⟨by rfl, ?_⟩) (by assumption) ?_
        rotate_left
        ·intro w hSw; obtain ⟨y0, y1, y2, y3, y4⟩ := HCE.out _ hSw; obtain ⟨z0, z1, z2, z3, z4⟩ := HCS.out _ hSw; go_simp; try with_reducible rfl
        try simp only [Act.put, List.setIfInBounds_toArray, List.set_cons_zero, List.set_cons_succ]
        refine wpAnyH_take (i := 13) (oi := _) (v := ?_) (by simp only [List.getElem?_toArray, List.getElem?_cons_succ, List.getElem?_cons_zero]; rfl) (by kernel_rfl) (by kernel_rfl) (by kernel_rfl) (by exact fun _ _ _ h => h) (Or.inl ⟨by rfl, ?_⟩) (by assumption) ?_
        rotate_left
        ·intro w hSw; obtain ⟨y0, y1, y2, y3, y4⟩ := HCE.out _ hSw; obtain ⟨z0, z1, z2, z3, z4⟩ := HCS.out _ hSw; go_simp; try with_reducible rfl
        try simp only [Act.put, List.setIfInBounds_toArray, List.set_cons_zero, List.set_cons_succ]
        refine wpAnyH_take (i := 14) (oi := _) (v := ?_) (by simp only [List.getElem?_toArray, List.getElem?_cons_succ, List.getElem?_cons_zero]; rfl) (by kernel_rfl) (by kernel_rfl) (by kernel_rfl) (by exact fun _ _ _ h => h) (Or.inl ⟨by rfl, ?_⟩) (by assumption) ?_
        rotate_left
        ·intro w hSw; obtain ⟨y0, y1, y2, y3, y4⟩ := HCE.out _ hSw; obtain ⟨z0, z1, z2, z3, z4⟩ := HCS.out _ hSw; go_simp; try with_reducible rfl
        try simp only [Act.put, List.setIfInBounds_toArray, List.set_cons_zero, List.set_cons_succ]
        refine wpAnyH_ready (rs := [7]) (by kernel_rfl) (by simp) ?_
        refine AllReadyH.cons (o := _) (by simp only [List.getElem?_toArray, List.getElem?_cons_succ, List.getElem?_cons_zero]; rfl) (fun K hK => ?_) ?_
        ·go_simp
         refine hK.out _ _ ?_ (fun hHeld => ?_)
         ·try dsimp only
          exact HUD.out _ _ HB5.out
         clear hK K
         try simp only [Act.put, List.setIfInBounds_toArray, List.set_cons_zero, List.set_cons_succ]
         refine wpAnyH_ready (rs := [8]) (by kernel_rfl) (by simp) ?_
         refine AllReadyH.cons (o := _) (by simp only [List.getElem?_toArray, List.getElem?_cons_succ, List.getElem?_cons_zero]; rfl) (fun K hK => ?_) ?_
         ·refine step_append_S (by rfl) _ _ (by rfl) W1.heap.size _ _ (nmsR x k) ([y.out]) (by rfl) (by rfl) (HO5.out.below ((Below.refl _ _).alloc (Nat.le_refl _) _).drew) (row_str (alloc_at w5 _)) (by have h1 := nmsR_len HSH.out k; simp only [List.length_cons, List.length_nil]; omega) (Below.size (by assumption)) ?_; intro v7 w7 ho7 hg7 _; have hS7 := below_own (show Below W1.heap.size W1 _ by assumption) hg7 (Below.size (by assumption)) (fun k hk => (World.ownsRow.lt HO5.out k hk).1); have HO7 := Lib.hid ho7; clear ho7
          refine hK.out _ _ ?_ (fun hHeld => ?_)
          ·try dsimp only
           assumption
          clear hK K
          try simp only [Act.put, List.setIfInBounds_toArray, List.set_cons_zero, List.set_cons_succ]
          refine wpAnyH_ready (rs := [15]) (by kernel_rfl) (by simp) ?_
          refine AllReadyH.cons (o := _) (by simp only [List.getElem?_toArray, List.getElem?_cons_succ, List.getElem?_cons_zero]; rfl) (fun K hK => ?_) ?_
          ·refine step_append_S (by rfl) _ _ (by rfl) W1.heap.size _ _ (nmsR x k ++ [y.out]) (y.args) (by rfl) (by rfl) (HO7.out) (HROW.out _ (by assumption)) (by have h1 := nmsR_len HSH.out k; have h2 := HYA.out; simp only [List.length_append, List.length_cons, List.length_nil]; omega) (Below.size (by assumption)) ?_; intro v8 w8 ho8 hg8 _; have hS8 := below_own (show Below W1.heap.size W1 _ by assumption) hg8 (Below.size (by assumption)) (fun k hk => (World.ownsRow.lt HO7.out k hk).1); have HO8 := Lib.hid ho8; clear ho8
           refine hK.out _ _ ?_ (fun hHeld => ?_)
           ·try dsimp only
            assumption
           clear hK K
           try simp only [Act.put, List.setIfInBounds_toArray, List.set_cons_zero, List.set_cons_succ]
           refine wpAnyH_take (i := 16) (oi := _) (v := ?_) (by simp only [List.getElem?_toArray, List.getElem?_cons_succ, List.getElem?_cons_zero]; rfl) (by kernel_rfl) (by kernel_rfl) (by kernel_rfl) (by exact fun _ _ _ h => h) (Or.inl ⟨by rfl, ?_⟩) (by assumption) ?_
           rotate_left
           ·intro w hSw; go_simp; try with_reducible rfl
           try simp only [Act.put, List.setIfInBounds_toArray, List.set_cons_zero, List.set_cons_succ]
           refine wpAnyH_done (by kernel_rfl) ?_ _
           have hB8 : Below W1.heap.size W1 w8 := by assumption
           have HO9 : Hid (OwnStrs W1.heap.size w8 v8 (nmsR x (k + 1))) := by show OwnStrs _ _ _ _; rw [HNX.out]; exact HO8.out
           have HB8 := Lib.hid hB8
           have HMN : Hid (∀ (j : Nat) z, j < k + 1 → x.steps[j]? = some z → MayS z) := by
            show ∀ (j : Nat) z, _
            intro j z hj hz
            rcases Nat.lt_or_ge j k with h | h
            ·exact HMS.out j z h hz
            ·obtain rfl : j = k := by omega
             rw [HY.out] at hz
             injection hz with hz
             rw [← hz]
             exact HBB.out (by trivial)
           clear hS7 hS8 hHeld hB8
           go_wp2
           go_roundw
           case rel => exact ⟨k + 1, by omega, by go_num, HO9.out, HMN.out, HB8.out⟩
           case measure => simp [intOf]; omega
          exact AllReadyH.nil
         exact AllReadyH.nil
        exact AllReadyH.nil
      ·obtain rfl : k = x.steps.length := by omega
       have HIT : Hid (∀ (j : Nat) z, (nmsR x x.steps.length)[j]? = some z → ∃ b o, la = some ⟨b, o, none⟩ ∧ ∀ w', Below WR.heap.size WR w' → w'.cell? ⟨b, o + j, none⟩ = some (.string z)) := by
        show ∀ (j : Nat) z, _
        intro j z hz
        obtain ⟨a', c', q, _, _, h3⟩ := isStrs_cells HOWN.out.strsA.isStrs
        injection q with q1 q2 q3
        subst q1
        exact h3 j z hz
       obtain ⟨L, hL⟩ : ∃ L, nmsR x x.steps.length = L := ⟨_, rfl⟩
       have HL := Lib.hid hL
       rw [hL] at HIT hnl hllc ⊢
       have hi1 : ¬ (x.steps.length : Int) < (x.steps.length : Int) := by omega
       clear hL hlt hk
       go_wp2_with fail
       go_loopw [5] (fun iv wr => ∃ j : Nat, j ≤ L.length ∧ iv = .int .i64 (j : Int) ∧ (∀ z ∈ L.take j, okName z.data.toList = true) ∧ Below WR.heap.size WR wr) (fun iv _ => L.length - (intOf iv).toNat)
       case atStart => exact ⟨0, Nat.zero_le _, rfl, fun z hz => by simp at hz, Below.refl _ _⟩
       case round =>
        obtain ⟨j, hj, rfl, hok, hnx⟩ := hrel
        have HOK := Lib.hid hok
        have HNX := Lib.hid hnx
        clear hok
        by_cases hjl : j < L.length
        ·obtain ⟨z, hz⟩ : ∃ z, L[j]? = some z := ⟨L[j], List.getElem?_eq_getElem hjl⟩
         obtain ⟨b, o, hab, hc⟩ := HIT.out j z hz
         have z0 := hc _ hnx
         subst hab
         have HZ := Lib.hid hz
         have CM := Lib.hid (HMAY.out x.steps.length z wr (by rw [HL.out]; exact List.mem_of_getElem? hz))
         obtain ⟨q, hq⟩ : ∃ q, okName z.data.toList = q := ⟨_, rfl⟩
         rw [hq] at CM
         have HQ := Lib.hid hq
         have hj1 : (j : Int) < (L.length : Int) := by omega
         have hj0 : (0 : Int) ≤ (j : Int) := by omega
         clear hc hnx hz hq
         go_wp2_with fail
         refine CM.out.mono ?_
         rintro e w6 ⟨rfl, hb6⟩
         have HB6 := Lib.hid (HNX.out.trans (hb6.mono HNX.out.size))
         clear hb6
         cases q
         ·go_wp2
          go_ret
          exact ⟨⟨false, rfl, fun e => by cases e⟩, HUP.out _ (HBR.out.trans (HB6.out.mono HBR.out.size))⟩
         ·have hzok : Hid (∀ z ∈ L.take (j + 1), okName z.data.toList = true) := by
           show ∀ z ∈ L.take (j + 1), _
           intro u hu
           rw [List.take_add_one, HZ.out] at hu
           rcases List.mem_append.1 hu with hu | hu
           ·exact HOK.out u hu
           ·have : u = z := by simpa using hu
            rw [this]
            exact HQ.out
          go_wp2
          go_roundw
          case rel => exact ⟨j + 1, by omega, by go_num, hzok.out, HB6.out⟩
          case measure => simp [intOf]; omega
        ·have hj1 : ¬ (j : Int) < (L.length : Int) := by omega
         have HBE := Lib.hid (HBR.out.trans (hnx.mono HBR.out.size))
         obtain ⟨_, _, u2, _, _⟩ := HCE.out _ HBE.out
         have HALL : Hid (∀ z ∈ L, okName z.data.toList = true) := by show ∀ z ∈ L, _; have := HOK.out; rw [List.take_of_length_le (by omega)] at this; exact this
         clear hnx
         by_cases hpos : (0 : Int) < (x.outs.length : Int)
         ·have HR : Hid (OkRu x) := Lib.hid (okRu_of (by rw [HL.out]; exact HALL.out) (fun j y hy => HMS.out j y (List.getElem?_eq_some_iff.1 hy).1 hy) hpos)
          go_wp2
          go_ret
          exact ⟨⟨_, rfl, fun _ => HR.out⟩, HUP.out _ HBE.out⟩
         ·go_wp2
          go_ret
          first | exact ⟨⟨false, rfl, fun e => by cases e⟩, HUP.out _ HBE.out⟩ | exact ⟨⟨_, rfl, fun e => absurd (of_decide_eq_true e) (by simpa using hpos)⟩, HUP.out _ HBE.out⟩
    exact AllReadyH.nil
   exact AllReadyH.nil
  exact AllReadyH.nil
 exact AllReadyH.nil
end Go.Proofs.YtlmnabhhgplhnaaGreatDoor
namespace Go.Proofs.YtlmnabhhgplhnaaGreatDoor
open Go.RowKit Go.Shelf

theorem run_append_C {w : World} {ty : TypeId} {B : Nat} {v v2 : Value} {xs ys : List ByteArray} (hown : OwnStrs B w v xs) (hI : IsRow w v2 1 (strRows ys)) (b1 : xs.length + ys.length ≤ 1000000000) (hB : B ≤ w.heap.size) :
  ∃ v' w', (Builtin.append_ #[35, 35] ty #[v, v2]).run Tryz.prog w = .ok v' w' ∧ OwnStrs B w' v' (xs ++ ys) ∧ w.grownBy w' v.ownBlock := by
 obtain ⟨i0, hi, hz0, hz1, hz2⟩ := info_of info_str
 obtain ⟨v', w', hr, h1, h2, _⟩ := run_append_rows (P := Tryz.prog) (w := w) 35 ty 9 i0 (.string ByteArray.empty) 1 16 Tryz.underlying35 hi hz0 hz1 hz2 rfl (by decide) (ownStrs_rows.1 hown) hI (strRows_len ys) (strRows_one ys) (by rw [strRows_length, strRows_length]; unfold maxLen; omega) (by rw [strRows_length, strRows_length]; omega) hB
 rw [strRows_append] at h1
 exact ⟨v', w', hr, ownStrs_rows.2 h1, h2⟩
def RuleZ (x : RuleS) (e : Ending) : Prop := ∃ c : Int, e = .returned (.int .i64 c) ∧ (c = 0 → OkRu x)

set_option maxHeartbeats 16000000 in
set_option maxRecDepth 100000 in
theorem cRule_any (x : RuleS) (vi vo vf vs : Value) (w : World) (h : RuleI w [.string x.name, vi, vo, vf, vs] x) (hs : SmallR x 1048576) (hsh : ShortR x) :
  Calls Tryz.prog 24 #[.agg #[.string x.name, vi, vo, vf, vs]] w fun e w' => RuleZ x e ∧ Below w.heap.size w w' := by
 have hI := h
 obtain ⟨_, _, _, _, q, h1, h2, h3, h4⟩ := h
 simp only [List.cons.injEq, and_true, true_and] at q
 obtain ⟨rfl, rfl, rfl, rfl⟩ := q
 obtain ⟨a1, c1, rfl, _, hm1, _⟩ := isStrs_cells h1
 obtain ⟨a2, c2, rfl, _, hm2, ho2⟩ := isStrs_cells h2
 obtain ⟨a3, c3, rfl, _, hm3, _⟩ := isStrs_cells h3
 obtain ⟨a4, c4, rfl, hl4, hm4, hst⟩ := steps_cells h4
 obtain ⟨o1, ho1⟩ : ∃ o : Obj, o = .cells #[.string x.name, .slice a1 x.ins.length c1, .slice a2 x.outs.length c2, .slice a3 x.after.length c3, .slice a4 x.steps.length c4] 38 := ⟨_, rfl⟩
 have hb0 : Below w.heap.size w (w.alloc o1) := (Below.refl _ _).alloc (Nat.le_refl _) _
 have hx1 := alloc_at w o1
 have hlt := block_lt' hx1
 obtain ⟨W1, hW1⟩ : ∃ W1, w.alloc o1 = W1 := ⟨_, rfl⟩
 rw [hW1] at hx1 hb0 hlt
 rw [ho1] at hx1 hW1
 have HCE : Hid (∀ w', Below W1.heap.size W1 w' → w'.cell? ⟨w.heap.size, 0, none⟩ = some (.string x.name) ∧ w'.cell? ⟨w.heap.size, 1, none⟩ = some (.slice a1 x.ins.length c1) ∧ w'.cell? ⟨w.heap.size, 2, none⟩ = some (.slice a2 x.outs.length c2) ∧ w'.cell? ⟨w.heap.size, 3, none⟩ = some (.slice a3 x.after.length c3) ∧ w'.cell? ⟨w.heap.size, 4, none⟩ = some (.slice a4 x.steps.length c4)) := by
  show ∀ w', _
  intro w' hb
  obtain ⟨d0, d1, d2, d3, d4, _⟩ := cells5 ((hb.block _ hlt).trans hx1)
  exact ⟨d0, d1, d2, d3, d4⟩
 have up : ∀ w', Below W1.heap.size W1 w' → Below w.heap.size w w' := fun w' hw => hb0.trans (hw.mono hb0.size)
 have CFORM : Hid (∀ w', Below W1.heap.size W1 w' → Calls Tryz.prog 51 #[.agg #[.string x.name, .slice a1 x.ins.length c1, .slice a2 x.outs.length c2, .slice a3 x.after.length c3, .slice a4 x.steps.length c4]] w' fun e w'' => FormE x e ∧ Below w'.heap.size w' w'') := by
  show ∀ w', _
  exact fun w' hw => cForm_any x _ _ _ _ w' (hI.below (up w' hw)) hs hsh
 have CT1 : Hid (∀ w', Below W1.heap.size W1 w' → Calls Tryz.prog 52 #[.slice a1 x.ins.length c1] w' fun e w'' => (∃ b, e = .returned (.bool b)) ∧ Below w'.heap.size w' w'') := by show ∀ w', _; exact fun w' hw => cTwice_any _ _ w' (h1.below (up w' hw))
 have CT2 : Hid (∀ w', Below W1.heap.size W1 w' → Calls Tryz.prog 52 #[.slice a2 x.outs.length c2] w' fun e w'' => (∃ b, e = .returned (.bool b)) ∧ Below w'.heap.size w' w'') := by show ∀ w', _; exact fun w' hw => cTwice_any _ _ w' (h2.below (up w' hw))
 have CT3 : Hid (∀ w', Below W1.heap.size W1 w' → Calls Tryz.prog 52 #[.slice a3 x.after.length c3] w' fun e w'' => (∃ b, e = .returned (.bool b)) ∧ Below w'.heap.size w' w'') := by show ∀ w', _; exact fun w' hw => cTwice_any _ _ w' (h3.below (up w' hw))
 have CF1 : Hid (∀ s w', Below W1.heap.size W1 w' → Calls Tryz.prog 53 #[.slice a1 x.ins.length c1, .string s] w' fun e w'' => e = .returned (.int .i64 (findI x.ins s)) ∧ w'' = w') := by show ∀ s w', _; exact fun s w' hw => cFind_eq _ _ s w' (h1.below (up w' hw))
 have CF3 : Hid (∀ s w', Below W1.heap.size W1 w' → Calls Tryz.prog 53 #[.slice a3 x.after.length c3, .string s] w' fun e w'' => e = .returned (.int .i64 (findI x.after s)) ∧ w'' = w') := by show ∀ s w', _; exact fun s w' hw => cFind_eq _ _ s w' (h3.below (up w' hw))
 have HST : Hid (∀ (k : Nat) y, x.steps[k]? = some y → ∃ b o b1 e1 b2 e2, a4 = some ⟨b, o, none⟩ ∧ (∀ w', Below W1.heap.size W1 w' → IsStrs w' (.slice b1 y.args.length e1) y.args) ∧ ∀ w', Below W1.heap.size W1 w' →
   w'.cell? ⟨b, o + k * 5, none⟩ = some (.string y.out) ∧ w'.cell? ⟨b, o + k * 5 + 1, none⟩ = some (.int .i64 y.op) ∧ w'.cell? ⟨b, o + k * 5 + 2, none⟩ = some (.slice b1 y.args.length e1) ∧ w'.cell? ⟨b, o + k * 5 + 3, none⟩ = some (.slice b2 y.lits.length e2) ∧ w'.cell? ⟨b, o + k * 5 + 4, none⟩ = some (.int .i64 y.n)) := by
  show ∀ (k : Nat) y, _
  intro k y hy
  obtain ⟨b, o, b1, e1, b2, e2, ha, hI, hA, hc⟩ := hst k y hy
  exact ⟨b, o, b1, e1, b2, e2, ha, fun w' hw => hA.below (up w' hw), fun w' hw => hc w' (up w' hw)⟩
 have HOUT : Hid (∀ (k : Nat) y, x.outs[k]? = some y → ∃ b o, a2 = some ⟨b, o, none⟩ ∧ ∀ w', Below W1.heap.size W1 w' → w'.cell? ⟨b, o + k, none⟩ = some (.string y)) := by
  show ∀ (k : Nat) y, _
  intro k y hy
  obtain ⟨b, o, ha, hc⟩ := ho2 k y hy
  exact ⟨b, o, ha, fun w' hw => hc w' (up w' hw)⟩
 have HUP : Hid (∀ w', Below W1.heap.size W1 w' → Below w.heap.size w w') := by show ∀ w', _; exact up
 have HW1 := Lib.hid hW1
 have HSH := Lib.hid hsh
 have HU : Hid (∀ w' o, Below W1.heap.size W1 w' → Below W1.heap.size W1 (w'.alloc o)) := by show ∀ w' o, _; exact fun w' o h => h.alloc h.size o
 have hlen : x.ins.length ≤ 10 ∧ x.outs.length ≤ 6 ∧ x.after.length ≤ 10 ∧ x.steps.length ≤ 14 := ⟨hsh.ins, hsh.outs, hsh.after, hsh.steps⟩
 obtain ⟨n1, n2, n3, n4⟩ := hlen
 unfold maxLen at hm4 hm2 hm1 hm3
 clear h1 h2 h3 h4 hst hb0 hx1 hlt hW1 ho1 o1 up hs hsh hI ho2
 go_enter Tryz.func24, Tryz.ntmps24
 go_wp2_with fail
 rw [HW1.out]
 refine (CFORM.out _ (Below.refl _ _)).mono ?_
 rintro e w2 ⟨⟨b, rfl, hb⟩, hb2⟩
 have HB2 := Lib.hid hb2
 have HOK := Lib.hid hb
 clear hb hb2
 cases b
 ·go_wp2
  go_ret
  exact ⟨⟨1, rfl, fun e => by cases e⟩, HUP.out _ HB2.out⟩
 have HRZ : Hid (∀ c : Int, RuleZ x (.returned (.int .i64 c))) := by show ∀ c : Int, _; exact fun c => ⟨c, rfl, fun _ => HOK.out (by trivial)⟩
 clear HOK
 obtain ⟨y0, y1, y2, y3, y4⟩ := HCE.out _ HB2.out
 by_cases g1 : (8 : Int) < (x.ins.length : Int)
 ·go_wp2
  go_ret
  exact ⟨HRZ.out _, HUP.out _ HB2.out⟩
 by_cases g2 : (4 : Int) < (x.outs.length : Int)
 ·go_wp2
  go_ret
  exact ⟨HRZ.out _, HUP.out _ HB2.out⟩
 by_cases g3 : (8 : Int) < (x.after.length : Int)
 ·go_wp2
  go_ret
  exact ⟨HRZ.out _, HUP.out _ HB2.out⟩
 by_cases g4 : (12 : Int) < (x.steps.length : Int)
 ·go_wp2
  go_ret
  exact ⟨HRZ.out _, HUP.out _ HB2.out⟩
 go_wp2_with fail
 refine (CT1.out _ HB2.out).mono ?_
 rintro e w3 ⟨⟨b, rfl⟩, hb3⟩
 have HB3 := Lib.hid (HB2.out.trans (hb3.mono HB2.out.size))
 clear hb3 y0 y1 y2 y3 y4
 obtain ⟨y0, y1, y2, y3, y4⟩ := HCE.out _ HB3.out
 cases b
 case true =>
  go_wp2
  go_ret
  exact ⟨HRZ.out _, HUP.out _ HB3.out⟩
 go_wp2_with fail
 refine (CT2.out _ HB3.out).mono ?_
 rintro e w4 ⟨⟨b, rfl⟩, hb4⟩
 have HB4 := Lib.hid (HB3.out.trans (hb4.mono HB3.out.size))
 clear hb4 y0 y1 y2 y3 y4
 obtain ⟨y0, y1, y2, y3, y4⟩ := HCE.out _ HB4.out
 cases b
 case true =>
  go_wp2
  go_ret
  exact ⟨HRZ.out _, HUP.out _ HB4.out⟩
 go_wp2_with fail
 refine (CT3.out _ HB4.out).mono ?_
 rintro e w5 ⟨⟨b, rfl⟩, hb5⟩
 have HB5 := Lib.hid (HB4.out.trans (hb5.mono HB4.out.size))
 clear hb5 y0 y1 y2 y3 y4
 obtain ⟨y0, y1, y2, y3, y4⟩ := HCE.out _ HB5.out
 cases b
 case true =>
  go_wp2
  go_ret
  exact ⟨HRZ.out _, HUP.out _ HB5.out⟩
 go_wp2_with fail
 refine (CF3.out _ _ HB5.out).mono ?_
 rintro e w6 ⟨rfl, rfl⟩
 obtain ⟨r, hr⟩ : ∃ r, findI x.after x.name = r := ⟨_, rfl⟩
 rw [hr]
 by_cases g5 : 0 ≤ r
 ·go_wp2
  go_ret
  exact ⟨HRZ.out _, HUP.out _ HB5.out⟩
 clear hr
 have HK0 : Hid (OwnStrs W1.heap.size w6 (.slice none 0 0) []) := ownStrs_nil _ _
 go_wp2_with fail
 go_loopw [3, 4] (fun kv iv wr => ∃ (k : Nat) (ks : List ByteArray), k ≤ x.steps.length ∧ ks.length = k ∧ iv = .int .i64 (k : Int) ∧ OwnStrs W1.heap.size wr kv ks ∧ Below W1.heap.size W1 wr) (fun _ iv _ => x.steps.length - (intOf iv).toNat)
 case atStart => exact ⟨0, [], Nat.zero_le _, rfl, rfl, HK0.out, HB5.out⟩
 case round =>
  obtain ⟨k, ks, hk, hkl, rfl, hown, hbr⟩ := hrel
  obtain ⟨WR, hWR⟩ : ∃ V, wr = V := ⟨_, rfl⟩
  rw [hWR] at hown hbr ⊢
  clear hWR y0 y1 y2 y3 y4
  have HBR := Lib.hid hbr
  have HOWN := Lib.hid hown
  have HKL := Lib.hid hkl
  have hks : ks.length ≤ 1000 := by have := n4; omega
  obtain ⟨y0, y1, y2, y3, y4⟩ := HCE.out _ hbr
  obtain ⟨la, lc, q, _, hllc, hlcm⟩ := own_shape hown
  subst q
  unfold maxLen at hlcm
  clear hbr hown hkl
  by_cases hlt : k < x.steps.length
  ·obtain ⟨y, hy⟩ : ∃ y, x.steps[k]? = some y := ⟨x.steps[k], List.getElem?_eq_getElem hlt⟩
   obtain ⟨b, o, b1, e1, b2, e2, hab, hrow, hcs⟩ := HST.out k y hy
   have HROW := Lib.hid hrow
   have HCS := Lib.hid hcs
   have HYA := Lib.hid ((HSH.out).each y (List.mem_of_getElem? hy)).1
   obtain ⟨z0, z1, z2, z3, z4⟩ := hcs _ HBR.out
   have hi1 : (k : Int) < (x.steps.length : Int) := by omega
   have hi0 : (0 : Int) ≤ (k : Int) := by omega
   subst hab
   clear hrow hcs hy
   go_upto_region 12 with fail
   obtain ⟨W2, hW2⟩ : ∃ V, WR.alloc (.cells #[.string y.out, .int .i64 y.op, .slice b1 y.args.length e1, .slice b2 y.lits.length e2, .int .i64 y.n] 50) = V := ⟨_, rfl⟩
   have hx2 := alloc_at WR (.cells #[.string y.out, .int .i64 y.op, .slice b1 y.args.length e1, .slice b2 y.lits.length e2, .int .i64 y.n] 50)
   have hlt2 := block_lt' hx2
   have hb12 : Below W1.heap.size W1 W2 := by rw [← hW2]; exact HU.out _ _ HBR.out
   have HO2 : Hid (OwnStrs W1.heap.size W2 (.slice la ks.length lc) ks) := by show OwnStrs _ _ _ _; rw [← hW2]; exact HOWN.out.below ((Below.refl _ _).alloc (Nat.le_refl _) _)
   rw [hW2] at hx2 hlt2 ⊢
   obtain ⟨p2, hp2⟩ : ∃ p, WR.heap.size = p := ⟨_, rfl⟩
   rw [hp2] at hx2 hlt2 ⊢
   have HC2 : Hid (∀ w', Below W2.heap.size W2 w' → w'.cell? ⟨p2, 0, none⟩ = some (.string y.out) ∧ w'.cell? ⟨p2, 2, none⟩ = some (.slice b1 y.args.length e1)) := by
    show ∀ w', _
    intro w' hb
    obtain ⟨d0, d1, d2, d3, d4, _⟩ := cells5 ((hb.block _ hlt2).trans hx2)
    exact ⟨d0, d2⟩
   have HB12 := Lib.hid hb12
   have HD2 : Hid (∀ n, Below W2.heap.size W2 (W2.drewN n)) := by show ∀ n, _; exact fun n => below_drewN (Below.refl _ _) n
   have hea := isStrs_cells (HROW.out _ hb12)
   obtain ⟨b1', e1', q, _, hem, hea⟩ := hea
   injection q with q1 q2 q3
   subst q1 q3
   have HEA := Lib.hid hea
   have CK : Hid (∀ s w', Below W2.heap.size W2 w' → Calls Tryz.prog 53 #[.slice la ks.length lc, .string s] w' fun e w'' => e = .returned (.int .i64 (findI ks s)) ∧ w'' = w') := by show ∀ s w', _; exact fun s w' hw => cFind_eq _ _ s w' (HO2.out.strsA.isStrs.below hw)
   have CI : Hid (∀ s w', Below W2.heap.size W2 w' → Calls Tryz.prog 53 #[.slice a1 x.ins.length c1, .string s] w' fun e w'' => e = .returned (.int .i64 (findI x.ins s)) ∧ w'' = w') := by show ∀ s w', _; exact fun s w' hw => CF1.out s w' (HB12.out.trans (hw.mono HB12.out.size))
   have HUP2 : Hid (∀ w', Below W2.heap.size W2 w' → Below W1.heap.size W1 w') := by show ∀ w', _; exact fun w' hw => HB12.out.trans (hw.mono HB12.out.size)
   unfold maxLen at hem
   clear hx2 hlt2 hb12 hW2 hea y0 y1 y2 y3 y4 z0 z1 z2 z3 z4 hp2
   obtain ⟨z0, z2⟩ := HC2.out _ (Below.refl _ _)
   obtain ⟨y0, y1, y2, y3, y4⟩ := HCE.out _ HB12.out
   go_wp2_with fail
   refine (CI.out _ _ (Below.refl _ _)).mono ?_
   rintro e w7 ⟨rfl, rfl⟩
   obtain ⟨r1, hr1⟩ : ∃ r, findI x.ins y.out = r := ⟨_, rfl⟩
   rw [hr1]
   clear hr1
   by_cases g6 : 0 ≤ r1
   ·have hd : decide (0 ≤ r1) = true := decide_eq_true g6
    go_wp2
    go_ret
    exact ⟨HRZ.out _, HUP.out _ HB12.out⟩
   have hd : decide (0 ≤ r1) = false := decide_eq_false g6
   go_wp2_with fail
   refine (CK.out _ _ (Below.refl _ _)).mono ?_
   rintro e w7 ⟨rfl, rfl⟩
   obtain ⟨r2, hr2⟩ : ∃ r, findI ks y.out = r := ⟨_, rfl⟩
   rw [hr2]
   clear hr2
   by_cases g7 : 0 ≤ r2
   ·go_wp2
    go_ret
    exact ⟨HRZ.out _, HUP.out _ HB12.out⟩
   go_wp2_with fail
   go_loopw [6] (fun jv wr => ∃ j : Nat, j ≤ y.args.length ∧ jv = .int .i64 (j : Int) ∧ Below w7.heap.size w7 wr) (fun jv _ => y.args.length - (intOf jv).toNat)
   case atStart => exact ⟨0, Nat.zero_le _, rfl, Below.refl _ _⟩
   case round =>
    obtain ⟨j, hj, rfl, hnx⟩ := hrel
    have HNX := Lib.hid hnx
    clear z0 z2 y0 y1 y2 y3 y4
    obtain ⟨z0, z2⟩ := HC2.out _ hnx
    obtain ⟨y0, y1, y2, y3, y4⟩ := HCE.out _ (HUP2.out _ hnx)
    clear hnx
    by_cases hjl : j < y.args.length
    ·obtain ⟨a, ha⟩ : ∃ a, y.args[j]? = some a := ⟨y.args[j], List.getElem?_eq_getElem hjl⟩
     obtain ⟨ab, ao, hab, hac⟩ := HEA.out j a ha
     have z5 := hac _ HNX.out
     subst hab
     have hj1 : (j : Int) < (y.args.length : Int) := by omega
     have hj0 : (0 : Int) ≤ (j : Int) := by omega
     have HDR : Hid (∀ n, Below w7.heap.size w7 (wr.drewN n)) := by show ∀ n, _; exact fun n => below_drewN HNX.out n
     obtain ⟨r3, hr3⟩ : ∃ r, findI x.ins a = r := ⟨_, rfl⟩
     obtain ⟨r4, hr4⟩ : ∃ r, findI ks a = r := ⟨_, rfl⟩
     have CI3 : Hid (∀ n, Calls Tryz.prog 53 #[.slice a1 x.ins.length c1, .string a] (wr.drewN n) fun e w'' => e = .returned (.int .i64 r3) ∧ w'' = wr.drewN n) := by show ∀ n, _; rw [← hr3]; exact fun n => CI.out a _ (HDR.out n)
     have CK3 : Hid (∀ n, Calls Tryz.prog 53 #[.slice la ks.length lc, .string a] (wr.drewN n) fun e w'' => e = .returned (.int .i64 r4) ∧ w'' = wr.drewN n) := by show ∀ n, _; rw [← hr4]; exact fun n => CK.out a _ (HDR.out n)
     clear hac ha hr3 hr4
     by_cases g8 : r3 < 0
     ·have hd3 : decide (r3 < 0) = true := decide_eq_true g8
      by_cases g9 : r4 < 0
      ·go_wp2_with fail
       go_quiet ((go_at_call 53; first | with_reducible refine Calls.quiet_of_same (CI3.out _) | with_reducible refine Calls.quiet_of_same (CK3.out _)))
       all_goals go_wp2
       all_goals go_ret
       all_goals exact ⟨HRZ.out _, HUP.out _ (HUP2.out _ (HDR.out _))⟩
      ·go_wp2_with fail
       go_quiet ((go_at_call 53; first | with_reducible refine Calls.quiet_of_same (CI3.out _) | with_reducible refine Calls.quiet_of_same (CK3.out _)))
       all_goals go_wp2
       all_goals go_roundw
       case rel => exact ⟨j + 1, by omega, by go_num, HDR.out _⟩
       case measure => simp [intOf]; omega
     ·have hd3 : decide (r3 < 0) = false := decide_eq_false g8
      go_wp2_with fail
      go_quiet ((go_at_call 53; first | with_reducible refine Calls.quiet_of_same (CI3.out _) | with_reducible refine Calls.quiet_of_same (CK3.out _)))
      all_goals go_wp2
      all_goals go_roundw
      case rel => exact ⟨j + 1, by omega, by go_num, HDR.out _⟩
      case measure => simp [intOf]; omega
    ·have hj1 : ¬ (j : Int) < (y.args.length : Int) := by omega
     have hox := HO2.out.below HNX.out
     obtain ⟨v9, w9, hr9, ho9, hg9⟩ := run_append_C (w := wr.alloc (.cells #[.string y.out] 9)) (ty := 35) (ys := [y.out]) (hox.below ((Below.refl _ _).alloc (Nat.le_refl _) _)) (row_str (alloc_at wr _)) (by have := hks; simp only [List.length_cons, List.length_nil]; omega) (HU.out _ (.cells #[.string y.out] 9) (HUP2.out _ HNX.out)).size
     have HR9 := Lib.hid hr9
     have HO9 := Lib.hid ho9
     have HB9 : Hid (Below W1.heap.size W1 w9) := by
      show Below _ _ _
      exact below_own (HU.out _ (.cells #[.string y.out] 9) (HUP2.out _ HNX.out)) hg9 (HU.out _ (.cells #[.string y.out] 9) (HUP2.out _ HNX.out)).size (fun k hk => (World.ownsRow.lt hox k hk).1)
     clear hr9 ho9 hg9 hox
     go_wp2_with (at_builtin; refine wpList_append_known (by rfl) _ _ 35 (by rfl) (by rfl) (by rfl) HR9.out ?_)
     go_roundw
     case rel => exact ⟨k + 1, ks ++ [y.out], by omega, by rw [List.length_append, HKL.out]; rfl, by go_num, HO9.out, HB9.out⟩
     case measure => simp [intOf]; omega
  ·have hi1 : ¬ (k : Int) < (x.steps.length : Int) := by omega
   have CI : Hid (∀ s w', Below WR.heap.size WR w' → Calls Tryz.prog 53 #[.slice a1 x.ins.length c1, .string s] w' fun e w'' => e = .returned (.int .i64 (findI x.ins s)) ∧ w'' = w') := by show ∀ s w', _; exact fun s w' hw => CF1.out s w' (HBR.out.trans (hw.mono HBR.out.size))
   have CK : Hid (∀ s w', Below WR.heap.size WR w' → Calls Tryz.prog 53 #[.slice la ks.length lc, .string s] w' fun e w'' => e = .returned (.int .i64 (findI ks s)) ∧ w'' = w') := by show ∀ s w', _; exact fun s w' hw => cFind_eq _ _ s w' (HOWN.out.strsA.isStrs.below hw)
   have HUP2 : Hid (∀ w', Below WR.heap.size WR w' → Below W1.heap.size W1 w') := by show ∀ w', _; exact fun w' hw => HBR.out.trans (hw.mono HBR.out.size)
   go_wp2_with fail
   go_loopw [7] (fun jv wr => ∃ j : Nat, j ≤ x.outs.length ∧ jv = .int .i64 (j : Int) ∧ Below WR.heap.size WR wr) (fun jv _ => x.outs.length - (intOf jv).toNat)
   case atStart => exact ⟨0, Nat.zero_le _, rfl, Below.refl _ _⟩
   case round =>
    obtain ⟨j, hj, rfl, hnx⟩ := hrel
    have HNX := Lib.hid hnx
    clear y0 y1 y2 y3 y4
    obtain ⟨y0, y1, y2, y3, y4⟩ := HCE.out _ (HUP2.out _ hnx)
    clear hnx
    by_cases hjl : j < x.outs.length
    ·obtain ⟨a, ha⟩ : ∃ a, x.outs[j]? = some a := ⟨x.outs[j], List.getElem?_eq_getElem hjl⟩
     obtain ⟨ab, ao, hab, hac⟩ := HOUT.out j a ha
     have z5 := hac _ (HUP2.out _ HNX.out)
     subst hab
     have hj1 : (j : Int) < (x.outs.length : Int) := by omega
     have hj0 : (0 : Int) ≤ (j : Int) := by omega
     have HDR : Hid (∀ n, Below WR.heap.size WR (wr.drewN n)) := by show ∀ n, _; exact fun n => below_drewN HNX.out n
     obtain ⟨r3, hr3⟩ : ∃ r, findI x.ins a = r := ⟨_, rfl⟩
     obtain ⟨r4, hr4⟩ : ∃ r, findI ks a = r := ⟨_, rfl⟩
     have CI3 : Hid (∀ n, Calls Tryz.prog 53 #[.slice a1 x.ins.length c1, .string a] (wr.drewN n) fun e w'' => e = .returned (.int .i64 r3) ∧ w'' = wr.drewN n) := by show ∀ n, _; rw [← hr3]; exact fun n => CI.out a _ (HDR.out n)
     have CK3 : Hid (∀ n, Calls Tryz.prog 53 #[.slice la ks.length lc, .string a] (wr.drewN n) fun e w'' => e = .returned (.int .i64 r4) ∧ w'' = wr.drewN n) := by show ∀ n, _; rw [← hr4]; exact fun n => CK.out a _ (HDR.out n)
     clear hac ha hr3 hr4
     by_cases g8 : 0 ≤ r3
     ·have hd3 : decide (0 ≤ r3) = true := decide_eq_true g8
      go_wp2_with fail
      go_quiet ((go_at_call 53; first | with_reducible refine Calls.quiet_of_same (CI3.out _) | with_reducible refine Calls.quiet_of_same (CK3.out _)))
      all_goals go_wp2
      all_goals go_ret
      all_goals exact ⟨HRZ.out _, HUP.out _ (HUP2.out _ (HDR.out _))⟩
     ·have hd3 : decide (0 ≤ r3) = false := decide_eq_false g8
      by_cases g9 : r4 < 0
      ·go_wp2_with fail
       go_quiet ((go_at_call 53; first | with_reducible refine Calls.quiet_of_same (CI3.out _) | with_reducible refine Calls.quiet_of_same (CK3.out _)))
       all_goals go_wp2
       all_goals go_ret
       all_goals exact ⟨HRZ.out _, HUP.out _ (HUP2.out _ (HDR.out _))⟩
      ·go_wp2_with fail
       go_quiet ((go_at_call 53; first | with_reducible refine Calls.quiet_of_same (CI3.out _) | with_reducible refine Calls.quiet_of_same (CK3.out _)))
       all_goals go_wp2
       all_goals go_roundw
       case rel => exact ⟨j + 1, by omega, by go_num, HDR.out _⟩
       case measure => simp [intOf]; omega
    ·have hj1 : ¬ (j : Int) < (x.outs.length : Int) := by omega
     go_wp2
     go_ret
     exact ⟨HRZ.out _, HUP.out _ (HUP2.out _ HNX.out)⟩
end Go.Proofs.YtlmnabhhgplhnaaGreatDoor
