import Derived.Test.YtdhmeganlnpohaaGreatDoorMbt
import Derived.Test.YtdhmeganlnpohaaGreatDoorMau
namespace Go.Proofs.YtdhmeganlnpohaaGreatDoor
open Go.RowKit Go.Shelf Go.Maps
theorem allocs_low : ∀ (l : List Obj) (w : World) (k : Nat), k < w.heap.size → (l.foldl World.alloc w).heap[k]? = w.heap[k]?
 | [], _, _, _ => rfl
 | o :: l, w, k, h => (allocs_low l (w.alloc o) k (by rw [World.size_alloc]; omega)).trans (Below.heap_alloc w o k h)
theorem allocs_get : ∀ (l : List Obj) (w : World) (i : Nat) o, l[i]? = some o → (l.foldl World.alloc w).heap[w.heap.size + i]? = some o
 | [], _, _, _, h => by simp at h
 | o0 :: l, w, 0, o, h => by
  obtain rfl : o0 = o := by simpa using h
  exact (allocs_low l (w.alloc o0) w.heap.size (by rw [World.size_alloc]; omega)).trans (World.alloc_heap_new w o0)
 | o0 :: l, w, i + 1, o, h => by
  have := allocs_get l (w.alloc o0) i o (by simpa using h)
  rw [World.size_alloc] at this
  rw [List.foldl_cons, show w.heap.size + (i + 1) = w.heap.size + 1 + i by omega]
  exact this
theorem vals_two {w : World} {v : Value} {x y : ValT} (h : IsVals w v [x, y]) : ∃ b o c, v = .slice (some ⟨b, o, none⟩) 2 c ∧ 2 ≤ c ∧ c ≤ maxLen ∧ ∀ W, Below w.heap.size w W → W.cell? ⟨b, o, none⟩ = some (.bool x.1) ∧ W.cell? ⟨b, o + 1, none⟩ = some (.string x.2) ∧ W.cell? ⟨b, o + 2, none⟩ = some (.bool y.1) ∧ W.cell? ⟨b, o + 3, none⟩ = some (.string y.2) := by
 obtain ⟨a, c, rfl, h1, h2, h3⟩ := h
 obtain ⟨b, o, rfl, hb, hc⟩ := h3 (by simp)
 obtain ⟨p0, p1⟩ := hc 0 x rfl
 obtain ⟨q0, q1⟩ := hc 1 y rfl
 simp only [Nat.zero_mul, Nat.add_zero] at p0 p1
 exact ⟨b, o, c, rfl, h1, h2, fun W hW => ⟨(hW.cell (p := ⟨b, _, none⟩) hb).trans p0, (hW.cell (p := ⟨b, _, none⟩) hb).trans p1, (hW.cell (p := ⟨b, _, none⟩) hb).trans q0, (hW.cell (p := ⟨b, _, none⟩) hb).trans q1⟩⟩
theorem valsLit {w : World} {b : Nat} {xs : List ValT} (h : w.heap[b]? = some (.cells (xs.flatMap fun x => [Value.bool x.1, .string x.2]).toArray 34 (0, 0))) (hn : xs.length ≤ maxLen) : IsVals w (.slice (some ⟨b, 0, none⟩) xs.length xs.length) xs := by
  refine ⟨_, _, rfl, Nat.le_refl _, hn, fun _ => ⟨b, 0, rfl, (Array.getElem?_eq_some_iff.1 h).1, fun j x hx => ?_⟩⟩
  have key : ∀ (xs : List ValT) (j : Nat) x, xs[j]? = some x → (xs.flatMap fun x => [Value.bool x.1, .string x.2])[j * 2]? = some (.bool x.1) ∧ (xs.flatMap fun x => [Value.bool x.1, .string x.2])[j * 2 + 1]? = some (.string x.2) := by
    intro xs
    induction xs with
    | nil => intro j x hx; simp at hx
    | cons y ys ih =>
      intro j x hx
      cases j with
      | zero => obtain rfl : y = x := by simpa using hx
                exact ⟨rfl, rfl⟩
      | succ j =>
        obtain ⟨h1, h2⟩ := ih j x (by simpa using hx)
        rw [List.flatMap_cons, Nat.succ_mul]
        exact ⟨h1, h2⟩
  obtain ⟨h1, h2⟩ := key xs j x hx
  simp only [World.cell?, h, Option.isSome_none, Bool.false_eq_true, if_false, List.getElem?_toArray, Nat.zero_add]
  exact ⟨h1, h2⟩
theorem strsLit {w : World} {b : Nat} {xs : List ByteArray} (h : w.heap[b]? = some (.cells (xs.map Value.string).toArray 9 (0, 0))) (hn : xs.length ≤ maxLen) : IsStrs w (.slice (some ⟨b, 0, none⟩) xs.length xs.length) xs := ValRw.strs h hn
theorem rowsLit {w : World} {b k : Nat} {t : TypeId} {rows : List (List Value)} (h : w.heap[b]? = some (.cells rows.flatten.toArray t (0, 0))) (hk : ∀ r ∈ rows, r.length = k) (hn : rows.length ≤ maxLen) : IsRow w (.slice (some ⟨b, 0, none⟩) rows.length rows.length) k rows := by
 have hl : rows.flatten.length = rows.length * k := by
  clear h hn
  induction rows with
  | nil => simp
  | cons r rows ih => rw [List.flatten_cons, List.length_append, ih (fun r hr => hk r (by simp [hr])), hk r (by simp), List.length_cons, Nat.succ_mul]; omega
 exact row_own (B := 0) ⟨hl, .inr ⟨b, rows.length, _, rfl, Nat.zero_le _, h, Nat.le_refl _, hn, by rw [List.size_toArray, hl], by rw [List.toList_toArray, ← hl, List.take_length]⟩⟩ hk
theorem strsNil (w : World) : IsStrs w (.slice none 0 0) [] := ⟨none, 0, rfl, Nat.le_refl _, Nat.zero_le _, fun h => absurd rfl h⟩
def begO (n : Nat) : List Obj := [.cells #[.string ⟨#[97]⟩, .string ⟨#[98]⟩] 9, .cells #[.string ⟨#[120]⟩, .string ⟨#[121]⟩] 9, .cells #[.string ⟨#[97]⟩] 9, .cells #[.string ⟨#[116]⟩] 9, .cells #[.string ⟨#[98]⟩] 9, .cells #[.string ⟨#[116]⟩, .int .i64 3, .slice (some ⟨n + 1 + 1, 0, none⟩) 1 1, .slice none 0 0, .int .i64 0, .string ⟨#[120]⟩, .int .i64 4, .slice (some ⟨n + 1 + 1 + 1, 0, none⟩) 1 1, .slice none 0 0, .int .i64 0, .string ⟨#[121]⟩, .int .i64 2, .slice (some ⟨n + 1 + 1 + 1 + 1, 0, none⟩) 1 1, .slice none 0 0, .int .i64 0] 24, .cells #[.string ⟨#[114]⟩, .slice (some ⟨n, 0, none⟩) 2 2, .slice (some ⟨n + 1, 0, none⟩) 2 2, .slice none 0 0, .slice (some ⟨n + 1 + 1 + 1 + 1 + 1, 0, none⟩) 3 3] 45]
def begW (w : World) (n : Nat) : World := (begO n).foldl World.alloc w
structure BegR (n : Nat) (W : World) : Prop where
 rule : RuleI W [.string ⟨#[114]⟩, .slice (some ⟨n, 0, none⟩) 2 2, .slice (some ⟨n + 1, 0, none⟩) 2 2, .slice none 0 0, .slice (some ⟨n + 1 + 1 + 1 + 1 + 1, 0, none⟩) 3 3] rB
 box : W.heap[n + 1 + 1 + 1 + 1 + 1 + 1]? = some (.cells #[.string ⟨#[114]⟩, .slice (some ⟨n, 0, none⟩) 2 2, .slice (some ⟨n + 1, 0, none⟩) 2 2, .slice none 0 0, .slice (some ⟨n + 1 + 1 + 1 + 1 + 1, 0, none⟩) 3 3] 45 (0, 0))
 steps : W.heap[n + 1 + 1 + 1 + 1 + 1]? = some (.cells #[.string ⟨#[116]⟩, .int .i64 3, .slice (some ⟨n + 1 + 1, 0, none⟩) 1 1, .slice none 0 0, .int .i64 0, .string ⟨#[120]⟩, .int .i64 4, .slice (some ⟨n + 1 + 1 + 1, 0, none⟩) 1 1, .slice none 0 0, .int .i64 0, .string ⟨#[121]⟩, .int .i64 2, .slice (some ⟨n + 1 + 1 + 1 + 1, 0, none⟩) 1 1, .slice none 0 0, .int .i64 0] 24 (0, 0))
 args : IsStrs W (.slice (some ⟨n + 1 + 1, 0, none⟩) 1 1) [⟨#[97]⟩]
theorem begW_size (w : World) (n : Nat) (h : w.heap.size = n) : (begW w n).heap.size = n + 7 := by unfold begW begO; simp [h]
theorem begW_below (w : World) (n : Nat) (h : w.heap.size = n) : Below n w (begW w n) := by
 unfold begW begO
 simp only [List.foldl_cons, List.foldl_nil]
 rw [← h]
 exact (((((((Below.refl _ _).alloc (Nat.le_refl _) _).alloc (by simp) _).alloc (by simp <;> omega) _).alloc (by simp <;> omega) _).alloc (by simp <;> omega) _).alloc (by simp <;> omega) _).alloc (by simp <;> omega) _
theorem begR_of (w : World) (n : Nat) (h : w.heap.size = n) (W : World) (hW : Below (n + 7) (begW w n) W) : BegR n W := by
 have hk : ∀ k, k < n + 7 → W.heap[k]? = (begW w n).heap[k]? := fun k hk => hW.block k hk
 have b0 : W.heap[n]? = some (.cells ([⟨#[97]⟩, ⟨#[98]⟩].map Value.string).toArray 9 (0, 0)) := (hk _ (by omega)).trans (by have := allocs_get (begO n) w 0 _ rfl; rw [h] at this; exact this)
 have b1 : W.heap[n + 1]? = some (.cells ([⟨#[120]⟩, ⟨#[121]⟩].map Value.string).toArray 9 (0, 0)) := (hk _ (by omega)).trans (by have := allocs_get (begO n) w 1 _ rfl; rw [h] at this; exact this)
 have b2 : W.heap[n + 1 + 1]? = some (.cells ([⟨#[97]⟩].map Value.string).toArray 9 (0, 0)) := (hk _ (by omega)).trans (by have := allocs_get (begO n) w 2 _ rfl; rw [h] at this; exact this)
 have b3 : W.heap[n + 1 + 1 + 1]? = some (.cells ([⟨#[116]⟩].map Value.string).toArray 9 (0, 0)) := (hk _ (by omega)).trans (by have := allocs_get (begO n) w 3 _ rfl; rw [h] at this; exact this)
 have b4 : W.heap[n + 1 + 1 + 1 + 1]? = some (.cells ([⟨#[98]⟩].map Value.string).toArray 9 (0, 0)) := (hk _ (by omega)).trans (by have := allocs_get (begO n) w 4 _ rfl; rw [h] at this; exact this)
 have b5 : W.heap[n + 1 + 1 + 1 + 1 + 1]? = some (.cells #[.string ⟨#[116]⟩, .int .i64 3, .slice (some ⟨n + 1 + 1, 0, none⟩) 1 1, .slice none 0 0, .int .i64 0, .string ⟨#[120]⟩, .int .i64 4, .slice (some ⟨n + 1 + 1 + 1, 0, none⟩) 1 1, .slice none 0 0, .int .i64 0, .string ⟨#[121]⟩, .int .i64 2, .slice (some ⟨n + 1 + 1 + 1 + 1, 0, none⟩) 1 1, .slice none 0 0, .int .i64 0] 24 (0, 0)) := (hk _ (by omega)).trans (by have := allocs_get (begO n) w 5 _ rfl; rw [h] at this; exact this)
 have b6 : W.heap[n + 1 + 1 + 1 + 1 + 1 + 1]? = some (.cells #[.string ⟨#[114]⟩, .slice (some ⟨n, 0, none⟩) 2 2, .slice (some ⟨n + 1, 0, none⟩) 2 2, .slice none 0 0, .slice (some ⟨n + 1 + 1 + 1 + 1 + 1, 0, none⟩) 3 3] 45 (0, 0)) := (hk _ (by omega)).trans (by have := allocs_get (begO n) w 6 _ rfl; rw [h] at this; exact this)
 have s0 := strsLit b0 (by decide); have s1 := strsLit b1 (by decide); have s2 := strsLit b2 (by decide); have s3 := strsLit b3 (by decide); have s4 := strsLit b4 (by decide)
 have hrow : IsRow W (.slice (some ⟨n + 1 + 1 + 1 + 1 + 1, 0, none⟩) 3 3) 5 [[.string ⟨#[116]⟩, .int .i64 3, .slice (some ⟨n + 1 + 1, 0, none⟩) 1 1, .slice none 0 0, .int .i64 0], [.string ⟨#[120]⟩, .int .i64 4, .slice (some ⟨n + 1 + 1 + 1, 0, none⟩) 1 1, .slice none 0 0, .int .i64 0], [.string ⟨#[121]⟩, .int .i64 2, .slice (some ⟨n + 1 + 1 + 1 + 1, 0, none⟩) 1 1, .slice none 0 0, .int .i64 0]] := rowsLit (rows := [[.string ⟨#[116]⟩, .int .i64 3, .slice (some ⟨n + 1 + 1, 0, none⟩) 1 1, .slice none 0 0, .int .i64 0], [.string ⟨#[120]⟩, .int .i64 4, .slice (some ⟨n + 1 + 1 + 1, 0, none⟩) 1 1, .slice none 0 0, .int .i64 0], [.string ⟨#[121]⟩, .int .i64 2, .slice (some ⟨n + 1 + 1 + 1 + 1, 0, none⟩) 1 1, .slice none 0 0, .int .i64 0]]) b5 (by simp) (show 3 ≤ maxLen by decide)
 refine ⟨⟨_, _, _, _, rfl, s0, s1, strsNil _, _, hrow, rfl, fun j r x hr hx => ?_⟩, b6, b5, s2⟩
 match j, hr, hx with
 | 0, hr, hx => cases hr; cases hx; exact ⟨_, _, rfl, s2, strsNil _⟩
 | 1, hr, hx => cases hr; cases hx; exact ⟨_, _, rfl, s3, strsNil _⟩
 | 2, hr, hx => cases hr; cases hx; exact ⟨_, _, rfl, s4, strsNil _⟩
abbrev rBv (n : Nat) : Value := .agg #[.string ⟨#[114]⟩, .slice (some ⟨n, 0, none⟩) 2 2, .slice (some ⟨n + 1, 0, none⟩) 2 2, .slice none 0 0, .slice (some ⟨n + 1 + 1 + 1 + 1 + 1, 0, none⟩) 3 3]
abbrev rBc (n : Nat) : List Value := [.string ⟨#[114]⟩, .slice (some ⟨n, 0, none⟩) 2 2, .slice (some ⟨n + 1, 0, none⟩) 2 2, .slice none 0 0, .slice (some ⟨n + 1 + 1 + 1 + 1 + 1, 0, none⟩) 3 3]
structure BegCalls (n : Nat) (W : World) : Prop where
 of : ∀ vv, IsVals W vv [(true, ⟨#[113, 10, 112]⟩), (true, ⟨#[]⟩)] → Calls Tryz.prog 33 #[rBv n, vv] W fun e w' => ∃ v, e = .returned v ∧ IsVals w' v [(true, ⟨#[50, 10]⟩), noV] ∧ Below W.heap.size W w'
 named : ∀ nv vv, IsStrs W nv [⟨#[98]⟩] → IsVals W vv [(true, ⟨#[122]⟩)] → Calls Tryz.prog 35 #[rBv n, nv, vv] W fun e w' => ∃ v, e = .returned v ∧ IsVals w' v [noV, (true, ⟨#[122]⟩)] ∧ Below W.heap.size W w'
 all1 : ∀ v, RulesI W v [rB] → Calls Tryz.prog 44 #[v] W fun e w' => e = .returned (.tuple #[.int .i64 0, .string ⟨#[]⟩]) ∧ Below W.heap.size W w'
 all2 : ∀ v, RulesI W v [rS, rB] → Calls Tryz.prog 44 #[v] W fun e w' => e = .returned (.tuple #[.int .i64 3, .string ⟨#[114]⟩]) ∧ Below W.heap.size W w'
 files : ∀ v tv nv, RulesI W v [rB] → (∃ a, tv = .pointer a) → ReadDoes tv W (readF trB) → IsStrs W nv [⟨#[120]⟩, ⟨#[97]⟩, ⟨#[121]⟩] → Calls Tryz.prog 46 #[v, tv, nv] W fun e w' => ∃ g, e = .returned (.slice (some ⟨g, 0, none⟩) 3 3) ∧ ValRow w' g [(true, ⟨#[50, 10]⟩), (true, ⟨#[50, 10, 49]⟩), noV] ∧ Below W.heap.size W w'
 beg4 : Calls Tryz.prog 53 #[] W fun e w' => e = .returned (.bool true) ∧ Below W.heap.size W w'
 steps : Calls Tryz.prog 38 #[rBv n, .string ⟨#[120]⟩] W fun e w' => ∃ a c, e = .returned (.slice a 2 c) ∧ Below W.heap.size W w'
 reads : Calls Tryz.prog 40 #[rBv n, .string ⟨#[120]⟩] W fun e w' => ∃ a c, e = .returned (.slice a 1 c) ∧ Below W.heap.size W w'
 readsAll : Calls Tryz.prog 42 #[rBv n] W fun e w' => ∃ a c, e = .returned (.slice a 2 c) ∧ Below W.heap.size W w'
 dead : Calls Tryz.prog 43 #[rBv n] W fun e w' => ∃ a c, e = .returned (.slice a 0 c) ∧ Below W.heap.size W w'
 eq : Calls Tryz.prog 49 #[.agg #[.bool false, .string ⟨#[]⟩], .agg #[.bool false, .string ⟨#[63]⟩]] W fun e w' => e = .returned (.bool true) ∧ Below W.heap.size W w'
 rule : Calls Tryz.prog 48 #[rBv n] W fun e w' => e = .returned (.int .i64 0) ∧ Below W.heap.size W w'
 may : Calls Tryz.prog 19 #[.agg #[.string ⟨#[116]⟩, .int .i64 3, .slice (some ⟨n + 1 + 1, 0, none⟩) 1 1, .slice none 0 0, .int .i64 0]] W fun e w' => e = .returned (.bool true) ∧ Below W.heap.size W w'
 lines : Calls Tryz.prog 22 #[.string ⟨#[97, 10, 10, 98]⟩] W fun e w' => ∃ a c, e = .returned (.slice a 3 c) ∧ Below W.heap.size W w'
theorem isStrs_ret {w : World} {v : Value} {xs : List ByteArray} {k : Nat} (h : IsStrs w v xs) (hk : xs.length = k) : ∃ a c, v = .slice a k c := by obtain ⟨a, c, rfl, _⟩ := h; exact ⟨a, c, by rw [hk]⟩
theorem isInts_ret {w : World} {v : Value} {xs : List Nat} {k : Nat} (h : IsInts w v xs) (hk : xs.length = k) : ∃ a c, v = .slice a k c := by obtain ⟨a, c, rfl, _⟩ := h; exact ⟨a, c, by rw [hk]⟩
theorem begun4B_any (w : World) (hg : GP w.heap.size w) : Calls Tryz.prog 53 #[] w fun e w' => e = .returned (.bool true) ∧ Below w.heap.size w w' := by
 have c := begun4_any w hg
 clear hg
 go_enter Tryz.func53, Tryz.ntmps53
 go_wp2_with fail
 refine c.mono ?_
 rintro e w2 ⟨rfl, hb2⟩
 go_wp2
 go_ret
 exact ⟨rfl, hb2⟩
theorem begCalls (n : Nat) (W : World) (hR : BegR n W) (hG : GP W.heap.size W) : BegCalls n W := by
 have hM : MayW W := hG.glob.max
 have hr := hR.rule
 have hr' : RuleI W [.string rB.name, .slice (some ⟨n, 0, none⟩) rB.ins.length 2, .slice (some ⟨n + 1, 0, none⟩) rB.outs.length 2, .slice none rB.after.length 0, .slice (some ⟨n + 1 + 1 + 1 + 1 + 1, 0, none⟩) rB.steps.length 3] rB := hr
 have s1 : ∀ r ∈ [rB], SmallR r 1048576 := fun r h => by rw [show r = rB by simpa using h]; exact k_small
 have s2 : ∀ r ∈ [rS, rB], SmallR r 1048576 := fun r h => by
  rcases List.mem_cons.1 h with h | h
  ·rw [h]; exact k_smallS
  ·rw [show r = rB by simpa using h]; exact k_small
 refine ⟨fun vv hv => ?_, fun nv vv hn hv => ?_, fun v hv => ?_, fun v hv => ?_, fun v tv nv hv ht hRd hn => ?_, begun4B_any W hG, ?_, ?_, ?_, ?_, ?_, ?_, ?_, ?_⟩
 ·refine (of_any rB _ _ _ _ _ _ _ _ vv _ W hr' k_small hv (by decide) (by intro v hv; simp at hv; rcases hv with rfl | rfl <;> decide) hG.glob).mono ?_
  rintro e w' ⟨v, rfl, h, hb⟩
  rw [k_run] at h
  exact ⟨v, rfl, h, hb⟩
 ·refine (named_any rB _ _ _ _ _ _ _ _ nv vv _ _ W hr' k_small hn (by decide) (by intro k hk; simp at hk; subst hk; decide) hv (by decide) (by intro v hv; simp at hv; subst hv; decide) hG.glob).mono ?_
  rintro e w' ⟨v, rfl, h, hb⟩
  rw [k_named] at h
  exact ⟨v, rfl, h, hb⟩
 ·have := chkAll_any v [rB] W hv s1 (by decide) hM
  rw [k_all1] at this
  exact this
 ·have := chkAll_any v [rS, rB] W hv s2 (by decide) hM
  rw [k_all2] at this
  exact this
 ·refine (files_any v tv nv [rB] (readF trB) _ W hv s1 (by decide) ht hRd (fun x => ?_) hn (by intro x hx; simp at hx; rcases hx with rfl | rfl | rfl <;> decide) (by decide) hG.glob hM).mono ?_
  ·unfold readF
   split
   ·split
    ·rename_i f hf
     have : f = (⟨#[97]⟩, ⟨#[50, 10, 49]⟩) := by have := List.mem_of_getElem? hf; simpa [trB] using this
     rw [this]; decide
    ·decide
   ·decide
  ·rintro e w' ⟨g, rfl, h, _, hb⟩
   rw [k_files] at h
   exact ⟨g, rfl, h, hb⟩
 ·refine (sliceSteps_any rB _ _ _ _ _ _ _ _ ⟨#[120]⟩ W hr' k_small (by decide)).mono ?_
  rintro e w' ⟨v, rfl, h, hb⟩
  obtain ⟨a, c, rfl⟩ := isInts_ret h (by rw [k_steps]; rfl : _ = 2)
  exact ⟨a, c, rfl, hb⟩
 ·refine (sliceReads_any rB _ _ _ _ _ _ _ _ ⟨#[120]⟩ W hr' k_small (by decide)).mono ?_
  rintro e w' ⟨v, rfl, h, hb⟩
  obtain ⟨a, c, rfl⟩ := isStrs_ret h k_reads
  exact ⟨a, c, rfl, hb⟩
 ·refine (sliceAll_any rB _ _ _ _ _ _ _ _ W hr' k_small).mono ?_
  rintro e w' ⟨v, rfl, h, hb⟩
  obtain ⟨a, c, rfl⟩ := isStrs_ret h k_readsAll
  exact ⟨a, c, rfl, hb⟩
 ·refine (sliceDead_any rB _ _ _ _ _ _ _ _ W hr' k_small).mono ?_
  rintro e w' ⟨v, rfl, h, hb⟩
  obtain ⟨a, c, rfl⟩ := isInts_ret h (by rw [k_dead]; rfl : _ = 0)
  exact ⟨a, c, rfl, hb⟩
 ·have := denoEq_any noV (false, ⟨#[63]⟩) W
  rw [k_eq] at this
  exact this
 ·have := checkRule_any rB _ _ _ _ _ _ _ _ W hr' k_small hM
  rw [k_rule] at this
  exact this
 ·have := stepMay_any ⟨⟨#[116]⟩, 3, [⟨#[97]⟩], [], 0⟩ (some ⟨n + 1 + 1, 0, none⟩) none 1 0 W hR.args (strsNil W)
  rw [k_may] at this
  exact this
 ·refine (stepLines_any ⟨#[97, 10, 10, 98]⟩ W (by decide)).mono ?_
  rintro e w' ⟨v, rfl, h, _, hb⟩
  obtain ⟨h1, h2 | ⟨g, cap, cur, rfl, _⟩⟩ := h
  ·rw [k_lines] at h2; exact absurd h2.2 (by decide)
  ·exact ⟨_, _, by rw [k_lines], hb⟩
end Go.Proofs.YtdhmeganlnpohaaGreatDoor
