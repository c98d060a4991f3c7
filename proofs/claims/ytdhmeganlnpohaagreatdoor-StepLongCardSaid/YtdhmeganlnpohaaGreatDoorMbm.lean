import Derived.Test.YtdhmeganlnpohaaGreatDoorMbl
import Derived.Test.YtdhmeganlnpohaaGreatDoorMbd
import Derived.Test.YtdhmeganlnpohaaGreatDoorMbe
namespace Go.Proofs.YtdhmeganlnpohaaGreatDoor
def nextsF (s : Nat) (way : List Nat) : List Nat → List (List Nat) → List Bool → Option (List (List Nat) × List Bool)
 | [], q, r => some (q, r)
 | x :: xs, q, r => if x = s then none else if r[x]? = some true then nextsF s way xs q r else nextsF s way xs (q ++ [way ++ [x]]) (r.set x true)
def bfsF (s : Nat) (nd : Nat → List Nat) : Nat → List (List Nat) → List Bool → List Nat
 | 0, _, _ => []
 | _ + 1, [], _ => []
 | n + 1, w :: q, r => match nextsF s w (nd (w.getLastD 0)) q r with
  | none => w
  | some (q', r') => bfsF s nd n q' r'
def roundP (s : Nat) (nd : Nat → List Nat) (N : Nat) : List Nat := bfsF s nd (N + 2) [[s]] (List.replicate N false)
def cntF (r : List Bool) : Nat := r.countP (· == false)
theorem cntF_made (N : Nat) : cntF (List.replicate N false) = N := by unfold cntF; rw [List.countP_replicate]; rfl
theorem cntF_set {r : List Bool} {x : Nat} (h : r[x]? = some false) : cntF (r.set x true) + 1 = cntF r := by
 unfold cntF
 obtain ⟨hl, e⟩ := List.getElem?_eq_some_iff.1 h
 rw [List.countP_set hl]
 rw [e]
 have : 0 < r.countP (· == false) := List.countP_pos_iff.2 ⟨false, by rw [← e]; exact List.getElem_mem _, by simp⟩
 simp only [beq_self_eq_true, if_true, show ((true : Bool) == false) = false from rfl, Bool.false_eq_true, if_false]
 omega
structure WaysOk (s : Nat) (nd : Nat → List Nat) (N : Nat) (q : List (List Nat)) (r : List Bool) : Prop where
 ne : ∀ w ∈ q, w ≠ []
 lt : ∀ w ∈ q, ∀ x ∈ w, x < N
 len : ∀ w ∈ q, w.length + cntF r ≤ N + 1
 many : q.length + cntF r ≤ N + 1
 size : r.length = N
theorem waysOk_first {s N : Nat} {nd : Nat → List Nat} (hs : s < N) : WaysOk s nd N [[s]] (List.replicate N false) := by
 refine ⟨?_, ?_, ?_, ?_, by simp⟩
 ·intro w hw; obtain rfl : w = [s] := by simpa using hw
  simp
 ·intro w hw x hx; obtain rfl : w = [s] := by simpa using hw
  obtain rfl : x = s := by simpa using hx
  exact hs
 ·intro w hw; obtain rfl : w = [s] := by simpa using hw
  rw [cntF_made]; simp; omega
 ·rw [cntF_made]; simp; omega
theorem WaysOk.tail {s N : Nat} {nd : Nat → List Nat} {w : List Nat} {q : List (List Nat)} {r : List Bool} (h : WaysOk s nd N (w :: q) r) : WaysOk s nd N q r :=
 ⟨fun x hx => h.ne x (by simp [hx]), fun x hx => h.lt x (by simp [hx]), fun x hx => h.len x (by simp [hx]), by have := h.many; simp only [List.length_cons] at this; omega, h.size⟩
theorem WaysOk.push {s N x : Nat} {nd : Nat → List Nat} {w : List Nat} {q : List (List Nat)} {r : List Bool} (h : WaysOk s nd N q r) (hw : w.length + cntF r ≤ N + 1) (hwl : ∀ y ∈ w, y < N) (hx : x < N) (hr : r[x]? = some false) : WaysOk s nd N (q ++ [w ++ [x]]) (r.set x true) := by
 have hc := cntF_set hr
 refine ⟨?_, ?_, ?_, ?_, by rw [List.length_set]; exact h.size⟩
 ·intro y hy
  rcases List.mem_append.1 hy with hy | hy
  ·exact h.ne y hy
  ·obtain rfl : y = w ++ [x] := by simpa using hy
   simp
 ·intro y hy z hz
  rcases List.mem_append.1 hy with hy | hy
  ·exact h.lt y hy z hz
  ·obtain rfl : y = w ++ [x] := by simpa using hy
   rcases List.mem_append.1 hz with hz | hz
   ·exact hwl z hz
   ·obtain rfl : z = x := by simpa using hz
    exact hx
 ·intro y hy
  rcases List.mem_append.1 hy with hy | hy
  ·have := h.len y hy; omega
  ·obtain rfl : y = w ++ [x] := by simpa using hy
   rw [List.length_append]; simp only [List.length_cons, List.length_nil]; omega
 ·have := h.many; rw [List.length_append]; simp only [List.length_cons, List.length_nil]; omega
def contF (s : Nat) (nd : Nat → List Nat) (m : Nat) (w : List Nat) : Option (List (List Nat) × List Bool) → List Nat
 | none => w
 | some p => bfsF s nd m p.1 p.2
theorem bfsF_cons (s : Nat) (nd : Nat → List Nat) (m : Nat) (w : List Nat) (q : List (List Nat)) (r : List Bool) : bfsF s nd (m + 1) (w :: q) r = contF s nd m w (nextsF s w (nd (w.getLastD 0)) q r) := by
 rw [bfsF]
 cases nextsF s w (nd (w.getLastD 0)) q r with
 | none => rfl
 | some p => rfl
end Go.Proofs.YtdhmeganlnpohaaGreatDoor
namespace Go.Proofs.YtdhmeganlnpohaaGreatDoor
inductive Rch (nd : Nat → List Nat) : Nat → Nat → Prop
 | one {a b : Nat} : b ∈ nd a → Rch nd a b
 | more {a b c : Nat} : Rch nd a b → c ∈ nd b → Rch nd a c
theorem Rch.trans {nd : Nat → List Nat} {a b c : Nat} (h : Rch nd a b) (k : Rch nd b c) : Rch nd a c := by
 induction k with
 | one h' => exact .more h h'
 | more _ h' ih => exact .more ih h'
theorem nextsF_some {s : Nat} {way : List Nat} : ∀ {xs : List Nat} {q : List (List Nat)} {r : List Bool} {q' : List (List Nat)} {r' : List Bool}, nextsF s way xs q r = some (q', r') → (∀ y ∈ xs, y < r.length) →
  (∀ x : Nat, r[x]? = some true → r'[x]? = some true) ∧ (∀ y ∈ xs, y ≠ s ∧ r'[y]? = some true) ∧ (∀ w ∈ q, w ∈ q') ∧ (∀ x : Nat, r'[x]? = some true → r[x]? = some true ∨ ∃ w ∈ q', w.getLastD 0 = x) ∧ q'.length + cntF r' = q.length + cntF r ∧ r'.length = r.length
 | [], q, r, q', r', h, _ => by
  obtain ⟨rfl, rfl⟩ : q = q' ∧ r = r' := by simpa [nextsF] using h
  exact ⟨fun _ h => h, fun y hy => by simp at hy, fun _ h => h, fun _ h => .inl h, rfl, rfl⟩
 | x :: xs, q, r, q', r', h, hl => by
  unfold nextsF at h
  by_cases h1 : x = s
  ·rw [if_pos h1] at h; cases h
  rw [if_neg h1] at h
  have hxl := hl x (by simp)
  by_cases h2 : r[x]? = some true
  ·rw [if_pos h2] at h
   obtain ⟨a, b, c, d, e, f⟩ := nextsF_some h (fun y hy => hl y (by simp [hy]))
   refine ⟨a, fun y hy => ?_, c, d, e, f⟩
   rcases List.mem_cons.1 hy with rfl | hy
   ·exact ⟨h1, a _ h2⟩
   ·exact b y hy
  ·rw [if_neg h2] at h
   have h2' : r[x]? = some false := by
    rw [List.getElem?_eq_getElem hxl] at h2 ⊢
    cases hb : r[x] with
    | true => rw [hb] at h2; exact absurd rfl h2
    | false => rfl
   obtain ⟨a, b, c, d, e, f⟩ := nextsF_some h (fun y hy => by rw [List.length_set]; exact hl y (by simp [hy]))
   have hset : (r.set x true)[x]? = some true := by rw [List.getElem?_set_self hxl]
   refine ⟨fun y hy => a y ?_, fun y hy => ?_, fun w hw => c w (by simp [hw]), fun y hy => ?_, ?_, by rw [f, List.length_set]⟩
   ·by_cases hxy : x = y
    ·subst hxy; exact hset
    ·rw [List.getElem?_set_ne hxy]; exact hy
   ·rcases List.mem_cons.1 hy with rfl | hy
    ·exact ⟨h1, a _ hset⟩
    ·exact b y hy
   ·rcases d y hy with h3 | h3
    ·by_cases hxy : x = y
     ·subst hxy; exact .inr ⟨way ++ [x], c _ (by simp), by simp⟩
     ·rw [List.getElem?_set_ne hxy] at h3; exact .inl h3
    ·exact .inr h3
   ·have := cntF_set h2'
    rw [e, List.length_append]; simp only [List.length_cons, List.length_nil]; omega
theorem bfsF_nil {s N : Nat} {nd : Nat → List Nat} (hnd : ∀ x < N, ∀ y ∈ nd x, y < N) (hs : s < N) : ∀ (n : Nat) (q : List (List Nat)) (r : List Bool), q.length + cntF r < n → r.length = N → (∀ w ∈ q, w ≠ []) → (∀ w ∈ q, w.getLastD 0 < N) →
    (∀ x : Nat, x < N → (x = s ∨ r[x]? = some true) → (∃ w ∈ q, w.getLastD 0 = x) ∨ ∀ y ∈ nd x, y ≠ s ∧ r[y]? = some true) → bfsF s nd n q r = [] → ¬ Rch nd s s
  | 0, q, r, h, _, _, _, _, _ => by omega
  | n + 1, [], r, _, hr, _, _, hI, _ => by
    have key : ∀ x, Rch nd s x → x < N ∧ x ≠ s ∧ r[x]? = some true := by
      intro x hx
      induction hx with
      | one h =>
        rename_i b
        rcases hI s hs (.inl rfl) with ⟨w, hw, _⟩ | h2
        · simp at hw
        · exact ⟨hnd s hs _ h, h2 _ h⟩
      | more _ h ih =>
        rename_i b c _
        obtain ⟨i1, _, i3⟩ := ih
        rcases hI b i1 (.inr i3) with ⟨w, hw, _⟩ | h2
        · simp at hw
        · exact ⟨hnd b i1 _ h, h2 _ h⟩
    exact fun h => (key s h).2.1 rfl
  | n + 1, w :: q, r, h, hr, hne, hlt, hI, he => by
    rw [bfsF] at he
    cases hx : nextsF s w (nd (w.getLastD 0)) q r with
    | none => rw [hx] at he; exact absurd he (hne w (by simp))
    | some p =>
      obtain ⟨q', r'⟩ := p
      rw [hx] at he
      simp only at he
      have hwl := hlt w (by simp)
      obtain ⟨a, b, c, d, e, f⟩ := nextsF_some hx (fun y hy => by rw [hr]; exact hnd _ hwl y hy)
      have hq' : ∀ v ∈ q', v ≠ [] ∧ v.getLastD 0 < N := by
        have : ∀ (xs : List Nat) (q : List (List Nat)) (r : List Bool), nextsF s w xs q r = some (q', r') → (∀ y ∈ xs, y < N) → (∀ v ∈ q, v ≠ [] ∧ v.getLastD 0 < N) → ∀ v ∈ q', v ≠ [] ∧ v.getLastD 0 < N := by
          intro xs
          induction xs with
          | nil => intro q r h _ hq; obtain ⟨rfl, rfl⟩ : q = q' ∧ r = r' := by simpa [nextsF] using h
                   exact hq
          | cons x xs ih =>
            intro q r h hy hq
            unfold nextsF at h
            split at h
            · cases h
            split at h
            · exact ih _ _ h (fun y hy' => hy y (by simp [hy'])) hq
            · refine ih _ _ h (fun y hy' => hy y (by simp [hy'])) ?_
              intro v hv
              rcases List.mem_append.1 hv with hv | hv
              · exact hq v hv
              · obtain rfl : v = w ++ [x] := by simpa using hv
                exact ⟨by simp, by simpa using hy x (by simp)⟩
        exact this _ _ _ hx (fun y hy => hnd _ hwl y hy) (fun v hv => ⟨hne v (by simp [hv]), hlt v (by simp [hv])⟩)
      refine bfsF_nil hnd hs n q' r' (by simp only [List.length_cons] at h; omega) (by rw [f, hr]) (fun v hv => (hq' v hv).1) (fun v hv => (hq' v hv).2) ?_ he
      intro x hxN hxr
      have hxr' : (x = s ∨ r[x]? = some true) ∨ ∃ w ∈ q', w.getLastD 0 = x := by
        rcases hxr with h | h
        · exact .inl (.inl h)
        · rcases d x h with h | h
          · exact .inl (.inr h)
          · exact .inr h
      rcases hxr' with h1 | h1
      · rcases hI x hxN h1 with ⟨v, hv, e⟩ | h2
        · rcases List.mem_cons.1 hv with rfl | hv
          · right; intro y hy; rw [e] at b; exact b y hy
          · exact .inl ⟨v, c v hv, e⟩
        · exact .inr fun y hy => ⟨(h2 y hy).1, a y (h2 y hy).2⟩
      · exact .inl h1
theorem roundP_nil {s N : Nat} {nd : Nat → List Nat} (hnd : ∀ x < N, ∀ y ∈ nd x, y < N) (hs : s < N) (h : roundP s nd N = []) : ¬ Rch nd s s := by
 have one : ∀ w ∈ [[s]], w = [s] := fun w hw => by simpa using hw
 refine bfsF_nil hnd hs (N + 2) [[s]] (List.replicate N false) (by rw [cntF_made]; simp; omega) (by simp) (fun w hw => by rw [one w hw]; simp) (fun w hw => by rw [one w hw]; simpa using hs) ?_ h
 intro x hx hxr
 rcases hxr with rfl | h
 ·exact .inl ⟨[x], by simp, by simp⟩
 ·rw [List.getElem?_replicate] at h; split at h <;> simp at h
noncomputable def rankN (nd : Nat → List Nat) (N x : Nat) : Nat := by
 classical exact (List.range N).countP fun y => decide (Rch nd x y)
theorem countP_lt {α : Type} {p q : α → Bool} : ∀ {l : List α} (_ : ∀ x ∈ l, p x = true → q x = true) {y : α} (_ : y ∈ l) (_ : p y = false) (_ : q y = true), l.countP p < l.countP q
 | [], _, y, hy, _, _ => by simp at hy
 | a :: l, h, y, hy, hp, hq => by
  rcases List.mem_cons.1 hy with rfl | hy
  ·rw [List.countP_cons_of_neg (by rw [hp]; simp), List.countP_cons_of_pos hq]
   exact Nat.lt_succ_of_le (List.countP_mono_left fun x hx => h x (by simp [hx]))
  ·have ih := countP_lt (fun x hx => h x (by simp [hx])) hy hp hq
   rw [List.countP_cons, List.countP_cons]
   have : (if p a = true then 1 else 0) ≤ (if q a = true then 1 else 0) := by
    by_cases hpa : p a = true
    ·rw [if_pos hpa, if_pos (h a (by simp) hpa)]; exact Nat.le_refl _
    ·rw [if_neg hpa]; exact Nat.zero_le _
   omega
theorem rankN_lt {nd : Nat → List Nat} {N : Nat} (hac : ∀ x < N, ¬ Rch nd x x) {x y : Nat} (hy : y < N) (h : y ∈ nd x) : rankN nd N y < rankN nd N x := by
 unfold rankN
 refine countP_lt (y := y) (fun z _ hz => ?_) (by simpa using hy) ?_ ?_
 ·simp only [decide_eq_true_eq] at hz ⊢
  exact (Rch.one h).trans hz
 ·simpa using hac y hy
 ·simpa using Rch.one h
end Go.Proofs.YtdhmeganlnpohaaGreatDoor
namespace Go.Proofs.YtdhmeganlnpohaaGreatDoor
theorem addS_full : ∀ {ks L : List ByteArray}, (addS L ks).length = L.length + ks.length → ks.Nodup ∧ ∀ k ∈ ks, k ∉ L
 | [], L, _ => ⟨List.nodup_nil, fun k hk => by simp at hk⟩
 | k :: ks, L, h => by
  have e : addS L (k :: ks) = addS (insS L k) ks := rfl
  rw [e] at h
  have h1 := addS_len ks (insS L k)
  have h2 := insS_len L k
  simp only [List.length_cons] at h
  have hk : k ∉ L := by
   intro hm
   have : insS L k = L := by unfold insS; rw [if_pos (inS_iff.2 hm)]
   rw [this] at h1 h
   omega
  have hi : insS L k = L ++ [k] := by unfold insS; rw [if_neg (fun h => hk (inS_iff.1 h))]
  obtain ⟨i1, i2⟩ := addS_full (ks := ks) (L := insS L k) (by omega)
  rw [hi] at i2
  refine ⟨List.nodup_cons.2 ⟨fun hm => i2 k hm (by simp), i1⟩, fun a ha => ?_⟩
  rcases List.mem_cons.1 ha with rfl | ha
  ·exact hk
  ·exact fun hm => i2 a ha (by simp [hm])
theorem foS_mem {rs : List RuleS} {a : ByteArray} : a ∈ foS rs ↔ ∃ r ∈ rs, a ∈ r.outs := by
 have h : ∀ (rs : List RuleS) (L : List ByteArray), a ∈ rs.foldl (fun L r => addS L r.outs) L ↔ a ∈ L ∨ ∃ r ∈ rs, a ∈ r.outs := by
  intro rs
  induction rs with
  | nil => intro L; simp
  | cons r rs ih => intro L; rw [List.foldl_cons, ih, addS_mem]; simp [or_assoc]
 unfold foS
 rw [h]; simp
theorem nmS_mem {rs : List RuleS} {a : ByteArray} : a ∈ nmS rs ↔ ∃ r ∈ rs, a = r.name := by
 have h : ∀ (rs : List RuleS) (L : List ByteArray), a ∈ rs.foldl (fun L r => addS L [r.name]) L ↔ a ∈ L ∨ ∃ r ∈ rs, a = r.name := by
  intro rs
  induction rs with
  | nil => intro L; simp
  | cons r rs ih => intro L; rw [List.foldl_cons, ih, addS_mem]; simp [or_assoc]
 unfold nmS
 rw [h]; simp
structure OkTog (rs : List RuleS) : Prop where
 each : ∀ r ∈ rs, ruleB r = 0
 few : rs.length ≤ 40
 names : ∀ (i j : Nat) x y, rs[i]? = some x → rs[j]? = some y → i < j → x.name ≠ y.name
 own : ∀ r ∈ rs, r.outs.Nodup
 files : ∀ (i j : Nat) x y, rs[i]? = some x → rs[j]? = some y → i < j → ∀ a ∈ x.outs, a ∉ y.outs
 after : ∀ r ∈ rs, ∀ a ∈ r.after, ∃ x ∈ rs, a = x.name
theorem range_none {n : Nat} {p : Nat → Bool} (h : (List.range n).find? p = none) {k : Nat} (hk : k < n) : p k = false := by
 have := List.find?_eq_none.1 h k (by simpa using hk)
 simpa using this
theorem okTog_of {rs : List RuleS} (h : (beforeB rs).1 = 0) : OkTog rs := by
 unfold beforeB at h
 cases h1 : rs.find? (fun r => !decide (ruleB r = 0)) with
 | some r =>
  rw [h1] at h
  have := List.find?_some h1
  simp only [Bool.not_eq_true', decide_eq_false_iff_not] at this
  exact absurd h this
 | none =>
  rw [h1] at h
  simp only at h
  split at h
  ·exact absurd h (by decide)
  rename_i hf
  cases h2 : (List.range rs.length).find? (takP rs) with
  | some k => rw [h2] at h; exact absurd (show (2 : Int) = 0 from h) (by decide)
  | none =>
   rw [h2] at h
   simp only at h
   cases h3 : (List.range rs.length).find? (astP rs) with
   | some k => rw [h3] at h; exact absurd (show (2 : Int) = 0 from h) (by decide)
   | none =>
    have hT : ∀ (k : Nat) x, rs[k]? = some x → x.name ∉ nmS (rs.take k) ∧ x.outs.Nodup ∧ ∀ a ∈ x.outs, a ∉ foS (rs.take k) := by
     intro k x hx
     have := range_none h2 (List.getElem?_eq_some_iff.1 hx).1
     unfold takP at this
     rw [hx] at this
     simp only [Option.map_some, Option.getD_some] at this
     unfold takB at this
     rw [Bool.or_eq_false_iff] at this
     obtain ⟨t1, t2⟩ := this
     simp only [Bool.not_eq_false', decide_eq_true_eq] at t2
     exact ⟨fun hm => (by rw [inS_iff.2 hm] at t1; exact absurd t1 (by decide)), addS_full t2⟩
    have hlow : ∀ {i j : Nat} {x : RuleS}, rs[i]? = some x → i < j → x ∈ rs.take j := fun {i j x} hx hij => List.mem_of_getElem? (i := i) (by rw [List.getElem?_take, if_pos hij]; exact hx)
    refine ⟨fun r hr => ?_, by omega, fun i j x y hx hy hij e => ?_, fun r hr => ?_, fun i j x y hx hy hij a ha hb => ?_, fun r hr a ha => ?_⟩
    ·have := List.find?_eq_none.1 h1 r hr
     simpa using this
    ·exact (hT j y hy).1 (nmS_mem.2 ⟨x, hlow hx hij, e.symm⟩)
    ·obtain ⟨k, hk⟩ := List.getElem?_of_mem hr
     exact (hT k r hk).2.1
    ·exact (hT j y hy).2.2 a hb (foS_mem.2 ⟨x, hlow hx hij, ha⟩)
    ·obtain ⟨k, hk⟩ := List.getElem?_of_mem hr
     have := range_none h3 (List.getElem?_eq_some_iff.1 hk).1
     unfold astP at this
     rw [hk] at this
     simp only [Option.map_some, Option.getD_some, Bool.not_eq_false', List.all_eq_true] at this
     exact nmS_mem.1 (inS_iff.1 (this a ha))
theorem updAll_some {ks : List ByteArray} {i j : Nat} {x : ByteArray} : ∀ {f : ByteArray → Option Nat}, updAll f ks i x = some j → (x ∈ ks ∧ j = i) ∨ (x ∉ ks ∧ f x = some j) := by
 induction ks with
 | nil => intro f h; exact .inr ⟨by simp, h⟩
 | cons k ks ih =>
  intro f h
  have e : updAll f (k :: ks) i = updAll (updF f k i) ks i := rfl
  rw [e] at h
  rcases ih h with ⟨h1, h2⟩ | ⟨h1, h2⟩
  ·exact .inl ⟨by simp [h1], h2⟩
  ·unfold updF at h2
   by_cases hk : k = x
   ·subst hk
    simp only [if_true] at h2
    exact .inl ⟨by simp, (Option.some.inj h2).symm⟩
   ·rw [if_neg hk] at h2
    exact .inr ⟨by simp [h1]; exact fun e => hk e.symm, h2⟩
theorem updAll_mem {ks : List ByteArray} {i : Nat} {x : ByteArray} (f : ByteArray → Option Nat) (h : x ∈ ks) : updAll f ks i x = some i := by
  cases e : updAll f ks i x with
  | some j => rcases updAll_some e with ⟨_, rfl⟩ | ⟨h1, _⟩
              · rfl
              · exact absurd h h1
  | none =>
    exfalso
    have : ∀ (ks : List ByteArray) (f : ByteArray → Option Nat), (x ∈ ks ∨ (f x).isSome = true) → (updAll f ks i x).isSome = true := by
      intro ks
      induction ks with
      | nil => intro f h; rcases h with h | h
               · simp at h
               · exact h
      | cons k ks ih =>
        intro f h
        show (updAll (updF f k i) ks i x).isSome = true
        apply ih
        by_cases hk : k = x
        · right; unfold updF; rw [if_pos hk]; rfl
        · rcases h with h | h
          · rcases List.mem_cons.1 h with rfl | h
            · exact absurd rfl hk
            · exact .inl h
          · right; unfold updF; rw [if_neg hk]; exact h
    have := this ks f (.inl h)
    rw [e] at this; cases this
theorem updAll_not {ks : List ByteArray} {i : Nat} {x : ByteArray} (f : ByteArray → Option Nat) (h : x ∉ ks) : updAll f ks i x = f x := by
 induction ks generalizing f with
 | nil => rfl
 | cons k ks ih =>
  show updAll (updF f k i) ks i x = f x
  rw [ih _ (fun h' => h (by simp [h']))]
  unfold updF
  rw [if_neg (fun e => h (by simp [e]))]
theorem mkrN_some {rs : List RuleS} {x : ByteArray} : ∀ {n j : Nat}, mkrN rs n x = some j → j < n ∧ x ∈ outsAt rs j
 | 0, j, h => by simp [mkrN] at h
 | n + 1, j, h => by
  rw [mkrN] at h
  rcases updAll_some h with ⟨h1, rfl⟩ | ⟨_, h2⟩
  ·exact ⟨Nat.lt_succ_self _, h1⟩
  ·have := mkrN_some h2; exact ⟨by omega, this.2⟩
theorem plcN_some {rs : List RuleS} {x : ByteArray} : ∀ {n j : Nat}, plcN rs n x = some j → j < n ∧ x = nmAt rs j
 | 0, j, h => by simp [plcN] at h
 | n + 1, j, h => by
  rw [plcN] at h
  unfold updF at h
  split at h
  ·rename_i e
   obtain rfl := Option.some.inj h
   exact ⟨Nat.lt_succ_self _, e.symm⟩
  ·have := plcN_some h; exact ⟨by omega, this.2⟩
theorem outsAt_of {rs : List RuleS} {k : Nat} {r : RuleS} (h : rs[k]? = some r) : outsAt rs k = r.outs := by unfold outsAt; rw [h]; rfl
theorem mkrN_of {rs : List RuleS} (hT : OkTog rs) {k : Nat} {r : RuleS} {x : ByteArray} (hr : rs[k]? = some r) (hx : x ∈ r.outs) : ∀ {n : Nat}, k < n → n ≤ rs.length → mkrN rs n x = some k
 | 0, h, _ => by omega
 | n + 1, h, hn => by
  rw [mkrN]
  by_cases e : k = n
  ·subst e
   rw [outsAt_of hr]
   exact updAll_mem _ hx
  ·obtain ⟨y, hy⟩ : ∃ y, rs[n]? = some y := ⟨rs[n]'(by omega), List.getElem?_eq_getElem _⟩
   rw [outsAt_of hy, updAll_not _ (hT.files k n r y hr hy (by omega) x hx)]
   exact mkrN_of hT hr hx (by omega) (by omega)
theorem plcN_of {rs : List RuleS} (hT : OkTog rs) {k : Nat} {r : RuleS} (hr : rs[k]? = some r) : ∀ {n : Nat}, k < n → n ≤ rs.length → plcN rs n r.name = some k
 | 0, h, _ => by omega
 | n + 1, h, hn => by
  rw [plcN]
  by_cases e : k = n
  ·subst e
   unfold updF nmAt
   rw [hr]; simp
  ·obtain ⟨y, hy⟩ : ∃ y, rs[n]? = some y := ⟨rs[n]'(by omega), List.getElem?_eq_getElem _⟩
   unfold updF nmAt
   rw [hy]
   simp only [Option.map_some, Option.getD_some]
   rw [if_neg (fun e => hT.names k n r y hr hy (by omega) e.symm)]
   exact plcN_of hT hr (by omega) (by omega)
theorem needL_mem {rs : List RuleS} {k j : Nat} : j ∈ needL rs k ↔ (∃ a ∈ insAt rs k, mkrN rs rs.length a = some j) ∨ ∃ a ∈ afterAt rs k, plcN rs rs.length a = some j := by
 unfold needL srtN
 rw [(List.mergeSort_perm _ _).mem_iff, List.mem_append, List.mem_filterMap, List.mem_filterMap]
theorem needL_lt {rs : List RuleS} {k j : Nat} (h : j ∈ needL rs k) : j < rs.length := by
 rcases needL_mem.1 h with ⟨a, _, h⟩ | ⟨a, _, h⟩
 ·exact (mkrN_some h).1
 ·exact (plcN_some h).1
def fcL (nd : Nat → List Nat) (N : Nat) : List Nat → List Nat
 | [] => []
 | s :: l => if roundP s nd N = [] then fcL nd N l else roundP s nd N
def firstC (rs : List RuleS) : List ByteArray := (fcL (needL rs) rs.length (List.range rs.length)).map (nmAt rs)
theorem fcL_nil {nd : Nat → List Nat} {N : Nat} : ∀ {l : List Nat}, fcL nd N l = [] → ∀ s ∈ l, roundP s nd N = []
 | [], _, s, hs => by simp at hs
 | a :: l, h, s, hs => by
  unfold fcL at h
  split at h
  ·rename_i h1
   rcases List.mem_cons.1 hs with rfl | hs
   ·exact h1
   ·exact fcL_nil h s hs
  ·rename_i h1; exact absurd h h1
theorem firstC_nil {rs : List RuleS} (h : firstC rs = []) : ∀ s, s < rs.length → ¬ Rch (needL rs) s s := by
 intro s hs
 have h1 : fcL (needL rs) rs.length (List.range rs.length) = [] := by simpa [firstC] using h
 exact roundP_nil (fun x _ y hy => needL_lt hy) hs (fcL_nil h1 s (by simpa using hs))
end Go.Proofs.YtdhmeganlnpohaaGreatDoor
namespace Go.Proofs.YtdhmeganlnpohaaGreatDoor
def valF (rs : List RuleS) (f : ByteArray → ByteArray × Bool) : Nat → ByteArray → ValT
 | 0, _ => noV
 | d + 1, x => match mkrN rs rs.length x with
  | none => ((f x).2, (f x).1)
  | some k => match rs[k]? with
   | none => noV
   | some r => (runP r (r.ins.map (valF rs f d))).getD (findI r.outs x).toNat noV
def fileV (rs : List RuleS) (f : ByteArray → ByteArray × Bool) : ByteArray → ValT := valF rs f (rs.length + 2)
structure IsMean (rs : List RuleS) (f : ByteArray → ByteArray × Bool) (V : ByteArray → ValT) (rk : Nat → Nat) : Prop where
 src : ∀ x, mkrN rs rs.length x = none → V x = ((f x).2, (f x).1)
 out : ∀ (k : Nat) r, rs[k]? = some r → ∀ (i : Nat) o, r.outs[i]? = some o → V o = (runP r (r.ins.map V)).getD i noV
 down : ∀ (k : Nat) r, rs[k]? = some r → ∀ a ∈ r.ins, ∀ j, mkrN rs rs.length a = some j → rk j < rk k
theorem valF_stab {rs : List RuleS} {f : ByteArray → ByteArray × Bool} {rk : Nat → Nat} (hd : ∀ (k : Nat) r, rs[k]? = some r → ∀ a ∈ r.ins, ∀ j, mkrN rs rs.length a = some j → rk j < rk k) :
  ∀ (d D : Nat) (x : ByteArray), d ≤ D → 1 ≤ d → (∀ k, mkrN rs rs.length x = some k → rk k + 1 < d) → valF rs f d x = valF rs f D x
 | 0, _, _, _, h, _ => by omega
 | d + 1, 0, _, h, _, _ => by omega
 | d + 1, D + 1, x, hD, _, hk => by
  rw [valF, valF]
  cases hm : mkrN rs rs.length x with
  | none => rfl
  | some k =>
   simp only
   cases hr : rs[k]? with
   | none => rfl
   | some r =>
    simp only
    have h1 := hk k hm
    have : r.ins.map (valF rs f d) = r.ins.map (valF rs f D) := by
     apply List.map_congr_left
     intro a ha
     exact valF_stab hd d D a (by omega) (by omega) (fun j hj => by have := hd k r hr a ha j hj; omega)
    rw [this]
theorem isMean_of {rs : List RuleS} {f : ByteArray → ByteArray × Bool} (hT : OkTog rs) (hC : ∀ s, s < rs.length → ¬ Rch (needL rs) s s) : IsMean rs f (fileV rs f) (rankN (needL rs) rs.length) := by
 have hd : ∀ (k : Nat) r, rs[k]? = some r → ∀ a ∈ r.ins, ∀ j, mkrN rs rs.length a = some j → rankN (needL rs) rs.length j < rankN (needL rs) rs.length k := by
  intro k r hr a ha j hj
  refine rankN_lt (fun x hx => hC x hx) (mkrN_some hj).1 (needL_mem.2 (.inl ⟨a, ?_, hj⟩))
  unfold insAt; rw [hr]; exact ha
 have hle : ∀ k, rankN (needL rs) rs.length k ≤ rs.length := by
  intro k
  unfold rankN
  have := List.countP_le_length (p := fun y => @decide (Rch (needL rs) k y) (Classical.propDecidable _)) (l := List.range rs.length)
  rw [List.length_range] at this
  exact this
 refine ⟨fun x hx => ?_, fun k r hr i o ho => ?_, hd⟩
 ·unfold fileV; rw [valF, hx]
 ·have hm := mkrN_of hT hr (List.mem_of_getElem? ho) (List.getElem?_eq_some_iff.1 hr).1 (Nat.le_refl _)
  have hi : findI r.outs o = (i : Int) := findI_nat ho fun j hj e => by
   have hn := hT.own r (List.mem_of_getElem? hr)
   obtain ⟨h1, e1⟩ := List.getElem?_eq_some_iff.1 ho
   obtain ⟨h2, e2⟩ := List.getElem?_eq_some_iff.1 e
   have := List.pairwise_iff_getElem.1 hn j i h2 h1 hj
   exact this (e2.trans e1.symm)
  have e : fileV rs f o = (runP r (r.ins.map (valF rs f (rs.length + 1)))).getD i noV := by
   unfold fileV
   rw [valF, hm]
   simp only
   rw [hr]
   simp only
   rw [hi]; rfl
  rw [e]
  have : r.ins.map (valF rs f (rs.length + 1)) = r.ins.map (fileV rs f) := by
   apply List.map_congr_left
   intro a ha
   exact valF_stab hd _ _ a (by omega) (by omega) (fun j hj => by have := hd k r hr a ha j hj; have := hle k; omega)
  rw [this]
end Go.Proofs.YtdhmeganlnpohaaGreatDoor
namespace Go.Proofs.YtdhmeganlnpohaaGreatDoor
open Go.RowKit Go.Shelf Go.Maps
def eqV (a b : ValT) : Bool := (a.1 == b.1) && (!a.1 || (a.2.toList == b.2.toList))
set_option maxHeartbeats 4000000
set_option maxRecDepth 100000
theorem denoEq_any (a b : ValT) (w : World) : Calls Tryz.prog 49 #[.agg #[.bool a.1, .string a.2], .agg #[.bool b.1, .string b.2]] w fun e w' => e = .returned (.bool (eqV a b)) ∧ Below w.heap.size w w' := by
 obtain ⟨p, x⟩ := a
 obtain ⟨q, y⟩ := b
 unfold eqV
 simp only
 cases p <;> cases q
 all_goals
  go_enter Tryz.func49, Tryz.ntmps49
  go_wp2
  go_ret
  exact ⟨by first | rfl | simp | (simp; rfl), ((Below.refl _ _).alloc (Nat.le_refl _) _).alloc (by simp) _⟩
end Go.Proofs.YtdhmeganlnpohaaGreatDoor
