/- Plain facts on stable sorting: what is sorted so is one list; merges; exchanges in a row; no program is spoken of. Rules in a row while they are sorted: the comparison, the exchange of ranges, the rotation. -/
import Derived.Sort.Defs
import Derived.Shelf.SlSortCmp.InsertionK
import Derived.Shelf.SlSortCmp.KitK
import Derived.Test.YtlmnabhhgplhnaaGreatDoorMcop
import Derived.Test.YtlmnabhhgplhnaaGreatDoorMwalk
import Derived.Test.YtlmnabhhgplhnaaGreatDoorMpar
namespace Go.Proofs.YtlmnabhhgplhnaaGreatDoor
open Go.Sort

section
variable {α : Type} (le : α → α → Bool)
def Srt (l : List α) : Prop := l.Pairwise fun a b => le a b = true
/-- Two that are alike in order. -/
def eqv (k x : α) : Bool := le k x && le x k
/-- ys is xs, stably sorted. -/
structure St (xs ys : List α) : Prop where
 sorted : Srt le ys
 same : ∀ k, ys.filter (eqv le k) = xs.filter (eqv le k)
/-- A total order, but for those that are alike. -/
structure Pre : Prop where
 tot : ∀ a b, le a b = true ∨ le b a = true
 tr : ∀ a b c, le a b = true → le b c = true → le a c = true
variable {le}
theorem Pre.rf (h : Pre le) (a : α) : le a a = true := by rcases h.tot a a with h | h <;> exact h
theorem Pre.not (h : Pre le) {a b : α} (hn : le a b = false) : le b a = true := by
 rcases h.tot a b with h' | h'
 ·rw [hn] at h'; cases h'
 ·exact h'
theorem mem_class (h : Pre le) {x : α} {xs ys : List α} (hs : ∀ k, ys.filter (eqv le k) = xs.filter (eqv le k)) (hx : x ∈ ys) : x ∈ xs := by
 have h1 : x ∈ ys.filter (eqv le x) := List.mem_filter.2 ⟨hx, by unfold eqv; rw [h.rf]; rfl⟩
 rw [hs] at h1
 exact (List.mem_filter.1 h1).1
theorem st_unique' (h : Pre le) : ∀ {ys zs : List α}, Srt le ys → Srt le zs → (∀ k, ys.filter (eqv le k) = zs.filter (eqv le k)) → ys = zs
 | [], [], _, _, _ => rfl
 | [], z :: zs, _, _, hs => by
  have := mem_class h (fun k => (hs k).symm) (show z ∈ z :: zs by simp)
  simp at this
 | y :: ys, [], _, _, hs => by
  have := mem_class h hs (show y ∈ y :: ys by simp)
  simp at this
 | y :: ys, z :: zs, h1, h2, hs => by
  have hy := mem_class h hs (show y ∈ y :: ys by simp)
  have hz := mem_class h (fun k => (hs k).symm) (show z ∈ z :: zs by simp)
  have p1 := List.pairwise_cons.1 h1
  have p2 := List.pairwise_cons.1 h2
  have l1 : le y z = true := by
   rcases List.mem_cons.1 hz with rfl | hz
   ·exact h.rf _
   ·exact p1.1 z hz
  have l2 : le z y = true := by
   rcases List.mem_cons.1 hy with rfl | hy
   ·exact h.rf _
   ·exact p2.1 y hy
  have key : ∀ k, eqv le k y = eqv le k z := by
   intro k
   unfold eqv
   rw [Bool.eq_iff_iff]
   simp only [Bool.and_eq_true]
   exact ⟨fun ⟨a, b⟩ => ⟨h.tr _ _ _ a l1, h.tr _ _ _ l2 b⟩, fun ⟨a, b⟩ => ⟨h.tr _ _ _ a l2, h.tr _ _ _ l1 b⟩⟩
  have hyy : eqv le y y = true := by unfold eqv; rw [h.rf]; rfl
  have hh := hs y
  rw [List.filter_cons_of_pos hyy, List.filter_cons_of_pos (by rw [← key]; exact hyy)] at hh
  injection hh with hh1 hh2
  subst hh1
  congr 1
  refine st_unique' h p1.2 p2.2 fun k => ?_
  have hk := hs k
  by_cases hp : eqv le k y = true
  ·rw [List.filter_cons_of_pos hp, List.filter_cons_of_pos hp] at hk
   injection hk
  ·rw [List.filter_cons_of_neg hp, List.filter_cons_of_neg hp] at hk
   exact hk
theorem St.unique (h : Pre le) {xs ys zs : List α} (h1 : St le xs ys) (h2 : St le xs zs) : ys = zs :=
 st_unique' h h1.sorted h2.sorted fun k => (h1.same k).trans (h2.same k).symm
theorem St.self {xs : List α} (h : Srt le xs) : St le xs xs := ⟨h, fun _ => rfl⟩
theorem St.trans {xs ys zs : List α} (h1 : ∀ k, ys.filter (eqv le k) = xs.filter (eqv le k)) (h2 : St le ys zs) : St le xs zs := ⟨h2.sorted, fun k => (h2.same k).trans (h1 k)⟩
theorem st_mergeSort (h : Pre le) (xs : List α) : St le xs (xs.mergeSort le) := by
 refine ⟨List.pairwise_mergeSort (fun a b c => h.tr a b c) (fun a b => by rcases h.tot a b with h | h <;> simp [h]) xs, fun k => ?_⟩
 have hsub : (xs.filter (eqv le k)).Sublist (xs.mergeSort le) := by
  refine List.sublist_mergeSort (fun a b c => h.tr a b c) (fun a b => by rcases h.tot a b with h | h <;> simp [h]) ?_ List.filter_sublist
  refine List.Pairwise.imp_of_mem ?_ (List.pairwise_of_forall (R := fun _ _ => True) fun _ _ => trivial)
  intro a b ha hb _
  have h1 := (List.mem_filter.1 ha).2
  have h2 := (List.mem_filter.1 hb).2
  unfold eqv at h1 h2
  simp only [Bool.and_eq_true] at h1 h2
  exact h.tr _ _ _ h1.2 h2.1
 have hsub2 := hsub.filter (eqv le k)
 rw [List.filter_filter] at hsub2
 simp only [Bool.and_self] at hsub2
 refine (hsub2.eq_of_length ?_).symm
 exact ((List.mergeSort_perm xs le).filter (eqv le k)).length_eq.symm

/-! ### Merges -/
theorem merge_srt (h : Pre le) {L R : List α} (hL : Srt le L) (hR : Srt le R) : Srt le (List.merge L R le) :=
 List.pairwise_merge (fun a b c => h.tr a b c) (fun a b => by rcases h.tot a b with h | h <;> simp [h]) L R hL hR
theorem merge_same (h : Pre le) (k : α) : ∀ (L R : List α), Srt le L → Srt le R → (List.merge L R le).filter (eqv le k) = L.filter (eqv le k) ++ R.filter (eqv le k)
 | [], R, _, _ => by simp
 | x :: L, [], _, _ => by simp
 | x :: L, y :: R, hL, hR => by
  have pL := List.pairwise_cons.1 hL
  have pR := List.pairwise_cons.1 hR
  rw [List.cons_merge_cons]
  by_cases hxy : le x y = true
  ·rw [if_pos hxy]
   have ih := merge_same h k L (y :: R) pL.2 hR
   by_cases hx : eqv le k x = true
   ·rw [List.filter_cons_of_pos hx, List.filter_cons_of_pos hx, ih, List.cons_append]
   ·rw [List.filter_cons_of_neg hx, List.filter_cons_of_neg hx, ih]
  ·rw [if_neg hxy]
   have ih := merge_same h k (x :: L) R hL pR.2
   have hyx := h.not (show le x y = false by simpa using hxy)
   by_cases hy : eqv le k y = true
   ·rw [List.filter_cons_of_pos hy, List.filter_cons_of_pos hy, ih]
    have h0 : (x :: L).filter (eqv le k) = [] := by
     rw [List.filter_eq_nil_iff]
     intro z hz hk
     unfold eqv at hy hk
     simp only [Bool.and_eq_true] at hy hk
     have h1 : le x z = true := by
      rcases List.mem_cons.1 hz with rfl | hz
      ·exact h.rf _
      ·exact pL.1 z hz
     exact hxy (h.tr _ _ _ h1 (h.tr _ _ _ hk.2 hy.1))
    rw [h0]; rfl
   ·rw [List.filter_cons_of_neg hy, List.filter_cons_of_neg hy, ih]
/-- Where the halves part, so do the merges. -/
theorem merge_split : ∀ (L1 L2 R1 R2 : List α), (∀ x ∈ L1, ∀ y ∈ R2, le x y = true) → (∀ x ∈ L2, ∀ y ∈ R1, le x y = false) → List.merge (L1 ++ L2) (R1 ++ R2) le = List.merge L1 R1 le ++ List.merge L2 R2 le
 | [], L2, [], R2, _, _ => by simp
 | [], [], y :: R1, R2, _, _ => by simp
 | [], x :: L2, y :: R1, R2, h1, h2 => by
  have hxy := h2 x (by simp) y (by simp)
  have ih := merge_split [] (x :: L2) R1 R2 (by simp) (fun a ha b hb => h2 a ha b (by simp [hb]))
  simp only [List.nil_append, List.cons_append] at ih ⊢
  rw [List.cons_merge_cons, if_neg (by rw [hxy]; decide), ih]
  simp
 | x :: L1, L2, [], [], _, _ => by simp
 | x :: L1, L2, [], y :: R2, h1, h2 => by
  have hxy := h1 x (by simp) y (by simp)
  have ih := merge_split L1 L2 [] (y :: R2) (fun a ha b hb => h1 a (by simp [ha]) b hb) (by simp)
  simp only [List.nil_append, List.cons_append] at ih ⊢
  rw [List.cons_merge_cons, if_pos hxy, ih]
  simp
 | x :: L1, L2, y :: R1, R2, h1, h2 => by
  simp only [List.cons_append]
  rw [List.cons_merge_cons, List.cons_merge_cons]
  by_cases hxy : le x y = true
  ·rw [if_pos hxy, if_pos hxy]
   have ih := merge_split L1 L2 (y :: R1) R2 (fun a ha b hb => h1 a (by simp [ha]) b hb) h2
   rw [List.cons_append] at ih
   rw [ih, List.cons_append]
  ·rw [if_neg hxy, if_neg hxy]
   have ih := merge_split (x :: L1) L2 R1 R2 h1 (fun a ha b hb => h2 a ha b (by simp [hb]))
   rw [List.cons_append] at ih
   rw [ih, List.cons_append]
termination_by L1 _ R1 R2 => L1.length + R1.length + R2.length
theorem srt_append {L R : List α} (h : Srt le (L ++ R)) : Srt le L ∧ Srt le R ∧ ∀ x ∈ L, ∀ y ∈ R, le x y = true := by
 have := List.pairwise_append.1 h
 exact ⟨this.1, this.2.1, this.2.2⟩
/-- Two blocks, one behind the other, merged: stably sorted. -/
theorem st_merge (h : Pre le) {L R : List α} (hL : Srt le L) (hR : Srt le R) : St le (L ++ R) (List.merge L R le) :=
 ⟨merge_srt h hL hR, fun k => by rw [merge_same h k L R hL hR, List.filter_append]⟩

theorem st_insert (h : Pre le) {S S1 S2 : List α} {x : α} (hS : Srt le S) (e : S = S1 ++ S2) (h2 : ∀ s ∈ S2, le s x = false) (h1 : ∀ s ∈ S1, le s x = true) : St le (S ++ [x]) (S1 ++ x :: S2) := by
 subst e
 obtain ⟨p1, p2, p3⟩ := srt_append hS
 refine ⟨List.pairwise_append.2 ⟨p1, List.pairwise_cons.2 ⟨fun s hs => h.not (h2 s hs), p2⟩, fun a ha b hb => ?_⟩, fun k => ?_⟩
 ·rcases List.mem_cons.1 hb with rfl | hb
  ·exact h1 a ha
  ·exact p3 a ha b hb
 ·rw [List.filter_append, List.filter_append, List.filter_append, List.append_assoc]
  congr 1
  by_cases hx : eqv le k x = true
  ·have h0 : S2.filter (eqv le k) = [] := by
    rw [List.filter_eq_nil_iff]
    intro z hz hk
    unfold eqv at hx hk
    simp only [Bool.and_eq_true] at hx hk
    have := h2 z hz
    rw [h.tr _ _ _ hk.2 hx.1] at this
    cases this
   rw [List.filter_cons_of_pos hx, h0]
   simp [hx]
  ·rw [List.filter_cons_of_neg hx]
   simp [hx]

/-! ### Blocks -/
/-- Sorted blocks of n each, and a last one of no more. -/
inductive Blk (le : α → α → Bool) (n : Nat) : List α → Prop
 | last (l : List α) : l.length ≤ n → Srt le l → Blk le n l
 | cons (b l : List α) : b.length = n → Srt le b → Blk le n l → Blk le n (b ++ l)
inductive Ful (le : α → α → Bool) (n : Nat) : List α → Prop
 | nil : Ful le n []
 | cons (b l : List α) : b.length = n → Srt le b → Ful le n l → Ful le n (b ++ l)
theorem Ful.snoc {n : Nat} {l b : List α} (h : Ful le n l) (hb : b.length = n) (hs : Srt le b) : Ful le n (l ++ b) := by
 induction h with
 | nil => simpa using Ful.cons b [] hb hs .nil
 | cons c l hc hs' _ ih => rw [List.append_assoc]; exact Ful.cons c _ hc hs' ih
theorem Ful.blk {n : Nat} {l t : List α} (h : Ful le n l) (ht : Blk le n t) : Blk le n (l ++ t) := by
 induction h with
 | nil => exact ht
 | cons c l hc hs' _ ih => rw [List.append_assoc]; exact Blk.cons c _ hc hs' ih
theorem Blk.one {n : Nat} {l : List α} (h : Blk le n l) (hl : l.length ≤ n) : Srt le l := by
 cases h with
 | last _ _ hs => exact hs
 | cons b l hb hs hl' =>
  have : l = [] := List.eq_nil_of_length_eq_zero (by rw [List.length_append] at hl; omega)
  subst this
  simpa using hs
theorem Blk.front {n : Nat} {l : List α} (h : Blk le n l) (hl : n < l.length) : ∃ b t, l = b ++ t ∧ b.length = n ∧ Srt le b ∧ Blk le n t := by
 cases h with
 | last _ h _ => omega
 | cons b t hb hs ht => exact ⟨b, t, rfl, hb, hs, ht⟩
/-- Two whole blocks ahead. -/
theorem Blk.two {n : Nat} {l : List α} (h : Blk le n l) (h0 : 0 < n) (hl : 2 * n ≤ l.length) : ∃ b c t, l = b ++ c ++ t ∧ b.length = n ∧ c.length = n ∧ Srt le b ∧ Srt le c ∧ Blk le n t := by
 obtain ⟨b, t, rfl, hb, hs, ht⟩ := h.front (by omega)
 rw [List.length_append] at hl
 by_cases hlt : n < t.length
 ·obtain ⟨c, u, rfl, hc, hs2, hu⟩ := ht.front hlt
  exact ⟨b, c, u, by rw [List.append_assoc], hb, hc, hs, hs2, hu⟩
 ·have h1 := ht.one (by omega)
  exact ⟨b, t, [], by simp, hb, by omega, hs, h1, Blk.last [] (by simp) (by simp [Srt])⟩
end

/-! ### Exchanges in a row -/
section
variable {α : Type} [Inhabited α]
theorem swp_list (A B C : List α) (x y : α) : swp (A ++ x :: (B ++ y :: C)).toArray A.length (A.length + 1 + B.length) = (A ++ y :: (B ++ x :: C)).toArray := by
 unfold swp
 have h1 : (A ++ x :: (B ++ y :: C)).toArray[A.length]! = x := by simp
 have h2 : (A ++ x :: (B ++ y :: C)).toArray[A.length + 1 + B.length]! = y := by
  rw [show A ++ x :: (B ++ y :: C) = (A ++ x :: B) ++ y :: C by simp]
  simp [Nat.add_assoc, Nat.add_comm 1]
 rw [h1, h2]
 apply Array.ext'
 simp only [Array.toList_setIfInBounds]
 rw [List.set_append_right _ _ (Nat.le_refl _), Nat.sub_self, List.set_cons_zero]
 rw [show A ++ y :: (B ++ y :: C) = (A ++ y :: B) ++ y :: C by simp, List.set_append_right _ _ (by simp; omega)]
 simp only [List.length_append, List.length_cons]
 rw [show A.length + 1 + B.length - (A.length + (B.length + 1)) = 0 by omega, List.set_cons_zero]
 simp
theorem swp_comm (d : Array α) (i j : Nat) : swp d i j = swp d j i := by
 unfold swp
 by_cases h : i = j
 ·subst h; rfl
 ·rw [Array.setIfInBounds_comm _ _ h]

/-! ### Sorting by insertion -/
variable {le : α → α → Bool} {lt : α → α → Bool} (hlt : ∀ a b, lt a b = !le b a)
include hlt
/-- One element goes ahead of those that are greater. -/
theorem insInner_list (h : Pre le) : ∀ (S A C : List α) (x : α), Srt le S → ∃ S1 S2, S = S1 ++ S2 ∧ insInner lt A.length (A.length + S.length) (A ++ S ++ x :: C).toArray = (A ++ (S1 ++ x :: S2) ++ C).toArray ∧ (∀ s ∈ S2, le s x = false) ∧ (∀ s ∈ S1, le s x = true) := by
 intro S
 induction hn : S.length generalizing S with
 | zero =>
  intro A C x _
  obtain rfl := List.eq_nil_of_length_eq_zero hn
  refine ⟨[], [], rfl, ?_, by simp, by simp⟩
  rw [List.append_nil, Nat.add_zero]
  cases hA : A.length with
  | zero => simp [insInner]
  | succ k => rw [insInner, if_neg (by simp)]; simp
 | succ n ih =>
  intro A C x hS
  obtain ⟨S', s, rfl⟩ : ∃ S' s, S = S' ++ [s] := by
   rcases List.eq_nil_or_concat S with rfl | ⟨S', s, rfl⟩
   ·simp at hn
   ·exact ⟨S', s, by simp⟩
  have hl : S'.length = n := by simpa using hn
  obtain ⟨p1, p2, p3⟩ := srt_append hS
  rw [show A.length + (n + 1) = (A.length + n) + 1 by omega, insInner]
  have g1 : (A ++ (S' ++ [s]) ++ x :: C).toArray[A.length + n + 1]! = x := by
   rw [show A ++ (S' ++ [s]) ++ x :: C = (A ++ S' ++ [s]) ++ x :: C by simp]
   have : (A ++ S' ++ [s]).length = A.length + n + 1 := by simp [hl]; omega
   rw [← this]; simp
  have g2 : (A ++ (S' ++ [s]) ++ x :: C).toArray[A.length + n]! = s := by
   rw [show A ++ (S' ++ [s]) ++ x :: C = (A ++ S') ++ s :: (x :: C) by simp]
   have : (A ++ S').length = A.length + n := by simp [hl]
   rw [← this]; simp
  rw [g1, g2, hlt]
  by_cases hsx : le s x = true
  ·rw [if_neg (by rw [hsx]; simp)]
   refine ⟨S' ++ [s], [], by simp, by simp, by simp, fun y hy => ?_⟩
   rcases List.mem_append.1 hy with hy | hy
   ·exact h.tr _ _ _ (p3 y hy s (by simp)) hsx
   ·simp at hy; subst hy; exact hsx
  ·have hsx' : le s x = false := by simpa using hsx
   rw [if_pos (by rw [hsx']; simp; omega)]
   have hsw : swp (A ++ (S' ++ [s]) ++ x :: C).toArray (A.length + n + 1) (A.length + n) = (A ++ S' ++ x :: (s :: C)).toArray := by
    rw [swp_comm]
    have := swp_list (A ++ S') [] C s x
    simp only [List.length_append, hl, List.length_nil, Nat.add_zero, List.nil_append] at this
    rw [show A ++ (S' ++ [s]) ++ x :: C = A ++ S' ++ s :: x :: C by simp]
    exact this
   rw [hsw]
   obtain ⟨S1, S2, e, hi, k1, k2⟩ := ih S' hl A (s :: C) x p1
   rw [hi]
   refine ⟨S1, S2 ++ [s], by rw [e, List.append_assoc], by simp, fun y hy => ?_, k2⟩
   rcases List.mem_append.1 hy with hy | hy
   ·exact k1 y hy
   ·simp at hy; subst hy; exact hsx'
theorem insOuter_list (h : Pre le) : ∀ (M S A C : List α), Srt le S → ∃ T, insOuter lt A.length (A.length + S.length + M.length) (A.length + S.length) (A ++ S ++ M ++ C).toArray = (A ++ T ++ C).toArray ∧ St le (S ++ M) T
 | [], S, A, C, hS => ⟨S, by rw [insOuter, if_neg (by simp)]; simp, by simpa using St.self hS⟩
 | x :: M, S, A, C, hS => by
  obtain ⟨S1, S2, e, hi, h2, h1⟩ := insInner_list hlt h S A (M ++ C) x hS
  have hst := st_insert h hS e h2 h1
  have hl : (S1 ++ x :: S2).length = S.length + 1 := by rw [e]; simp; omega
  obtain ⟨T, hT, hTs⟩ := insOuter_list h M (S1 ++ x :: S2) A C hst.sorted
  refine ⟨T, ?_, ⟨hTs.sorted, fun k => ?_⟩⟩
  ·rw [insOuter, if_pos (by simp)]
   rw [show A ++ S ++ x :: M ++ C = A ++ S ++ x :: (M ++ C) by simp, hi]
   rw [hl] at hT
   rw [show A.length + S.length + (x :: M).length = A.length + (S.length + 1) + M.length by simp; omega, show A.length + S.length + 1 = A.length + (S.length + 1) by omega]
   rw [show A ++ (S1 ++ x :: S2) ++ (M ++ C) = A ++ (S1 ++ x :: S2) ++ M ++ C by simp]
   exact hT
  ·rw [hTs.same k, List.filter_append, hst.same k, ← List.filter_append]
   simp
/-- A block of a row, sorted by insertion. -/
theorem insertion_list (h : Pre le) (A M C : List α) : ∃ T, insertionSort lt (A ++ M ++ C).toArray A.length (A.length + M.length) = (A ++ T ++ C).toArray ∧ St le M T := by
 cases M with
 | nil =>
  refine ⟨[], ?_, St.self (by simp [Srt])⟩
  unfold insertionSort
  rw [insOuter, if_neg (by simp)]
 | cons x M =>
  obtain ⟨T, hT, hs⟩ := insOuter_list hlt h M [x] A C (by simp [Srt])
  refine ⟨T, ?_, hs⟩
  unfold insertionSort
  rw [show A.length + (x :: M).length = A.length + [x].length + M.length by simp; omega]
  rw [show A ++ x :: M ++ C = A ++ [x] ++ M ++ C by simp]
  exact hT
end
end Go.Proofs.YtlmnabhhgplhnaaGreatDoor
namespace Go.Proofs.YtlmnabhhgplhnaaGreatDoor
open Go.RowKit Go.Shelf Go.Sort

/-- A rule's five cells. -/
abbrev S3 := Option Addr × Nat × Nat
abbrev E5 := ByteArray × S3 × S3 × S3 × S3
instance : Inhabited E5 := ⟨(⟨#[]⟩, (none, 0, 0), (none, 0, 0), (none, 0, 0), (none, 0, 0))⟩
def enc5 (x : E5) : List Value := [.string x.1, .slice x.2.1.1 x.2.1.2.1 x.2.1.2.2, .slice x.2.2.1.1 x.2.2.1.2.1 x.2.2.1.2.2, .slice x.2.2.2.1.1 x.2.2.2.1.2.1 x.2.2.2.1.2.2, .slice x.2.2.2.2.1 x.2.2.2.2.2.1 x.2.2.2.2.2.2]
def cf5 (x y : E5) : Int := Lib.compareBytes x.1.data.toList y.1.data.toList
def le5 (x y : E5) : Bool := decide (cf5 x y ≤ 0)
theorem cf_anti (x y : E5) : cf5 y x = - cf5 x y := cmp_anti _ _
theorem lt_le (x y : E5) : ltOf cf5 x y = !le5 y x := by
 unfold ltOf le5
 rw [cf_anti x y]
 by_cases h : cf5 x y < 0
 ·have : ¬ -cf5 x y ≤ 0 := by omega
  simp [h, this]
 ·have : -cf5 x y ≤ 0 := by omega
  simp [h, this]
theorem pre5 : Pre le5 := by
 refine ⟨fun a b => ?_, fun a b c h1 h2 => ?_⟩
 ·unfold le5
  rw [cf_anti a b]
  simp only [decide_eq_true_eq]
  omega
 ·unfold le5 at h1 h2 ⊢
  simp only [decide_eq_true_eq] at h1 h2 ⊢
  by_cases e1 : cf5 a b = 0
  ·have := cmp_zero _ _ e1
   unfold cf5 at h2 ⊢
   rw [this]; exact h2
  ·by_cases e2 : cf5 b c = 0
   ·have := cmp_zero _ _ e2
    unfold cf5 at h1 ⊢
    rw [← this]; exact h1
   ·have := cmp_trans a.1.data.toList b.1.data.toList c.1.data.toList (by show cf5 a b < 0; omega) (by show cf5 b c < 0; omega)
    show cf5 a c ≤ 0
    have h3 : cf5 a c < 0 := this
    omega
/-- The row while it is sorted. -/
def SWL (w0 : World) (blk : Nat) (l : List E5) (W : World) : Prop := SWK enc5 5 w0 blk 0 l.toArray W
/-- What the sort is told of the row. -/
def R5 (w0 : World) (blk n : Nat) : Prop := ∃ d0 : Array E5, d0.size = n ∧ RowK enc5 5 w0 blk 0 d0
theorem enc5_len (x : E5) : (enc5 x).length = 5 := rfl
theorem enc5_one (x : E5) : ∀ v ∈ enc5 x, v.oneCell' = true := by
 intro v hv
 unfold enc5 at hv
 simp at hv
 rcases hv with rfl | rfl | rfl | rfl | rfl <;> rfl
section
variable {w0 W : World} {blk : Nat} {l : List E5}
theorem SWL.holds (h : SWL w0 blk l W) (R : R5 w0 blk l.length) : HoldsK enc5 5 W blk 0 l.toArray := by
 obtain ⟨d0, hd, R⟩ := R
 exact SWK.holds h R.hblk R.hH (by simpa using hd.symm)
theorem SWL.at (h : SWL w0 blk l W) (R : R5 w0 blk l.length) {i : Nat} {x : E5} (hx : l[i]? = some x) :
  (W.cell? ⟨blk, i * 5, none⟩ = some (.string x.1) ∧ W.cell? ⟨blk, i * 5 + 1, none⟩ = some (.slice x.2.1.1 x.2.1.2.1 x.2.1.2.2) ∧ W.cell? ⟨blk, i * 5 + 2, none⟩ = some (.slice x.2.2.1.1 x.2.2.1.2.1 x.2.2.1.2.2) ∧ W.cell? ⟨blk, i * 5 + 3, none⟩ = some (.slice x.2.2.2.1.1 x.2.2.2.1.2.1 x.2.2.2.1.2.2) ∧ W.cell? ⟨blk, i * 5 + 4, none⟩ = some (.slice x.2.2.2.2.1 x.2.2.2.2.2.1 x.2.2.2.2.2.2)) ∧
   W.frozen? ⟨blk, i * 5, none⟩ = false ∧ W.frozen? ⟨blk, i * 5 + 1, none⟩ = false ∧ W.frozen? ⟨blk, i * 5 + 2, none⟩ = false ∧ W.frozen? ⟨blk, i * 5 + 3, none⟩ = false ∧ W.frozen? ⟨blk, i * 5 + 4, none⟩ = false := by
 have hh := h.holds R
 have hi := (List.getElem?_eq_some_iff.1 hx).1
 have hd : l.toArray[i]! = x := by simp [hx]
 have key : ∀ c, c < 5 → W.cell? ⟨blk, i * 5 + c, none⟩ = some (enc5 x)[c]! ∧ W.frozen? ⟨blk, i * 5 + c, none⟩ = false := fun c hc => by
  have := HoldsK.cell hh (i := i) (c := c) (by simpa using hi) hc
  rw [hd] at this
  simpa using this
 exact ⟨⟨(key 0 (by omega)).1, (key 1 (by omega)).1, (key 2 (by omega)).1, (key 3 (by omega)).1, (key 4 (by omega)).1⟩, (key 0 (by omega)).2, (key 1 (by omega)).2, (key 2 (by omega)).2, (key 3 (by omega)).2, (key 4 (by omega)).2⟩
theorem SWL.le (h : SWL w0 blk l W) : w0.heap.size ≤ W.heap.size := SWK.le h
theorem SWL.drewN (h : SWL w0 blk l W) (n : Nat) : SWL w0 blk l (W.drewN n) := SWK.drewN h n
theorem SWL.drew (h : SWL w0 blk l W) : SWL w0 blk l W.drew := SWK.drew h
theorem SWL.alloc (h : SWL w0 blk l W) (o : Obj) : SWL w0 blk l (W.alloc o) := SWK.alloc h o
/-- A rule's cells, stored. -/
def put5 (W : World) (blk i : Nat) (x : E5) : World := ((((W.setCell ⟨blk, i * 5, none⟩ (.string x.1)).setCell ⟨blk, i * 5 + 1, none⟩ (.slice x.2.1.1 x.2.1.2.1 x.2.1.2.2)).setCell ⟨blk, i * 5 + 2, none⟩ (.slice x.2.2.1.1 x.2.2.1.2.1 x.2.2.1.2.2)).setCell ⟨blk, i * 5 + 3, none⟩ (.slice x.2.2.2.1.1 x.2.2.2.1.2.1 x.2.2.2.1.2.2)).setCell ⟨blk, i * 5 + 4, none⟩ (.slice x.2.2.2.2.1 x.2.2.2.2.2.1 x.2.2.2.2.2.2)
theorem put5_cells (W : World) (blk i : Nat) (x : E5) : W.setCells blk (0 + i * 5) (enc5 x) = put5 W blk i x := by
 rw [Nat.zero_add]; rfl
theorem setCell_drew (W : World) (a : Addr) (v : Value) : W.drew.setCell a v = (W.setCell a v).drew := rfl
theorem put5_drew (W : World) (blk i : Nat) (x : E5) : put5 W.drew blk i x = (put5 W blk i x).drew := by
 unfold put5; simp only [setCell_drew]
theorem SWL.swapped {A B C : List E5} {x y : E5} (h : SWL w0 blk (A ++ x :: (B ++ y :: C)) W) (R : R5 w0 blk (A ++ x :: (B ++ y :: C)).length) :
  SWL w0 blk (A ++ y :: (B ++ x :: C)) (put5 (put5 W blk A.length y) blk (A.length + 1 + B.length) x).drew := by
 rw [← put5_drew, ← put5_drew]
 obtain ⟨d0, hd, R⟩ := R
 have h1 := SWK.swapped h R A.length (A.length + 1 + B.length) (by simp) (by simp; omega)
 have g1 : (A ++ x :: (B ++ y :: C)).toArray[A.length]! = x := by simp
 have g2 : (A ++ x :: (B ++ y :: C)).toArray[A.length + 1 + B.length]! = y := by
  rw [show A ++ x :: (B ++ y :: C) = (A ++ x :: B) ++ y :: C by simp]
  simp [Nat.add_assoc, Nat.add_comm 1]
 rw [g1, g2, swp_list, put5_cells, put5_cells] at h1
 exact h1
end
/-- The comparison. -/
theorem cmp5_any (x y : E5) (w : World) :
  Calls Tryz.prog 47 #[.agg (enc5 x).toArray, .agg (enc5 y).toArray] w fun e w' => e = .returned (.int .i64 (cf5 x y)) ∧ w' = (w.alloc (.cells (enc5 x).toArray 38)).alloc (.cells (enc5 y).toArray 38) := by
 have hc := fun w' => compare_c x.1 y.1 w'
 obtain ⟨r, hr⟩ : ∃ r, cf5 x y = r := ⟨_, rfl⟩
 have hr2 : Lib.compareBytes x.1.data.toList y.1.data.toList = r := hr
 simp only [hr2] at hc
 have CC := Lib.hid hc
 rw [hr]
 unfold enc5
 clear hr hr2 hc
 go_enter Tryz.func47, Tryz.ntmps47
 go_wp2_with fail
 refine (CC.out _).mono ?_
 rintro e w2 ⟨rfl, rfl⟩
 go_wp2
 go_ret
 exact ⟨rfl, rfl⟩

set_option maxHeartbeats 4000000 in
set_option maxRecDepth 100000 in
theorem swapRange_c (w0 : World) (blk cap : Nat) (X P Y Q Z : List E5) (W : World) (R : R5 w0 blk (X ++ P ++ Y ++ Q ++ Z).length) (h : SWL w0 blk (X ++ P ++ Y ++ Q ++ Z) W) (hPQ : P.length = Q.length) (hn : (X ++ P ++ Y ++ Q ++ Z).length ≤ 1048576) (f : Value) :
  Calls Tryz.prog 174 #[.slice (some ⟨blk, 0, none⟩) (X ++ P ++ Y ++ Q ++ Z).length cap, .int .i64 (X.length : Int), .int .i64 ((X.length + P.length + Y.length : Nat) : Int), .int .i64 (P.length : Int), f] W fun e w' => e = .returned (.tuple #[]) ∧ SWL w0 blk (X ++ Q ++ Y ++ P ++ Z) w' := by
 obtain ⟨n, hnl⟩ : ∃ n, (X ++ P ++ Y ++ Q ++ Z).length = n := ⟨_, rfl⟩
 have hlen : X.length + P.length + Y.length + Q.length + Z.length = n := by rw [← hnl]; simp only [List.length_append]
 rw [hnl] at R hn ⊢
 obtain ⟨px, hpx⟩ : ∃ k, X.length = k := ⟨_, rfl⟩
 obtain ⟨pp, hpp⟩ : ∃ k, P.length = k := ⟨_, rfl⟩
 obtain ⟨py, hpy⟩ : ∃ k, Y.length = k := ⟨_, rfl⟩
 have hqq : Q.length = pp := by omega
 have H0 := Lib.hid h
 have HR := Lib.hid R
 have HX := Lib.hid hpx; have HP := Lib.hid hpp; have HY := Lib.hid hpy; have HQ := Lib.hid hqq; have HN := Lib.hid hnl
 have hb1 : px + pp + py + pp ≤ n := by omega
 rw [hpx, hpp, hpy]
 clear h R hPQ hlen hpx hpp hpy hqq hnl
 go_enter Tryz.func174, Tryz.ntmps174
 go_wp2
 go_loopw [10] (fun i wr => ∃ (k : Nat) (P1 P2 Q1 Q2 : List E5), k ≤ pp ∧ i = .int .i64 (k : Int) ∧ P = P1 ++ P2 ∧ Q = Q1 ++ Q2 ∧ P1.length = k ∧ Q1.length = k ∧ SWL w0 blk (X ++ Q1 ++ P2 ++ Y ++ P1 ++ Q2 ++ Z) wr) (fun i _ => pp - (intOf i).toNat)
 case atStart => exact ⟨0, [], P, [], Q, Nat.zero_le _, rfl, rfl, rfl, rfl, rfl, by simpa using H0.out⟩
 case round =>
  obtain ⟨k, P1, P2, Q1, Q2, hk, rfl, hP, hQ, hp1, hq1, hs⟩ := hrel
  have HPE := Lib.hid hP
  have HQE := Lib.hid hQ
  by_cases hlt : k < pp
  ·obtain ⟨x, P3, hx⟩ : ∃ x r, P2 = x :: r := by
    cases P2 with
    | nil => have := congrArg List.length hP; rw [HP.out, List.append_nil, hp1] at this; omega
    | cons x r => exact ⟨x, r, rfl⟩
   obtain ⟨y, Q3, hy⟩ : ∃ x r, Q2 = x :: r := by
    cases Q2 with
    | nil => have := congrArg List.length hQ; rw [HQ.out, List.append_nil, hq1] at this; omega
    | cons x r => exact ⟨x, r, rfl⟩
   subst hx hy
   obtain ⟨A, hA⟩ : ∃ A, X ++ Q1 = A := ⟨_, rfl⟩
   obtain ⟨B, hB⟩ : ∃ B, P3 ++ Y ++ P1 = B := ⟨_, rfl⟩
   obtain ⟨C, hC⟩ : ∃ C, Q3 ++ Z = C := ⟨_, rfl⟩
   have e1 : X ++ Q1 ++ x :: P3 ++ Y ++ P1 ++ y :: Q3 ++ Z = A ++ x :: (B ++ y :: C) := by rw [← hA, ← hB, ← hC]; simp
   have e2 : A ++ y :: (B ++ x :: C) = X ++ (Q1 ++ [y]) ++ P3 ++ Y ++ (P1 ++ [x]) ++ Q3 ++ Z := by rw [← hA, ← hB, ← hC]; simp
   have hAl : A.length = px + k := by rw [← hA, List.length_append, HX.out, hq1]
   have hp3 : P3.length + 1 + k = pp := by
    have := congrArg List.length hP
    rw [HP.out, List.length_append, hp1, List.length_cons] at this
    omega
   have hBl : A.length + 1 + B.length = px + pp + py + k := by
    rw [hAl, ← hB, List.length_append, List.length_append, HY.out, hp1]; omega
   rw [e1] at hs
   have hln : (A ++ x :: (B ++ y :: C)).length = n := by
    rw [← e1, ← HN.out, HPE.out, HQE.out]
    simp only [List.length_append, List.length_cons, hp1, hq1]
    omega
   have hR : R5 w0 blk (A ++ x :: (B ++ y :: C)).length := by rw [hln]; exact HR.out
   have hat1 := hs.at hR (i := px + k) (x := x) (by rw [← hAl]; simp)
   have hat2 := hs.at hR (i := px + pp + py + k) (x := y) (by
    rw [← hBl, show A ++ x :: (B ++ y :: C) = (A ++ x :: B) ++ y :: C by simp, List.getElem?_append_right (by simp; omega)]
    simp only [List.length_append, List.length_cons]
    rw [show A.length + 1 + B.length - (A.length + (B.length + 1)) = 0 by omega]; rfl)
   have hsw := hs.swapped hR
   rw [hAl] at hsw
   rw [hAl] at hBl
   rw [hBl, e2] at hsw
   have HSW := Lib.hid hsw
   have HP1 := Lib.hid hp1; have HQ1 := Lib.hid hq1
   obtain ⟨⟨c0, c1, c2, c3, c4⟩, m0, m1, m2, m3, m4⟩ := hat1
   obtain ⟨⟨d0, d1, d2, d3, d4⟩, n0, n1, n2, n3, n4⟩ := hat2
   obtain ⟨x1, ⟨xa, xn, xc⟩, ⟨ya, yn, yc⟩, ⟨za, zn, zc⟩, ⟨ta, tn, tc⟩⟩ := x
   obtain ⟨y1, ⟨xa', xn', xc'⟩, ⟨ya', yn', yc'⟩, ⟨za', zn', zc'⟩, ⟨ta', tn', tc'⟩⟩ := y
   simp only at c0 c1 c2 c3 c4 d0 d1 d2 d3 d4
   have i1 : (k : Int) < (pp : Int) := by omega
   have j1 : (0 : Int) ≤ (px : Int) + (k : Int) := by omega
   have j2 : (px : Int) + (k : Int) < (n : Int) := by omega
   have j3 : ((px : Int) + (k : Int)).toNat = px + k := by omega
   have j4 : (0 : Int) ≤ ((px + pp + py : Nat) : Int) + (k : Int) := by omega
   have j5 : ((px + pp + py : Nat) : Int) + (k : Int) < (n : Int) := by omega
   have j6 : (((px + pp + py : Nat) : Int) + (k : Int)).toNat = px + pp + py + k := by omega
   obtain ⟨s, hs'⟩ : ∃ s, px + pp + py = s := ⟨_, rfl⟩
   rw [hs'] at j4 j5 j6 d0 d1 d2 d3 d4 n0 n1 n2 n3 n4 HSW
   have k1 : IntKind.i64.wrap ((px : Int) + (k : Int)) = (px : Int) + (k : Int) := IntWalk.i64_in _ (by omega)
   have k2 : IntKind.i64.wrap ((s : Int) + (k : Int)) = (s : Int) + (k : Int) := IntWalk.i64_in _ (by omega)
   have hne : (px + k) * 5 + 4 < (s + k) * 5 := by omega
   have HNEW := Lib.hid hne
   rw [hs']
   clear hs hP hQ hR hln e1 e2 hA hB hC hAl hBl hsw hp1 hq1 hp3 hne
   go_wp2_with fail
   refine wp_region_S (S := fun b w' => b = false → w' = wr.drew) (st := 21) (by kernel_rfl) ?_ (fun hHeld => ?_)
   ·exact fun _ => rfl
   refine wpAnyS_take (i := 0) (oi := _) (v := ?_) (by simp only [List.getElem?_toArray, List.getElem?_cons_zero]; rfl) (by kernel_rfl) (by kernel_rfl) (f := 20) (by kernel_rfl) (by kernel_rfl) (by kernel_rfl) (by kernel_rfl) (by exact fun _ _ _ h => h) (by kernel_rfl) (Or.inl ⟨by rfl, ?_⟩) (by assumption) ?_
   rotate_left
   ·intro w hSw; obtain rfl := hSw rfl; clear hSw; go_simp; try with_reducible rfl
   try simp only [Act.put, List.setIfInBounds_toArray, List.set_cons_zero, List.set_cons_succ]
   refine wpAnyS_take (i := 1) (oi := _) (v := ?_) (by simp only [List.getElem?_toArray, List.getElem?_cons_succ, List.getElem?_cons_zero]; rfl) (by kernel_rfl) (by kernel_rfl) (f := 20) (by kernel_rfl) (by kernel_rfl) (by kernel_rfl) (by kernel_rfl) (by exact fun _ _ _ h => h) (by kernel_rfl) (Or.inl ⟨by rfl, ?_⟩) (by assumption) ?_
   rotate_left
   ·intro w hSw; obtain rfl := hSw rfl; clear hSw; go_simp; try with_reducible rfl
   try simp only [Act.put, List.setIfInBounds_toArray, List.set_cons_zero, List.set_cons_succ]
   refine wpAnyS_take (i := 2) (oi := _) (v := ?_) (by simp only [List.getElem?_toArray, List.getElem?_cons_succ, List.getElem?_cons_zero]; rfl) (by kernel_rfl) (by kernel_rfl) (f := 20) (by kernel_rfl) (by kernel_rfl) (by kernel_rfl) (by kernel_rfl) (by exact fun _ _ _ h => h) (by kernel_rfl) (Or.inl ⟨by rfl, ?_⟩) (by assumption) ?_
   rotate_left
   ·intro w hSw; obtain rfl := hSw rfl; clear hSw; go_simp; try with_reducible rfl
   try simp only [Act.put, List.setIfInBounds_toArray, List.set_cons_zero, List.set_cons_succ]
   refine wpAnyS_take (i := 3) (oi := _) (v := ?_) (by simp only [List.getElem?_toArray, List.getElem?_cons_succ, List.getElem?_cons_zero]; rfl) (by kernel_rfl) (by kernel_rfl) (f := 20) (by kernel_rfl) (by kernel_rfl) (by kernel_rfl) (by kernel_rfl) (by exact fun _ _ _ h => h) (by kernel_rfl) (Or.inl ⟨by rfl, ?_⟩) (by assumption) ?_
   rotate_left
   ·intro w hSw; obtain rfl := hSw rfl; clear hSw; go_simp; try with_reducible rfl
   try simp only [Act.put, List.setIfInBounds_toArray, List.set_cons_zero, List.set_cons_succ]
   refine wpAnyS_take0 (i := 4) (oi := _) (v := ?_) (by simp only [List.getElem?_toArray, List.getElem?_cons_succ, List.getElem?_cons_zero]; rfl) (by kernel_rfl) (by kernel_rfl) (by kernel_rfl) (by kernel_rfl) (by exact fun _ _ _ h => h) (by kernel_rfl) (Or.inl ⟨by rfl, ?_⟩) (by assumption) ?_
   rotate_left
   ·intro w hSw; go_simp; try with_reducible rfl
   try simp only [Act.put, List.setIfInBounds_toArray, List.set_cons_zero, List.set_cons_succ]
   refine wpAnyS_take0 (i := 5) (oi := _) (v := ?_) (by simp only [List.getElem?_toArray, List.getElem?_cons_succ, List.getElem?_cons_zero]; rfl) (by kernel_rfl) (by kernel_rfl) (by kernel_rfl) (by kernel_rfl) (by exact fun _ _ _ h => h) (by kernel_rfl) (Or.inl ⟨by rfl, ?_⟩) (by assumption) ?_
   rotate_left
   ·intro w hSw; go_simp; try with_reducible rfl
   try simp only [Act.put, List.setIfInBounds_toArray, List.set_cons_zero, List.set_cons_succ]
   refine wpAnyS_take0 (i := 6) (oi := _) (v := ?_) (by simp only [List.getElem?_toArray, List.getElem?_cons_succ, List.getElem?_cons_zero]; rfl) (by kernel_rfl) (by kernel_rfl) (by kernel_rfl) (by kernel_rfl) (by exact fun _ _ _ h => h) (by kernel_rfl) (Or.inl ⟨by rfl, ?_⟩) (by assumption) ?_
   rotate_left
   ·intro w hSw; go_simp; try with_reducible rfl
   try simp only [Act.put, List.setIfInBounds_toArray, List.set_cons_zero, List.set_cons_succ]
   refine wpAnyS_take0 (i := 7) (oi := _) (v := ?_) (by simp only [List.getElem?_toArray, List.getElem?_cons_succ, List.getElem?_cons_zero]; rfl) (by kernel_rfl) (by kernel_rfl) (by kernel_rfl) (by kernel_rfl) (by exact fun _ _ _ h => h) (by kernel_rfl) (Or.inl ⟨by rfl, ?_⟩) (by assumption) ?_
   rotate_left
   ·intro w hSw; go_simp; try with_reducible rfl
   try simp only [Act.put, List.setIfInBounds_toArray, List.set_cons_zero, List.set_cons_succ]
   refine wpAnyS_take (i := 8) (oi := _) (v := ?_) (by simp only [List.getElem?_toArray, List.getElem?_cons_succ, List.getElem?_cons_zero]; rfl) (by kernel_rfl) (by kernel_rfl) (f := 20) (by kernel_rfl) (by kernel_rfl) (by kernel_rfl) (by kernel_rfl) (by exact fun _ _ _ h => h) (by kernel_rfl) (Or.inl ⟨by rfl, ?_⟩) (by assumption) ?_
   rotate_left
   ·intro w hSw; obtain rfl := hSw rfl; clear hSw; go_simp; try with_reducible rfl
   try simp only [Act.put, List.setIfInBounds_toArray, List.set_cons_zero, List.set_cons_succ]
   refine wpAnyS_take (i := 9) (oi := _) (v := ?_) (by simp only [List.getElem?_toArray, List.getElem?_cons_succ, List.getElem?_cons_zero]; rfl) (by kernel_rfl) (by kernel_rfl) (f := 20) (by kernel_rfl) (by kernel_rfl) (by kernel_rfl) (by kernel_rfl) (by exact fun _ _ _ h => h) (by kernel_rfl) (Or.inl ⟨by rfl, ?_⟩) (by assumption) ?_
   rotate_left
   ·intro w hSw; obtain rfl := hSw rfl; clear hSw; go_simp; try with_reducible rfl
   try simp only [Act.put, List.setIfInBounds_toArray, List.set_cons_zero, List.set_cons_succ]
   refine wpAnyS_take (i := 10) (oi := _) (v := ?_) (by simp only [List.getElem?_toArray, List.getElem?_cons_succ, List.getElem?_cons_zero]; rfl) (by kernel_rfl) (by kernel_rfl) (f := 20) (by kernel_rfl) (by kernel_rfl) (by kernel_rfl) (by kernel_rfl) (by exact fun _ _ _ h => h) (by kernel_rfl) (Or.inl ⟨by rfl, ?_⟩) (by assumption) ?_
   rotate_left
   ·intro w hSw; obtain rfl := hSw rfl; clear hSw; go_simp; try with_reducible rfl
   try simp only [Act.put, List.setIfInBounds_toArray, List.set_cons_zero, List.set_cons_succ]
   refine wpAnyS_take (i := 11) (oi := _) (v := ?_) (by simp only [List.getElem?_toArray, List.getElem?_cons_succ, List.getElem?_cons_zero]; rfl) (by kernel_rfl) (by kernel_rfl) (f := 20) (by kernel_rfl) (by kernel_rfl) (by kernel_rfl) (by kernel_rfl) (by exact fun _ _ _ h => h) (by kernel_rfl) (Or.inl ⟨by rfl, ?_⟩) (by assumption) ?_
   rotate_left
   ·intro w hSw; obtain rfl := hSw rfl; clear hSw; go_simp; try with_reducible rfl
   try simp only [Act.put, List.setIfInBounds_toArray, List.set_cons_zero, List.set_cons_succ]
   refine wpAnyS_take (i := 12) (oi := _) (v := ?_) (by simp only [List.getElem?_toArray, List.getElem?_cons_succ, List.getElem?_cons_zero]; rfl) (by kernel_rfl) (by kernel_rfl) (f := 20) (by kernel_rfl) (by kernel_rfl) (by kernel_rfl) (by kernel_rfl) (by exact fun _ _ _ h => h) (by kernel_rfl) (Or.inl ⟨by rfl, ?_⟩) (by assumption) ?_
   rotate_left
   ·intro w hSw; obtain rfl := hSw rfl; clear hSw; go_simp; try with_reducible rfl
   try simp only [Act.put, List.setIfInBounds_toArray, List.set_cons_zero, List.set_cons_succ]
   refine wpAnyS_take (i := 13) (oi := _) (v := ?_) (by simp only [List.getElem?_toArray, List.getElem?_cons_succ, List.getElem?_cons_zero]; rfl) (by kernel_rfl) (by kernel_rfl) (f := 20) (by kernel_rfl) (by kernel_rfl) (by kernel_rfl) (by kernel_rfl) (by exact fun _ _ _ h => h) (by kernel_rfl) (Or.inl ⟨by rfl, ?_⟩) (by assumption) ?_
   rotate_left
   ·intro w hSw; obtain rfl := hSw rfl; clear hSw; go_simp; try with_reducible rfl
   try simp only [Act.put, List.setIfInBounds_toArray, List.set_cons_zero, List.set_cons_succ]
   refine wpAnyS_take0 (i := 14) (oi := _) (v := ?_) (by simp only [List.getElem?_toArray, List.getElem?_cons_succ, List.getElem?_cons_zero]; rfl) (by kernel_rfl) (by kernel_rfl) (by kernel_rfl) (by kernel_rfl) (by exact fun _ _ _ h => h) (by kernel_rfl) (Or.inl ⟨by rfl, ?_⟩) (by assumption) ?_
   rotate_left
   ·intro w hSw; go_simp; try with_reducible rfl
   try simp only [Act.put, List.setIfInBounds_toArray, List.set_cons_zero, List.set_cons_succ]
   refine wpAnyS_take0 (i := 15) (oi := _) (v := ?_) (by simp only [List.getElem?_toArray, List.getElem?_cons_succ, List.getElem?_cons_zero]; rfl) (by kernel_rfl) (by kernel_rfl) (by kernel_rfl) (by kernel_rfl) (by exact fun _ _ _ h => h) (by kernel_rfl) (Or.inl ⟨by rfl, ?_⟩) (by assumption) ?_
   rotate_left
   ·intro w hSw; go_simp; try with_reducible rfl
   try simp only [Act.put, List.setIfInBounds_toArray, List.set_cons_zero, List.set_cons_succ]
   refine wpAnyS_take0 (i := 16) (oi := _) (v := ?_) (by simp only [List.getElem?_toArray, List.getElem?_cons_succ, List.getElem?_cons_zero]; rfl) (by kernel_rfl) (by kernel_rfl) (by kernel_rfl) (by kernel_rfl) (by exact fun _ _ _ h => h) (by kernel_rfl) (Or.inl ⟨by rfl, ?_⟩) (by assumption) ?_
   rotate_left
   ·intro w hSw; go_simp; try with_reducible rfl
   try simp only [Act.put, List.setIfInBounds_toArray, List.set_cons_zero, List.set_cons_succ]
   refine wpAnyS_take0 (i := 17) (oi := _) (v := ?_) (by simp only [List.getElem?_toArray, List.getElem?_cons_succ, List.getElem?_cons_zero]; rfl) (by kernel_rfl) (by kernel_rfl) (by kernel_rfl) (by kernel_rfl) (by exact fun _ _ _ h => h) (by kernel_rfl) (Or.inl ⟨by rfl, ?_⟩) (by assumption) ?_
   rotate_left
   ·intro w hSw; go_simp; try with_reducible rfl
   try simp only [Act.put, List.setIfInBounds_toArray, List.set_cons_zero, List.set_cons_succ]
   refine wpAnyS_take0 (i := 18) (oi := _) (v := ?_) (by simp only [List.getElem?_toArray, List.getElem?_cons_succ, List.getElem?_cons_zero]; rfl) (by kernel_rfl) (by kernel_rfl) (by kernel_rfl) (by kernel_rfl) (by exact fun _ _ _ h => h) (by kernel_rfl) (Or.inl ⟨by rfl, ?_⟩) (by assumption) ?_
   rotate_left
   ·intro w hSw; go_simp; try with_reducible rfl
   try simp only [Act.put, List.setIfInBounds_toArray, List.set_cons_zero, List.set_cons_succ]
   refine wpAnyS_take (i := 19) (oi := _) (v := ?_) (by simp only [List.getElem?_toArray, List.getElem?_cons_succ, List.getElem?_cons_zero]; rfl) (by kernel_rfl) (by kernel_rfl) (f := 20) (by kernel_rfl) (by kernel_rfl) (by kernel_rfl) (by kernel_rfl) (by exact fun _ _ _ h => h) (by kernel_rfl) (Or.inl ⟨by rfl, ?_⟩) (by assumption) ?_
   rotate_left
   ·intro w hSw; obtain rfl := hSw rfl; clear hSw; go_simp; try with_reducible rfl
   try simp only [Act.put, List.setIfInBounds_toArray, List.set_cons_zero, List.set_cons_succ]
   refine wpAnyS_take (i := 20) (oi := _) (v := ?_) (by simp only [List.getElem?_toArray, List.getElem?_cons_succ, List.getElem?_cons_zero]; rfl) (by kernel_rfl) (by kernel_rfl) (f := 20) (by kernel_rfl) (by kernel_rfl) (by kernel_rfl) (by kernel_rfl) (by exact fun _ _ _ h => h) (by kernel_rfl) (Or.inl ⟨by rfl, ?_⟩) (by assumption) ?_
   rotate_left
   ·intro w hSw; go_simp; try with_reducible rfl
   try simp only [Act.put, List.setIfInBounds_toArray, List.set_cons_zero, List.set_cons_succ]
   refine wpAnyS_ready (rs := [21]) (by kernel_rfl) (by simp) ?_
   refine AllReadyS.cons (b := true) (o := _) (by simp only [List.getElem?_toArray, List.getElem?_cons_succ, List.getElem?_cons_zero]; rfl) (by kernel_rfl) (fun K hK => ?_) ?_
   ·go_simp
    refine hK.out _ _ ?_ (fun hHeld => ?_)
    ·try dsimp only
     exact fun e => by cases e
    clear hK K
    try simp only [Act.put, List.setIfInBounds_toArray, List.set_cons_zero, List.set_cons_succ]
    refine wpAnyS_take0 (i := 22) (oi := _) (v := ?_) (by simp only [List.getElem?_toArray, List.getElem?_cons_succ, List.getElem?_cons_zero]; rfl) (by kernel_rfl) (by kernel_rfl) (by kernel_rfl) (by kernel_rfl) (by exact fun _ _ _ h => h) (by kernel_rfl) (Or.inl ⟨by rfl, ?_⟩) (by assumption) ?_
    rotate_left
    ·intro w hSw; go_simp; try with_reducible rfl
    try simp only [Act.put, List.setIfInBounds_toArray, List.set_cons_zero, List.set_cons_succ]
    refine wpAnyS_ready (rs := [23]) (by kernel_rfl) (by simp) ?_
    refine AllReadyS.cons (b := true) (o := _) (by simp only [List.getElem?_toArray, List.getElem?_cons_succ, List.getElem?_cons_zero]; rfl) (by kernel_rfl) (fun K hK => ?_) ?_
    ·go_simp
     refine hK.out _ _ ?_ (fun hHeld => ?_)
     ·try dsimp only
      exact fun e => by cases e
     clear hK K
     try simp only [Act.put, List.setIfInBounds_toArray, List.set_cons_zero, List.set_cons_succ]
     refine wpAnyS_done (by kernel_rfl) ?_ _
     clear hHeld c0 c1 c2 c3 c4 m0 m1 m2 m3 m4 d0 d1 d2 d3 d4 n0 n1 n2 n3 n4
     have HSW2 := HSW.out
     unfold put5 at HSW2
     simp only at HSW2
     have H9 := Lib.hid HSW2
     clear HSW2
     go_wp2
     go_roundw
     case rel => exact ⟨k + 1, P1 ++ [_], P3, Q1 ++ [_], Q3, by omega, by go_num, by rw [HPE.out]; simp, by rw [HQE.out]; simp, by rw [List.length_append, HP1.out]; rfl, by rw [List.length_append, HQ1.out]; rfl, H9.out⟩
     case measure => simp [intOf]; omega
    exact AllReadyS.nil
   exact AllReadyS.nil
  ·obtain rfl : k = pp := by omega
   have hP2 : P2 = [] := by
    have := congrArg List.length hP
    rw [HP.out, List.length_append, hp1] at this
    exact List.eq_nil_of_length_eq_zero (by omega)
   have hQ2 : Q2 = [] := by
    have := congrArg List.length hQ
    rw [HQ.out, List.length_append, hq1] at this
    exact List.eq_nil_of_length_eq_zero (by omega)
   subst hP2 hQ2
   have HF : Hid (SWL w0 blk (X ++ Q ++ Y ++ P ++ Z) wr) := by
    show SWL _ _ _ _
    rw [HPE.out, HQE.out]
    simpa using hs
   have i1 : ¬ (P1.length : Int) < (P1.length : Int) := by omega
   have i2 : ¬ (k : Int) < (k : Int) := by omega
   clear hs hP hQ
   go_wp2
   go_end0
   exact ⟨rfl, by have := HF.out; simpa using this⟩

set_option maxHeartbeats 4000000 in
set_option maxRecDepth 100000 in
theorem rotate_c (w0 : World) (blk cap : Nat) (X U V Z : List E5) (W : World) (R : R5 w0 blk (X ++ U ++ V ++ Z).length) (h : SWL w0 blk (X ++ U ++ V ++ Z) W) (hU : 0 < U.length) (hV : 0 < V.length) (hn : (X ++ U ++ V ++ Z).length ≤ 1048576) (f : Value) :
  Calls Tryz.prog 141 #[.slice (some ⟨blk, 0, none⟩) (X ++ U ++ V ++ Z).length cap, .int .i64 (X.length : Int), .int .i64 ((X.length + U.length : Nat) : Int), .int .i64 ((X.length + U.length + V.length : Nat) : Int), f] W fun e w' => e = .returned (.tuple #[]) ∧ SWL w0 blk (X ++ V ++ U ++ Z) w' := by
 obtain ⟨n, hnl⟩ : ∃ n, (X ++ U ++ V ++ Z).length = n := ⟨_, rfl⟩
 have hlen : X.length + U.length + V.length + Z.length = n := by rw [← hnl]; simp only [List.length_append]
 rw [hnl] at R hn ⊢
 have CS : Hid (∀ (A P Y Q B : List E5) (w' : World), (A ++ P ++ Y ++ Q ++ B).length = n → SWL w0 blk (A ++ P ++ Y ++ Q ++ B) w' → P.length = Q.length → Calls Tryz.prog 174 #[.slice (some ⟨blk, 0, none⟩) n cap, .int .i64 (A.length : Int), .int .i64 ((A.length + P.length + Y.length : Nat) : Int), .int .i64 (P.length : Int), f] w' fun e w'' => e = .returned (.tuple #[]) ∧ SWL w0 blk (A ++ Q ++ Y ++ P ++ B) w'') := by
  show ∀ (A P Y Q B : List E5) (w' : World), _
  intro A P Y Q B w' hl hs hpq
  have := swapRange_c w0 blk cap A P Y Q B w' (by rw [hl]; exact R) hs hpq (by omega) f
  rw [hl] at this
  exact this
 obtain ⟨m, hm⟩ : ∃ m, X.length + U.length = m := ⟨_, rfl⟩
 obtain ⟨a, ha⟩ : ∃ a, X.length = a := ⟨_, rfl⟩
 obtain ⟨b, hb⟩ : ∃ b, m + V.length = b := ⟨_, rfl⟩
 obtain ⟨T, hT⟩ : ∃ T, X ++ V ++ U ++ Z = T := ⟨_, rfl⟩
 have hb2 : X.length + U.length + V.length = b := by omega
 have hi0 : (m : Int) - (a : Int) = ((U.length : Nat) : Int) := by omega
 have hj0 : (b : Int) - (m : Int) = ((V.length : Nat) : Int) := by omega
 have hmn : b ≤ n := by omega
 have H0 : Hid (∃ X1 U1 V1 Z1 : List E5, X1.length + U1.length = m ∧ U1.length = U.length ∧ V1.length = V.length ∧ X1 ++ V1 ++ U1 ++ Z1 = T ∧ (X1 ++ U1 ++ V1 ++ Z1).length = n ∧ SWL w0 blk (X1 ++ U1 ++ V1 ++ Z1) W) := by
  show ∃ _, _
  exact ⟨X, U, V, Z, hm, rfl, rfl, hT, hnl, h⟩
 rw [hb2, hm, ha, hT]
 obtain ⟨u, hu⟩ : ∃ u, U.length = u := ⟨_, rfl⟩
 obtain ⟨v, hv⟩ : ∃ v, V.length = v := ⟨_, rfl⟩
 rw [hu] at hU hi0 H0
 rw [hv] at hV hj0 H0
 have hum : u ≤ m := by omega
 have hvb : m + v ≤ n := by omega
 clear h R hnl hlen hm ha hb hb2 hT hu hv
 go_enter Tryz.func141, Tryz.ntmps141
 go_wp2
 go_loopw [10, 11] (fun i j wr => ∃ (X1 U1 V1 Z1 : List E5), i = .int .i64 (U1.length : Int) ∧ j = .int .i64 (V1.length : Int) ∧ 0 < U1.length ∧ 0 < V1.length ∧ X1.length + U1.length = m ∧ m + V1.length ≤ n ∧ X1 ++ V1 ++ U1 ++ Z1 = T ∧ (X1 ++ U1 ++ V1 ++ Z1).length = n ∧ SWL w0 blk (X1 ++ U1 ++ V1 ++ Z1) wr) (fun i j _ => (intOf i).toNat + (intOf j).toNat)
 case atStart =>
  obtain ⟨X1, U1, V1, Z1, h1, h2, h3, h4, h5, h6⟩ := H0.out
  exact ⟨X1, U1, V1, Z1, by rw [h2], by rw [h3], by omega, by omega, h1, by omega, h4, h5, h6⟩
 case round =>
  clear H0
  obtain ⟨X1, U1, V1, Z1, rfl, rfl, h1, h2, h3, h4, h5, h6, h7⟩ := hrel
  obtain ⟨i, hi⟩ : ∃ i, U1.length = i := ⟨_, rfl⟩
  obtain ⟨j, hj⟩ : ∃ j, V1.length = j := ⟨_, rfl⟩
  obtain ⟨xl, hxl⟩ : ∃ j, X1.length = j := ⟨_, rfl⟩
  have HI := Lib.hid hi; have HJ := Lib.hid hj; have H5 := Lib.hid h5; have H6 := Lib.hid h6; have H7 := Lib.hid h7; have HXL := Lib.hid hxl
  rw [hi] at h1 h3 ⊢
  rw [hj] at h2 h4 ⊢
  rw [hxl] at h3
  have hmx : (m : Int) - (i : Int) = (xl : Int) := by omega
  have H3 := Lib.hid h3
  clear hi hj h5 h6 h7 hxl h3
  rcases Nat.lt_trichotomy i j with hlt | heq | hgt
  ·-- the left part goes to the end
   obtain ⟨Y, Q, hYQ, hYl⟩ : ∃ Y Q : List E5, V1 = Y ++ Q ∧ Y.length = j - i := ⟨V1.take (j - i), V1.drop (j - i), (List.take_append_drop _ _).symm, by rw [List.length_take, HJ.out]; omega⟩
   have hQl : Q.length = i := by have := congrArg List.length hYQ; rw [HJ.out, List.length_append] at this; omega
   subst hYQ
   have cS := CS.out X1 U1 Y Q Z1 wr (by rw [← H6.out]; simp) (by have := H7.out; simpa using this) (by rw [HI.out, hQl])
   rw [HXL.out, HI.out, hYl] at cS
   have e1 : ((xl + i + (j - i) : Nat) : Int) = (xl : Int) + (j : Int) := by omega
   rw [e1] at cS
   have HA : Hid (Y.length = j - i ∧ Q.length = i) := Lib.hid ⟨hYl, hQl⟩
   have CSS := Lib.hid cS
   have ne : ((i : Int) == (j : Int)) = false := by rw [beq_eq_false_iff_ne]; omega
   have ne2 : ((i : Int) != (j : Int)) = true := by rw [bne_iff_ne]; omega
   have g1 : ¬ (j : Int) < (i : Int) := by omega
   have s1 : (m : Int) + (j : Int) - (i : Int) = (xl : Int) + (j : Int) := by omega
   have s2 : IntKind.i64.wrap ((m : Int) + (j : Int)) = (m : Int) + (j : Int) := IntWalk.i64_in _ (by omega)
   have s3 : IntKind.i64.wrap ((j : Int) - (i : Int)) = (j : Int) - (i : Int) := IntWalk.i64_in _ (by omega)
   clear hYl hQl cS e1
   go_wp2_with fail
   refine CSS.out.mono ?_
   rintro e w2 ⟨rfl, hs2⟩
   have HS2 := Lib.hid hs2
   clear hs2 s1 s2
   go_wp2
   go_roundw
   case rel =>
    have hl := HA.out
    have h3 := H3.out
    refine ⟨X1, Q, Y, U1 ++ Z1, ?_, ?_, by omega, by omega, by rw [HXL.out]; omega, by omega, ?_, ?_, ?_⟩
    ·rw [hl.2]
    ·rw [hl.1]; congr 1; omega
    ·rw [← H5.out]; simp
    ·rw [← H6.out]; simp only [List.length_append]; omega
    ·have := HS2.out; simpa using this
   case measure => simp [intOf]; omega
  ·subst heq
   have cS := CS.out X1 U1 [] V1 Z1 wr (by rw [← H6.out]; simp) (by have := H7.out; simpa using this) (by rw [HI.out, HJ.out])
   rw [HXL.out, HI.out, List.length_nil, Nat.add_zero, H3.out] at cS
   have CSS := Lib.hid cS
   have ne : ((i : Int) == (i : Int)) = true := by simp
   have ne2 : ((i : Int) != (i : Int)) = false := by simp
   clear cS
   go_wp2_with fail
   refine CSS.out.mono ?_
   rintro e w2 ⟨rfl, hs2⟩
   go_wp2
   go_end0
   refine ⟨rfl, ?_⟩
   rw [← H5.out]
   simpa using hs2
  ·obtain ⟨P, Y, hPY, hPl⟩ : ∃ P Y : List E5, U1 = P ++ Y ∧ P.length = j := ⟨U1.take j, U1.drop j, (List.take_append_drop _ _).symm, by rw [List.length_take, HI.out]; omega⟩
   have hYl : Y.length = i - j := by have := congrArg List.length hPY; rw [HI.out, List.length_append] at this; omega
   subst hPY
   have cS := CS.out X1 P Y V1 Z1 wr (by rw [← H6.out]; simp) (by have := H7.out; simpa using this) (by rw [HJ.out, hPl])
   rw [HXL.out, hPl, hYl] at cS
   have e1 : ((xl + j + (i - j) : Nat) : Int) = (m : Int) := by have := H3.out; omega
   rw [e1] at cS
   have HA : Hid (P.length = j ∧ Y.length = i - j) := Lib.hid ⟨hPl, hYl⟩
   have CSS := Lib.hid cS
   have ne : ((i : Int) == (j : Int)) = false := by rw [beq_eq_false_iff_ne]; omega
   have ne2 : ((i : Int) != (j : Int)) = true := by rw [bne_iff_ne]; omega
   have g1 : (j : Int) < (i : Int) := by omega
   have s3 : IntKind.i64.wrap ((i : Int) - (j : Int)) = (i : Int) - (j : Int) := IntWalk.i64_in _ (by omega)
   clear hYl hPl cS e1
   go_wp2_with fail
   refine CSS.out.mono ?_
   rintro e w2 ⟨rfl, hs2⟩
   have HS2 := Lib.hid hs2
   clear hs2
   go_wp2
   go_roundw
   case rel =>
    have hl := HA.out
    have h3 := H3.out
    refine ⟨X1 ++ V1, Y, P, Z1, ?_, ?_, by omega, by omega, by rw [List.length_append, HXL.out, HJ.out]; omega, by omega, ?_, ?_, ?_⟩
    ·rw [hl.2]; congr 1; omega
    ·rw [hl.1]
    ·rw [← H5.out]; simp
    ·rw [← H6.out]; simp only [List.length_append]; omega
    ·have := HS2.out; simpa using this
   case measure => simp [intOf]; omega
end Go.Proofs.YtlmnabhhgplhnaaGreatDoor
