import Derived.Test.YtdhmeganlnpohaaGreatDoorMbj
import Derived.Test.YtdhmeganlnpohaaGreatDoorMbe
import Derived.Sort.Defs
import Derived.Shelf.SlSortCmp.InsertionK
import Derived.Shelf.SlSortCmp.KitK
import Derived.Test.YtdhmeganlnpohaaGreatDoorMav
import Derived.Test.YtdhmeganlnpohaaGreatDoorMad
import Derived.Test.YtdhmeganlnpohaaGreatDoorMao
import Derived.Shelf.SlSortCmp.WholeK
namespace Go.Proofs.YtdhmeganlnpohaaGreatDoor
open Go.RowKit Go.Shelf Go.Maps
def FcDoes (v : Value) (w : World) (cy : List ByteArray) : Prop := ∀ W, Below w.heap.size w W → Calls Tryz.prog 74 #[v] W fun e w' => ∃ u, e = .returned u ∧ IsStrs w' u cy ∧ Below W.heap.size W w'
def allB (rs : List RuleS) (cy : List ByteArray) : Int × ByteArray := if (beforeB rs).1 = 0 then (match cy with | [] => (0, ⟨#[]⟩) | x :: _ => (3, x)) else beforeB rs
set_option maxHeartbeats 4000000
set_option maxRecDepth 100000
theorem checkAll_any (v : Value) (rs : List RuleS) (cy : List ByteArray) (w : World) (hv : RulesI w v rs) (hs : ∀ r ∈ rs, SmallR r 1048576) (hn : rs.length ≤ 1048576) (hm : MayW w) (hF : (beforeB rs).1 = 0 → FcDoes v w cy) (hcn : cy.length ≤ 1048576) :
  Calls Tryz.prog 44 #[v] w fun e w' => e = .returned (.tuple #[.int .i64 (allB rs cy).1, .string (allB rs cy).2]) ∧ Below w.heap.size w w' := by
 have mixed : Tryz.prog.follows .mixedOrders = true := by kernel_rfl
 have CB := Lib.hid (beforeCycle_any v rs w hv hs hn hm)
 have hF' : ∀ c x, beforeB rs = (c, x) → c = 0 → FcDoes v w cy := fun c x h1 h2 => hF (by rw [h1]; exact h2)
 unfold allB
 obtain ⟨⟨c, x⟩, hb⟩ : ∃ p, beforeB rs = p := ⟨_, rfl⟩
 have HF := Lib.hid (hF' c x hb)
 rw [hb] at CB ⊢
 simp only at CB ⊢
 clear hv hs hm hF hF' hb
 by_cases hc : c = 0
 ·subst hc
  rw [if_pos rfl]
  go_enter Tryz.func44, Tryz.ntmps44
  go_wp2_with fail
  refine CB.out.mono ?_
  rintro e w2 ⟨rfl, hb2⟩
  have HB2 := Lib.hid hb2
  clear hb2
  go_wp2_with fail
  refine (HF.out (by trivial) _ HB2.out).mono ?_
  rintro e w3 ⟨u, rfl, hu, hb3⟩
  obtain ⟨ua, uc, rfl, hul, hum, huc⟩ := isStrs_cells hu
  have HB3 := Lib.hid (HB2.out.trans (hb3.mono HB2.out.size))
  unfold maxLen at hum
  clear hu hb3
  cases cy with
  | nil =>
   simp only [List.length_nil] at hul ⊢
   clear huc
   go_wp2
   go_ret2
   exact ⟨rfl, HB3.out⟩
  | cons z r =>
   obtain ⟨b, o, ea, hc0⟩ := huc 0 z rfl
   subst ea
   have c0 := hc0 w3 (Below.refl _ _)
   simp only [Nat.add_zero] at c0
   have hpos : (0 : Int) < ((z :: r).length : Int) := by simp <;> omega
   obtain ⟨m, hmm⟩ : ∃ m, (z :: r).length = m := ⟨_, rfl⟩
   rw [hmm] at hpos hul ⊢
   have hml : m ≤ 1048576 := by rw [← hmm]; exact hcn
   clear huc hc0 hmm hcn
   go_wp2_with fail
   go_region
   go_wp2
   go_ret2
   exact ⟨rfl, HB3.out.drew⟩
 ·rw [if_neg hc]
  go_enter Tryz.func44, Tryz.ntmps44
  go_wp2_with (go_at_call 73; (with_reducible refine CB.out.mono ?_); rintro e w2 ⟨rfl, hb2⟩; have HB2 := Lib.hid hb2; clear hb2)
  go_ret2
  exact ⟨rfl, HB2.out⟩
theorem checkCycle_any (v : Value) (rs : List RuleS) (cy : List ByteArray) (w : World) (hv : RulesI w v rs) (hs : ∀ r ∈ rs, SmallR r 1048576) (hn : rs.length ≤ 1048576) (hm : MayW w) (hF : (beforeB rs).1 = 0 → FcDoes v w cy) :
  Calls Tryz.prog 45 #[v] w fun e w' => ∃ u, e = .returned u ∧ IsStrs w' u (if (beforeB rs).1 = 0 then cy else []) ∧ Below w.heap.size w w' := by
 have mixed : Tryz.prog.follows .mixedOrders = true := by kernel_rfl
 have CB := Lib.hid (beforeCycle_any v rs w hv hs hn hm)
 have hF' : ∀ c x, beforeB rs = (c, x) → c = 0 → FcDoes v w cy := fun c x h1 h2 => hF (by rw [h1]; exact h2)
 obtain ⟨⟨c, x⟩, hb⟩ : ∃ p, beforeB rs = p := ⟨_, rfl⟩
 have HF := Lib.hid (hF' c x hb)
 rw [hb] at CB ⊢
 simp only at CB ⊢
 clear hv hs hm hF hF' hb
 by_cases hc : c = 0
 ·subst hc
  rw [if_pos rfl]
  go_enter Tryz.func45, Tryz.ntmps45
  go_wp2_with fail
  refine CB.out.mono ?_
  rintro e w2 ⟨rfl, hb2⟩
  have HB2 := Lib.hid hb2
  clear hb2
  go_wp2_with fail
  refine (HF.out (by trivial) _ HB2.out).mono ?_
  rintro e w3 ⟨u, rfl, hu, hb3⟩
  have HU := Lib.hid hu
  have HB3 := Lib.hid (HB2.out.trans (hb3.mono HB2.out.size))
  clear hu hb3
  go_wp2
  go_ret
  exact ⟨_, rfl, HU.out, HB3.out⟩
 ·rw [if_neg hc]
  go_enter Tryz.func45, Tryz.ntmps45
  go_wp2_with (go_at_call 73; (with_reducible refine CB.out.mono ?_); rintro e w2 ⟨rfl, hb2⟩; have HB2 := Lib.hid hb2; clear hb2)
  go_ret
  exact ⟨_, rfl, ⟨none, 0, rfl, Nat.le_refl _, by decide, fun h => absurd rfl h⟩, HB2.out⟩
end Go.Proofs.YtdhmeganlnpohaaGreatDoor
namespace Go.Proofs.YtdhmeganlnpohaaGreatDoor
open Go.RowKit Go.Shelf
section
attribute [local go_sem] Oper.semAt_some
set_option maxRecDepth 100000
set_option maxHeartbeats 4000000
theorem values_all (n : Nat) (hn : 1 ≤ n) (sb : Nat) (a : Option Addr) (c : Nat) (rows : List (List Value)) (w : World) (hb : Boxed w sb 82 (.slice a rows.length c)) (hr : IsRow w (.slice a rows.length c) 5 rows) (h5 : ∀ r ∈ rows, ∃ s p1 n1 k1 p2 n2 k2 p3 n3 k3 p4 n4 k4, r = [.string s, .slice p1 n1 k1, .slice p2 n2 k2, .slice p3 n3 k3, .slice p4 n4 k4]) (a0 : Option Addr) (ha0 : rows ≠ [] → a0 = a) :
  SeqAll Fence.wide n Tryz.prog 145 #[.pointer (some ⟨sb, 0, none⟩)] (fun x : List Value => #[.agg x.toArray]) (fun A B => Below A.heap.size A B) (KeepBG sb a0) rows w := by
 obtain ⟨a', c', e, hlc, hcm, hcells⟩ := hr
 cases e
 intro l J W hW hJR hY h0
 have hbW : Boxed W sb 82 (.slice a rows.length c) := (hW.block sb hb.lt).trans hb
 have hC : ∀ (k : Nat) r, rows[k]? = some r → ∃ g o, a = some ⟨g, o, none⟩ ∧ g < W.heap.size ∧ ∀ w' : World, w'.heap[g]? = W.heap[g]? → ∀ (i : Nat) u, r[i]? = some u → w'.cell? ⟨g, o + k * 5 + i, none⟩ = some u := by
  intro k r hkr
  obtain ⟨g, o, e, hg, hc⟩ := hcells (by rintro rfl; simp at hkr)
  exact ⟨g, o, e, Nat.lt_of_lt_of_le hg hW.size, fun w' hw i u hu => (World.cell?_of_block (a := ⟨g, o + k * 5 + i, none⟩) (hw.trans (hW.block g hg))).trans (hc k r hkr i u hu)⟩
 have HC := Lib.hid hC
 have H5 := Lib.hid h5
 have hsbW := hbW.lt
 clear hb hW hcells hC h5
 unfold maxLen at hcm
 show CallsIn Fence.wide n Tryz.prog 145 #[.func (.yield l) #[] #[], .pointer (some ⟨sb, 0, none⟩)] W _
 refine callsIn_of_wp Tryz.func145 rfl trivial ?_ rfl
 simp only [Tryz.ntmps145, List.size_toArray, List.length_cons, List.length_nil, Nat.reduceAdd, Nat.reduceSub, Array.replicate_succ, Array.replicate_zero, List.push_toArray, List.append_toArray, List.nil_append, List.cons_append]
 have hcW := hbW.cell
 gi_wp2
 gi_loopw [4, 7, 8, 9, 10, 11, 12, 13, 14, 15] (fun _ iv _ _ _ _ _ _ _ _ wr => ∃ k : Nat, k ≤ rows.length ∧ iv = .int .i64 (k : Int) ∧ wr.heap[sb]? = W.heap[sb]? ∧ (∀ g, (a0.map Addr.block) = some g → wr.heap[g]? = W.heap[g]?) ∧ J (rows.take k) wr) (fun _ iv _ _ _ _ _ _ _ _ _ => rows.length - (intOf iv).toNat)
 case atStart => exact ⟨0, Nat.zero_le _, rfl, rfl, fun _ _ => rfl, by simpa using h0⟩
 case round =>
  obtain ⟨k, hk, rfl, hsb, hga, hJs⟩ := hrel
  by_cases hlt : k < rows.length
  ·obtain ⟨r, hr⟩ : ∃ r, rows[k]? = some r := ⟨rows[k], List.getElem?_eq_getElem hlt⟩
   obtain ⟨g, o, ha, hgW, hcr⟩ := HC.out k r hr
   obtain ⟨s, p1, n1, k1, p2, n2, k2, p3, n3, k3, p4, n4, k4, hr5⟩ := H5.out r (List.mem_of_getElem? hr)
   have hgg := hga g (by rw [ha0 (by rintro rfl; simp at hr), ha]; rfl)
   have hcc := hcr wr hgg
   rw [hr5] at hcc
   have e0 := hcc 0 _ rfl
   have e1 := hcc 1 _ rfl
   have e2 := hcc 2 _ rfl
   have e3 := hcc 3 _ rfl
   have e4 := hcc 4 _ rfl
   simp only [Nat.add_zero] at e0
   have hsl : sb < wr.heap.size := by have := hsb.trans hbW; exact (Array.getElem?_eq_some_iff.1 this).1
   have hspl : rows = rows.take k ++ r :: rows.drop (k + 1) := by
    have := (List.take_append_drop k rows).symm
    rw [drop_at' hr] at this
    exact this
   have htk : rows.take (k + 1) = rows.take k ++ [r] := by rw [List.take_add_one, hr]; rfl
   obtain ⟨fn, tmps, assign, body, hy, hR⟩ := hY (rows.take k) r (rows.drop (k + 1)) (wr.alloc (.cells r.toArray 45)) hspl (hJR _ _ _ hJs ((Below.refl _ _).alloc (Nat.le_refl _) _))
   have HGA : Hid (∀ g, (a0.map Addr.block) = some g → (wr.alloc (.cells r.toArray 45)).heap[g]? = W.heap[g]?) := Lib.hid fun g' hg' => by
    have e := hga g' hg'
    have hgl : g' < wr.heap.size := by
     have h1 : a0 = some ⟨g, o, none⟩ := by rw [ha0 (by rintro rfl; simp at hr), ha]
     rw [h1] at hg'
     obtain rfl : g = g' := by simpa using hg'
     have h2 : wr.heap[g]? = some W.heap[g] := by rw [hgg]; exact Array.getElem?_eq_getElem hgW
     exact (Array.getElem?_eq_some_iff.1 h2).1
    exact (Below.heap_alloc _ _ _ hgl).trans e
   have HSB : Hid ((wr.alloc (.cells r.toArray 45)).heap[sb]? = W.heap[sb]?) := Lib.hid ((Below.heap_alloc _ _ _ hsl).trans hsb)
   have HTK := Lib.hid htk
   subst hr5
   have hi0 : (0 : Int) ≤ (k : Int) := by omega
   have hi1 : (k : Int) < (rows.length : Int) := by omega
   subst ha
   try dsimp only at hy
   clear hspl htk hY h0 hJs hcc hr hcr hga hsb hgg hgW hsl hJR
   gi_wp2
   refine hR.mono ?_
   rintro e W3 ⟨rfl, hJ3, hk3, hk4⟩
   have HJ3 := Lib.hid hJ3; have HK3 := Lib.hid hk3; have HK4 := Lib.hid hk4
   clear hJ3 hk3 hk4
   gi_wp2
   go_roundw
   case rel => exact ⟨k + 1, by omega, by go_num, HK3.out.trans HSB.out, fun g' hg' => (HK4.out g' hg').trans (HGA.out g' hg'), by rw [HTK.out]; exact HJ3.out⟩
   case measure => simp [intOf]; omega
  ·have hi1 : ¬ (k : Int) < (rows.length : Int) := by omega
   rw [List.take_of_length_le (by omega)] at hJs
   have HJ := Lib.hid hJs
   clear hY h0 hJs hga hsb hJR
   gi_wp2
   go_end0
   exact ⟨⟨_, rfl⟩, HJ.out⟩
end
end Go.Proofs.YtdhmeganlnpohaaGreatDoor
namespace Go.Proofs.YtdhmeganlnpohaaGreatDoor
open Go.Sort
section
variable {α : Type} (le : α → α → Bool)
def Srt (l : List α) : Prop := l.Pairwise fun a b => le a b = true
def eqv (k x : α) : Bool := le k x && le x k
structure St (xs ys : List α) : Prop where
 sorted : Srt le ys
 same : ∀ k, ys.filter (eqv le k) = xs.filter (eqv le k)
structure Pre : Prop where
 tot : ∀ a b, le a b = true ∨ le b a = true
 tr : ∀ a b c, le a b = true → le b c = true → le a c = true
variable {le}
theorem St.trans {xs ys zs : List α} (h1 : ∀ k, ys.filter (eqv le k) = xs.filter (eqv le k)) (h2 : St le ys zs) : St le xs zs := ⟨h2.sorted, fun k => (h2.same k).trans (h1 k)⟩
inductive Blk (le : α → α → Bool) (n : Nat) : List α → Prop
 | last (l : List α) : l.length ≤ n → Srt le l → Blk le n l
 | cons (b l : List α) : b.length = n → Srt le b → Blk le n l → Blk le n (b ++ l)
inductive Ful (le : α → α → Bool) (n : Nat) : List α → Prop
 | nil : Ful le n []
 | cons (b l : List α) : b.length = n → Srt le b → Ful le n l → Ful le n (b ++ l)
theorem Ful.snoc {n : Nat} {l b : List α} (h : Ful le n l) (hb : b.length = n) (hs : Srt le b) : Ful le n (l ++ b) := by
 induction h with
 | nil => simpa using Ful.cons b [] hb hs .nil
 | cons c l hc hs' _ ih => rw [List.append_assoc]; exact Ful.cons c _ hc hs' ih
theorem Ful.blk {n : Nat} {l t : List α} (h : Ful le n l) (ht : Blk le n t) : Blk le n (l ++ t) := by
 induction h with
 | nil => exact ht
 | cons c l hc hs' _ ih => rw [List.append_assoc]; exact Blk.cons c _ hc hs' ih
theorem Blk.one {n : Nat} {l : List α} (h : Blk le n l) (hl : l.length ≤ n) : Srt le l := by
 cases h with
 | last _ _ hs => exact hs
 | cons b l hb hs hl' =>
  have : l = [] := List.eq_nil_of_length_eq_zero (by rw [List.length_append] at hl; omega)
  subst this
  simpa using hs
theorem Blk.front {n : Nat} {l : List α} (h : Blk le n l) (hl : n < l.length) : ∃ b t, l = b ++ t ∧ b.length = n ∧ Srt le b ∧ Blk le n t := by
 cases h with
 | last _ h _ => omega
 | cons b t hb hs ht => exact ⟨b, t, rfl, hb, hs, ht⟩
theorem Blk.two {n : Nat} {l : List α} (h : Blk le n l) (h0 : 0 < n) (hl : 2 * n ≤ l.length) : ∃ b c t, l = b ++ c ++ t ∧ b.length = n ∧ c.length = n ∧ Srt le b ∧ Srt le c ∧ Blk le n t := by
 obtain ⟨b, t, rfl, hb, hs, ht⟩ := h.front (by omega)
 rw [List.length_append] at hl
 by_cases hlt : n < t.length
 ·obtain ⟨c, u, rfl, hc, hs2, hu⟩ := ht.front hlt
  exact ⟨b, c, u, by rw [List.append_assoc], hb, hc, hs, hs2, hu⟩
 ·have h1 := ht.one (by omega)
  exact ⟨b, t, [], by simp, hb, by omega, hs, h1, Blk.last [] (by simp) (by simp [Srt])⟩
end
section
variable {α : Type} [Inhabited α]
variable {le : α → α → Bool} {lt : α → α → Bool} (hlt : ∀ a b, lt a b = !le b a)
include hlt
end
end Go.Proofs.YtdhmeganlnpohaaGreatDoor
namespace Go.Proofs.YtdhmeganlnpohaaGreatDoor
open Go.RowKit Go.Shelf Go.Sort
abbrev S3 := Option Addr × Nat × Nat
abbrev E5 := ByteArray × S3 × S3 × S3 × S3
instance : Inhabited E5 := ⟨(⟨#[]⟩, (none, 0, 0), (none, 0, 0), (none, 0, 0), (none, 0, 0))⟩
def enc5 (x : E5) : List Value := [.string x.1, .slice x.2.1.1 x.2.1.2.1 x.2.1.2.2, .slice x.2.2.1.1 x.2.2.1.2.1 x.2.2.1.2.2, .slice x.2.2.2.1.1 x.2.2.2.1.2.1 x.2.2.2.1.2.2, .slice x.2.2.2.2.1 x.2.2.2.2.2.1 x.2.2.2.2.2.2]
def cf5 (x y : E5) : Int := Lib.compareBytes x.1.data.toList y.1.data.toList
def le5 (x y : E5) : Bool := decide (cf5 x y ≤ 0)
theorem cf_anti (x y : E5) : cf5 y x = - cf5 x y := cmp_anti _ _
theorem lt_le (x y : E5) : ltOf cf5 x y = !le5 y x := by
 unfold ltOf le5
 rw [cf_anti x y]
 by_cases h : cf5 x y < 0
 ·have : ¬ -cf5 x y ≤ 0 := by omega
  simp [h, this]
 ·have : -cf5 x y ≤ 0 := by omega
  simp [h, this]
theorem pre5 : Pre le5 := by
 refine ⟨fun a b => ?_, fun a b c h1 h2 => ?_⟩
 ·unfold le5
  rw [cf_anti a b]
  simp only [decide_eq_true_eq]
  omega
 ·unfold le5 at h1 h2 ⊢
  simp only [decide_eq_true_eq] at h1 h2 ⊢
  by_cases e1 : cf5 a b = 0
  ·have := cmp_zero _ _ e1
   unfold cf5 at h2 ⊢
   rw [this]; exact h2
  ·by_cases e2 : cf5 b c = 0
   ·have := cmp_zero _ _ e2
    unfold cf5 at h1 ⊢
    rw [← this]; exact h1
   ·have := cmp_trans a.1.data.toList b.1.data.toList c.1.data.toList (by show cf5 a b < 0; omega) (by show cf5 b c < 0; omega)
    show cf5 a c ≤ 0
    have h3 : cf5 a c < 0 := this
    omega
def SWL (w0 : World) (blk : Nat) (l : List E5) (W : World) : Prop := SWK enc5 5 w0 blk 0 l.toArray W
def R5 (w0 : World) (blk n : Nat) : Prop := ∃ d0 : Array E5, d0.size = n ∧ RowK enc5 5 w0 blk 0 d0
theorem enc5_len (x : E5) : (enc5 x).length = 5 := rfl
theorem enc5_one (x : E5) : ∀ v ∈ enc5 x, v.oneCell' = true := by
 intro v hv
 unfold enc5 at hv
 simp at hv
 rcases hv with rfl | rfl | rfl | rfl | rfl <;> rfl
section
variable {w0 W : World} {blk : Nat} {l : List E5}
theorem SWL.holds (h : SWL w0 blk l W) (R : R5 w0 blk l.length) : HoldsK enc5 5 W blk 0 l.toArray := by
 obtain ⟨d0, hd, R⟩ := R
 exact SWK.holds h R.hblk R.hH (by simpa using hd.symm)
theorem SWL.at (h : SWL w0 blk l W) (R : R5 w0 blk l.length) {i : Nat} {x : E5} (hx : l[i]? = some x) :
  (W.cell? ⟨blk, i * 5, none⟩ = some (.string x.1) ∧ W.cell? ⟨blk, i * 5 + 1, none⟩ = some (.slice x.2.1.1 x.2.1.2.1 x.2.1.2.2) ∧ W.cell? ⟨blk, i * 5 + 2, none⟩ = some (.slice x.2.2.1.1 x.2.2.1.2.1 x.2.2.1.2.2) ∧ W.cell? ⟨blk, i * 5 + 3, none⟩ = some (.slice x.2.2.2.1.1 x.2.2.2.1.2.1 x.2.2.2.1.2.2) ∧ W.cell? ⟨blk, i * 5 + 4, none⟩ = some (.slice x.2.2.2.2.1 x.2.2.2.2.2.1 x.2.2.2.2.2.2)) ∧
   W.frozen? ⟨blk, i * 5, none⟩ = false ∧ W.frozen? ⟨blk, i * 5 + 1, none⟩ = false ∧ W.frozen? ⟨blk, i * 5 + 2, none⟩ = false ∧ W.frozen? ⟨blk, i * 5 + 3, none⟩ = false ∧ W.frozen? ⟨blk, i * 5 + 4, none⟩ = false := by
 have hh := h.holds R
 have hi := (List.getElem?_eq_some_iff.1 hx).1
 have hd : l.toArray[i]! = x := by simp [hx]
 have key : ∀ c, c < 5 → W.cell? ⟨blk, i * 5 + c, none⟩ = some (enc5 x)[c]! ∧ W.frozen? ⟨blk, i * 5 + c, none⟩ = false := fun c hc => by
  have := HoldsK.cell hh (i := i) (c := c) (by simpa using hi) hc
  rw [hd] at this
  simpa using this
 exact ⟨⟨(key 0 (by omega)).1, (key 1 (by omega)).1, (key 2 (by omega)).1, (key 3 (by omega)).1, (key 4 (by omega)).1⟩, (key 0 (by omega)).2, (key 1 (by omega)).2, (key 2 (by omega)).2, (key 3 (by omega)).2, (key 4 (by omega)).2⟩
theorem SWL.le (h : SWL w0 blk l W) : w0.heap.size ≤ W.heap.size := SWK.le h
theorem SWL.drewN (h : SWL w0 blk l W) (n : Nat) : SWL w0 blk l (W.drewN n) := SWK.drewN h n
theorem SWL.drew (h : SWL w0 blk l W) : SWL w0 blk l W.drew := SWK.drew h
theorem SWL.alloc (h : SWL w0 blk l W) (o : Obj) : SWL w0 blk l (W.alloc o) := SWK.alloc h o
end
end Go.Proofs.YtdhmeganlnpohaaGreatDoor
namespace Go.Proofs.YtdhmeganlnpohaaGreatDoor
open Go.RowKit Go.Shelf Go.Sort
def soRen : Go.Shelf.Ren := ⟨fun | 0 => 0 | 1 => 1 | 2 => 2 | 6 => 144 | 14 => 202 | 15 => 139 | 18 => 293 | 20 => 249 | 21 => 250 | 22 => 251 | 23 => 252 | 24 => 253 | 25 => 254 | 26 => 255 | 27 => 256 | 28 => 199 | 29 => 200 | 46 => 287 | 47 => 244 | 48 => 245 | 49 => 288 | 50 => 289 | 57 => 312 | 60 => 337 | 61 => 338 | 62 => 339 | 63 => 340 | 64 => 341 | 65 => 342 | 66 => 343 | 67 => 344 | 68 => 345 | 69 => 346 | 70 => 347 | 71 => 348 | 72 => 349 | 73 => 350 | 74 => 351 | 75 => 356 | n => n, fun | 0 => 0 | 1 => 1 | 2 => 2 | 3 => 3 | 4 => 4 | 5 => 5 | 6 => 6 | 7 => 7 | 8 => 8 | 9 => 9 | 10 => 10 | 11 => 11 | 12 => 12 | 13 => 13 | 14 => 14 | 15 => 15 | 16 => 16 | 17 => 17 | 18 => 18 | 19 => 19 | 20 => 20 | 21 => 21 | 22 => 82 | 23 => 170 | 24 => 45 | 25 => 132 | 27 => 54 | 30 => 174 | 37 => 222 | 38 => 166 | 39 => 167 | 40 => 107 | 42 => 83 | 44 => 251 | 45 => 211 | 46 => 212 | 47 => 252 | 48 => 253 | 49 => 254 | 50 => 141 | 51 => 255 | 52 => 217 | 53 => 218 | 54 => 219 | 55 => 220 | 66 => 245 | 67 => 246 | 68 => 247 | 69 => 281 | 70 => 249 | 71 => 282 | 76 => 278 | 77 => 279 | 78 => 297 | 81 => 200 | 82 => 325 | 83 => 326 | 84 => 327 | 85 => 328 | 86 => 329 | 87 => 234 | 88 => 330 | 89 => 331 | 90 => 332 | 91 => 237 | 92 => 333 | 93 => 334 | 94 => 335 | 95 => 336 | 96 => 272 | n => n, fun  | n => n⟩
theorem lSo : Go.Proofs.SlLaysF0.n6 Tryz.prog soRen := {
 mixed := by kernel_rfl
 f6 := ⟨"slices.SortFunc[[]shipwright/api.Rule,shipwright/api.Rule]", by decide, Tryz.func144.trans (congrArg some (by kernel_rfl))⟩
 f14 := ⟨"slices.pdqsortCmpFunc[shipwright/api.Rule]", by decide, Tryz.func202.trans (congrArg some (by kernel_rfl))⟩
 f15 := Tryz.func139.trans (congrArg some (by kernel_rfl))
 f20 := ⟨"slices.insertionSortCmpFunc[shipwright/api.Rule]", by decide, Tryz.func249.trans (congrArg some (by kernel_rfl))⟩
 f21 := ⟨"slices.heapSortCmpFunc[shipwright/api.Rule]", by decide, Tryz.func250.trans (congrArg some (by kernel_rfl))⟩
 f22 := ⟨"slices.breakPatternsCmpFunc[shipwright/api.Rule]", by decide, Tryz.func251.trans (congrArg some (by kernel_rfl))⟩
 f23 := ⟨"slices.choosePivotCmpFunc[shipwright/api.Rule]", by decide, Tryz.func252.trans (congrArg some (by kernel_rfl))⟩
 f24 := ⟨"slices.reverseRangeCmpFunc[shipwright/api.Rule]", by decide, Tryz.func253.trans (congrArg some (by kernel_rfl))⟩
 f25 := ⟨"slices.partialInsertionSortCmpFunc[shipwright/api.Rule]", by decide, Tryz.func254.trans (congrArg some (by kernel_rfl))⟩
 f26 := ⟨"slices.partitionEqualCmpFunc[shipwright/api.Rule]", by decide, Tryz.func255.trans (congrArg some (by kernel_rfl))⟩
 f27 := ⟨"slices.partitionCmpFunc[shipwright/api.Rule]", by decide, Tryz.func256.trans (congrArg some (by kernel_rfl))⟩
 f28 := Tryz.func199.trans (congrArg some (by kernel_rfl))
 f29 := Tryz.func200.trans (congrArg some (by kernel_rfl))
 f46 := ⟨"slices.siftDownCmpFunc[shipwright/api.Rule]", by decide, Tryz.func287.trans (congrArg some (by kernel_rfl))⟩
 f47 := Tryz.func244.trans (congrArg some (by kernel_rfl))
 f48 := Tryz.func245.trans (congrArg some (by kernel_rfl))
 f49 := ⟨"slices.medianAdjacentCmpFunc[shipwright/api.Rule]", by decide, Tryz.func288.trans (congrArg some (by kernel_rfl))⟩
 f50 := ⟨"slices.medianCmpFunc[shipwright/api.Rule]", by decide, Tryz.func289.trans (congrArg some (by kernel_rfl))⟩
 f57 := ⟨"slices.order2CmpFunc[shipwright/api.Rule]", by decide, Tryz.func312.trans (congrArg some (by kernel_rfl))⟩
 t0 := Tryz.underlying0
 a0 := Tryz.isAgg0
 z0 := Tryz.sizeOf0
 v0 := Tryz.zeroValue0
 t3 := Tryz.underlying3
 a3 := Tryz.isAgg3
 z3 := Tryz.sizeOf3
 v3 := Tryz.zeroValue3
 t4 := Tryz.underlying4
 a4 := Tryz.isAgg4
 z4 := Tryz.sizeOf4
 v4 := Tryz.zeroValue4
 t5 := Tryz.underlying5
 a5 := Tryz.isAgg5
 z5 := Tryz.sizeOf5
 v5 := Tryz.zeroValue5
 t9 := Tryz.underlying9
 a9 := Tryz.isAgg9
 z9 := Tryz.sizeOf9
 v9 := Tryz.zeroValue9
 t22 := Tryz.underlying82
 a22 := Tryz.isAgg82
 z22 := Tryz.sizeOf82
 v22 := Tryz.zeroValue82
 t25 := Tryz.underlying132
 a25 := Tryz.isAgg132
 z25 := Tryz.sizeOf132
 v25 := Tryz.zeroValue132
 t39 := Tryz.underlying167
 a39 := Tryz.isAgg167
 z39 := Tryz.sizeOf167
 v39 := Tryz.zeroValue167
 t45 := Tryz.underlying211
 a45 := Tryz.isAgg211
 z45 := Tryz.sizeOf211
 v45 := Tryz.zeroValue211
 t46 := Tryz.underlying212
 a46 := Tryz.isAgg212
 z46 := Tryz.sizeOf212
 v46 := Tryz.zeroValue212
 t50 := Tryz.underlying141
 a50 := Tryz.isAgg141
 z50 := Tryz.sizeOf141
 v50 := Tryz.zeroValue141
 t53 := Tryz.underlying218
 a53 := Tryz.isAgg218
 z53 := Tryz.sizeOf218
 v53 := Tryz.zeroValue218
 t55 := Tryz.underlying220
 a55 := Tryz.isAgg220
 z55 := Tryz.sizeOf220
 v55 := Tryz.zeroValue220
 t66 := Tryz.underlying245
 a66 := Tryz.isAgg245
 z66 := Tryz.sizeOf245
 v66 := Tryz.zeroValue245
 t70 := Tryz.underlying249
 a70 := Tryz.isAgg249
 z70 := Tryz.sizeOf249
 v70 := Tryz.zeroValue249
 t76 := Tryz.underlying278
 a76 := Tryz.isAgg278
 z76 := Tryz.sizeOf278
 v76 := Tryz.zeroValue278
 t77 := Tryz.underlying279
 a77 := Tryz.isAgg279
 z77 := Tryz.sizeOf279
 v77 := Tryz.zeroValue279 }
set_option maxHeartbeats 4000000 in
set_option maxRecDepth 100000 in
theorem cmpC_any (x y : E5) (w : World) :
  Calls Tryz.prog 101 #[.agg (enc5 x).toArray, .agg (enc5 y).toArray] w fun e w' => e = .returned (.int .i64 (cf5 x y)) ∧ w' = (w.alloc (.cells (enc5 x).toArray 45)).alloc (.cells (enc5 y).toArray 45) := by
 have hc := fun w' => compare_c x.1 y.1 w'
 obtain ⟨r, hr⟩ : ∃ r, cf5 x y = r := ⟨_, rfl⟩
 have hr2 : Lib.compareBytes x.1.data.toList y.1.data.toList = r := hr
 simp only [hr2] at hc
 have CC := Lib.hid hc
 rw [hr]
 unfold enc5
 clear hr hr2 hc
 go_enter Tryz.func101, Tryz.ntmps101
 go_wp2_with fail
 refine (CC.out _).mono ?_
 rintro e w2 ⟨rfl, rfl⟩
 go_wp2
 go_ret
 exact ⟨rfl, rfl⟩
theorem cmpC_lays (blk size : Nat) (w : World) : CmpLays Tryz.prog 101 #[] enc5 5 cf5 blk 0 size w := by
 intro m os dk _ x y
 have := cmpC_any x y (sortWorldK enc5 5 w blk 0 m dk os)
 rw [Array.append_empty]
 refine this.mono ?_
 rintro e w' ⟨rfl, rfl⟩
 exact ⟨rfl, 0, #[.cells (enc5 x).toArray 45] ++ #[.cells (enc5 y).toArray 45], by rw [alloc_eq_grow, alloc_eq_grow, grow_grow]; rfl⟩
theorem swo5 : SWO (ltOf cf5) := by
 refine ⟨fun x => ?_, fun x y z h1 h2 => ?_, fun x y z h1 h2 => ?_⟩
 ·unfold ltOf
  have := cf_anti x x
  rw [decide_eq_false_iff_not]; omega
 ·unfold ltOf at h1 h2 ⊢
  rw [decide_eq_true_eq] at h1 h2 ⊢
  exact cmp_trans _ _ _ h1 h2
 ·rw [lt_le] at h1 h2 ⊢
  have a1 : le5 y x = true := by simpa using h1
  have a2 : le5 z y = true := by simpa using h2
  have := pre5.2 z y x a2 a1
  rw [this]; rfl
theorem sortFunc_any (blk cap : Nat) (d : Array E5) (w : World) (hH : HoldsK enc5 5 w blk 0 d) (hblk : blk < w.heap.size) (hsz : d.size < 4611686018427387904) :
  Calls Tryz.prog 144 #[.slice (some ⟨blk, 0, none⟩) d.size cap, .func (.func 101) #[] #[]] w fun e w' => e = .returned (.tuple #[]) ∧ ∃ d' n os, PermIn 0 d.size d d' ∧ SortedIn (ltOf cf5) 0 d.size d' ∧ w' = sortWorldK enc5 5 w blk 0 n d' os := by
 have e6 : soRen.f 6 = 144 := by kernel_rfl
 have := AnyQ.slices_SortFunc lSo 5 Tryz.isAgg45 Tryz.sizeOf45 enc5 enc5_len enc5_one cf5 swo5 101 #[] blk 0 cap d w (enters_of Tryz.func101 (by kernel_rfl) rfl) (cmpC_lays blk _ w) hH hblk hsz
 rwa [e6] at this
end Go.Proofs.YtdhmeganlnpohaaGreatDoor
