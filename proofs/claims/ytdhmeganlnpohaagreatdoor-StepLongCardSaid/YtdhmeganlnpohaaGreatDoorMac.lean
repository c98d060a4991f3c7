import Derived.Test.YtdhmeganlnpohaaGreatDoorMaa
import Derived.Test.YtdhmeganlnpohaaGreatDoorMab
import Derived.ArgAppend
import Derived.Lib.Bytealg
namespace Go.Proofs.YtdhmeganlnpohaaGreatDoor
open Go.RowKit
def normS (s : List UInt8) : List UInt8 × Bool :=
 match normGo [] (cutAt 47 s) with
 | none => ([], false)
 | some k => if okName (joinS k) then (joinS k, true) else ([], false)
theorem ret_two {a b : ByteArray} {c d : Bool} (h : a = b) (h' : c = d) : Ending.returned (.tuple #[.string a, .bool c]) = .returned (.tuple #[.string b, .bool d]) := by rw [h, h']
theorem drop_at {α : Type} (l : List α) (k : Nat) (x : α) (h : l[k]? = some x) : l.drop k = x :: l.drop (k + 1) := by
 obtain ⟨hk, rfl⟩ := List.getElem?_eq_some_iff.1 h
 exact List.drop_eq_getElem_cons hk
theorem own_shape {w : World} {B e size : Nat} {v : Value} {n : Nat} {xs : List Value} (h : w.ownsRow B e size v n xs) : ∃ a c, v = .slice a n c ∧ (n ≠ 0 → ∃ g, a = some ⟨g, 0, none⟩) ∧ n ≤ c ∧ c ≤ maxLen := by
 rcases h with ⟨_, ⟨rfl, h0⟩ | ⟨g, cap, cur, rfl, _, _, hn, hm, _⟩⟩
 ·exact ⟨none, 0, by rw [h0], fun h => absurd h0 h, by omega, by simp [maxLen]⟩
 ·exact ⟨_, _, rfl, fun _ => ⟨g, rfl⟩, hn, hm⟩
theorem own_pop {w : World} {B : Nat} {g cap : Nat} {kept : List ByteArray} (hne : kept ≠ [])
  (h : w.ownsRow B 9 1 (.slice (some ⟨g, 0, none⟩) kept.length cap) kept.length (kept.map Value.string)) :
  w.ownsRow B 9 1 (.slice (some ⟨g, 0, none⟩) kept.dropLast.length cap) kept.dropLast.length (kept.dropLast.map Value.string) := by
 obtain ⟨l, x, rfl⟩ : ∃ l x, kept = l ++ [x] := ⟨kept.dropLast, kept.getLast hne, (List.dropLast_concat_getLast hne).symm⟩
 rw [List.dropLast_concat]
 rw [List.length_append, List.map_append] at h
 exact ownsRow_pop (by simp) h
theorem nonE_sum (ls : List (List UInt8)) : ((nonE ls).map List.length).sum = (ls.map List.length).sum := by
 induction ls with
 | nil => rfl
 | cons a l ih =>
  unfold nonE at ih ⊢
  by_cases h : a = []
  ·subst h; simp [ih]
  ·rw [List.filter_cons_of_pos (by simp [h]), List.map_cons, List.sum_cons, List.map_cons, List.sum_cons, ih]
theorem joinS_len (ls : List (List UInt8)) : (joinS ls).length ≤ (ls.map List.length).sum + ls.length := by
 have h1 := nonE_sum ls
 have h2 : (nonE ls).length ≤ ls.length := List.length_filter_le _ _
 unfold joinS
 by_cases h : nonE ls = []
 ·rw [h, Lib.join_nil]; simp
 ·have := join_length 47 (nonE ls) h
  omega
theorem sum_append1 (kept : List ByteArray) (x : ByteArray) : ((kept ++ [x]).map ByteArray.size).sum = (kept.map ByteArray.size).sum + x.size := by simp
theorem sum_dropLast (kept : List ByteArray) : (kept.dropLast.map ByteArray.size).sum ≤ (kept.map ByteArray.size).sum := by
 by_cases h : kept = []
 ·subst h; simp
 ·have e := List.dropLast_concat_getLast h
  have : (kept.map ByteArray.size).sum = ((kept.dropLast ++ [kept.getLast h]).map ByteArray.size).sum := by rw [e]
  rw [this, sum_append1]; omega
theorem sum_data (xs : List ByteArray) : ((xs.map (·.data.toList)).map List.length).sum = (xs.map ByteArray.size).sum := by
 rw [List.map_map]; congr 1
def NormAt (xs : List ByteArray) (k : Nat) (kept : List ByteArray) (total : Nat) : Prop :=
 normGo (kept.map (·.data.toList)) ((xs.drop k).map (·.data.toList)) = normGo [] (xs.map (·.data.toList)) ∧ (kept.map ByteArray.size).sum + ((xs.drop k).map ByteArray.size).sum ≤ total ∧ kept.length ≤ k
theorem NormAt.skip {xs : List ByteArray} {k : Nat} {kept : List ByteArray} {total : Nat} {x : ByteArray} (h : NormAt xs k kept total) (hx : xs[k]? = some x) (he : x.toList = [] ∨ x.toList = [46]) : NormAt xs (k + 1) kept total := by
 obtain ⟨h1, h2, h3⟩ := h
 rw [drop_at xs k x hx] at h1 h2
 rw [List.map_cons, normGo_skip _ _ _ (by rw [← Lib.toList_data]; exact he)] at h1
 rw [List.map_cons, List.sum_cons] at h2
 exact ⟨h1, by omega, by omega⟩
theorem NormAt.fall {xs : List ByteArray} {k : Nat} {kept : List ByteArray} {total : Nat} {x : ByteArray} (h : NormAt xs k kept total) (hx : xs[k]? = some x) (he : x.toList = [46, 46]) (hk : kept.length = 0) : normGo [] (xs.map (·.data.toList)) = none := by
 obtain rfl := List.eq_nil_of_length_eq_zero hk
 obtain ⟨h1, h2, h3⟩ := h
 rw [← h1, drop_at xs k x hx, List.map_cons, ← Lib.toList_data, he]
 exact normGo_fall _
theorem NormAt.up {xs : List ByteArray} {k : Nat} {kept : List ByteArray} {total : Nat} {x : ByteArray} (h : NormAt xs k kept total) (hx : xs[k]? = some x) (he : x.toList = [46, 46]) (hk : kept ≠ []) : NormAt xs (k + 1) kept.dropLast total := by
 obtain ⟨h1, h2, h3⟩ := h
 rw [drop_at xs k x hx] at h1 h2
 rw [List.map_cons, ← Lib.toList_data, he, normGo_up _ _ (by simpa using hk)] at h1
 rw [List.map_cons, List.sum_cons] at h2
 have := sum_dropLast kept
 exact ⟨by rw [List.map_dropLast]; exact h1, by omega, by simp; omega⟩
theorem NormAt.keep {xs : List ByteArray} {k : Nat} {kept : List ByteArray} {total : Nat} {x : ByteArray} (h : NormAt xs k kept total) (hx : xs[k]? = some x) (e1 : ¬ x.toList = []) (e2 : ¬ x.toList = [46]) (e3 : ¬ x.toList = [46, 46]) : NormAt xs (k + 1) (kept ++ [x]) total := by
 obtain ⟨h1, h2, h3⟩ := h
 rw [Lib.toList_data] at e1 e2 e3
 rw [drop_at xs k x hx] at h1 h2
 rw [List.map_cons, normGo_keep _ _ _ e1 e2 e3] at h1
 rw [List.map_cons, List.sum_cons] at h2
 exact ⟨by rw [List.map_append]; exact h1, by rw [sum_append1]; omega, by simp; omega⟩
theorem NormAt.done {xs : List ByteArray} {k : Nat} {kept : List ByteArray} {total : Nat} (h : NormAt xs k kept total) (hk : xs.length ≤ k) : normGo [] (xs.map (·.data.toList)) = some (kept.map (·.data.toList)) ∧ (joinS (kept.map (·.data.toList))).length ≤ total + k := by
 obtain ⟨h1, h2, h3⟩ := h
 rw [List.drop_of_length_le hk] at h1 h2
 refine ⟨h1.symm, ?_⟩
 have := joinS_len (kept.map (·.data.toList))
 rw [sum_data, List.length_map] at this
 omega
set_option maxHeartbeats 4000000 in
theorem norm_any (s : ByteArray) (m : Int) (w : World) (hs : s.size < 4294967281) (hG : 1 < w.heap.size) (hm : w.cell? ⟨1, 0, none⟩ = some (.int .i64 m)) :
  Calls Tryz.prog 218 #[.string s] w fun e w' => e = .returned (.tuple #[.string ⟨(normS s.data.toList).1.toArray⟩, .bool (normS s.data.toList).2]) ∧ Below w.heap.size w w' := by
 obtain ⟨i0, hi, hz0, hz1, hz2⟩ := info_parts info_str
 obtain ⟨r, hr⟩ : ∃ r, r = normS s.data.toList := ⟨_, rfl⟩
 rw [← hr]
 obtain ⟨r1, r2⟩ := r
 have HR := Lib.hid hr
 clear hr
 have hsz := Lib.hid (Lib.size_eq s)
 go_enter Tryz.func218, Tryz.ntmps218
 go_wp2_with fail
 refine (parts_any s m w hs hm).mono ?_
 rintro e w' ⟨xs, hx, rfl, rfl⟩
 have hlen := congrArg List.length hx
 rw [List.length_map] at hlen
 have hcl := cutAt_length_le 47 s.data.toList
 rw [← hlen, ← hsz.out] at hcl
 have hsm : ∀ (k : Nat) x, xs[k]? = some x → x.size ≤ s.size := by
  intro k x hxk
  have h1 : x.data.toList ∈ cutAt 47 s.data.toList := by rw [← hx]; exact List.mem_map_of_mem (List.mem_of_getElem? hxk)
  have h2 := cutAt_len 47 s.data.toList _ h1
  rw [← hsz.out] at h2
  rw [Lib.size_eq x]; omega
 have HSM := Lib.hid hsm
 have HR' : Hid ((r1, r2) = match normGo [] (xs.map (·.data.toList)) with | none => ([], false) | some k => if okName (joinS k) then (joinS k, true) else ([], false)) := by
  show (r1, r2) = _
  rw [HR.out, normS, ← hx]
 have HX := Lib.hid hx
 clear hsm hlen hx
 obtain ⟨W1, hW1⟩ : ∃ W1 : World, w.alloc (.cells (xs.map Value.string).toArray 9) = W1 := ⟨_, rfl⟩
 have hcs : ∀ (k : Nat) x, xs[k]? = some x → W1.cell? ⟨w.heap.size, k, none⟩ = some (.string x) := fun k x h => hW1 ▸ cell_strs w xs 9 k x h
 have hsize : W1.heap.size = w.heap.size + 1 := by rw [← hW1]; simp
 have hb1 : Below w.heap.size w W1 := hW1 ▸ (Below.refl _ _).alloc (Nat.le_refl _) _
 have HCS := Lib.hid hcs
 have HSI := Lib.hid hsize
 rw [hW1]
 clear hcs hW1 hsize
 have htot : (xs.map ByteArray.size).sum ≤ s.size := by
  rw [← sum_data, HX.out]
  have h1 := cutAt_sum 47 s.data.toList
  have h2 : (cutAt 47 s.data.toList).length ≠ 0 := fun e => cutAt_ne 47 s.data.toList (List.eq_nil_of_length_eq_zero e)
  rw [hsz.out]; omega
 have H0 : NormAt xs 0 [] s.size := ⟨rfl, by simpa using htot, Nat.le_refl _⟩
 clear htot
 go_wp2
 go_loopw [4, 11] (fun v i wr => ∃ (k : Nat) (kept : List ByteArray) (a : Option Addr) (c : Nat), k ≤ xs.length ∧ i = .int .i64 k ∧ v = .slice a kept.length c ∧ wr.ownsRow W1.heap.size 9 1 (.slice a kept.length c) kept.length (kept.map Value.string) ∧ Below W1.heap.size W1 wr ∧ NormAt xs k kept s.size)
  (fun _ i _ => xs.length - (intOf i).toNat)
 case atStart => exact ⟨0, [], none, 0, Nat.zero_le _, rfl, rfl, World.ownsRow_nil _ _ _ _, Below.refl _ _, H0⟩
 case round =>
  obtain ⟨k, kept, a, c, hk, rfl, rfl, hown, hnx, hat⟩ := hrel
  have HAT := Lib.hid hat
  have hkl : kept.length ≤ k := hat.2.2
  clear hat H0
  by_cases hlt : k < xs.length
  ·obtain ⟨x, hx⟩ : ∃ x, xs[k]? = some x := ⟨xs[k], List.getElem?_eq_getElem hlt⟩
   have hcx : wr.cell? ⟨w.heap.size, k, none⟩ = some (.string x) := (hnx.cell (by have := HSI.out; show w.heap.size < _; omega)).trans (HCS.out k x hx)
   have HX0 := Lib.hid hx
   clear hx
   by_cases e1 : x.toList = []
   ·have HS := Lib.hid (HAT.out.skip HX0.out (.inl e1))
    go_wp2
    go_roundw
    case rel => exact ⟨k + 1, kept, a, c, by omega, by go_num, rfl, hown, hnx, HS.out⟩
    case measure => simp [intOf]; omega
   ·have b1 : x.toList.isEmpty = false := List.isEmpty_eq_false_iff.2 e1
    by_cases e2 : x.toList = [46]
    ·have HS := Lib.hid (HAT.out.skip HX0.out (.inr e2))
     go_wp2
     go_roundw
     case rel => exact ⟨k + 1, kept, a, c, by omega, by go_num, rfl, hown, hnx, HS.out⟩
     case measure => simp [intOf]; omega
    ·have b2 : (x.toList == [46]) = false := by simpa using e2
     by_cases e3 : x.toList = [46, 46]
     ·by_cases e4 : kept.length = 0
      ·have HS := Lib.hid (HAT.out.fall HX0.out e3 e4)
       have b4 : ((kept.length : Int) == 0) = true := by rw [e4]; rfl
       clear e4 hown
       go_wp2
       go_ret2
       have hrr : r1 = [] ∧ r2 = false := by have := HR'.out; rw [HS.out] at this; simpa only [Prod.mk.injEq] using this
       exact ⟨ret_two (by rw [hrr.1]) hrr.2.symm, hb1.trans (hnx.mono hb1.size)⟩
      ·have hne : kept ≠ [] := fun e => e4 (by rw [e]; rfl)
       obtain ⟨a', c', hv, hg, hn', hm'⟩ := own_shape hown
       obtain ⟨g, hg⟩ := hg e4
       cases hv
       subst hg
       have HS := Lib.hid (HAT.out.up HX0.out e3 hne)
       have hown' := own_pop hne hown
       have hdl : kept.dropLast.length = kept.length - 1 := List.length_dropLast
       have b4 : ((kept.length : Int) == 0) = false := by simp; omega
       have hp : 0 < kept.length := by omega
       have HD := Lib.hid hdl
       clear hdl e4 hne hown
       go_wp2
       go_roundw
       case rel => exact ⟨k + 1, kept.dropLast, some ⟨g, 0, none⟩, c, by omega, by go_num, by rw [HD.out], hown', hnx, HS.out⟩
       case measure => simp [intOf]; omega
     ·have b3 : (x.toList == [46, 46]) = false := by simpa using e3
      have HS := Lib.hid (HAT.out.keep HX0.out e1 e2 e3)
      go_wp2_with (at_builtin; refine wpList_append_own _ rfl _ _ 22 rfl W1.heap.size 9 i0 (.string ByteArray.empty) 1 16 Tryz.underlying22 hi hz0 hz1 hz2 rfl (by decide) _ _ _ rfl (hown.alloc _) ⟨wr.heap.size, 0, none⟩ 1 1 [.string x] rfl rfl ?c1 ?c2 ?c3 ?c4 ?c5 ?_)
      case c1 =>
       intro j u hj
       match j, hj with
       | 0, hj => simp at hj; subst hj; simp [Addr.add]
      case c2 => intro u hu; simp at hu; subst hu; rfl
      case c3 => unfold maxLen; omega
      case c4 => omega
      case c5 => have := hnx.size; simp; omega
      ·intro v' w1 hown' hgrow _
       have hnx' : Below W1.heap.size W1 w1 := (hnx.alloc hnx.size _).grown hgrow (by have := hnx.size; simp; omega) (fun g hg => (hown.lt g hg).1)
       clear hgrow hown hcx
       obtain ⟨a', c', hv, _⟩ := own_shape hown'
       have hl : (kept ++ [x]).length = kept.length + 1 := by simp
       have hmm : (kept ++ [x]).map Value.string = kept.map Value.string ++ [Value.string x] := by simp
       rw [hv, ← hl, ← hmm] at hown'
       have HV := Lib.hid hv
       clear hv hmm
       have HL := Lib.hid hl
       clear hl
       go_wp2
       go_roundw
       case rel => exact ⟨k + 1, kept ++ [x], a', c', by omega, by go_num, by rw [HV.out, HL.out], hown', hnx', HS.out⟩
       case measure => simp [intOf]; omega
  ·have hd := HAT.out.done (by omega)
   have hS := strs_own (v := .slice a kept.length c) hown
   have cJ := join_any _ kept wr hS (by omega) (by have := hd.2; omega)
   have HD := Lib.hid hd
   obtain ⟨j, hj⟩ : ∃ j, joinS (kept.map (·.data.toList)) = j := ⟨_, rfl⟩
   have hjl : j.length ≤ 4294967281 * 2 := by have := HD.out.2; rw [hj] at this; omega
   rw [hj] at cJ
   have HJ := Lib.hid hj
   have hm2 : wr.cell? ⟨1, 0, none⟩ = some (.int .i64 m) := (hnx.cell (by have := hb1.size; show 1 < _; omega)).trans ((hb1.cell hG).trans hm)
   have HM := Lib.hid hm2
   clear hd hj hS hown hm2 hm
   go_wp2_with fail
   refine cJ.mono ?_
   rintro e w2 ⟨rfl, hb2⟩
   have hm3 : w2.cell? ⟨1, 0, none⟩ = some (.int .i64 m) := (hb2.cell (by have := hb1.size; have := hnx.size; show 1 < _; omega)).trans HM.out
   have cM := may_any ⟨j.toArray⟩ m w2 (by unfold maxLen; simp only [ByteArray.size, List.size_toArray]; omega) hm3
   obtain ⟨b, hb⟩ : ∃ b, okName j = b := ⟨_, rfl⟩
   rw [show (⟨j.toArray⟩ : ByteArray).data.toList = j from by simp, hb] at cM
   have HB := Lib.hid hb
   clear hb hm3
   have hrr : Hid ((r1, r2) = if b = true then (j, true) else ([], false)) := by
    show _ = _
    have := HR'.out
    rw [HD.out.1] at this
    simp only [HJ.out, HB.out] at this
    exact this
   have hbb := hb1.trans ((hnx.mono hb1.size).trans (hb2.mono (by have := hnx.size; have := hb1.size; omega)))
   have hs2 : w.heap.size ≤ w2.heap.size := hbb.size
   cases b
   ·go_wp2_with (go_at_call 107; refine cM.mono ?_; rintro e w3 ⟨rfl, hb3⟩)
    go_ret2
    have hr3 : r1 = [] ∧ r2 = false := by have := hrr.out; simpa using this
    exact ⟨ret_two (by rw [hr3.1]) hr3.2.symm, hbb.trans (hb3.mono hs2)⟩
   ·go_wp2_with (go_at_call 107; refine cM.mono ?_; rintro e w3 ⟨rfl, hb3⟩)
    go_ret2
    have hr3 : r1 = j ∧ r2 = true := by have := hrr.out; simpa using this
    exact ⟨ret_two (by rw [hr3.1]) hr3.2.symm, hbb.trans (hb3.mono hs2)⟩
end Go.Proofs.YtdhmeganlnpohaaGreatDoor
namespace Go.Proofs.YtdhmeganlnpohaaGreatDoor
open Go.RowKit
def OwnF (w : World) (B : Nat) (r : Option Nat) (v : Value) (fs : List F2) : Prop :=
 (w.ownsRow B 81 2 v fs.length (fileCells fs) ∧ r = v.ownBlock) ∨ (fs = [] ∧ r = none ∧ ∃ a, v = .slice a 0 0)
def InsPost (w : World) (B : Nat) (r : Option Nat) (fs : List F2) (e : Ending) (w' : World) : Prop :=
 ∃ v' r', e = .returned v' ∧ OwnF w' B r' v' fs ∧ w.grownBy w' r ∧ (r' = r ∨ ∃ k, r' = some k ∧ w.heap.size ≤ k)
theorem own_mono {w : World} {B B' e size : Nat} {v : Value} {n : Nat} {xs : List Value} (h : w.ownsRow B e size v n xs) (hB : B' ≤ B) : w.ownsRow B' e size v n xs := by
 obtain ⟨h1, h2 | ⟨g, cap, cur, hv, hg, hr⟩⟩ := h
 ·exact ⟨h1, .inl h2⟩
 ·exact ⟨h1, .inr ⟨g, cap, cur, hv, Nat.le_trans hB hg, hr⟩⟩
theorem own_fresh {w : World} {B e size : Nat} {v : Value} {n : Nat} {xs : List Value} (h : w.ownsRow B e size v n xs) (hn : n ≠ 0) : ∃ k, v.ownBlock = some k ∧ B ≤ k := by
 obtain ⟨h1, ⟨_, h2⟩ | ⟨g, cap, cur, hv, hg, hr⟩⟩ := h
 ·exact absurd h2 hn
 ·exact ⟨g, by rw [hv]; rfl, hg⟩
set_option maxHeartbeats 4000000 in
set_option maxRecDepth 100000 in
theorem insert_end_room (B vb g c : Nat) (fs : List F2) (f : F2) (w : World) (_hn : fs.length ≤ 1000) (hc : fs.length + 1 ≤ c)
  (hown : w.ownsRow B 81 2 (.slice (some ⟨g, 0, none⟩) fs.length c) fs.length (fileCells fs))
  (hv : w.heap[vb]? = some (.cells #[.string f.1, .string f.2] 81 (0, 0))) :
  Calls Tryz.prog 116 #[.slice (some ⟨g, 0, none⟩) fs.length c, .int .i64 fs.length, .slice (some ⟨vb, 0, none⟩) 1 1] w (InsPost w B (some g) (fs ++ [f])) := by
 obtain ⟨i0, hi0, hz0, hz1, hz2⟩ := info_parts info_file
 have hcm := (own_shape hown)
 obtain ⟨a', c', hv', _, hnc, hcm⟩ := hcm
 cases hv'
 unfold maxLen at hcm
 have hne : ¬ (c = fs.length) := by omega
 go_enter Tryz.func116, Tryz.ntmps116
 go_wp2_with (at_builtin; refine wpList_append_fits _ rfl _ _ 108 rfl B 81 i0 2 Tryz.underlying108 hi0 hz1 g _ _ _ rfl hown ⟨vb, 0, none⟩ 1 1 [.string f.1, .string f.2] rfl rfl ?c1 ?c2 hc ?_)
 case c1 => exact fun j u hj => row_cell hv 0 j u (by simpa using hj)
 case c2 => intro u hu; simp at hu; rcases hu with rfl | rfl <;> rfl
 intro w' hown' hgrow
 have HO : Hid (OwnF w' B (some g) (.slice (some ⟨g, 0, none⟩) (fs.length + 1) c) (fs ++ [f])) := by
  refine .inl ⟨?_, rfl⟩
  rw [fileCells_append, fileCells_cons, fileCells_nil]
  simpa using hown'
 clear hown'
 go_wp2
 go_ret
 exact ⟨_, _, rfl, HO.out, hgrow, .inl rfl⟩
set_option maxHeartbeats 4000000 in
set_option maxRecDepth 100000 in
theorem insert_end_grow (B vb c : Nat) (a : Option Addr) (r : Option Nat) (fs : List F2) (f : F2) (w : World) (hn : fs.length ≤ 1000) (hc : c = fs.length) (hB : B ≤ w.heap.size) (hnone : a = none → fs.length = 0)
  (hcs : ∀ b, a = some b → ∀ j u, (fileCells fs)[j]? = some u → w.cell? (b.add j) = some u)
  (hv : w.heap[vb]? = some (.cells #[.string f.1, .string f.2] 81 (0, 0))) :
  Calls Tryz.prog 116 #[.slice a fs.length c, .int .i64 fs.length, .slice (some ⟨vb, 0, none⟩) 1 1] w (InsPost w B r (fs ++ [f])) := by
 obtain ⟨i0, hi0, hz0, hz1, hz2⟩ := info_parts info_file
 subst hc
 have HCS := Lib.hid hcs
 clear hcs
 go_enter Tryz.func116, Tryz.ntmps116
 go_wp2_with (at_builtin; refine wpList_append_grows _ rfl _ _ 108 rfl 81 i0 _ 2 32 Tryz.underlying108 hi0 hz0 hz1 hz2 rfl (by decide) a fs.length fs.length (fileCells fs) rfl ?c0 ?cl ?cs ⟨vb, 0, none⟩ 1 1 [.string f.1, .string f.2] rfl rfl ?c1 ?c2 ?c3 ?c4 ?c5 ?_)
 case c0 => exact fun h => ⟨hnone h, hnone h⟩
 case cl => exact fileCells_length fs
 case cs => exact HCS.out
 case c1 => exact fun j u hj => row_cell hv 0 j u (by simpa using hj)
 case c2 => intro u hu; simp at hu; rcases hu with rfl | rfl <;> rfl
 case c3 => omega
 case c4 => unfold maxLen; omega
 case c5 => omega
 all_goals
  intro v' w' hown' hgrow
  obtain ⟨k, hk, hkB⟩ := own_fresh hown' (by omega)
  have HO : Hid (OwnF w' B (some k) v' (fs ++ [f])) := by
   refine .inl ⟨?_, hk.symm⟩
   rw [fileCells_append, fileCells_cons, fileCells_nil]
   simpa using own_mono hown' hB
  have HG : Hid (w.grownBy w' r) := ⟨hgrow.os, hgrow.tape, hgrow.output, hgrow.size, fun k hk _ => hgrow.block k hk (by simp)⟩
  clear hown' hgrow
  go_wp2
  go_ret
  exact ⟨_, _, rfl, HO.out, HG.out, .inr ⟨k, rfl, hkB⟩⟩
theorem grown_of {w w' : World} {r : Option Nat} (h : w.grownBy w' none) : w.grownBy w' r := ⟨h.os, h.tape, h.output, h.size, fun k hk _ => h.block k hk (by simp)⟩
theorem insert_any (B vb i : Nat) (r : Option Nat) (v : Value) (fs : List F2) (f : F2) (w : World) (hi : i ≤ fs.length) (hn : fs.length ≤ 1000) (hB : B ≤ w.heap.size)
  (hown : OwnF w B r v fs) (hvb : some vb ≠ r)
  (hv : w.heap[vb]? = some (.cells #[.string f.1, .string f.2] 81 (0, 0))) :
  Calls Tryz.prog 116 #[v, .int .i64 i, .slice (some ⟨vb, 0, none⟩) 1 1] w (InsPost w B r (fs.take i ++ f :: fs.drop i)) := by
 rcases hown with ⟨hown, rfl⟩ | ⟨rfl, rfl, a, rfl⟩
 ·obtain ⟨hl, ⟨rfl, h0⟩ | ⟨g, c, cur, rfl, hgB, hg, hnc, hcm, hcs, htk⟩⟩ := id hown
  ·obtain rfl := List.eq_nil_of_length_eq_zero h0
   obtain rfl : i = 0 := by simpa using hi
   exact insert_end_grow B vb 0 none _ [] f w hn rfl hB (fun _ => rfl) (fun b hb => by cases hb) hv
  ·by_cases he : i = fs.length
   ·subst he
    rw [List.take_length, List.drop_length]
    by_cases hc : fs.length + 1 ≤ c
    ·exact insert_end_room B vb g c fs f w hn hc hown hv
    ·exact insert_end_grow B vb c (some ⟨g, 0, none⟩) _ fs f w hn (by omega) hB (fun h => by cases h) (fun b hb j u hj => by
      cases hb
      refine row_cell hg 0 j u ?_
      rw [← htk, List.getElem?_take] at hj
      split at hj
      ·simpa using hj
      ·cases hj) hv
   ·by_cases hc : fs.length + 1 ≤ c
    ·refine (insert_shift g fs.length c i vb fs f cur w (by omega) hc hn (by unfold maxLen at hcm; omega) (fun e => hvb (by rw [e]; rfl)) rfl hg hcs htk hv).mono ?_
     rintro e w' ⟨rfl, cur', hg', hcs', htk', hgrow⟩
     refine ⟨_, _, rfl, .inl ⟨⟨by rw [fileCells_length], .inr ⟨g, c, cur', ?_, hgB, hg', ?_, hcm, hcs', ?_⟩⟩, rfl⟩, hgrow, .inl rfl⟩
     ·congr 1; simp; omega
     ·simp; omega
     ·rw [show (fs.take i ++ f :: fs.drop i).length = fs.length + 1 from by simp; omega]; exact htk'
    ·refine (insert_grow g fs.length c i vb fs f cur w (by omega) (by omega) hn hnc rfl hg hcs htk hv).mono ?_
     rintro e w' ⟨G, rfl, hG, hGm, cur', hg', hcs', htk', hgrow⟩
     refine ⟨_, _, rfl, .inl ⟨⟨by rw [fileCells_length], .inr ⟨w.heap.size, G, cur', ?_, hB, hg', ?_, hGm, hcs', ?_⟩⟩, rfl⟩, grown_of hgrow, .inr ⟨w.heap.size, rfl, Nat.le_refl _⟩⟩
     ·congr 1; simp; omega
     ·simp; omega
     ·rw [show (fs.take i ++ f :: fs.drop i).length = fs.length + 1 from by simp; omega]; exact htk'
 ·obtain rfl : i = 0 := by simpa using hi
  exact insert_end_grow B vb 0 a _ [] f w hn rfl hB (fun _ => rfl) (fun b hb j u hj => by simp [fileCells] at hj) hv
end Go.Proofs.YtdhmeganlnpohaaGreatDoor
namespace Go.Proofs.YtdhmeganlnpohaaGreatDoor
open Go.Lib
theorem cmp_refl : ∀ a : List UInt8, compareBytes a a = 0
 | [] => rfl
 | a :: az => by
  unfold compareBytes
  have h : ¬ a < a := by rw [UInt8.lt_iff_toNat_lt]; omega
  rw [if_neg h, if_neg h, cmp_refl az]
theorem cmp_zero : ∀ a b : List UInt8, compareBytes a b = 0 → a = b
 | [], [], _ => rfl
 | [], _ :: _, h => by simp [compareBytes] at h
 | _ :: _, [], h => by simp [compareBytes] at h
 | a :: az, b :: bs, h => by
  unfold compareBytes at h
  split at h
  ·cases h
  ·split at h
   ·cases h
   ·rename_i h1 h2
    have : a = b := UInt8.toNat_inj.1 (by rw [UInt8.lt_iff_toNat_lt] at h1 h2; omega)
    rw [this, cmp_zero az bs h]
theorem cmp_anti : ∀ a b : List UInt8, compareBytes b a = - compareBytes a b
 | [], [] => rfl
 | [], _ :: _ => rfl
 | _ :: _, [] => rfl
 | a :: az, b :: bs => by
  unfold compareBytes
  by_cases h1 : a < b
  ·have h2 : ¬ b < a := by rw [UInt8.lt_iff_toNat_lt] at h1 ⊢; omega
   rw [if_pos h1, if_neg h2, if_pos h1]; rfl
  ·by_cases h2 : b < a
   ·rw [if_pos h2, if_neg h1, if_pos h2]
   ·rw [if_neg h2, if_neg h1, if_neg h1, if_neg h2, cmp_anti az bs]
theorem cmp_trans : ∀ a b c : List UInt8, compareBytes a b < 0 → compareBytes b c < 0 → compareBytes a c < 0
 | [], [], _, h, _ => by simp [compareBytes] at h
 | [], _ :: _, [], _, h => by simp [compareBytes] at h
 | [], _ :: _, _ :: _, _, _ => by simp [compareBytes]
 | _ :: _, [], _, h, _ => by simp [compareBytes] at h
 | _ :: _, _ :: _, [], _, h => by simp [compareBytes] at h
 | a :: az, b :: bs, c :: cs, h1, h2 => by
  unfold compareBytes at h1 h2 ⊢
  simp only [UInt8.lt_iff_toNat_lt] at h1 h2 ⊢
  by_cases hab : a.toNat < b.toNat
  ·by_cases hbc : b.toNat < c.toNat
   ·rw [if_pos (by omega)]; decide
   ·rw [if_neg hbc] at h2
    by_cases hcb : c.toNat < b.toNat
    ·rw [if_pos hcb] at h2; exact absurd h2 (by decide)
    ·rw [if_pos (by omega)]; decide
  ·rw [if_neg hab] at h1
   by_cases hba : b.toNat < a.toNat
   ·rw [if_pos hba] at h1; exact absurd h1 (by decide)
   ·rw [if_neg hba] at h1
    by_cases hbc : b.toNat < c.toNat
    ·rw [if_pos (by omega)]; decide
    ·rw [if_neg hbc] at h2
     by_cases hcb : c.toNat < b.toNat
     ·rw [if_pos hcb] at h2; exact absurd h2 (by decide)
     ·rw [if_neg hcb] at h2
      rw [if_neg (by omega), if_neg (by omega)]
      exact cmp_trans az bs cs h1 h2
def cmpF (f : ByteArray × ByteArray) (x : ByteArray) : Int := compareBytes f.1.data.toList x.data.toList
def Sorted (fs : List (ByteArray × ByteArray)) : Prop := fs.Pairwise fun f g => cmpF f g.1 < 0
def posOf (fs : List (ByteArray × ByteArray)) (x : ByteArray) : Nat := (fs.takeWhile fun f => decide (cmpF f x < 0)).length
def hasF (fs : List (ByteArray × ByteArray)) (x : ByteArray) : Bool := fs.any fun f => f.1.data.toList == x.data.toList
theorem cmpF_trans {f g : ByteArray × ByteArray} {x : ByteArray} (h1 : cmpF f g.1 < 0) (h2 : cmpF g x < 0) : cmpF f x < 0 := cmp_trans _ _ _ h1 h2
theorem cmpF_zero {f : ByteArray × ByteArray} {x : ByteArray} (h : cmpF f x = 0) : f.1 = x := by
 have := cmp_zero _ _ h
 exact ByteArray.ext (Array.toList_inj.1 this)
theorem cmpF_self (f : ByteArray × ByteArray) : cmpF f f.1 = 0 := cmp_refl _
theorem sorted_mono {fs : List (ByteArray × ByteArray)} (h : Sorted fs) {a b : Nat} {fa fb : ByteArray × ByteArray} (hab : a ≤ b) (ha : fs[a]? = some fa) (hb : fs[b]? = some fb) {x : ByteArray} (hx : cmpF fb x < 0) : cmpF fa x < 0 := by
 rcases Nat.lt_or_ge a b with hlt | hge
 ·obtain ⟨hb', rfl⟩ := List.getElem?_eq_some_iff.1 hb
  obtain ⟨ha', rfl⟩ := List.getElem?_eq_some_iff.1 ha
  exact cmpF_trans (List.pairwise_iff_getElem.1 h a b ha' hb' hlt) hx
 ·obtain rfl : a = b := by omega
  rw [ha] at hb; injection hb with hb; rw [hb]; exact hx
theorem posOf_eq {fs : List (ByteArray × ByteArray)} {x : ByteArray} : ∀ {p : Nat}, p ≤ fs.length → (∀ (t : Nat) f, t < p → fs[t]? = some f → cmpF f x < 0) → (∀ (t : Nat) f, p ≤ t → fs[t]? = some f → ¬ cmpF f x < 0) → posOf fs x = p := by
 induction fs with
 | nil => intro p hp _ _; simp at hp; simp [posOf, hp]
 | cons f fs ih =>
  intro p hp h1 h2
  cases p with
  | zero =>
   have := h2 0 f (Nat.le_refl _) rfl
   simp [posOf, this]
  | succ p =>
   have h0 := h1 0 f (Nat.succ_pos _) rfl
   have := ih (p := p) (by simpa using hp) (fun t g ht hg => h1 (t + 1) g (by omega) (by simpa using hg)) (fun t g ht hg => h2 (t + 1) g (by omega) (by simpa using hg))
   unfold posOf at this ⊢
   rw [List.takeWhile_cons, if_pos (by simpa using h0), List.length_cons, this]
theorem posOf_le (fs : List (ByteArray × ByteArray)) (x : ByteArray) : posOf fs x ≤ fs.length := by
 unfold posOf
 exact (List.takeWhile_sublist _).length_le
theorem posOf_cons (f : ByteArray × ByteArray) (fs : List (ByteArray × ByteArray)) (x : ByteArray) : posOf (f :: fs) x = if cmpF f x < 0 then posOf fs x + 1 else 0 := by
 unfold posOf
 rw [List.takeWhile_cons]
 by_cases h : cmpF f x < 0 <;> simp [h]
theorem posOf_spec (x : ByteArray) : ∀ {fs : List (ByteArray × ByteArray)}, Sorted fs → (∀ (t : Nat) f, t < posOf fs x → fs[t]? = some f → cmpF f x < 0) ∧ (∀ (t : Nat) f, posOf fs x ≤ t → fs[t]? = some f → ¬ cmpF f x < 0)
 | [], _ => ⟨fun t f _ h => by simp at h, fun t f _ h => by simp at h⟩
 | g :: gs, hs => by
  obtain ⟨ih1, ih2⟩ := posOf_spec x (List.pairwise_cons.1 hs).2
  rw [posOf_cons]
  by_cases h : cmpF g x < 0
  ·rw [if_pos h]
   refine ⟨fun t f ht hf => ?_, fun t f ht hf => ?_⟩
   ·cases t with
    | zero => simp at hf; rw [← hf]; exact h
    | succ t => exact ih1 t f (by omega) (by simpa using hf)
   ·cases t with
    | zero => omega
    | succ t => exact ih2 t f (by omega) (by simpa using hf)
  ·rw [if_neg h]
   refine ⟨fun t f ht hf => by omega, fun t f ht hf => ?_⟩
   cases t with
   | zero => simp at hf; rw [← hf]; exact h
   | succ t => exact fun hx => h (cmpF_trans ((List.pairwise_cons.1 hs).1 f (List.mem_of_getElem? (by simpa using hf))) hx)
theorem hasF_at {fs : List (ByteArray × ByteArray)} (hs : Sorted fs) {x : ByteArray} {p : Nat} (h1 : ∀ (t : Nat) f, t < p → fs[t]? = some f → cmpF f x < 0) (h2 : ∀ (t : Nat) f, p ≤ t → fs[t]? = some f → ¬ cmpF f x < 0) :
  (∃ f, fs[p]? = some f ∧ cmpF f x = 0) ↔ hasF fs x = true := by
 unfold hasF
 rw [List.any_eq_true]
 constructor
 ·rintro ⟨f, hf, h0⟩
  exact ⟨f, List.mem_of_getElem? hf, by rw [cmpF_zero h0]; simp⟩
 ·rintro ⟨f, hf, hx⟩
  have hx : f.1 = x := ByteArray.ext (Array.toList_inj.1 (eq_of_beq hx))
  obtain ⟨t, ht⟩ := List.getElem?_of_mem hf
  have h0 : cmpF f x = 0 := by rw [← hx]; exact cmpF_self f
  have hpt : p ≤ t := by
   rcases Nat.lt_or_ge t p with h | h
   ·have := h1 t f h ht; omega
   ·exact h
  rcases Nat.lt_or_ge p t with h | h
  ·exfalso
   obtain ⟨ht', _⟩ := List.getElem?_eq_some_iff.1 ht
   have hp' : fs[p]? = some fs[p] := List.getElem?_eq_getElem (by omega)
   have h3 := h2 p _ (Nat.le_refl _) hp'
   have h4 : cmpF fs[p] f.1 < 0 := by
    obtain ⟨ht'', rfl⟩ := List.getElem?_eq_some_iff.1 ht
    exact List.pairwise_iff_getElem.1 hs p t (by omega) ht' h
   rw [hx] at h4
   exact h3 h4
  ·obtain rfl : p = t := by omega
   exact ⟨f, ht, h0⟩
end Go.Proofs.YtdhmeganlnpohaaGreatDoor
