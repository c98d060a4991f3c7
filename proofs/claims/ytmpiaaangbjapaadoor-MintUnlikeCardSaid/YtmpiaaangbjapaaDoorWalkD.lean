/- Contract of package path: Norm. -/
import Derived.Test.YtmpiaaangbjapaaDoorWalkC
import Derived.Test.YtmpiaaangbjapaaDoorMathB
namespace Go.Proofs.YtmpiaaangbjapaaDoor
open Go.RowKit

/-- What Norm tells. -/
def normS (s : List UInt8) : List UInt8 × Bool :=
  match normGo [] (cutAt 47 s) with
  | none => ([], false)
  | some k => if okName (joinS k) then (joinS k, true) else ([], false)

theorem ret_two {a b : ByteArray} {c d : Bool} (h : a = b) (h' : c = d) : Ending.returned (.tuple #[.string a, .bool c]) = .returned (.tuple #[.string b, .bool d]) := by rw [h, h']

theorem drop_at {α : Type} (l : List α) (k : Nat) (x : α) (h : l[k]? = some x) : l.drop k = x :: l.drop (k + 1) := by
  obtain ⟨hk, rfl⟩ := List.getElem?_eq_some_iff.1 h
  exact List.drop_eq_getElem_cons hk

/-- The shape of a row that is owned and not empty. -/
theorem own_shape {w : World} {B e size : Nat} {v : Value} {n : Nat} {xs : List Value} (h : w.ownsRow B e size v n xs) : ∃ a c, v = .slice a n c ∧ (n ≠ 0 → ∃ g, a = some ⟨g, 0, none⟩) ∧ n ≤ c ∧ c ≤ maxLen := by
  rcases h with ⟨_, ⟨rfl, h0⟩ | ⟨g, cap, cur, rfl, _, _, hn, hm, _⟩⟩
  · exact ⟨none, 0, by rw [h0], fun h => absurd h0 h, by omega, by simp [maxLen]⟩
  · exact ⟨_, _, rfl, fun _ => ⟨g, rfl⟩, hn, hm⟩

theorem own_pop {w : World} {B : Nat} {g cap : Nat} {kept : List ByteArray} (hne : kept ≠ [])
    (h : w.ownsRow B 9 1 (.slice (some ⟨g, 0, none⟩) kept.length cap) kept.length (kept.map Value.string)) :
    w.ownsRow B 9 1 (.slice (some ⟨g, 0, none⟩) kept.dropLast.length cap) kept.dropLast.length (kept.dropLast.map Value.string) := by
  obtain ⟨l, x, rfl⟩ : ∃ l x, kept = l ++ [x] := ⟨kept.dropLast, kept.getLast hne, (List.dropLast_concat_getLast hne).symm⟩
  rw [List.dropLast_concat]
  rw [List.length_append, List.map_append] at h
  exact ownsRow_pop (by simp) h

theorem nonE_sum (ls : List (List UInt8)) : ((nonE ls).map List.length).sum = (ls.map List.length).sum := by
  induction ls with
  | nil => rfl
  | cons a l ih =>
    unfold nonE at ih ⊢
    by_cases h : a = []
    · subst h; simp [ih]
    · rw [List.filter_cons_of_pos (by simp [h]), List.map_cons, List.sum_cons, List.map_cons, List.sum_cons, ih]

theorem joinS_len (ls : List (List UInt8)) : (joinS ls).length ≤ (ls.map List.length).sum + ls.length := by
  have h1 := nonE_sum ls
  have h2 : (nonE ls).length ≤ ls.length := List.length_filter_le _ _
  unfold joinS
  by_cases h : nonE ls = []
  · rw [h, Lib.join_nil]; simp
  · have := join_length 47 (nonE ls) h
    omega

theorem sum_append1 (kept : List ByteArray) (x : ByteArray) : ((kept ++ [x]).map ByteArray.size).sum = (kept.map ByteArray.size).sum + x.size := by simp
theorem sum_dropLast (kept : List ByteArray) : (kept.dropLast.map ByteArray.size).sum ≤ (kept.map ByteArray.size).sum := by
  by_cases h : kept = []
  · subst h; simp
  · have e := List.dropLast_concat_getLast h
    have : (kept.map ByteArray.size).sum = ((kept.dropLast ++ [kept.getLast h]).map ByteArray.size).sum := by rw [e]
    rw [this, sum_append1]; omega
theorem sum_data (xs : List ByteArray) : ((xs.map (·.data.toList)).map List.length).sum = (xs.map ByteArray.size).sum := by
  rw [List.map_map]; congr 1

/-- The head of a round of Norm's loop: what is kept and what is to come give what the whole gives. -/
def NormAt (xs : List ByteArray) (k : Nat) (kept : List ByteArray) (total : Nat) : Prop :=
  normGo (kept.map (·.data.toList)) ((xs.drop k).map (·.data.toList)) = normGo [] (xs.map (·.data.toList)) ∧ (kept.map ByteArray.size).sum + ((xs.drop k).map ByteArray.size).sum ≤ total ∧ kept.length ≤ k

theorem NormAt.skip {xs : List ByteArray} {k : Nat} {kept : List ByteArray} {total : Nat} {x : ByteArray} (h : NormAt xs k kept total) (hx : xs[k]? = some x) (he : x.toList = [] ∨ x.toList = [46]) : NormAt xs (k + 1) kept total := by
  obtain ⟨h1, h2, h3⟩ := h
  rw [drop_at xs k x hx] at h1 h2
  rw [List.map_cons, normGo_skip _ _ _ (by rw [← Lib.toList_data]; exact he)] at h1
  rw [List.map_cons, List.sum_cons] at h2
  exact ⟨h1, by omega, by omega⟩
theorem NormAt.fall {xs : List ByteArray} {k : Nat} {kept : List ByteArray} {total : Nat} {x : ByteArray} (h : NormAt xs k kept total) (hx : xs[k]? = some x) (he : x.toList = [46, 46]) (hk : kept.length = 0) : normGo [] (xs.map (·.data.toList)) = none := by
  obtain rfl := List.eq_nil_of_length_eq_zero hk
  obtain ⟨h1, h2, h3⟩ := h
  rw [← h1, drop_at xs k x hx, List.map_cons, ← Lib.toList_data, he]
  exact normGo_fall _
theorem NormAt.up {xs : List ByteArray} {k : Nat} {kept : List ByteArray} {total : Nat} {x : ByteArray} (h : NormAt xs k kept total) (hx : xs[k]? = some x) (he : x.toList = [46, 46]) (hk : kept ≠ []) : NormAt xs (k + 1) kept.dropLast total := by
  obtain ⟨h1, h2, h3⟩ := h
  rw [drop_at xs k x hx] at h1 h2
  rw [List.map_cons, ← Lib.toList_data, he, normGo_up _ _ (by simpa using hk)] at h1
  rw [List.map_cons, List.sum_cons] at h2
  have := sum_dropLast kept
  exact ⟨by rw [List.map_dropLast]; exact h1, by omega, by simp; omega⟩
theorem NormAt.keep {xs : List ByteArray} {k : Nat} {kept : List ByteArray} {total : Nat} {x : ByteArray} (h : NormAt xs k kept total) (hx : xs[k]? = some x) (e1 : ¬ x.toList = []) (e2 : ¬ x.toList = [46]) (e3 : ¬ x.toList = [46, 46]) : NormAt xs (k + 1) (kept ++ [x]) total := by
  obtain ⟨h1, h2, h3⟩ := h
  rw [Lib.toList_data] at e1 e2 e3
  rw [drop_at xs k x hx] at h1 h2
  rw [List.map_cons, normGo_keep _ _ _ e1 e2 e3] at h1
  rw [List.map_cons, List.sum_cons] at h2
  exact ⟨by rw [List.map_append]; exact h1, by rw [sum_append1]; omega, by simp; omega⟩
theorem NormAt.done {xs : List ByteArray} {k : Nat} {kept : List ByteArray} {total : Nat} (h : NormAt xs k kept total) (hk : xs.length ≤ k) : normGo [] (xs.map (·.data.toList)) = some (kept.map (·.data.toList)) ∧ (joinS (kept.map (·.data.toList))).length ≤ total + k := by
  obtain ⟨h1, h2, h3⟩ := h
  rw [List.drop_of_length_le hk] at h1 h2
  refine ⟨h1.symm, ?_⟩
  have := joinS_len (kept.map (·.data.toList))
  rw [sum_data, List.length_map] at this
  omega

set_option maxHeartbeats 4000000 in
theorem norm_any (s : ByteArray) (m : Int) (w : World) (hs : s.size < 4294967281) (hG : 2 < w.heap.size) (hm : w.cell? ⟨2, 0, none⟩ = some (.int .i64 m)) :
    Calls Tryd.prog 7 #[.string s] w fun e w' => e = .returned (.tuple #[.string ⟨(normS s.data.toList).1.toArray⟩, .bool (normS s.data.toList).2]) ∧ Below w.heap.size w w' := by
  obtain ⟨i0, hi, hz0, hz1, hz2⟩ := info_parts info_str
  obtain ⟨r, hr⟩ : ∃ r, r = normS s.data.toList := ⟨_, rfl⟩
  rw [← hr]
  obtain ⟨r1, r2⟩ := r
  have HR := Lib.hid hr
  clear hr
  have hsz := Lib.hid (Lib.size_eq s)
  go_enter Tryd.func7, Tryd.ntmps7
  go_wp2_with fail
  refine (parts_any s m w hs hm).mono ?_
  rintro e w' ⟨xs, hx, rfl, rfl⟩
  have hlen := congrArg List.length hx
  rw [List.length_map] at hlen
  have hcl := cutAt_length_le 47 s.data.toList
  rw [← hlen, ← hsz.out] at hcl
  have hsm : ∀ (k : Nat) x, xs[k]? = some x → x.size ≤ s.size := by
    intro k x hxk
    have h1 : x.data.toList ∈ cutAt 47 s.data.toList := by rw [← hx]; exact List.mem_map_of_mem (List.mem_of_getElem? hxk)
    have h2 := cutAt_len 47 s.data.toList _ h1
    rw [← hsz.out] at h2
    rw [Lib.size_eq x]; omega
  have HSM := Lib.hid hsm
  have HR' : Hid ((r1, r2) = match normGo [] (xs.map (·.data.toList)) with | none => ([], false) | some k => if okName (joinS k) then (joinS k, true) else ([], false)) := by
    show (r1, r2) = _
    rw [HR.out, normS, ← hx]
  have HX := Lib.hid hx
  clear hsm hlen hx
  obtain ⟨W1, hW1⟩ : ∃ W1 : World, w.alloc (.cells (xs.map Value.string).toArray 9) = W1 := ⟨_, rfl⟩
  have hcs : ∀ (k : Nat) x, xs[k]? = some x → W1.cell? ⟨w.heap.size, k, none⟩ = some (.string x) := fun k x h => hW1 ▸ cell_strs w xs 9 k x h
  have hsize : W1.heap.size = w.heap.size + 1 := by rw [← hW1]; simp
  have hb1 : Below w.heap.size w W1 := hW1 ▸ (Below.refl _ _).alloc (Nat.le_refl _) _
  have HCS := Lib.hid hcs
  have HSI := Lib.hid hsize
  rw [hW1]
  clear hcs hW1 hsize
  have htot : (xs.map ByteArray.size).sum ≤ s.size := by
    rw [← sum_data, HX.out]
    have h1 := cutAt_sum 47 s.data.toList
    have h2 : (cutAt 47 s.data.toList).length ≠ 0 := fun e => cutAt_ne 47 s.data.toList (List.eq_nil_of_length_eq_zero e)
    rw [hsz.out]; omega
  have H0 : NormAt xs 0 [] s.size := ⟨rfl, by simpa using htot, Nat.le_refl _⟩
  clear htot
  go_wp2
  go_loopw [4, 11] (fun v i wr => ∃ (k : Nat) (kept : List ByteArray) (a : Option Addr) (c : Nat), k ≤ xs.length ∧ i = .int .i64 k ∧ v = .slice a kept.length c ∧ wr.ownsRow W1.heap.size 9 1 (.slice a kept.length c) kept.length (kept.map Value.string) ∧ Below W1.heap.size W1 wr ∧ NormAt xs k kept s.size)
    (fun _ i _ => xs.length - (intOf i).toNat)
  case atStart => exact ⟨0, [], none, 0, Nat.zero_le _, rfl, rfl, World.ownsRow_nil _ _ _ _, Below.refl _ _, H0⟩
  case round =>
    obtain ⟨k, kept, a, c, hk, rfl, rfl, hown, hnx, hat⟩ := hrel
    have HAT := Lib.hid hat
    have hkl : kept.length ≤ k := hat.2.2
    clear hat H0
    by_cases hlt : k < xs.length
    · obtain ⟨x, hx⟩ : ∃ x, xs[k]? = some x := ⟨xs[k], List.getElem?_eq_getElem hlt⟩
      have hcx : wr.cell? ⟨w.heap.size, k, none⟩ = some (.string x) := (hnx.cell (by have := HSI.out; show w.heap.size < _; omega)).trans (HCS.out k x hx)
      have HX0 := Lib.hid hx
      clear hx
      by_cases e1 : x.toList = []
      · have HS := Lib.hid (HAT.out.skip HX0.out (.inl e1))
        go_wp2
        go_roundw
        case rel => exact ⟨k + 1, kept, a, c, by omega, by go_num, rfl, hown, hnx, HS.out⟩
        case measure => simp [intOf]; omega
      · have b1 : x.toList.isEmpty = false := List.isEmpty_eq_false_iff.2 e1
        by_cases e2 : x.toList = [46]
        · have HS := Lib.hid (HAT.out.skip HX0.out (.inr e2))
          go_wp2
          go_roundw
          case rel => exact ⟨k + 1, kept, a, c, by omega, by go_num, rfl, hown, hnx, HS.out⟩
          case measure => simp [intOf]; omega
        · have b2 : (x.toList == [46]) = false := by simpa using e2
          by_cases e3 : x.toList = [46, 46]
          · by_cases e4 : kept.length = 0
            · have HS := Lib.hid (HAT.out.fall HX0.out e3 e4)
              have b4 : ((kept.length : Int) == 0) = true := by rw [e4]; rfl
              clear e4 hown
              go_wp2
              go_ret2
              have hrr : r1 = [] ∧ r2 = false := by have := HR'.out; rw [HS.out] at this; simpa only [Prod.mk.injEq] using this
              exact ⟨ret_two (by rw [hrr.1]) hrr.2.symm, hb1.trans (hnx.mono hb1.size)⟩
            · have hne : kept ≠ [] := fun e => e4 (by rw [e]; rfl)
              obtain ⟨a', c', hv, hg, hn', hm'⟩ := own_shape hown
              obtain ⟨g, hg⟩ := hg e4
              cases hv
              subst hg
              have HS := Lib.hid (HAT.out.up HX0.out e3 hne)
              have hown' := own_pop hne hown
              have hdl : kept.dropLast.length = kept.length - 1 := List.length_dropLast
              have b4 : ((kept.length : Int) == 0) = false := by simp; omega
              have hp : 0 < kept.length := by omega
              have HD := Lib.hid hdl
              clear hdl e4 hne hown
              go_wp2
              go_roundw
              case rel => exact ⟨k + 1, kept.dropLast, some ⟨g, 0, none⟩, c, by omega, by go_num, by rw [HD.out], hown', hnx, HS.out⟩
              case measure => simp [intOf]; omega
          · have b3 : (x.toList == [46, 46]) = false := by simpa using e3
            have HS := Lib.hid (HAT.out.keep HX0.out e1 e2 e3)
            go_wp2_with (at_builtin; refine wpList_append_own _ rfl _ _ 28 rfl W1.heap.size 9 i0 (.string ByteArray.empty) 1 16 Tryd.underlying28 hi hz0 hz1 hz2 rfl (by decide) _ _ _ rfl (hown.alloc _) ⟨wr.heap.size, 0, none⟩ 1 1 [.string x] rfl rfl ?c1 ?c2 ?c3 ?c4 ?c5 ?_)
            case c1 =>
              intro j u hj
              match j, hj with
              | 0, hj => simp at hj; subst hj; simp [Addr.add]
            case c2 => intro u hu; simp at hu; subst hu; rfl
            case c3 => unfold maxLen; omega
            case c4 => omega
            case c5 => have := hnx.size; simp; omega
            · intro v' w1 hown' hgrow _
              have hnx' : Below W1.heap.size W1 w1 := (hnx.alloc hnx.size _).grown hgrow (by have := hnx.size; simp; omega) (fun g hg => (hown.lt g hg).1)
              clear hgrow hown hcx
              obtain ⟨a', c', hv, _⟩ := own_shape hown'
              have hl : (kept ++ [x]).length = kept.length + 1 := by simp
              have hmm : (kept ++ [x]).map Value.string = kept.map Value.string ++ [Value.string x] := by simp
              rw [hv, ← hl, ← hmm] at hown'
              have HV := Lib.hid hv
              clear hv hmm
              have HL := Lib.hid hl
              clear hl
              go_wp2
              go_roundw
              case rel => exact ⟨k + 1, kept ++ [x], a', c', by omega, by go_num, by rw [HV.out, HL.out], hown', hnx', HS.out⟩
              case measure => simp [intOf]; omega
    · have hd := HAT.out.done (by omega)
      have hS := strs_own (v := .slice a kept.length c) hown
      have cJ := join_any _ kept wr hS (by omega) (by have := hd.2; omega)
      have HD := Lib.hid hd
      obtain ⟨j, hj⟩ : ∃ j, joinS (kept.map (·.data.toList)) = j := ⟨_, rfl⟩
      have hjl : j.length ≤ 4294967281 * 2 := by have := HD.out.2; rw [hj] at this; omega
      rw [hj] at cJ
      have HJ := Lib.hid hj
      have hm2 : wr.cell? ⟨2, 0, none⟩ = some (.int .i64 m) := (hnx.cell (by have := hb1.size; show 2 < _; omega)).trans ((hb1.cell hG).trans hm)
      have HM := Lib.hid hm2
      clear hd hj hS hown hm2 hm
      go_wp2_with fail
      refine cJ.mono ?_
      rintro e w2 ⟨rfl, hb2⟩
      have hm3 : w2.cell? ⟨2, 0, none⟩ = some (.int .i64 m) := (hb2.cell (by have := hb1.size; have := hnx.size; show 2 < _; omega)).trans HM.out
      have cM := may_any ⟨j.toArray⟩ m w2 (by unfold maxLen; simp only [ByteArray.size, List.size_toArray]; omega) hm3
      obtain ⟨b, hb⟩ : ∃ b, okName j = b := ⟨_, rfl⟩
      rw [show (⟨j.toArray⟩ : ByteArray).data.toList = j from by simp, hb] at cM
      have HB := Lib.hid hb
      clear hb hm3
      have hrr : Hid ((r1, r2) = if b = true then (j, true) else ([], false)) := by
        show _ = _
        have := HR'.out
        rw [HD.out.1] at this
        simp only [HJ.out, HB.out] at this
        exact this
      have hbb := hb1.trans ((hnx.mono hb1.size).trans (hb2.mono (by have := hnx.size; have := hb1.size; omega)))
      have hs2 : w.heap.size ≤ w2.heap.size := hbb.size
      cases b
      · go_wp2_with (go_at_call 12; refine cM.mono ?_; rintro e w3 ⟨rfl, hb3⟩)
        go_ret2
        have hr3 : r1 = [] ∧ r2 = false := by have := hrr.out; simpa using this
        exact ⟨ret_two (by rw [hr3.1]) hr3.2.symm, hbb.trans (hb3.mono hs2)⟩
      · go_wp2_with (go_at_call 12; refine cM.mono ?_; rintro e w3 ⟨rfl, hb3⟩)
        go_ret2
        have hr3 : r1 = j ∧ r2 = true := by have := hrr.out; simpa using this
        exact ⟨ret_two (by rw [hr3.1]) hr3.2.symm, hbb.trans (hb3.mono hs2)⟩
end Go.Proofs.YtmpiaaangbjapaaDoor
