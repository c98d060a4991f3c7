import Derived.Laws.OwnMore
import Derived.Deep.RegionHeld3
import Derived.Test.YtdhmeganlnpohaaGreatDoorMap
namespace Go.Proofs.YtdhmeganlnpohaaGreatDoor
open Go.RowKit Go.Shelf
theorem size_list (l : List UInt8) : (⟨l.toArray⟩ : ByteArray).size = l.length := by simp [ByteArray.size]
set_option maxHeartbeats 2000000 in
theorem clause_any (key : ByteArray) (v : Value) (xs : List ByteArray) (w : World) (h : IsStrs w v xs) (hn : xs.length ≤ 8796093022208)
  (hlen : (clauseTx key.data.toList xs).length ≤ 140737488351232) :
  Calls Tryz.prog 230 #[.string key, v] w fun e w' => e = .returned (.string ⟨(clauseTx key.data.toList xs).toArray⟩) ∧ Below w.heap.size w w' := by
 have cS := sortedNames_any v xs w h hn
 obtain ⟨a, c, rfl, h1, h1m, h2⟩ := h
 clear h2
 by_cases h0 : xs = []
 ·subst h0
  have hr : (⟨(clauseTx key.data.toList []).toArray⟩ : ByteArray) = ⟨#[]⟩ := by unfold clauseTx; rw [if_pos rfl]
  rw [hr]
  clear cS hr hlen
  go_enter Tryz.func230, Tryz.ntmps230
  go_wp2
  go_ret
  exact ⟨rfl, Below.refl _ _⟩
 ·have hpos : 0 < xs.length := List.length_pos_iff.2 h0
  obtain ⟨J, hJ⟩ : ∃ J, Lib.join (srtL (xs.map (·.data.toList))) [44, 32] = J := ⟨_, rfl⟩
  have hr : clauseTx key.data.toList xs = [32, 32] ++ key.data.toList ++ [32] ++ J ++ [59, 10] := by unfold clauseTx; rw [if_neg h0, hJ]
  rw [hr] at hlen ⊢
  have hsz := Lib.size_eq key
  simp only [List.length_append, List.length_cons, List.length_nil, ← hsz] at hlen
  have hz : ((xs.length : Int) == 0) = false := by
   rw [Bool.eq_false_iff]; intro e; have := eq_of_beq e; omega
  have HJ := Lib.hid hJ
  have HN := Lib.hid hn
  clear hr hJ hsz h0 hpos hn
  go_enter Tryz.func230, Tryz.ntmps230
  go_wp2_with fail
  refine cS.mono ?_
  rintro e w2 ⟨v2, rfl, hS, _, hb2⟩
  have cJ := join_c v2 (srtB xs) ⟨#[44, 32]⟩ w2 hS (by rw [srtB_len]; have := HN.out; omega) (by rw [srtB_data]; show (Lib.join _ [44, 32]).length ≤ _; rw [HJ.out]; omega)
  rw [srtB_data] at cJ
  have hcJ : Lib.join (srtL (xs.map (·.data.toList))) (⟨#[44, 32]⟩ : ByteArray).data.toList = J := HJ.out
  rw [hcJ] at cJ
  have HB := Lib.hid hb2
  obtain ⟨va, vn, vc, hvs⟩ : ∃ a n c, v2 = .slice a n c := by obtain ⟨a, c, rfl, _⟩ := hS; exact ⟨_, _, _, rfl⟩
  subst hvs
  have hJs : (⟨J.toArray⟩ : ByteArray).size = J.length := size_list J
  obtain ⟨JB, hJB⟩ : ∃ JB : ByteArray, (⟨J.toArray⟩ : ByteArray) = JB := ⟨_, rfl⟩
  rw [hJB] at cJ hJs
  have HJB := Lib.hid hJB
  have hJs' : JB.size ≤ 140737488351232 - key.size - 5 := by omega
  clear hS hb2 hcJ cS hJs hJB
  have e1 : ∀ w, (Op.stringOp .add ⟨#[32, 32]⟩ key).run Tryz.prog w = .ok (.string (⟨#[32, 32]⟩ ++ key)) w := fun w => run_string_add_sum _ _ _ (by show 2 + key.size ≤ _; omega)
  go_wp2_with fail
  refine cJ.mono ?_
  rintro e w3 ⟨rfl, hb3⟩
  have HB3 := Lib.hid (HB.out.trans (hb3.mono HB.out.size))
  clear hb3 cJ
  go_wp2
  go_ret
  refine ⟨ret_str ?_, HB3.out⟩
  rw [← HJB.out]
  apply ByteArray.ext
  simp
theorem wpList_append_nil {P : Program} {w : World} {ops : Array Oper} {rest : List Oper} {o : Oper} {a : Act} {Q : Exit → Act → World → Prop} (hgd : o.guard = none) (s x : Operand) (t : TypeId)
  (ho : o.op = .call { callee := .builtin .append, args := #[s, x], argTypes := #[t, t] })
  (base : Nat) (e : TypeId) (i : TypeInfo) (size : Nat) (ht : P.underlying t = some (.slice e)) (hi : P.info? e = some i)
  (v : Value) (n : Nat) (xs : List Value) (hs : a.eval s = v) (hown : w.ownsRow base e size v n xs) (c : Nat) (hx : a.eval x = .slice none 0 c)
  (h : wpList P ops Q rest (a.put o.dst v) w) : wpList P ops Q (o :: rest) a w := by
 refine wpList_plain hgd fun K hK => ?_
 have hrun : (Builtin.append_ #[t, t] o.type #[v, .slice none 0 c]).run P w = .ok v w := by
  rcases hown.2 with ⟨rfl, rfl⟩ | ⟨g, cap, cur, rfl, _, _, hnc, _⟩
  ·simp [Builtin.append_, run_underlying ht, sizeOf, typeInfo, hi, Builtin.lenOf, Builtin.firstCells]
  ·simp [Builtin.append_, run_underlying ht, sizeOf, typeInfo, hi, Builtin.lenOf, Builtin.firstCells, hnc, storeCells]
 unfold Oper.wp
 simp [execOp, ho, resolve, invoke, builtin, hs, hx, hrun, Result.andThen]
 exact hK _ _ h
theorem wpList_append_str {w : World} {ops : Array Oper} {rest : List Oper} {o : Oper} {a : Act} {Q : Exit → Act → World → Prop} (hgd : o.guard = none) (s x : Operand)
  (ho : o.op = .call { callee := .builtin .append, args := #[s, x], argTypes := #[22, 22] })
  (B : Nat) (v : Value) (xs : List ByteArray) (q : ByteArray) (hs : a.eval s = v) (hown : w.ownsRow B 9 1 v xs.length (xs.map Value.string)) (hB : B ≤ w.heap.size) (hn : xs.length ≤ 1000000000)
  (hx : a.eval x = .slice (some ⟨w.heap.size, 0, none⟩) 1 1)
  (h : ∀ v' w', w'.ownsRow B 9 1 v' (xs ++ [q]).length ((xs ++ [q]).map Value.string) → Below B w w' → wpList Tryz.prog ops Q rest (a.put o.dst v') w') :
  wpList Tryz.prog ops Q (o :: rest) a (w.alloc (.cells #[.string q] 9)) := by
 obtain ⟨i0, hi, hz0, hz1, hz2⟩ := info_parts info_str
 refine wpList_append_own _ hgd s x 22 ho B 9 i0 (.string ByteArray.empty) 1 16 Tryz.underlying22 hi hz0 hz1 hz2 rfl (by decide) v xs.length _ hs (hown.alloc _) ⟨w.heap.size, 0, none⟩ 1 1 [.string q] hx rfl ?_ ?_ ?_ ?_ ?_ ?_
 ·intro j u hj
  match j, hj with
  | 0, hj => simp at hj; subst hj; simp [Addr.add]
 ·intro u hu; simp at hu; subst hu; rfl
 ·unfold maxLen; omega
 ·omega
 ·simp; omega
 ·intro v' w' ho' hg _
  refine h v' w' (by rw [List.length_append, List.map_append]; exact ho') ?_
  exact ((Below.refl B w).alloc hB _).grown hg (by simp; omega) (fun b hb => (hown.lt b hb).1)
structure StepFit (x : StepS) : Prop where
 few : x.args.length + x.lits.length ≤ 1000000
 lits : ∀ l ∈ x.lits, l.size ≤ 35184372088000
 n : -9223372036854775808 ≤ x.n ∧ x.n ≤ 9223372036854775807
 all : (stepTx x).length ≤ 140737488351232
def litWs (ls : List ByteArray) : List ByteArray := ls.map fun l => ⟨(quoteS l.data.toList).toArray⟩
def headWs (x : StepS) : List ByteArray := [x.out, ⟨#[61]⟩, ⟨(opTx x.op).toArray⟩] ++ (if x.op = 9 then [⟨(Lib.itoa x.n).toArray⟩] else [])
theorem litWs_next (ls : List ByteArray) (k : Nat) (l : ByteArray) (h : ls[k]? = some l) : litWs (ls.take (k + 1)) = litWs (ls.take k) ++ [⟨(quoteS l.data.toList).toArray⟩] := by
 unfold litWs
 rw [List.take_add_one, h, List.map_append]
 rfl
theorem litWs_len (ls : List ByteArray) (k : Nat) : (litWs (ls.take k)).length ≤ k := by unfold litWs; rw [List.length_map]; exact List.length_take_le _ _
theorem headWs_len (x : StepS) : (headWs x).length ≤ 4 := by unfold headWs; split <;> simp
theorem own_kept {B : Nat} {w w' : World} {v : Value} {xs : List ByteArray} (h : OwnStrs B w v xs) (hb : Below w.heap.size w w') : OwnStrs B w' v xs :=
 World.ownsRow.kept (row := none) h ⟨hb.os, hb.tape, hb.output, hb.size, fun k hk _ => hb.block k hk⟩ (by cases h : Value.ownBlock _ <;> simp)
theorem stepTx_eq (x : StepS) : stepTx x = Lib.join ((headWs x ++ litWs x.lits ++ x.args).map (·.data.toList)) [32] ++ [59] := rfl
set_option maxHeartbeats 8000000 in
set_option maxRecDepth 100000 in
theorem step_any (x : StepS) (va vl : Value) (p : Nat) (w : World) (hg : GP p w) (hp : p ≤ w.heap.size) (hA : IsStrs w va x.args) (hL : IsStrs w vl x.lits) (hf : StepFit x) :
  Calls Tryz.prog 126 #[.agg #[.string x.out, .int .i64 x.op, va, vl, .int .i64 x.n]] w fun e w' => e = .returned (.string ⟨(stepTx x).toArray⟩) ∧ Below w.heap.size w w' := by
 obtain ⟨i0, hi, hz0, hz1, hz2⟩ := info_parts info_str
 obtain ⟨o, ho⟩ : ∃ o : Obj, o = .cells #[.string x.out, .int .i64 x.op, va, vl, .int .i64 x.n] 24 := ⟨_, rfl⟩
 have hbox : ∀ w', Below (w.heap.size + 1) (w.alloc o) w' → w'.cell? ⟨w.heap.size, 0, none⟩ = some (.string x.out) ∧ w'.cell? ⟨w.heap.size, 1, none⟩ = some (.int .i64 x.op) ∧ w'.cell? ⟨w.heap.size, 2, none⟩ = some va ∧ w'.cell? ⟨w.heap.size, 3, none⟩ = some vl ∧ w'.cell? ⟨w.heap.size, 4, none⟩ = some (.int .i64 x.n) := by
  intro w' hw'
  have hb : w'.heap[w.heap.size]? = some o := (hw'.block _ (by omega)).trans (alloc_at w o)
  rw [ho] at hb
  refine ⟨?_, ?_, ?_, ?_, ?_⟩ <;> simp [World.cell?, hb]
 have hdown : ∀ w', Below (w.heap.size + 1) (w.alloc o) w' → Below w.heap.size w w' := fun w' h => ((Below.refl _ _).alloc (Nat.le_refl _) _).trans (h.mono (by omega))
 obtain ⟨aa, ca, hva, ha1, ha2, ha3⟩ := hA
 obtain ⟨al, cl, hvl, hl1, hl2, hl3⟩ := hL
 have hop := fun w' (hb : Below w.heap.size w w') => opName_any x.op p w' ((hg.below (hb.mono hp)))
 obtain ⟨opB, hopB⟩ : ∃ opB : ByteArray, (⟨(opTx x.op).toArray⟩ : ByteArray) = opB := ⟨_, rfl⟩
 rw [hopB] at hop
 obtain ⟨H, hH⟩ : ∃ H, headWs x = H := ⟨_, rfl⟩
 have hHl := headWs_len x
 rw [hH] at hHl
 have hb1 : Below (w.heap.size + 1) (w.alloc o) (w.alloc o) := Below.refl _ _
 have hb2 : ∀ o', Below (w.heap.size + 1) (w.alloc o) ((w.alloc o).alloc o').drew := fun o' => (hb1.alloc (by simp) _).drew
 have hc := hbox _ hb1
 subst hva hvl
 obtain ⟨c0, c1, _, _, _⟩ := hc
 have hS : Below w.heap.size w (w.alloc o).drew := (hdown _ hb1).drew
 have HSS := Lib.hid hS
 have HBOX := Lib.hid hbox
 have HDOWN := Lib.hid hdown
 have HLC := Lib.hid hl3
 have HAC := Lib.hid ha3
 have HG := Lib.hid hg
 have HF := Lib.hid hf
 have HOB := Lib.hid hopB
 have HH := Lib.hid hH
 have HOPN := Lib.hid hop
 have HHL := Lib.hid hHl
 have HB2 := Lib.hid hb2
 have HGL : Hid (∀ w', Below w.heap.size w w' → Glob w') := by show ∀ w', _; exact fun w' hb => (hg.below (hb.mono hp)).glob
 clear hbox hdown hg hf hop hopB hl3 ha3 hH hS hb1 hb2 hHl
 subst ho
 have hlit0 : ∀ w1 : World, w.heap.size + 1 ≤ w1.heap.size → OwnStrs (w.heap.size + 1) (w1.alloc (.cells #[.string x.out, .string ⟨#[61]⟩, .string opB] 9)).drew (.slice (some ⟨w1.heap.size, 0, none⟩) 3 3) [x.out, ⟨#[61]⟩, opB] := by
  intro w1 h1
  exact (World.ownsRow_lit w1 #[.string x.out, .string ⟨#[61]⟩, .string opB] 3 h1 (by unfold maxLen; omega) rfl).drew
 have HLIT := Lib.hid hlit0
 clear hlit0
 go_enter Tryz.func126, Tryz.ntmps126
 go_wp2_with fail
 go_region_held3 (fun w' => w'.cell? ⟨w.heap.size, 0, none⟩ = some (.string x.out) ∧ w'.cell? ⟨w.heap.size, 1, none⟩ = some (.int .i64 x.op)) (go_keep)
  (first | (go_at_call 123; refine (HOPN.out _ ?_).mono ?_; (first | assumption | exact HSS.out); rintro e w2 ⟨rfl, rfl⟩))
 by_cases h9 : x.op = 9
 case' pos =>
  have h9b : (x.op == 9) = true := by simpa using h9
  have hH9 : H = [x.out, ⟨#[61]⟩, opB] ++ [⟨(Lib.itoa x.n).toArray⟩] := by rw [← HH.out, ← HOB.out]; unfold headWs; rw [if_pos h9]
  obtain ⟨nB, hnB⟩ : ∃ nB : ByteArray, (⟨(Lib.itoa x.n).toArray⟩ : ByteArray) = nB := ⟨_, rfl⟩
  rw [hnB] at hH9
  have HH9 := Lib.hid hH9
  have HNB := Lib.hid hnB
  clear h9 hH9 hnB
  go_wp2_with fail
  refine (itoa_c x.n HF.out.n.1 HF.out.n.2 _ (HGL.out _ (HDOWN.out _ (HB2.out _)))).mono ?_
  rintro e w2 ⟨rfl, hb2⟩
  rw [HNB.out]
  have HN2 := Lib.hid ((HB2.out _).trans (hb2.mono (by simp)))
  have hs2 := HN2.out.size
  simp at hs2
  have HO2 : Hid (w2.ownsRow (w.heap.size + 1) 9 1 (.slice (some ⟨w.heap.size + 1, 0, none⟩) 3 3) [x.out, ⟨#[61]⟩, opB].length ([x.out, ⟨#[61]⟩, opB].map Value.string)) := by
   show World.ownsRow _ _ _ _ _ _ _
   have h0 := HLIT.out (w.alloc (.cells #[.string x.out, .int .i64 x.op, .slice aa x.args.length ca, .slice al x.lits.length cl, .int .i64 x.n] 24)) (by simp)
   have h1 := own_kept h0 hb2
   simpa [OwnStrs] using h1
  clear hb2
  obtain ⟨d0, d1, d2, d3, d4⟩ := HBOX.out _ HN2.out
  go_wp2_with (at_builtin; refine wpList_append_str (by rfl) _ _ (by rfl) (w.heap.size + 1) _ [x.out, ⟨#[61]⟩, opB] nB (by rfl) HO2.out (by have := HN2.out.size; simpa using this) (by simp) (by rfl) ?_)
  intro v3 W3 hown3 hb3
  have HO3 : Hid (W3.ownsRow (w.heap.size + 1) 9 1 v3 H.length (H.map Value.string)) := by
   show W3.ownsRow _ _ _ _ _ _
   rw [HH9.out]
   exact hown3
  have HN3 := Lib.hid (HN2.out.trans hb3)
  clear hown3 hb3 d0 d1 d2 d3 d4
 case' neg =>
  have h9b : (x.op == 9) = false := by simpa using h9
  have hH9 : H = [x.out, ⟨#[61]⟩, opB] := by rw [← HH.out, ← HOB.out]; unfold headWs; rw [if_neg h9]; simp
  obtain ⟨W3, hW3⟩ : ∃ W3, ((w.alloc (.cells #[.string x.out, .int .i64 x.op, .slice aa x.args.length ca, .slice al x.lits.length cl, .int .i64 x.n] 24)).alloc (.cells #[.string x.out, .string ⟨#[61]⟩, .string opB] 9)).drew = W3 := ⟨_, rfl⟩
  have HO3 : Hid (W3.ownsRow (w.heap.size + 1) 9 1 (.slice (some ⟨w.heap.size + 1, 0, none⟩) 3 3) H.length (H.map Value.string)) := by
   show World.ownsRow _ _ _ _ _ _ _
   have h0 := HLIT.out (w.alloc (.cells #[.string x.out, .int .i64 x.op, .slice aa x.args.length ca, .slice al x.lits.length cl, .int .i64 x.n] 24)) (by simp)
   rw [← hW3, hH9]
   simpa [OwnStrs] using h0
  have HN3 : Hid (Below (w.heap.size + 1) (w.alloc (.cells #[.string x.out, .int .i64 x.op, .slice aa x.args.length ca, .slice al x.lits.length cl, .int .i64 x.n] 24)) W3) := by
   show Below _ _ _
   rw [← hW3]
   exact HB2.out _
  rw [hW3]
  clear hW3 h9 hH9
 all_goals
  obtain ⟨d0, d1, d2, d3, d4⟩ := HBOX.out _ HN3.out
  go_wp2
  go_loopw [3, 24] (fun v i wr => ∃ k : Nat, k ≤ x.lits.length ∧ i = .int .i64 k ∧ wr.ownsRow (w.heap.size + 1) 9 1 v (H ++ litWs (x.lits.take k)).length ((H ++ litWs (x.lits.take k)).map Value.string) ∧ Below (w.heap.size + 1) (w.alloc (.cells #[.string x.out, .int .i64 x.op, .slice aa x.args.length ca, .slice al x.lits.length cl, .int .i64 x.n] 24)) wr)
   (fun _ i _ => x.lits.length - (intOf i).toNat)
  case atStart => exact ⟨0, Nat.zero_le _, rfl, by simpa [litWs] using HO3.out, HN3.out⟩
  case round =>
   obtain ⟨k, hk, rfl, hown, hnx⟩ := hrel
   have hwl := litWs_len x.lits k
   have hfw := HF.out.few
   have hsx := hnx.size
   simp at hsx
   have hHl := HHL.out
   have hlen : (H ++ litWs (x.lits.take k)).length ≤ 1000000000 := by rw [List.length_append]; omega
   have HO := Lib.hid hown
   have HNX := Lib.hid hnx
   clear hown hnx d0 d1 d2 d3 d4
   by_cases hlt : k < x.lits.length
   ·obtain ⟨l, hl⟩ : ∃ l, x.lits[k]? = some l := ⟨x.lits[k], List.getElem?_eq_getElem hlt⟩
    obtain ⟨b, o, hal, hb, hcl⟩ := HLC.out (by rintro e; rw [e] at hlt; simp at hlt)
    subst hal
    have hcx : wr.cell? ⟨b, o + k, none⟩ = some (.string l) := ((HDOWN.out _ HNX.out).cell (p := ⟨b, o + k, none⟩) hb).trans (hcl k l hl)
    have HNEXT := Lib.hid (litWs_next x.lits k l hl)
    have hls := HF.out.lits l (List.mem_of_getElem? hl)
    have hi1 : (k : Int) < (x.lits.length : Int) := by omega
    clear hcl hb hl
    go_wp2_with fail
    refine (quote_any l _ hls).mono ?_
    rintro e w4 ⟨rfl, hb4⟩
    obtain ⟨qB, hqB⟩ : ∃ qB : ByteArray, (⟨(quoteS l.data.toList).toArray⟩ : ByteArray) = qB := ⟨_, rfl⟩
    rw [hqB]
    have HN4 := Lib.hid (HNX.out.trans (hb4.mono (by omega)))
    have HO4 := Lib.hid (World.ownsRow.kept (row := none) HO.out ⟨hb4.os, hb4.tape, hb4.output, hb4.size, fun k hk _ => hb4.block k hk⟩ (by cases h : Value.ownBlock _ <;> simp))
    have hs4 := hb4.size
    have HQ := Lib.hid hqB
    clear hb4 hcx hqB
    go_wp2_with (at_builtin; refine wpList_append_str (by rfl) _ _ (by rfl) (w.heap.size + 1) _ (H ++ litWs (x.lits.take k)) qB (by rfl) HO4.out (by omega) hlen (by rfl) ?_)
    intro v' w5 hown5 hb5
    have HO5 : Hid (w5.ownsRow (w.heap.size + 1) 9 1 v' (H ++ litWs (x.lits.take (k + 1))).length ((H ++ litWs (x.lits.take (k + 1))).map Value.string)) := by
     show w5.ownsRow _ _ _ _ _ _
     rw [HNEXT.out, ← List.append_assoc, HQ.out]
     simpa using hown5
    have HN5 := Lib.hid (HN4.out.trans hb5)
    clear hown5 hb5
    go_wp2
    go_roundw
    case rel => exact ⟨k + 1, by omega, by go_num, HO5.out, HN5.out⟩
    case measure => simp [intOf]; omega
   ·have hfull : x.lits.take k = x.lits := List.take_of_length_le (by omega)
    rw [hfull] at hwl hlen
    have HO6 := HO.out
    rw [hfull] at HO6
    replace HO6 := Lib.hid HO6
    obtain ⟨d0, d1, d2, d3, d4⟩ := HBOX.out _ HNX.out
    clear hfull HO
    have hjl := HF.out.all
    rw [stepTx_eq, HH.out] at hjl
    obtain ⟨J, hJ⟩ : ∃ J, Lib.join ((H ++ litWs x.lits ++ x.args).map (·.data.toList)) [32] = J := ⟨_, rfl⟩
    rw [hJ] at hjl
    simp only [List.length_append, List.length_cons, List.length_nil] at hjl
    have cJ : ∀ (v : Value) (W : World), World.ownsRow W (w.heap.size + 1) 9 1 v (H ++ litWs x.lits ++ x.args).length ((H ++ litWs x.lits ++ x.args).map Value.string) → Calls Tryz.prog 130 #[v, .string ⟨#[32]⟩] W fun e w' => e = .returned (.string ⟨J.toArray⟩) ∧ Below W.heap.size W w' := by
     intro v W hW
     have := join_c v (H ++ litWs x.lits ++ x.args) ⟨#[32]⟩ W (strs_own hW) (by simp only [List.length_append]; simp only [List.length_append] at hlen; omega) (by show (Lib.join _ [32]).length ≤ _; rw [hJ]; omega)
     have e : Lib.join ((H ++ litWs x.lits ++ x.args).map (·.data.toList)) (⟨#[32]⟩ : ByteArray).data.toList = J := hJ
     rw [e] at this
     exact this
    obtain ⟨JB, hJB⟩ : ∃ JB : ByteArray, (⟨J.toArray⟩ : ByteArray) = JB := ⟨_, rfl⟩
    have hJs : JB.size ≤ 140737488351232 := by rw [← hJB, size_list]; omega
    have hJr : JB ++ ⟨#[59]⟩ = (⟨(stepTx x).toArray⟩ : ByteArray) := by rw [stepTx_eq, HH.out, hJ, ← hJB]; apply ByteArray.ext; simp
    rw [hJB] at cJ
    have CJ := Lib.hid cJ
    have HJR := Lib.hid hJr
    have hkn : ¬ (k : Int) < (x.lits.length : Int) := by omega
    clear cJ hJr hJB hJ hjl
    cases aa with
    | none =>
     have hx0 : x.args = [] := by
      rcases hx : x.args with _ | ⟨y, r⟩
      ·rfl
      ·obtain ⟨_, _, e, _⟩ := HAC.out (by rw [hx]; simp)
       cases e
     have hO7 := HO6.out
     have e7 : H ++ litWs x.lits ++ x.args = H ++ litWs x.lits := by rw [hx0, List.append_nil]
     rw [← e7] at hO7
     have cJ := CJ.out _ wr hO7
     clear hO7 e7
     go_wp2_with (at_builtin; refine wpList_append_nil (by rfl) _ _ 22 (by rfl) (w.heap.size + 1) 9 i0 1 Tryz.underlying22 hi _ _ _ (by rfl) HO6.out ca (by simp [Act.eval, hx0]) ?_)
     go_wp2_with fail
     refine cJ.mono ?_
     rintro e w7 ⟨rfl, hb7⟩
     go_wp2
     go_ret
     exact ⟨ret_str HJR.out, (HDOWN.out _ HNX.out).trans (hb7.mono (by omega))⟩
    | some ad =>
     have hcells : ∀ j u, (x.args.map Value.string)[j]? = some u → wr.cell? (ad.add j) = some u := by
      intro j u hu
      rw [List.getElem?_map] at hu
      obtain ⟨y, hy, rfl⟩ := Option.map_eq_some_iff.1 hu
      obtain ⟨b, o, e, hb, hcl⟩ := HAC.out (by rintro e; rw [e] at hy; simp at hy)
      cases e
      rw [Addr.add_lit]
      exact ((HDOWN.out _ HNX.out).cell (p := ⟨b, o + j, none⟩) hb).trans (hcl j y hy)
     have hone : ∀ u ∈ x.args.map Value.string, u.oneCell' = true := by
      intro u hu
      obtain ⟨y, _, rfl⟩ := List.mem_map.1 hu
      rfl
     have hml : (x.args.map Value.string).length = x.args.length * 1 := by simp
     have HCE := Lib.hid hcells
     have HONE := Lib.hid hone
     have HML := Lib.hid hml
     clear hcells hone hml
     go_wp2_with (at_builtin; refine wpList_append_own _ (by rfl) _ _ 22 (by rfl) (w.heap.size + 1) 9 i0 (.string ByteArray.empty) 1 16 Tryz.underlying22 hi hz0 hz1 hz2 rfl (by decide) _ _ _ (by rfl) HO6.out ad x.args.length ca (x.args.map Value.string) (by rfl) HML.out HCE.out HONE.out (by unfold maxLen; omega) (by omega) (by omega) ?_)
     intro v7 w7 hown7 hg7 _
     have hO7 : World.ownsRow w7 (w.heap.size + 1) 9 1 v7 (H ++ litWs x.lits ++ x.args).length ((H ++ litWs x.lits ++ x.args).map Value.string) := by
      simpa [Nat.add_assoc] using hown7
     have hn7 := HNX.out.grown hg7 (by omega) (fun b hb => (HO6.out.lt b hb).1)
     have cJ := CJ.out _ w7 hO7
     have HN7 := Lib.hid hn7
     have hs7 := hn7.size
     simp at hs7
     clear hO7 hown7 hg7 hn7
     go_wp2_with fail
     refine cJ.mono ?_
     rintro e w8 ⟨rfl, hb8⟩
     go_wp2
     go_ret
     exact ⟨ret_str HJR.out, (HDOWN.out _ HN7.out).trans (hb8.mono (by omega))⟩
end Go.Proofs.YtdhmeganlnpohaaGreatDoor
