import Derived.Test.YtdkainiiinjgmaaGreatDoorLabelsAll
/- The law LabelsAll is proved: for every input of at most the bulk that the second form names, and every world that starts as the program's text lays its variables, the call returns true and each argument reads as it did. -/
namespace Go.Proofs.YtdkainiiinjgmaaGreatDoor.lawLabelsAll
open Go.ChangeShapes Go.WideShapes Go.ChangeAt Go.RowKit
open Go.ChangeMaps (open_string)
set_option maxRecDepth 100000 in
theorem contract (H : Type) (enc : TypeId × Value → H) (W : World) (base : Nat) (args : Array Value) (ds gs : List (DataW H)) (before : List MemPlace)
  (hval : ∀ (j : Nat) t v, Tryz.f5.params[j]? = some t → args[j]? = some v → Value.okWide Tryz.prog W .any base t v)
  (hW : DataW.Whole enc Tryz.prog Tryz.f5.params.toList Rows.labelsAllSpec.vars false W args.toList ds gs before) (hG : Exe.GX 5 285 Exe.opNames W) (hk : Rows.uptoSmall H (ds ++ gs) = true) :
  Calls Tryz.prog 5 args W fun e W' => ∃ v, e = .returned v ∧ Rows.labelsAllSpec.post enc Tryz.prog Tryz.f5 false true false false W args v W' := by
 have hW' := hW
 obtain ⟨p, q, hA0, hV, rfl, hfz, hnd⟩ := hW
 have hA : DataW.TrodAll enc Tryz.prog W 0 (fun _ => true) true Tryz.f5.params.toList args.toList ds p := hA0
 rw [Tryz.params5] at hA hval
 obtain ⟨v0, vs0, d0, ds0, p0, q0, hargs, hds, _, h0, r0⟩ := trodAll_cons hA
 obtain ⟨v1, vs1, d1, ds1, p1, q1, rfl, rfl, _, h1, r1⟩ := trodAll_cons r0
 obtain ⟨v2, vs2, d2, ds2, p2, q2, rfl, rfl, _, h2, r2⟩ := trodAll_cons r1
 obtain ⟨v3, vs3, d3, ds3, p3, q3, rfl, rfl, _, h3, r3⟩ := trodAll_cons r2
 obtain ⟨rfl, rfl, rfl⟩ := trodAll_nil r3
 obtain rfl : args = #[v0, v1, v2, v3] := by cases args; simp_all
 obtain ⟨x0, hF0, hs0⟩ := open_labs (hval 0 22 v0 rfl rfl) h0
 obtain ⟨x1, hF1, hs1⟩ := open_labs (hval 1 22 v1 rfl rfl) h1
 obtain ⟨x2, rfl, hs2⟩ := open_lab (hval 2 38 v2 rfl rfl) h2
 obtain ⟨x3, rfl, hs3⟩ := open_lab (hval 3 38 v3 rfl rfl) h3
 rw [hds] at hk
 have hbk := of_decide_eq_true hk
 simp only [List.cons_append, List.nil_append, Rows.uptoBulkAll] at hbk
 have hu0 : ∀ x ∈ x0, x.2.size ≤ 1048576 := fun x hx => by have := hs0 x hx; omega
 have hu1 : ∀ x ∈ x1, x.2.size ≤ 1048576 := fun x hx => by have := hs1 x hx; omega
 have hu2 : x2.2.size ≤ 1048576 := by omega
 have hu3 : x3.2.size ≤ 1048576 := by omega
 refine (law v0 x0 v1 x1 x2 x3 W hF0 hu0 hF1 hu1 hu2 hu3 hG).mono fun e W' ⟨he, hb⟩ => ?_
 subst he
 exact ⟨_, rfl, law_post rfl (by kernel_rfl) 4 (by kernel_rfl) (fun H xs hx => by
  match xs, hx with
  | [a0, a1, a2, a3], _ => rfl) hW' hb (by kernel_rfl)⟩
theorem reads (os : Os) {H : Type} (enc : TypeId × Value → H) : ∃ x, DataW.whole enc Tryz.prog ((World.laidAll Tryz.prog os laidL).forCall (fun _ _ => 0) ⟨#[], #[.slice none 0 0, .slice none 0 0, .agg #[.bool false, .string ByteArray.empty], .agg #[.bool false, .string ByteArray.empty]], []⟩).memory Tryz.f5.params.toList Rows.labelsAllSpec.vars false (#[.slice none 0 0, .slice none 0 0, .agg #[.bool false, .string ByteArray.empty], .agg #[.bool false, .string ByteArray.empty]] : Array Value).toList 8 = some ([.nil, .nil, .agg [.lit (.bool false), .lit (.string [])], .agg [.lit (.bool false), .lit (.string [])]], [], x) :=
 ⟨[], by kernel_rfl⟩
theorem goes_none {P : Program} (h : P.funcs.any Func.goes = false) (f : FuncId) : P.goes f = false := by
 unfold Program.goes
 rw [h, Bool.and_false, Bool.or_false, List.any_eq_false]
 intro g _
 cases e : P.funcs[g]? with
 | none => simp
 | some fn =>
  have hm := Array.mem_of_getElem? e
  have := (Array.any_eq_false'.1 h) fn hm
  simpa using this
theorem goesAt_none {P : Program} (h : P.funcs.any Func.goes = false) (s : Start) (n : String) : P.goesAt s n = false := by
 unfold Program.goesAt Program.goesFrom
 have h1 : (P.funcNamed n).any P.goes = false := by
  cases P.funcNamed n with
  | none => rfl
  | some f => exact goes_none h f
 have h2 : P.inits.toList.any P.goes = false := by
  rw [List.any_eq_false]
  intro g _
  rw [goes_none h g]; simp
 rw [h1, Bool.false_or]
 cases s <;> first | rfl | exact h2
set_option maxRecDepth 1000000 in
theorem noGo : Tryz.prog.funcs.any Func.goes = false := by kernel_rfl
set_option maxRecDepth 100000 in
theorem wit_okUpto (os : Os) : Input.okWideB Tryz.prog ((World.laidAll Tryz.prog os laidL).forCall (fun _ _ => 0) ⟨#[], #[.slice none 0 0, .slice none 0 0, .agg #[.bool false, .string ByteArray.empty], .agg #[.bool false, .string ByteArray.empty]], []⟩) 5 ⟨#[], #[.slice none 0 0, .slice none 0 0, .agg #[.bool false, .string ByteArray.empty], .agg #[.bool false, .string ByteArray.empty]], []⟩ = true := by kernel_rfl
set_option maxRecDepth 100000 in
theorem wit_sizedUpto (os : Os) (H : Type) (enc : TypeId × Value → H) : (Rows.OpenSpec.upto Rows.labelsAllSpec).bare.sizedB enc Tryz.prog Tryz.f5 false ((World.laidAll Tryz.prog os laidL).forCall (fun _ _ => 0) ⟨#[], #[.slice none 0 0, .slice none 0 0, .agg #[.bool false, .string ByteArray.empty], .agg #[.bool false, .string ByteArray.empty]], []⟩).memory #[.slice none 0 0, .slice none 0 0, .agg #[.bool false, .string ByteArray.empty], .agg #[.bool false, .string ByteArray.empty]] 8 = true := by kernel_rfl
set_option maxRecDepth 100000 in
theorem wit_rowUpto (os : Os) (H : Type) (enc : TypeId × Value → H) : (Rows.OpenSpec.upto Rows.labelsAllSpec).preRow enc Tryz.prog Tryz.f5 Rows.labelsAllUptoRow.domain false laidL ((World.laidAll Tryz.prog os laidL).forCall (fun _ _ => 0) ⟨#[], #[.slice none 0 0, .slice none 0 0, .agg #[.bool false, .string ByteArray.empty], .agg #[.bool false, .string ByteArray.empty]], []⟩).memory #[.slice none 0 0, .slice none 0 0, .agg #[.bool false, .string ByteArray.empty], .agg #[.bool false, .string ByteArray.empty]] := by
 obtain ⟨places, hx⟩ := reads os enc
 exact OpenSpec.preRow_of_cond 8 hx (by kernel_rfl) (fun k hk => by cases hk; kernel_rfl) (wit_sizedUpto os H enc) (laid_met os _)
set_option maxRecDepth 100000 in
theorem liftedUpto (os : Os) (started : os.Started) (H : Type) (enc : TypeId × Value → H) (F : Stop.Interp) :
  ReturnsInHanded {} Tryz.checked os 5 .any ((Rows.OpenSpec.upto Rows.labelsAllSpec).preRow enc Tryz.prog Tryz.f5 Rows.labelsAllUptoRow.domain false Rows.labelsAllUptoRow.laid) (((Rows.OpenSpec.upto Rows.labelsAllSpec).at F).post enc Tryz.prog Tryz.f5 false true false false) := by
 refine returnsInHanded_of_row (C := Tryz.checked) (s := (Rows.OpenSpec.upto Rows.labelsAllSpec)) own started (by kernel_rfl) Tryz.func5 (wit_of (os := os) #[.slice none 0 0, .slice none 0 0, .agg #[.bool false, .string ByteArray.empty], .agg #[.bool false, .string ByteArray.empty]] (wit_okUpto os) (wit_rowUpto os H enc)) ?_
 intro W base args ds gs before hval hW _ hk _ hL hS _
 exact contract H enc W base args ds gs before hval hW (gx_of hL hS) (hk _ rfl)
set_option maxHeartbeats 40000000 in
set_option maxRecDepth 100000 in
theorem closedUpto : joinedFacts Tryz.prog 5 Tryz.f5 (Rows.OpenSpec.upto Rows.labelsAllSpec).bare Rows.labelsAllUptoRow = true := by
 unfold joinedFacts
 repeat' (with_reducible refine Bool.and_eq_true_iff.2 ⟨?_, ?_⟩)
 all_goals as_aux_lemma => kernel_rfl
theorem instUpto : Tryz.f5.isInstance Tryz.prog Rows.labelsAllUptoRow.origin Rows.labelsAllUptoRow.targs := of_decide_eq_true (by kernel_rfl)
theorem wrapUpto : Tryz.f5.isWrapper Tryz.prog Rows.labelsAllUptoRow.wrapper Rows.labelsAllUptoRow.mainSum := by unfold Func.isWrapper; first | (rw [if_pos (by decide +kernel)]; kernel_rfl) | (rw [if_neg (by decide +kernel)]; exact ⟨rfl, rfl⟩)
theorem namedUpto : Tryz.prog.funcNamed Rows.labelsAllUptoRow.func = some 5 := by kernel_rfl
theorem saidUpto : Rows.LabelsAllUptoSaid :=
 OpenClaim.holds_of_cond 5 Tryz.f5 rfl rfl rfl rfl rfl rfl rfl ⟨rfl, rfl, rfl, rfl, rfl⟩ rfl rfl rfl rfl rfl namedUpto Tryz.func5 closedUpto instUpto wrapUpto
  (fun os started H enc _ F => by rw [OpenClaim.pre_eq_preRow]; exact liftedUpto os started H enc F)
theorem plainUpto (f : FuncId) (fn : Func) (hf : Tryz.pinned.checked.prog.funcNamed Rows.labelsAllUptoRow.func = some f) (hfn : Tryz.pinned.checked.prog.funcs[f]? = some fn) :
  true = Tryz.pinned.checked.prog.looks [] ∧ ∀ (j : Nat) t, fn.params[j]? = some t → Tryz.pinned.checked.prog.wantsStandIn t = false := by
 obtain rfl : f = 5 := Option.some.inj ((show Tryz.prog.funcNamed Rows.labelsAllUptoRow.func = some 5 by kernel_rfl).symm.trans hf) |>.symm
 obtain rfl : fn = Tryz.f5 := (Option.some.inj (Tryz.func5.symm.trans hfn)).symm
 refine ⟨by kernel_rfl, fun j t ht => ?_⟩
 have hm := Array.mem_of_getElem? ht
 have hall : (Tryz.f5.params.toList.all fun u => !Tryz.prog.wantsStandIn u) = true := by kernel_rfl
 exact (show Tryz.prog.wantsStandIn t = false by simpa using List.all_eq_true.1 hall t (by simpa using hm))
theorem wfTextUpto : Rows.labelsAllUptoRow.wfByText (Rows.OpenSpec.upto Rows.labelsAllSpec) = true := by kernel_rfl
theorem goesByUpto : false = Rows.labelsAllUptoRow.goesBy Tryz.prog := (goesAt_none noGo _ _).symm
theorem cardUpto : Rows.LabelsAllUptoCardSaid :=
 Claim7.holds_tied_plain_at .later [] _ _ _ _ saidUpto (fun _ h => by cases h) wfTextUpto (fun _ h => by cases h) labelsAllUpto_row_tie rfl ⟨rfl, rfl⟩ (by kernel_rfl) rfl plainUpto goesByUpto
end Go.Proofs.YtdkainiiinjgmaaGreatDoor.lawLabelsAll
