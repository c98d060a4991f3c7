/- The reference's reader as plain functions on words, and that it reads what the program's reader reads. The reference's rules as plain functions on words, and that it reads what the program's reader reads. -/
import Derived.Test.YtknpcbjjofdlmaaGreatDoorMpar
namespace Go.Proofs.YtknpcbjjofdlmaaGreatDoor

/-- Two answers of readers: the same place, the same failure, and the same value where none has failed. -/
def SameP {α : Type} (x y : α × PS) : Prop := x.2 = y.2 ∧ (y.2.2 = false → x.1 = y.1)
theorem SameP.refl {α : Type} (x : α × PS) : SameP x x := ⟨rfl, fun _ => rfl⟩

/-- The names behind 'concat'. -/
def namesR (ws : List WordT) : Nat → List ByteArray → PS → List ByteArray × PS
  | 0, acc, s => (acc, s)
  | f + 1, acc, s => if !s.2 && (wAt ws s.1).1 == 1 then namesR ws f (acc ++ [(nameP ws s).1]) (nameP ws s).2 else (acc, s)
theorem mark_failed {ws : List WordT} {c : ByteArray} {s : PS} (h : s.2 = true) : markP ws c s = (s.1, true) := by
  unfold markP; rw [take_no (.inl h)]
theorem mark_other {ws : List WordT} {c : ByteArray} {s : PS} (h : (wAt ws s.1).1 ≠ 3) : markP ws c s = (s.1, true) := by
  unfold markP
  rw [take_no (.inr (by unfold isMarkP; simp [h]))]
theorem namesR_failed (ws : List WordT) (f : Nat) (acc : List ByteArray) {s : PS} (h : s.2 = true) : namesR ws f acc s = (acc, s) := by
  cases f with
  | zero => rfl
  | succ f => simp [namesR, h]
theorem names_same (ws : List WordT) : ∀ (f : Nat) (acc : List ByteArray) (s : PS), s.1 + f > ws.length →
    SameP ((namesR ws f acc s).1, markP ws cSemi (namesR ws f acc s).2) ((namesF ws f acc s).1, markP ws cSemi (namesF ws f acc s).2)
  | 0, _, _, _ => SameP.refl _
  | f + 1, acc, s, hl => by
    by_cases hs : s.2 = true
    · rw [namesR_failed ws _ acc hs, namesF_stop (.inl hs)]; exact SameP.refl _
    · have hs' : s.2 = false := by simpa using hs
      by_cases hk : (wAt ws s.1).1 = 1
      · by_cases hn : isNameP ws s = true
        · have e1 : namesR ws (f + 1) acc s = namesR ws f (acc ++ [(nameP ws s).1]) (nameP ws s).2 := by simp [namesR, hs', hk]
          rw [e1, namesF_go hs' hn]
          exact names_same ws f _ _ (by rw [name_go hs' hn]; omega)
        · have hn' : isNameP ws s = false := by simpa using hn
          have e1 : namesR ws (f + 1) acc s = (acc ++ [(nameP ws s).1], (s.1, true)) := by
            have e2 : (nameP ws s).2 = (s.1, true) := by unfold nameP; rw [take_no (.inr hn')]
            have e3 : namesR ws (f + 1) acc s = namesR ws f (acc ++ [(nameP ws s).1]) (nameP ws s).2 := by simp [namesR, hs', hk]
            rw [e3, e2, namesR_failed ws f _ rfl]
          rw [e1, namesF_stop (.inr hn')]
          refine ⟨?_, ?_⟩
          · show markP ws cSemi (s.1, true) = markP ws cSemi s
            rw [mark_failed rfl, mark_other (by rw [hk]; decide)]
          · intro h
            have h2 : (markP ws cSemi s).2 = false := h
            rw [mark_other (by rw [hk]; decide)] at h2
            cases h2
      · have hn' : isNameP ws s = false := by unfold isNameP; simp [hk]
        have e1 : namesR ws (f + 1) acc s = (acc, s) := by simp [namesR, hk]
        rw [e1, namesF_stop (.inr hn')]
        exact SameP.refl _

/-! ### What has failed stays where it is -/
theorem take_stay {ws : List WordT} {b : Bool} {s : PS} (h : s.2 = true) : (takeP ws b s).2 = s := by
  rw [take_no (.inl h)]
  obtain ⟨k, f⟩ := s
  simp only at h
  subst h
  rfl
theorem name_stay {ws : List WordT} {s : PS} (h : s.2 = true) : (nameP ws s).2 = s := take_stay h
theorem text_stay {ws : List WordT} {s : PS} (h : s.2 = true) : (textP ws s).2 = s := take_stay h
theorem number_stay {ws : List WordT} {s : PS} (h : s.2 = true) : (numberP ws s).2 = s := take_stay h
theorem op_stay {ws : List WordT} {s : PS} (h : s.2 = true) : (opP ws s).2 = s := take_stay h
theorem mark_stay {ws : List WordT} {c : ByteArray} {s : PS} (h : s.2 = true) : markP ws c s = s := take_stay h
theorem key_stay {ws : List WordT} {c : ByteArray} {s : PS} (h : s.2 = true) : keyP ws c s = s := take_stay h
theorem tail_stay {ws : List WordT} {op : Int} {s : PS} (h : s.2 = true) : (tailP ws op s).2 = s := by
  unfold tailP
  split
  · unfold namesP; rw [namesF_stop (.inl h)]
  · split
    · exact text_stay h
    · split
      · show (nameP ws (textP ws s).2).2 = s
        rw [text_stay h, name_stay h]
      · split
        · show (nameP ws (textP ws (textP ws s).2).2).2 = s
          rw [text_stay h, text_stay h, name_stay h]
        · split
          · show (nameP ws (numberP ws s).2).2 = s
            rw [number_stay h, name_stay h]
          · exact name_stay h

/-- What stands behind a command's name, as the reference reads it. -/
def tailR (ws : List WordT) (op : Int) (s : PS) : (List ByteArray × List ByteArray × Int) × PS :=
  if op = 5 then let r := namesR ws (ws.length + 1) [] s; ((r.1, [], 0), r.2)
  else if op = 6 then let r := textP ws s; (([], [r.1], 0), r.2)
  else if op = 7 then let r := textP ws s; let q := nameP ws r.2; (([q.1], [r.1], 0), q.2)
  else if op = 8 then let r := textP ws s; let t := textP ws r.2; let q := nameP ws t.2; (([q.1], [r.1, t.1], 0), q.2)
  else if op = 9 then (if (numP ws s).2 && (wAt ws s.1).1 == 1 then let q := nameP ws (s.1 + 1, s.2); (([q.1], [], (numP ws s).1), q.2) else (([], [], 0), (s.1, true)))
  else let q := nameP ws s; (([q.1], [], 0), q.2)
theorem tail_same (ws : List WordT) (op : Int) (s : PS) (hs : s.2 = false) : SameP ((tailR ws op s).1, markP ws cSemi (tailR ws op s).2) ((tailP ws op s).1, markP ws cSemi (tailP ws op s).2) := by
  unfold tailR tailP
  by_cases h5 : op = 5
  · simp only [if_pos h5]
    have := names_same ws (ws.length + 1) [] s (by omega)
    refine ⟨this.1, fun h => ?_⟩
    have e := this.2 h
    simp only at e
    show ((namesR ws (ws.length + 1) [] s).1, ([] : List ByteArray), (0 : Int)) = ((namesP ws s).1, [], 0)
    rw [e]; rfl
  · simp only [if_neg h5]
    by_cases h6 : op = 6
    · simp only [if_pos h6]; exact SameP.refl _
    · simp only [if_neg h6]
      by_cases h7 : op = 7
      · simp only [if_pos h7]; exact SameP.refl _
      · simp only [if_neg h7]
        by_cases h8 : op = 8
        · simp only [if_pos h8]; exact SameP.refl _
        · simp only [if_neg h8]
          by_cases h9 : op = 9
          · simp only [if_pos h9]
            by_cases hk : ((numP ws s).2 && (wAt ws s.1).1 == 1) = true
            · have e : numberP ws s = ((numP ws s).1, (s.1 + 1, false)) := by unfold numberP; rw [take_yes hs hk]
              rw [if_pos hk, e, hs]
              exact SameP.refl _
            · have e : numberP ws s = ((numP ws s).1, (s.1, true)) := by unfold numberP; rw [take_no (.inr (by simpa using hk))]
              rw [if_neg hk, e]
              have e2 : (nameP ws (s.1, true)).2 = (s.1, true) := name_stay rfl
              have e3 : markP ws cSemi (s.1, true) = (s.1, true) := mark_stay rfl
              refine ⟨?_, fun h => ?_⟩
              · show markP ws cSemi (s.1, true) = markP ws cSemi (nameP ws (s.1, true)).2
                rw [e2]
              · have h2 : (markP ws cSemi (nameP ws (s.1, true)).2).2 = false := h
                rw [e2, e3] at h2
                cases h2
          · simp only [if_neg h9]; exact SameP.refl _
/-- A step, as the reference reads it. -/
def stepR (ws : List WordT) (s : PS) : StepS × PS :=
  let a := nameP ws s
  let s1 := markP ws cEq a.2
  if s1.2 then (⟨a.1, 0, [], [], 0⟩, s1)
  else if (wAt ws s1.1).1 == 1 && decide (opNum (wTx ws s1.1).data.toList ≠ 0) then
    let t := tailR ws (opNum (wTx ws s1.1).data.toList : Nat) (s1.1 + 1, false)
    (⟨a.1, (opNum (wTx ws s1.1).data.toList : Nat), t.1.1, t.1.2.1, t.1.2.2⟩, markP ws cSemi t.2)
  else (⟨a.1, 0, [], [], 0⟩, (s1.1, true))
theorem step_parts (ws : List WordT) (s : PS) : (stepP ws s).2 = markP ws cSemi (tailP ws (opP ws (markP ws cEq (nameP ws s).2)).1 (opP ws (markP ws cEq (nameP ws s).2)).2).2 := rfl
theorem step_same (ws : List WordT) (s : PS) : SameP (stepR ws s) (stepP ws s) := by
  obtain ⟨s1, h1⟩ : ∃ s1, markP ws cEq (nameP ws s).2 = s1 := ⟨_, rfl⟩
  by_cases hf : s1.2 = true
  · have e1 : (stepP ws s).2 = s1 := by rw [step_parts, h1, op_stay hf, tail_stay hf, mark_stay hf]
    have e2 : stepR ws s = (⟨(nameP ws s).1, 0, [], [], 0⟩, s1) := by unfold stepR; simp only [h1, hf, if_true]
    rw [e2]
    exact ⟨e1.symm, fun h => by rw [e1] at h; rw [h] at hf; cases hf⟩
  · have hf' : s1.2 = false := by simpa using hf
    by_cases hk : ((wAt ws s1.1).1 == 1 && decide (opNum (wTx ws s1.1).data.toList ≠ 0)) = true
    · have eo : opP ws s1 = (((opNum (wTx ws s1.1).data.toList : Nat) : Int), (s1.1 + 1, false)) := by
        unfold opP
        rw [take_yes hf' (by rw [Bool.and_comm]; exact hk)]
      have e2 : stepR ws s = (⟨(nameP ws s).1, (opNum (wTx ws s1.1).data.toList : Nat), (tailR ws (opNum (wTx ws s1.1).data.toList : Nat) (s1.1 + 1, false)).1.1, (tailR ws (opNum (wTx ws s1.1).data.toList : Nat) (s1.1 + 1, false)).1.2.1, (tailR ws (opNum (wTx ws s1.1).data.toList : Nat) (s1.1 + 1, false)).1.2.2⟩, markP ws cSemi (tailR ws (opNum (wTx ws s1.1).data.toList : Nat) (s1.1 + 1, false)).2) := by
        unfold stepR; simp only [h1, hf', hk, Bool.false_eq_true, if_false, if_true]
      have e3 : stepP ws s = (⟨(nameP ws s).1, (opNum (wTx ws s1.1).data.toList : Nat), (tailP ws (opNum (wTx ws s1.1).data.toList : Nat) (s1.1 + 1, false)).1.1, (tailP ws (opNum (wTx ws s1.1).data.toList : Nat) (s1.1 + 1, false)).1.2.1, (tailP ws (opNum (wTx ws s1.1).data.toList : Nat) (s1.1 + 1, false)).1.2.2⟩, markP ws cSemi (tailP ws (opNum (wTx ws s1.1).data.toList : Nat) (s1.1 + 1, false)).2) := by
        unfold stepP; simp only [h1, eo]
      have ht := tail_same ws (opNum (wTx ws s1.1).data.toList : Nat) (s1.1 + 1, false) rfl
      rw [e2, e3]
      refine ⟨ht.1, fun h => ?_⟩
      have hv := ht.2 h
      simp only at hv
      simp only [hv]
    · have eo : (opP ws s1).2 = (s1.1, true) := by
        unfold opP
        rw [take_no (.inr (by rw [Bool.and_comm]; simpa using hk))]
      have e1 : (stepP ws s).2 = (s1.1, true) := by rw [step_parts, h1, eo, tail_stay rfl, mark_stay rfl]
      have e2 : (stepR ws s).2 = (s1.1, true) := by unfold stepR; simp only [h1, hf', hk, Bool.false_eq_true, if_false]
      exact ⟨by rw [e1, e2], fun h => by rw [e1] at h; cases h⟩

/-- The steps of a rule, as the reference reads them. -/
def stepsR (ws : List WordT) : Nat → List StepS → PS → List StepS × PS
  | 0, acc, s => (acc, s)
  | f + 1, acc, s => if !s.2 && !isMarkP ws cClose s then stepsR ws f (acc ++ [(stepR ws s).1]) (stepR ws s).2 else (acc, s)
theorem stepsR_failed (ws : List WordT) (f : Nat) (acc : List StepS) {s : PS} (h : s.2 = true) : stepsR ws f acc s = (acc, s) := by
  cases f with
  | zero => rfl
  | succ f => simp [stepsR, h]
theorem stepsF_failed (ws : List WordT) (f : Nat) (acc : List StepS) {s : PS} (h : s.2 = true) : stepsF ws f acc s = (acc, s) := by
  cases f with
  | zero => rfl
  | succ f => exact stepsF_stop (.inl h)
theorem name_mark {ws : List WordT} {c : ByteArray} {s : PS} (h : isNameP ws s = true) : isMarkP ws c s = false := by
  unfold isNameP at h
  unfold isMarkP
  simp only [Bool.and_eq_true, beq_iff_eq] at h
  simp [h.1]
theorem steps_same (ws : List WordT) : ∀ (f : Nat) (acc : List StepS) (s : PS), s.1 + f > ws.length →
    SameP ((stepsR ws f acc s).1, markP ws cClose (stepsR ws f acc s).2) ((stepsF ws f acc s).1, markP ws cClose (stepsF ws f acc s).2)
  | 0, _, _, _ => SameP.refl _
  | f + 1, acc, s, hl => by
    by_cases hs : s.2 = true
    · rw [stepsR_failed ws _ acc hs, stepsF_failed ws _ acc hs]; exact SameP.refl _
    · have hs' : s.2 = false := by simpa using hs
      by_cases hn : isNameP ws s = true
      · have hm := name_mark (c := cClose) hn
        have e1 : stepsR ws (f + 1) acc s = stepsR ws f (acc ++ [(stepR ws s).1]) (stepR ws s).2 := by simp [stepsR, hs', hm]
        rw [e1, stepsF_go hs' hn]
        have hst := step_same ws s
        have hge := step_ge ws s
        rw [name_go hs' hn] at hge
        rw [hst.1]
        by_cases hf : (stepP ws s).2.2 = true
        · rw [stepsR_failed ws f _ hf, stepsF_failed ws f _ hf]
          refine ⟨rfl, fun h => ?_⟩
          have h2 : (markP ws cClose (stepP ws s).2).2 = false := h
          rw [mark_stay hf, hf] at h2
          cases h2
        · rw [hst.2 (by simpa using hf)]
          exact steps_same ws f _ _ (by omega)
      · have hn' : isNameP ws s = false := by simpa using hn
        rw [stepsF_stop (.inr hn')]
        by_cases hm : isMarkP ws cClose s = true
        · have e1 : stepsR ws (f + 1) acc s = (acc, s) := by simp [stepsR, hm]
          rw [e1]; exact SameP.refl _
        · have hm' : isMarkP ws cClose s = false := by simpa using hm
          have e2 : (nameP ws s).2 = (s.1, true) := by unfold nameP; rw [take_no (.inr hn')]
          have e3 : (stepR ws s).2 = (s.1, true) := by
            have h := (step_same ws s).1
            have m1 : markP ws cEq (s.1, true) = (s.1, true) := mark_stay rfl
            rw [h, step_parts, e2, m1, op_stay rfl, tail_stay rfl, mark_stay rfl]
          have e1 : stepsR ws (f + 1) acc s = (acc ++ [(stepR ws s).1], (s.1, true)) := by
            have e4 : stepsR ws (f + 1) acc s = stepsR ws f (acc ++ [(stepR ws s).1]) (stepR ws s).2 := by simp [stepsR, hs', hm']
            rw [e4, e3, stepsR_failed ws f _ rfl]
          have e5 : markP ws cClose s = (s.1, true) := by unfold markP; rw [take_no (.inr hm')]
          rw [e1]
          refine ⟨?_, fun h => ?_⟩
          · show markP ws cClose (s.1, true) = markP ws cClose s
            rw [mark_stay rfl, e5]
          · have h2 : (markP ws cClose s).2 = false := h
            rw [e5] at h2
            cases h2
end Go.Proofs.YtknpcbjjofdlmaaGreatDoor
namespace Go.Proofs.YtknpcbjjofdlmaaGreatDoor

theorem names_stay {ws : List WordT} {f : Nat} {acc : List ByteArray} {s : PS} (h : s.2 = true) : (moreF ws f acc s).2 = s := by
  cases f with
  | zero => rfl
  | succ f => rw [moreF_stop (.inl h)]
theorem clause_stay {ws : List WordT} {key : ByteArray} {s : PS} (h : s.2 = true) : (clauseP ws key s).2 = s := by
  show markP ws cSemi (moreP ws (nameP ws (keyP ws key s)).1 (nameP ws (keyP ws key s)).2).2 = s
  rw [key_stay h, name_stay h]
  unfold moreP
  rw [names_stay h, mark_stay h]
/-- A list of names with what closes it. -/
def listR (ws : List WordT) (s : PS) : List ByteArray × PS :=
  let a := nameP ws s
  let r := moreP ws a.1 a.2
  (r.1, markP ws cSemi r.2)
theorem clause_list (ws : List WordT) (key : ByteArray) (s : PS) : clauseP ws key s = listR ws (keyP ws key s) := rfl
def optR (ws : List WordT) (key : ByteArray) (s : PS) : List ByteArray × PS := if !s.2 && isKeyP ws key s then listR ws (s.1 + 1, false) else ([], s)
theorem opt_same (ws : List WordT) (key : ByteArray) (s : PS) : SameP (optR ws key s) (optP ws key s) := by
  by_cases hs : s.2 = true
  · have e1 : optR ws key s = ([], s) := by unfold optR; simp [hs]
    have e2 : (optP ws key s).2 = s := by
      unfold optP
      split
      · exact clause_stay hs
      · rfl
    rw [e1]
    exact ⟨e2.symm, fun h => by rw [e2, hs] at h; cases h⟩
  · have hs' : s.2 = false := by simpa using hs
    by_cases hk : isKeyP ws key s = true
    · have e1 : optR ws key s = listR ws (s.1 + 1, false) := by unfold optR; simp [hs', hk]
      have e2 : keyP ws key s = (s.1 + 1, false) := by unfold keyP; rw [take_yes hs' hk]
      rw [e1, opt_yes hk, clause_list, e2]
      exact SameP.refl _
    · have hk' : isKeyP ws key s = false := by simpa using hk
      have e1 : optR ws key s = ([], s) := by unfold optR; simp [hk']
      rw [e1, opt_no hk']
      exact SameP.refl _
def outR (ws : List WordT) (s : PS) : List ByteArray × PS :=
  let s1 := keyP ws kOut s
  if s1.2 then ([], s1) else listR ws s1
theorem out_same (ws : List WordT) (s : PS) : SameP (outR ws s) (clauseP ws kOut s) := by
  by_cases h : (keyP ws kOut s).2 = true
  · have e1 : outR ws s = ([], keyP ws kOut s) := by unfold outR; simp only [h, if_true]
    have e2 : (clauseP ws kOut s).2 = keyP ws kOut s := by
      show markP ws cSemi (moreP ws (nameP ws (keyP ws kOut s)).1 (nameP ws (keyP ws kOut s)).2).2 = _
      rw [name_stay h]
      unfold moreP
      rw [names_stay h, mark_stay h]
    rw [e1]
    exact ⟨e2.symm, fun hf => by rw [e2, h] at hf; cases hf⟩
  · have e1 : outR ws s = listR ws (keyP ws kOut s) := by unfold outR; simp only [h, Bool.false_eq_true, if_false]
    rw [e1, clause_list]
    exact SameP.refl _
def ruleR (ws : List WordT) (s : PS) : RuleS × PS :=
  let a := nameP ws (keyP ws kRule s)
  let i := optR ws kIn (markP ws cOpen a.2)
  let o := outR ws i.2
  let f := optR ws kAfter o.2
  let t := stepsR ws (ws.length + 1) [] f.2
  (⟨a.1, i.1, o.1, f.1, t.1⟩, markP ws cClose t.2)
theorem not_fail {s t : PS} (h : s.2 = true → t.2 = true) (ht : t.2 = false) : s.2 = false := by
  cases hs : s.2 with
  | false => rfl
  | true => rw [h hs] at ht; cases ht
theorem rule_same (ws : List WordT) (s : PS) : SameP (ruleR ws s) (ruleP ws s) := by
  obtain ⟨a, ha⟩ : ∃ a, nameP ws (keyP ws kRule s) = a := ⟨_, rfl⟩
  obtain ⟨s2, hs2⟩ : ∃ x, markP ws cOpen a.2 = x := ⟨_, rfl⟩
  have hi := opt_same ws kIn s2
  have ho := out_same ws (optP ws kIn s2).2
  have hf := opt_same ws kAfter (clauseP ws kOut (optP ws kIn s2).2).2
  have ht := steps_same ws (ws.length + 1) [] (optP ws kAfter (clauseP ws kOut (optP ws kIn s2).2).2).2 (by omega)
  have e1 : ruleR ws s = (⟨a.1, (optR ws kIn s2).1, (outR ws (optP ws kIn s2).2).1, (optR ws kAfter (clauseP ws kOut (optP ws kIn s2).2).2).1, (stepsR ws (ws.length + 1) [] (optP ws kAfter (clauseP ws kOut (optP ws kIn s2).2).2).2).1⟩, markP ws cClose (stepsR ws (ws.length + 1) [] (optP ws kAfter (clauseP ws kOut (optP ws kIn s2).2).2).2).2) := by
    unfold ruleR; simp only [ha, hs2, hi.1, ho.1, hf.1]
  have e2 : ruleP ws s = (⟨a.1, (optP ws kIn s2).1, (clauseP ws kOut (optP ws kIn s2).2).1, (optP ws kAfter (clauseP ws kOut (optP ws kIn s2).2).2).1, (stepsF ws (ws.length + 1) [] (optP ws kAfter (clauseP ws kOut (optP ws kIn s2).2).2).2).1⟩, markP ws cClose (stepsF ws (ws.length + 1) [] (optP ws kAfter (clauseP ws kOut (optP ws kIn s2).2).2).2).2) := by
    unfold ruleP stepsP; simp only [ha, hs2]
  rw [e1, e2]
  refine ⟨ht.1, fun h => ?_⟩
  have h4 : (markP ws cClose (stepsF ws (ws.length + 1) [] (optP ws kAfter (clauseP ws kOut (optP ws kIn s2).2).2).2).2).2 = false := h
  have h3 := not_fail (fun hh => mark_fail ws cClose (steps_fail ws (ws.length + 1) [] hh)) h4
  have h2 := not_fail (fun hh => opt_fail ws kAfter hh) h3
  have h1 := not_fail (fun hh => clause_fail ws kOut hh) h2
  have v4 := ht.2 h4
  simp only at v4
  simp only [hi.2 h1, ho.2 h2, hf.2 h3, v4]
def rulesR (ws : List WordT) : Nat → List RuleS → PS → List RuleS × PS
  | 0, acc, s => (acc, s)
  | f + 1, acc, s => if !s.2 && !isEndP ws s then rulesR ws f (acc ++ [(ruleR ws s).1]) (ruleR ws s).2 else (acc, s)
theorem rules_same (ws : List WordT) : ∀ (f : Nat) (acc : List RuleS) (s : PS), SameP (rulesR ws f acc s) (rulesF ws f acc s)
  | 0, _, _ => SameP.refl _
  | f + 1, acc, s => by
    by_cases hc : (!s.2 && !isEndP ws s) = true
    · have hr := rule_same ws s
      have e1 : rulesR ws (f + 1) acc s = rulesR ws f (acc ++ [(ruleR ws s).1]) (ruleR ws s).2 := by conv => lhs; unfold rulesR; rw [if_pos hc]
      have e2 : rulesF ws (f + 1) acc s = rulesF ws f (acc ++ [(ruleP ws s).1]) (ruleP ws s).2 := by conv => lhs; unfold rulesF; rw [if_pos hc]
      rw [e1, e2, hr.1]
      by_cases hf : (ruleP ws s).2.2 = true
      · have g1 : ∀ acc, rulesR ws f acc (ruleP ws s).2 = (acc, (ruleP ws s).2) := fun acc => by cases f <;> simp [rulesR, hf]
        have g2 : ∀ acc, rulesF ws f acc (ruleP ws s).2 = (acc, (ruleP ws s).2) := fun acc => by cases f <;> simp [rulesF, hf]
        rw [g1, g2]
        exact ⟨rfl, fun h => by rw [hf] at h; cases h⟩
      · rw [hr.2 (by simpa using hf)]
        exact rules_same ws f _ _
    · have e1 : rulesR ws (f + 1) acc s = (acc, s) := by unfold rulesR; rw [if_neg hc]
      have e2 : rulesF ws (f + 1) acc s = (acc, s) := by unfold rulesF; rw [if_neg hc]
      rw [e1, e2]; exact SameP.refl _
/-- What the reference's 'File' answers, as a plain function: it is the program's. -/
def fileR (l : List UInt8) : Except (Int × Int) (List RuleS) :=
  if 20000 < l.length then .error (4, -1) else
    match allS l with
    | .error p => .error (1, p)
    | .ok ws => let r := rulesR ws (2 * ws.length + 2) [] (0, false); if r.2.2 then .error (1, ((wAt ws r.2.1).2.1 : Int)) else .ok r.1
theorem file_same (l : List UInt8) : fileR l = fileS l := by
  unfold fileR fileS
  split
  · rfl
  · cases hA : allS l with
    | error p => rfl
    | ok ws =>
      have h := rules_same ws (2 * ws.length + 2) [] (0, false)
      dsimp only
      unfold rulesP
      rw [h.1]
      split
      · rfl
      · rename_i hf
        rw [h.2 (by simpa using hf)]
end Go.Proofs.YtknpcbjjofdlmaaGreatDoor
