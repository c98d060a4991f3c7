/- Plain facts: the rules of two texts, one behind the other; where an error is; no program is spoken of. Plain facts: the rules of two texts, one behind the other: up to the first one's end both go alike; no program is spoken of. Plain facts: the rules of two texts, one behind the other, to the end; no program is spoken of. -/
import Derived.Test.YtknpcbjjofdlmaaGreatDoorMpln
import Derived.Test.YtknpcbjjofdlmaaGreatDoorMpar
namespace Go.Proofs.YtknpcbjjofdlmaaGreatDoor

/-! ### Fuel does not matter -/
theorem wAt_out {ws : List WordT} {k : Nat} (h : ws.length ≤ k) : wAt ws k = (4, 0, []) := by
  unfold wAt; rw [List.getD_eq_getElem?_getD, List.getElem?_eq_none h]; rfl
theorem kind_in {ws : List WordT} {k : Nat} (h : (wAt ws k).1 ≠ 4) : k < ws.length := by
  rcases Nat.lt_or_ge k ws.length with h' | h'
  · exact h'
  · rw [wAt_out h'] at h; exact absurd rfl h
theorem name_next {ws : List WordT} {s : PS} (h0 : s.2 = false) (h : isNameP ws s = true) : (nameP ws s).2 = (s.1 + 1, false) := by
  unfold nameP; rw [take_yes h0 h]
theorem names_fuel (ws : List WordT) : ∀ (f g : Nat) (acc : List ByteArray) (s : PS), ws.length < s.1 + f → ws.length < s.1 + g → namesF ws f acc s = namesF ws g acc s
  | f, g, acc, s, hf, hg => by
    by_cases hc : s.2 = false ∧ isNameP ws s = true
    · have hk := kind_in (name_kind hc.2)
      obtain ⟨f, rfl⟩ : ∃ k, f = k + 1 := ⟨f - 1, by omega⟩
      obtain ⟨g, rfl⟩ : ∃ k, g = k + 1 := ⟨g - 1, by omega⟩
      simp only [namesF, hc.1, hc.2, Bool.not_false, Bool.and_self, if_true]
      have hn := name_next hc.1 hc.2
      exact names_fuel ws f g _ _ (by rw [hn]; simp only; omega) (by rw [hn]; simp only; omega)
    · have hc' : (!s.2 && isNameP ws s) = false := by
        rw [Bool.eq_false_iff]; intro e; simp at e; exact hc e
      cases f <;> cases g <;> simp [namesF, hc']
termination_by f => f
theorem more_fuel (ws : List WordT) : ∀ (f g : Nat) (acc : List ByteArray) (s : PS), ws.length < s.1 + f → ws.length < s.1 + g → moreF ws f acc s = moreF ws g acc s
  | f, g, acc, s, hf, hg => by
    by_cases hc : s.2 = false ∧ isMarkP ws cComma s = true
    · have hk := kind_in (mark_kind hc.2)
      obtain ⟨f, rfl⟩ : ∃ k, f = k + 1 := ⟨f - 1, by omega⟩
      obtain ⟨g, rfl⟩ : ∃ k, g = k + 1 := ⟨g - 1, by omega⟩
      simp only [moreF, hc.1, hc.2, Bool.not_false, Bool.and_self, if_true]
      have hm : markP ws cComma s = (s.1 + 1, false) := by unfold markP; rw [take_yes hc.1 hc.2]
      have hn := name_ge ws (markP ws cComma s)
      rw [hm] at hn ⊢
      exact more_fuel ws f g _ _ (by omega) (by omega)
    · have hc' : (!s.2 && isMarkP ws cComma s) = false := by
        rw [Bool.eq_false_iff]; intro e; simp at e; exact hc e
      cases f <;> cases g <;> simp [moreF, hc']
termination_by f => f
theorem steps_fuel (ws : List WordT) : ∀ (f g : Nat) (acc : List StepS) (s : PS), ws.length < s.1 + f → ws.length < s.1 + g → stepsF ws f acc s = stepsF ws g acc s
  | f, g, acc, s, hf, hg => by
    by_cases hc : s.2 = false ∧ isNameP ws s = true
    · have hk := kind_in (name_kind hc.2)
      obtain ⟨f, rfl⟩ : ∃ k, f = k + 1 := ⟨f - 1, by omega⟩
      obtain ⟨g, rfl⟩ : ∃ k, g = k + 1 := ⟨g - 1, by omega⟩
      simp only [stepsF, hc.1, hc.2, Bool.not_false, Bool.and_self, if_true]
      have hn := name_next hc.1 hc.2
      have hs := step_ge ws s
      rw [hn] at hs
      simp only at hs
      exact steps_fuel ws f g _ _ (by omega) (by omega)
    · have hc' : (!s.2 && isNameP ws s) = false := by
        rw [Bool.eq_false_iff]; intro e; simp at e; exact hc e
      cases f <;> cases g <;> simp [stepsF, hc']
termination_by f => f
theorem rules_fuel (ws : List WordT) : ∀ (f g : Nat) (acc : List RuleS) (s : PS), leftP ws s < f → leftP ws s < g → rulesF ws f acc s = rulesF ws g acc s
  | f, g, acc, s, hf, hg => by
    obtain ⟨f, rfl⟩ : ∃ k, f = k + 1 := ⟨f - 1, by omega⟩
    obtain ⟨g, rfl⟩ : ∃ k, g = k + 1 := ⟨g - 1, by omega⟩
    by_cases hc : s.2 = false ∧ isEndP ws s = false
    · rw [rulesF_go hc.1 hc.2, rulesF_go hc.1 hc.2]
      have hk : s.1 < ws.length := kind_in (by intro e; unfold isEndP at hc; simp [e] at hc)
      have hl := (rule_less ws s hc.1 hk).1
      exact rules_fuel ws f g _ _ (by omega) (by omega)
    · have hc' : s.2 = true ∨ isEndP ws s = true := by
        cases h : s.2 with
        | true => exact .inl rfl
        | false => refine .inr ?_; cases h2 : isEndP ws s with
          | true => rfl
          | false => exact absurd ⟨h, h2⟩ hc
      rw [rulesF_stop hc', rulesF_stop hc']
termination_by f => f
theorem rules_acc (ws : List WordT) : ∀ (f : Nat) (acc : List RuleS) (s : PS), rulesF ws f acc s = (acc ++ (rulesF ws f [] s).1, (rulesF ws f [] s).2)
  | 0, acc, s => by simp [rulesF]
  | f + 1, acc, s => by
    by_cases hc : s.2 = false ∧ isEndP ws s = false
    · rw [rulesF_go hc.1 hc.2, rulesF_go hc.1 hc.2, rules_acc ws f (acc ++ _), rules_acc ws f ([] ++ _)]
      simp
    · have hc' : s.2 = true ∨ isEndP ws s = true := by
        cases h : s.2 with
        | true => exact .inl rfl
        | false => refine .inr ?_; cases h2 : isEndP ws s with
          | true => rfl
          | false => exact absurd ⟨h, h2⟩ hc
      rw [rulesF_stop hc', rulesF_stop hc']
      simp

/-! ### The same words elsewhere -/
section
variable {ws ws' : List WordT} {D : Nat}
def SameW (ws ws' : List WordT) (D : Nat) : Prop := ∀ j, (wAt ws' (j + D)).1 = (wAt ws j).1 ∧ (wAt ws' (j + D)).2.2 = (wAt ws j).2.2
def mvS (D : Nat) (s : PS) : PS := (s.1 + D, s.2)
def mvR {α : Type} (D : Nat) (x : α × PS) : α × PS := (x.1, mvS D x.2)
theorem same_tx (h : SameW ws ws' D) (j : Nat) : wTx ws' (j + D) = wTx ws j := by unfold wTx; rw [(h j).2]
theorem mv_take (h : SameW ws ws' D) (b : Bool) (s : PS) : takeP ws' b (mvS D s) = mvR D (takeP ws b s) := by
  unfold takeP mvR mvS
  simp only
  split
  · rfl
  · rw [same_tx h]; simp only; congr 2; omega
theorem mv_isKey (h : SameW ws ws' D) (key : ByteArray) (s : PS) : isKeyP ws' key (mvS D s) = isKeyP ws key s := by unfold isKeyP mvS; simp only; rw [(h s.1).1, same_tx h]
theorem mv_isMark (h : SameW ws ws' D) (key : ByteArray) (s : PS) : isMarkP ws' key (mvS D s) = isMarkP ws key s := by unfold isMarkP mvS; simp only; rw [(h s.1).1, same_tx h]
theorem mv_isName (h : SameW ws ws' D) (s : PS) : isNameP ws' (mvS D s) = isNameP ws s := by unfold isNameP mvS; simp only; rw [(h s.1).1, same_tx h]
theorem mv_isEnd (h : SameW ws ws' D) (s : PS) : isEndP ws' (mvS D s) = isEndP ws s := by unfold isEndP mvS; simp only; rw [(h s.1).1]
theorem mv_key (h : SameW ws ws' D) (key : ByteArray) (s : PS) : keyP ws' key (mvS D s) = mvS D (keyP ws key s) := by unfold keyP; rw [mv_isKey h, mv_take h]; rfl
theorem mv_mark (h : SameW ws ws' D) (key : ByteArray) (s : PS) : markP ws' key (mvS D s) = mvS D (markP ws key s) := by unfold markP; rw [mv_isMark h, mv_take h]; rfl
theorem mv_name (h : SameW ws ws' D) (s : PS) : nameP ws' (mvS D s) = mvR D (nameP ws s) := by unfold nameP; rw [mv_isName h, mv_take h]
theorem mv_text (h : SameW ws ws' D) (s : PS) : textP ws' (mvS D s) = mvR D (textP ws s) := by unfold textP; rw [show (mvS D s).1 = s.1 + D from rfl, (h s.1).1, mv_take h]
theorem mv_num (h : SameW ws ws' D) (s : PS) : numP ws' (mvS D s) = numP ws s := by unfold numP; rw [show (mvS D s).1 = s.1 + D from rfl, same_tx h]
theorem mv_number (h : SameW ws ws' D) (s : PS) : numberP ws' (mvS D s) = mvR D (numberP ws s) := by unfold numberP; rw [mv_num h, show (mvS D s).1 = s.1 + D from rfl, (h s.1).1, mv_take h]; rfl
theorem mv_op (h : SameW ws ws' D) (s : PS) : opP ws' (mvS D s) = mvR D (opP ws s) := by unfold opP; rw [show (mvS D s).1 = s.1 + D from rfl, (h s.1).1, same_tx h, mv_take h]; rfl
theorem mv_names (h : SameW ws ws' D) : ∀ (f : Nat) (acc : List ByteArray) (s : PS), namesF ws' f acc (mvS D s) = mvR D (namesF ws f acc s)
  | 0, acc, s => rfl
  | f + 1, acc, s => by
    unfold namesF
    rw [mv_isName h, mv_name h, show (mvS D s).2 = s.2 from rfl]
    split
    · exact mv_names h f _ _
    · rfl
theorem mv_more (h : SameW ws ws' D) : ∀ (f : Nat) (acc : List ByteArray) (s : PS), moreF ws' f acc (mvS D s) = mvR D (moreF ws f acc s)
  | 0, acc, s => rfl
  | f + 1, acc, s => by
    unfold moreF
    rw [mv_isMark h, mv_mark h, mv_name h, show (mvS D s).2 = s.2 from rfl]
    split
    · exact mv_more h f _ _
    · rfl
theorem mv_namesP (h : SameW ws ws' D) (hl : ws'.length = ws.length + D) (s : PS) : namesP ws' (mvS D s) = mvR D (namesP ws s) := by
  unfold namesP
  rw [mv_names h, names_fuel ws (ws'.length + 1) (ws.length + 1) _ _ (by omega) (by omega)]
theorem mv_moreP (h : SameW ws ws' D) (hl : ws'.length = ws.length + D) (x : ByteArray) (s : PS) : moreP ws' x (mvS D s) = mvR D (moreP ws x s) := by
  unfold moreP
  rw [mv_more h, more_fuel ws (ws'.length + 1) (ws.length + 1) _ _ (by omega) (by omega)]
theorem mv_clause (h : SameW ws ws' D) (hl : ws'.length = ws.length + D) (key : ByteArray) (s : PS) : clauseP ws' key (mvS D s) = mvR D (clauseP ws key s) := by
  unfold clauseP
  simp only [mv_key h, mv_name h, mvR, mv_moreP h hl, mv_mark h]
theorem mv_tail (h : SameW ws ws' D) (hl : ws'.length = ws.length + D) (op : Int) (s : PS) : tailP ws' op (mvS D s) = mvR D (tailP ws op s) := by
  unfold tailP
  simp only [mv_text h, mv_name h, mvR, mv_namesP h hl, mv_number h]
  split
  · rfl
  · split
    · rfl
    · split
      · rfl
      · split
        · rfl
        · split <;> rfl
theorem mv_step (h : SameW ws ws' D) (hl : ws'.length = ws.length + D) (s : PS) : stepP ws' (mvS D s) = mvR D (stepP ws s) := by
  unfold stepP
  simp only [mv_name h, mvR, mv_mark h, mv_op h, mv_tail h hl]
theorem mv_steps (h : SameW ws ws' D) (hl : ws'.length = ws.length + D) : ∀ (f : Nat) (acc : List StepS) (s : PS), stepsF ws' f acc (mvS D s) = mvR D (stepsF ws f acc s)
  | 0, acc, s => rfl
  | f + 1, acc, s => by
    unfold stepsF
    rw [mv_isName h, mv_step h hl, show (mvS D s).2 = s.2 from rfl]
    split
    · exact mv_steps h hl f _ _
    · rfl
theorem mv_stepsP (h : SameW ws ws' D) (hl : ws'.length = ws.length + D) (s : PS) : stepsP ws' (mvS D s) = mvR D (stepsP ws s) := by
  unfold stepsP
  rw [mv_steps h hl, steps_fuel ws (ws'.length + 1) (ws.length + 1) _ _ (by omega) (by omega)]
theorem mv_opt (h : SameW ws ws' D) (hl : ws'.length = ws.length + D) (key : ByteArray) (s : PS) : optP ws' key (mvS D s) = mvR D (optP ws key s) := by
  unfold optP
  rw [mv_isKey h, mv_clause h hl]
  split <;> rfl
theorem mv_rule (h : SameW ws ws' D) (hl : ws'.length = ws.length + D) (s : PS) : ruleP ws' (mvS D s) = mvR D (ruleP ws s) := by
  unfold ruleP
  simp only [mv_key h, mv_name h, mvR, mv_mark h, mv_opt h hl, mv_clause h hl, mv_stepsP h hl]
theorem mv_rules (h : SameW ws ws' D) (hl : ws'.length = ws.length + D) : ∀ (f : Nat) (acc : List RuleS) (s : PS), rulesF ws' f acc (mvS D s) = mvR D (rulesF ws f acc s)
  | 0, acc, s => rfl
  | f + 1, acc, s => by
    unfold rulesF
    rw [mv_isEnd h, mv_rule h hl, show (mvS D s).2 = s.2 from rfl]
    split
    · exact mv_rules h hl f _ _
    · rfl
end
end Go.Proofs.YtknpcbjjofdlmaaGreatDoor
namespace Go.Proofs.YtknpcbjjofdlmaaGreatDoor

section
variable {wa wb : List WordT} {n : Nat}
/-- The first n words are the same; the first list ends there. -/
structure UpTo (wa wb : List WordT) (n : Nat) : Prop where
  same : ∀ j, j < n → wAt wb j = wAt wa j
  stop : (wAt wa n).1 = 4
  len : wa.length = n + 1
  le : n < wb.length
/-- It has failed, or stands at the first list's end. -/
def BadS (n : Nat) (s : PS) : Prop := s.2 = true ∨ s.1 = n
/-- Both go alike, or the first one has failed. -/
def Lock {α : Type} (a b : α × PS) : Prop := a.2.2 = true ∨ (a = b ∧ a.2.2 = false)
/-- .. or stands at its end. -/
def Lock2 {α : Type} (n : Nat) (a b : α × PS) : Prop := BadS n a.2 ∨ a = b
theorem up_tx (h : UpTo wa wb n) {j : Nat} (hj : j < n) : wTx wb j = wTx wa j := by unfold wTx; rw [h.same j hj]
/-- A take: what fits is none at the end. -/
theorem up_take (h : UpTo wa wb n) (fa fb : Bool) (s : PS) (hs : s.1 ≤ n) (he : s.1 = n → fa = false) (hf : s.1 < n → fb = fa) : Lock (takeP wa fa s) (takeP wb fb s) ∧ ((takeP wa fa s).2.2 = false → (takeP wa fa s).2.1 ≤ n ∧ s.2 = false) := by
  rcases Nat.lt_or_ge s.1 n with hlt | hge
  · rw [hf hlt]
    by_cases hc : s.2 = false ∧ fa = true
    · rw [take_yes hc.1 hc.2, take_yes hc.1 hc.2, up_tx h hlt]
      exact ⟨.inr ⟨rfl, rfl⟩, fun _ => ⟨by simp only; omega, hc.1⟩⟩
    · have hc' : s.2 = true ∨ fa = false := by
        cases h1 : s.2 with
        | true => exact .inl rfl
        | false => cases h2 : fa with
          | false => exact .inr rfl
          | true => exact absurd ⟨h1, h2⟩ hc
      rw [take_no hc']
      exact ⟨.inl rfl, fun e => by cases e⟩
  · rw [take_no (.inr (he (by omega)))]
    exact ⟨.inl rfl, fun e => by cases e⟩
theorem key_end (h : UpTo wa wb n) (key : ByteArray) (s : PS) (hs : s.1 = n) : isKeyP wa key s = false := by unfold isKeyP; rw [hs, h.stop]; rfl
theorem mark_end (h : UpTo wa wb n) (key : ByteArray) (s : PS) (hs : s.1 = n) : isMarkP wa key s = false := by unfold isMarkP; rw [hs, h.stop]; rfl
theorem name_end (h : UpTo wa wb n) (s : PS) (hs : s.1 = n) : isNameP wa s = false := by unfold isNameP; rw [hs, h.stop]; rfl
theorem key_same (h : UpTo wa wb n) (key : ByteArray) (s : PS) (hs : s.1 < n) : isKeyP wb key s = isKeyP wa key s := by unfold isKeyP; rw [h.same _ hs, up_tx h hs]
theorem mark_same (h : UpTo wa wb n) (key : ByteArray) (s : PS) (hs : s.1 < n) : isMarkP wb key s = isMarkP wa key s := by unfold isMarkP; rw [h.same _ hs, up_tx h hs]
theorem name_same (h : UpTo wa wb n) (s : PS) (hs : s.1 < n) : isNameP wb s = isNameP wa s := by unfold isNameP; rw [h.same _ hs, up_tx h hs]

/-- What is known of a piece that ends with a take. -/
def Piece {α : Type} (wa wb : List WordT) (n : Nat) (F : List WordT → PS → α × PS) : Prop :=
  ∀ s, s.1 ≤ n → Lock (F wa s) (F wb s) ∧ ((F wa s).2.2 = false → (F wa s).2.1 ≤ n ∧ s.2 = false)
/-- .. that ends with a look ahead. -/
def Piece2 {α : Type} (wa wb : List WordT) (n : Nat) (F : List WordT → PS → α × PS) : Prop :=
  ∀ s, s.1 ≤ n → Lock2 n (F wa s) (F wb s) ∧ ((F wa s).2.2 = false → (F wa s).2.1 ≤ n ∧ s.2 = false)
theorem piece_key (h : UpTo wa wb n) (key : ByteArray) : Piece wa wb n (fun ws s => (keyP ws key s, keyP ws key s) |> fun x => ((), x.2)) := by
  intro s hs
  have := up_take h (isKeyP wa key s) (isKeyP wb key s) s hs (key_end h key s) (key_same h key s)
  unfold keyP
  refine ⟨?_, this.2⟩
  rcases this.1 with e | ⟨e, e2⟩
  · exact .inl e
  · exact .inr ⟨by simp only; rw [e], e2⟩
theorem piece_mark (h : UpTo wa wb n) (key : ByteArray) : Piece wa wb n (fun ws s => ((), markP ws key s)) := by
  intro s hs
  have := up_take h (isMarkP wa key s) (isMarkP wb key s) s hs (mark_end h key s) (mark_same h key s)
  unfold markP
  refine ⟨?_, this.2⟩
  rcases this.1 with e | ⟨e, e2⟩
  · exact .inl e
  · exact .inr ⟨by simp only; rw [e], e2⟩
theorem piece_name (h : UpTo wa wb n) : Piece wa wb n nameP := fun s hs => up_take h (isNameP wa s) (isNameP wb s) s hs (name_end h s) (name_same h s)
theorem piece_text (h : UpTo wa wb n) : Piece wa wb n textP := fun s hs => up_take h _ _ s hs (fun e => by rw [e, h.stop]; rfl) (fun hlt => by rw [h.same _ hlt])
theorem piece_number (h : UpTo wa wb n) : Piece wa wb n numberP := by
  intro s hs
  have := up_take h ((numP wa s).2 && (wAt wa s.1).1 == 1) ((numP wb s).2 && (wAt wb s.1).1 == 1) s hs (fun e => by rw [e, h.stop]; simp) (fun hlt => by unfold numP; rw [h.same _ hlt, up_tx h hlt])
  unfold numberP
  refine ⟨?_, this.2⟩
  rcases this.1 with e | ⟨e, e2⟩
  · exact .inl e
  · refine .inr ⟨?_, e2⟩
    rcases Nat.lt_or_ge s.1 n with hlt | hge
    · rw [e]; unfold numP; rw [up_tx h hlt]
    · exfalso
      rw [take_no (.inr (by rw [show s.1 = n by omega, h.stop]; simp))] at e2
      cases e2
theorem piece_op (h : UpTo wa wb n) : Piece wa wb n opP := by
  intro s hs
  have := up_take h (decide (opNum (wTx wa s.1).data.toList ≠ 0) && (wAt wa s.1).1 == 1) (decide (opNum (wTx wb s.1).data.toList ≠ 0) && (wAt wb s.1).1 == 1) s hs (fun e => by rw [e, h.stop]; simp) (fun hlt => by rw [h.same _ hlt, up_tx h hlt])
  unfold opP
  refine ⟨?_, this.2⟩
  rcases this.1 with e | ⟨e, e2⟩
  · exact .inl e
  · refine .inr ⟨?_, e2⟩
    rcases Nat.lt_or_ge s.1 n with hlt | hge
    · rw [e, up_tx h hlt]
    · exfalso
      rw [take_no (.inr (by rw [show s.1 = n by omega, h.stop]; simp))] at e2
      cases e2
theorem names2 (h : UpTo wa wb n) : ∀ (f : Nat) (acc : List ByteArray), Piece2 wa wb n (fun ws s => namesF ws f acc s)
  | 0, acc => fun s hs => ⟨.inr rfl, fun e => ⟨hs, e⟩⟩
  | f + 1, acc => by
    intro s hs
    simp only [namesF]
    by_cases hb : BadS n s
    · have hc : (!s.2 && isNameP wa s) = false := by
        rcases hb with e | e
        · simp [e]
        · simp [name_end h s e]
      rw [hc]
      exact ⟨.inl hb, fun e => ⟨hs, e⟩⟩
    · have hs2 : s.2 = false := by cases h : s.2 with
        | false => rfl
        | true => exact absurd (.inl h) hb
      have hlt : s.1 < n := by have : s.1 ≠ n := fun e => hb (.inr e); omega
      rw [name_same h s hlt]
      split
      · rename_i hc
        simp only [hs2, Bool.not_false, Bool.true_and] at hc
        have h1 := name_next hs2 hc
        have h2 : nameP wb s = nameP wa s := by
          rcases (piece_name h s hs).1 with e | ⟨e, _⟩
          · rw [h1] at e; cases e
          · exact e.symm
        rw [h2]
        have := names2 h f (acc ++ [(nameP wa s).1]) (nameP wa s).2 (by rw [h1]; simp only; omega)
        exact ⟨this.1, fun e => ⟨(this.2 e).1, hs2⟩⟩
      · exact ⟨.inr rfl, fun e => ⟨hs, e⟩⟩
theorem more2 (h : UpTo wa wb n) : ∀ (f : Nat) (acc : List ByteArray), Piece2 wa wb n (fun ws s => moreF ws f acc s)
  | 0, acc => fun s hs => ⟨.inr rfl, fun e => ⟨hs, e⟩⟩
  | f + 1, acc => by
    intro s hs
    simp only [moreF]
    by_cases hb : BadS n s
    · have hc : (!s.2 && isMarkP wa cComma s) = false := by
        rcases hb with e | e
        · simp [e]
        · simp [mark_end h cComma s e]
      rw [hc]
      exact ⟨.inl hb, fun e => ⟨hs, e⟩⟩
    · have hs2 : s.2 = false := by cases h : s.2 with
        | false => rfl
        | true => exact absurd (.inl h) hb
      have hlt : s.1 < n := by have : s.1 ≠ n := fun e => hb (.inr e); omega
      rw [mark_same h cComma s hlt]
      split
      · rename_i hc
        simp only [hs2, Bool.not_false, Bool.true_and] at hc
        have hm : markP wa cComma s = (s.1 + 1, false) := by unfold markP; rw [take_yes hs2 hc]
        have hm2 : markP wb cComma s = markP wa cComma s := by
          rcases (piece_mark h cComma s hs).1 with e | ⟨e, _⟩
          · simp only at e; rw [hm] at e; cases e
          · injection e with _ e; exact e.symm
        rw [hm2]
        have hle : (markP wa cComma s).1 ≤ n := by rw [hm]; simp only; omega
        have hp := piece_name h (markP wa cComma s) hle
        by_cases hf : (nameP wa (markP wa cComma s)).2.2 = true
        · rw [moreF_stopL f hf]
          exact ⟨.inl (.inl hf), fun e => by simp only at e; rw [hf] at e; cases e⟩
        · have hf' : (nameP wa (markP wa cComma s)).2.2 = false := by simpa using hf
          have h2 : nameP wb (markP wa cComma s) = nameP wa (markP wa cComma s) := by
            rcases hp.1 with e | ⟨e, _⟩
            · exact absurd e hf
            · exact e.symm
          rw [h2]
          have := more2 h f (acc ++ [(nameP wa (markP wa cComma s)).1]) (nameP wa (markP wa cComma s)).2 (hp.2 hf').1
          exact ⟨this.1, fun e => ⟨(this.2 e).1, hs2⟩⟩
      · exact ⟨.inr rfl, fun e => ⟨hs, e⟩⟩
where
  moreF_stopL (f : Nat) {acc : List ByteArray} {s : PS} (h : s.2 = true) : moreF wa f acc s = (acc, s) := by
    cases f with
    | zero => rfl
    | succ f => exact moreF_stop (.inl h)
end
end Go.Proofs.YtknpcbjjofdlmaaGreatDoor
namespace Go.Proofs.YtknpcbjjofdlmaaGreatDoor

abbrev PF (α : Type) := List WordT → PS → α × PS
def bnd {α β : Type} (F : PF α) (G : α → PF β) : PF β := fun ws s => G (F ws s).1 ws (F ws s).2
def retP {α : Type} (x : α) : PF α := fun _ s => (x, s)
def keyU (key : ByteArray) : PF Unit := fun ws s => ((), keyP ws key s)
def markU (c : ByteArray) : PF Unit := fun ws s => ((), markP ws c s)

/-! ### A reader's pieces, put together -/
section
variable {wa wb : List WordT} {n : Nat} {α β : Type}
/-- Both go alike; what has failed stays so. -/
structure P1 (wa wb : List WordT) (n : Nat) (F : PF α) : Prop where
  piece : Piece wa wb n F
  fails : ∀ s, s.2 = true → (F wa s).2.2 = true
/-- .. and at the first list's end it fails. -/
structure D1 (wa wb : List WordT) (n : Nat) (F : PF α) : Prop where
  p1 : P1 wa wb n F
  dies : ∀ s, s.1 = n → (F wa s).2.2 = true
/-- .. that ends with a look ahead. -/
structure P2 (wa wb : List WordT) (n : Nat) (F : PF α) : Prop where
  piece : Piece2 wa wb n F
  fails : ∀ s, s.2 = true → (F wa s).2.2 = true
  stays : ∀ s, BadS n s → BadS n (F wa s).2
theorem no_fail {a : Prop} {b : Bool} (h : b = true) : b = false → a := fun h0 => by rw [h] at h0; cases h0
theorem P1.bnd {F : PF α} {G : α → PF β} (hF : P1 wa wb n F) (hG : ∀ x, P1 wa wb n (G x)) : P1 wa wb n (bnd F G) := by
  refine ⟨fun s hs => ?_, fun s h => (hG _).fails _ (hF.fails s h)⟩
  have h := hF.piece s hs
  rcases h.1 with e | ⟨e, e2⟩
  · have hf := (hG (F wa s).1).fails _ e
    exact ⟨.inl hf, no_fail hf⟩
  · have g := (hG (F wa s).1).piece (F wa s).2 (h.2 e2).1
    refine ⟨?_, fun h0 => ⟨(g.2 h0).1, (h.2 e2).2⟩⟩
    show Lock (G (F wa s).1 wa (F wa s).2) (G (F wb s).1 wb (F wb s).2)
    rw [← e]
    exact g.1
theorem D1.bnd {F : PF α} {G : α → PF β} (hF : D1 wa wb n F) (hG : ∀ x, P1 wa wb n (G x)) : D1 wa wb n (bnd F G) :=
  ⟨hF.p1.bnd hG, fun s h => (hG _).fails _ (hF.dies s h)⟩
theorem D1.bad {F : PF α} (h : D1 wa wb n F) {s : PS} (hb : BadS n s) : (F wa s).2.2 = true := by
  rcases hb with e | e
  · exact h.p1.fails s e
  · exact h.dies s e
theorem P2.bnd {F : PF α} {G : α → PF β} (hF : P2 wa wb n F) (hG : ∀ x, D1 wa wb n (G x)) : D1 wa wb n (bnd F G) := by
  refine ⟨⟨fun s hs => ?_, fun s h => (hG _).p1.fails _ (hF.fails s h)⟩, fun s h => (hG _).bad (hF.stays s (.inr h))⟩
  have h := hF.piece s hs
  by_cases hb : BadS n (F wa s).2
  · have hd := (hG (F wa s).1).bad hb
    exact ⟨.inl hd, no_fail hd⟩
  · rcases h.1 with e | e
    · exact absurd e hb
    · have e2 : (F wa s).2.2 = false := by
        cases hx : (F wa s).2.2 with
        | false => rfl
        | true => exact absurd (.inl hx) hb
      have g := (hG (F wa s).1).p1.piece (F wa s).2 (h.2 e2).1
      refine ⟨?_, fun h0 => ⟨(g.2 h0).1, (h.2 e2).2⟩⟩
      show Lock (G (F wa s).1 wa (F wa s).2) (G (F wb s).1 wb (F wb s).2)
      rw [← e]
      exact g.1
theorem D1.p2 {F : PF α} (h : D1 wa wb n F) : P2 wa wb n F := by
  refine ⟨fun s hs => ⟨?_, (h.p1.piece s hs).2⟩, h.p1.fails, fun s hb => .inl (h.bad hb)⟩
  rcases (h.p1.piece s hs).1 with e | ⟨e, _⟩
  · exact .inl (.inl e)
  · exact .inr e
theorem ret1 (x : α) : P1 wa wb n (retP x) := by
  refine ⟨fun s hs => ⟨?_, fun h => ⟨hs, h⟩⟩, fun s h => h⟩
  cases h : s.2 with
  | true => exact .inl h
  | false => exact .inr ⟨rfl, h⟩
theorem P2.map {F : PF α} (h : P2 wa wb n F) (g : α → β) : P2 wa wb n (Go.Proofs.YtknpcbjjofdlmaaGreatDoor.bnd F fun x => retP (g x)) := by
  refine ⟨fun s hs => ⟨?_, (h.piece s hs).2⟩, h.fails, h.stays⟩
  rcases (h.piece s hs).1 with e | e
  · exact .inl e
  · refine .inr ?_
    show (g (F wa s).1, (F wa s).2) = (g (F wb s).1, (F wb s).2)
    rw [e]
theorem d_take {F : PF α} (hp : Piece wa wb n F) (hf : ∀ s, s.2 = true → (F wa s).2.2 = true) (hd : ∀ s, s.1 = n → (F wa s).2.2 = true) : D1 wa wb n F := ⟨⟨hp, hf⟩, hd⟩
theorem d_key (h : UpTo wa wb n) (key : ByteArray) : D1 wa wb n (keyU key) :=
  d_take (piece_key h key) (fun _ hs => key_fail wa key hs) (fun s hs => by show (keyP wa key s).2 = true; unfold keyP; rw [take_no (.inr (key_end h key s hs))])
theorem d_mark (h : UpTo wa wb n) (c : ByteArray) : D1 wa wb n (markU c) :=
  d_take (piece_mark h c) (fun _ hs => mark_fail wa c hs) (fun s hs => by show (markP wa c s).2 = true; unfold markP; rw [take_no (.inr (mark_end h c s hs))])
theorem d_name (h : UpTo wa wb n) : D1 wa wb n nameP :=
  d_take (piece_name h) (fun _ hs => name_fail wa hs) (fun s hs => by unfold nameP; rw [take_no (.inr (name_end h s hs))])
theorem d_text (h : UpTo wa wb n) : D1 wa wb n textP :=
  d_take (piece_text h) (fun _ hs => text_fail wa hs) (fun s hs => by unfold textP; rw [take_no (.inr (by rw [hs, h.stop]; rfl))])
theorem d_number (h : UpTo wa wb n) : D1 wa wb n numberP :=
  d_take (piece_number h) (fun _ hs => number_fail wa hs) (fun s hs => by unfold numberP; rw [take_no (.inr (by rw [hs, h.stop]; simp))])
theorem d_op (h : UpTo wa wb n) : D1 wa wb n opP :=
  d_take (piece_op h) (fun _ hs => op_fail wa hs) (fun s hs => by unfold opP; rw [take_no (.inr (by rw [hs, h.stop]; simp))])

theorem UpTo.lens (h : UpTo wa wb n) : wa.length ≤ wb.length := by rw [h.len]; exact h.le
theorem names_stays (h : UpTo wa wb n) (f : Nat) (acc : List ByteArray) {s : PS} (hb : BadS n s) : (namesF wa f acc s).2 = s := by
  cases f with
  | zero => rfl
  | succ f =>
    rw [namesF_stop]
    rcases hb with e | e
    · exact .inl e
    · exact .inr (name_end h s e)
theorem more_stays (h : UpTo wa wb n) (f : Nat) (acc : List ByteArray) {s : PS} (hb : BadS n s) : (moreF wa f acc s).2 = s := by
  cases f with
  | zero => rfl
  | succ f =>
    rw [moreF_stop]
    rcases hb with e | e
    · exact .inl e
    · exact .inr (mark_end h cComma s e)
theorem p2_names (h : UpTo wa wb n) : P2 wa wb n namesP := by
  have e : ∀ s, namesP wa s = namesF wa (wb.length + 1) [] s := fun s => names_fuel wa _ _ [] s (by omega) (by have := h.lens; omega)
  refine ⟨fun s hs => ?_, fun s hs => names_fail wa _ _ hs, fun s hb => ?_⟩
  · have := names2 h (wb.length + 1) [] s hs
    simp only at this
    rw [← e] at this
    exact this
  · rw [e, names_stays h _ _ hb]; exact hb
theorem p2_more (h : UpTo wa wb n) (x : ByteArray) : P2 wa wb n (fun ws s => moreP ws x s) := by
  have e : ∀ s, moreP wa x s = moreF wa (wb.length + 1) [x] s := fun s => more_fuel wa _ _ [x] s (by omega) (by have := h.lens; omega)
  refine ⟨fun s hs => ?_, fun s hs => more_fail wa _ _ hs, fun s hb => ?_⟩
  · have := more2 h (wb.length + 1) [x] s hs
    simp only at this
    rw [← e] at this
    exact this
  · rw [e, more_stays h _ _ hb]; exact hb
theorem d_clause (h : UpTo wa wb n) (key : ByteArray) : D1 wa wb n (fun ws s => clauseP ws key s) :=
  (d_key h key).bnd fun _ => ((d_name h).bnd fun x => ((p2_more h x).bnd fun l => (d_mark h cSemi).bnd fun _ => ret1 l).p1).p1
theorem p2_opt (h : UpTo wa wb n) (key : ByteArray) : P2 wa wb n (fun ws s => optP ws key s) := by
  have hst : ∀ s, BadS n s → BadS n (optP wa key s).2 := fun s hb => by
    rcases hb with e | e
    · exact .inl (opt_fail wa key e)
    · rw [opt_no (key_end h key s e)]; exact .inr e
  refine ⟨fun s hs => ?_, fun s hs => opt_fail wa key hs, hst⟩
  by_cases hb : BadS n s
  · refine ⟨.inl (hst s hb), fun e => ?_⟩
    rcases hb with e1 | e1
    · rw [opt_fail wa key e1] at e; cases e
    · rw [opt_no (key_end h key s e1)] at e ⊢
      exact ⟨hs, e⟩
  · have hs2 : s.2 = false := by cases h : s.2 with
      | false => rfl
      | true => exact absurd (.inl h) hb
    have hlt : s.1 < n := by have : s.1 ≠ n := fun e => hb (.inr e); omega
    unfold optP
    rw [key_same h key s hlt]
    split
    · have := (d_clause h key).p2.piece s hs
      exact this
    · exact ⟨.inr rfl, fun e => ⟨hs, e⟩⟩
theorem p2_tail (h : UpTo wa wb n) (op : Int) : P2 wa wb n (fun ws s => tailP ws op s) := by
  by_cases h5 : op = 5
  · rw [show (fun ws s => tailP ws op s) = bnd namesP (fun r => retP (r, ([] : List ByteArray), (0 : Int))) by funext ws s; unfold tailP; rw [if_pos h5]; rfl]
    exact (p2_names h).map _
  by_cases h6 : op = 6
  · rw [show (fun ws s => tailP ws op s) = bnd textP (fun r => retP (([] : List ByteArray), [r], (0 : Int))) by funext ws s; unfold tailP; rw [if_neg h5, if_pos h6]; rfl]
    exact ((d_text h).bnd fun r => ret1 _).p2
  by_cases h7 : op = 7
  · rw [show (fun ws s => tailP ws op s) = bnd textP (fun r => bnd nameP fun q => retP ([q], [r], (0 : Int))) by funext ws s; unfold tailP; rw [if_neg h5, if_neg h6, if_pos h7]; rfl]
    exact ((d_text h).bnd fun r => ((d_name h).bnd fun q => ret1 _).p1).p2
  by_cases h8 : op = 8
  · rw [show (fun ws s => tailP ws op s) = bnd textP (fun r => bnd textP fun t => bnd nameP fun q => retP ([q], [r, t], (0 : Int))) by funext ws s; unfold tailP; rw [if_neg h5, if_neg h6, if_neg h7, if_pos h8]; rfl]
    exact ((d_text h).bnd fun r => ((d_text h).bnd fun t => ((d_name h).bnd fun q => ret1 _).p1).p1).p2
  by_cases h9 : op = 9
  · rw [show (fun ws s => tailP ws op s) = bnd numberP (fun r => bnd nameP fun q => retP ([q], ([] : List ByteArray), r)) by funext ws s; unfold tailP; rw [if_neg h5, if_neg h6, if_neg h7, if_neg h8, if_pos h9]; rfl]
    exact ((d_number h).bnd fun r => ((d_name h).bnd fun q => ret1 _).p1).p2
  · rw [show (fun ws s => tailP ws op s) = bnd nameP (fun q => retP ([q], ([] : List ByteArray), (0 : Int))) by funext ws s; unfold tailP; rw [if_neg h5, if_neg h6, if_neg h7, if_neg h8, if_neg h9]; rfl]
    exact ((d_name h).bnd fun q => ret1 _).p2
theorem d_step (h : UpTo wa wb n) : D1 wa wb n stepP :=
  (d_name h).bnd fun a => ((d_mark h cEq).bnd fun _ => ((d_op h).bnd fun o => ((p2_tail h o).bnd fun t => (d_mark h cSemi).bnd fun _ => ret1 (⟨a, o, t.1, t.2.1, t.2.2⟩ : StepS)).p1).p1).p1
theorem steps_stays (h : UpTo wa wb n) (f : Nat) (acc : List StepS) {s : PS} (hb : BadS n s) : stepsF wa f acc s = (acc, s) := by
  cases f with
  | zero => rfl
  | succ f =>
    rw [stepsF_stop]
    rcases hb with e | e
    · exact .inl e
    · exact .inr (name_end h s e)
theorem steps2 (h : UpTo wa wb n) : ∀ (f : Nat) (acc : List StepS), Piece2 wa wb n (fun ws s => stepsF ws f acc s)
  | 0, acc => fun s hs => ⟨.inr rfl, fun e => ⟨hs, e⟩⟩
  | f + 1, acc => by
    intro s hs
    by_cases hb : BadS n s
    · simp only
      rw [steps_stays h _ acc hb]
      exact ⟨.inl hb, fun e => ⟨hs, e⟩⟩
    · have hs2 : s.2 = false := by cases h : s.2 with
        | false => rfl
        | true => exact absurd (.inl h) hb
      have hlt : s.1 < n := by have : s.1 ≠ n := fun e => hb (.inr e); omega
      simp only [stepsF]
      rw [name_same h s hlt]
      split
      · have hp := (d_step h).p1.piece s hs
        rcases hp.1 with e | ⟨e, e2⟩
        · rw [steps_stays h f _ (.inl e)]
          exact ⟨.inl (.inl e), no_fail e⟩
        · rw [← e]
          have := steps2 h f (acc ++ [(stepP wa s).1]) (stepP wa s).2 (hp.2 e2).1
          exact ⟨this.1, fun e0 => ⟨(this.2 e0).1, hs2⟩⟩
      · exact ⟨.inr rfl, fun e => ⟨hs, e⟩⟩
theorem p2_steps (h : UpTo wa wb n) : P2 wa wb n stepsP := by
  have e : ∀ s, stepsP wa s = stepsF wa (wb.length + 1) [] s := fun s => steps_fuel wa _ _ [] s (by omega) (by have := h.lens; omega)
  refine ⟨fun s hs => ?_, fun s hs => steps_fail wa _ _ hs, fun s hb => ?_⟩
  · have := steps2 h (wb.length + 1) [] s hs
    simp only at this
    rw [← e] at this
    exact this
  · rw [e, steps_stays h _ _ hb]; exact hb
theorem d_rule (h : UpTo wa wb n) : D1 wa wb n ruleP :=
  (d_key h kRule).bnd fun _ => ((d_name h).bnd fun a => ((d_mark h cOpen).bnd fun _ => ((p2_opt h kIn).bnd fun i => (d_clause h kOut).bnd fun o => ((p2_opt h kAfter).bnd fun f => (p2_steps h).bnd fun t => (d_mark h cClose).bnd fun _ => ret1 (⟨a, i, o, f, t⟩ : RuleS)).p1).p1).p1).p1
/-- The rules of the first list, read in the second one. -/
theorem rules_up (h : UpTo wa wb n) (hk : ∀ j, j < n → (wAt wa j).1 ≠ 4) : ∀ (f : Nat) (acc : List RuleS) (s : PS), s.2 = false → s.1 ≤ n → leftP wa s < f → (rulesF wa f acc s).2.2 = false → ∀ g, leftP wb s < g → rulesF wb g acc s = rulesF wb g (rulesF wa f acc s).1 (n, false)
  | 0, acc, s, _, _, hf, _, _, _ => by omega
  | f + 1, acc, s, hs2, hs, hf, hok, g, hg => by
    by_cases hn : s.1 = n
    · have he : isEndP wa s = true := by unfold isEndP; rw [hn, h.stop]; rfl
      rw [rulesF_stop (.inr he)]
      obtain ⟨k, fl⟩ := s
      simp only at hn hs2
      subst hn hs2
      rfl
    · have hlt : s.1 < n := by omega
      have he : isEndP wa s = false := by unfold isEndP; simpa using hk _ hlt
      have he2 : isEndP wb s = false := by unfold isEndP; rw [h.same _ hlt]; simpa using hk _ hlt
      rw [rulesF_go hs2 he] at hok ⊢
      have hp := (d_rule h).p1.piece s hs
      have hl := h.lens
      have hl2 := h.len
      rcases hp.1 with e | ⟨e, e2⟩
      · exfalso
        have : (rulesF wa f (acc ++ [(ruleP wa s).1]) (ruleP wa s).2).2 = (ruleP wa s).2 := by
          cases f with
          | zero => rfl
          | succ f => rw [rulesF_stop (.inl e)]
        rw [this, e] at hok
        cases hok
      · obtain ⟨g, rfl⟩ : ∃ k, g = k + 1 := ⟨g - 1, by omega⟩
        have hla := (rule_less wa s hs2 (by omega)).1
        have hlb := (rule_less wb s hs2 (by omega)).1
        rw [← e] at hlb
        rw [rulesF_go hs2 he2, ← e, rules_fuel wb g (g + 1) _ _ (by omega) (by omega)]
        exact rules_up h hk f _ _ e2 (hp.2 e2).1 (by omega) hok (g + 1) (by omega)
end

/-! ### The reader stays within the list -/
section
variable {ws : List WordT} {α β : Type}
def InP (ws : List WordT) (F : PF α) : Prop := ∀ s, s.1 < ws.length → (F ws s).2.1 < ws.length
theorem InP.bnd {F : PF α} {G : α → PF β} (hF : InP ws F) (hG : ∀ x, InP ws (G x)) : InP ws (bnd F G) := fun s h => hG _ _ (hF s h)
theorem in_ret (x : α) : InP ws (retP x) := fun _ h => h
theorem in_key (hE : EndsW ws) (key : ByteArray) : InP ws (keyU key) := fun _ h => take_lt hE h key_kind
theorem in_mark (hE : EndsW ws) (c : ByteArray) : InP ws (markU c) := fun _ h => take_lt hE h mark_kind
theorem in_name (hE : EndsW ws) : InP ws nameP := fun _ h => take_lt hE h name_kind
theorem in_text (hE : EndsW ws) : InP ws textP := fun s h => take_lt hE h (fun e => by have : (wAt ws s.1).1 = 2 := by simpa using e
                                                                                       rw [this]; decide)
theorem in_number (hE : EndsW ws) : InP ws numberP := fun s h => take_lt hE h (fun e => by simp at e; rw [e.2]; decide)
theorem in_op (hE : EndsW ws) : InP ws opP := fun s h => take_lt hE h (fun e => by simp at e; rw [e.2]; decide)
theorem in_namesF (hE : EndsW ws) : ∀ f acc, InP ws (fun ws s => namesF ws f acc s)
  | 0, _ => fun _ h => h
  | f + 1, acc => fun s h => by
    simp only [namesF]
    split
    · exact in_namesF hE f _ _ (in_name hE s h)
    · exact h
theorem in_moreF (hE : EndsW ws) : ∀ f acc, InP ws (fun ws s => moreF ws f acc s)
  | 0, _ => fun _ h => h
  | f + 1, acc => fun s h => by
    simp only [moreF]
    split
    · exact in_moreF hE f _ _ (in_name hE _ (in_mark hE cComma s h))
    · exact h
theorem in_clause (hE : EndsW ws) (key : ByteArray) : InP ws (fun ws s => clauseP ws key s) :=
  (in_key hE key).bnd fun _ => (in_name hE).bnd fun x => InP.bnd (F := fun ws s => moreP ws x s) (fun s h => in_moreF hE (ws.length + 1) [x] s h) fun l => (in_mark hE cSemi).bnd fun _ => in_ret l
theorem in_opt (hE : EndsW ws) (key : ByteArray) : InP ws (fun ws s => optP ws key s) := fun s h => by
  simp only [optP]
  split
  · exact in_clause hE key s h
  · exact h
theorem in_tail (hE : EndsW ws) (op : Int) : InP ws (fun ws s => tailP ws op s) := fun s h => by
  simp only [tailP]
  split
  · exact in_namesF hE _ _ s h
  · split
    · exact in_text hE s h
    · split
      · exact in_name hE _ (in_text hE s h)
      · split
        · exact in_name hE _ (in_text hE _ (in_text hE s h))
        · split
          · exact in_name hE _ (in_number hE s h)
          · exact in_name hE s h
theorem in_step (hE : EndsW ws) : InP ws stepP :=
  (in_name hE).bnd fun a => (in_mark hE cEq).bnd fun _ => (in_op hE).bnd fun o => (in_tail hE o).bnd fun t => (in_mark hE cSemi).bnd fun _ => in_ret (⟨a, o, t.1, t.2.1, t.2.2⟩ : StepS)
theorem in_stepsF (hE : EndsW ws) : ∀ f acc, InP ws (fun ws s => stepsF ws f acc s)
  | 0, _ => fun _ h => h
  | f + 1, acc => fun s h => by
    simp only [stepsF]
    split
    · exact in_stepsF hE f _ _ (in_step hE s h)
    · exact h
theorem in_rule (hE : EndsW ws) : InP ws ruleP :=
  (in_key hE kRule).bnd fun _ => (in_name hE).bnd fun a => (in_mark hE cOpen).bnd fun _ => (in_opt hE kIn).bnd fun i => (in_clause hE kOut).bnd fun o => (in_opt hE kAfter).bnd fun f => InP.bnd (F := stepsP) (fun s h => in_stepsF hE (ws.length + 1) [] s h) fun t => (in_mark hE cClose).bnd fun _ => in_ret (⟨a, i, o, f, t⟩ : RuleS)
theorem in_rulesF (hE : EndsW ws) : ∀ f acc, InP ws (fun ws s => rulesF ws f acc s)
  | 0, _ => fun _ h => h
  | f + 1, acc => fun s h => by
    simp only [rulesF]
    split
    · exact in_rulesF hE f _ _ (in_rule hE s h)
    · exact h
end

/-! ### Two rule files, one behind the other -/
theorem allF_okE {l : List UInt8} {ws : List WordT} (h : allS l = .ok ws) : EndsW ws ∧ 0 < ws.length := by
  have := allF_ok _ _ _ _ h
  exact ⟨this.1, this.2.1⟩
theorem wAt_left {ys r : List WordT} {k : Nat} (h : k < ys.length) : wAt (ys ++ r) k = ys[k] := by
  unfold wAt
  rw [List.getD_eq_getElem?_getD, List.getElem?_append_left h, List.getElem?_eq_getElem h]; rfl
theorem wAt_right {ys r : List WordT} (k : Nat) : wAt (ys ++ r) (k + ys.length) = wAt r k := by
  unfold wAt
  rw [List.getD_eq_getElem?_getD, List.getD_eq_getElem?_getD, List.getElem?_append_right (by omega), Nat.add_sub_cancel]
theorem wAt_shift {r : List WordT} {d k : Nat} (h : k < r.length) : wAt (r.map (shiftW d)) k = shiftW d (wAt r k) := by
  unfold wAt
  rw [List.getD_eq_getElem?_getD, List.getD_eq_getElem?_getD, List.getElem?_map, List.getElem?_eq_getElem h]; rfl
theorem wAt_same (r : List WordT) (d k : Nat) : (wAt (r.map (shiftW d)) k).1 = (wAt r k).1 ∧ (wAt (r.map (shiftW d)) k).2.2 = (wAt r k).2.2 := by
  rcases Nat.lt_or_ge k r.length with h | h
  · rw [wAt_shift h]; exact ⟨rfl, rfl⟩
  · rw [wAt_out h, wAt_out (by rw [List.length_map]; exact h)]; exact ⟨rfl, rfl⟩
/-- What 'File' answers of both: the second one's error behind the first one, or the rules of both. -/
def bothS (ra : List RuleS) (d : Nat) : Except (Int × Int) (List RuleS) → Except (Int × Int) (List RuleS)
  | .error x => .error (x.1, x.2 + d)
  | .ok rb => .ok (ra ++ rb)
theorem file_two {a b : List UInt8} (ha : EndsN a) (hl : a.length + b.length ≤ 20000) {ra : List RuleS} (h : fileS a = .ok ra) : fileS (a ++ b) = bothS ra a.length (fileS b) := by
  have n1 : ¬ 20000 < a.length := by omega
  have n2 : ¬ 20000 < b.length := by omega
  have n3 : ¬ 20000 < (a ++ b).length := by rw [List.length_append]; omega
  unfold fileS at h ⊢
  rw [if_neg n1] at h
  rw [if_neg n2, if_neg n3]
  cases hA : allS a with
  | error p => rw [hA] at h; cases h
  | ok ws =>
    rw [hA] at h
    dsimp only at h
    obtain ⟨ys, hys, hk4, hab⟩ := two_all b a.length 0 a (Nat.le_refl _) ha ws hA
    have hok : (rulesP ws (0, false)).2.2 = false := by
      cases hf : (rulesP ws (0, false)).2.2 with
      | false => rfl
      | true => rw [hf, if_pos rfl] at h; cases h
    rw [hok, if_neg (by decide)] at h
    injection h with h
    have hsh := allA_shift a.length b.length 0 b (Nat.le_refl _)
    rw [allA_S (a ++ b), hab, hsh, ← allA_S b]
    cases hB : allS b with
    | error p =>
      show Except.error _ = bothS ra a.length (.error (1, (p : Int)))
      simp only [bothS]
      congr 1
    | ok wsb =>
      have hlen : ws.length = ys.length + 1 := by rw [hys]; simp
      have hbok := allF_okE hB
      have hup : UpTo ws (ys ++ wsb.map (shiftW a.length)) ys.length := by
        refine ⟨fun j hj => ?_, ?_, hlen, ?_⟩
        · rw [hys, wAt_left hj, wAt_left hj]
        · rw [hys]
          unfold wAt
          rw [List.getD_eq_getElem?_getD, List.getElem?_append_right (Nat.le_refl _), Nat.sub_self]
          rfl
        · rw [List.length_append, List.length_map]; omega
      have hk : ∀ j, j < ys.length → (wAt ws j).1 ≠ 4 := fun j hj => by
        rw [hys, wAt_left hj]; exact hk4 _ (List.getElem_mem hj)
      obtain ⟨wab, hwab⟩ : ∃ x, ys ++ wsb.map (shiftW a.length) = x := ⟨_, rfl⟩
      have hlab : wab.length = wsb.length + ys.length := by rw [← hwab, List.length_append, List.length_map]; omega
      have hsame : SameW wsb wab ys.length := fun j => by rw [← hwab, wAt_right]; exact wAt_same _ _ _
      rw [hwab] at hup
      have hr1 : rulesP wab (0, false) = rulesF wab (2 * wab.length + 2) ra (ys.length, false) := by
        rw [← h]
        exact rules_up hup hk (2 * ws.length + 2) [] (0, false) rfl (Nat.zero_le _) (by simp only [leftP]; simp) hok _ (by simp only [leftP]; simp)
      have hr2 : rulesF wab (2 * wab.length + 2) [] (ys.length, false) = mvR ys.length (rulesP wsb (0, false)) := by
        have e := mv_rules hsame hlab (2 * wab.length + 2) [] (0, false)
        have e0 : mvS ys.length (0, false) = (ys.length, false) := by unfold mvS; simp
        rw [e0] at e
        rw [e]
        congr 1
        exact rules_fuel wsb _ _ [] (0, false) (by simp only [leftP]; simp; omega) (by simp only [leftP]; simp)
      have hr : rulesP wab (0, false) = (ra ++ (rulesP wsb (0, false)).1, mvS ys.length (rulesP wsb (0, false)).2) := by
        rw [hr1, rules_acc, hr2]; rfl
      have hin : (rulesP wsb (0, false)).2.1 < wsb.length := in_rulesF hbok.1 _ _ (0, false) hbok.2
      show (if (rulesP (ys ++ wsb.map (shiftW a.length)) (0, false)).2.2 then Except.error (1, ((wAt (ys ++ wsb.map (shiftW a.length)) (rulesP (ys ++ wsb.map (shiftW a.length)) (0, false)).2.1).2.1 : Int)) else .ok (rulesP (ys ++ wsb.map (shiftW a.length)) (0, false)).1) = _
      rw [hwab, hr]
      dsimp only
      rw [show (mvS ys.length (rulesP wsb (0, false)).2).2 = (rulesP wsb (0, false)).2.2 from rfl]
      cases hf : (rulesP wsb (0, false)).2.2 with
      | false => rfl
      | true =>
        simp only [if_true, bothS]
        rw [show (mvS ys.length (rulesP wsb (0, false)).2).1 = (rulesP wsb (0, false)).2.1 + ys.length from rfl, ← hwab, wAt_right, wAt_shift hin]
        simp [shiftW]
end Go.Proofs.YtknpcbjjofdlmaaGreatDoor
