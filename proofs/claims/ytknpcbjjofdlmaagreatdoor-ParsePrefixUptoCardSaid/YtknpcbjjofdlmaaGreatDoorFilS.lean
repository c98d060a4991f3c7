/- What parse.File answers, and where its errors are. -/
import Derived.Test.YtknpcbjjofdlmaaGreatDoorMpar
import Derived.Test.YtknpcbjjofdlmaaGreatDoorMpri
import Derived.Test.YtknpcbjjofdlmaaGreatDoorMgap
import Derived.Test.YtknpcbjjofdlmaaGreatDoorMplo
namespace Go.Proofs.YtknpcbjjofdlmaaGreatDoor
open Go.RowKit Go.Shelf

theorem file_shape {L : List UInt8} {w w' : World} {e : Ending} (h : FileE L w w' e) : ∃ a n cp, ∃ c p : Int, e = .returned (.tuple #[.slice a n cp, .agg #[.int .i64 c, .int .i64 p]]) ∧
    ((∃ x, fileS L = .error x ∧ c = x.1 ∧ p = x.2 ∧ n = 0) ∨ (∃ rs, fileS L = .ok rs ∧ c = 0 ∧ p = 0 ∧ n = rs.length ∧ RulesA (fun b => b < w.heap.size) w' (.slice a n cp) rs)) := by
  unfold FileE at h
  cases hf : fileS L with
  | error x =>
    rw [hf] at h
    exact ⟨none, 0, 0, x.1, x.2, h, .inl ⟨x, rfl, rfl, rfl, rfl⟩⟩
  | ok rs =>
    rw [hf] at h
    obtain ⟨v, he, hr⟩ := h
    obtain ⟨a, c, q, _, _⟩ := rulesA_len hr
    subst q
    exact ⟨a, rs.length, c, 0, 0, he, .inr ⟨rs, rfl, rfl, rfl, rfl, hr⟩⟩
theorem wAt_place {L : List UInt8} {ws : List WordT} (h : allS L = .ok ws) (k : Nat) : (wAt ws k).2.1 ≤ L.length := by
  rcases Nat.lt_or_ge k ws.length with hk | hk
  · have : wAt ws k = ws[k] := by unfold wAt; rw [List.getD_eq_getElem?_getD, List.getElem?_eq_getElem hk]; rfl
    rw [this]
    exact (lawLexGap.place_le h).2 _ (List.getElem_mem hk)
  · rw [wAt_out hk]; exact Nat.zero_le _
theorem file_err {L : List UInt8} {x : Int × Int} (h : fileS L = .error x) : x.1 ≠ 0 ∧ -1 ≤ x.2 ∧ x.2 ≤ L.length ∧ (L.length ≤ 20000 → 0 ≤ x.2) := by
  unfold fileS at h
  split at h
  · injection h with h; subst h; exact ⟨by decide, by decide, by omega, fun h => by omega⟩
  · cases hA : allS L with
    | error p =>
      rw [hA] at h
      injection h with h; subst h
      have := allA_err L.length 0 L (Nat.le_refl _) p (by rw [← allA_S]; exact hA)
      exact ⟨show (1 : Int) ≠ 0 by decide, by simp only; omega, by simp only; omega, fun _ => by simp only; omega⟩
    | ok ws =>
      rw [hA] at h
      dsimp only at h
      split at h
      · injection h with h; subst h
        have := wAt_place hA (rulesP ws (0, false)).2.1
        exact ⟨show (1 : Int) ≠ 0 by decide, by simp only; omega, by simp only; omega, fun _ => by simp only; omega⟩
      · cases h

end Go.Proofs.YtknpcbjjofdlmaaGreatDoor
