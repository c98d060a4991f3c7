/- Opening an argument that is one operation. -/
import Derived.Lib.SmallJoins
import Derived.Test.YtjaojfaedikkeaaDoorOpen
namespace Go.Proofs.YtjaojfaedikkeaaDoor
open Go.ChangeShapes Go.WideShapes Go.ChangeAt Go.RowKit Go.Deep Go.Lib

set_option maxRecDepth 100000 in
theorem open_op {H : Type} {enc : TypeId × Value → H} {W : World} {base : Nat} {r : Reach} {b0 : Nat} {sp : Nat → Bool} {held : Bool} {v : Value} {d : DataW H} {ps : List MemPlace}
    (hval : Value.okWide Tryd.prog W r b0 48 v) (h : DataW.Trod enc Tryd.prog W base sp held 48 v d ps) :
    ∃ (n : Int) (s b : ByteArray), v = .agg #[.int .i64 n, .string s, .string b] ∧ s.size ≤ maxLen ∧ b.size ≤ maxLen := by
  obtain ⟨v0, v1, v2, y0, y1, y2, n, rfl, _, _, g0, g1, g2⟩ := Go.Joins.open_agg3 Tryd.underlying48 (by kernel_rfl) (by kernel_rfl) hval h
  obtain ⟨n0, f0, _⟩ := DataW.trod_int Tryd.underlying3 g0
  obtain ⟨s1, f1, _, w1⟩ := DataW.trod_string Tryd.underlying9 g1
  obtain ⟨s2, f2, _, w2⟩ := DataW.trod_string Tryd.underlying9 g2
  simp at f0 f1 f2
  subst f0 f1 f2
  exact ⟨n0, s1, s2, rfl, w1, w2⟩
end Go.Proofs.YtjaojfaedikkeaaDoor
