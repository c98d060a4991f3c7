import Derived.Test.YtkenookpkfdblaaGreatDoorRows
import Derived.Lib.SmallJoins
namespace Go.Proofs.YtkenookpkfdblaaGreatDoor
theorem bulk_part {H : Type} {d : DataW H} {l : List (DataW H)} (h : d ∈ l) : Rows.uptoBulk d ≤ Rows.uptoBulkAll l := by
 induction l with
 | nil => cases h
 | cons x r ih =>
  simp only [Rows.uptoBulkAll]
  cases List.mem_cons.1 h with
  | inl e => subst e; omega
  | inr e => have := ih e; omega
end Go.Proofs.YtkenookpkfdblaaGreatDoor
namespace Go.Proofs.YtkenookpkfdblaaGreatDoor
open Go.ChangeShapes Go.WideShapes Go.ChangeAt Go.RowKit Go.Deep Go.Lib
set_option maxRecDepth 100000 in
theorem open_lab {H : Type} {enc : TypeId × Value → H} {W : World} {base : Nat} {r : Reach} {b0 : Nat} {sp : Nat → Bool} {held : Bool} {v : Value} {d : DataW H} {ps : List MemPlace}
  (hval : Value.okWide Tryz.prog W r b0 38 v) (h : DataW.Trod enc Tryz.prog W base sp held 38 v d ps) :
  ∃ x : Bool × ByteArray, v = .agg #[.bool x.1, .string x.2] ∧ x.2.size ≤ Rows.uptoBulk d := by
 obtain ⟨v0, v1, y0, y1, n, rfl, hd, _, g0, g1⟩ := Go.Joins.open_agg2 Tryz.underlying38 (by kernel_rfl) (by kernel_rfl) hval h
 obtain ⟨s0, f0, _⟩ := DataW.trod_bool Tryz.underlying4 g0
 obtain ⟨s1, f1, d1, _⟩ := DataW.trod_string Tryz.underlying9 g1
 simp at f0 f1
 subst f0 f1
 refine ⟨(s0, s1), rfl, ?_⟩
 have h2 := bulk_part (show y1.1 ∈ [y0.1, y1.1] by simp)
 rw [hd, Rows.uptoBulk]
 show s1.size ≤ _
 rw [Lib.size_eq]
 rw [d1] at h2 ⊢
 simp only [Rows.uptoBulk] at h2
 exact Nat.le_trans (Nat.le_of_succ_le h2) (Nat.le_succ _)
end Go.Proofs.YtkenookpkfdblaaGreatDoor
