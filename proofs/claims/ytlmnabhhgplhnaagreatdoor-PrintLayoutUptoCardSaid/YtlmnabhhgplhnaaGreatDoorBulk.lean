/- What the bound on the bulk gives for a part, and for a slice. -/
import Derived.Test.YtlmnabhhgplhnaaGreatDoorRows
namespace Go.Proofs.YtlmnabhhgplhnaaGreatDoor
theorem bulk_part {H : Type} {d : DataW H} {l : List (DataW H)} (h : d ∈ l) : Rows.uptoBulk d ≤ Rows.uptoBulkAll l := by
  induction l with
  | nil => cases h
  | cons x r ih =>
    simp only [Rows.uptoBulkAll]
    cases List.mem_cons.1 h with
    | inl e => subst e; omega
    | inr e => have := ih e; omega
theorem bulk_slice {H : Type} (elems spare : List (DataW H)) : Rows.uptoBulkAll elems + 1 ≤ Rows.uptoBulk (.slice elems spare) := by
  simp only [Rows.uptoBulk]
  omega

end Go.Proofs.YtlmnabhhgplhnaaGreatDoor
