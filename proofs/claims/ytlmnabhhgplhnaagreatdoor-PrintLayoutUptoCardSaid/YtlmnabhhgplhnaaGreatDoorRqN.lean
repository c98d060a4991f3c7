/- The reference's commands' names. -/
import Derived.Test.YtlmnabhhgplhnaaGreatDoorMpar
namespace Go.Proofs.YtlmnabhhgplhnaaGreatDoor
open Go.RowKit

def opCells : Array Value := (opTab.map fun x => Value.string ⟨x.toArray⟩).toArray
theorem q_names_any (w : World) :
    Calls Tryz.prog 104 #[] w fun e w' => e = .returned (.slice (some ⟨w.heap.size, 0, none⟩) 10 10) ∧ w' = w.alloc (.cells opCells 9) := by
  go_enter Tryz.func104, Tryz.ntmps104
  go_wp2
  go_ret
  exact ⟨rfl, rfl⟩
end Go.Proofs.YtlmnabhhgplhnaaGreatDoor
