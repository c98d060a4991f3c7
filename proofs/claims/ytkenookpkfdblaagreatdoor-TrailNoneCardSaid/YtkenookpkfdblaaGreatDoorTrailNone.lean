import Derived.Test.YtkenookpkfdblaaGreatDoorMao
namespace Go.Proofs.YtkenookpkfdblaaGreatDoor.lawTrailNone
open Go.RowKit Go.Proofs.YtkenookpkfdblaaGreatDoor.Exe
set_option maxRecDepth 1000000
theorem hb : hasBody Tryz.prog 3 = true := by kernel_rfl
theorem run : okV (KX Tryz.prog 5 100000 K0e 60 (.fn 3) [] 100 (hx 294 opNames)) = true := by kernel_rfl
theorem law (w : World) (hG : Exe.GX 5 294 Exe.opNames w) :
  Calls Tryz.prog 3 #[] w fun e w' => e = .returned (.bool true) ∧ Below w.heap.size w w' :=
 run_true (KX_sim K0e_ok mixed plains 100000 60) plains hb (by decide) (by decide) run hG
end Go.Proofs.YtkenookpkfdblaaGreatDoor.lawTrailNone
