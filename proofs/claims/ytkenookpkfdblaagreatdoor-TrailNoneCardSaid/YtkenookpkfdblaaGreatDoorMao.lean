import Derived.Test.YtkenookpkfdblaaGreatDoorMan
namespace Go.Proofs.YtkenookpkfdblaaGreatDoor.Exe
open Go Go.RowKit
set_option maxRecDepth 1000000
theorem pD0 : runM Tryz.prog 5 KD (drawX Tryz.prog 5 KD) true 100000 9 bodyD ⟨⟨.lf, 204⟩, 100, hx 294 opNames⟩ = some (99991, dropS 9 bodyD, litB0) := by kernel_rfl
end Go.Proofs.YtkenookpkfdblaaGreatDoor.Exe
namespace Go.Proofs.YtkenookpkfdblaaGreatDoor.Exe
open Go Go.RowKit
set_option maxRecDepth 1000000
theorem pDq : planQ opsD = some qD := by kernel_rfl
theorem pD1 : regM Tryz.prog 5 KD opsD [] 88 (qD.drop 0) [] litB0 = some (qD.drop 88, [(21, 3161)], litB1) := by kernel_rfl
end Go.Proofs.YtkenookpkfdblaaGreatDoor.Exe
namespace Go.Proofs.YtkenookpkfdblaaGreatDoor.Exe
open Go Go.RowKit
set_option maxRecDepth 1000000
theorem pD2 : regM Tryz.prog 5 KD opsD [] 7 (qD.drop 88) [(21, 3161)] litB1 = some (qD.drop 95, [(89, 4535), (21, 3161)], litB2) := by kernel_rfl
end Go.Proofs.YtkenookpkfdblaaGreatDoor.Exe
namespace Go.Proofs.YtkenookpkfdblaaGreatDoor.Exe
open Go Go.RowKit
set_option maxRecDepth 1000000
theorem pD3 : regM Tryz.prog 5 KD opsD [] 4 (qD.drop 95) [(89, 4535), (21, 3161)] litB2 = some (qD.drop 99, [(89, 4535), (21, 3161)], litB3) := by kernel_rfl
end Go.Proofs.YtkenookpkfdblaaGreatDoor.Exe
namespace Go.Proofs.YtkenookpkfdblaaGreatDoor.Exe
open Go Go.RowKit
set_option maxRecDepth 1000000
theorem pD4 : regM Tryz.prog 5 KD opsD [] 9 (qD.drop 99) [(89, 4535), (21, 3161)] litB3 = some (qD.drop 108, [(101, 9242), (89, 4535), (21, 3161)], litB4) := by kernel_rfl
end Go.Proofs.YtkenookpkfdblaaGreatDoor.Exe
namespace Go.Proofs.YtkenookpkfdblaaGreatDoor.Exe
open Go Go.RowKit
set_option maxRecDepth 1000000
theorem pD5 : regS Tryz.prog 5 KD opsD [] (qD.drop 108) [(101, 9242), (89, 4535), (21, 3161)] litB4 = some litB5 := by kernel_rfl
theorem pD6 : okV (outX Tryz.prog fnD 100 (codeX Tryz.prog 5 KD (drawX Tryz.prog 5 KD) true 99990 (dropS 10 bodyD) litB5)) = true := by kernel_rfl
end Go.Proofs.YtkenookpkfdblaaGreatDoor.Exe
namespace Go.Proofs.YtkenookpkfdblaaGreatDoor.Exe
open Go Go.RowKit
set_option maxRecDepth 1000000
theorem regD : regS Tryz.prog 5 KD opsD [] qD [] litB0 = some litB5 := by
 have h1 := regM_spec pD1
 have e : qD.drop 0 = qD := rfl
 rw [e] at h1
 rw [h1, regM_spec pD2, regM_spec pD3, regM_spec pD4]
 exact pD5
theorem run12 : okV (KX Tryz.prog 5 100000 K0d 60 (.fn 13) [] 100 (hx 294 opNames)) = true := by
 refine run_last (n' := 99990) (c' := dropS 10 bodyD) (s' := litB5) noneD fnD_ok bodyD_ok (by rw [ntmpsD]; rfl) ?_ pD6
 rw [ntmpsD]
 refine (runM_spec pD0).trans ?_
 rw [dropD]
 exact region_cut (n := 99989) pDq regD
theorem beg12 {w : World} (hw : GX 5 294 opNames w) : Calls Tryz.prog 13 #[] w fun e w' => e = .returned (.bool true) ∧ Below w.heap.size w w' :=
 run_true (KX_sim K0d_ok mixed plains 100000 60) plains hbD (by decide) (by decide) run12 hw
end Go.Proofs.YtkenookpkfdblaaGreatDoor.Exe
namespace Go.Proofs.YtkenookpkfdblaaGreatDoor.Exe
open Go Go.RowKit
noncomputable def K0e : KF := orK (onFn (memoK [13] 294 opNames)) K0o
theorem K0e_ok : KS Tryz.prog 5 K0e := by
 refine orK_sim (memoK_sim plains (by decide) ?_) K0o_ok
 intro f hf
 have e : f = 13 := by simpa using hf
 rw [e]
 exact ⟨hbD, fun w hw => beg12 hw⟩
end Go.Proofs.YtkenookpkfdblaaGreatDoor.Exe
