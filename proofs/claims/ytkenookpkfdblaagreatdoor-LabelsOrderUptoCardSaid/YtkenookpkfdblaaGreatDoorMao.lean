import Derived.Test.YtkenookpkfdblaaGreatDoorMan
namespace Go.Proofs.YtkenookpkfdblaaGreatDoor.Exe
open Go Go.RowKit
set_option maxRecDepth 1000000
theorem pD0 : runM Tryz.prog 5 KD (drawX Tryz.prog 5 KD) true 100000 9 bodyD ⟨⟨.lf, 204⟩, 100, hx 294 opNames⟩ = some (99991, dropS 9 bodyD, litB0) := by kernel_rfl
end Go.Proofs.YtkenookpkfdblaaGreatDoor.Exe
namespace Go.Proofs.YtkenookpkfdblaaGreatDoor.Exe
open Go Go.RowKit
set_option maxRecDepth 1000000
theorem pDq : planQ opsD = some qD := by kernel_rfl
theorem pD1 : regM Tryz.prog 5 KD opsD [] 88 (qD.drop 0) [] litB0 = some (qD.drop 88, [(21, 3161)], litB1) := by kernel_rfl
end Go.Proofs.YtkenookpkfdblaaGreatDoor.Exe
namespace Go.Proofs.YtkenookpkfdblaaGreatDoor.Exe
open Go Go.RowKit
set_option maxRecDepth 1000000
theorem pD2 : regM Tryz.prog 5 KD opsD [] 7 (qD.drop 88) [(21, 3161)] litB1 = some (qD.drop 95, [(89, 4535), (21, 3161)], litB2) := by kernel_rfl
end Go.Proofs.YtkenookpkfdblaaGreatDoor.Exe
namespace Go.Proofs.YtkenookpkfdblaaGreatDoor.Exe
open Go Go.RowKit
set_option maxRecDepth 1000000
theorem pD3 : regM Tryz.prog 5 KD opsD [] 4 (qD.drop 95) [(89, 4535), (21, 3161)] litB2 = some (qD.drop 99, [(89, 4535), (21, 3161)], litB3) := by kernel_rfl
end Go.Proofs.YtkenookpkfdblaaGreatDoor.Exe
namespace Go.Proofs.YtkenookpkfdblaaGreatDoor.Exe
open Go Go.RowKit
set_option maxRecDepth 1000000
theorem pD4 : regM Tryz.prog 5 KD opsD [] 9 (qD.drop 99) [(89, 4535), (21, 3161)] litB3 = some (qD.drop 108, [(101, 9242), (89, 4535), (21, 3161)], litB4) := by kernel_rfl
end Go.Proofs.YtkenookpkfdblaaGreatDoor.Exe
namespace Go.Proofs.YtkenookpkfdblaaGreatDoor.Exe
open Go Go.RowKit
set_option maxRecDepth 1000000
theorem pD5 : regS Tryz.prog 5 KD opsD [] (qD.drop 108) [(101, 9242), (89, 4535), (21, 3161)] litB4 = some litB5 := by kernel_rfl
theorem pD6 : okV (outX Tryz.prog fnD 100 (codeX Tryz.prog 5 KD (drawX Tryz.prog 5 KD) true 99990 (dropS 10 bodyD) litB5)) = true := by kernel_rfl
end Go.Proofs.YtkenookpkfdblaaGreatDoor.Exe
namespace Go.Proofs.YtkenookpkfdblaaGreatDoor.Exe
open Go Go.RowKit
set_option maxRecDepth 1000000
theorem regD : regS Tryz.prog 5 KD opsD [] qD [] litB0 = some litB5 := by
 have h1 := regM_spec pD1
 have e : qD.drop 0 = qD := rfl
 rw [e] at h1
 rw [h1, regM_spec pD2, regM_spec pD3, regM_spec pD4]
 exact pD5
theorem run12 : okV (KX Tryz.prog 5 100000 K0d 60 (.fn 13) [] 100 (hx 294 opNames)) = true := by
 refine run_last (n' := 99990) (c' := dropS 10 bodyD) (s' := litB5) noneD fnD_ok bodyD_ok (by rw [ntmpsD]; rfl) ?_ pD6
 rw [ntmpsD]
 refine (runM_spec pD0).trans ?_
 rw [dropD]
 exact region_cut (n := 99989) pDq regD
theorem beg12 {w : World} (hw : GX 5 294 opNames w) : Calls Tryz.prog 13 #[] w fun e w' => e = .returned (.bool true) ∧ Below w.heap.size w w' :=
 run_true (KX_sim K0d_ok mixed plains 100000 60) plains hbD (by decide) (by decide) run12 hw
end Go.Proofs.YtkenookpkfdblaaGreatDoor.Exe
namespace Go.Proofs.YtkenookpkfdblaaGreatDoor
open Go.RowKit Go.Shelf
def nmL (x : Lb) : ByteArray := if x.1 then ByteArray.mk #[58] ++ x.2 else x.2
set_option maxHeartbeats 4000000 in
set_option maxRecDepth 100000 in
theorem name_any (x : Lb) (w : World) (h : x.2.size ≤ 1048576) :
  Calls Tryz.prog 38 #[lv x] w fun e w' => e = .returned (.string (nmL x)) ∧ w' = w.alloc (.cells (lc x).toArray 38) := by
 obtain ⟨a, s⟩ := x
 simp only at h
 unfold lv lc nmL
 cases a
 ·simp only [Bool.false_eq_true, if_false]
  go_enter Tryz.func38, Tryz.ntmps38
  go_wp2
  go_ret
  exact ⟨rfl, rfl⟩
 ·simp only [if_true]
  go_enter Tryz.func38, Tryz.ntmps38
  go_wp2
  go_ret
  exact ⟨rfl, rfl⟩
end Go.Proofs.YtkenookpkfdblaaGreatDoor
namespace Go.Proofs.YtkenookpkfdblaaGreatDoor
open Go
theorem ltL_asymm {a b : Lb} (h : ltL a b = true) : ltL b a = false := by
 cases h2 : ltL b a with
 | false => rfl
 | true => have := ltL_trans h h2; rw [ltL_irrefl] at this; cases this
theorem eqL_iff (p q : Bool) (s t : ByteArray) : (decide (p = q) && decide (s.toList = t.toList)) = decide (((p, s) : Lb) = (q, t)) := by
 rw [ByteArray.toList_eq, ByteArray.toList_eq]
 by_cases h1 : p = q
 ·by_cases h2 : s = t
  ·simp [h1, h2]
  ·have h3 : ¬ s.data.toList = t.data.toList := fun h => h2 (lb_ext h)
   simp [h2, h3]
 ·simp [h1]
theorem order_two (a b : Lb) : (ltL a b || ltL b a) = !decide (a = b) := by
 by_cases h : a = b
 ·subst h; simp [ltL_irrefl]
 ·cases h1 : ltL a b with
  | true => simp [h]
  | false =>
   cases h2 : ltL b a with
   | true => simp [h]
   | false => exact absurd (leL_antisymm (by unfold leL; rw [h2]; rfl) (by unfold leL; rw [h1]; rfl)) h
theorem order_rule (p q : Bool) (s t : ByteArray) : (p || !q || ltL (p, s) (q, t)) = true := by
 cases p <;> cases q <;> simp [ltL]
theorem order_name (p q : Bool) (s t : ByteArray) :
  decide ((nmL (p, s)).toList = (nmL (q, t)).toList) = ((decide (p = q) && decide (s.toList = t.toList)) || (decide (s.toList = (ByteArray.mk #[58] ++ t).toList) && q && !p) || (decide (t.toList = (ByteArray.mk #[58] ++ s).toList) && p && !q)) := by
 have ha : ∀ u : ByteArray, (ByteArray.mk #[58] ++ u).toList = 58 :: u.toList := fun u => by simp [ByteArray.toList_eq]
 cases p <;> cases q <;> simp [nmL, ha, eq_comm]
end Go.Proofs.YtkenookpkfdblaaGreatDoor
