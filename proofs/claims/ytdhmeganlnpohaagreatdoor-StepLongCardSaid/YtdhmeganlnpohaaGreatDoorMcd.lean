import Derived.Lib.SlBytesRow
import Derived.Laws.MakeOwn
import Derived.Test.YtdhmeganlnpohaaGreatDoorMaz
namespace Go.Proofs.YtdhmeganlnpohaaGreatDoor
open Go.RowKit
theorem info_b8 : (Tryz.prog.info? 5).map (fun i => (i.zero, i.size, i.bytes)) = some (some (.int .u8 0), 1, 1) := by kernel_rfl
def repB (n : Nat) (c : UInt8) : ByteArray := ⟨(List.replicate n c).toArray⟩
theorem repB_size (n : Nat) (c : UInt8) : (repB n c).size = n := by show (List.replicate n c).length = n; simp
theorem made_at (z : Value) (n k : Nat) (h : k < n) : (madeCells #[z] n)[k]? = some z := by
 unfold madeCells
 rw [Array.getElem?_eq_getElem (by simp [h])]
 simp only [Array.getElem_map, Array.getElem_range, List.size_toArray, List.length_cons, List.length_nil]
 show some (#[z][k % 1]!) = _
 rw [Nat.mod_one]; rfl
set_option maxHeartbeats 4000000
set_option maxRecDepth 100000
theorem many_any (n : Nat) (c : UInt8) (w : World) (hn : n ≤ 1000000) :
  Calls Tryz.prog 26 #[.int .i64 (n : Int), .int .u8 (c.toNat : Int)] w fun e w' => e = .returned (.string (repB n c)) ∧ Below w.heap.size w w' := by
 obtain ⟨i0, hi, hz0, hz1, hz2⟩ := info_parts info_b8
 have hmk : (Instr.makeSlice 93 (.int .i64 (n : Int)) (.int .i64 (n : Int))).run Tryz.prog w = .ok (.slice (some ⟨w.heap.size, 0, none⟩) n n) (w.alloc (.cells (madeCells #[.int .u8 0] n) 5)) := by
  have := run_make (P := Tryz.prog) w 93 5 i0 (.int .u8 0) Tryz.underlying93 hi hz0 .i64 .i64 n n (by omega) (by omega) (by rw [hz2]; omega) (by omega)
  rw [hz1, show (Value.int .u8 0).cells = #[.int .u8 0] from rfl] at this
  simpa using this
 obtain ⟨W1, hW1⟩ : ∃ W1, w.alloc (.cells (madeCells #[.int .u8 0] n) 5) = W1 := ⟨_, rfl⟩
 obtain ⟨B, hB⟩ : ∃ B, w.heap.size = B := ⟨_, rfl⟩
 have hb1 : Below B w W1 := by rw [← hW1, ← hB]; exact (Below.refl _ _).alloc (Nat.le_refl _) _
 have hc1 : ∀ j, j < n → W1.cell? ⟨B, j, none⟩ = some (.int .u8 0) := fun j hj => by
  rw [← hW1, ← hB]
  simp only [World.cell?, alloc_at, Option.isSome_none, Bool.false_eq_true, if_false]
  exact made_at _ n j hj
 have hf1 : ∀ j, W1.frozen? ⟨B, j, none⟩ = false := fun j => by
  rw [← hW1, ← hB]
  simp only [World.frozen?, alloc_at]
  simp
 rw [hW1, hB] at hmk
 rw [hB]
 have HC1 := Lib.hid hc1; have HF1 := Lib.hid hf1; have HB1 := Lib.hid hb1
 have hcv : ∀ V, (∀ j, j < n → V.cell? ⟨B, j, none⟩ = some (.int .u8 (c.toNat : Int))) → (Go.convert 93 9 (.slice (some ⟨B, 0, none⟩) n n)).run Tryz.prog V = .ok (.string (repB n c)) V := by
  intro V hV
  have h := Lib.run_convert_whole (P := Tryz.prog) V 93 5 9 Tryz.underlying93 Tryz.underlying5 Tryz.underlying9 B 0 (repB n c) (fun i hi => by
   rw [repB_size] at hi
   rw [Nat.zero_add, hV i hi]
   have : (repB n c)[i]'(by rw [repB_size]; exact hi) = c := by
    have e : (repB n c)[i]'(by rw [repB_size]; exact hi) = (List.replicate n c)[i]'(by rw [List.length_replicate]; exact hi) := rfl
    rw [e, List.getElem_replicate]
   rw [this]) n
  rw [repB_size] at h
  exact h
 have HCV := Lib.hid hcv
 clear hi hz0 hz1 hz2 hW1 hb1 hc1 hcv hf1
 go_enter Tryz.func26, Tryz.ntmps26
 go_wp2
 go_loopw [11] (fun iv wr => ∃ k : Nat, k ≤ n ∧ iv = .int .i64 (k : Int) ∧ (∀ j, j < n → wr.cell? ⟨B, j, none⟩ = some (.int .u8 (if j < k then (c.toNat : Int) else 0))) ∧ (∀ j, wr.frozen? ⟨B, j, none⟩ = false) ∧ Below B w wr) (fun iv _ => n - (intOf iv).toNat)
 case atStart => exact ⟨0, Nat.zero_le _, rfl, fun j hj => by rw [if_neg (Nat.not_lt_zero j)]; exact HC1.out j hj, HF1.out, HB1.out⟩
 case round =>
  obtain ⟨k, hk, rfl, hc, hf, hb⟩ := hrel
  by_cases hlt : k < n
  ·have hcell := hc k hlt
   have hfk := hf k
   have HC := Lib.hid hc; have HB := Lib.hid hb; have HF := Lib.hid hf
   have hi1 : (k : Int) < (n : Int) := by omega
   have hi0 : (0 : Int) ≤ (k : Int) := by omega
   clear hc hb hf
   go_wp2
   go_roundw
   case rel =>
    refine ⟨k + 1, by omega, by go_num, fun j hj => ?_, fun j => by rw [World.frozen?_setCell]; exact HF.out j, HB.out.setCell (p := ⟨B, k, none⟩) (Nat.le_refl _) _⟩
    by_cases e : j = k
    ·subst e
     rw [if_pos (by omega), World.cell?_setCell_same _ _ _ hcell]
    ·rw [World.cell?_setCell_other (w := wr) (a := ⟨B, k, none⟩) (b := ⟨B, j, none⟩) (h := fun e' => e (congrArg Addr.off e').symm), HC.out j hj]
     by_cases h2 : j < k
     ·rw [if_pos h2, if_pos (by omega)]
     ·rw [if_neg h2, if_neg (by omega)]
   case measure => simp [intOf]; omega
  ·obtain rfl : k = n := by omega
   have hi1 : ¬ (k : Int) < (k : Int) := by omega
   have hcv := HCV.out wr fun j hj => by rw [hc j hj, if_pos hj]
   have HB := Lib.hid hb
   clear hc hb
   go_wp2
   go_ret
   exact ⟨rfl, HB.out⟩
end Go.Proofs.YtdhmeganlnpohaaGreatDoor
