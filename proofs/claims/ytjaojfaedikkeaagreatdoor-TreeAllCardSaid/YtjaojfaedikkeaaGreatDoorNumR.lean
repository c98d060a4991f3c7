/- The reference's Number, below a hundred. -/
import Derived.Lib.SlBytesRow
import Derived.Test.YtjaojfaedikkeaaGreatDoorWalkR
namespace Go.Proofs.YtjaojfaedikkeaaGreatDoor
open Go.RowKit

theorem conv_one (c : UInt8) (w : World) : (Go.convert 73 9 (.slice (some ⟨w.heap.size, 0, none⟩) 1 1)).run Tryz.prog (w.alloc (.cells #[.int .u8 c.toNat] 5)) = .ok (.string ⟨#[c]⟩) (w.alloc (.cells #[.int .u8 c.toNat] 5)) :=
  Lib.run_convert_whole (P := Tryz.prog) _ 73 5 9 (by kernel_rfl) (by kernel_rfl) (by kernel_rfl) w.heap.size 0 ⟨#[c]⟩ (fun i hi => by
    have : i = 0 := by simp [ByteArray.size] at hi; omega
    subst this
    rw [World.cell?_alloc_at _ _ _ _ rfl]; rfl) 1

/-- A number's digits, below a hundred. -/
def digB (n : Nat) : ByteArray := if n < 10 then ⟨#[UInt8.ofNat (48 + n)]⟩ else ⟨#[UInt8.ofNat (48 + n / 10), UInt8.ofNat (48 + n % 10)]⟩

set_option maxRecDepth 100000 in
theorem numR_one (n : Nat) (h : n < 10) (w : World) :
    Calls Tryz.prog 46 #[.int .i64 n] w fun e w' => e = .returned (.string (digB n)) ∧ Below w.heap.size w w' := by
  have hd : digB n = ⟨#[UInt8.ofNat (48 + n)]⟩ := by unfold digB; rw [if_pos h]
  rw [hd]
  have hc := conv_one (UInt8.ofNat (48 + n))
  have hn : (UInt8.ofNat (48 + n)).toNat = 48 + n := by rw [UInt8.toNat_ofNat']; omega
  rw [hn] at hc
  generalize UInt8.ofNat (48 + n) = c at *
  push_cast at hc
  have hcw := hc w
  clear hn hd hc
  go_enter Tryz.func46, Tryz.ntmps46
  go_wp2
  go_ret
  exact ⟨rfl, (Below.refl _ _).alloc (Nat.le_refl _) _⟩

set_option maxRecDepth 100000 in
theorem numR_any (n : Nat) (h : n < 100) (w : World) :
    Calls Tryz.prog 46 #[.int .i64 n] w fun e w' => e = .returned (.string (digB n)) ∧ Below w.heap.size w w' := by
  by_cases h10 : n < 10
  · exact numR_one n h10 w
  · have hd : digB n = digB (n / 10) ++ digB (n % 10) := by
      unfold digB
      rw [if_neg h10, if_pos (by omega), if_pos (by omega)]
      rfl
    have c1 := fun w => numR_one (n / 10) (by omega) w
    have c2 := fun w => numR_one (n % 10) (by omega) w
    have e1 : (n : Int).tdiv 10 = ((n / 10 : Nat) : Int) := by rw [Int.tdiv_eq_ediv_of_nonneg (by omega)]; omega
    have e2 : (n : Int).tmod 10 = ((n % 10 : Nat) : Int) := by rw [Int.tmod_eq_emod_of_nonneg (by omega)]; omega
    have l1 : (digB (n / 10)).size = 1 := by unfold digB; rw [if_pos (by omega)]; rfl
    have l2 : (digB (n % 10)).size = 1 := by unfold digB; rw [if_pos (by omega)]; rfl
    have hp : n / 10 < 10 := by omega
    have hq : n % 10 < 10 := by omega
    generalize digB (n / 10) = x at *
    generalize digB (n % 10) = y at *
    generalize n / 10 = p at *
    generalize n % 10 = q at *
    rw [hd]
    have C1 := Lib.hid c1
    have C2 := Lib.hid c2
    clear c1 c2 hd
    go_enter Tryz.func46, Tryz.ntmps46
    go_wp2_with fail
    refine (C1.out w).mono ?_
    rintro e w1 ⟨rfl, hb1⟩
    go_wp2_with fail
    refine (C2.out w1).mono ?_
    rintro e w2 ⟨rfl, hb2⟩
    replace hb2 := chain hb1 hb2
    clear hb1
    go_wp2
    go_ret
    exact ⟨rfl, hb2⟩
end Go.Proofs.YtjaojfaedikkeaaGreatDoor
