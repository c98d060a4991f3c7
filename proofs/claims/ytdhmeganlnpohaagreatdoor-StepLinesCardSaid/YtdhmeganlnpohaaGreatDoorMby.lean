import Derived.Test.YtdhmeganlnpohaaGreatDoorMaa
namespace Go.Proofs.YtdhmeganlnpohaaGreatDoor
open Go.RowKit
theorem short_any (s : ByteArray) (n : Int) (w : World) (hs : s.size ≤ maxLen) (h0 : 0 ≤ n) (h1 : n ≤ 1000000) :
  Calls Tryz.prog 18 #[.string s, .int .i64 n] w fun e w' => e = .returned (.string (s.extract 0 (min s.size n.toNat))) ∧ w = w' := by
 unfold maxLen at hs
 go_enter Tryz.func18, Tryz.ntmps18
 go_wp2
 all_goals go_ret
 all_goals first
  | exact ⟨rfl, rfl⟩
  | exact ⟨ret_str (by rw [Nat.min_eq_right (by omega)]), rfl⟩
  | exact ⟨ret_str (by congr 1; omega), rfl⟩
end Go.Proofs.YtdhmeganlnpohaaGreatDoor
