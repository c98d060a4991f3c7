/- Contract of Short. -/
import Derived.Test.YtmpiaaangbjapaaDoorWalkA
namespace Go.Proofs.YtmpiaaangbjapaaDoor
open Go.RowKit

/-- Short: the text's first n bytes. -/
theorem short_any (s : ByteArray) (n : Int) (w : World) (hs : s.size ≤ maxLen) (h0 : 0 ≤ n) (h1 : n ≤ 1000000) :
    Calls Tryd.prog 5 #[.string s, .int .i64 n] w fun e w' => e = .returned (.string (s.extract 0 (min s.size n.toNat))) ∧ w = w' := by
  unfold maxLen at hs
  go_enter Tryd.func5, Tryd.ntmps5
  go_wp2
  all_goals go_ret
  · exact ⟨ret_str (by rw [Nat.min_eq_right (by omega)]), rfl⟩
  · exact ⟨rfl, rfl⟩

end Go.Proofs.YtmpiaaangbjapaaDoor
