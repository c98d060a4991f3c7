/- Plain facts on making names plain; no program is spoken of. -/
import Derived.Test.YtmpiaaangbjapaaDoorMathA
namespace Go.Proofs.YtmpiaaangbjapaaDoor
open Go.Lib

/-- The parts that are left when '', '.' and '..' are taken out, from the left; none: one goes up too far. -/
def normGo (kept : List (List UInt8)) : List (List UInt8) → Option (List (List UInt8))
  | [] => some kept
  | p :: ps => if p = [] ∨ p = [46] then normGo kept ps else if p = [46, 46] then (if kept = [] then none else normGo kept.dropLast ps) else normGo (kept ++ [p]) ps

theorem normGo_skip (kept ps : List (List UInt8)) (p : List UInt8) (h : p = [] ∨ p = [46]) : normGo kept (p :: ps) = normGo kept ps := by rw [normGo, if_pos h]
theorem normGo_fall (ps : List (List UInt8)) : normGo [] ([46, 46] :: ps) = none := by rw [normGo, if_neg (by simp), if_pos rfl, if_pos rfl]
theorem normGo_up (kept ps : List (List UInt8)) (h : kept ≠ []) : normGo kept ([46, 46] :: ps) = normGo kept.dropLast ps := by rw [normGo, if_neg (by simp), if_pos rfl, if_neg h]
theorem normGo_keep (kept ps : List (List UInt8)) (p : List UInt8) (h1 : p ≠ []) (h2 : p ≠ [46]) (h3 : p ≠ [46, 46]) : normGo kept (p :: ps) = normGo (kept ++ [p]) ps := by rw [normGo, if_neg (by simp [h1, h2]), if_neg h3]
end Go.Proofs.YtmpiaaangbjapaaDoor
