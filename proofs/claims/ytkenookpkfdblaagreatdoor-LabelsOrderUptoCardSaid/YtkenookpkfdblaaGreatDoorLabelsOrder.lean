import Derived.Test.YtkenookpkfdblaaGreatDoorMao
namespace Go.Proofs.YtkenookpkfdblaaGreatDoor.lawLabelsOrder
open Go.RowKit Go.Shelf
set_option maxHeartbeats 8000000
set_option maxRecDepth 100000
section
variable {P : Program} {ops : Array Oper} {Q : Exit → Act → World → Prop} {md : Region.Mode} {S : World → Prop}
theorem callG {fuel : Nat} {listed : Array Bool} {a : Act} {w : World} {i : Nat} {o : Oper} {v : Value} (ho : ops[i]? = some o) (hr : Region.ready md ops listed = [i])
  (h : ∀ K' : Act → World → Prop, (∀ w', S w' → K' (a.put o.dst v) w') → if Region.wanted o (yielded ops a.tmps) = true then Oper.wp P o a w K' Q else K' (a.put o.dst undef) w)
  (rest : ∀ w', S w' → wpAnyH P md ops Q S fuel (listed.setIfInBounds i true) (a.put o.dst v) w') : wpAnyH P md ops Q S (fuel + 1) listed a w :=
 wpAnyH_ready hr (by simp) (AllReadyH.cons ho (fun K' hK => h K' (fun w' hS => hK.out _ _ hS (fun _ => rest w' hS))) AllReadyH.nil)
end
abbrev o0 : Oper := { dst := some 19, op := Op.move (Operand.tmp 8), type := 4, pos := "more.go:35", after := #[], guard := none }
abbrev o1 : Oper := { dst := some 20, op := Op.move (Operand.tmp 19), type := 4, pos := "more.go:35", after := #[{ on := 0, ground := Ground.data }], guard := none }
abbrev o2 : Oper := { dst := some 21, op := Op.move (Operand.tmp 9), type := 4, pos := "more.go:35", after := #[{ on := 1, ground := Ground.guard }], guard := some (1, true) }
abbrev o3 : Oper := { dst := some 22, op := Op.pick (Operand.tmp 20) (Operand.tmp 21) (Operand.const (Value.bool false)), type := 4, pos := "more.go:35", after := #[{ on := 1, ground := Ground.data }, { on := 2, ground := Ground.data }], guard := none }
abbrev o4 : Oper := { dst := some 23, op := Op.unOp UnOp.not 4 (Operand.tmp 22), type := 4, pos := "more.go:35", after := #[{ on := 3, ground := Ground.data }], guard := none }
abbrev o5 : Oper := { dst := some 24, op := Op.move (Operand.tmp 23), type := 4, pos := "more.go:35", after := #[{ on := 4, ground := Ground.data }, { on := 1, ground := Ground.chain }], guard := none }
abbrev o6 : Oper := { dst := some 25, op := Op.move (Operand.tmp 8), type := 4, pos := "more.go:35", after := #[{ on := 5, ground := Ground.guard }], guard := some (5, true) }
abbrev o7 : Oper := { dst := some 26, op := Op.move (Operand.tmp 25), type := 4, pos := "more.go:35", after := #[{ on := 6, ground := Ground.data }, { on := 5, ground := Ground.chain }, { on := 5, ground := Ground.guard }], guard := some (5, true) }
abbrev o8 : Oper := { dst := some 27, op := Op.move (Operand.tmp 9), type := 4, pos := "more.go:35", after := #[{ on := 7, ground := Ground.guard }], guard := some (7, false) }
abbrev o9 : Oper := { dst := some 28, op := Op.pick (Operand.tmp 26) (Operand.const (Value.bool true)) (Operand.tmp 27), type := 4, pos := "more.go:35", after := #[{ on := 7, ground := Ground.data }, { on := 8, ground := Ground.data }, { on := 5, ground := Ground.guard }], guard := some (5, true) }
abbrev o10 : Oper := { dst := some 29, op := Op.load 38 (Operand.tmp 3), type := 38, pos := "more.go:35", after := #[{ on := 5, ground := Ground.guard }], guard := some (5, true) }
abbrev o11 : Oper := { dst := some 30, op := Op.load 38 (Operand.tmp 4), type := 38, pos := "more.go:35", after := #[{ on := 5, ground := Ground.guard }], guard := some (5, true) }
abbrev o12 : Oper := { dst := some 31, op := Op.binOp BinOp.neq 38 (Operand.tmp 29) (Operand.tmp 30) 38, type := 4, pos := "more.go:35", after := #[{ on := 10, ground := Ground.data }, { on := 11, ground := Ground.data }, { on := 5, ground := Ground.guard }], guard := some (5, true) }
abbrev o13 : Oper := { dst := some 32, op := Op.binOp BinOp.eql 4 (Operand.tmp 28) (Operand.tmp 31) 4, type := 4, pos := "more.go:35", after := #[{ on := 9, ground := Ground.data }, { on := 12, ground := Ground.data }, { on := 5, ground := Ground.guard }], guard := some (5, true) }
abbrev o14 : Oper := { dst := some 33, op := Op.pick (Operand.tmp 24) (Operand.tmp 32) (Operand.const (Value.bool false)), type := 4, pos := "more.go:35", after := #[{ on := 5, ground := Ground.data }, { on := 13, ground := Ground.data }], guard := none }
abbrev o15 : Oper := { dst := some 34, op := Op.move (Operand.tmp 33), type := 4, pos := "more.go:35", after := #[{ on := 14, ground := Ground.data }, { on := 7, ground := Ground.chain }], guard := none }
abbrev o16 : Oper := { dst := some 35, op := Op.move (Operand.tmp 8), type := 4, pos := "more.go:35", after := #[{ on := 15, ground := Ground.guard }], guard := some (15, true) }
abbrev o17 : Oper := { dst := some 36, op := Op.unOp UnOp.not 4 (Operand.tmp 35), type := 4, pos := "more.go:35", after := #[{ on := 16, ground := Ground.data }, { on := 15, ground := Ground.guard }], guard := some (15, true) }
abbrev o18 : Oper := { dst := some 37, op := Op.move (Operand.tmp 36), type := 4, pos := "more.go:35", after := #[{ on := 17, ground := Ground.data }, { on := 15, ground := Ground.chain }, { on := 15, ground := Ground.guard }], guard := some (15, true) }
abbrev o19 : Oper := { dst := some 38, op := Op.load 38 (Operand.tmp 4), type := 38, pos := "more.go:35", after := #[{ on := 18, ground := Ground.guard }], guard := some (18, false) }
abbrev o20 : Oper := { dst := some 39, op := Op.load 38 (Operand.tmp 5), type := 38, pos := "more.go:35", after := #[{ on := 18, ground := Ground.guard }], guard := some (18, false) }
abbrev o21 : Oper := { dst := some 40, op := Op.call { callee := Callee.value (Operand.func 37), args := #[Operand.tmp 38, Operand.tmp 39], argTypes := #[38, 38] }, type := 4, pos := "more.go:35", after := #[{ on := 19, ground := Ground.data }, { on := 20, ground := Ground.data }, { on := 18, ground := Ground.chain }, { on := 18, ground := Ground.guard }], guard := some (18, false) }
abbrev o22 : Oper := { dst := some 41, op := Op.unOp UnOp.not 4 (Operand.tmp 40), type := 4, pos := "more.go:35", after := #[{ on := 21, ground := Ground.data }, { on := 18, ground := Ground.guard }], guard := some (18, false) }
abbrev o23 : Oper := { dst := some 42, op := Op.pick (Operand.tmp 37) (Operand.const (Value.bool true)) (Operand.tmp 41), type := 4, pos := "more.go:35", after := #[{ on := 18, ground := Ground.data }, { on := 22, ground := Ground.data }, { on := 15, ground := Ground.guard }], guard := some (15, true) }
abbrev o24 : Oper := { dst := some 43, op := Op.move (Operand.tmp 42), type := 4, pos := "more.go:35", after := #[{ on := 23, ground := Ground.data }, { on := 21, ground := Ground.chain }, { on := 15, ground := Ground.guard }], guard := some (15, true) }
abbrev o25 : Oper := { dst := some 44, op := Op.load 38 (Operand.tmp 3), type := 38, pos := "more.go:35", after := #[{ on := 24, ground := Ground.guard }], guard := some (24, false) }
abbrev o26 : Oper := { dst := some 45, op := Op.load 38 (Operand.tmp 5), type := 38, pos := "more.go:35", after := #[{ on := 24, ground := Ground.guard }], guard := some (24, false) }
abbrev o27 : Oper := { dst := some 46, op := Op.call { callee := Callee.value (Operand.func 37), args := #[Operand.tmp 44, Operand.tmp 45], argTypes := #[38, 38] }, type := 4, pos := "more.go:35", after := #[{ on := 25, ground := Ground.data }, { on := 26, ground := Ground.data }, { on := 24, ground := Ground.chain }, { on := 24, ground := Ground.guard }], guard := some (24, false) }
abbrev o28 : Oper := { dst := some 47, op := Op.pick (Operand.tmp 43) (Operand.const (Value.bool true)) (Operand.tmp 46), type := 4, pos := "more.go:35", after := #[{ on := 24, ground := Ground.data }, { on := 27, ground := Ground.data }, { on := 15, ground := Ground.guard }], guard := some (15, true) }
abbrev o29 : Oper := { dst := some 48, op := Op.pick (Operand.tmp 34) (Operand.tmp 47) (Operand.const (Value.bool false)), type := 4, pos := "more.go:35", after := #[{ on := 15, ground := Ground.data }, { on := 28, ground := Ground.data }], guard := none }
abbrev o30 : Oper := { dst := some 49, op := Op.move (Operand.tmp 48), type := 4, pos := "more.go:35", after := #[{ on := 29, ground := Ground.data }, { on := 27, ground := Ground.chain }], guard := none }
abbrev o31 : Oper := { dst := some 50, op := Op.fieldAddr 38 (Operand.tmp 3) 0, type := 0, pos := "more.go:35", after := #[{ on := 30, ground := Ground.guard }], guard := some (30, true) }
abbrev o32 : Oper := { dst := some 51, op := Op.load 4 (Operand.tmp 50), type := 4, pos := "more.go:35", after := #[{ on := 31, ground := Ground.data }, { on := 30, ground := Ground.guard }], guard := some (30, true) }
abbrev o33 : Oper := { dst := some 52, op := Op.move (Operand.tmp 51), type := 4, pos := "more.go:35", after := #[{ on := 32, ground := Ground.data }, { on := 30, ground := Ground.chain }, { on := 30, ground := Ground.guard }], guard := some (30, true) }
abbrev o34 : Oper := { dst := some 53, op := Op.fieldAddr 38 (Operand.tmp 4) 0, type := 0, pos := "more.go:35", after := #[{ on := 33, ground := Ground.guard }], guard := some (33, false) }
abbrev o35 : Oper := { dst := some 54, op := Op.load 4 (Operand.tmp 53), type := 4, pos := "more.go:35", after := #[{ on := 34, ground := Ground.data }, { on := 33, ground := Ground.guard }], guard := some (33, false) }
abbrev o36 : Oper := { dst := some 55, op := Op.unOp UnOp.not 4 (Operand.tmp 54), type := 4, pos := "more.go:35", after := #[{ on := 35, ground := Ground.data }, { on := 33, ground := Ground.guard }], guard := some (33, false) }
abbrev o37 : Oper := { dst := some 56, op := Op.pick (Operand.tmp 52) (Operand.const (Value.bool true)) (Operand.tmp 55), type := 4, pos := "more.go:35", after := #[{ on := 33, ground := Ground.data }, { on := 36, ground := Ground.data }, { on := 30, ground := Ground.guard }], guard := some (30, true) }
abbrev o38 : Oper := { dst := some 57, op := Op.move (Operand.tmp 56), type := 4, pos := "more.go:35", after := #[{ on := 37, ground := Ground.data }, { on := 33, ground := Ground.chain }, { on := 30, ground := Ground.guard }], guard := some (30, true) }
abbrev o39 : Oper := { dst := some 58, op := Op.move (Operand.tmp 8), type := 4, pos := "more.go:35", after := #[{ on := 38, ground := Ground.guard }], guard := some (38, false) }
abbrev o40 : Oper := { dst := some 59, op := Op.pick (Operand.tmp 57) (Operand.const (Value.bool true)) (Operand.tmp 58), type := 4, pos := "more.go:35", after := #[{ on := 38, ground := Ground.data }, { on := 39, ground := Ground.data }, { on := 30, ground := Ground.guard }], guard := some (30, true) }
abbrev o41 : Oper := { dst := some 60, op := Op.pick (Operand.tmp 49) (Operand.tmp 59) (Operand.const (Value.bool false)), type := 4, pos := "more.go:35", after := #[{ on := 30, ground := Ground.data }, { on := 40, ground := Ground.data }], guard := none }
abbrev o42 : Oper := { dst := some 61, op := Op.move (Operand.tmp 60), type := 4, pos := "more.go:35", after := #[{ on := 41, ground := Ground.data }, { on := 38, ground := Ground.chain }], guard := none }
abbrev o43 : Oper := { dst := some 62, op := Op.load 38 (Operand.tmp 3), type := 38, pos := "more.go:35", after := #[{ on := 42, ground := Ground.guard }], guard := some (42, true) }
abbrev o44 : Oper := { dst := some 63, op := Op.call { callee := Callee.value (Operand.func 38), args := #[Operand.tmp 62], argTypes := #[38] }, type := 9, pos := "more.go:35", after := #[{ on := 43, ground := Ground.data }, { on := 42, ground := Ground.chain }, { on := 42, ground := Ground.guard }], guard := some (42, true) }
abbrev o45 : Oper := { dst := some 64, op := Op.load 38 (Operand.tmp 4), type := 38, pos := "more.go:35", after := #[{ on := 42, ground := Ground.guard }], guard := some (42, true) }
abbrev o46 : Oper := { dst := some 65, op := Op.call { callee := Callee.value (Operand.func 38), args := #[Operand.tmp 64], argTypes := #[38] }, type := 9, pos := "more.go:35", after := #[{ on := 45, ground := Ground.data }, { on := 44, ground := Ground.chain }, { on := 42, ground := Ground.guard }], guard := some (42, true) }
abbrev o47 : Oper := { dst := some 66, op := Op.binOp BinOp.eql 9 (Operand.tmp 63) (Operand.tmp 65) 9, type := 4, pos := "more.go:35", after := #[{ on := 44, ground := Ground.data }, { on := 46, ground := Ground.data }, { on := 42, ground := Ground.guard }], guard := some (42, true) }
abbrev o48 : Oper := { dst := some 67, op := Op.load 38 (Operand.tmp 3), type := 38, pos := "more.go:35", after := #[{ on := 42, ground := Ground.guard }], guard := some (42, true) }
abbrev o49 : Oper := { dst := some 68, op := Op.load 38 (Operand.tmp 4), type := 38, pos := "more.go:35", after := #[{ on := 42, ground := Ground.guard }], guard := some (42, true) }
abbrev o50 : Oper := { dst := some 69, op := Op.binOp BinOp.eql 38 (Operand.tmp 67) (Operand.tmp 68) 38, type := 4, pos := "more.go:35", after := #[{ on := 48, ground := Ground.data }, { on := 49, ground := Ground.data }, { on := 42, ground := Ground.guard }], guard := some (42, true) }
abbrev o51 : Oper := { dst := some 70, op := Op.move (Operand.tmp 69), type := 4, pos := "more.go:35", after := #[{ on := 50, ground := Ground.data }, { on := 46, ground := Ground.chain }, { on := 42, ground := Ground.guard }], guard := some (42, true) }
abbrev o52 : Oper := { dst := some 71, op := Op.fieldAddr 38 (Operand.tmp 3) 1, type := 0, pos := "more.go:35", after := #[{ on := 51, ground := Ground.guard }], guard := some (51, false) }
abbrev o53 : Oper := { dst := some 72, op := Op.load 9 (Operand.tmp 71), type := 9, pos := "more.go:35", after := #[{ on := 52, ground := Ground.data }, { on := 51, ground := Ground.guard }], guard := some (51, false) }
abbrev o54 : Oper := { dst := some 73, op := Op.fieldAddr 38 (Operand.tmp 4) 1, type := 0, pos := "more.go:35", after := #[{ on := 51, ground := Ground.guard }], guard := some (51, false) }
abbrev o55 : Oper := { dst := some 74, op := Op.load 9 (Operand.tmp 73), type := 9, pos := "more.go:35", after := #[{ on := 54, ground := Ground.data }, { on := 51, ground := Ground.guard }], guard := some (51, false) }
abbrev o56 : Oper := { dst := some 75, op := Op.binOp BinOp.add 9 (Operand.const (Value.string { data := #[58] })) (Operand.tmp 74) 9, type := 9, pos := "more.go:35", after := #[{ on := 55, ground := Ground.data }, { on := 51, ground := Ground.guard }], guard := some (51, false) }
abbrev o57 : Oper := { dst := some 76, op := Op.binOp BinOp.eql 9 (Operand.tmp 72) (Operand.tmp 75) 9, type := 4, pos := "more.go:35", after := #[{ on := 53, ground := Ground.data }, { on := 56, ground := Ground.data }, { on := 51, ground := Ground.guard }], guard := some (51, false) }
abbrev o58 : Oper := { dst := some 77, op := Op.move (Operand.tmp 76), type := 4, pos := "more.go:35", after := #[{ on := 57, ground := Ground.data }, { on := 51, ground := Ground.chain }, { on := 51, ground := Ground.guard }], guard := some (51, false) }
abbrev o59 : Oper := { dst := some 78, op := Op.fieldAddr 38 (Operand.tmp 4) 0, type := 0, pos := "more.go:35", after := #[{ on := 58, ground := Ground.guard }], guard := some (58, true) }
abbrev o60 : Oper := { dst := some 79, op := Op.load 4 (Operand.tmp 78), type := 4, pos := "more.go:35", after := #[{ on := 59, ground := Ground.data }, { on := 58, ground := Ground.guard }], guard := some (58, true) }
abbrev o61 : Oper := { dst := some 80, op := Op.pick (Operand.tmp 77) (Operand.tmp 79) (Operand.const (Value.bool false)), type := 4, pos := "more.go:35", after := #[{ on := 58, ground := Ground.data }, { on := 60, ground := Ground.data }, { on := 51, ground := Ground.guard }], guard := some (51, false) }
abbrev o62 : Oper := { dst := some 81, op := Op.move (Operand.tmp 80), type := 4, pos := "more.go:35", after := #[{ on := 61, ground := Ground.data }, { on := 58, ground := Ground.chain }, { on := 51, ground := Ground.guard }], guard := some (51, false) }
abbrev o63 : Oper := { dst := some 82, op := Op.fieldAddr 38 (Operand.tmp 3) 0, type := 0, pos := "more.go:35", after := #[{ on := 62, ground := Ground.guard }], guard := some (62, true) }
abbrev o64 : Oper := { dst := some 83, op := Op.load 4 (Operand.tmp 82), type := 4, pos := "more.go:35", after := #[{ on := 63, ground := Ground.data }, { on := 62, ground := Ground.guard }], guard := some (62, true) }
abbrev o65 : Oper := { dst := some 84, op := Op.unOp UnOp.not 4 (Operand.tmp 83), type := 4, pos := "more.go:35", after := #[{ on := 64, ground := Ground.data }, { on := 62, ground := Ground.guard }], guard := some (62, true) }
abbrev o66 : Oper := { dst := some 85, op := Op.pick (Operand.tmp 81) (Operand.tmp 84) (Operand.const (Value.bool false)), type := 4, pos := "more.go:35", after := #[{ on := 62, ground := Ground.data }, { on := 65, ground := Ground.data }, { on := 51, ground := Ground.guard }], guard := some (51, false) }
abbrev o67 : Oper := { dst := some 86, op := Op.pick (Operand.tmp 70) (Operand.const (Value.bool true)) (Operand.tmp 85), type := 4, pos := "more.go:35", after := #[{ on := 51, ground := Ground.data }, { on := 66, ground := Ground.data }, { on := 42, ground := Ground.guard }], guard := some (42, true) }
abbrev o68 : Oper := { dst := some 87, op := Op.move (Operand.tmp 86), type := 4, pos := "more.go:35", after := #[{ on := 67, ground := Ground.data }, { on := 62, ground := Ground.chain }, { on := 42, ground := Ground.guard }], guard := some (42, true) }
abbrev o69 : Oper := { dst := some 88, op := Op.fieldAddr 38 (Operand.tmp 4) 1, type := 0, pos := "more.go:35", after := #[{ on := 68, ground := Ground.guard }], guard := some (68, false) }
abbrev o70 : Oper := { dst := some 89, op := Op.load 9 (Operand.tmp 88), type := 9, pos := "more.go:35", after := #[{ on := 69, ground := Ground.data }, { on := 68, ground := Ground.guard }], guard := some (68, false) }
abbrev o71 : Oper := { dst := some 90, op := Op.fieldAddr 38 (Operand.tmp 3) 1, type := 0, pos := "more.go:35", after := #[{ on := 68, ground := Ground.guard }], guard := some (68, false) }
abbrev o72 : Oper := { dst := some 91, op := Op.load 9 (Operand.tmp 90), type := 9, pos := "more.go:35", after := #[{ on := 71, ground := Ground.data }, { on := 68, ground := Ground.guard }], guard := some (68, false) }
abbrev o73 : Oper := { dst := some 92, op := Op.binOp BinOp.add 9 (Operand.const (Value.string { data := #[58] })) (Operand.tmp 91) 9, type := 9, pos := "more.go:35", after := #[{ on := 72, ground := Ground.data }, { on := 68, ground := Ground.guard }], guard := some (68, false) }
abbrev o74 : Oper := { dst := some 93, op := Op.binOp BinOp.eql 9 (Operand.tmp 89) (Operand.tmp 92) 9, type := 4, pos := "more.go:35", after := #[{ on := 70, ground := Ground.data }, { on := 73, ground := Ground.data }, { on := 68, ground := Ground.guard }], guard := some (68, false) }
abbrev o75 : Oper := { dst := some 94, op := Op.move (Operand.tmp 93), type := 4, pos := "more.go:35", after := #[{ on := 74, ground := Ground.data }, { on := 68, ground := Ground.chain }, { on := 68, ground := Ground.guard }], guard := some (68, false) }
abbrev o76 : Oper := { dst := some 95, op := Op.fieldAddr 38 (Operand.tmp 3) 0, type := 0, pos := "more.go:35", after := #[{ on := 75, ground := Ground.guard }], guard := some (75, true) }
abbrev o77 : Oper := { dst := some 96, op := Op.load 4 (Operand.tmp 95), type := 4, pos := "more.go:35", after := #[{ on := 76, ground := Ground.data }, { on := 75, ground := Ground.guard }], guard := some (75, true) }
abbrev o78 : Oper := { dst := some 97, op := Op.pick (Operand.tmp 94) (Operand.tmp 96) (Operand.const (Value.bool false)), type := 4, pos := "more.go:35", after := #[{ on := 75, ground := Ground.data }, { on := 77, ground := Ground.data }, { on := 68, ground := Ground.guard }], guard := some (68, false) }
abbrev o79 : Oper := { dst := some 98, op := Op.move (Operand.tmp 97), type := 4, pos := "more.go:35", after := #[{ on := 78, ground := Ground.data }, { on := 75, ground := Ground.chain }, { on := 68, ground := Ground.guard }], guard := some (68, false) }
abbrev o80 : Oper := { dst := some 99, op := Op.fieldAddr 38 (Operand.tmp 4) 0, type := 0, pos := "more.go:35", after := #[{ on := 79, ground := Ground.guard }], guard := some (79, true) }
abbrev o81 : Oper := { dst := some 100, op := Op.load 4 (Operand.tmp 99), type := 4, pos := "more.go:35", after := #[{ on := 80, ground := Ground.data }, { on := 79, ground := Ground.guard }], guard := some (79, true) }
abbrev o82 : Oper := { dst := some 101, op := Op.unOp UnOp.not 4 (Operand.tmp 100), type := 4, pos := "more.go:35", after := #[{ on := 81, ground := Ground.data }, { on := 79, ground := Ground.guard }], guard := some (79, true) }
abbrev o83 : Oper := { dst := some 102, op := Op.pick (Operand.tmp 98) (Operand.tmp 101) (Operand.const (Value.bool false)), type := 4, pos := "more.go:35", after := #[{ on := 79, ground := Ground.data }, { on := 82, ground := Ground.data }, { on := 68, ground := Ground.guard }], guard := some (68, false) }
abbrev o84 : Oper := { dst := some 103, op := Op.pick (Operand.tmp 87) (Operand.const (Value.bool true)) (Operand.tmp 102), type := 4, pos := "more.go:35", after := #[{ on := 68, ground := Ground.data }, { on := 83, ground := Ground.data }, { on := 42, ground := Ground.guard }], guard := some (42, true) }
abbrev o85 : Oper := { dst := some 104, op := Op.binOp BinOp.eql 4 (Operand.tmp 66) (Operand.tmp 103) 4, type := 4, pos := "more.go:35", after := #[{ on := 47, ground := Ground.data }, { on := 84, ground := Ground.data }, { on := 42, ground := Ground.guard }], guard := some (42, true) }
abbrev o86 : Oper := { dst := some 105, op := Op.pick (Operand.tmp 61) (Operand.tmp 104) (Operand.const (Value.bool false)), type := 4, pos := "more.go:35", after := #[{ on := 42, ground := Ground.data }, { on := 85, ground := Ground.data }], guard := none }
abbrev o87 : Oper := { dst := some 6, op := Op.assign (Operand.tmp 105), type := 4, pos := "more.go:35", after := #[{ on := 86, ground := Ground.data }, { on := 79, ground := Ground.chain }, { on := 0, ground := Ground.phase }, { on := 1, ground := Ground.phase }, { on := 2, ground := Ground.phase }, { on := 3, ground := Ground.phase }, { on := 4, ground := Ground.phase }, { on := 5, ground := Ground.phase }, { on := 6, ground := Ground.phase }, { on := 7, ground := Ground.phase }, { on := 8, ground := Ground.phase }, { on := 9, ground := Ground.phase }, { on := 10, ground := Ground.phase }, { on := 11, ground := Ground.phase }, { on := 12, ground := Ground.phase }, { on := 13, ground := Ground.phase }, { on := 14, ground := Ground.phase }, { on := 15, ground := Ground.phase }, { on := 16, ground := Ground.phase }, { on := 17, ground := Ground.phase }, { on := 18, ground := Ground.phase }, { on := 19, ground := Ground.phase }, { on := 20, ground := Ground.phase }, { on := 21, ground := Ground.phase }, { on := 22, ground := Ground.phase }, { on := 23, ground := Ground.phase }, { on := 24, ground := Ground.phase }, { on := 25, ground := Ground.phase }, { on := 26, ground := Ground.phase }, { on := 27, ground := Ground.phase }, { on := 28, ground := Ground.phase }, { on := 29, ground := Ground.phase }, { on := 30, ground := Ground.phase }, { on := 31, ground := Ground.phase }, { on := 32, ground := Ground.phase }, { on := 33, ground := Ground.phase }, { on := 34, ground := Ground.phase }, { on := 35, ground := Ground.phase }, { on := 36, ground := Ground.phase }, { on := 37, ground := Ground.phase }, { on := 38, ground := Ground.phase }, { on := 39, ground := Ground.phase }, { on := 40, ground := Ground.phase }, { on := 41, ground := Ground.phase }, { on := 42, ground := Ground.phase }, { on := 43, ground := Ground.phase }, { on := 44, ground := Ground.phase }, { on := 45, ground := Ground.phase }, { on := 46, ground := Ground.phase }, { on := 47, ground := Ground.phase }, { on := 48, ground := Ground.phase }, { on := 49, ground := Ground.phase }, { on := 50, ground := Ground.phase }, { on := 51, ground := Ground.phase }, { on := 52, ground := Ground.phase }, { on := 53, ground := Ground.phase }, { on := 54, ground := Ground.phase }, { on := 55, ground := Ground.phase }, { on := 56, ground := Ground.phase }, { on := 57, ground := Ground.phase }, { on := 58, ground := Ground.phase }, { on := 59, ground := Ground.phase }, { on := 60, ground := Ground.phase }, { on := 61, ground := Ground.phase }, { on := 62, ground := Ground.phase }, { on := 63, ground := Ground.phase }, { on := 64, ground := Ground.phase }, { on := 65, ground := Ground.phase }, { on := 66, ground := Ground.phase }, { on := 67, ground := Ground.phase }, { on := 68, ground := Ground.phase }, { on := 69, ground := Ground.phase }, { on := 70, ground := Ground.phase }, { on := 71, ground := Ground.phase }, { on := 72, ground := Ground.phase }, { on := 73, ground := Ground.phase }, { on := 74, ground := Ground.phase }, { on := 75, ground := Ground.phase }, { on := 76, ground := Ground.phase }, { on := 77, ground := Ground.phase }, { on := 78, ground := Ground.phase }, { on := 79, ground := Ground.phase }, { on := 80, ground := Ground.phase }, { on := 81, ground := Ground.phase }, { on := 82, ground := Ground.phase }, { on := 83, ground := Ground.phase }, { on := 84, ground := Ground.phase }, { on := 85, ground := Ground.phase }, { on := 86, ground := Ground.phase }], guard := none }
def O : Array Oper := #[o0, o1, o2, o3, o4, o5, o6, o7, o8, o9, o10, o11, o12, o13, o14, o15, o16, o17, o18, o19, o20, o21, o22, o23, o24, o25, o26, o27, o28, o29, o30, o31, o32, o33, o34, o35, o36, o37, o38, o39, o40, o41, o42, o43, o44, o45, o46, o47, o48, o49, o50, o51, o52, o53, o54, o55, o56, o57, o58, o59, o60, o61, o62, o63, o64, o65, o66, o67, o68, o69, o70, o71, o72, o73, o74, o75, o76, o77, o78, o79, o80, o81, o82, o83, o84, o85, o86, o87]
abbrev ls3 : Array Bool := (((((((((((((((((((((((((((((((((((((((((((((((((((((((((((((((((((Array.replicate 88 false).setIfInBounds 0 true).setIfInBounds 1 true).setIfInBounds 2 true).setIfInBounds 3 true).setIfInBounds 4 true).setIfInBounds 5 true).setIfInBounds 6 true).setIfInBounds 7 true).setIfInBounds 8 true).setIfInBounds 9 true).setIfInBounds 10 true).setIfInBounds 11 true).setIfInBounds 12 true).setIfInBounds 13 true).setIfInBounds 14 true).setIfInBounds 15 true).setIfInBounds 16 true).setIfInBounds 17 true).setIfInBounds 18 true).setIfInBounds 19 true).setIfInBounds 20 true).setIfInBounds 21 true).setIfInBounds 22 true).setIfInBounds 23 true).setIfInBounds 24 true).setIfInBounds 25 true).setIfInBounds 26 true).setIfInBounds 27 true).setIfInBounds 28 true).setIfInBounds 29 true).setIfInBounds 30 true).setIfInBounds 31 true).setIfInBounds 32 true).setIfInBounds 33 true).setIfInBounds 34 true).setIfInBounds 35 true).setIfInBounds 36 true).setIfInBounds 37 true).setIfInBounds 38 true).setIfInBounds 39 true).setIfInBounds 40 true).setIfInBounds 41 true).setIfInBounds 42 true).setIfInBounds 43 true).setIfInBounds 45 true).setIfInBounds 48 true).setIfInBounds 49 true).setIfInBounds 50 true).setIfInBounds 44 true).setIfInBounds 46 true).setIfInBounds 47 true).setIfInBounds 51 true).setIfInBounds 52 true).setIfInBounds 53 true).setIfInBounds 54 true).setIfInBounds 55 true).setIfInBounds 56 true).setIfInBounds 57 true).setIfInBounds 58 true).setIfInBounds 59 true).setIfInBounds 60 true).setIfInBounds 61 true).setIfInBounds 62 true).setIfInBounds 63 true).setIfInBounds 64 true).setIfInBounds 65 true)
theorem r5p3
  {A B : Nat} {w1 w : World} {Q : Exit → Act → World → Prop} (hP : ∀ c (a : Act) d v w, Q (.panic c) (a.put d v) w → Q (.panic c) a w) {x y z n e en e1 e2 g5 h7 g15 h18 h24 g30 h33 h38 g42 h51 h58 h62 h68 h75 h79 k3 k9 k13 k14 k23 k28 k29 k37 k40 k41 k61 k66 k67 k78 k83 k84 k85 k86 p q u : Bool} {s t v : ByteArray} {v0 v1 v2 v7 v10 v11 v12 v13 v14 v15 v16 v17 v18 : Value}
  (_Hk3 : Hid (k3 = (x && y)))
  (_Hg5 : Hid (g5 = (!k3)))
  (_Hh7 : Hid (h7 = x))
  (_Hk9 : Hid (k9 = (h7 || y)))
  (_Hk13 : Hid (k13 = (k9 == (!e))))
  (_Hk14 : Hid (k14 = (g5 && k13)))
  (_Hg15 : Hid (g15 = k14))
  (_Hh18 : Hid (h18 = (!x)))
  (_Hk23 : Hid (k23 = (h18 || (!z))))
  (_Hh24 : Hid (h24 = k23))
  (_Hk28 : Hid (k28 = (h24 || n)))
  (_Hk29 : Hid (k29 = (g15 && k28)))
  (_Hg30 : Hid (g30 = k29))
  (_Hh33 : Hid (h33 = p))
  (_Hk37 : Hid (k37 = (h33 || (!q))))
  (_Hh38 : Hid (h38 = k37))
  (_Hk40 : Hid (k40 = (h38 || x)))
  (_Hk41 : Hid (k41 = (g30 && k40)))
  (_Hg42 : Hid (g42 = k41))
  (_Hh51 : Hid (h51 = e))
  (_Hh58 : Hid (h58 = e1))
  (_Hk61 : Hid (k61 = (h58 && q)))
  (_Hh62 : Hid (h62 = k61))
  (Hk66 : Hid (k66 = (h62 && (!p))))
  (Hk67 : Hid (k67 = (h51 || k66)))
  (Hh68 : Hid (h68 = k67))
  (Hh75 : Hid (h75 = e2))
  (Hk78 : Hid (k78 = (h75 && p)))
  (Hh79 : Hid (h79 = k78))
  (Hk83 : Hid (k83 = (h79 && (!q))))
  (Hk84 : Hid (k84 = (h68 || k83)))
  (Hk85 : Hid (k85 = (en == k84)))
  (Hk86 : Hid (k86 = (g42 && k85)))
  (HX : Hid (∀ V, Below B w1 V → V.cell? { block := A, off := 0 } = some (.bool p) ∧ V.cell? { block := A, off := 1 } = some (.string s) ∧ V.cell? { block := A + 1, off := 0 } = some (.bool q) ∧ V.cell? { block := A + 1, off := 1 } = some (.string t) ∧ V.cell? { block := A + 1 + 1, off := 0 } = some (.bool u) ∧ V.cell? { block := A + 1 + 1, off := 1 } = some (.string v)))
  (_C21 : Hid (∀ V, Below B w1 V → Calls Tryz.prog 37 #[.agg #[.bool q, .string t], .agg #[.bool u, .string v]] V fun e w' => e = .returned (.bool z) ∧ Below B w1 w'))
  (_C27 : Hid (∀ V, Below B w1 V → Calls Tryz.prog 37 #[.agg #[.bool p, .string s], .agg #[.bool u, .string v]] V fun e w' => e = .returned (.bool n) ∧ Below B w1 w'))
  (_C44 : Hid (∀ V, Below B w1 V → Calls Tryz.prog 38 #[.agg #[.bool p, .string s]] V fun e w' => e = .returned (.string (nmL (p, s))) ∧ Below B w1 w'))
  (_C46 : Hid (∀ V, Below B w1 V → Calls Tryz.prog 38 #[.agg #[.bool q, .string t]] V fun e w' => e = .returned (.string (nmL (q, t))) ∧ Below B w1 w'))
  (_He : Hid (e = (decide (p = q) && decide (s.toList = t.toList)))) (_Hen : Hid (en = decide ((nmL (p, s)).toList = (nmL (q, t)).toList))) (_He1 : Hid (e1 = decide (s.toList = (ByteArray.mk #[58] ++ t).toList))) (He2 : Hid (e2 = decide (t.toList = (ByteArray.mk #[58] ++ s).toList)))
  (hs : Hid (s.size ≤ 1048576)) (ht : Hid (t.size ≤ 1048576)) (hHeld : Below B w1 w)
  (hQ : ∀ tm W, Below B w1 W → tm[6]? = some (.bool k86) → tm.size = 106 → Q .normal ⟨tm, []⟩ W) :
  wpAnyH Tryz.prog .any O Q (fun V => Below B w1 V) 22 ls3 ⟨#[v0, v1, v2, (.pointer (some { block := A, off := 0 })), (.pointer (some { block := A + 1, off := 0 })), (.pointer (some { block := A + 1 + 1, off := 0 })), (.bool false), v7, (.bool x), (.bool y), v10, v11, v12, v13, v14, v15, v16, v17, v18, (.bool x), (.bool x), (cond (x) (.bool y) undef), (.bool k3), (.bool (!k3)), (.bool g5), (cond (g5) (.bool x) undef), (cond (g5) (.bool h7) undef), (cond (g5 && !h7) (.bool y) undef), (cond (g5) (.bool k9) undef), (cond (g5) (.agg #[.bool p, .string s]) undef), (cond (g5) (.agg #[.bool q, .string t]) undef), (cond (g5) (.bool (!e)) undef), (cond (g5) (.bool k13) undef), (.bool k14), (.bool g15), (cond (g15) (.bool x) undef), (cond (g15) (.bool (!x)) undef), (cond (g15) (.bool h18) undef), (cond (g15 && !h18) (.agg #[.bool q, .string t]) undef), (cond (g15 && !h18) (.agg #[.bool u, .string v]) undef), (cond (g15 && !h18) (.bool z) undef), (cond (g15 && !h18) (.bool (!z)) undef), (cond (g15) (.bool k23) undef), (cond (g15) (.bool h24) undef), (cond (g15 && !h24) (.agg #[.bool p, .string s]) undef), (cond (g15 && !h24) (.agg #[.bool u, .string v]) undef), (cond (g15 && !h24) (.bool n) undef), (cond (g15) (.bool k28) undef), (.bool k29), (.bool g30), (cond (g30) (.pointer (some { block := A, off := 0 })) undef), (cond (g30) (.bool p) undef), (cond (g30) (.bool h33) undef), (cond (g30 && !h33) (.pointer (some { block := A + 1, off := 0 })) undef), (cond (g30 && !h33) (.bool q) undef), (cond (g30 && !h33) (.bool (!q)) undef), (cond (g30) (.bool k37) undef), (cond (g30) (.bool h38) undef), (cond (g30 && !h38) (.bool x) undef), (cond (g30) (.bool k40) undef), (.bool k41), (.bool g42), (cond (g42) (.agg #[.bool p, .string s]) undef), (cond (g42) (.string (nmL (p, s))) undef), (cond (g42) (.agg #[.bool q, .string t]) undef), (cond (g42) (.string (nmL (q, t))) undef), (cond (g42) (.bool en) undef), (cond (g42) (.agg #[.bool p, .string s]) undef), (cond (g42) (.agg #[.bool q, .string t]) undef), (cond (g42) (.bool e) undef), (cond (g42) (.bool h51) undef), (cond (g42 && !h51) (.pointer (some { block := A, off := 1 })) undef), (cond (g42 && !h51) (.string s) undef), (cond (g42 && !h51) (.pointer (some { block := A + 1, off := 1 })) undef), (cond (g42 && !h51) (.string t) undef), (cond (g42 && !h51) (.string (ByteArray.mk #[58] ++ t)) undef), (cond (g42 && !h51) (.bool e1) undef), (cond (g42 && !h51) (.bool h58) undef), (cond ((g42 && !h51) && h58) (.pointer (some { block := A + 1, off := 0 })) undef), (cond ((g42 && !h51) && h58) (.bool q) undef), (cond (g42 && !h51) (.bool k61) undef), (cond (g42 && !h51) (.bool h62) undef), (cond ((g42 && !h51) && h62) (.pointer (some { block := A, off := 0 })) undef), (cond ((g42 && !h51) && h62) (.bool p) undef), (cond ((g42 && !h51) && h62) (.bool (!p)) undef), undef, undef, undef, undef, undef, undef, undef, undef, undef, undef, undef, undef, undef, undef, undef, undef, undef, undef, undef, undef, undef], []⟩ w := by
 refine wpAnyH_take (i := 66) (oi := o66) (v := (cond (g42 && !h51) (.bool k66) undef)) (by kernel_rfl) (by kernel_rfl) (by kernel_rfl) (by kernel_rfl) (by exact fun _ _ _ h => hP _ _ _ _ _ h) ?_ (by assumption) ?_
 ·rw [show k66 = (h62 && (!p)) from Hk66.out]; cases g42 <;> cases h51 <;> cases h62 <;> first | exact Or.inr ⟨rfl, rfl⟩ | (refine Or.inl ⟨rfl, ?_⟩; intro w hSw; obtain ⟨p0, p1, p2, p3, p4, p5⟩ := HX.out _ hSw; dsimp only [o66, cond_true, cond_false, Bool.true_and, Bool.false_and, Bool.and_true, Bool.and_false, Bool.not_true, Bool.not_false]; go_simp; try with_reducible rfl)
 simp only [Act.put, List.setIfInBounds_toArray, List.set_cons_zero, List.set_cons_succ]
 refine wpAnyH_take (i := 67) (oi := o67) (v := (cond (g42) (.bool k67) undef)) (by kernel_rfl) (by kernel_rfl) (by kernel_rfl) (by kernel_rfl) (by exact fun _ _ _ h => hP _ _ _ _ _ h) ?_ (by assumption) ?_
 ·rw [show k67 = (h51 || k66) from Hk67.out]; cases g42 <;> cases h51 <;> first | exact Or.inr ⟨rfl, rfl⟩ | (refine Or.inl ⟨rfl, ?_⟩; intro w hSw; obtain ⟨p0, p1, p2, p3, p4, p5⟩ := HX.out _ hSw; dsimp only [o67, cond_true, cond_false, Bool.true_and, Bool.false_and, Bool.and_true, Bool.and_false, Bool.not_true, Bool.not_false]; go_simp; try with_reducible rfl)
 simp only [Act.put, List.setIfInBounds_toArray, List.set_cons_zero, List.set_cons_succ]
 refine wpAnyH_take (i := 68) (oi := o68) (v := (cond (g42) (.bool h68) undef)) (by kernel_rfl) (by kernel_rfl) (by kernel_rfl) (by kernel_rfl) (by exact fun _ _ _ h => hP _ _ _ _ _ h) ?_ (by assumption) ?_
 ·rw [show h68 = k67 from Hh68.out]; cases g42 <;> first | exact Or.inr ⟨rfl, rfl⟩ | (refine Or.inl ⟨rfl, ?_⟩; intro w hSw; obtain ⟨p0, p1, p2, p3, p4, p5⟩ := HX.out _ hSw; dsimp only [o68, cond_true, cond_false, Bool.true_and, Bool.false_and, Bool.and_true, Bool.and_false, Bool.not_true, Bool.not_false]; go_simp; try with_reducible rfl)
 simp only [Act.put, List.setIfInBounds_toArray, List.set_cons_zero, List.set_cons_succ]
 refine wpAnyH_take (i := 69) (oi := o69) (v := (cond (g42 && !h68) (.pointer (some { block := A + 1, off := 1 })) undef)) (by kernel_rfl) (by kernel_rfl) (by kernel_rfl) (by kernel_rfl) (by exact fun _ _ _ h => hP _ _ _ _ _ h) ?_ (by assumption) ?_
 ·cases g42 <;> cases h68 <;> first | exact Or.inr ⟨rfl, rfl⟩ | (refine Or.inl ⟨rfl, ?_⟩; intro w hSw; obtain ⟨p0, p1, p2, p3, p4, p5⟩ := HX.out _ hSw; dsimp only [o69, cond_true, cond_false, Bool.true_and, Bool.false_and, Bool.and_true, Bool.and_false, Bool.not_true, Bool.not_false]; go_simp; try with_reducible rfl)
 simp only [Act.put, List.setIfInBounds_toArray, List.set_cons_zero, List.set_cons_succ]
 refine wpAnyH_take (i := 70) (oi := o70) (v := (cond (g42 && !h68) (.string t) undef)) (by kernel_rfl) (by kernel_rfl) (by kernel_rfl) (by kernel_rfl) (by exact fun _ _ _ h => hP _ _ _ _ _ h) ?_ (by assumption) ?_
 ·cases g42 <;> cases h68 <;> first | exact Or.inr ⟨rfl, rfl⟩ | (refine Or.inl ⟨rfl, ?_⟩; intro w hSw; obtain ⟨p0, p1, p2, p3, p4, p5⟩ := HX.out _ hSw; dsimp only [o70, cond_true, cond_false, Bool.true_and, Bool.false_and, Bool.and_true, Bool.and_false, Bool.not_true, Bool.not_false]; go_simp; try with_reducible rfl)
 simp only [Act.put, List.setIfInBounds_toArray, List.set_cons_zero, List.set_cons_succ]
 refine wpAnyH_take (i := 71) (oi := o71) (v := (cond (g42 && !h68) (.pointer (some { block := A, off := 1 })) undef)) (by kernel_rfl) (by kernel_rfl) (by kernel_rfl) (by kernel_rfl) (by exact fun _ _ _ h => hP _ _ _ _ _ h) ?_ (by assumption) ?_
 ·cases g42 <;> cases h68 <;> first | exact Or.inr ⟨rfl, rfl⟩ | (refine Or.inl ⟨rfl, ?_⟩; intro w hSw; obtain ⟨p0, p1, p2, p3, p4, p5⟩ := HX.out _ hSw; dsimp only [o71, cond_true, cond_false, Bool.true_and, Bool.false_and, Bool.and_true, Bool.and_false, Bool.not_true, Bool.not_false]; go_simp; try with_reducible rfl)
 simp only [Act.put, List.setIfInBounds_toArray, List.set_cons_zero, List.set_cons_succ]
 refine wpAnyH_take (i := 72) (oi := o72) (v := (cond (g42 && !h68) (.string s) undef)) (by kernel_rfl) (by kernel_rfl) (by kernel_rfl) (by kernel_rfl) (by exact fun _ _ _ h => hP _ _ _ _ _ h) ?_ (by assumption) ?_
 ·cases g42 <;> cases h68 <;> first | exact Or.inr ⟨rfl, rfl⟩ | (refine Or.inl ⟨rfl, ?_⟩; intro w hSw; obtain ⟨p0, p1, p2, p3, p4, p5⟩ := HX.out _ hSw; dsimp only [o72, cond_true, cond_false, Bool.true_and, Bool.false_and, Bool.and_true, Bool.and_false, Bool.not_true, Bool.not_false]; go_simp; try with_reducible rfl)
 simp only [Act.put, List.setIfInBounds_toArray, List.set_cons_zero, List.set_cons_succ]
 refine wpAnyH_take (i := 73) (oi := o73) (v := (cond (g42 && !h68) (.string (ByteArray.mk #[58] ++ s)) undef)) (by kernel_rfl) (by kernel_rfl) (by kernel_rfl) (by kernel_rfl) (by exact fun _ _ _ h => hP _ _ _ _ _ h) ?_ (by assumption) ?_
 ·have hs' := hs.out; have ht' := ht.out; cases g42 <;> cases h68 <;> first | exact Or.inr ⟨rfl, rfl⟩ | (refine Or.inl ⟨rfl, ?_⟩; intro w hSw; obtain ⟨p0, p1, p2, p3, p4, p5⟩ := HX.out _ hSw; dsimp only [o73, cond_true, cond_false, Bool.true_and, Bool.false_and, Bool.and_true, Bool.and_false, Bool.not_true, Bool.not_false]; go_simp; first | with_reducible rfl | omega)
 simp only [Act.put, List.setIfInBounds_toArray, List.set_cons_zero, List.set_cons_succ]
 refine wpAnyH_take (i := 74) (oi := o74) (v := (cond (g42 && !h68) (.bool e2) undef)) (by kernel_rfl) (by kernel_rfl) (by kernel_rfl) (by kernel_rfl) (by exact fun _ _ _ h => hP _ _ _ _ _ h) ?_ (by assumption) ?_
 ·cases g42 <;> cases h68 <;> first | exact Or.inr ⟨rfl, rfl⟩ | (refine Or.inl ⟨rfl, ?_⟩; intro w hSw; obtain ⟨p0, p1, p2, p3, p4, p5⟩ := HX.out _ hSw; dsimp only [o74, cond_true, cond_false, Bool.true_and, Bool.false_and, Bool.and_true, Bool.and_false, Bool.not_true, Bool.not_false]; go_simp; rw [He2.out]; by_cases k1 : t.toList = (ByteArray.mk #[58] ++ s).toList <;> simp [k1])
 simp only [Act.put, List.setIfInBounds_toArray, List.set_cons_zero, List.set_cons_succ]
 refine wpAnyH_take (i := 75) (oi := o75) (v := (cond (g42 && !h68) (.bool h75) undef)) (by kernel_rfl) (by kernel_rfl) (by kernel_rfl) (by kernel_rfl) (by exact fun _ _ _ h => hP _ _ _ _ _ h) ?_ (by assumption) ?_
 ·rw [show h75 = e2 from Hh75.out]; cases g42 <;> cases h68 <;> first | exact Or.inr ⟨rfl, rfl⟩ | (refine Or.inl ⟨rfl, ?_⟩; intro w hSw; obtain ⟨p0, p1, p2, p3, p4, p5⟩ := HX.out _ hSw; dsimp only [o75, cond_true, cond_false, Bool.true_and, Bool.false_and, Bool.and_true, Bool.and_false, Bool.not_true, Bool.not_false]; go_simp; try with_reducible rfl)
 simp only [Act.put, List.setIfInBounds_toArray, List.set_cons_zero, List.set_cons_succ]
 refine wpAnyH_take (i := 76) (oi := o76) (v := (cond ((g42 && !h68) && h75) (.pointer (some { block := A, off := 0 })) undef)) (by kernel_rfl) (by kernel_rfl) (by kernel_rfl) (by kernel_rfl) (by exact fun _ _ _ h => hP _ _ _ _ _ h) ?_ (by assumption) ?_
 ·cases g42 <;> cases h68 <;> cases h75 <;> first | exact Or.inr ⟨rfl, rfl⟩ | (refine Or.inl ⟨rfl, ?_⟩; intro w hSw; obtain ⟨p0, p1, p2, p3, p4, p5⟩ := HX.out _ hSw; dsimp only [o76, cond_true, cond_false, Bool.true_and, Bool.false_and, Bool.and_true, Bool.and_false, Bool.not_true, Bool.not_false]; go_simp; try with_reducible rfl)
 simp only [Act.put, List.setIfInBounds_toArray, List.set_cons_zero, List.set_cons_succ]
 refine wpAnyH_take (i := 77) (oi := o77) (v := (cond ((g42 && !h68) && h75) (.bool p) undef)) (by kernel_rfl) (by kernel_rfl) (by kernel_rfl) (by kernel_rfl) (by exact fun _ _ _ h => hP _ _ _ _ _ h) ?_ (by assumption) ?_
 ·cases g42 <;> cases h68 <;> cases h75 <;> first | exact Or.inr ⟨rfl, rfl⟩ | (refine Or.inl ⟨rfl, ?_⟩; intro w hSw; obtain ⟨p0, p1, p2, p3, p4, p5⟩ := HX.out _ hSw; dsimp only [o77, cond_true, cond_false, Bool.true_and, Bool.false_and, Bool.and_true, Bool.and_false, Bool.not_true, Bool.not_false]; go_simp; try with_reducible rfl)
 simp only [Act.put, List.setIfInBounds_toArray, List.set_cons_zero, List.set_cons_succ]
 refine wpAnyH_take (i := 78) (oi := o78) (v := (cond (g42 && !h68) (.bool k78) undef)) (by kernel_rfl) (by kernel_rfl) (by kernel_rfl) (by kernel_rfl) (by exact fun _ _ _ h => hP _ _ _ _ _ h) ?_ (by assumption) ?_
 ·rw [show k78 = (h75 && p) from Hk78.out]; cases g42 <;> cases h68 <;> cases h75 <;> first | exact Or.inr ⟨rfl, rfl⟩ | (refine Or.inl ⟨rfl, ?_⟩; intro w hSw; obtain ⟨p0, p1, p2, p3, p4, p5⟩ := HX.out _ hSw; dsimp only [o78, cond_true, cond_false, Bool.true_and, Bool.false_and, Bool.and_true, Bool.and_false, Bool.not_true, Bool.not_false]; go_simp; try with_reducible rfl)
 simp only [Act.put, List.setIfInBounds_toArray, List.set_cons_zero, List.set_cons_succ]
 refine wpAnyH_take (i := 79) (oi := o79) (v := (cond (g42 && !h68) (.bool h79) undef)) (by kernel_rfl) (by kernel_rfl) (by kernel_rfl) (by kernel_rfl) (by exact fun _ _ _ h => hP _ _ _ _ _ h) ?_ (by assumption) ?_
 ·rw [show h79 = k78 from Hh79.out]; cases g42 <;> cases h68 <;> first | exact Or.inr ⟨rfl, rfl⟩ | (refine Or.inl ⟨rfl, ?_⟩; intro w hSw; obtain ⟨p0, p1, p2, p3, p4, p5⟩ := HX.out _ hSw; dsimp only [o79, cond_true, cond_false, Bool.true_and, Bool.false_and, Bool.and_true, Bool.and_false, Bool.not_true, Bool.not_false]; go_simp; try with_reducible rfl)
 simp only [Act.put, List.setIfInBounds_toArray, List.set_cons_zero, List.set_cons_succ]
 refine wpAnyH_take (i := 80) (oi := o80) (v := (cond ((g42 && !h68) && h79) (.pointer (some { block := A + 1, off := 0 })) undef)) (by kernel_rfl) (by kernel_rfl) (by kernel_rfl) (by kernel_rfl) (by exact fun _ _ _ h => hP _ _ _ _ _ h) ?_ (by assumption) ?_
 ·cases g42 <;> cases h68 <;> cases h79 <;> first | exact Or.inr ⟨rfl, rfl⟩ | (refine Or.inl ⟨rfl, ?_⟩; intro w hSw; obtain ⟨p0, p1, p2, p3, p4, p5⟩ := HX.out _ hSw; dsimp only [o80, cond_true, cond_false, Bool.true_and, Bool.false_and, Bool.and_true, Bool.and_false, Bool.not_true, Bool.not_false]; go_simp; try with_reducible rfl)
 simp only [Act.put, List.setIfInBounds_toArray, List.set_cons_zero, List.set_cons_succ]
 refine wpAnyH_take (i := 81) (oi := o81) (v := (cond ((g42 && !h68) && h79) (.bool q) undef)) (by kernel_rfl) (by kernel_rfl) (by kernel_rfl) (by kernel_rfl) (by exact fun _ _ _ h => hP _ _ _ _ _ h) ?_ (by assumption) ?_
 ·cases g42 <;> cases h68 <;> cases h79 <;> first | exact Or.inr ⟨rfl, rfl⟩ | (refine Or.inl ⟨rfl, ?_⟩; intro w hSw; obtain ⟨p0, p1, p2, p3, p4, p5⟩ := HX.out _ hSw; dsimp only [o81, cond_true, cond_false, Bool.true_and, Bool.false_and, Bool.and_true, Bool.and_false, Bool.not_true, Bool.not_false]; go_simp; try with_reducible rfl)
 simp only [Act.put, List.setIfInBounds_toArray, List.set_cons_zero, List.set_cons_succ]
 refine wpAnyH_take (i := 82) (oi := o82) (v := (cond ((g42 && !h68) && h79) (.bool (!q)) undef)) (by kernel_rfl) (by kernel_rfl) (by kernel_rfl) (by kernel_rfl) (by exact fun _ _ _ h => hP _ _ _ _ _ h) ?_ (by assumption) ?_
 ·cases g42 <;> cases h68 <;> cases h79 <;> first | exact Or.inr ⟨rfl, rfl⟩ | (refine Or.inl ⟨rfl, ?_⟩; intro w hSw; obtain ⟨p0, p1, p2, p3, p4, p5⟩ := HX.out _ hSw; dsimp only [o82, cond_true, cond_false, Bool.true_and, Bool.false_and, Bool.and_true, Bool.and_false, Bool.not_true, Bool.not_false]; go_simp; try with_reducible rfl)
 simp only [Act.put, List.setIfInBounds_toArray, List.set_cons_zero, List.set_cons_succ]
 refine wpAnyH_take (i := 83) (oi := o83) (v := (cond (g42 && !h68) (.bool k83) undef)) (by kernel_rfl) (by kernel_rfl) (by kernel_rfl) (by kernel_rfl) (by exact fun _ _ _ h => hP _ _ _ _ _ h) ?_ (by assumption) ?_
 ·rw [show k83 = (h79 && (!q)) from Hk83.out]; cases g42 <;> cases h68 <;> cases h79 <;> first | exact Or.inr ⟨rfl, rfl⟩ | (refine Or.inl ⟨rfl, ?_⟩; intro w hSw; obtain ⟨p0, p1, p2, p3, p4, p5⟩ := HX.out _ hSw; dsimp only [o83, cond_true, cond_false, Bool.true_and, Bool.false_and, Bool.and_true, Bool.and_false, Bool.not_true, Bool.not_false]; go_simp; try with_reducible rfl)
 simp only [Act.put, List.setIfInBounds_toArray, List.set_cons_zero, List.set_cons_succ]
 refine wpAnyH_take (i := 84) (oi := o84) (v := (cond (g42) (.bool k84) undef)) (by kernel_rfl) (by kernel_rfl) (by kernel_rfl) (by kernel_rfl) (by exact fun _ _ _ h => hP _ _ _ _ _ h) ?_ (by assumption) ?_
 ·rw [show k84 = (h68 || k83) from Hk84.out]; cases g42 <;> cases h68 <;> first | exact Or.inr ⟨rfl, rfl⟩ | (refine Or.inl ⟨rfl, ?_⟩; intro w hSw; obtain ⟨p0, p1, p2, p3, p4, p5⟩ := HX.out _ hSw; dsimp only [o84, cond_true, cond_false, Bool.true_and, Bool.false_and, Bool.and_true, Bool.and_false, Bool.not_true, Bool.not_false]; go_simp; try with_reducible rfl)
 simp only [Act.put, List.setIfInBounds_toArray, List.set_cons_zero, List.set_cons_succ]
 refine wpAnyH_take (i := 85) (oi := o85) (v := (cond (g42) (.bool k85) undef)) (by kernel_rfl) (by kernel_rfl) (by kernel_rfl) (by kernel_rfl) (by exact fun _ _ _ h => hP _ _ _ _ _ h) ?_ (by assumption) ?_
 ·rw [show k85 = (en == k84) from Hk85.out]; cases g42 <;> first | exact Or.inr ⟨rfl, rfl⟩ | (refine Or.inl ⟨rfl, ?_⟩; intro w hSw; obtain ⟨p0, p1, p2, p3, p4, p5⟩ := HX.out _ hSw; dsimp only [o85, cond_true, cond_false, Bool.true_and, Bool.false_and, Bool.and_true, Bool.and_false, Bool.not_true, Bool.not_false]; go_simp; try with_reducible rfl)
 simp only [Act.put, List.setIfInBounds_toArray, List.set_cons_zero, List.set_cons_succ]
 refine wpAnyH_take (i := 86) (oi := o86) (v := (.bool k86)) (by kernel_rfl) (by kernel_rfl) (by kernel_rfl) (by kernel_rfl) (by exact fun _ _ _ h => hP _ _ _ _ _ h) ?_ (by assumption) ?_
 ·rw [show k86 = (g42 && k85) from Hk86.out]; cases g42 <;> first | exact Or.inr ⟨rfl, rfl⟩ | (refine Or.inl ⟨rfl, ?_⟩; intro w hSw; obtain ⟨p0, p1, p2, p3, p4, p5⟩ := HX.out _ hSw; dsimp only [o86, cond_true, cond_false, Bool.true_and, Bool.false_and, Bool.and_true, Bool.and_false, Bool.not_true, Bool.not_false]; go_simp; try with_reducible rfl)
 simp only [Act.put, List.setIfInBounds_toArray, List.set_cons_zero, List.set_cons_succ]
 refine wpAnyH_take (i := 87) (oi := o87) (v := (.bool k86)) (by kernel_rfl) (by kernel_rfl) (by kernel_rfl) (by kernel_rfl) (by exact fun _ _ _ h => hP _ _ _ _ _ h) ?_ (by assumption) ?_
 ·first | exact Or.inr ⟨rfl, rfl⟩ | (refine Or.inl ⟨rfl, ?_⟩; intro w hSw; obtain ⟨p0, p1, p2, p3, p4, p5⟩ := HX.out _ hSw; dsimp only [o87, cond_true, cond_false, Bool.true_and, Bool.false_and, Bool.and_true, Bool.and_false, Bool.not_true, Bool.not_false]; go_simp; try with_reducible rfl)
 simp only [Act.put, List.setIfInBounds_toArray, List.set_cons_zero, List.set_cons_succ]
 exact wpAnyH_done (by kernel_rfl) (hQ _ _ hHeld rfl rfl) _
abbrev ls2 : Array Bool := (((((((((((((((((((((((((((((((((((((((((((((Array.replicate 88 false).setIfInBounds 0 true).setIfInBounds 1 true).setIfInBounds 2 true).setIfInBounds 3 true).setIfInBounds 4 true).setIfInBounds 5 true).setIfInBounds 6 true).setIfInBounds 7 true).setIfInBounds 8 true).setIfInBounds 9 true).setIfInBounds 10 true).setIfInBounds 11 true).setIfInBounds 12 true).setIfInBounds 13 true).setIfInBounds 14 true).setIfInBounds 15 true).setIfInBounds 16 true).setIfInBounds 17 true).setIfInBounds 18 true).setIfInBounds 19 true).setIfInBounds 20 true).setIfInBounds 21 true).setIfInBounds 22 true).setIfInBounds 23 true).setIfInBounds 24 true).setIfInBounds 25 true).setIfInBounds 26 true).setIfInBounds 27 true).setIfInBounds 28 true).setIfInBounds 29 true).setIfInBounds 30 true).setIfInBounds 31 true).setIfInBounds 32 true).setIfInBounds 33 true).setIfInBounds 34 true).setIfInBounds 35 true).setIfInBounds 36 true).setIfInBounds 37 true).setIfInBounds 38 true).setIfInBounds 39 true).setIfInBounds 40 true).setIfInBounds 41 true).setIfInBounds 42 true).setIfInBounds 43 true)
theorem r5p2
  {A B : Nat} {w1 w : World} {Q : Exit → Act → World → Prop} (hP : ∀ c (a : Act) d v w, Q (.panic c) (a.put d v) w → Q (.panic c) a w) {x y z n e en e1 e2 g5 h7 g15 h18 h24 g30 h33 h38 g42 h51 h58 h62 h68 h75 h79 k3 k9 k13 k14 k23 k28 k29 k37 k40 k41 k61 k66 k67 k78 k83 k84 k85 k86 p q u : Bool} {s t v : ByteArray} {v0 v1 v2 v7 v10 v11 v12 v13 v14 v15 v16 v17 v18 : Value}
  (Hk3 : Hid (k3 = (x && y)))
  (Hg5 : Hid (g5 = (!k3)))
  (Hh7 : Hid (h7 = x))
  (Hk9 : Hid (k9 = (h7 || y)))
  (Hk13 : Hid (k13 = (k9 == (!e))))
  (Hk14 : Hid (k14 = (g5 && k13)))
  (Hg15 : Hid (g15 = k14))
  (Hh18 : Hid (h18 = (!x)))
  (Hk23 : Hid (k23 = (h18 || (!z))))
  (Hh24 : Hid (h24 = k23))
  (Hk28 : Hid (k28 = (h24 || n)))
  (Hk29 : Hid (k29 = (g15 && k28)))
  (Hg30 : Hid (g30 = k29))
  (Hh33 : Hid (h33 = p))
  (Hk37 : Hid (k37 = (h33 || (!q))))
  (Hh38 : Hid (h38 = k37))
  (Hk40 : Hid (k40 = (h38 || x)))
  (Hk41 : Hid (k41 = (g30 && k40)))
  (Hg42 : Hid (g42 = k41))
  (Hh51 : Hid (h51 = e))
  (Hh58 : Hid (h58 = e1))
  (Hk61 : Hid (k61 = (h58 && q)))
  (Hh62 : Hid (h62 = k61))
  (Hk66 : Hid (k66 = (h62 && (!p))))
  (Hk67 : Hid (k67 = (h51 || k66)))
  (Hh68 : Hid (h68 = k67))
  (Hh75 : Hid (h75 = e2))
  (Hk78 : Hid (k78 = (h75 && p)))
  (Hh79 : Hid (h79 = k78))
  (Hk83 : Hid (k83 = (h79 && (!q))))
  (Hk84 : Hid (k84 = (h68 || k83)))
  (Hk85 : Hid (k85 = (en == k84)))
  (Hk86 : Hid (k86 = (g42 && k85)))
  (HX : Hid (∀ V, Below B w1 V → V.cell? { block := A, off := 0 } = some (.bool p) ∧ V.cell? { block := A, off := 1 } = some (.string s) ∧ V.cell? { block := A + 1, off := 0 } = some (.bool q) ∧ V.cell? { block := A + 1, off := 1 } = some (.string t) ∧ V.cell? { block := A + 1 + 1, off := 0 } = some (.bool u) ∧ V.cell? { block := A + 1 + 1, off := 1 } = some (.string v)))
  (C21 : Hid (∀ V, Below B w1 V → Calls Tryz.prog 37 #[.agg #[.bool q, .string t], .agg #[.bool u, .string v]] V fun e w' => e = .returned (.bool z) ∧ Below B w1 w'))
  (C27 : Hid (∀ V, Below B w1 V → Calls Tryz.prog 37 #[.agg #[.bool p, .string s], .agg #[.bool u, .string v]] V fun e w' => e = .returned (.bool n) ∧ Below B w1 w'))
  (C44 : Hid (∀ V, Below B w1 V → Calls Tryz.prog 38 #[.agg #[.bool p, .string s]] V fun e w' => e = .returned (.string (nmL (p, s))) ∧ Below B w1 w'))
  (C46 : Hid (∀ V, Below B w1 V → Calls Tryz.prog 38 #[.agg #[.bool q, .string t]] V fun e w' => e = .returned (.string (nmL (q, t))) ∧ Below B w1 w'))
  (He : Hid (e = (decide (p = q) && decide (s.toList = t.toList)))) (Hen : Hid (en = decide ((nmL (p, s)).toList = (nmL (q, t)).toList))) (He1 : Hid (e1 = decide (s.toList = (ByteArray.mk #[58] ++ t).toList))) (He2 : Hid (e2 = decide (t.toList = (ByteArray.mk #[58] ++ s).toList)))
  (hs : Hid (s.size ≤ 1048576)) (ht : Hid (t.size ≤ 1048576)) (hHeld : Below B w1 w)
  (hQ : ∀ tm W, Below B w1 W → tm[6]? = some (.bool k86) → tm.size = 106 → Q .normal ⟨tm, []⟩ W) :
  wpAnyH Tryz.prog .any O Q (fun V => Below B w1 V) 44 ls2 ⟨#[v0, v1, v2, (.pointer (some { block := A, off := 0 })), (.pointer (some { block := A + 1, off := 0 })), (.pointer (some { block := A + 1 + 1, off := 0 })), (.bool false), v7, (.bool x), (.bool y), v10, v11, v12, v13, v14, v15, v16, v17, v18, (.bool x), (.bool x), (cond (x) (.bool y) undef), (.bool k3), (.bool (!k3)), (.bool g5), (cond (g5) (.bool x) undef), (cond (g5) (.bool h7) undef), (cond (g5 && !h7) (.bool y) undef), (cond (g5) (.bool k9) undef), (cond (g5) (.agg #[.bool p, .string s]) undef), (cond (g5) (.agg #[.bool q, .string t]) undef), (cond (g5) (.bool (!e)) undef), (cond (g5) (.bool k13) undef), (.bool k14), (.bool g15), (cond (g15) (.bool x) undef), (cond (g15) (.bool (!x)) undef), (cond (g15) (.bool h18) undef), (cond (g15 && !h18) (.agg #[.bool q, .string t]) undef), (cond (g15 && !h18) (.agg #[.bool u, .string v]) undef), (cond (g15 && !h18) (.bool z) undef), (cond (g15 && !h18) (.bool (!z)) undef), (cond (g15) (.bool k23) undef), (cond (g15) (.bool h24) undef), (cond (g15 && !h24) (.agg #[.bool p, .string s]) undef), (cond (g15 && !h24) (.agg #[.bool u, .string v]) undef), (cond (g15 && !h24) (.bool n) undef), (cond (g15) (.bool k28) undef), (.bool k29), (.bool g30), (cond (g30) (.pointer (some { block := A, off := 0 })) undef), (cond (g30) (.bool p) undef), (cond (g30) (.bool h33) undef), (cond (g30 && !h33) (.pointer (some { block := A + 1, off := 0 })) undef), (cond (g30 && !h33) (.bool q) undef), (cond (g30 && !h33) (.bool (!q)) undef), (cond (g30) (.bool k37) undef), (cond (g30) (.bool h38) undef), (cond (g30 && !h38) (.bool x) undef), (cond (g30) (.bool k40) undef), (.bool k41), (.bool g42), (cond (g42) (.agg #[.bool p, .string s]) undef), undef, undef, undef, undef, undef, undef, undef, undef, undef, undef, undef, undef, undef, undef, undef, undef, undef, undef, undef, undef, undef, undef, undef, undef, undef, undef, undef, undef, undef, undef, undef, undef, undef, undef, undef, undef, undef, undef, undef, undef, undef, undef, undef], []⟩ w := by
 refine wpAnyH_take (i := 45) (oi := o45) (v := (cond (g42) (.agg #[.bool q, .string t]) undef)) (by kernel_rfl) (by kernel_rfl) (by kernel_rfl) (by kernel_rfl) (by exact fun _ _ _ h => hP _ _ _ _ _ h) ?_ (by assumption) ?_
 ·cases g42 <;> first | exact Or.inr ⟨rfl, rfl⟩ | (refine Or.inl ⟨rfl, ?_⟩; intro w hSw; obtain ⟨p0, p1, p2, p3, p4, p5⟩ := HX.out _ hSw; dsimp only [o45, cond_true, cond_false, Bool.true_and, Bool.false_and, Bool.and_true, Bool.and_false, Bool.not_true, Bool.not_false]; go_simp; try with_reducible rfl)
 simp only [Act.put, List.setIfInBounds_toArray, List.set_cons_zero, List.set_cons_succ]
 refine wpAnyH_take (i := 48) (oi := o48) (v := (cond (g42) (.agg #[.bool p, .string s]) undef)) (by kernel_rfl) (by kernel_rfl) (by kernel_rfl) (by kernel_rfl) (by exact fun _ _ _ h => hP _ _ _ _ _ h) ?_ (by assumption) ?_
 ·cases g42 <;> first | exact Or.inr ⟨rfl, rfl⟩ | (refine Or.inl ⟨rfl, ?_⟩; intro w hSw; obtain ⟨p0, p1, p2, p3, p4, p5⟩ := HX.out _ hSw; dsimp only [o48, cond_true, cond_false, Bool.true_and, Bool.false_and, Bool.and_true, Bool.and_false, Bool.not_true, Bool.not_false]; go_simp; try with_reducible rfl)
 simp only [Act.put, List.setIfInBounds_toArray, List.set_cons_zero, List.set_cons_succ]
 refine wpAnyH_take (i := 49) (oi := o49) (v := (cond (g42) (.agg #[.bool q, .string t]) undef)) (by kernel_rfl) (by kernel_rfl) (by kernel_rfl) (by kernel_rfl) (by exact fun _ _ _ h => hP _ _ _ _ _ h) ?_ (by assumption) ?_
 ·cases g42 <;> first | exact Or.inr ⟨rfl, rfl⟩ | (refine Or.inl ⟨rfl, ?_⟩; intro w hSw; obtain ⟨p0, p1, p2, p3, p4, p5⟩ := HX.out _ hSw; dsimp only [o49, cond_true, cond_false, Bool.true_and, Bool.false_and, Bool.and_true, Bool.and_false, Bool.not_true, Bool.not_false]; go_simp; try with_reducible rfl)
 simp only [Act.put, List.setIfInBounds_toArray, List.set_cons_zero, List.set_cons_succ]
 refine wpAnyH_take (i := 50) (oi := o50) (v := (cond (g42) (.bool e) undef)) (by kernel_rfl) (by kernel_rfl) (by kernel_rfl) (by kernel_rfl) (by exact fun _ _ _ h => hP _ _ _ _ _ h) ?_ (by assumption) ?_
 ·cases g42 <;> first | exact Or.inr ⟨rfl, rfl⟩ | (refine Or.inl ⟨rfl, ?_⟩; intro w hSw; obtain ⟨p0, p1, p2, p3, p4, p5⟩ := HX.out _ hSw; dsimp only [o50, cond_true, cond_false, Bool.true_and, Bool.false_and, Bool.and_true, Bool.and_false, Bool.not_true, Bool.not_false]; go_simp; rw [He.out]; by_cases k1 : p = q <;> by_cases k2 : s.toList = t.toList <;> simp [k1, k2])
 simp only [Act.put, List.setIfInBounds_toArray, List.set_cons_zero, List.set_cons_succ]
 refine callG (i := 44) (o := o44) (v := (cond (g42) (.string (nmL (p, s))) undef)) (by kernel_rfl) (by kernel_rfl) (fun K hK => ?_) (fun W44 HW44 => ?_)
 ·cases g42 <;> first | exact hK _ hHeld | (dsimp only [o44, cond_true, cond_false, Bool.true_and, Bool.false_and, Bool.and_true, Bool.and_false, Bool.not_true, Bool.not_false]; go_simp; refine (C44.out _ hHeld).mono ?_; rintro e w' ⟨rfl, hb⟩; exact hK _ hb)
 simp only [Act.put, List.setIfInBounds_toArray, List.set_cons_zero, List.set_cons_succ]
 refine callG (i := 46) (o := o46) (v := (cond (g42) (.string (nmL (q, t))) undef)) (by kernel_rfl) (by kernel_rfl) (fun K hK => ?_) (fun W46 HW46 => ?_)
 ·cases g42 <;> first | exact hK _ HW44 | (dsimp only [o46, cond_true, cond_false, Bool.true_and, Bool.false_and, Bool.and_true, Bool.and_false, Bool.not_true, Bool.not_false]; go_simp; refine (C46.out _ HW44).mono ?_; rintro e w' ⟨rfl, hb⟩; exact hK _ hb)
 simp only [Act.put, List.setIfInBounds_toArray, List.set_cons_zero, List.set_cons_succ]
 refine wpAnyH_take (i := 47) (oi := o47) (v := (cond (g42) (.bool en) undef)) (by kernel_rfl) (by kernel_rfl) (by kernel_rfl) (by kernel_rfl) (by exact fun _ _ _ h => hP _ _ _ _ _ h) ?_ (by assumption) ?_
 ·cases g42 <;> first | exact Or.inr ⟨rfl, rfl⟩ | (refine Or.inl ⟨rfl, ?_⟩; intro w hSw; obtain ⟨p0, p1, p2, p3, p4, p5⟩ := HX.out _ hSw; dsimp only [o47, cond_true, cond_false, Bool.true_and, Bool.false_and, Bool.and_true, Bool.and_false, Bool.not_true, Bool.not_false]; go_simp; rw [Hen.out]; by_cases k1 : (nmL (p, s)).toList = (nmL (q, t)).toList <;> simp [k1])
 simp only [Act.put, List.setIfInBounds_toArray, List.set_cons_zero, List.set_cons_succ]
 refine wpAnyH_take (i := 51) (oi := o51) (v := (cond (g42) (.bool h51) undef)) (by kernel_rfl) (by kernel_rfl) (by kernel_rfl) (by kernel_rfl) (by exact fun _ _ _ h => hP _ _ _ _ _ h) ?_ (by assumption) ?_
 ·rw [show h51 = e from Hh51.out]; cases g42 <;> first | exact Or.inr ⟨rfl, rfl⟩ | (refine Or.inl ⟨rfl, ?_⟩; intro w hSw; obtain ⟨p0, p1, p2, p3, p4, p5⟩ := HX.out _ hSw; dsimp only [o51, cond_true, cond_false, Bool.true_and, Bool.false_and, Bool.and_true, Bool.and_false, Bool.not_true, Bool.not_false]; go_simp; try with_reducible rfl)
 simp only [Act.put, List.setIfInBounds_toArray, List.set_cons_zero, List.set_cons_succ]
 refine wpAnyH_take (i := 52) (oi := o52) (v := (cond (g42 && !h51) (.pointer (some { block := A, off := 1 })) undef)) (by kernel_rfl) (by kernel_rfl) (by kernel_rfl) (by kernel_rfl) (by exact fun _ _ _ h => hP _ _ _ _ _ h) ?_ (by assumption) ?_
 ·cases g42 <;> cases h51 <;> first | exact Or.inr ⟨rfl, rfl⟩ | (refine Or.inl ⟨rfl, ?_⟩; intro w hSw; obtain ⟨p0, p1, p2, p3, p4, p5⟩ := HX.out _ hSw; dsimp only [o52, cond_true, cond_false, Bool.true_and, Bool.false_and, Bool.and_true, Bool.and_false, Bool.not_true, Bool.not_false]; go_simp; try with_reducible rfl)
 simp only [Act.put, List.setIfInBounds_toArray, List.set_cons_zero, List.set_cons_succ]
 refine wpAnyH_take (i := 53) (oi := o53) (v := (cond (g42 && !h51) (.string s) undef)) (by kernel_rfl) (by kernel_rfl) (by kernel_rfl) (by kernel_rfl) (by exact fun _ _ _ h => hP _ _ _ _ _ h) ?_ (by assumption) ?_
 ·cases g42 <;> cases h51 <;> first | exact Or.inr ⟨rfl, rfl⟩ | (refine Or.inl ⟨rfl, ?_⟩; intro w hSw; obtain ⟨p0, p1, p2, p3, p4, p5⟩ := HX.out _ hSw; dsimp only [o53, cond_true, cond_false, Bool.true_and, Bool.false_and, Bool.and_true, Bool.and_false, Bool.not_true, Bool.not_false]; go_simp; try with_reducible rfl)
 simp only [Act.put, List.setIfInBounds_toArray, List.set_cons_zero, List.set_cons_succ]
 refine wpAnyH_take (i := 54) (oi := o54) (v := (cond (g42 && !h51) (.pointer (some { block := A + 1, off := 1 })) undef)) (by kernel_rfl) (by kernel_rfl) (by kernel_rfl) (by kernel_rfl) (by exact fun _ _ _ h => hP _ _ _ _ _ h) ?_ (by assumption) ?_
 ·cases g42 <;> cases h51 <;> first | exact Or.inr ⟨rfl, rfl⟩ | (refine Or.inl ⟨rfl, ?_⟩; intro w hSw; obtain ⟨p0, p1, p2, p3, p4, p5⟩ := HX.out _ hSw; dsimp only [o54, cond_true, cond_false, Bool.true_and, Bool.false_and, Bool.and_true, Bool.and_false, Bool.not_true, Bool.not_false]; go_simp; try with_reducible rfl)
 simp only [Act.put, List.setIfInBounds_toArray, List.set_cons_zero, List.set_cons_succ]
 refine wpAnyH_take (i := 55) (oi := o55) (v := (cond (g42 && !h51) (.string t) undef)) (by kernel_rfl) (by kernel_rfl) (by kernel_rfl) (by kernel_rfl) (by exact fun _ _ _ h => hP _ _ _ _ _ h) ?_ (by assumption) ?_
 ·cases g42 <;> cases h51 <;> first | exact Or.inr ⟨rfl, rfl⟩ | (refine Or.inl ⟨rfl, ?_⟩; intro w hSw; obtain ⟨p0, p1, p2, p3, p4, p5⟩ := HX.out _ hSw; dsimp only [o55, cond_true, cond_false, Bool.true_and, Bool.false_and, Bool.and_true, Bool.and_false, Bool.not_true, Bool.not_false]; go_simp; try with_reducible rfl)
 simp only [Act.put, List.setIfInBounds_toArray, List.set_cons_zero, List.set_cons_succ]
 refine wpAnyH_take (i := 56) (oi := o56) (v := (cond (g42 && !h51) (.string (ByteArray.mk #[58] ++ t)) undef)) (by kernel_rfl) (by kernel_rfl) (by kernel_rfl) (by kernel_rfl) (by exact fun _ _ _ h => hP _ _ _ _ _ h) ?_ (by assumption) ?_
 ·have hs' := hs.out; have ht' := ht.out; cases g42 <;> cases h51 <;> first | exact Or.inr ⟨rfl, rfl⟩ | (refine Or.inl ⟨rfl, ?_⟩; intro w hSw; obtain ⟨p0, p1, p2, p3, p4, p5⟩ := HX.out _ hSw; dsimp only [o56, cond_true, cond_false, Bool.true_and, Bool.false_and, Bool.and_true, Bool.and_false, Bool.not_true, Bool.not_false]; go_simp; first | with_reducible rfl | omega)
 simp only [Act.put, List.setIfInBounds_toArray, List.set_cons_zero, List.set_cons_succ]
 refine wpAnyH_take (i := 57) (oi := o57) (v := (cond (g42 && !h51) (.bool e1) undef)) (by kernel_rfl) (by kernel_rfl) (by kernel_rfl) (by kernel_rfl) (by exact fun _ _ _ h => hP _ _ _ _ _ h) ?_ (by assumption) ?_
 ·cases g42 <;> cases h51 <;> first | exact Or.inr ⟨rfl, rfl⟩ | (refine Or.inl ⟨rfl, ?_⟩; intro w hSw; obtain ⟨p0, p1, p2, p3, p4, p5⟩ := HX.out _ hSw; dsimp only [o57, cond_true, cond_false, Bool.true_and, Bool.false_and, Bool.and_true, Bool.and_false, Bool.not_true, Bool.not_false]; go_simp; rw [He1.out]; by_cases k1 : s.toList = (ByteArray.mk #[58] ++ t).toList <;> simp [k1])
 simp only [Act.put, List.setIfInBounds_toArray, List.set_cons_zero, List.set_cons_succ]
 refine wpAnyH_take (i := 58) (oi := o58) (v := (cond (g42 && !h51) (.bool h58) undef)) (by kernel_rfl) (by kernel_rfl) (by kernel_rfl) (by kernel_rfl) (by exact fun _ _ _ h => hP _ _ _ _ _ h) ?_ (by assumption) ?_
 ·rw [show h58 = e1 from Hh58.out]; cases g42 <;> cases h51 <;> first | exact Or.inr ⟨rfl, rfl⟩ | (refine Or.inl ⟨rfl, ?_⟩; intro w hSw; obtain ⟨p0, p1, p2, p3, p4, p5⟩ := HX.out _ hSw; dsimp only [o58, cond_true, cond_false, Bool.true_and, Bool.false_and, Bool.and_true, Bool.and_false, Bool.not_true, Bool.not_false]; go_simp; try with_reducible rfl)
 simp only [Act.put, List.setIfInBounds_toArray, List.set_cons_zero, List.set_cons_succ]
 refine wpAnyH_take (i := 59) (oi := o59) (v := (cond ((g42 && !h51) && h58) (.pointer (some { block := A + 1, off := 0 })) undef)) (by kernel_rfl) (by kernel_rfl) (by kernel_rfl) (by kernel_rfl) (by exact fun _ _ _ h => hP _ _ _ _ _ h) ?_ (by assumption) ?_
 ·cases g42 <;> cases h51 <;> cases h58 <;> first | exact Or.inr ⟨rfl, rfl⟩ | (refine Or.inl ⟨rfl, ?_⟩; intro w hSw; obtain ⟨p0, p1, p2, p3, p4, p5⟩ := HX.out _ hSw; dsimp only [o59, cond_true, cond_false, Bool.true_and, Bool.false_and, Bool.and_true, Bool.and_false, Bool.not_true, Bool.not_false]; go_simp; try with_reducible rfl)
 simp only [Act.put, List.setIfInBounds_toArray, List.set_cons_zero, List.set_cons_succ]
 refine wpAnyH_take (i := 60) (oi := o60) (v := (cond ((g42 && !h51) && h58) (.bool q) undef)) (by kernel_rfl) (by kernel_rfl) (by kernel_rfl) (by kernel_rfl) (by exact fun _ _ _ h => hP _ _ _ _ _ h) ?_ (by assumption) ?_
 ·cases g42 <;> cases h51 <;> cases h58 <;> first | exact Or.inr ⟨rfl, rfl⟩ | (refine Or.inl ⟨rfl, ?_⟩; intro w hSw; obtain ⟨p0, p1, p2, p3, p4, p5⟩ := HX.out _ hSw; dsimp only [o60, cond_true, cond_false, Bool.true_and, Bool.false_and, Bool.and_true, Bool.and_false, Bool.not_true, Bool.not_false]; go_simp; try with_reducible rfl)
 simp only [Act.put, List.setIfInBounds_toArray, List.set_cons_zero, List.set_cons_succ]
 refine wpAnyH_take (i := 61) (oi := o61) (v := (cond (g42 && !h51) (.bool k61) undef)) (by kernel_rfl) (by kernel_rfl) (by kernel_rfl) (by kernel_rfl) (by exact fun _ _ _ h => hP _ _ _ _ _ h) ?_ (by assumption) ?_
 ·rw [show k61 = (h58 && q) from Hk61.out]; cases g42 <;> cases h51 <;> cases h58 <;> first | exact Or.inr ⟨rfl, rfl⟩ | (refine Or.inl ⟨rfl, ?_⟩; intro w hSw; obtain ⟨p0, p1, p2, p3, p4, p5⟩ := HX.out _ hSw; dsimp only [o61, cond_true, cond_false, Bool.true_and, Bool.false_and, Bool.and_true, Bool.and_false, Bool.not_true, Bool.not_false]; go_simp; try with_reducible rfl)
 simp only [Act.put, List.setIfInBounds_toArray, List.set_cons_zero, List.set_cons_succ]
 refine wpAnyH_take (i := 62) (oi := o62) (v := (cond (g42 && !h51) (.bool h62) undef)) (by kernel_rfl) (by kernel_rfl) (by kernel_rfl) (by kernel_rfl) (by exact fun _ _ _ h => hP _ _ _ _ _ h) ?_ (by assumption) ?_
 ·rw [show h62 = k61 from Hh62.out]; cases g42 <;> cases h51 <;> first | exact Or.inr ⟨rfl, rfl⟩ | (refine Or.inl ⟨rfl, ?_⟩; intro w hSw; obtain ⟨p0, p1, p2, p3, p4, p5⟩ := HX.out _ hSw; dsimp only [o62, cond_true, cond_false, Bool.true_and, Bool.false_and, Bool.and_true, Bool.and_false, Bool.not_true, Bool.not_false]; go_simp; try with_reducible rfl)
 simp only [Act.put, List.setIfInBounds_toArray, List.set_cons_zero, List.set_cons_succ]
 refine wpAnyH_take (i := 63) (oi := o63) (v := (cond ((g42 && !h51) && h62) (.pointer (some { block := A, off := 0 })) undef)) (by kernel_rfl) (by kernel_rfl) (by kernel_rfl) (by kernel_rfl) (by exact fun _ _ _ h => hP _ _ _ _ _ h) ?_ (by assumption) ?_
 ·cases g42 <;> cases h51 <;> cases h62 <;> first | exact Or.inr ⟨rfl, rfl⟩ | (refine Or.inl ⟨rfl, ?_⟩; intro w hSw; obtain ⟨p0, p1, p2, p3, p4, p5⟩ := HX.out _ hSw; dsimp only [o63, cond_true, cond_false, Bool.true_and, Bool.false_and, Bool.and_true, Bool.and_false, Bool.not_true, Bool.not_false]; go_simp; try with_reducible rfl)
 simp only [Act.put, List.setIfInBounds_toArray, List.set_cons_zero, List.set_cons_succ]
 refine wpAnyH_take (i := 64) (oi := o64) (v := (cond ((g42 && !h51) && h62) (.bool p) undef)) (by kernel_rfl) (by kernel_rfl) (by kernel_rfl) (by kernel_rfl) (by exact fun _ _ _ h => hP _ _ _ _ _ h) ?_ (by assumption) ?_
 ·cases g42 <;> cases h51 <;> cases h62 <;> first | exact Or.inr ⟨rfl, rfl⟩ | (refine Or.inl ⟨rfl, ?_⟩; intro w hSw; obtain ⟨p0, p1, p2, p3, p4, p5⟩ := HX.out _ hSw; dsimp only [o64, cond_true, cond_false, Bool.true_and, Bool.false_and, Bool.and_true, Bool.and_false, Bool.not_true, Bool.not_false]; go_simp; try with_reducible rfl)
 simp only [Act.put, List.setIfInBounds_toArray, List.set_cons_zero, List.set_cons_succ]
 refine wpAnyH_take (i := 65) (oi := o65) (v := (cond ((g42 && !h51) && h62) (.bool (!p)) undef)) (by kernel_rfl) (by kernel_rfl) (by kernel_rfl) (by kernel_rfl) (by exact fun _ _ _ h => hP _ _ _ _ _ h) ?_ (by assumption) ?_
 ·cases g42 <;> cases h51 <;> cases h62 <;> first | exact Or.inr ⟨rfl, rfl⟩ | (refine Or.inl ⟨rfl, ?_⟩; intro w hSw; obtain ⟨p0, p1, p2, p3, p4, p5⟩ := HX.out _ hSw; dsimp only [o65, cond_true, cond_false, Bool.true_and, Bool.false_and, Bool.and_true, Bool.and_false, Bool.not_true, Bool.not_false]; go_simp; try with_reducible rfl)
 simp only [Act.put, List.setIfInBounds_toArray, List.set_cons_zero, List.set_cons_succ]
 exact r5p3 hP Hk3 Hg5 Hh7 Hk9 Hk13 Hk14 Hg15 Hh18 Hk23 Hh24 Hk28 Hk29 Hg30 Hh33 Hk37 Hh38 Hk40 Hk41 Hg42 Hh51 Hh58 Hk61 Hh62 Hk66 Hk67 Hh68 Hh75 Hk78 Hh79 Hk83 Hk84 Hk85 Hk86 HX C21 C27 C44 C46 He Hen He1 He2 hs ht HW46 hQ
abbrev ls1 : Array Bool := (((((((((((((((((((((((Array.replicate 88 false).setIfInBounds 0 true).setIfInBounds 1 true).setIfInBounds 2 true).setIfInBounds 3 true).setIfInBounds 4 true).setIfInBounds 5 true).setIfInBounds 6 true).setIfInBounds 7 true).setIfInBounds 8 true).setIfInBounds 9 true).setIfInBounds 10 true).setIfInBounds 11 true).setIfInBounds 12 true).setIfInBounds 13 true).setIfInBounds 14 true).setIfInBounds 15 true).setIfInBounds 16 true).setIfInBounds 17 true).setIfInBounds 18 true).setIfInBounds 19 true).setIfInBounds 20 true).setIfInBounds 21 true)
theorem r5p1
  {A B : Nat} {w1 w : World} {Q : Exit → Act → World → Prop} (hP : ∀ c (a : Act) d v w, Q (.panic c) (a.put d v) w → Q (.panic c) a w) {x y z n e en e1 e2 g5 h7 g15 h18 h24 g30 h33 h38 g42 h51 h58 h62 h68 h75 h79 k3 k9 k13 k14 k23 k28 k29 k37 k40 k41 k61 k66 k67 k78 k83 k84 k85 k86 p q u : Bool} {s t v : ByteArray} {v0 v1 v2 v7 v10 v11 v12 v13 v14 v15 v16 v17 v18 : Value}
  (Hk3 : Hid (k3 = (x && y)))
  (Hg5 : Hid (g5 = (!k3)))
  (Hh7 : Hid (h7 = x))
  (Hk9 : Hid (k9 = (h7 || y)))
  (Hk13 : Hid (k13 = (k9 == (!e))))
  (Hk14 : Hid (k14 = (g5 && k13)))
  (Hg15 : Hid (g15 = k14))
  (Hh18 : Hid (h18 = (!x)))
  (Hk23 : Hid (k23 = (h18 || (!z))))
  (Hh24 : Hid (h24 = k23))
  (Hk28 : Hid (k28 = (h24 || n)))
  (Hk29 : Hid (k29 = (g15 && k28)))
  (Hg30 : Hid (g30 = k29))
  (Hh33 : Hid (h33 = p))
  (Hk37 : Hid (k37 = (h33 || (!q))))
  (Hh38 : Hid (h38 = k37))
  (Hk40 : Hid (k40 = (h38 || x)))
  (Hk41 : Hid (k41 = (g30 && k40)))
  (Hg42 : Hid (g42 = k41))
  (Hh51 : Hid (h51 = e))
  (Hh58 : Hid (h58 = e1))
  (Hk61 : Hid (k61 = (h58 && q)))
  (Hh62 : Hid (h62 = k61))
  (Hk66 : Hid (k66 = (h62 && (!p))))
  (Hk67 : Hid (k67 = (h51 || k66)))
  (Hh68 : Hid (h68 = k67))
  (Hh75 : Hid (h75 = e2))
  (Hk78 : Hid (k78 = (h75 && p)))
  (Hh79 : Hid (h79 = k78))
  (Hk83 : Hid (k83 = (h79 && (!q))))
  (Hk84 : Hid (k84 = (h68 || k83)))
  (Hk85 : Hid (k85 = (en == k84)))
  (Hk86 : Hid (k86 = (g42 && k85)))
  (HX : Hid (∀ V, Below B w1 V → V.cell? { block := A, off := 0 } = some (.bool p) ∧ V.cell? { block := A, off := 1 } = some (.string s) ∧ V.cell? { block := A + 1, off := 0 } = some (.bool q) ∧ V.cell? { block := A + 1, off := 1 } = some (.string t) ∧ V.cell? { block := A + 1 + 1, off := 0 } = some (.bool u) ∧ V.cell? { block := A + 1 + 1, off := 1 } = some (.string v)))
  (C21 : Hid (∀ V, Below B w1 V → Calls Tryz.prog 37 #[.agg #[.bool q, .string t], .agg #[.bool u, .string v]] V fun e w' => e = .returned (.bool z) ∧ Below B w1 w'))
  (C27 : Hid (∀ V, Below B w1 V → Calls Tryz.prog 37 #[.agg #[.bool p, .string s], .agg #[.bool u, .string v]] V fun e w' => e = .returned (.bool n) ∧ Below B w1 w'))
  (C44 : Hid (∀ V, Below B w1 V → Calls Tryz.prog 38 #[.agg #[.bool p, .string s]] V fun e w' => e = .returned (.string (nmL (p, s))) ∧ Below B w1 w'))
  (C46 : Hid (∀ V, Below B w1 V → Calls Tryz.prog 38 #[.agg #[.bool q, .string t]] V fun e w' => e = .returned (.string (nmL (q, t))) ∧ Below B w1 w'))
  (He : Hid (e = (decide (p = q) && decide (s.toList = t.toList)))) (Hen : Hid (en = decide ((nmL (p, s)).toList = (nmL (q, t)).toList))) (He1 : Hid (e1 = decide (s.toList = (ByteArray.mk #[58] ++ t).toList))) (He2 : Hid (e2 = decide (t.toList = (ByteArray.mk #[58] ++ s).toList)))
  (hs : Hid (s.size ≤ 1048576)) (ht : Hid (t.size ≤ 1048576)) (hHeld : Below B w1 w)
  (hQ : ∀ tm W, Below B w1 W → tm[6]? = some (.bool k86) → tm.size = 106 → Q .normal ⟨tm, []⟩ W) :
  wpAnyH Tryz.prog .any O Q (fun V => Below B w1 V) 66 ls1 ⟨#[v0, v1, v2, (.pointer (some { block := A, off := 0 })), (.pointer (some { block := A + 1, off := 0 })), (.pointer (some { block := A + 1 + 1, off := 0 })), (.bool false), v7, (.bool x), (.bool y), v10, v11, v12, v13, v14, v15, v16, v17, v18, (.bool x), (.bool x), (cond (x) (.bool y) undef), (.bool k3), (.bool (!k3)), (.bool g5), (cond (g5) (.bool x) undef), (cond (g5) (.bool h7) undef), (cond (g5 && !h7) (.bool y) undef), (cond (g5) (.bool k9) undef), (cond (g5) (.agg #[.bool p, .string s]) undef), (cond (g5) (.agg #[.bool q, .string t]) undef), (cond (g5) (.bool (!e)) undef), (cond (g5) (.bool k13) undef), (.bool k14), (.bool g15), (cond (g15) (.bool x) undef), (cond (g15) (.bool (!x)) undef), (cond (g15) (.bool h18) undef), (cond (g15 && !h18) (.agg #[.bool q, .string t]) undef), (cond (g15 && !h18) (.agg #[.bool u, .string v]) undef), (cond (g15 && !h18) (.bool z) undef), undef, undef, undef, undef, undef, undef, undef, undef, undef, undef, undef, undef, undef, undef, undef, undef, undef, undef, undef, undef, undef, undef, undef, undef, undef, undef, undef, undef, undef, undef, undef, undef, undef, undef, undef, undef, undef, undef, undef, undef, undef, undef, undef, undef, undef, undef, undef, undef, undef, undef, undef, undef, undef, undef, undef, undef, undef, undef, undef, undef, undef, undef, undef, undef, undef], []⟩ w := by
 refine wpAnyH_take (i := 22) (oi := o22) (v := (cond (g15 && !h18) (.bool (!z)) undef)) (by kernel_rfl) (by kernel_rfl) (by kernel_rfl) (by kernel_rfl) (by exact fun _ _ _ h => hP _ _ _ _ _ h) ?_ (by assumption) ?_
 ·cases g15 <;> cases h18 <;> first | exact Or.inr ⟨rfl, rfl⟩ | (refine Or.inl ⟨rfl, ?_⟩; intro w hSw; obtain ⟨p0, p1, p2, p3, p4, p5⟩ := HX.out _ hSw; dsimp only [o22, cond_true, cond_false, Bool.true_and, Bool.false_and, Bool.and_true, Bool.and_false, Bool.not_true, Bool.not_false]; go_simp; try with_reducible rfl)
 simp only [Act.put, List.setIfInBounds_toArray, List.set_cons_zero, List.set_cons_succ]
 refine wpAnyH_take (i := 23) (oi := o23) (v := (cond (g15) (.bool k23) undef)) (by kernel_rfl) (by kernel_rfl) (by kernel_rfl) (by kernel_rfl) (by exact fun _ _ _ h => hP _ _ _ _ _ h) ?_ (by assumption) ?_
 ·rw [show k23 = (h18 || (!z)) from Hk23.out]; cases g15 <;> cases h18 <;> first | exact Or.inr ⟨rfl, rfl⟩ | (refine Or.inl ⟨rfl, ?_⟩; intro w hSw; obtain ⟨p0, p1, p2, p3, p4, p5⟩ := HX.out _ hSw; dsimp only [o23, cond_true, cond_false, Bool.true_and, Bool.false_and, Bool.and_true, Bool.and_false, Bool.not_true, Bool.not_false]; go_simp; try with_reducible rfl)
 simp only [Act.put, List.setIfInBounds_toArray, List.set_cons_zero, List.set_cons_succ]
 refine wpAnyH_take (i := 24) (oi := o24) (v := (cond (g15) (.bool h24) undef)) (by kernel_rfl) (by kernel_rfl) (by kernel_rfl) (by kernel_rfl) (by exact fun _ _ _ h => hP _ _ _ _ _ h) ?_ (by assumption) ?_
 ·rw [show h24 = k23 from Hh24.out]; cases g15 <;> first | exact Or.inr ⟨rfl, rfl⟩ | (refine Or.inl ⟨rfl, ?_⟩; intro w hSw; obtain ⟨p0, p1, p2, p3, p4, p5⟩ := HX.out _ hSw; dsimp only [o24, cond_true, cond_false, Bool.true_and, Bool.false_and, Bool.and_true, Bool.and_false, Bool.not_true, Bool.not_false]; go_simp; try with_reducible rfl)
 simp only [Act.put, List.setIfInBounds_toArray, List.set_cons_zero, List.set_cons_succ]
 refine wpAnyH_take (i := 25) (oi := o25) (v := (cond (g15 && !h24) (.agg #[.bool p, .string s]) undef)) (by kernel_rfl) (by kernel_rfl) (by kernel_rfl) (by kernel_rfl) (by exact fun _ _ _ h => hP _ _ _ _ _ h) ?_ (by assumption) ?_
 ·cases g15 <;> cases h24 <;> first | exact Or.inr ⟨rfl, rfl⟩ | (refine Or.inl ⟨rfl, ?_⟩; intro w hSw; obtain ⟨p0, p1, p2, p3, p4, p5⟩ := HX.out _ hSw; dsimp only [o25, cond_true, cond_false, Bool.true_and, Bool.false_and, Bool.and_true, Bool.and_false, Bool.not_true, Bool.not_false]; go_simp; try with_reducible rfl)
 simp only [Act.put, List.setIfInBounds_toArray, List.set_cons_zero, List.set_cons_succ]
 refine wpAnyH_take (i := 26) (oi := o26) (v := (cond (g15 && !h24) (.agg #[.bool u, .string v]) undef)) (by kernel_rfl) (by kernel_rfl) (by kernel_rfl) (by kernel_rfl) (by exact fun _ _ _ h => hP _ _ _ _ _ h) ?_ (by assumption) ?_
 ·cases g15 <;> cases h24 <;> first | exact Or.inr ⟨rfl, rfl⟩ | (refine Or.inl ⟨rfl, ?_⟩; intro w hSw; obtain ⟨p0, p1, p2, p3, p4, p5⟩ := HX.out _ hSw; dsimp only [o26, cond_true, cond_false, Bool.true_and, Bool.false_and, Bool.and_true, Bool.and_false, Bool.not_true, Bool.not_false]; go_simp; try with_reducible rfl)
 simp only [Act.put, List.setIfInBounds_toArray, List.set_cons_zero, List.set_cons_succ]
 refine callG (i := 27) (o := o27) (v := (cond (g15 && !h24) (.bool n) undef)) (by kernel_rfl) (by kernel_rfl) (fun K hK => ?_) (fun W27 HW27 => ?_)
 ·cases g15 <;> cases h24 <;> cases h18 <;> first | exact hK _ hHeld | (dsimp only [o27, cond_true, cond_false, Bool.true_and, Bool.false_and, Bool.and_true, Bool.and_false, Bool.not_true, Bool.not_false]; go_simp; refine (C27.out _ hHeld).mono ?_; rintro e w' ⟨rfl, hb⟩; exact hK _ hb)
 simp only [Act.put, List.setIfInBounds_toArray, List.set_cons_zero, List.set_cons_succ]
 refine wpAnyH_take (i := 28) (oi := o28) (v := (cond (g15) (.bool k28) undef)) (by kernel_rfl) (by kernel_rfl) (by kernel_rfl) (by kernel_rfl) (by exact fun _ _ _ h => hP _ _ _ _ _ h) ?_ (by assumption) ?_
 ·rw [show k28 = (h24 || n) from Hk28.out]; cases g15 <;> cases h24 <;> first | exact Or.inr ⟨rfl, rfl⟩ | (refine Or.inl ⟨rfl, ?_⟩; intro w hSw; obtain ⟨p0, p1, p2, p3, p4, p5⟩ := HX.out _ hSw; dsimp only [o28, cond_true, cond_false, Bool.true_and, Bool.false_and, Bool.and_true, Bool.and_false, Bool.not_true, Bool.not_false]; go_simp; try with_reducible rfl)
 simp only [Act.put, List.setIfInBounds_toArray, List.set_cons_zero, List.set_cons_succ]
 refine wpAnyH_take (i := 29) (oi := o29) (v := (.bool k29)) (by kernel_rfl) (by kernel_rfl) (by kernel_rfl) (by kernel_rfl) (by exact fun _ _ _ h => hP _ _ _ _ _ h) ?_ (by assumption) ?_
 ·rw [show k29 = (g15 && k28) from Hk29.out]; cases g15 <;> first | exact Or.inr ⟨rfl, rfl⟩ | (refine Or.inl ⟨rfl, ?_⟩; intro w hSw; obtain ⟨p0, p1, p2, p3, p4, p5⟩ := HX.out _ hSw; dsimp only [o29, cond_true, cond_false, Bool.true_and, Bool.false_and, Bool.and_true, Bool.and_false, Bool.not_true, Bool.not_false]; go_simp; try with_reducible rfl)
 simp only [Act.put, List.setIfInBounds_toArray, List.set_cons_zero, List.set_cons_succ]
 refine wpAnyH_take (i := 30) (oi := o30) (v := (.bool g30)) (by kernel_rfl) (by kernel_rfl) (by kernel_rfl) (by kernel_rfl) (by exact fun _ _ _ h => hP _ _ _ _ _ h) ?_ (by assumption) ?_
 ·rw [show g30 = k29 from Hg30.out]; first | exact Or.inr ⟨rfl, rfl⟩ | (refine Or.inl ⟨rfl, ?_⟩; intro w hSw; obtain ⟨p0, p1, p2, p3, p4, p5⟩ := HX.out _ hSw; dsimp only [o30, cond_true, cond_false, Bool.true_and, Bool.false_and, Bool.and_true, Bool.and_false, Bool.not_true, Bool.not_false]; go_simp; try with_reducible rfl)
 simp only [Act.put, List.setIfInBounds_toArray, List.set_cons_zero, List.set_cons_succ]
 refine wpAnyH_take (i := 31) (oi := o31) (v := (cond (g30) (.pointer (some { block := A, off := 0 })) undef)) (by kernel_rfl) (by kernel_rfl) (by kernel_rfl) (by kernel_rfl) (by exact fun _ _ _ h => hP _ _ _ _ _ h) ?_ (by assumption) ?_
 ·cases g30 <;> first | exact Or.inr ⟨rfl, rfl⟩ | (refine Or.inl ⟨rfl, ?_⟩; intro w hSw; obtain ⟨p0, p1, p2, p3, p4, p5⟩ := HX.out _ hSw; dsimp only [o31, cond_true, cond_false, Bool.true_and, Bool.false_and, Bool.and_true, Bool.and_false, Bool.not_true, Bool.not_false]; go_simp; try with_reducible rfl)
 simp only [Act.put, List.setIfInBounds_toArray, List.set_cons_zero, List.set_cons_succ]
 refine wpAnyH_take (i := 32) (oi := o32) (v := (cond (g30) (.bool p) undef)) (by kernel_rfl) (by kernel_rfl) (by kernel_rfl) (by kernel_rfl) (by exact fun _ _ _ h => hP _ _ _ _ _ h) ?_ (by assumption) ?_
 ·cases g30 <;> first | exact Or.inr ⟨rfl, rfl⟩ | (refine Or.inl ⟨rfl, ?_⟩; intro w hSw; obtain ⟨p0, p1, p2, p3, p4, p5⟩ := HX.out _ hSw; dsimp only [o32, cond_true, cond_false, Bool.true_and, Bool.false_and, Bool.and_true, Bool.and_false, Bool.not_true, Bool.not_false]; go_simp; try with_reducible rfl)
 simp only [Act.put, List.setIfInBounds_toArray, List.set_cons_zero, List.set_cons_succ]
 refine wpAnyH_take (i := 33) (oi := o33) (v := (cond (g30) (.bool h33) undef)) (by kernel_rfl) (by kernel_rfl) (by kernel_rfl) (by kernel_rfl) (by exact fun _ _ _ h => hP _ _ _ _ _ h) ?_ (by assumption) ?_
 ·rw [show h33 = p from Hh33.out]; cases g30 <;> first | exact Or.inr ⟨rfl, rfl⟩ | (refine Or.inl ⟨rfl, ?_⟩; intro w hSw; obtain ⟨p0, p1, p2, p3, p4, p5⟩ := HX.out _ hSw; dsimp only [o33, cond_true, cond_false, Bool.true_and, Bool.false_and, Bool.and_true, Bool.and_false, Bool.not_true, Bool.not_false]; go_simp; try with_reducible rfl)
 simp only [Act.put, List.setIfInBounds_toArray, List.set_cons_zero, List.set_cons_succ]
 refine wpAnyH_take (i := 34) (oi := o34) (v := (cond (g30 && !h33) (.pointer (some { block := A + 1, off := 0 })) undef)) (by kernel_rfl) (by kernel_rfl) (by kernel_rfl) (by kernel_rfl) (by exact fun _ _ _ h => hP _ _ _ _ _ h) ?_ (by assumption) ?_
 ·cases g30 <;> cases h33 <;> first | exact Or.inr ⟨rfl, rfl⟩ | (refine Or.inl ⟨rfl, ?_⟩; intro w hSw; obtain ⟨p0, p1, p2, p3, p4, p5⟩ := HX.out _ hSw; dsimp only [o34, cond_true, cond_false, Bool.true_and, Bool.false_and, Bool.and_true, Bool.and_false, Bool.not_true, Bool.not_false]; go_simp; try with_reducible rfl)
 simp only [Act.put, List.setIfInBounds_toArray, List.set_cons_zero, List.set_cons_succ]
 refine wpAnyH_take (i := 35) (oi := o35) (v := (cond (g30 && !h33) (.bool q) undef)) (by kernel_rfl) (by kernel_rfl) (by kernel_rfl) (by kernel_rfl) (by exact fun _ _ _ h => hP _ _ _ _ _ h) ?_ (by assumption) ?_
 ·cases g30 <;> cases h33 <;> first | exact Or.inr ⟨rfl, rfl⟩ | (refine Or.inl ⟨rfl, ?_⟩; intro w hSw; obtain ⟨p0, p1, p2, p3, p4, p5⟩ := HX.out _ hSw; dsimp only [o35, cond_true, cond_false, Bool.true_and, Bool.false_and, Bool.and_true, Bool.and_false, Bool.not_true, Bool.not_false]; go_simp; try with_reducible rfl)
 simp only [Act.put, List.setIfInBounds_toArray, List.set_cons_zero, List.set_cons_succ]
 refine wpAnyH_take (i := 36) (oi := o36) (v := (cond (g30 && !h33) (.bool (!q)) undef)) (by kernel_rfl) (by kernel_rfl) (by kernel_rfl) (by kernel_rfl) (by exact fun _ _ _ h => hP _ _ _ _ _ h) ?_ (by assumption) ?_
 ·cases g30 <;> cases h33 <;> first | exact Or.inr ⟨rfl, rfl⟩ | (refine Or.inl ⟨rfl, ?_⟩; intro w hSw; obtain ⟨p0, p1, p2, p3, p4, p5⟩ := HX.out _ hSw; dsimp only [o36, cond_true, cond_false, Bool.true_and, Bool.false_and, Bool.and_true, Bool.and_false, Bool.not_true, Bool.not_false]; go_simp; try with_reducible rfl)
 simp only [Act.put, List.setIfInBounds_toArray, List.set_cons_zero, List.set_cons_succ]
 refine wpAnyH_take (i := 37) (oi := o37) (v := (cond (g30) (.bool k37) undef)) (by kernel_rfl) (by kernel_rfl) (by kernel_rfl) (by kernel_rfl) (by exact fun _ _ _ h => hP _ _ _ _ _ h) ?_ (by assumption) ?_
 ·rw [show k37 = (h33 || (!q)) from Hk37.out]; cases g30 <;> cases h33 <;> first | exact Or.inr ⟨rfl, rfl⟩ | (refine Or.inl ⟨rfl, ?_⟩; intro w hSw; obtain ⟨p0, p1, p2, p3, p4, p5⟩ := HX.out _ hSw; dsimp only [o37, cond_true, cond_false, Bool.true_and, Bool.false_and, Bool.and_true, Bool.and_false, Bool.not_true, Bool.not_false]; go_simp; try with_reducible rfl)
 simp only [Act.put, List.setIfInBounds_toArray, List.set_cons_zero, List.set_cons_succ]
 refine wpAnyH_take (i := 38) (oi := o38) (v := (cond (g30) (.bool h38) undef)) (by kernel_rfl) (by kernel_rfl) (by kernel_rfl) (by kernel_rfl) (by exact fun _ _ _ h => hP _ _ _ _ _ h) ?_ (by assumption) ?_
 ·rw [show h38 = k37 from Hh38.out]; cases g30 <;> first | exact Or.inr ⟨rfl, rfl⟩ | (refine Or.inl ⟨rfl, ?_⟩; intro w hSw; obtain ⟨p0, p1, p2, p3, p4, p5⟩ := HX.out _ hSw; dsimp only [o38, cond_true, cond_false, Bool.true_and, Bool.false_and, Bool.and_true, Bool.and_false, Bool.not_true, Bool.not_false]; go_simp; try with_reducible rfl)
 simp only [Act.put, List.setIfInBounds_toArray, List.set_cons_zero, List.set_cons_succ]
 refine wpAnyH_take (i := 39) (oi := o39) (v := (cond (g30 && !h38) (.bool x) undef)) (by kernel_rfl) (by kernel_rfl) (by kernel_rfl) (by kernel_rfl) (by exact fun _ _ _ h => hP _ _ _ _ _ h) ?_ (by assumption) ?_
 ·cases g30 <;> cases h38 <;> first | exact Or.inr ⟨rfl, rfl⟩ | (refine Or.inl ⟨rfl, ?_⟩; intro w hSw; obtain ⟨p0, p1, p2, p3, p4, p5⟩ := HX.out _ hSw; dsimp only [o39, cond_true, cond_false, Bool.true_and, Bool.false_and, Bool.and_true, Bool.and_false, Bool.not_true, Bool.not_false]; go_simp; try with_reducible rfl)
 simp only [Act.put, List.setIfInBounds_toArray, List.set_cons_zero, List.set_cons_succ]
 refine wpAnyH_take (i := 40) (oi := o40) (v := (cond (g30) (.bool k40) undef)) (by kernel_rfl) (by kernel_rfl) (by kernel_rfl) (by kernel_rfl) (by exact fun _ _ _ h => hP _ _ _ _ _ h) ?_ (by assumption) ?_
 ·rw [show k40 = (h38 || x) from Hk40.out]; cases g30 <;> cases h38 <;> first | exact Or.inr ⟨rfl, rfl⟩ | (refine Or.inl ⟨rfl, ?_⟩; intro w hSw; obtain ⟨p0, p1, p2, p3, p4, p5⟩ := HX.out _ hSw; dsimp only [o40, cond_true, cond_false, Bool.true_and, Bool.false_and, Bool.and_true, Bool.and_false, Bool.not_true, Bool.not_false]; go_simp; try with_reducible rfl)
 simp only [Act.put, List.setIfInBounds_toArray, List.set_cons_zero, List.set_cons_succ]
 refine wpAnyH_take (i := 41) (oi := o41) (v := (.bool k41)) (by kernel_rfl) (by kernel_rfl) (by kernel_rfl) (by kernel_rfl) (by exact fun _ _ _ h => hP _ _ _ _ _ h) ?_ (by assumption) ?_
 ·rw [show k41 = (g30 && k40) from Hk41.out]; cases g30 <;> first | exact Or.inr ⟨rfl, rfl⟩ | (refine Or.inl ⟨rfl, ?_⟩; intro w hSw; obtain ⟨p0, p1, p2, p3, p4, p5⟩ := HX.out _ hSw; dsimp only [o41, cond_true, cond_false, Bool.true_and, Bool.false_and, Bool.and_true, Bool.and_false, Bool.not_true, Bool.not_false]; go_simp; try with_reducible rfl)
 simp only [Act.put, List.setIfInBounds_toArray, List.set_cons_zero, List.set_cons_succ]
 refine wpAnyH_take (i := 42) (oi := o42) (v := (.bool g42)) (by kernel_rfl) (by kernel_rfl) (by kernel_rfl) (by kernel_rfl) (by exact fun _ _ _ h => hP _ _ _ _ _ h) ?_ (by assumption) ?_
 ·rw [show g42 = k41 from Hg42.out]; first | exact Or.inr ⟨rfl, rfl⟩ | (refine Or.inl ⟨rfl, ?_⟩; intro w hSw; obtain ⟨p0, p1, p2, p3, p4, p5⟩ := HX.out _ hSw; dsimp only [o42, cond_true, cond_false, Bool.true_and, Bool.false_and, Bool.and_true, Bool.and_false, Bool.not_true, Bool.not_false]; go_simp; try with_reducible rfl)
 simp only [Act.put, List.setIfInBounds_toArray, List.set_cons_zero, List.set_cons_succ]
 refine wpAnyH_take (i := 43) (oi := o43) (v := (cond (g42) (.agg #[.bool p, .string s]) undef)) (by kernel_rfl) (by kernel_rfl) (by kernel_rfl) (by kernel_rfl) (by exact fun _ _ _ h => hP _ _ _ _ _ h) ?_ (by assumption) ?_
 ·cases g42 <;> first | exact Or.inr ⟨rfl, rfl⟩ | (refine Or.inl ⟨rfl, ?_⟩; intro w hSw; obtain ⟨p0, p1, p2, p3, p4, p5⟩ := HX.out _ hSw; dsimp only [o43, cond_true, cond_false, Bool.true_and, Bool.false_and, Bool.and_true, Bool.and_false, Bool.not_true, Bool.not_false]; go_simp; try with_reducible rfl)
 simp only [Act.put, List.setIfInBounds_toArray, List.set_cons_zero, List.set_cons_succ]
 exact r5p2 hP Hk3 Hg5 Hh7 Hk9 Hk13 Hk14 Hg15 Hh18 Hk23 Hh24 Hk28 Hk29 Hg30 Hh33 Hk37 Hh38 Hk40 Hk41 Hg42 Hh51 Hh58 Hk61 Hh62 Hk66 Hk67 Hh68 Hh75 Hk78 Hh79 Hk83 Hk84 Hk85 Hk86 HX C21 C27 C44 C46 He Hen He1 He2 hs ht HW27 hQ
abbrev ls0 : Array Bool := (Array.replicate 88 false)
theorem r5p0
  {A B : Nat} {w1 w : World} {Q : Exit → Act → World → Prop} (hP : ∀ c (a : Act) d v w, Q (.panic c) (a.put d v) w → Q (.panic c) a w) {x y z n e en e1 e2 g5 h7 g15 h18 h24 g30 h33 h38 g42 h51 h58 h62 h68 h75 h79 k3 k9 k13 k14 k23 k28 k29 k37 k40 k41 k61 k66 k67 k78 k83 k84 k85 k86 p q u : Bool} {s t v : ByteArray} {v0 v1 v2 v7 v10 v11 v12 v13 v14 v15 v16 v17 v18 : Value}
  (Hk3 : Hid (k3 = (x && y)))
  (Hg5 : Hid (g5 = (!k3)))
  (Hh7 : Hid (h7 = x))
  (Hk9 : Hid (k9 = (h7 || y)))
  (Hk13 : Hid (k13 = (k9 == (!e))))
  (Hk14 : Hid (k14 = (g5 && k13)))
  (Hg15 : Hid (g15 = k14))
  (Hh18 : Hid (h18 = (!x)))
  (Hk23 : Hid (k23 = (h18 || (!z))))
  (Hh24 : Hid (h24 = k23))
  (Hk28 : Hid (k28 = (h24 || n)))
  (Hk29 : Hid (k29 = (g15 && k28)))
  (Hg30 : Hid (g30 = k29))
  (Hh33 : Hid (h33 = p))
  (Hk37 : Hid (k37 = (h33 || (!q))))
  (Hh38 : Hid (h38 = k37))
  (Hk40 : Hid (k40 = (h38 || x)))
  (Hk41 : Hid (k41 = (g30 && k40)))
  (Hg42 : Hid (g42 = k41))
  (Hh51 : Hid (h51 = e))
  (Hh58 : Hid (h58 = e1))
  (Hk61 : Hid (k61 = (h58 && q)))
  (Hh62 : Hid (h62 = k61))
  (Hk66 : Hid (k66 = (h62 && (!p))))
  (Hk67 : Hid (k67 = (h51 || k66)))
  (Hh68 : Hid (h68 = k67))
  (Hh75 : Hid (h75 = e2))
  (Hk78 : Hid (k78 = (h75 && p)))
  (Hh79 : Hid (h79 = k78))
  (Hk83 : Hid (k83 = (h79 && (!q))))
  (Hk84 : Hid (k84 = (h68 || k83)))
  (Hk85 : Hid (k85 = (en == k84)))
  (Hk86 : Hid (k86 = (g42 && k85)))
  (HX : Hid (∀ V, Below B w1 V → V.cell? { block := A, off := 0 } = some (.bool p) ∧ V.cell? { block := A, off := 1 } = some (.string s) ∧ V.cell? { block := A + 1, off := 0 } = some (.bool q) ∧ V.cell? { block := A + 1, off := 1 } = some (.string t) ∧ V.cell? { block := A + 1 + 1, off := 0 } = some (.bool u) ∧ V.cell? { block := A + 1 + 1, off := 1 } = some (.string v)))
  (C21 : Hid (∀ V, Below B w1 V → Calls Tryz.prog 37 #[.agg #[.bool q, .string t], .agg #[.bool u, .string v]] V fun e w' => e = .returned (.bool z) ∧ Below B w1 w'))
  (C27 : Hid (∀ V, Below B w1 V → Calls Tryz.prog 37 #[.agg #[.bool p, .string s], .agg #[.bool u, .string v]] V fun e w' => e = .returned (.bool n) ∧ Below B w1 w'))
  (C44 : Hid (∀ V, Below B w1 V → Calls Tryz.prog 38 #[.agg #[.bool p, .string s]] V fun e w' => e = .returned (.string (nmL (p, s))) ∧ Below B w1 w'))
  (C46 : Hid (∀ V, Below B w1 V → Calls Tryz.prog 38 #[.agg #[.bool q, .string t]] V fun e w' => e = .returned (.string (nmL (q, t))) ∧ Below B w1 w'))
  (He : Hid (e = (decide (p = q) && decide (s.toList = t.toList)))) (Hen : Hid (en = decide ((nmL (p, s)).toList = (nmL (q, t)).toList))) (He1 : Hid (e1 = decide (s.toList = (ByteArray.mk #[58] ++ t).toList))) (He2 : Hid (e2 = decide (t.toList = (ByteArray.mk #[58] ++ s).toList)))
  (hs : Hid (s.size ≤ 1048576)) (ht : Hid (t.size ≤ 1048576)) (hHeld : Below B w1 w)
  (hQ : ∀ tm W, Below B w1 W → tm[6]? = some (.bool k86) → tm.size = 106 → Q .normal ⟨tm, []⟩ W) :
  wpAnyH Tryz.prog .any O Q (fun V => Below B w1 V) 88 ls0 ⟨#[v0, v1, v2, (.pointer (some { block := A, off := 0 })), (.pointer (some { block := A + 1, off := 0 })), (.pointer (some { block := A + 1 + 1, off := 0 })), (.bool false), v7, (.bool x), (.bool y), v10, v11, v12, v13, v14, v15, v16, v17, v18, undef, undef, undef, undef, undef, undef, undef, undef, undef, undef, undef, undef, undef, undef, undef, undef, undef, undef, undef, undef, undef, undef, undef, undef, undef, undef, undef, undef, undef, undef, undef, undef, undef, undef, undef, undef, undef, undef, undef, undef, undef, undef, undef, undef, undef, undef, undef, undef, undef, undef, undef, undef, undef, undef, undef, undef, undef, undef, undef, undef, undef, undef, undef, undef, undef, undef, undef, undef, undef, undef, undef, undef, undef, undef, undef, undef, undef, undef, undef, undef, undef, undef, undef, undef, undef, undef, undef], []⟩ w := by
 refine wpAnyH_take (i := 0) (oi := o0) (v := (.bool x)) (by kernel_rfl) (by kernel_rfl) (by kernel_rfl) (by kernel_rfl) (by exact fun _ _ _ h => hP _ _ _ _ _ h) ?_ (by assumption) ?_
 ·first | exact Or.inr ⟨rfl, rfl⟩ | (refine Or.inl ⟨rfl, ?_⟩; intro w hSw; obtain ⟨p0, p1, p2, p3, p4, p5⟩ := HX.out _ hSw; dsimp only [o0, cond_true, cond_false, Bool.true_and, Bool.false_and, Bool.and_true, Bool.and_false, Bool.not_true, Bool.not_false]; go_simp; try with_reducible rfl)
 simp only [Act.put, List.setIfInBounds_toArray, List.set_cons_zero, List.set_cons_succ]
 refine wpAnyH_take (i := 1) (oi := o1) (v := (.bool x)) (by kernel_rfl) (by kernel_rfl) (by kernel_rfl) (by kernel_rfl) (by exact fun _ _ _ h => hP _ _ _ _ _ h) ?_ (by assumption) ?_
 ·first | exact Or.inr ⟨rfl, rfl⟩ | (refine Or.inl ⟨rfl, ?_⟩; intro w hSw; obtain ⟨p0, p1, p2, p3, p4, p5⟩ := HX.out _ hSw; dsimp only [o1, cond_true, cond_false, Bool.true_and, Bool.false_and, Bool.and_true, Bool.and_false, Bool.not_true, Bool.not_false]; go_simp; try with_reducible rfl)
 simp only [Act.put, List.setIfInBounds_toArray, List.set_cons_zero, List.set_cons_succ]
 refine wpAnyH_take (i := 2) (oi := o2) (v := (cond (x) (.bool y) undef)) (by kernel_rfl) (by kernel_rfl) (by kernel_rfl) (by kernel_rfl) (by exact fun _ _ _ h => hP _ _ _ _ _ h) ?_ (by assumption) ?_
 ·cases x <;> first | exact Or.inr ⟨rfl, rfl⟩ | (refine Or.inl ⟨rfl, ?_⟩; intro w hSw; obtain ⟨p0, p1, p2, p3, p4, p5⟩ := HX.out _ hSw; dsimp only [o2, cond_true, cond_false, Bool.true_and, Bool.false_and, Bool.and_true, Bool.and_false, Bool.not_true, Bool.not_false]; go_simp; try with_reducible rfl)
 simp only [Act.put, List.setIfInBounds_toArray, List.set_cons_zero, List.set_cons_succ]
 refine wpAnyH_take (i := 3) (oi := o3) (v := (.bool k3)) (by kernel_rfl) (by kernel_rfl) (by kernel_rfl) (by kernel_rfl) (by exact fun _ _ _ h => hP _ _ _ _ _ h) ?_ (by assumption) ?_
 ·rw [show k3 = (x && y) from Hk3.out]; cases x <;> first | exact Or.inr ⟨rfl, rfl⟩ | (refine Or.inl ⟨rfl, ?_⟩; intro w hSw; obtain ⟨p0, p1, p2, p3, p4, p5⟩ := HX.out _ hSw; dsimp only [o3, cond_true, cond_false, Bool.true_and, Bool.false_and, Bool.and_true, Bool.and_false, Bool.not_true, Bool.not_false]; go_simp; try with_reducible rfl)
 simp only [Act.put, List.setIfInBounds_toArray, List.set_cons_zero, List.set_cons_succ]
 refine wpAnyH_take (i := 4) (oi := o4) (v := (.bool (!k3))) (by kernel_rfl) (by kernel_rfl) (by kernel_rfl) (by kernel_rfl) (by exact fun _ _ _ h => hP _ _ _ _ _ h) ?_ (by assumption) ?_
 ·first | exact Or.inr ⟨rfl, rfl⟩ | (refine Or.inl ⟨rfl, ?_⟩; intro w hSw; obtain ⟨p0, p1, p2, p3, p4, p5⟩ := HX.out _ hSw; dsimp only [o4, cond_true, cond_false, Bool.true_and, Bool.false_and, Bool.and_true, Bool.and_false, Bool.not_true, Bool.not_false]; go_simp; try with_reducible rfl)
 simp only [Act.put, List.setIfInBounds_toArray, List.set_cons_zero, List.set_cons_succ]
 refine wpAnyH_take (i := 5) (oi := o5) (v := (.bool g5)) (by kernel_rfl) (by kernel_rfl) (by kernel_rfl) (by kernel_rfl) (by exact fun _ _ _ h => hP _ _ _ _ _ h) ?_ (by assumption) ?_
 ·rw [show g5 = (!k3) from Hg5.out]; first | exact Or.inr ⟨rfl, rfl⟩ | (refine Or.inl ⟨rfl, ?_⟩; intro w hSw; obtain ⟨p0, p1, p2, p3, p4, p5⟩ := HX.out _ hSw; dsimp only [o5, cond_true, cond_false, Bool.true_and, Bool.false_and, Bool.and_true, Bool.and_false, Bool.not_true, Bool.not_false]; go_simp; try with_reducible rfl)
 simp only [Act.put, List.setIfInBounds_toArray, List.set_cons_zero, List.set_cons_succ]
 refine wpAnyH_take (i := 6) (oi := o6) (v := (cond (g5) (.bool x) undef)) (by kernel_rfl) (by kernel_rfl) (by kernel_rfl) (by kernel_rfl) (by exact fun _ _ _ h => hP _ _ _ _ _ h) ?_ (by assumption) ?_
 ·cases g5 <;> first | exact Or.inr ⟨rfl, rfl⟩ | (refine Or.inl ⟨rfl, ?_⟩; intro w hSw; obtain ⟨p0, p1, p2, p3, p4, p5⟩ := HX.out _ hSw; dsimp only [o6, cond_true, cond_false, Bool.true_and, Bool.false_and, Bool.and_true, Bool.and_false, Bool.not_true, Bool.not_false]; go_simp; try with_reducible rfl)
 simp only [Act.put, List.setIfInBounds_toArray, List.set_cons_zero, List.set_cons_succ]
 refine wpAnyH_take (i := 7) (oi := o7) (v := (cond (g5) (.bool h7) undef)) (by kernel_rfl) (by kernel_rfl) (by kernel_rfl) (by kernel_rfl) (by exact fun _ _ _ h => hP _ _ _ _ _ h) ?_ (by assumption) ?_
 ·rw [show h7 = x from Hh7.out]; cases g5 <;> first | exact Or.inr ⟨rfl, rfl⟩ | (refine Or.inl ⟨rfl, ?_⟩; intro w hSw; obtain ⟨p0, p1, p2, p3, p4, p5⟩ := HX.out _ hSw; dsimp only [o7, cond_true, cond_false, Bool.true_and, Bool.false_and, Bool.and_true, Bool.and_false, Bool.not_true, Bool.not_false]; go_simp; try with_reducible rfl)
 simp only [Act.put, List.setIfInBounds_toArray, List.set_cons_zero, List.set_cons_succ]
 refine wpAnyH_take (i := 8) (oi := o8) (v := (cond (g5 && !h7) (.bool y) undef)) (by kernel_rfl) (by kernel_rfl) (by kernel_rfl) (by kernel_rfl) (by exact fun _ _ _ h => hP _ _ _ _ _ h) ?_ (by assumption) ?_
 ·cases g5 <;> cases h7 <;> first | exact Or.inr ⟨rfl, rfl⟩ | (refine Or.inl ⟨rfl, ?_⟩; intro w hSw; obtain ⟨p0, p1, p2, p3, p4, p5⟩ := HX.out _ hSw; dsimp only [o8, cond_true, cond_false, Bool.true_and, Bool.false_and, Bool.and_true, Bool.and_false, Bool.not_true, Bool.not_false]; go_simp; try with_reducible rfl)
 simp only [Act.put, List.setIfInBounds_toArray, List.set_cons_zero, List.set_cons_succ]
 refine wpAnyH_take (i := 9) (oi := o9) (v := (cond (g5) (.bool k9) undef)) (by kernel_rfl) (by kernel_rfl) (by kernel_rfl) (by kernel_rfl) (by exact fun _ _ _ h => hP _ _ _ _ _ h) ?_ (by assumption) ?_
 ·rw [show k9 = (h7 || y) from Hk9.out]; cases g5 <;> cases h7 <;> first | exact Or.inr ⟨rfl, rfl⟩ | (refine Or.inl ⟨rfl, ?_⟩; intro w hSw; obtain ⟨p0, p1, p2, p3, p4, p5⟩ := HX.out _ hSw; dsimp only [o9, cond_true, cond_false, Bool.true_and, Bool.false_and, Bool.and_true, Bool.and_false, Bool.not_true, Bool.not_false]; go_simp; try with_reducible rfl)
 simp only [Act.put, List.setIfInBounds_toArray, List.set_cons_zero, List.set_cons_succ]
 refine wpAnyH_take (i := 10) (oi := o10) (v := (cond (g5) (.agg #[.bool p, .string s]) undef)) (by kernel_rfl) (by kernel_rfl) (by kernel_rfl) (by kernel_rfl) (by exact fun _ _ _ h => hP _ _ _ _ _ h) ?_ (by assumption) ?_
 ·cases g5 <;> first | exact Or.inr ⟨rfl, rfl⟩ | (refine Or.inl ⟨rfl, ?_⟩; intro w hSw; obtain ⟨p0, p1, p2, p3, p4, p5⟩ := HX.out _ hSw; dsimp only [o10, cond_true, cond_false, Bool.true_and, Bool.false_and, Bool.and_true, Bool.and_false, Bool.not_true, Bool.not_false]; go_simp; try with_reducible rfl)
 simp only [Act.put, List.setIfInBounds_toArray, List.set_cons_zero, List.set_cons_succ]
 refine wpAnyH_take (i := 11) (oi := o11) (v := (cond (g5) (.agg #[.bool q, .string t]) undef)) (by kernel_rfl) (by kernel_rfl) (by kernel_rfl) (by kernel_rfl) (by exact fun _ _ _ h => hP _ _ _ _ _ h) ?_ (by assumption) ?_
 ·cases g5 <;> first | exact Or.inr ⟨rfl, rfl⟩ | (refine Or.inl ⟨rfl, ?_⟩; intro w hSw; obtain ⟨p0, p1, p2, p3, p4, p5⟩ := HX.out _ hSw; dsimp only [o11, cond_true, cond_false, Bool.true_and, Bool.false_and, Bool.and_true, Bool.and_false, Bool.not_true, Bool.not_false]; go_simp; try with_reducible rfl)
 simp only [Act.put, List.setIfInBounds_toArray, List.set_cons_zero, List.set_cons_succ]
 refine wpAnyH_take (i := 12) (oi := o12) (v := (cond (g5) (.bool (!e)) undef)) (by kernel_rfl) (by kernel_rfl) (by kernel_rfl) (by kernel_rfl) (by exact fun _ _ _ h => hP _ _ _ _ _ h) ?_ (by assumption) ?_
 ·cases g5 <;> first | exact Or.inr ⟨rfl, rfl⟩ | (refine Or.inl ⟨rfl, ?_⟩; intro w hSw; obtain ⟨p0, p1, p2, p3, p4, p5⟩ := HX.out _ hSw; dsimp only [o12, cond_true, cond_false, Bool.true_and, Bool.false_and, Bool.and_true, Bool.and_false, Bool.not_true, Bool.not_false]; go_simp; rw [He.out]; by_cases k1 : p = q <;> by_cases k2 : s.toList = t.toList <;> simp [k1, k2])
 simp only [Act.put, List.setIfInBounds_toArray, List.set_cons_zero, List.set_cons_succ]
 refine wpAnyH_take (i := 13) (oi := o13) (v := (cond (g5) (.bool k13) undef)) (by kernel_rfl) (by kernel_rfl) (by kernel_rfl) (by kernel_rfl) (by exact fun _ _ _ h => hP _ _ _ _ _ h) ?_ (by assumption) ?_
 ·rw [show k13 = (k9 == (!e)) from Hk13.out]; cases g5 <;> first | exact Or.inr ⟨rfl, rfl⟩ | (refine Or.inl ⟨rfl, ?_⟩; intro w hSw; obtain ⟨p0, p1, p2, p3, p4, p5⟩ := HX.out _ hSw; dsimp only [o13, cond_true, cond_false, Bool.true_and, Bool.false_and, Bool.and_true, Bool.and_false, Bool.not_true, Bool.not_false]; go_simp; try with_reducible rfl)
 simp only [Act.put, List.setIfInBounds_toArray, List.set_cons_zero, List.set_cons_succ]
 refine wpAnyH_take (i := 14) (oi := o14) (v := (.bool k14)) (by kernel_rfl) (by kernel_rfl) (by kernel_rfl) (by kernel_rfl) (by exact fun _ _ _ h => hP _ _ _ _ _ h) ?_ (by assumption) ?_
 ·rw [show k14 = (g5 && k13) from Hk14.out]; cases g5 <;> first | exact Or.inr ⟨rfl, rfl⟩ | (refine Or.inl ⟨rfl, ?_⟩; intro w hSw; obtain ⟨p0, p1, p2, p3, p4, p5⟩ := HX.out _ hSw; dsimp only [o14, cond_true, cond_false, Bool.true_and, Bool.false_and, Bool.and_true, Bool.and_false, Bool.not_true, Bool.not_false]; go_simp; try with_reducible rfl)
 simp only [Act.put, List.setIfInBounds_toArray, List.set_cons_zero, List.set_cons_succ]
 refine wpAnyH_take (i := 15) (oi := o15) (v := (.bool g15)) (by kernel_rfl) (by kernel_rfl) (by kernel_rfl) (by kernel_rfl) (by exact fun _ _ _ h => hP _ _ _ _ _ h) ?_ (by assumption) ?_
 ·rw [show g15 = k14 from Hg15.out]; first | exact Or.inr ⟨rfl, rfl⟩ | (refine Or.inl ⟨rfl, ?_⟩; intro w hSw; obtain ⟨p0, p1, p2, p3, p4, p5⟩ := HX.out _ hSw; dsimp only [o15, cond_true, cond_false, Bool.true_and, Bool.false_and, Bool.and_true, Bool.and_false, Bool.not_true, Bool.not_false]; go_simp; try with_reducible rfl)
 simp only [Act.put, List.setIfInBounds_toArray, List.set_cons_zero, List.set_cons_succ]
 refine wpAnyH_take (i := 16) (oi := o16) (v := (cond (g15) (.bool x) undef)) (by kernel_rfl) (by kernel_rfl) (by kernel_rfl) (by kernel_rfl) (by exact fun _ _ _ h => hP _ _ _ _ _ h) ?_ (by assumption) ?_
 ·cases g15 <;> first | exact Or.inr ⟨rfl, rfl⟩ | (refine Or.inl ⟨rfl, ?_⟩; intro w hSw; obtain ⟨p0, p1, p2, p3, p4, p5⟩ := HX.out _ hSw; dsimp only [o16, cond_true, cond_false, Bool.true_and, Bool.false_and, Bool.and_true, Bool.and_false, Bool.not_true, Bool.not_false]; go_simp; try with_reducible rfl)
 simp only [Act.put, List.setIfInBounds_toArray, List.set_cons_zero, List.set_cons_succ]
 refine wpAnyH_take (i := 17) (oi := o17) (v := (cond (g15) (.bool (!x)) undef)) (by kernel_rfl) (by kernel_rfl) (by kernel_rfl) (by kernel_rfl) (by exact fun _ _ _ h => hP _ _ _ _ _ h) ?_ (by assumption) ?_
 ·cases g15 <;> first | exact Or.inr ⟨rfl, rfl⟩ | (refine Or.inl ⟨rfl, ?_⟩; intro w hSw; obtain ⟨p0, p1, p2, p3, p4, p5⟩ := HX.out _ hSw; dsimp only [o17, cond_true, cond_false, Bool.true_and, Bool.false_and, Bool.and_true, Bool.and_false, Bool.not_true, Bool.not_false]; go_simp; try with_reducible rfl)
 simp only [Act.put, List.setIfInBounds_toArray, List.set_cons_zero, List.set_cons_succ]
 refine wpAnyH_take (i := 18) (oi := o18) (v := (cond (g15) (.bool h18) undef)) (by kernel_rfl) (by kernel_rfl) (by kernel_rfl) (by kernel_rfl) (by exact fun _ _ _ h => hP _ _ _ _ _ h) ?_ (by assumption) ?_
 ·rw [show h18 = (!x) from Hh18.out]; cases g15 <;> first | exact Or.inr ⟨rfl, rfl⟩ | (refine Or.inl ⟨rfl, ?_⟩; intro w hSw; obtain ⟨p0, p1, p2, p3, p4, p5⟩ := HX.out _ hSw; dsimp only [o18, cond_true, cond_false, Bool.true_and, Bool.false_and, Bool.and_true, Bool.and_false, Bool.not_true, Bool.not_false]; go_simp; try with_reducible rfl)
 simp only [Act.put, List.setIfInBounds_toArray, List.set_cons_zero, List.set_cons_succ]
 refine wpAnyH_take (i := 19) (oi := o19) (v := (cond (g15 && !h18) (.agg #[.bool q, .string t]) undef)) (by kernel_rfl) (by kernel_rfl) (by kernel_rfl) (by kernel_rfl) (by exact fun _ _ _ h => hP _ _ _ _ _ h) ?_ (by assumption) ?_
 ·cases g15 <;> cases h18 <;> first | exact Or.inr ⟨rfl, rfl⟩ | (refine Or.inl ⟨rfl, ?_⟩; intro w hSw; obtain ⟨p0, p1, p2, p3, p4, p5⟩ := HX.out _ hSw; dsimp only [o19, cond_true, cond_false, Bool.true_and, Bool.false_and, Bool.and_true, Bool.and_false, Bool.not_true, Bool.not_false]; go_simp; try with_reducible rfl)
 simp only [Act.put, List.setIfInBounds_toArray, List.set_cons_zero, List.set_cons_succ]
 refine wpAnyH_take (i := 20) (oi := o20) (v := (cond (g15 && !h18) (.agg #[.bool u, .string v]) undef)) (by kernel_rfl) (by kernel_rfl) (by kernel_rfl) (by kernel_rfl) (by exact fun _ _ _ h => hP _ _ _ _ _ h) ?_ (by assumption) ?_
 ·cases g15 <;> cases h18 <;> first | exact Or.inr ⟨rfl, rfl⟩ | (refine Or.inl ⟨rfl, ?_⟩; intro w hSw; obtain ⟨p0, p1, p2, p3, p4, p5⟩ := HX.out _ hSw; dsimp only [o20, cond_true, cond_false, Bool.true_and, Bool.false_and, Bool.and_true, Bool.and_false, Bool.not_true, Bool.not_false]; go_simp; try with_reducible rfl)
 simp only [Act.put, List.setIfInBounds_toArray, List.set_cons_zero, List.set_cons_succ]
 refine callG (i := 21) (o := o21) (v := (cond (g15 && !h18) (.bool z) undef)) (by kernel_rfl) (by kernel_rfl) (fun K hK => ?_) (fun W21 HW21 => ?_)
 ·cases g15 <;> cases h18 <;> first | exact hK _ hHeld | (dsimp only [o21, cond_true, cond_false, Bool.true_and, Bool.false_and, Bool.and_true, Bool.and_false, Bool.not_true, Bool.not_false]; go_simp; refine (C21.out _ hHeld).mono ?_; rintro e w' ⟨rfl, hb⟩; exact hK _ hb)
 simp only [Act.put, List.setIfInBounds_toArray, List.set_cons_zero, List.set_cons_succ]
 exact r5p1 hP Hk3 Hg5 Hh7 Hk9 Hk13 Hk14 Hg15 Hh18 Hk23 Hh24 Hk28 Hk29 Hg30 Hh33 Hk37 Hh38 Hk40 Hk41 Hg42 Hh51 Hh58 Hk61 Hh62 Hk66 Hk67 Hh68 Hh75 Hk78 Hh79 Hk83 Hk84 Hk85 Hk86 HX C21 C27 C44 C46 He Hen He1 He2 hs ht HW21 hQ
theorem r5
  {A B : Nat} {w1 w : World} {Q : Exit → Act → World → Prop} (hP : ∀ c (a : Act) d v w, Q (.panic c) (a.put d v) w → Q (.panic c) a w) {x y z n e en e1 e2 g5 h7 g15 h18 h24 g30 h33 h38 g42 h51 h58 h62 h68 h75 h79 k3 k9 k13 k14 k23 k28 k29 k37 k40 k41 k61 k66 k67 k78 k83 k84 k85 k86 p q u : Bool} {s t v : ByteArray} {v0 v1 v2 v7 v10 v11 v12 v13 v14 v15 v16 v17 v18 : Value}
  (Hk3 : Hid (k3 = (x && y)))
  (Hg5 : Hid (g5 = (!k3)))
  (Hh7 : Hid (h7 = x))
  (Hk9 : Hid (k9 = (h7 || y)))
  (Hk13 : Hid (k13 = (k9 == (!e))))
  (Hk14 : Hid (k14 = (g5 && k13)))
  (Hg15 : Hid (g15 = k14))
  (Hh18 : Hid (h18 = (!x)))
  (Hk23 : Hid (k23 = (h18 || (!z))))
  (Hh24 : Hid (h24 = k23))
  (Hk28 : Hid (k28 = (h24 || n)))
  (Hk29 : Hid (k29 = (g15 && k28)))
  (Hg30 : Hid (g30 = k29))
  (Hh33 : Hid (h33 = p))
  (Hk37 : Hid (k37 = (h33 || (!q))))
  (Hh38 : Hid (h38 = k37))
  (Hk40 : Hid (k40 = (h38 || x)))
  (Hk41 : Hid (k41 = (g30 && k40)))
  (Hg42 : Hid (g42 = k41))
  (Hh51 : Hid (h51 = e))
  (Hh58 : Hid (h58 = e1))
  (Hk61 : Hid (k61 = (h58 && q)))
  (Hh62 : Hid (h62 = k61))
  (Hk66 : Hid (k66 = (h62 && (!p))))
  (Hk67 : Hid (k67 = (h51 || k66)))
  (Hh68 : Hid (h68 = k67))
  (Hh75 : Hid (h75 = e2))
  (Hk78 : Hid (k78 = (h75 && p)))
  (Hh79 : Hid (h79 = k78))
  (Hk83 : Hid (k83 = (h79 && (!q))))
  (Hk84 : Hid (k84 = (h68 || k83)))
  (Hk85 : Hid (k85 = (en == k84)))
  (Hk86 : Hid (k86 = (g42 && k85)))
  (HX : Hid (∀ V, Below B w1 V → V.cell? { block := A, off := 0 } = some (.bool p) ∧ V.cell? { block := A, off := 1 } = some (.string s) ∧ V.cell? { block := A + 1, off := 0 } = some (.bool q) ∧ V.cell? { block := A + 1, off := 1 } = some (.string t) ∧ V.cell? { block := A + 1 + 1, off := 0 } = some (.bool u) ∧ V.cell? { block := A + 1 + 1, off := 1 } = some (.string v)))
  (C21 : Hid (∀ V, Below B w1 V → Calls Tryz.prog 37 #[.agg #[.bool q, .string t], .agg #[.bool u, .string v]] V fun e w' => e = .returned (.bool z) ∧ Below B w1 w'))
  (C27 : Hid (∀ V, Below B w1 V → Calls Tryz.prog 37 #[.agg #[.bool p, .string s], .agg #[.bool u, .string v]] V fun e w' => e = .returned (.bool n) ∧ Below B w1 w'))
  (C44 : Hid (∀ V, Below B w1 V → Calls Tryz.prog 38 #[.agg #[.bool p, .string s]] V fun e w' => e = .returned (.string (nmL (p, s))) ∧ Below B w1 w'))
  (C46 : Hid (∀ V, Below B w1 V → Calls Tryz.prog 38 #[.agg #[.bool q, .string t]] V fun e w' => e = .returned (.string (nmL (q, t))) ∧ Below B w1 w'))
  (He : Hid (e = (decide (p = q) && decide (s.toList = t.toList)))) (Hen : Hid (en = decide ((nmL (p, s)).toList = (nmL (q, t)).toList))) (He1 : Hid (e1 = decide (s.toList = (ByteArray.mk #[58] ++ t).toList))) (He2 : Hid (e2 = decide (t.toList = (ByteArray.mk #[58] ++ s).toList)))
  (hs : Hid (s.size ≤ 1048576)) (ht : Hid (t.size ≤ 1048576)) (hHeld : Below B w1 w)
  (hQ : ∀ tm W, Below B w1 W → tm[6]? = some (.bool k86) → tm.size = 106 → Q .normal ⟨tm, []⟩ W) :
  (Code.region 5 O true).wp Tryz.prog Q ⟨#[v0, v1, v2, (.pointer (some { block := A, off := 0 })), (.pointer (some { block := A + 1, off := 0 })), (.pointer (some { block := A + 1 + 1, off := 0 })), (.bool false), v7, (.bool x), (.bool y), v10, v11, v12, v13, v14, v15, v16, v17, v18, undef, undef, undef, undef, undef, undef, undef, undef, undef, undef, undef, undef, undef, undef, undef, undef, undef, undef, undef, undef, undef, undef, undef, undef, undef, undef, undef, undef, undef, undef, undef, undef, undef, undef, undef, undef, undef, undef, undef, undef, undef, undef, undef, undef, undef, undef, undef, undef, undef, undef, undef, undef, undef, undef, undef, undef, undef, undef, undef, undef, undef, undef, undef, undef, undef, undef, undef, undef, undef, undef, undef, undef, undef, undef, undef, undef, undef, undef, undef, undef, undef, undef, undef, undef, undef, undef, undef], []⟩ w := by
 refine wp_region_held_drew (S := fun V => Below B w1 V) (by kernel_rfl) ?_ (fun h => ?_)
 ·exact hHeld.trans (below_drewN (Below.refl _ _) 1)
 rw [show O.size = 88 from by kernel_rfl]
 exact r5p0 hP Hk3 Hg5 Hh7 Hk9 Hk13 Hk14 Hg15 Hh18 Hk23 Hh24 Hk28 Hk29 Hg30 Hh33 Hk37 Hh38 Hk40 Hk41 Hg42 Hh51 Hh58 Hk61 Hh62 Hk66 Hk67 Hh68 Hh75 Hk78 Hh79 Hk83 Hk84 Hk85 Hk86 HX C21 C27 C44 C46 He Hen He1 He2 hs ht h hQ
theorem endB : ∀ x y z n e en e1 e2 p q : Bool, (!(x && y) && ((x || y) == !e) && !(x && z && !n) && (p || !q || x) && (en == (e || (e1 && q && !p) || (e2 && p && !q)))) = true →
  (((((((((((((!((x && y)))) && (((((x) || y)) == (!e)))))) && (((((((!x)) || (!z)))) || n))))) && ((((((p) || (!q)))) || x))))) && ((en == ((((((e) || ((((((e1) && q))) && (!p)))))) || ((((((e2) && p))) && (!q))))))))) = true := by
 intro x y z n e en e1 e2 p q
 cases x <;> cases y <;> cases z <;> cases n <;> cases e <;> cases en <;> cases e1 <;> cases e2 <;> cases p <;> cases q <;> decide
theorem heap3 (w : World) (a b c : Obj) : (((w.alloc a).alloc b).alloc c).heap[w.heap.size]? = some a ∧ (((w.alloc a).alloc b).alloc c).heap[w.heap.size + 1]? = some b ∧ (((w.alloc a).alloc b).alloc c).heap[w.heap.size + 1 + 1]? = some c := by
 have s1 : (w.alloc a).heap.size = w.heap.size + 1 := by simp
 have s2 : ((w.alloc a).alloc b).heap.size = w.heap.size + 1 + 1 := by simp
 refine ⟨?_, ?_, ?_⟩
 ·rw [Below.heap_alloc _ _ _ (by omega), Below.heap_alloc _ _ _ (by omega)]; exact heap_alloc_new w a
 ·rw [Below.heap_alloc _ _ _ (by omega), ← s1]; exact heap_alloc_new _ b
 ·rw [← s2]; exact heap_alloc_new _ c
theorem law (a b c : Lb) (w : World) (ha : a.2.size ≤ 1048576) (hb : b.2.size ≤ 1048576) (_ : c.2.size ≤ 1048576) (hG : Exe.GX 5 294 Exe.opNames w) :
  Calls Tryz.prog 5 #[lv a, lv b, lv c] w fun e w' => e = .returned (.bool true) ∧ Below w.heap.size w w' := by
 have HCB := Lib.hid (fun (w1 : World) (h : Exe.GX 5 294 Exe.opNames w1) => Exe.beg12 h)
 have HG := Lib.hid hG
 clear hG
 obtain ⟨p, s⟩ := a
 obtain ⟨q, t⟩ := b
 obtain ⟨u, v⟩ := c
 have hs := Lib.hid (show s.size ≤ 1048576 from ha)
 have ht := Lib.hid (show t.size ≤ 1048576 from hb)
 clear ha hb
 obtain ⟨x, hx⟩ : ∃ r : Bool, r = ltL (p, s) (q, t) := ⟨_, rfl⟩
 obtain ⟨y, hy⟩ : ∃ r : Bool, r = ltL (q, t) (p, s) := ⟨_, rfl⟩
 obtain ⟨z, hz⟩ : ∃ r : Bool, r = ltL (q, t) (u, v) := ⟨_, rfl⟩
 obtain ⟨n, hn⟩ : ∃ r : Bool, r = ltL (p, s) (u, v) := ⟨_, rfl⟩
 obtain ⟨e, he⟩ : ∃ r : Bool, r = (decide (p = q) && decide (s.toList = t.toList)) := ⟨_, rfl⟩
 obtain ⟨en, hen⟩ : ∃ r : Bool, r = decide ((nmL (p, s)).toList = (nmL (q, t)).toList) := ⟨_, rfl⟩
 obtain ⟨e1, he1⟩ : ∃ r : Bool, r = decide (s.toList = (ByteArray.mk #[58] ++ t).toList) := ⟨_, rfl⟩
 obtain ⟨e2, he2⟩ : ∃ r : Bool, r = decide (t.toList = (ByteArray.mk #[58] ++ s).toList) := ⟨_, rfl⟩
 have E := Lib.hid (endB x y z n e en e1 e2 p q (by
  have f1 : (!(x && y)) = true := by rw [hx, hy]; cases h : ltL (p, s) (q, t) with | false => rfl | true => rw [ltL_asymm h]; rfl
  have f2 : (x || y) = !e := by rw [hx, hy, he, eqL_iff]; exact order_two _ _
  have f3 : (!(x && z && !n)) = true := by rw [hx, hz, hn]; cases h1 : ltL (p, s) (q, t) <;> cases h2 : ltL (q, t) (u, v) <;> first | rfl | (rw [ltL_trans h1 h2]; rfl)
  have f4 : (p || !q || x) = true := by rw [hx]; exact order_rule _ _ _ _
  have f5 : en = (e || (e1 && q && !p) || (e2 && p && !q)) := by rw [hen, he, he1, he2]; exact order_name _ _ _ _
  rw [f1, f2, f3, f4, f5, beq_self_eq_true, beq_self_eq_true]; rfl))
 have He := Lib.hid he
 have Hen := Lib.hid hen
 have He1 := Lib.hid he1
 have He2 := Lib.hid he2
 clear he hen he1 he2
 have HL : Hid (∀ (B : Nat) (w1 V : World), B ≤ w1.heap.size → Below B w1 V → ∀ a b : Lb, ∀ r : Bool, r = ltL a b → Calls Tryz.prog 37 #[lv a, lv b] V fun e w' => e = .returned (.bool r) ∧ Below B w1 w') := by
  show ∀ (B : Nat) (w1 V : World), _
  intro B w1 V hB hV a b r hr
  refine (less_any a b V).mono ?_
  rintro e w' ⟨rfl, rfl⟩
  have h1 := Nat.le_trans hB hV.size
  exact ⟨by rw [hr], (hV.alloc h1 _).alloc (by simp; omega) _⟩
 have HN : Hid (∀ (B : Nat) (w1 V : World), B ≤ w1.heap.size → Below B w1 V → ∀ a : Lb, a.2.size ≤ 1048576 → Calls Tryz.prog 38 #[lv a] V fun e w' => e = .returned (.string (nmL a)) ∧ Below B w1 w') := by
  show ∀ (B : Nat) (w1 V : World), _
  intro B w1 V hB hV a ha
  refine (name_any a V ha).mono ?_
  rintro e w' ⟨rfl, rfl⟩
  exact ⟨rfl, hV.alloc (Nat.le_trans hB hV.size) _⟩
 have HXY := Lib.hid (And.intro hx (And.intro hy (And.intro hz hn)))
 clear hx hy hz hn
 unfold lv
 go_enter Tryz.func5, Tryz.ntmps5
 go_wp2_with fail
 have HB0 := Lib.hid (show Below w.heap.size w (((w.alloc (.cells #[.bool p, .string s] 38)).alloc (.cells #[.bool q, .string t] 38)).alloc (.cells #[.bool u, .string v] 38)) from (((Below.refl _ _).alloc (Nat.le_refl _) _).alloc (by simp) _).alloc (by simp; omega) _)
 refine (HCB.out _ (HG.out.below (by decide) (HB0.out.mono HG.out.size))).mono ?_
 rintro e' w1 ⟨rfl, hb1⟩
 have HX : Hid (∀ V, Below (w.heap.size + 3) w1 V → V.cell? { block := w.heap.size, off := 0 } = some (.bool p) ∧ V.cell? { block := w.heap.size, off := 1 } = some (.string s) ∧ V.cell? { block := w.heap.size + 1, off := 0 } = some (.bool q) ∧ V.cell? { block := w.heap.size + 1, off := 1 } = some (.string t) ∧ V.cell? { block := w.heap.size + 1 + 1, off := 0 } = some (.bool u) ∧ V.cell? { block := w.heap.size + 1 + 1, off := 1 } = some (.string v)) := by
  show ∀ V, _
  intro V hV
  have h0 : V.heap[w.heap.size]? = some (.cells #[.bool p, .string s] 38) := by rw [hV.block _ (by omega), hb1.block _ (by simp; omega)]; exact (heap3 w _ _ _).1
  have h1 : V.heap[w.heap.size + 1]? = some (.cells #[.bool q, .string t] 38) := by rw [hV.block _ (by omega), hb1.block _ (by simp)]; exact (heap3 w _ _ _).2.1
  have h2 : V.heap[w.heap.size + 1 + 1]? = some (.cells #[.bool u, .string v] 38) := by rw [hV.block _ (by omega), hb1.block _ (by simp)]; exact (heap3 w _ _ _).2.2
  simp [World.cell?, h0, h1, h2]
 have HS : Hid (w.heap.size + 3 ≤ w1.heap.size) := by
  show _ ≤ _
  have := hb1.size
  simp at this
  omega
 have HB1 := Lib.hid (HB0.out.trans (hb1.mono HB0.out.size))
 clear hb1
 go_wp2_with fail
 refine wp_region_held_drew (S := fun V => Below (w.heap.size + 3) w1 V) (by kernel_rfl) ?_ (fun hHeld => ?_)
 ·exact below_drewN (Below.refl _ _) 1
 refine tkH 0 (v := ?_) ?_ ?_
 rotate_left
 ·intro w hSw; obtain ⟨p0, p1, p2, p3, p4, p5⟩ := HX.out _ hSw; go_simp; try with_reducible rfl
 try simp only [Act.put, List.setIfInBounds_toArray, List.set_cons_zero, List.set_cons_succ]
 refine tkH 1 (v := ?_) ?_ ?_
 rotate_left
 ·intro w hSw; obtain ⟨p0, p1, p2, p3, p4, p5⟩ := HX.out _ hSw; go_simp; try with_reducible rfl
 try simp only [Act.put, List.setIfInBounds_toArray, List.set_cons_zero, List.set_cons_succ]
 refine tkH 3 (v := ?_) ?_ ?_
 rotate_left
 ·intro w hSw; obtain ⟨p0, p1, p2, p3, p4, p5⟩ := HX.out _ hSw; go_simp; try with_reducible rfl
 try simp only [Act.put, List.setIfInBounds_toArray, List.set_cons_zero, List.set_cons_succ]
 refine tkH 4 (v := ?_) ?_ ?_
 rotate_left
 ·intro w hSw; obtain ⟨p0, p1, p2, p3, p4, p5⟩ := HX.out _ hSw; go_simp; try with_reducible rfl
 try simp only [Act.put, List.setIfInBounds_toArray, List.set_cons_zero, List.set_cons_succ]
 refine rdH [2] ?_
 refine rcH (fun K hK => ?_) ?_
 ·go_simp; refine (HL.out _ _ _ HS.out hHeld (p, s) (q, t) x HXY.out.1).mono ?_; rintro e' w2 ⟨rfl, hb2⟩; have HV2 := Lib.hid hb2; clear hb2; dsimp only
  refine hK.out _ _ ?_ (fun hHeld => ?_)
  ·try dsimp only
   exact HV2.out
  clear hK K
  try simp only [Act.put, List.setIfInBounds_toArray, List.set_cons_zero, List.set_cons_succ]
  refine rdH [5] ?_
  refine rcH (fun K hK => ?_) ?_
  ·go_simp; refine (HL.out _ _ _ HS.out HV2.out (q, t) (p, s) y HXY.out.2.1).mono ?_; rintro e' w3 ⟨rfl, hb3⟩; have HV3 := Lib.hid hb3; clear hb3; dsimp only
   refine hK.out _ _ ?_ (fun hHeld => ?_)
   ·try dsimp only
    exact HV3.out
   clear hK K
   try simp only [Act.put, List.setIfInBounds_toArray, List.set_cons_zero, List.set_cons_succ]
   refine tkK 6 ?_
   refine tkK 7 ?_
   try simp only [Act.put, List.setIfInBounds_toArray, List.set_cons_zero, List.set_cons_succ]
   refine wpAnyH_done (by kernel_rfl) ?_ _
   go_wp2_with fail
   refine r5 (A := w.heap.size) (B := w.heap.size + 3) (w1 := w1) (fun _ _ d _ _ h => by cases d <;> exact h) (Lib.hid rfl) (Lib.hid rfl) (Lib.hid rfl) (Lib.hid rfl) (Lib.hid rfl) (Lib.hid rfl) (Lib.hid rfl) (Lib.hid rfl) (Lib.hid rfl) (Lib.hid rfl) (Lib.hid rfl) (Lib.hid rfl) (Lib.hid rfl) (Lib.hid rfl) (Lib.hid rfl) (Lib.hid rfl) (Lib.hid rfl) (Lib.hid rfl) (Lib.hid rfl) (Lib.hid rfl) (Lib.hid rfl) (Lib.hid rfl) (Lib.hid rfl) (Lib.hid rfl) (Lib.hid rfl) (Lib.hid rfl) (Lib.hid rfl) (Lib.hid rfl) (Lib.hid rfl) (Lib.hid rfl) (Lib.hid rfl) (Lib.hid rfl) (Lib.hid rfl) HX (Lib.hid fun V hV => HL.out _ _ V HS.out hV (q, t) (u, v) z HXY.out.2.2.1) (Lib.hid fun V hV => HL.out _ _ V HS.out hV (p, s) (u, v) n HXY.out.2.2.2) (Lib.hid fun V hV => HN.out _ _ V HS.out hV (p, s) hs.out) (Lib.hid fun V hV => HN.out _ _ V HS.out hV (q, t) ht.out) He Hen He1 He2 hs ht HV3.out (fun tm W hW h6 hsz => ?_)
   rw [E.out] at h6
   go_wp2
   refine bodyPost_ret (results_tmp rfl _ _ _) rfl ?_
   rw [show tm.getD 6 undef = .bool true from by rw [Array.getD_eq_getD_getElem?, h6]; rfl]
   exact ⟨rfl, HB1.out.trans (hW.mono (by omega))⟩
  exact AllReadyH.nil
 exact AllReadyH.nil
end Go.Proofs.YtkenookpkfdblaaGreatDoor.lawLabelsOrder
