import Derived.Lib.ItoaLen
import Derived.Test.YtdhmeganlnpohaaGreatDoorMav
import Derived.Test.YtdhmeganlnpohaaGreatDoorMap
import Derived.Shelf.SlicesE.DeleteFunc
import Derived.Test.YtdhmeganlnpohaaGreatDoorMau
namespace Go.Proofs.YtdhmeganlnpohaaGreatDoor
open Go.Lib
abbrev ValT := Bool × ByteArray
def noV : ValT := (false, ⟨#[]⟩)
def capV (t : List UInt8) : ValT := if t.length ≤ 2000 then (true, ⟨t.toArray⟩) else noV
def litT (x : StepS) (i : Nat) : List UInt8 := (x.lits.getD i ⟨#[]⟩).data.toList
def firstOk : List ByteArray → Bool
 | [] => true
 | y :: _ => !(y.toList == ([] : List UInt8))
def mayB (x : StepS) : Bool := decide (1 ≤ x.op ∧ x.op ≤ 9) && decide ((x.args.length : Int) = naF x.op x.args.length) && decide ((x.lits.length : Int) = nlF x.op) && (decide (x.op ≠ 8) || firstOk x.lits) && decide (0 ≤ x.n ∧ x.n ≤ 2000) &&
 (decide (x.op = 9) || decide (x.n = 0)) && x.lits.all fun l => decide (l.size ≤ 100)
theorem mayB_iff (x : StepS) : mayB x = true ↔ MayX x := by
 unfold mayB MayX
 simp only [Bool.and_eq_true, decide_eq_true_eq, Bool.or_eq_true, List.all_eq_true]
 have e : (x.op ≠ 8 ∨ firstOk x.lits = true) ↔ (x.op = 8 → ∀ y, x.lits[0]? = some y → (y.toList == ([] : List UInt8)) = false) := by
  by_cases h : x.op = 8
  ·cases hl : x.lits with
   | nil => simp [firstOk]
   | cons y r => simp [firstOk, h]
  ·simp [h]
 rw [e]
 constructor
 ·rintro ⟨⟨⟨⟨⟨⟨a, b⟩, c⟩, d⟩, f⟩, g⟩, i⟩; exact ⟨a, b, c, d, f.1, f.2, g, i⟩
 ·rintro ⟨a, b, c, d, f1, f2, g, i⟩; exact ⟨⟨⟨⟨⟨⟨a, b⟩, c⟩, d⟩, ⟨f1, f2⟩⟩, g⟩, i⟩
def doT (x : StepS) (b : List (List UInt8)) : Option (List UInt8) :=
 if x.op = 2 then (if b.headD [] = [] then none else some (b.headD []))
 else if x.op = 3 then some (joinN (srtL (linesL (b.headD []))))
 else if x.op = 4 then some (itoa ((linesL (b.headD [])).length : Int) ++ [10])
 else if x.op = 5 then some b.flatten
 else if x.op = 6 then some (litT x 0)
 else if x.op = 7 then some (joinN ((linesL (b.headD [])).filter fun l => contains l (litT x 0)))
 else if x.op = 8 then some (replL (litT x 0) (litT x 1) (b.headD []))
 else if x.op = 9 then some ((b.headD []).take x.n.toNat)
 else some (b.headD [])
def outV : Option (List UInt8) → ValT
 | none => noV
 | some t => capV t
def doV (x : StepS) (vs : List ValT) : ValT :=
 if (mayB x && decide (vs.length = x.args.length) && vs.all (·.1)) = true then outV (doT x (vs.map (·.2.data.toList))) else noV
def normV (v : ValT) : ValT := if v.1 = true then v else noV
theorem findI_lt {xs : List ByteArray} {s : ByteArray} : findI xs s < 0 ↔ s ∉ xs := by
 rcases findI_spec xs s with ⟨h, h1⟩ | ⟨k, h, h1, _⟩
 ·rw [h]; exact ⟨fun _ hm => by obtain ⟨j, hj⟩ := List.getElem?_of_mem hm; exact h1 j hj, fun _ => by decide⟩
 ·rw [h]; exact ⟨fun e => absurd e (by omega), fun e => absurd (List.mem_of_getElem? h1) e⟩
theorem findI_ge {xs : List ByteArray} {s : ByteArray} : 0 ≤ findI xs s ↔ s ∈ xs := by
 have := @findI_lt xs s
 constructor
 ·intro h; exact Classical.byContradiction fun e => by have := this.2 e; omega
 ·intro h; exact Int.not_lt.1 fun e => this.1 e h
theorem findI_nat {xs : List ByteArray} {s : ByteArray} {k : Nat} (h : xs[k]? = some s) (h2 : ∀ j < k, xs[j]? ≠ some s) : findI xs s = (k : Int) :=
 findR_one (findI_spec xs s) (.inr ⟨k, rfl, h, h2⟩)
def setE (e : ByteArray → ValT) (k : ByteArray) (v : ValT) : ByteArray → ValT := fun n => if n = k then v else e n
def byE : List ByteArray → List ValT → (ByteArray → ValT) → ByteArray → ValT
 | k :: ks, v :: vs, e => byE ks vs (setE e k v)
 | _, _, e => e
def stepsE : List StepS → (ByteArray → ValT) → (ByteArray → ValT)
 | [], e => e
 | s :: l, e => stepsE l (setE e s.out (doV s (s.args.map fun a => normV (e a))))
def runP (r : RuleS) (ins : List ValT) : List ValT := if ins.length ≠ r.ins.length then [] else r.outs.map fun o => normV (stepsE r.steps (byE r.ins ins fun _ => noV) o)
end Go.Proofs.YtdhmeganlnpohaaGreatDoor
namespace Go.Proofs.YtdhmeganlnpohaaGreatDoor
open Go.RowKit Go.Shelf
def sfRen : Go.Shelf.Ren := ⟨fun | 6 => 127 | 8 => 82 | 10 => 183 | n => n, fun | 0 => 0 | 3 => 3 | 4 => 4 | 22 => 22 | 23 => 9 | 25 => 75 | n => n, fun n => n⟩
theorem lSf8 : Go.Proofs.SlLaysH.n8 Tryz.prog sfRen := {
 mixed := by kernel_rfl
 f6 := ⟨"slices.IndexFunc[[]string,string]", by decide, Tryz.func127.trans (congrArg some (by kernel_rfl))⟩
 f8 := ⟨"slices.ContainsFunc[[]string,string]", by decide, Tryz.func82.trans (congrArg some (by kernel_rfl))⟩
 t0 := Tryz.underlying0
 a0 := Tryz.isAgg0
 z0 := Tryz.sizeOf0
 v0 := Tryz.zeroValue0
 t3 := Tryz.underlying3
 a3 := Tryz.isAgg3
 z3 := Tryz.sizeOf3
 v3 := Tryz.zeroValue3
 t4 := Tryz.underlying4
 a4 := Tryz.isAgg4
 z4 := Tryz.sizeOf4
 v4 := Tryz.zeroValue4
 t22 := Tryz.underlying22
 a22 := Tryz.isAgg22
 z22 := Tryz.sizeOf22
 v22 := Tryz.zeroValue22
 a23 := Tryz.isAgg9
 z23 := Tryz.sizeOf9
 t25 := Tryz.underlying75
 a25 := Tryz.isAgg75
 z25 := Tryz.sizeOf75
 v25 := Tryz.zeroValue75 }
theorem lSf10 : Go.Proofs.SlLaysH.n10 Tryz.prog sfRen := { lSf8 with
 f10 := ⟨"slices.DeleteFunc[[]string,string]", by decide, Tryz.func183.trans (congrArg some (by kernel_rfl))⟩ }
theorem isTooLong_any (s : ByteArray) (w : World) : Calls Tryz.prog 83 #[.string s] w fun e w' => e = .returned (.bool (decide (100 < s.size))) ∧ w' = w := by
 go_enter Tryz.func83, Tryz.ntmps83
 go_wp2
 go_ret
 refine ⟨?_, rfl⟩
 congr 2
 simp
 omega
theorem isCommand_any (op : Int) (w : World) : Calls Tryz.prog 55 #[.int .i64 op] w fun e w' => e = .returned (.bool (decide (1 ≤ op ∧ op ≤ 9))) ∧ w' = w := by
 by_cases h1 : 1 ≤ op
 ·by_cases h2 : op ≤ 9
  ·rw [decide_eq_true (show 1 ≤ op ∧ op ≤ 9 from ⟨h1, h2⟩)]
   go_enter Tryz.func55, Tryz.ntmps55
   go_wp2
   go_ret
   exact ⟨rfl, rfl⟩
  ·rw [decide_eq_false (show ¬ (1 ≤ op ∧ op ≤ 9) from fun h => h2 h.2)]
   go_enter Tryz.func55, Tryz.ntmps55
   go_wp2
   go_ret
   exact ⟨rfl, rfl⟩
 ·rw [decide_eq_false (show ¬ (1 ≤ op ∧ op ≤ 9) from fun h => h1 h.1)]
  go_enter Tryz.func55, Tryz.ntmps55
  go_wp2
  go_ret
  exact ⟨rfl, rfl⟩
def argsB (x : StepS) : Bool := if x.op = 5 then decide (x.args.length ≤ 6) else if x.op = 6 then decide (x.args.length = 0) else decide (x.args.length = 1)
def litsB (x : StepS) : Bool := if (x.lits.any fun l => decide (100 < l.size)) = true then false else if x.op = 6 ∨ x.op = 7 then decide (x.lits.length = 1) else if x.op = 8 then decide (x.lits.length = 2) && firstOk x.lits else decide (x.lits.length = 0)
def numB (x : StepS) : Bool := if x.op = 9 then decide (0 ≤ x.n) && decide (x.n ≤ 2000) else decide (x.n = 0)
theorem may_parts (x : StepS) : (decide (1 ≤ x.op ∧ x.op ≤ 9) && argsB x && litsB x && numB x) = mayB x := by
 obtain ⟨out, op, args, lits, n⟩ := x
 unfold mayB argsB litsB numB naF nlF
 simp only
 have hany : (lits.any fun l => decide (100 < l.size)) = !(lits.all fun l => decide (l.size ≤ 100)) := by
  rw [List.all_eq_not_any_not, Bool.not_not]
  congr 1
  funext l
  rw [Bool.eq_iff_iff]
  simp
 rw [hany]
 obtain ⟨q, hq⟩ : ∃ q, (lits.all fun l => decide (l.size ≤ 100)) = q := ⟨_, rfl⟩
 obtain ⟨f, hf⟩ : ∃ f, firstOk lits = f := ⟨_, rfl⟩
 rw [hq, hf]
 obtain ⟨na, hna⟩ : ∃ na, args.length = na := ⟨_, rfl⟩
 obtain ⟨nl, hnl⟩ : ∃ nl, lits.length = nl := ⟨_, rfl⟩
 rw [hna, hnl]
 clear hq hf hna hnl hany
 rw [Bool.eq_iff_iff]
 cases q
 ·simp
 ·cases f <;> by_cases h5 : op = 5 <;> by_cases h6 : op = 6 <;> by_cases h7 : op = 7 <;> by_cases h8 : op = 8 <;> by_cases h9 : op = 9 <;> first | omega | (simp [h5, h6, h7, h8, h9]; try omega)
theorem stepBox (w : World) (x : StepS) (a1 a2 : Option Addr) (c1 c2 : Nat) {W : World} (hb : Below (w.heap.size + 1) (w.alloc (.cells #[.string x.out, .int .i64 x.op, .slice a1 x.args.length c1, .slice a2 x.lits.length c2, .int .i64 x.n] 24)) W) :
  W.cell? ⟨w.heap.size, 0, none⟩ = some (.string x.out) ∧ W.cell? ⟨w.heap.size, 1, none⟩ = some (.int .i64 x.op) ∧ W.cell? ⟨w.heap.size, 2, none⟩ = some (.slice a1 x.args.length c1) ∧ W.cell? ⟨w.heap.size, 3, none⟩ = some (.slice a2 x.lits.length c2) ∧ W.cell? ⟨w.heap.size, 4, none⟩ = some (.int .i64 x.n) := by
 have h := (hb.block w.heap.size (by omega)).trans (alloc_at w _)
 obtain ⟨d0, d1, d2, d3, d4, _⟩ := cells5 h
 exact ⟨d0, d1, d2, d3, d4⟩
set_option maxRecDepth 100000
set_option maxHeartbeats 4000000
theorem argsFit_any (x : StepS) (a1 a2 : Option Addr) (c1 c2 : Nat) (w : World) (h1 : x.args.length ≤ maxLen) :
  Calls Tryz.prog 56 #[.agg #[.string x.out, .int .i64 x.op, .slice a1 x.args.length c1, .slice a2 x.lits.length c2, .int .i64 x.n]] w fun e w' => e = .returned (.bool (argsB x)) ∧ Below w.heap.size w w' := by
 obtain ⟨d0, d1, d2, d3, d4⟩ := stepBox w x a1 a2 c1 c2 (Below.refl _ _)
 have hb : Below w.heap.size w (w.alloc (.cells #[.string x.out, .int .i64 x.op, .slice a1 x.args.length c1, .slice a2 x.lits.length c2, .int .i64 x.n] 24)) := (Below.refl _ _).alloc (Nat.le_refl _) _
 have HB := Lib.hid hb
 obtain ⟨r, hr⟩ : ∃ r, argsB x = r := ⟨_, rfl⟩
 rw [hr]
 unfold argsB at hr
 obtain ⟨out, op, args, lits, n⟩ := x
 simp only at d0 d1 d2 d3 d4 hr HB h1 ⊢
 clear hb
 unfold maxLen at h1
 by_cases h5 : op = 5
 ·subst h5
  rw [if_pos rfl] at hr
  go_enter Tryz.func56, Tryz.ntmps56
  go_wp2
  go_ret
  refine ⟨congrArg (fun b : Bool => Ending.returned (Value.bool b)) ?_, HB.out⟩
  rw [← hr, Bool.eq_iff_iff]; simp only [decide_eq_true_eq]; omega
 ·by_cases h6 : op = 6
  ·subst h6
   rw [if_neg (by decide), if_pos rfl] at hr
   go_enter Tryz.func56, Tryz.ntmps56
   go_wp2
   go_ret
   refine ⟨congrArg (fun b : Bool => Ending.returned (Value.bool b)) ?_, HB.out⟩
   rw [← hr, Bool.eq_iff_iff]; simp only [beq_iff_eq, decide_eq_true_eq]; omega
  ·rw [if_neg h5, if_neg h6] at hr
   go_enter Tryz.func56, Tryz.ntmps56
   go_wp2
   go_ret
   refine ⟨congrArg (fun b : Bool => Ending.returned (Value.bool b)) ?_, HB.out⟩
   rw [← hr, Bool.eq_iff_iff]; simp only [beq_iff_eq, decide_eq_true_eq]; omega
theorem numberFits_any (x : StepS) (a1 a2 : Option Addr) (c1 c2 : Nat) (w : World) :
  Calls Tryz.prog 58 #[.agg #[.string x.out, .int .i64 x.op, .slice a1 x.args.length c1, .slice a2 x.lits.length c2, .int .i64 x.n]] w fun e w' => e = .returned (.bool (numB x)) ∧ Below w.heap.size w w' := by
 obtain ⟨d0, d1, d2, d3, d4⟩ := stepBox w x a1 a2 c1 c2 (Below.refl _ _)
 have hb : Below w.heap.size w (w.alloc (.cells #[.string x.out, .int .i64 x.op, .slice a1 x.args.length c1, .slice a2 x.lits.length c2, .int .i64 x.n] 24)) := (Below.refl _ _).alloc (Nat.le_refl _) _
 have HB := Lib.hid hb
 obtain ⟨r, hr⟩ : ∃ r, numB x = r := ⟨_, rfl⟩
 rw [hr]
 unfold numB at hr
 obtain ⟨out, op, args, lits, n⟩ := x
 simp only at d0 d1 d2 d3 d4 hr HB ⊢
 clear hb
 by_cases h9 : op = 9
 ·subst h9
  rw [if_pos rfl] at hr
  by_cases h0 : 0 ≤ n
  ·by_cases h1 : n ≤ 2000
   ·rw [decide_eq_true h0, decide_eq_true h1] at hr
    subst hr
    go_enter Tryz.func58, Tryz.ntmps58
    go_wp2
    go_ret
    exact ⟨rfl, HB.out⟩
   ·rw [decide_eq_true h0, decide_eq_false h1] at hr
    subst hr
    go_enter Tryz.func58, Tryz.ntmps58
    go_wp2
    go_ret
    exact ⟨rfl, HB.out⟩
  ·rw [decide_eq_false h0, Bool.false_and] at hr
   subst hr
   go_enter Tryz.func58, Tryz.ntmps58
   go_wp2
   go_ret
   exact ⟨rfl, HB.out⟩
 ·rw [if_neg h9] at hr
  go_enter Tryz.func58, Tryz.ntmps58
  go_wp2
  go_ret
  refine ⟨congrArg (fun b : Bool => Ending.returned (Value.bool b)) ?_, HB.out⟩
  rw [← hr, Bool.eq_iff_iff]; simp only [beq_iff_eq, decide_eq_true_eq]
theorem containsLong_any (v : Value) (xs : List ByteArray) (w : World) (h : IsStrs w v xs) :
  Calls Tryz.prog 82 #[v, .func (.func 83) #[] #[]] w fun e w' => e = .returned (.bool (xs.any fun l => decide (100 < l.size))) ∧ ∃ q, w' = w.drewN q := by
 obtain ⟨a, c, rfl, h1, h1m, h2⟩ := h
 by_cases he : xs = []
 ·subst he
  have := AnyE.slices_ContainsFunc_empty lSf8 a c (.func (.func 83) #[] #[]) w
  refine Calls.mono this ?_
  rintro e w' ⟨rfl, rfl⟩
  exact ⟨rfl, 0, rfl⟩
 ·obtain ⟨b, o, rfl, hb, hc⟩ := h2 he
  have hp : PredAt Tryz.prog 83 #[] Value.string (fun l : ByteArray => decide (100 < l.size)) w := fun W x _ => (isTooLong_any x W).mono fun e w' ⟨h, h'⟩ => ⟨h, 0, h'⟩
  have := AnyE.slices_ContainsFunc lSf8 Value.string (fun l : ByteArray => decide (100 < l.size)) 83 #[] (enters_of Tryz.func83 (by kernel_rfl) rfl) b o xs.length c xs w hp (Nat.le_refl _) (by unfold maxLen at h1m; omega) (fun j hj => by rw [getElem!_pos xs j hj]; exact hc j _ (List.getElem?_eq_getElem hj))
  rw [List.take_length] at this
  exact this
theorem litsFit_any (x : StepS) (a1 a2 : Option Addr) (c1 c2 : Nat) (w : World) (hl : IsStrs w (.slice a2 x.lits.length c2) x.lits) :
    Calls Tryz.prog 57 #[.agg #[.string x.out, .int .i64 x.op, .slice a1 x.args.length c1, .slice a2 x.lits.length c2, .int .i64 x.n]] w fun e w' => e = .returned (.bool (litsB x)) ∧ Below w.heap.size w w' := by
  obtain ⟨d0, d1, d2, d3, d4⟩ := stepBox w x a1 a2 c1 c2 (Below.refl _ _)
  have hb : Below w.heap.size w (w.alloc (.cells #[.string x.out, .int .i64 x.op, .slice a1 x.args.length c1, .slice a2 x.lits.length c2, .int .i64 x.n] 24)) := (Below.refl _ _).alloc (Nat.le_refl _) _
  obtain ⟨r, hr⟩ : ∃ r, litsB x = r := ⟨_, rfl⟩
  rw [hr]
  unfold litsB at hr
  obtain ⟨out, op, args, lits, n⟩ := x
  simp only at d0 d1 d2 d3 d4 hr hb hl ⊢
  obtain ⟨aa, cc, e, hlc, hcm, hcells⟩ := isStrs_cells hl
  cases e
  obtain ⟨W1, hW1⟩ : ∃ W1, w.alloc (.cells #[.string out, .int .i64 op, .slice a1 args.length c1, .slice a2 lits.length c2, .int .i64 n] 24) = W1 := ⟨_, rfl⟩
  have cL := containsLong_any _ lits W1 (by rw [← hW1]; exact hl.below hb)
  rw [hW1] at d0 d1 d2 d3 d4 hb
  have HB := Lib.hid hb
  have HC := Lib.hid hcells
  have HW1 := Lib.hid hW1
  unfold maxLen at hcm
  clear hb hcells hW1 hl
  obtain ⟨g, hg⟩ : ∃ g, (lits.any fun l => decide (100 < l.size)) = g := ⟨_, rfl⟩
  rw [hg] at cL hr
  clear hg
  go_enter Tryz.func57, Tryz.ntmps57
  go_wp2_with fail
  rw [HW1.out]
  go_wp2_with fail
  refine cL.mono ?_
  rintro e w2 ⟨rfl, q, rfl⟩
  have HB2 : Hid (Below w.heap.size w (W1.drewN q)) := Lib.hid (below_drewN HB.out q)
  obtain ⟨W2, hW2⟩ : ∃ W2, W1.drewN q = W2 := ⟨_, rfl⟩
  replace d1 : W2.cell? ⟨w.heap.size, 1, none⟩ = some (.int .i64 op) := by rw [← hW2]; exact d1
  replace d3 : W2.cell? ⟨w.heap.size, 3, none⟩ = some (.slice a2 lits.length c2) := by rw [← hW2]; exact d3
  rw [hW2] at HB2 ⊢
  clear d0 d2 d4 cL HW1 HB hW2
  cases g
  · rw [if_neg (by decide)] at hr
    by_cases h67 : op = 6 ∨ op = 7
    · rw [if_pos h67] at hr
      rcases h67 with rfl | rfl
      · go_wp2
        go_ret
        refine ⟨congrArg (fun b : Bool => Ending.returned (Value.bool b)) ?_, HB2.out⟩
        rw [← hr, Bool.eq_iff_iff]; simp only [beq_iff_eq, decide_eq_true_eq]; omega
      · go_wp2
        go_ret
        refine ⟨congrArg (fun b : Bool => Ending.returned (Value.bool b)) ?_, HB2.out⟩
        rw [← hr, Bool.eq_iff_iff]; simp only [beq_iff_eq, decide_eq_true_eq]; omega
    · rw [if_neg h67] at hr
      have n6 : ¬ op = 6 := fun e => h67 (.inl e)
      have n7 : ¬ op = 7 := fun e => h67 (.inr e)
      by_cases h8 : op = 8
      · subst h8
        rw [if_pos rfl] at hr
        by_cases h2 : lits.length = 2
        · obtain ⟨y, hy⟩ : ∃ y, lits[0]? = some y := ⟨lits[0], List.getElem?_eq_getElem (by omega)⟩
          obtain ⟨b, o, hab, hc⟩ := HC.out 0 y hy
          have hcy := hc _ HB2.out
          subst hab
          have hfo : firstOk lits = !(y.toList == ([] : List UInt8)) := by
            cases lits with
            | nil => simp at hy
            | cons z l => obtain rfl : z = y := by simpa using hy
                          rfl
          rw [hfo, h2] at hr
          rw [h2] at d3
          simp only [Nat.add_zero] at hcy
          clear hc hy hfo
          go_wp2
          go_ret
          refine ⟨congrArg (fun b : Bool => Ending.returned (Value.bool b)) ?_, HB2.out⟩
          rw [← hr]
          simp
        · rw [decide_eq_false h2, Bool.false_and] at hr
          subst hr
          have hn2 : ¬ (lits.length : Int) = 2 := by omega
          go_wp2
          go_ret
          exact ⟨rfl, HB2.out⟩
      · rw [if_neg h8] at hr
        go_wp2
        go_ret
        refine ⟨congrArg (fun b : Bool => Ending.returned (Value.bool b)) ?_, HB2.out⟩
        rw [← hr, Bool.eq_iff_iff]; simp only [beq_iff_eq, decide_eq_true_eq]; omega
  · rw [if_pos rfl] at hr
    subst hr
    go_wp2
    go_ret
    exact ⟨rfl, HB2.out⟩
theorem stepMay_any (x : StepS) (a1 a2 : Option Addr) (c1 c2 : Nat) (w : World) (ha : IsStrs w (.slice a1 x.args.length c1) x.args) (hl : IsStrs w (.slice a2 x.lits.length c2) x.lits) :
  Calls Tryz.prog 19 #[.agg #[.string x.out, .int .i64 x.op, .slice a1 x.args.length c1, .slice a2 x.lits.length c2, .int .i64 x.n]] w fun e w' => e = .returned (.bool (mayB x)) ∧ Below w.heap.size w w' := by
 have hb : Below w.heap.size w (w.alloc (.cells #[.string x.out, .int .i64 x.op, .slice a1 x.args.length c1, .slice a2 x.lits.length c2, .int .i64 x.n] 24)) := (Below.refl _ _).alloc (Nat.le_refl _) _
 have hD := fun W (h : Below (w.heap.size + 1) (w.alloc (.cells #[.string x.out, .int .i64 x.op, .slice a1 x.args.length c1, .slice a2 x.lits.length c2, .int .i64 x.n] 24)) W) => stepBox w x a1 a2 c1 c2 h
 have hm : x.args.length ≤ maxLen := by obtain ⟨_, _, e, h1, h2, _⟩ := ha; cases e; omega
 rw [← may_parts x]
 have q1 := fun W => isCommand_any x.op W
 have q2 := fun W => argsFit_any x a1 a2 c1 c2 W hm
 have q4 := fun W => numberFits_any x a1 a2 c1 c2 W
 obtain ⟨W1, hW1⟩ : ∃ W1, w.alloc (.cells #[.string x.out, .int .i64 x.op, .slice a1 x.args.length c1, .slice a2 x.lits.length c2, .int .i64 x.n] 24) = W1 := ⟨_, rfl⟩
 have hs1 : W1.heap.size = w.heap.size + 1 := by rw [← hW1]; simp
 rw [hW1] at hb hD
 rw [← hs1] at hD
 have q3 := fun W (h : Below W1.heap.size W1 W) => litsFit_any x a1 a2 c1 c2 W (hl.below (hb.trans (h.mono (by omega))))
 obtain ⟨b1, h1⟩ : ∃ b, decide (1 ≤ x.op ∧ x.op ≤ 9) = b := ⟨_, rfl⟩
 obtain ⟨b2, h2⟩ : ∃ b, argsB x = b := ⟨_, rfl⟩
 obtain ⟨b3, h3⟩ : ∃ b, litsB x = b := ⟨_, rfl⟩
 obtain ⟨b4, h4⟩ : ∃ b, numB x = b := ⟨_, rfl⟩
 rw [h1] at q1; rw [h2] at q2; rw [h3] at q3; rw [h4] at q4
 rw [h1, h2, h3, h4]
 obtain ⟨out, op, args, lits, n⟩ := x
 simp only at q1 q2 q3 q4 hD hb hW1 ⊢
 have Q2 := Lib.hid q2; have Q3 := Lib.hid q3; have Q4 := Lib.hid q4; have HB := Lib.hid hb; have HD := Lib.hid hD; have HW := Lib.hid hW1; have HS := Lib.hid hs1
 clear q2 q3 q4 hb hD hW1 h1 h2 h3 h4 ha hl hm hs1
 go_enter Tryz.func19, Tryz.ntmps19
 go_wp2_with fail
 rw [HW.out]
 have R1 : Hid (Below W1.heap.size W1 W1) := Lib.hid (Below.refl _ _)
 obtain ⟨d0, d1, d2, d3, d4⟩ := HD.out W1 R1.out
 cases b1
 ·go_wp2_with (go_at_call 55; refine (q1 _).mono ?_; rintro e w2 ⟨rfl, rfl⟩)
  go_ret
  exact ⟨rfl, HB.out⟩
 cases b2
 ·go_wp2_with (first
   | (go_at_call 55; refine (q1 _).mono ?_; rintro e w2 ⟨rfl, rfl⟩)
   | (go_at_call 56; refine (Q2.out _).mono ?_; rintro e w3 ⟨rfl, hb3⟩; have HB3 := Lib.hid hb3; clear hb3))
  go_ret
  exact ⟨rfl, HB.out.trans (HB3.out.mono HB.out.size)⟩
 cases b3
 ·go_wp2_with (first
   | (go_at_call 55; refine (q1 _).mono ?_; rintro e w2 ⟨rfl, rfl⟩)
   | (go_at_call 56; refine (Q2.out _).mono ?_; rintro e w3 ⟨rfl, hb3⟩; have HB3 := Lib.hid hb3; obtain ⟨d0, d1, d2, d3, d4⟩ := HD.out _ HB3.out; clear hb3)
   | (go_at_call 57; refine (Q3.out _ HB3.out).mono ?_; rintro e w4 ⟨rfl, hb4⟩; have HB4 := Lib.hid (HB3.out.trans (hb4.mono HB3.out.size)); clear hb4))
  go_ret
  exact ⟨rfl, HB.out.trans (HB4.out.mono HB.out.size)⟩
 ·go_wp2_with (first
   | (go_at_call 55; refine (q1 _).mono ?_; rintro e w2 ⟨rfl, rfl⟩)
   | (go_at_call 56; refine (Q2.out _).mono ?_; rintro e w3 ⟨rfl, hb3⟩; have HB3 := Lib.hid hb3; obtain ⟨d0, d1, d2, d3, d4⟩ := HD.out _ HB3.out; clear hb3)
   | (go_at_call 57; refine (Q3.out _ HB3.out).mono ?_; rintro e w4 ⟨rfl, hb4⟩; have HB4 := Lib.hid (HB3.out.trans (hb4.mono HB3.out.size)); obtain ⟨d0, d1, d2, d3, d4⟩ := HD.out _ HB4.out; clear hb4)
   | (go_at_call 58; refine (Q4.out _).mono ?_; rintro e w5 ⟨rfl, hb5⟩; have HB5 := Lib.hid (HB4.out.trans (hb5.mono HB4.out.size)); clear hb5))
  go_ret
  refine ⟨?_, HB.out.trans (HB5.out.mono HB.out.size)⟩
  simp only [Bool.true_and]
  rfl
end Go.Proofs.YtdhmeganlnpohaaGreatDoor
namespace Go.Proofs.YtdhmeganlnpohaaGreatDoor
open Go.RowKit Go.Shelf Go.Maps
def inS (L : List ByteArray) (k : ByteArray) : Bool := L.any fun x => decide (x = k)
theorem inS_iff {L : List ByteArray} {k : ByteArray} : inS L k = true ↔ k ∈ L := by
 unfold inS
 rw [List.any_eq_true]
 constructor
 ·rintro ⟨x, hx, e⟩; rw [← of_decide_eq_true e]; exact hx
 ·exact fun h => ⟨k, h, by simp⟩
def insS (L : List ByteArray) (k : ByteArray) : List ByteArray := if inS L k = true then L else L ++ [k]
def addS (L : List ByteArray) (ks : List ByteArray) : List ByteArray := ks.foldl insS L
theorem insS_mem {L : List ByteArray} {k a : ByteArray} : a ∈ insS L k ↔ a ∈ L ∨ a = k := by
 unfold insS; split
 ·rename_i h
  have h := inS_iff.1 h
  constructor
  ·exact .inl
  ·rintro (h' | rfl)
   ·exact h'
   ·exact h
 ·simp
theorem insS_len (L : List ByteArray) (k : ByteArray) : (insS L k).length ≤ L.length + 1 := by unfold insS; split <;> simp
theorem addS_mem {ks L : List ByteArray} {a : ByteArray} : a ∈ addS L ks ↔ a ∈ L ∨ a ∈ ks := by
 unfold addS
 induction ks generalizing L with
 | nil => simp
 | cons k ks ih => rw [List.foldl_cons, ih, insS_mem, List.mem_cons, or_assoc]
theorem addS_len (ks L : List ByteArray) : (addS L ks).length ≤ L.length + ks.length := by
 unfold addS
 induction ks generalizing L with
 | nil => simp
 | cons k ks ih => rw [List.foldl_cons, List.length_cons]; have := ih (insS L k); have := insS_len L k; omega
theorem addS_next {ks : List ByteArray} (L : List ByteArray) {i : Nat} {k : ByteArray} (h : ks[i]? = some k) : addS L (ks.take (i + 1)) = insS (addS L (ks.take i)) k := by
 unfold addS
 rw [List.take_add_one, h, List.foldl_append]
 rfl
def SetIs (w : World) (b : Nat) (L : List ByteArray) : Prop := ∃ m, MapIs Tryz.prog 9 w b m ∧ (∀ k, hasM m k = inS L k) ∧ (∀ k, getM m k (.agg #[]) = .agg #[]) ∧ m.length = L.length
theorem SetIs.lt {w : World} {b : Nat} {L : List ByteArray} (h : SetIs w b L) : b < w.heap.size := by obtain ⟨m, h1, _⟩ := h; exact h1.lt
theorem SetIs.heap {w w' : World} {b : Nat} {L : List ByteArray} (h : SetIs w b L) (hb : w'.heap[b]? = w.heap[b]?) : SetIs w' b L := by
 obtain ⟨m, h1, r⟩ := h; exact ⟨m, h1.heap hb, r⟩
theorem SetIs.below {B : Nat} {w w' : World} {b : Nat} {L : List ByteArray} (h : SetIs w b L) (hb : Below B w w') (hlt : b < B) : SetIs w' b L := h.heap (hb.block b hlt)
theorem setIs_made (w : World) : SetIs (w.alloc (.map #[] 0)) w.heap.size [] := ⟨[], mapIs_made w _ _, fun _ => rfl, fun _ => rfl, rfl⟩
theorem SetIs.put {w : World} {b : Nat} {L : List ByteArray} {t e : TypeId} (h : SetIs w b L) (ht : Tryz.prog.underlying t = some (.map 9 e)) (hn : L.length ≤ 4000000000000000) (k : ByteArray) (hs : k.size ≤ maxLen) :
  ∃ w', (Instr.mapUpdate t (.map (some b)) (.string k) (.agg #[])).run Tryz.prog w = .ok () w' ∧ SetIs w' b (insS L k) ∧ w.mapTurned w' b := by
 obtain ⟨m, h1, h2, h3, h4⟩ := h
 obtain ⟨w', r, hm, ht'⟩ := h1.put Tryz.underlying9 ht (by unfold maxLen; omega) k hs (.agg #[])
 refine ⟨w', r, ⟨_, hm, fun k' => ?_, fun k' => ?_, ?_⟩, ht'⟩
 ·rw [hasM_put, h2, Bool.eq_iff_iff]
  simp only [Bool.or_eq_true, decide_eq_true_eq, inS_iff, insS_mem]
  constructor
  ·rintro (rfl | h)
   ·exact .inr rfl
   ·exact .inl h
  ·rintro (h | rfl)
   ·exact .inr h
   ·exact .inl rfl
 ·by_cases hk : k = k'
  ·subst hk; exact getM_put_same _ _ _ _
  ·rw [getM_put_other _ _ _ hk]; exact h3 k'
 ·obtain ⟨D, _, _, _, _, hK⟩ := h1
  rw [putM_len hK, h2]
  unfold insS
  by_cases hk : inS L k = true
  ·simp [hk, h4]
  ·simp [hk, h4]
theorem SetIs.look {w : World} {b : Nat} {L : List ByteArray} {t e : TypeId} (h : SetIs w b L) (ht : Tryz.prog.underlying t = some (.map 9 e)) (hz : (zeroValue e).run Tryz.prog w = .ok (.agg #[]) w) (k : ByteArray) (hs : k.size ≤ maxLen) :
  (Instr.lookup t (.map (some b)) (.string k) true).run Tryz.prog w = .ok (.tuple #[.agg #[], .bool (inS L k)]) w := by
 obtain ⟨m, h1, h2, h3, h4⟩ := h
 rw [h1.look_ok Tryz.underlying9 ht hz k hs, h2, h3]
theorem SetIs.len {w : World} {b : Nat} {L : List ByteArray} {t e : TypeId} (h : SetIs w b L) (ht : Tryz.prog.underlying t = some (.map 9 e)) (ty : TypeId) : (Builtin.len_ #[t] ty #[.map (some b)]).run Tryz.prog w = .ok (.int .i64 (L.length : Int)) w := by
 obtain ⟨m, h1, _, _, h4⟩ := h
 rw [h1.len ht ty, h4]
theorem grown_refl (a : World) (row : Option Nat) : a.grownBy a row := ⟨rfl, rfl, rfl, Nat.le_refl _, fun _ _ _ => rfl⟩
theorem grown_alloc0 (w : World) (o : Obj) : w.grownBy (w.alloc o) none := ⟨rfl, rfl, rfl, by simp, fun k hk _ => Below.heap_alloc w o k hk⟩
end Go.Proofs.YtdhmeganlnpohaaGreatDoor
