/- An append of a list of texts, of none too, to nil: as a run, as a step of a region that draws. The reference's Copy. A region that draws its order, reads cells and then writes them: a read may be taken first where the first write waits for it. Lists cut to size, cells turned in a list of steps of one's own. -/
import Derived.Deep.RegionHeld3
import Derived.Deep.DeepCutAuto
import Derived.Test.YtlmnabhhgplhnaaGreatDoorMpri
import Derived.Test.YtlmnabhhgplhnaaGreatDoorMwalk
import Derived.Test.YtlmnabhhgplhnaaGreatDoorOpenR
namespace Go.Proofs.YtlmnabhhgplhnaaGreatDoor
open Go.RowKit Go.Shelf

/-- A row's block can be written. -/
def OpenV (w : World) (v : Value) : Prop := ∀ b, v.ownBlock = some b → ∀ i, w.frozen? ⟨b, i, none⟩ = false
theorem openV_own {w : World} {B e size : Nat} {v : Value} {n : Nat} {xs : List Value} (h : w.ownsRow B e size v n xs) : OpenV w v := by
 intro b hb i
 rcases h.2 with ⟨rfl, _⟩ | ⟨g, cap, cur, rfl, _, hg, _⟩
 ·cases hb
 ·cases hb
  simp [World.frozen?, hg]
theorem openV_nil (w : World) (n c : Nat) : OpenV w (.slice none n c) := fun b hb => by cases hb
theorem OpenV.keep {Av : Nat → Prop} {w w' : World} {v : Value} (h : OpenV w v) (hb : ∀ b, v.ownBlock = some b → b < w.heap.size ∧ ¬ Av b) (hf : Fr Av w w') : OpenV w' v :=
 fun b e i => (World.frozen?_of_block (hf.block b (hb b e).1 (hb b e).2)).trans (h b e i)
/-- A list of texts of one's own that can be written. -/
def StrsO (Av : Nat → Prop) (w : World) (v : Value) (xs : List ByteArray) : Prop := StrsA Av w v xs ∧ OpenV w v
theorem StrsO.keep {Av : Nat → Prop} {w w' : World} {v : Value} {xs : List ByteArray} (h : StrsO Av w v xs) (hf : Fr Av w w') : StrsO Av w' v xs := ⟨RowA.keep h.1 hf, h.2.keep h.1.2 hf⟩
theorem StrsO.mono {Av Av' : Nat → Prop} {w : World} {v : Value} {xs : List ByteArray} (h : StrsO Av w v xs) (hm : ∀ b, b < w.heap.size → Av' b → Av b) : StrsO Av' w v xs := ⟨RowA.mono h.1 hm, h.2⟩
theorem run_append_strs {w : World} {ty : TypeId} {v : Value} {xs : List ByteArray} (h : IsStrs w v xs) (hn : xs.length ≤ 1048576) :
  ∃ a n c w', (Builtin.append_ #[35, 35] ty #[.slice none 0 0, v]).run Tryz.prog w = .ok (.slice a n c) w' ∧ StrsO (fun b => b < w.heap.size) w' (.slice a n c) xs ∧ w.grownBy w' none := by
 obtain ⟨i0, hi, hz0, hz1, hz2⟩ := info_of info_str
 obtain ⟨a, c, rfl, hlc, hcm, hcell⟩ := h
 by_cases he : xs = []
 ·subst he
  cases a with
  | none =>
   refine ⟨none, 0, 0, w, ?_, ⟨strsA_nil _ _, openV_nil _ _ _⟩, ⟨rfl, rfl, rfl, Nat.le_refl _, fun _ _ _ => rfl⟩⟩
   simp [Builtin.append_, run_underlying Tryz.underlying35, sizeOf, typeInfo, hi, Builtin.lenOf, Builtin.firstCells]
  | some ad =>
   obtain ⟨v', w', hr, h2, h3, _⟩ := run_append_own (P := Tryz.prog) w w.heap.size 35 ty 9 i0 (.string ByteArray.empty) 1 16 Tryz.underlying35 hi hz0 hz1 hz2 rfl (by decide) (.slice none 0 0) 0 [] (World.ownsRow_nil _ _ _ _) ad 0 c [] rfl (by simp) (by simp) (by unfold maxLen; omega) (by omega) (Nat.le_refl _)
   obtain ⟨aa, ca, rfl, _⟩ := own_shape h2
   exact ⟨aa, _, ca, w', hr, ⟨strsA_own (xs := []) (by simpa using h2), openV_own h2⟩, h3⟩
 ·obtain ⟨b, o, rfl, hb, hc⟩ := hcell he
  obtain ⟨v', w', hr, h2, h3, _⟩ := run_append_own (P := Tryz.prog) w w.heap.size 35 ty 9 i0 (.string ByteArray.empty) 1 16 Tryz.underlying35 hi hz0 hz1 hz2 rfl (by decide) (.slice none 0 0) 0 [] (World.ownsRow_nil _ _ _ _) ⟨b, o, none⟩ xs.length c (xs.map Value.string) (by simp) (fun j u hj => by
   rw [List.getElem?_map] at hj
   obtain ⟨x, hx, rfl⟩ := Option.map_eq_some_iff.1 hj
   have := hc j x hx
   simp only [Addr.add]
   split
   ·rename_i hj0; rw [hj0] at this; simpa using this
   ·exact this) (fun u hu => by obtain ⟨x, _, rfl⟩ := List.mem_map.1 hu; rfl) (by unfold maxLen; omega) (by omega) (Nat.le_refl _)
  obtain ⟨aa, ca, rfl, _⟩ := own_shape h2
  exact ⟨aa, _, ca, w', hr, ⟨strsA_own (by simpa using h2), openV_own h2⟩, h3⟩
theorem step_append_strs {ops : Array Oper} {o : Oper} {a : Act} {w : World} {K : Act → World → Prop} {Q : Exit → Act → World → Prop} {E : Prop} (hgd : o.guard = none) (s x : Operand)
  (ho : o.op = .call { callee := .builtin .append, args := #[s, x], argTypes := #[35, 35] }) {v : Value} {xs : List ByteArray} (hs : a.eval s = .slice none 0 0) (hx : a.eval x = v) (hI : IsStrs w v xs) (hn : xs.length ≤ 1048576)
  (h : ∀ a' n c w', StrsO (fun b => b < w.heap.size) w' (.slice a' n c) xs → w.grownBy w' none → K (a.put o.dst (.slice a' n c)) w') :
  if Region.wanted o (yielded ops a.tmps) = true then Oper.wp Tryz.prog o a w K Q else E := by
 have hw : Region.wanted o (yielded ops a.tmps) = true := by simp [Region.wanted, hgd]
 rw [if_pos hw]
 obtain ⟨a', n, c, w', hr, h1, h2⟩ := run_append_strs (ty := o.type) hI hn
 unfold Oper.wp execOp
 simp only [ho, resolve, invoke, builtin, Sem.run_bind, Sem.run_pure, Result.andThen_ok, List.map_toArray, List.map_cons, List.map_nil, hs, hx, hr]
 exact h a' n c w' h1 h2
theorem below_grown0 {B : Nat} {w0 w w' : World} (h : Below B w0 w) (hg : w.grownBy w' none) (hB : B ≤ w.heap.size) : Below B w0 w' := h.grown hg hB (fun k e => by cases e)
end Go.Proofs.YtlmnabhhgplhnaaGreatDoor
namespace Go.Proofs.YtlmnabhhgplhnaaGreatDoor
open Go.RowKit Go.Shelf

theorem up_alloc {w0 w : World} (h : Below w0.heap.size w0 w) (o : Obj) : Below w0.heap.size w0 (w.alloc o) := h.alloc h.size o
theorem up_grown {w0 w w' : World} (h : Below w0.heap.size w0 w) (hg : w.grownBy w' none) : Below w0.heap.size w0 w' := below_grown0 h hg h.size
theorem grown_alloc {w w' : World} {o : Obj} (hg : (w.alloc o).grownBy w' none) : w'.heap[w.heap.size]? = some o := (hg.block _ (by simp) (by simp)).trans (alloc_at w o)
theorem grown_alloc_drew {w w' : World} {o : Obj} (hg : (w.alloc o).drew.grownBy w' none) : w'.heap[w.heap.size]? = some o := (hg.block w.heap.size (by show _ < (w.alloc o).heap.size; simp) (by simp)).trans (alloc_at w o)
theorem grown_keep {w w' : World} {g : Nat} {o : Obj} (hg : w.grownBy w' none) (hz : w.heap[g]? = some o) : w'.heap[g]? = some o := by
 refine (hg.block _ ?_ (by simp)).trans hz
 rcases Nat.lt_or_ge g w.heap.size with h | h
 ·exact h
 ·rw [Array.getElem?_eq_none h] at hz; cases hz
theorem below_set5 {B g : Nat} {w0 w : World} (h : Below B w0 w) (hg : B ≤ g) (u0 u1 u2 u3 u4 : Value) : Below B w0 (((((w.setCell ⟨g, 0, none⟩ u0).setCell ⟨g, 1, none⟩ u1).setCell ⟨g, 2, none⟩ u2).setCell ⟨g, 3, none⟩ u3).setCell ⟨g, 4, none⟩ u4) :=
 ((((h.setCell hg _).setCell hg _).setCell hg _).setCell hg _).setCell hg _
theorem strsA_up {w0 w w' : World} {B : Nat} {v : Value} {xs : List ByteArray} (h : StrsA (fun b => b < w0.heap.size) w v xs) (hb : Below w.heap.size w w') (hB : B ≤ w0.heap.size) : StrsA (fun b => b < B) w' v xs :=
 (RowA.keep h (fr_below hb)).mono fun b _ e => by omega

theorem drew_size (w : World) : w.drew.heap.size = w.heap.size := rfl
theorem alloc_size (w : World) (o : Obj) : (w.alloc o).heap.size = w.heap.size + 1 := by simp
theorem heap_set5 {w : World} {g : Nat} {t : TypeId} {z0 z1 z2 z3 z4 : Value} (hz : w.heap[g]? = some (.cells #[z0, z1, z2, z3, z4] t)) (u0 u1 u2 u3 u4 : Value) :
  (((((w.setCell ⟨g, 0, none⟩ u0).setCell ⟨g, 1, none⟩ u1).setCell ⟨g, 2, none⟩ u2).setCell ⟨g, 3, none⟩ u3).setCell ⟨g, 4, none⟩ u4).heap[g]? = some (.cells #[u0, u1, u2, u3, u4] t) :=
 heap_set 4 u4 (heap_set 3 u3 (heap_set 2 u2 (heap_set 1 u1 (heap_set 0 u0 hz))))
theorem fr_set5 {Av : Nat → Prop} {w : World} {g : Nat} (hg : Av g) (u0 u1 u2 u3 u4 : Value) : Fr Av w (((((w.setCell ⟨g, 0, none⟩ u0).setCell ⟨g, 1, none⟩ u1).setCell ⟨g, 2, none⟩ u2).setCell ⟨g, 3, none⟩ u3).setCell ⟨g, 4, none⟩ u4) :=
 ((((fr_set (a := ⟨g, 0, none⟩) hg u0).trans (fr_set (a := ⟨g, 1, none⟩) hg u1)).trans (fr_set (a := ⟨g, 2, none⟩) hg u2)).trans (fr_set (a := ⟨g, 3, none⟩) hg u3)).trans (fr_set (a := ⟨g, 4, none⟩) hg u4)
/-- A list lies apart from a record too. -/
theorem strs_lift {w w' : World} {B B0 g : Nat} {v : Value} {xs : List ByteArray} (h : StrsO (fun b => b < B0) w v xs) (hb : Below w.heap.size w w') (hB : ∀ b, b < w.heap.size → (b < B ∨ b = g) → b < B0) : StrsO (fun b => b < B ∨ b = g) w' v xs :=
 StrsO.keep (StrsO.mono h hB) (fr_below hb)
theorem grown_below0 {w w' : World} (hg : w.grownBy w' none) : Below w.heap.size w w' := below_grown0 (Below.refl _ _) hg (Nat.le_refl _)
theorem grown_below1 {w w' : World} {o : Obj} (hg : (w.alloc o).grownBy w' none) : Below w.heap.size w w' := below_grown0 ((Below.refl _ _).alloc (Nat.le_refl _) _) hg (by simp)
theorem below_up {w w1 w2 : World} (h : Below w.heap.size w w1) (h2 : Below w1.heap.size w1 w2) : Below w.heap.size w w2 := h.trans (h2.mono h.size)
/-- Three rows of which no two share a block. -/
def Ap3 (u v x : Value) : Prop := ∀ b, (u.ownBlock = some b → v.ownBlock ≠ some b ∧ x.ownBlock ≠ some b) ∧ (v.ownBlock = some b → x.ownBlock ≠ some b)
/-- The record of a copy, its lists apart. -/
def CopyI (B : Nat) (x : RuleS) (g : Nat) (W : World) : Prop := ∃ vi vo vf, W.heap[g]? = some (.cells #[.string x.name, vi, vo, vf, .slice none 0 0] 38) ∧ StrsO (fun b => b < B ∨ b = g) W vi x.ins ∧ StrsO (fun b => b < B ∨ b = g) W vo x.outs ∧ StrsO (fun b => b < B ∨ b = g) W vf x.after ∧ Ap3 vi vo vf

theorem copy_end5 {B g : Nat} {x : RuleS} {w : World} {t0 t1 t2 t3 t4 vi vo vf : Value} (hz : w.heap[g]? = some (.cells #[t0, t1, t2, t3, t4] 38)) (h1 : StrsO (fun b => b < B ∨ b = g) w vi x.ins) (h2 : StrsO (fun b => b < B ∨ b = g) w vo x.outs) (h3 : StrsO (fun b => b < B ∨ b = g) w vf x.after) (h4 : Ap3 vi vo vf) :
  CopyI B x g (((((w.setCell ⟨g, 0, none⟩ (.string x.name)).setCell ⟨g, 1, none⟩ vi).setCell ⟨g, 2, none⟩ vo).setCell ⟨g, 3, none⟩ vf).setCell ⟨g, 4, none⟩ (.slice none 0 0)) :=
 ⟨vi, vo, vf, heap_set5 hz _ _ _ _ _, StrsO.keep h1 (fr_set5 (.inr rfl) _ _ _ _ _), StrsO.keep h2 (fr_set5 (.inr rfl) _ _ _ _ _), StrsO.keep h3 (fr_set5 (.inr rfl) _ _ _ _ _), h4⟩
theorem copy_end1 {B : Nat} {x : RuleS} {w : World} {vi vo vf : Value} (h1 : StrsO (fun b => b < B ∨ b = w.heap.size) w vi x.ins) (h2 : StrsO (fun b => b < B ∨ b = w.heap.size) w vo x.outs) (h3 : StrsO (fun b => b < B ∨ b = w.heap.size) w vf x.after) (h4 : Ap3 vi vo vf) :
  CopyI B x w.heap.size (w.alloc (.cells #[.string x.name, vi, vo, vf, .slice none 0 0] 38)) :=
 ⟨vi, vo, vf, alloc_at _ _, StrsO.keep h1 (fr_alloc _ _ _), StrsO.keep h2 (fr_alloc _ _ _), StrsO.keep h3 (fr_alloc _ _ _), h4⟩

/-- The world of the loop over the steps: the record, its lists, the copied steps. -/
structure CopyL (W1 WC : World) (g : Nat) (x : RuleS) (vi vo vf vv : Value) (rs : List (List Value)) (ys : List StepS) (wr : World) : Prop where
 below : Below W1.heap.size W1 wr
 record : wr.heap[g]? = some (.cells #[.string x.name, vi, vo, vf, vv] 38)
 ins : StrsO (fun b => b < W1.heap.size ∨ b = g ∨ WC.heap.size ≤ b) wr vi x.ins
 outs : StrsO (fun b => b < W1.heap.size ∨ b = g ∨ WC.heap.size ≤ b) wr vo x.outs
 after : StrsO (fun b => b < W1.heap.size ∨ b = g ∨ WC.heap.size ≤ b) wr vf x.after
 size : WC.heap.size ≤ wr.heap.size
 own : wr.ownsRow WC.heap.size 50 5 vv rs.length rs.flatten
 all : AllA (StepA (AvOf WC.heap.size vv) wr) rs ys
section
variable {W1 WC : World} {g : Nat} {x : RuleS} {vi vo vf vv : Value} {rs : List (List Value)} {ys : List StepS} {wr w' : World}
theorem CopyL.step (h : CopyL W1 WC g x vi vo vf vv rs ys wr) (hg : g < WC.heap.size) (hb : Below wr.heap.size wr w') : CopyL W1 WC g x vi vo vf vv rs ys w' :=
 ⟨h.below.trans (hb.mono h.below.size), (hb.block g (Nat.lt_of_lt_of_le hg h.size)).trans h.record, StrsO.keep h.ins (fr_below hb), StrsO.keep h.outs (fr_below hb), StrsO.keep h.after (fr_below hb), Nat.le_trans h.size hb.size,
  World.ownsRow.kept (row := none) h.own ⟨hb.os, hb.tape, hb.output, hb.size, fun k hk _ => hb.block k hk⟩ (by cases Value.ownBlock _ <;> simp), h.all.imp fun r x h => h.keep (fr_below hb)⟩
theorem CopyL.grow (h : CopyL W1 WC g x vi vo vf vv rs ys wr) (hg0 : W1.heap.size ≤ g) (hg : g < WC.heap.size) {r : List Value} {y : StepS} {a n c : _} (hgr : wr.grownBy w' vv.ownBlock) (hnew : ∀ b, (Value.slice a n c).ownBlock = some b → vv.ownBlock = some b ∨ wr.heap.size ≤ b)
  (hr : StepA (AvOf WC.heap.size vv) wr r y) (ho : w'.ownsRow WC.heap.size 50 5 (.slice a n c) (rs.length + 1) (rs.flatten ++ r)) :
  CopyL W1 WC g x vi vo vf (.slice a n c) (rs ++ [r]) (ys ++ [y]) (w'.setCell ⟨g, 4, none⟩ (.slice a n c)) := by
 have hown : ∀ k, vv.ownBlock = some k → WC.heap.size ≤ k := fun k hk => (h.own.lt k hk).1
 have hW1 : W1.heap.size ≤ WC.heap.size := by omega
 have hfr : Fr (fun b => b < W1.heap.size ∨ b = g ∨ WC.heap.size ≤ b) wr w' := fr_grown hgr fun k hk => .inr (.inr (hown k hk))
 have hfs : Fr (fun b => b < W1.heap.size ∨ b = g ∨ WC.heap.size ≤ b) w' (w'.setCell ⟨g, 4, none⟩ (.slice a n c)) := fr_set (a := ⟨g, 4, none⟩) (.inr (.inl rfl)) _
 have hsg : Fr (fun b => b = g) w' (w'.setCell ⟨g, 4, none⟩ (.slice a n c)) := fr_set (Av := fun b => b = g) (a := ⟨g, 4, none⟩) rfl _
 have hrec : w'.heap[g]? = some (.cells #[.string x.name, vi, vo, vf, vv] 38) := (hgr.block g (Nat.lt_of_lt_of_le hg h.size) (fun e => by have := hown g e.symm; omega)).trans h.record
 have hall := (grow_steps (h.all.snoc hr) hgr hnew).imp fun r' y' (h' : StepA (AvOf WC.heap.size (.slice a n c)) w' r' y') => h'.keep (hsg.mono fun b _ e => .inl (by subst e; exact hg))
 refine ⟨(h.below.grown hgr h.below.size fun k hk => by have := hown k hk; omega).setCell hg0 _, heap_set 4 _ hrec, StrsO.keep (StrsO.keep h.ins hfr) hfs, StrsO.keep (StrsO.keep h.outs hfr) hfs, StrsO.keep (StrsO.keep h.after hfr) hfs, Nat.le_trans h.size (by simpa [World.setCell] using hgr.size), ?_, hall⟩
 have h1 := ownsRow_setCell_below (a := ⟨g, 4, none⟩) ho hg (.slice a n c)
 rw [List.length_append, List.flatten_append]
 simpa using h1
end
/-- A step of a list that can be read. -/
theorem stepsI_at {w : World} {v : Value} {xs : List StepS} (h : StepsI w v xs) {k : Nat} {y : StepS} (hy : xs[k]? = some y) :
  ∃ b o cap a1 c1 a2 c2, v = .slice (some ⟨b, o, none⟩) xs.length cap ∧ b < w.heap.size ∧ IsStrs w (.slice a1 y.args.length c1) y.args ∧ IsStrs w (.slice a2 y.lits.length c2) y.lits ∧
   ∀ w', Below w.heap.size w w' → w'.cell? ⟨b, o + k * 5, none⟩ = some (.string y.out) ∧ w'.cell? ⟨b, o + k * 5 + 1, none⟩ = some (.int .i64 y.op) ∧ w'.cell? ⟨b, o + k * 5 + 2, none⟩ = some (.slice a1 y.args.length c1) ∧ w'.cell? ⟨b, o + k * 5 + 3, none⟩ = some (.slice a2 y.lits.length c2) ∧ w'.cell? ⟨b, o + k * 5 + 4, none⟩ = some (.int .i64 y.n) := by
 obtain ⟨rows, ⟨a, c, rfl, _, _, h2⟩, hall⟩ := h
 have hk : k < rows.length := by rw [hall.1]; exact (List.getElem?_eq_some_iff.1 hy).1
 obtain ⟨va, vl, e, ha, hl⟩ := hall.2 k _ y (List.getElem?_eq_getElem hk) hy
 obtain ⟨b, o, rfl, hb, hc⟩ := h2 (by rintro rfl; simp at hk)
 obtain ⟨a1, c1, rfl, q1⟩ := id ha
 obtain ⟨a2, c2, rfl, q2⟩ := id hl
 refine ⟨b, o, c, a1, c1, a2, c2, by rw [hall.1], hb, ha, hl, fun w' hw => ?_⟩
 have key : ∀ (i : Nat) u, rows[k][i]? = some u → w'.cell? ⟨b, o + k * 5 + i, none⟩ = some u := fun i u hu => (hw.cell (p := ⟨b, o + k * 5 + i, none⟩) hb).trans (hc k _ (List.getElem?_eq_getElem hk) i u hu)
 rw [e] at key
 exact ⟨key 0 _ rfl, key 1 _ rfl, key 2 _ rfl, key 3 _ rfl, key 4 _ rfl⟩
theorem stepA_raise {wr w' : World} {B : Nat} {vv : Value} {y : StepS} {va vl : Value} (h1 : StrsA (fun b => b < wr.heap.size) w' va y.args) (h2 : StrsA (fun b => b < wr.heap.size) w' vl y.lits) (hB : B ≤ wr.heap.size) (ho : ∀ b, vv.ownBlock = some b → b < wr.heap.size) :
  StepA (AvOf B vv) w' [.string y.out, .int .i64 y.op, va, vl, .int .i64 y.n] y :=
 StepA.mono (Av := fun b => b < wr.heap.size) ⟨va, vl, rfl, h1, h2⟩ fun b _ e => by
  rcases e with e | e
  ·omega
  ·exact ho b e

/-- A rule by value, its lists apart and open. -/
def RuleO (w w' : World) (x : RuleS) (e : Ending) : Prop :=
 ∃ vi vo vf vs, e = .returned (.agg #[.string x.name, vi, vo, vf, vs]) ∧ StrsO (fun b => b < w.heap.size) w' vi x.ins ∧ StrsO (fun b => b < w.heap.size) w' vo x.outs ∧ StrsO (fun b => b < w.heap.size) w' vf x.after ∧ StepsA (fun b => b < w.heap.size) w' vs x.steps ∧ OpenV w' vs
/-- .. and no two of them share a block, nor one of them one with the steps. -/
def RuleF (w w' : World) (x : RuleS) (e : Ending) : Prop :=
 ∃ vi vo vf vs, e = .returned (.agg #[.string x.name, vi, vo, vf, vs]) ∧ StrsO (fun b => b < w.heap.size) w' vi x.ins ∧ StrsO (fun b => b < w.heap.size) w' vo x.outs ∧ StrsO (fun b => b < w.heap.size) w' vf x.after ∧ StepsA (fun b => b < w.heap.size) w' vs x.steps ∧ OpenV w' vs ∧ Ap3 vi vo vf ∧
  ∃ B0, (∀ b, vi.ownBlock = some b ∨ vf.ownBlock = some b → b < B0) ∧ StepsA (fun b => b < B0) w' vs x.steps
theorem RuleF.o {w w' : World} {x : RuleS} {e : Ending} (h : RuleF w w' x e) : RuleO w w' x e := by
 obtain ⟨vi, vo, vf, vs, h0, h1, h2, h3, h4, h5, _⟩ := h
 exact ⟨vi, vo, vf, vs, h0, h1, h2, h3, h4, h5⟩
theorem RuleO.e {w w' : World} {x : RuleS} {e : Ending} (h : RuleO w w' x e) : RuleE w w' x e := by
 obtain ⟨vi, vo, vf, vs, h0, h1, h2, h3, h4, _⟩ := h
 exact ⟨vi, vo, vf, vs, h0, h1.1, h2.1, h3.1, h4⟩

set_option maxHeartbeats 20000000 in
set_option maxRecDepth 100000 in
theorem copyR_full (x : RuleS) (vi vo vf vs : Value) (w : World) (h : RuleI w [.string x.name, vi, vo, vf, vs] x) (hf : SmallR x 1048576) :
  Calls Tryz.prog 12 #[.agg #[.string x.name, vi, vo, vf, vs]] w fun e w' => RuleF w w' x e ∧ Below w.heap.size w w' := by
 obtain ⟨_, _, _, _, q, h1, h2, h3, h4⟩ := h
 cases q
 obtain ⟨a1, c1, rfl, _⟩ := id h1
 obtain ⟨a2, c2, rfl, _⟩ := id h2
 obtain ⟨a3, c3, rfl, _⟩ := id h3
 obtain ⟨rows, hrow, hall⟩ := id h4
 obtain ⟨a4, c4, rfl, _⟩ := id hrow
 obtain ⟨ob, hob⟩ : ∃ o : Obj, o = .cells #[.string x.name, .slice a1 x.ins.length c1, .slice a2 x.outs.length c2, .slice a3 x.after.length c3, .slice a4 rows.length c4] 38 := ⟨_, rfl⟩
 obtain ⟨W1, hW1⟩ : ∃ W1, (w.alloc ob).alloc (.cells #[.string ⟨#[]⟩, .slice none 0 0, .slice none 0 0, .slice none 0 0, .slice none 0 0] 38) = W1 := ⟨_, rfl⟩
 have hb1 : Below w.heap.size w W1 := by rw [← hW1]; exact ((Below.refl _ _).alloc (Nat.le_refl _) _).alloc (by simp) _
 have hs1 : W1.heap.size = w.heap.size + 2 := by rw [← hW1]; simp
 have hx1 : W1.heap[w.heap.size]? = some ob := by rw [← hW1, Below.heap_alloc _ _ _ (by simp)]; exact alloc_at w ob
 have hx2 : W1.heap[w.heap.size + 1]? = some (.cells #[.string ⟨#[]⟩, .slice none 0 0, .slice none 0 0, .slice none 0 0, .slice none 0 0] 38) := by
  rw [← hW1]
  have := alloc_at (w.alloc ob) (.cells #[.string ⟨#[]⟩, .slice none 0 0, .slice none 0 0, .slice none 0 0, .slice none 0 0] 38)
  simpa using this
 subst hob
 have hcell : ∀ w', Below W1.heap.size W1 w' → _ := fun w' (hb : Below W1.heap.size W1 w') => cells5 ((hb.block w.heap.size (by omega)).trans hx1)
 have hc0 := fun w' hb => (hcell w' hb).1
 have hc1 := fun w' hb => (hcell w' hb).2.1
 have hc2 := fun w' hb => (hcell w' hb).2.2.1
 have hc3 := fun w' hb => (hcell w' hb).2.2.2.1
 have hc4 := fun w' hb => (hcell w' hb).2.2.2.2.1
 have HC4 := Lib.hid hc4
 have HS0 : Hid (Below W1.heap.size W1 W1.drew) := by show Below _ _ _; exact (Below.refl _ _).drew
 have HU : Hid (∀ w' o, Below W1.heap.size W1 w' → Below W1.heap.size W1 (w'.alloc o)) := by show ∀ w' o, _; exact fun w' o h => h.alloc h.size o
 have HUD : Hid (∀ o, Below W1.heap.size W1 (W1.alloc o).drew) := by show ∀ o, _; exact fun o => ((Below.refl _ _).alloc (Nat.le_refl _) o).drew
 have HB1 := Lib.hid hb1
 have H1 : Hid (∀ w', Below W1.heap.size W1 w' → IsStrs w' (.slice a1 x.ins.length c1) x.ins) := by show ∀ w', _; exact fun w' hb => h1.below (hb1.trans (hb.mono hb1.size))
 have H2 : Hid (∀ w', Below W1.heap.size W1 w' → IsStrs w' (.slice a2 x.outs.length c2) x.outs) := by show ∀ w', _; exact fun w' hb => h2.below (hb1.trans (hb.mono hb1.size))
 have H3 : Hid (∀ w', Below W1.heap.size W1 w' → IsStrs w' (.slice a3 x.after.length c3) x.after) := by show ∀ w', _; exact fun w' hb => h3.below (hb1.trans (hb.mono hb1.size))
 have H4 := Lib.hid h4
 have HX2 := Lib.hid hx2
 have HW1 := Lib.hid hW1
 have N1 := Lib.hid hf.ins.1
 have N2 := Lib.hid hf.outs.1
 have N3 := Lib.hid hf.after.1
 have HFS := Lib.hid hf
 have HS1 := Lib.hid hs1
 clear hcell h1 h2 h3 h4 hb1 hs1 hx1 hx2 hc4 hf hrow hW1
 go_enter Tryz.func12, Tryz.ntmps12
 go_upto_region 1 with fail
 rw [HW1.out]
 go_cut [3] (fun t wx => ∃ g, t = .pointer (some ⟨g, 0, none⟩) ∧ W1.heap.size ≤ g ∧ Below W1.heap.size W1 wx ∧ CopyI W1.heap.size x g wx)
 case first =>
  refine wp_region_held_drew (S := fun w' => Below W1.heap.size W1 w') (by kernel_rfl) ?_ (fun hHeld => ?_)
  ·exact HS0.out
  refine wpAnyH_take (i := 0) (oi := _) (v := ?_) (by simp only [List.getElem?_toArray, List.getElem?_cons_zero]; rfl) (by kernel_rfl) (by kernel_rfl) (by kernel_rfl) (by exact fun _ _ _ h => h) (Or.inl ⟨by rfl, ?_⟩) (by assumption) ?_
  rotate_left
  ·intro w hSw; go_simp; try with_reducible rfl
  try simp only [Act.put, List.setIfInBounds_toArray, List.set_cons_zero, List.set_cons_succ]
  refine wpAnyH_take (i := 1) (oi := _) (v := ?_) (by simp only [List.getElem?_toArray, List.getElem?_cons_succ, List.getElem?_cons_zero]; rfl) (by kernel_rfl) (by kernel_rfl) (by kernel_rfl) (by exact fun _ _ _ h => h) (Or.inl ⟨by rfl, ?_⟩) (by assumption) ?_
  rotate_left
  ·intro w hSw; go_simp; try with_reducible rfl
  try simp only [Act.put, List.setIfInBounds_toArray, List.set_cons_zero, List.set_cons_succ]
  refine wpAnyH_take (i := 2) (oi := _) (v := ?_) (by simp only [List.getElem?_toArray, List.getElem?_cons_succ, List.getElem?_cons_zero]; rfl) (by kernel_rfl) (by kernel_rfl) (by kernel_rfl) (by exact fun _ _ _ h => h) (Or.inl ⟨by rfl, ?_⟩) (by assumption) ?_
  rotate_left
  ·intro w hSw; go_simp; try with_reducible rfl
  try simp only [Act.put, List.setIfInBounds_toArray, List.set_cons_zero, List.set_cons_succ]
  refine wpAnyH_take (i := 3) (oi := _) (v := ?_) (by simp only [List.getElem?_toArray, List.getElem?_cons_succ, List.getElem?_cons_zero]; rfl) (by kernel_rfl) (by kernel_rfl) (by kernel_rfl) (by exact fun _ _ _ h => h) (Or.inl ⟨by rfl, ?_⟩) (by assumption) ?_
  rotate_left
  ·intro w hSw; go_simp; try with_reducible rfl
  try simp only [Act.put, List.setIfInBounds_toArray, List.set_cons_zero, List.set_cons_succ]
  refine wpAnyH_take (i := 5) (oi := _) (v := ?_) (by simp only [List.getElem?_toArray, List.getElem?_cons_succ, List.getElem?_cons_zero]; rfl) (by kernel_rfl) (by kernel_rfl) (by kernel_rfl) (by exact fun _ _ _ h => h) (Or.inl ⟨by rfl, ?_⟩) (by assumption) ?_
  rotate_left
  ·intro w hSw; go_simp; try with_reducible rfl
  try simp only [Act.put, List.setIfInBounds_toArray, List.set_cons_zero, List.set_cons_succ]
  refine wpAnyH_take (i := 6) (oi := _) (v := ?_) (by simp only [List.getElem?_toArray, List.getElem?_cons_succ, List.getElem?_cons_zero]; rfl) (by kernel_rfl) (by kernel_rfl) (by kernel_rfl) (by exact fun _ _ _ h => h) (Or.inl ⟨by rfl, ?_⟩) (by assumption) ?_
  rotate_left
  ·intro w hSw; go_simp; try with_reducible rfl
  try simp only [Act.put, List.setIfInBounds_toArray, List.set_cons_zero, List.set_cons_succ]
  refine wpAnyH_take (i := 8) (oi := _) (v := ?_) (by simp only [List.getElem?_toArray, List.getElem?_cons_succ, List.getElem?_cons_zero]; rfl) (by kernel_rfl) (by kernel_rfl) (by kernel_rfl) (by exact fun _ _ _ h => h) (Or.inl ⟨by rfl, ?_⟩) (by assumption) ?_
  rotate_left
  ·intro w hSw; go_simp; try with_reducible rfl
  try simp only [Act.put, List.setIfInBounds_toArray, List.set_cons_zero, List.set_cons_succ]
  refine wpAnyH_take (i := 9) (oi := _) (v := ?_) (by simp only [List.getElem?_toArray, List.getElem?_cons_succ, List.getElem?_cons_zero]; rfl) (by kernel_rfl) (by kernel_rfl) (by kernel_rfl) (by exact fun _ _ _ h => h) (Or.inl ⟨by rfl, ?_⟩) (by assumption) ?_
  rotate_left
  ·intro w hSw; go_simp; try with_reducible rfl
  try simp only [Act.put, List.setIfInBounds_toArray, List.set_cons_zero, List.set_cons_succ]
  refine wpAnyH_ready (rs := [4, 12]) (by kernel_rfl) (by simp) ?_
  refine AllReadyH.cons (o := _) (by simp only [List.getElem?_toArray, List.getElem?_cons_succ, List.getElem?_cons_zero]; rfl) (fun K hK => ?_) ?_
  ·refine step_append_strs (by rfl) _ _ (by rfl) (by rfl) (by rfl) (H1.out _ (by assumption)) N1.out ?_; intro i1 i2 i3 wI hsI hgI; skip; have hSn := below_grown0 (show Below W1.heap.size W1 _ by assumption) hgI (show Below W1.heap.size W1 _ by assumption).size
   refine hK.out _ _ ?_ (fun hHeld => ?_)
   ·try dsimp only
    assumption
   clear hK K
   try simp only [Act.put, List.setIfInBounds_toArray, List.set_cons_zero, List.set_cons_succ]
   refine wpAnyH_ready (rs := [7, 12]) (by kernel_rfl) (by simp) ?_
   refine AllReadyH.cons (o := _) (by simp only [List.getElem?_toArray, List.getElem?_cons_succ, List.getElem?_cons_zero]; rfl) (fun K hK => ?_) ?_
   ·refine step_append_strs (by rfl) _ _ (by rfl) (by rfl) (by rfl) (H2.out _ (by assumption)) N2.out ?_; intro j1 j2 j3 wO hsO hgO; skip; have hSn := below_grown0 (show Below W1.heap.size W1 _ by assumption) hgO (show Below W1.heap.size W1 _ by assumption).size
    refine hK.out _ _ ?_ (fun hHeld => ?_)
    ·try dsimp only
     assumption
    clear hK K
    try simp only [Act.put, List.setIfInBounds_toArray, List.set_cons_zero, List.set_cons_succ]
    refine wpAnyH_ready (rs := [10, 12]) (by kernel_rfl) (by simp) ?_
    refine AllReadyH.cons (o := _) (by simp only [List.getElem?_toArray, List.getElem?_cons_succ, List.getElem?_cons_zero]; rfl) (fun K hK => ?_) ?_
    ·refine step_append_strs (by rfl) _ _ (by rfl) (by rfl) (by rfl) (H3.out _ (by assumption)) N3.out ?_; intro l1 l2 l3 wF hsF hgF; skip; have hSn := below_grown0 (show Below W1.heap.size W1 _ by assumption) hgF (show Below W1.heap.size W1 _ by assumption).size
     refine hK.out _ _ ?_ (fun hHeld => ?_)
     ·try dsimp only
      assumption
     clear hK K
     try simp only [Act.put, List.setIfInBounds_toArray, List.set_cons_zero, List.set_cons_succ]
     refine wpAnyH_take (i := 11) (oi := _) (v := ?_) (by simp only [List.getElem?_toArray, List.getElem?_cons_succ, List.getElem?_cons_zero]; rfl) (by kernel_rfl) (by kernel_rfl) (by kernel_rfl) (by exact fun _ _ _ h => h) (Or.inl ⟨by rfl, ?_⟩) (by assumption) ?_
     rotate_left
     ·intro w hSw; go_simp; try with_reducible rfl
     try simp only [Act.put, List.setIfInBounds_toArray, List.set_cons_zero, List.set_cons_succ]
     refine wpAnyH_ready (rs := [12]) (by kernel_rfl) (by simp) ?_
     refine AllReadyH.cons (o := _) (by simp only [List.getElem?_toArray, List.getElem?_cons_succ, List.getElem?_cons_zero]; rfl) (fun K hK => ?_) ?_
     ·go_simp
      refine hK.out _ _ ?_ (fun hHeld => ?_)
      ·try dsimp only
       exact HU.out _ _ (by assumption)
      clear hK K
      try simp only [Act.put, List.setIfInBounds_toArray, List.set_cons_zero, List.set_cons_succ]
      refine wpAnyH_ready (rs := [13]) (by kernel_rfl) (by simp) ?_
      refine AllReadyH.cons (o := _) (by simp only [List.getElem?_toArray, List.getElem?_cons_succ, List.getElem?_cons_zero]; rfl) (fun K hK => ?_) ?_
      ·go_simp
       refine hK.out _ _ ?_ (fun hHeld => ?_)
       ·try dsimp only
        exact HU.out _ _ (by assumption)
       clear hK K
       try simp only [Act.put, List.setIfInBounds_toArray, List.set_cons_zero, List.set_cons_succ]
       refine wpAnyH_done (by kernel_rfl) ?_ _
       have s1 := hgI.size; have s2 := hgO.size; have s3 := hgF.size
       (try simp only [drew_size] at s1 s2 s3); (try simp only [alloc_size] at s1 s2 s3)
       have hOF : Below wO.heap.size wO wF := by first | exact grown_below0 hgF | exact grown_below1 hgF
       have hIO : Below wI.heap.size wI wO := by first | exact grown_below0 hgO | exact grown_below1 hgO
       have hIF := below_up hIO hOF
       try clear y0 y1 y2 y3 y4 u0 u1 u2 u3 u4
       go_wp2_with fail
       go_meet
       refine ⟨_, rfl, by omega, by assumption, ?_⟩
       exact copy_end1 (strs_lift hsI hIF (by intro b hb1 hb2; (try simp only [drew_size]); (try simp only [alloc_size]); omega)) (strs_lift hsO hOF (by intro b hb1 hb2; (try simp only [drew_size]); (try simp only [alloc_size]); omega)) (strs_lift hsF (Below.refl _ _) (by intro b hb1 hb2; (try simp only [drew_size]); (try simp only [alloc_size]); omega)) (fun b => ⟨fun h1 => ⟨fun h2 => (by have q1 := (hsI.1.2 b h1).1; have q2 : ¬ b < _ := (hsO.1.2 b h2).2; (try simp only [drew_size] at q1 q2); (try simp only [alloc_size] at q1 q2); omega), fun h2 => (by have q1 := (hsI.1.2 b h1).1; have q2 : ¬ b < _ := (hsF.1.2 b h2).2; (try simp only [drew_size] at q1 q2); (try simp only [alloc_size] at q1 q2); omega)⟩, fun h1 h2 => (by have q1 := (hsO.1.2 b h1).1; have q2 : ¬ b < _ := (hsF.1.2 b h2).2; (try simp only [drew_size] at q1 q2); (try simp only [alloc_size] at q1 q2); omega)⟩)
      exact AllReadyH.nil
     exact AllReadyH.nil
    refine AllReadyH.cons (o := _) (by simp only [List.getElem?_toArray, List.getElem?_cons_succ, List.getElem?_cons_zero]; rfl) (fun K hK => ?_) ?_
    ·go_simp
     refine hK.out _ _ ?_ (fun hHeld => ?_)
     ·try dsimp only
      exact HU.out _ _ (by assumption)
     clear hK K
     try simp only [Act.put, List.setIfInBounds_toArray, List.set_cons_zero, List.set_cons_succ]
     refine wpAnyH_ready (rs := [10]) (by kernel_rfl) (by simp) ?_
     refine AllReadyH.cons (o := _) (by simp only [List.getElem?_toArray, List.getElem?_cons_succ, List.getElem?_cons_zero]; rfl) (fun K hK => ?_) ?_
     ·refine step_append_strs (by rfl) _ _ (by rfl) (by rfl) (by rfl) (H3.out _ (by assumption)) N3.out ?_; intro l1 l2 l3 wF hsF hgF; have hz := grown_alloc hgF; obtain ⟨y0, y1, y2, y3, y4, u0, u1, u2, u3, u4⟩ := cells5 hz; have hSn := below_grown0 (show Below W1.heap.size W1 _ by assumption) hgF (show Below W1.heap.size W1 _ by assumption).size
      refine hK.out _ _ ?_ (fun hHeld => ?_)
      ·try dsimp only
       assumption
      clear hK K
      try simp only [Act.put, List.setIfInBounds_toArray, List.set_cons_zero, List.set_cons_succ]
      refine wpAnyH_take (i := 11) (oi := _) (v := ?_) (by simp only [List.getElem?_toArray, List.getElem?_cons_succ, List.getElem?_cons_zero]; rfl) (by kernel_rfl) (by kernel_rfl) (by kernel_rfl) (by exact fun _ _ _ h => h) (Or.inl ⟨by rfl, ?_⟩) (by assumption) ?_
      rotate_left
      ·intro w hSw; go_simp; try with_reducible rfl
      try simp only [Act.put, List.setIfInBounds_toArray, List.set_cons_zero, List.set_cons_succ]
      refine wpAnyH_ready (rs := [13]) (by kernel_rfl) (by simp) ?_
      refine AllReadyH.cons (o := _) (by simp only [List.getElem?_toArray, List.getElem?_cons_succ, List.getElem?_cons_zero]; rfl) (fun K hK => ?_) ?_
      ·go_simp
       refine hK.out _ _ ?_ (fun hHeld => ?_)
       ·try dsimp only
        refine below_set5 (by assumption) ?_ _ _ _ _ _; exact Below.size (by assumption)
       clear hK K
       try simp only [Act.put, List.setIfInBounds_toArray, List.set_cons_zero, List.set_cons_succ]
       refine wpAnyH_done (by kernel_rfl) ?_ _
       have s1 := hgI.size; have s2 := hgO.size; have s3 := hgF.size
       (try simp only [drew_size] at s1 s2 s3); (try simp only [alloc_size] at s1 s2 s3)
       have hOF : Below wO.heap.size wO wF := by first | exact grown_below0 hgF | exact grown_below1 hgF
       have hIO : Below wI.heap.size wI wO := by first | exact grown_below0 hgO | exact grown_below1 hgO
       have hIF := below_up hIO hOF
       try clear y0 y1 y2 y3 y4 u0 u1 u2 u3 u4
       go_wp2_with fail
       go_meet
       refine ⟨_, rfl, by omega, by assumption, ?_⟩
       exact copy_end5 hz (strs_lift hsI hIF (by intro b hb1 hb2; (try simp only [drew_size]); (try simp only [alloc_size]); omega)) (strs_lift hsO hOF (by intro b hb1 hb2; (try simp only [drew_size]); (try simp only [alloc_size]); omega)) (strs_lift hsF (Below.refl _ _) (by intro b hb1 hb2; (try simp only [drew_size]); (try simp only [alloc_size]); omega)) (fun b => ⟨fun h1 => ⟨fun h2 => (by have q1 := (hsI.1.2 b h1).1; have q2 : ¬ b < _ := (hsO.1.2 b h2).2; (try simp only [drew_size] at q1 q2); (try simp only [alloc_size] at q1 q2); omega), fun h2 => (by have q1 := (hsI.1.2 b h1).1; have q2 : ¬ b < _ := (hsF.1.2 b h2).2; (try simp only [drew_size] at q1 q2); (try simp only [alloc_size] at q1 q2); omega)⟩, fun h1 h2 => (by have q1 := (hsO.1.2 b h1).1; have q2 : ¬ b < _ := (hsF.1.2 b h2).2; (try simp only [drew_size] at q1 q2); (try simp only [alloc_size] at q1 q2); omega)⟩)
      exact AllReadyH.nil
     exact AllReadyH.nil
    exact AllReadyH.nil
   refine AllReadyH.cons (o := _) (by simp only [List.getElem?_toArray, List.getElem?_cons_succ, List.getElem?_cons_zero]; rfl) (fun K hK => ?_) ?_
   ·go_simp
    refine hK.out _ _ ?_ (fun hHeld => ?_)
    ·try dsimp only
     exact HU.out _ _ (by assumption)
    clear hK K
    try simp only [Act.put, List.setIfInBounds_toArray, List.set_cons_zero, List.set_cons_succ]
    refine wpAnyH_ready (rs := [7]) (by kernel_rfl) (by simp) ?_
    refine AllReadyH.cons (o := _) (by simp only [List.getElem?_toArray, List.getElem?_cons_succ, List.getElem?_cons_zero]; rfl) (fun K hK => ?_) ?_
    ·refine step_append_strs (by rfl) _ _ (by rfl) (by rfl) (by rfl) (H2.out _ (by assumption)) N2.out ?_; intro j1 j2 j3 wO hsO hgO; have hz := grown_alloc hgO; obtain ⟨y0, y1, y2, y3, y4, u0, u1, u2, u3, u4⟩ := cells5 hz; have hSn := below_grown0 (show Below W1.heap.size W1 _ by assumption) hgO (show Below W1.heap.size W1 _ by assumption).size
     refine hK.out _ _ ?_ (fun hHeld => ?_)
     ·try dsimp only
      assumption
     clear hK K
     try simp only [Act.put, List.setIfInBounds_toArray, List.set_cons_zero, List.set_cons_succ]
     refine wpAnyH_ready (rs := [10]) (by kernel_rfl) (by simp) ?_
     refine AllReadyH.cons (o := _) (by simp only [List.getElem?_toArray, List.getElem?_cons_succ, List.getElem?_cons_zero]; rfl) (fun K hK => ?_) ?_
     ·refine step_append_strs (by rfl) _ _ (by rfl) (by rfl) (by rfl) (H3.out _ (by assumption)) N3.out ?_; intro l1 l2 l3 wF hsF hgF; have hz := grown_keep hgF hz; clear y0 y1 y2 y3 y4 u0 u1 u2 u3 u4; obtain ⟨y0, y1, y2, y3, y4, u0, u1, u2, u3, u4⟩ := cells5 hz; have hSn := below_grown0 (show Below W1.heap.size W1 _ by assumption) hgF (show Below W1.heap.size W1 _ by assumption).size
      refine hK.out _ _ ?_ (fun hHeld => ?_)
      ·try dsimp only
       assumption
      clear hK K
      try simp only [Act.put, List.setIfInBounds_toArray, List.set_cons_zero, List.set_cons_succ]
      refine wpAnyH_take (i := 11) (oi := _) (v := ?_) (by simp only [List.getElem?_toArray, List.getElem?_cons_succ, List.getElem?_cons_zero]; rfl) (by kernel_rfl) (by kernel_rfl) (by kernel_rfl) (by exact fun _ _ _ h => h) (Or.inl ⟨by rfl, ?_⟩) (by assumption) ?_
      rotate_left
      ·intro w hSw; go_simp; try with_reducible rfl
      try simp only [Act.put, List.setIfInBounds_toArray, List.set_cons_zero, List.set_cons_succ]
      refine wpAnyH_ready (rs := [13]) (by kernel_rfl) (by simp) ?_
      refine AllReadyH.cons (o := _) (by simp only [List.getElem?_toArray, List.getElem?_cons_succ, List.getElem?_cons_zero]; rfl) (fun K hK => ?_) ?_
      ·go_simp
       refine hK.out _ _ ?_ (fun hHeld => ?_)
       ·try dsimp only
        refine below_set5 (by assumption) ?_ _ _ _ _ _; exact Below.size (by assumption)
       clear hK K
       try simp only [Act.put, List.setIfInBounds_toArray, List.set_cons_zero, List.set_cons_succ]
       refine wpAnyH_done (by kernel_rfl) ?_ _
       have s1 := hgI.size; have s2 := hgO.size; have s3 := hgF.size
       (try simp only [drew_size] at s1 s2 s3); (try simp only [alloc_size] at s1 s2 s3)
       have hOF : Below wO.heap.size wO wF := by first | exact grown_below0 hgF | exact grown_below1 hgF
       have hIO : Below wI.heap.size wI wO := by first | exact grown_below0 hgO | exact grown_below1 hgO
       have hIF := below_up hIO hOF
       try clear y0 y1 y2 y3 y4 u0 u1 u2 u3 u4
       go_wp2_with fail
       go_meet
       refine ⟨_, rfl, by omega, by assumption, ?_⟩
       exact copy_end5 hz (strs_lift hsI hIF (by intro b hb1 hb2; (try simp only [drew_size]); (try simp only [alloc_size]); omega)) (strs_lift hsO hOF (by intro b hb1 hb2; (try simp only [drew_size]); (try simp only [alloc_size]); omega)) (strs_lift hsF (Below.refl _ _) (by intro b hb1 hb2; (try simp only [drew_size]); (try simp only [alloc_size]); omega)) (fun b => ⟨fun h1 => ⟨fun h2 => (by have q1 := (hsI.1.2 b h1).1; have q2 : ¬ b < _ := (hsO.1.2 b h2).2; (try simp only [drew_size] at q1 q2); (try simp only [alloc_size] at q1 q2); omega), fun h2 => (by have q1 := (hsI.1.2 b h1).1; have q2 : ¬ b < _ := (hsF.1.2 b h2).2; (try simp only [drew_size] at q1 q2); (try simp only [alloc_size] at q1 q2); omega)⟩, fun h1 h2 => (by have q1 := (hsO.1.2 b h1).1; have q2 : ¬ b < _ := (hsF.1.2 b h2).2; (try simp only [drew_size] at q1 q2); (try simp only [alloc_size] at q1 q2); omega)⟩)
      exact AllReadyH.nil
     exact AllReadyH.nil
    exact AllReadyH.nil
   exact AllReadyH.nil
  refine AllReadyH.cons (o := _) (by simp only [List.getElem?_toArray, List.getElem?_cons_succ, List.getElem?_cons_zero]; rfl) (fun K hK => ?_) ?_
  ·go_simp
   refine hK.out _ _ ?_ (fun hHeld => ?_)
   ·try dsimp only
    exact HUD.out _
   clear hK K
   try simp only [Act.put, List.setIfInBounds_toArray, List.set_cons_zero, List.set_cons_succ]
   refine wpAnyH_ready (rs := [4]) (by kernel_rfl) (by simp) ?_
   refine AllReadyH.cons (o := _) (by simp only [List.getElem?_toArray, List.getElem?_cons_succ, List.getElem?_cons_zero]; rfl) (fun K hK => ?_) ?_
   ·refine step_append_strs (by rfl) _ _ (by rfl) (by rfl) (by rfl) (H1.out _ (by assumption)) N1.out ?_; intro i1 i2 i3 wI hsI hgI; have hz := grown_alloc_drew hgI; obtain ⟨y0, y1, y2, y3, y4, u0, u1, u2, u3, u4⟩ := cells5 hz; have hSn := below_grown0 (show Below W1.heap.size W1 _ by assumption) hgI (show Below W1.heap.size W1 _ by assumption).size
    refine hK.out _ _ ?_ (fun hHeld => ?_)
    ·try dsimp only
     assumption
    clear hK K
    try simp only [Act.put, List.setIfInBounds_toArray, List.set_cons_zero, List.set_cons_succ]
    refine wpAnyH_ready (rs := [7]) (by kernel_rfl) (by simp) ?_
    refine AllReadyH.cons (o := _) (by simp only [List.getElem?_toArray, List.getElem?_cons_succ, List.getElem?_cons_zero]; rfl) (fun K hK => ?_) ?_
    ·refine step_append_strs (by rfl) _ _ (by rfl) (by rfl) (by rfl) (H2.out _ (by assumption)) N2.out ?_; intro j1 j2 j3 wO hsO hgO; have hz := grown_keep hgO hz; clear y0 y1 y2 y3 y4 u0 u1 u2 u3 u4; obtain ⟨y0, y1, y2, y3, y4, u0, u1, u2, u3, u4⟩ := cells5 hz; have hSn := below_grown0 (show Below W1.heap.size W1 _ by assumption) hgO (show Below W1.heap.size W1 _ by assumption).size
     refine hK.out _ _ ?_ (fun hHeld => ?_)
     ·try dsimp only
      assumption
     clear hK K
     try simp only [Act.put, List.setIfInBounds_toArray, List.set_cons_zero, List.set_cons_succ]
     refine wpAnyH_ready (rs := [10]) (by kernel_rfl) (by simp) ?_
     refine AllReadyH.cons (o := _) (by simp only [List.getElem?_toArray, List.getElem?_cons_succ, List.getElem?_cons_zero]; rfl) (fun K hK => ?_) ?_
     ·refine step_append_strs (by rfl) _ _ (by rfl) (by rfl) (by rfl) (H3.out _ (by assumption)) N3.out ?_; intro l1 l2 l3 wF hsF hgF; have hz := grown_keep hgF hz; clear y0 y1 y2 y3 y4 u0 u1 u2 u3 u4; obtain ⟨y0, y1, y2, y3, y4, u0, u1, u2, u3, u4⟩ := cells5 hz; have hSn := below_grown0 (show Below W1.heap.size W1 _ by assumption) hgF (show Below W1.heap.size W1 _ by assumption).size
      refine hK.out _ _ ?_ (fun hHeld => ?_)
      ·try dsimp only
       assumption
      clear hK K
      try simp only [Act.put, List.setIfInBounds_toArray, List.set_cons_zero, List.set_cons_succ]
      refine wpAnyH_take (i := 11) (oi := _) (v := ?_) (by simp only [List.getElem?_toArray, List.getElem?_cons_succ, List.getElem?_cons_zero]; rfl) (by kernel_rfl) (by kernel_rfl) (by kernel_rfl) (by exact fun _ _ _ h => h) (Or.inl ⟨by rfl, ?_⟩) (by assumption) ?_
      rotate_left
      ·intro w hSw; go_simp; try with_reducible rfl
      try simp only [Act.put, List.setIfInBounds_toArray, List.set_cons_zero, List.set_cons_succ]
      refine wpAnyH_ready (rs := [13]) (by kernel_rfl) (by simp) ?_
      refine AllReadyH.cons (o := _) (by simp only [List.getElem?_toArray, List.getElem?_cons_succ, List.getElem?_cons_zero]; rfl) (fun K hK => ?_) ?_
      ·go_simp
       refine hK.out _ _ ?_ (fun hHeld => ?_)
       ·try dsimp only
        refine below_set5 (by assumption) ?_ _ _ _ _ _; exact Nat.le_refl _
       clear hK K
       try simp only [Act.put, List.setIfInBounds_toArray, List.set_cons_zero, List.set_cons_succ]
       refine wpAnyH_done (by kernel_rfl) ?_ _
       have s1 := hgI.size; have s2 := hgO.size; have s3 := hgF.size
       (try simp only [drew_size] at s1 s2 s3); (try simp only [alloc_size] at s1 s2 s3)
       have hOF : Below wO.heap.size wO wF := by first | exact grown_below0 hgF | exact grown_below1 hgF
       have hIO : Below wI.heap.size wI wO := by first | exact grown_below0 hgO | exact grown_below1 hgO
       have hIF := below_up hIO hOF
       try clear y0 y1 y2 y3 y4 u0 u1 u2 u3 u4
       go_wp2_with fail
       go_meet
       refine ⟨_, rfl, by omega, by assumption, ?_⟩
       exact copy_end5 hz (strs_lift hsI hIF (by intro b hb1 hb2; (try simp only [drew_size]); (try simp only [alloc_size]); omega)) (strs_lift hsO hOF (by intro b hb1 hb2; (try simp only [drew_size]); (try simp only [alloc_size]); omega)) (strs_lift hsF (Below.refl _ _) (by intro b hb1 hb2; (try simp only [drew_size]); (try simp only [alloc_size]); omega)) (fun b => ⟨fun h1 => ⟨fun h2 => (by have q1 := (hsI.1.2 b h1).1; have q2 : ¬ b < _ := (hsO.1.2 b h2).2; (try simp only [drew_size] at q1 q2); (try simp only [alloc_size] at q1 q2); omega), fun h2 => (by have q1 := (hsI.1.2 b h1).1; have q2 : ¬ b < _ := (hsF.1.2 b h2).2; (try simp only [drew_size] at q1 q2); (try simp only [alloc_size] at q1 q2); omega)⟩, fun h1 h2 => (by have q1 := (hsO.1.2 b h1).1; have q2 : ¬ b < _ := (hsF.1.2 b h2).2; (try simp only [drew_size] at q1 q2); (try simp only [alloc_size] at q1 q2); omega)⟩)
      exact AllReadyH.nil
     exact AllReadyH.nil
    exact AllReadyH.nil
   exact AllReadyH.nil
  exact AllReadyH.nil
 case rest =>
  obtain ⟨g, rfl, hgl, hbw, hcop⟩ := hcut
  obtain ⟨vi, vo, vf, hz, hvi, hvo, hvf, hap⟩ := hcop
  obtain ⟨i1, i2, i3, hvs⟩ := rowA_shape hvi.1
  subst hvs
  obtain ⟨j1, j2, j3, hvs⟩ := rowA_shape hvo.1
  subst hvs
  obtain ⟨l1, l2, l3, hvs⟩ := rowA_shape hvf.1
  subst hvs
  obtain ⟨WC, hWC⟩ : ∃ V, wc = V := ⟨_, rfl⟩
  rw [hWC] at hbw hz hvi hvo hvf ⊢
  clear hWC
  have HAP := Lib.hid hap
  clear hap
  have hgs : g < WC.heap.size := by
   rcases Nat.lt_or_ge g WC.heap.size with h | h
   ·exact h
   ·rw [Array.getElem?_eq_none h] at hz; cases hz
  have H0 : Hid (CopyL W1 WC g x (.slice i1 i2 i3) (.slice j1 j2 j3) (.slice l1 l2 l3) (.slice none 0 0) [] [] WC) := by
   show CopyL _ _ _ _ _ _ _ _ _ _ _
   exact ⟨hbw, hz, StrsO.mono hvi fun b hb e => by omega, StrsO.mono hvo fun b hb e => by omega, StrsO.mono hvf fun b hb e => by omega, Nat.le_refl _, ⟨rfl, .inl ⟨rfl, rfl⟩⟩, AllA.nil _⟩
  have HGS := Lib.hid hgs
  have HGL := Lib.hid hgl
  have HRL := Lib.hid (show rows.length = x.steps.length from hall.1)
  clear hbw hz hvi hvo hvf hgs hgl hall hc0 hc1 hc2 hc3
  obtain ⟨I0, hI0, hI1, hI2, hI3⟩ := info_of info_step
  go_wp2
  go_loopw [4] (fun i wr => ∃ (k : Nat) (rs : List (List Value)) (av : Option Addr) (cv : Nat), k ≤ x.steps.length ∧ i = .int .i64 (k : Int) ∧ CopyL W1 WC g x (.slice i1 i2 i3) (.slice j1 j2 j3) (.slice l1 l2 l3) (.slice av k cv) rs (x.steps.take k) wr)
   (fun i _ => x.steps.length - (intOf i).toNat)
  case atStart => exact ⟨0, [], none, 0, Nat.zero_le _, rfl, H0.out⟩
  case round =>
   obtain ⟨k, rs, av, cv, hk, rfl, hcl⟩ := hrel
   have HCL := Lib.hid hcl
   have hc4 := HC4.out _ hcl.below
   have hfew := HFS.out.few
   have hm4 : ∀ w', Below W1.heap.size W1 w' → w'.cell? ⟨w.heap.size, 4, none⟩ = some (.slice a4 rows.length c4) := HC4.out
   by_cases hlt : k < x.steps.length
   ·obtain ⟨y, hy⟩ : ∃ y, x.steps[k]? = some y := ⟨x.steps[k], List.getElem?_eq_getElem hlt⟩
    obtain ⟨sb, so, sc, b1, t1, b2, t2, hsv, hsb, hI1, hI2, hcs⟩ := stepsI_at H4.out hy
    have hsm := HFS.out.steps y (List.mem_of_getElem? hy)
    have K1 : Hid (∀ w', Below W1.heap.size W1 w' → IsStrs w' (.slice b1 y.args.length t1) y.args) := by show ∀ w', _; exact fun w' hb => hI1.below (HB1.out.trans (hb.mono HB1.out.size))
    have K2 : Hid (∀ w', Below W1.heap.size W1 w' → IsStrs w' (.slice b2 y.lits.length t2) y.lits) := by show ∀ w', _; exact fun w' hb => hI2.below (HB1.out.trans (hb.mono HB1.out.size))
    have M1 := Lib.hid hsm.args.1
    have M2 := Lib.hid hsm.lits.1
    have HY := Lib.hid hy
    have HUP : Hid (∀ w', Below W1.heap.size W1 w' → Below w.heap.size w w') := by show ∀ w', _; exact fun w' hb => HB1.out.trans (hb.mono HB1.out.size)
    have hcell := hcs _ (HUP.out _ hcl.below)
    obtain ⟨z0, z1, z2, z3, z4⟩ := hcell
    injection hsv with hsa hsl hsc
    subst hsa hsc
    clear hsl
    have hi1 : (k : Int) < (rows.length : Int) := by rw [HRL.out]; omega
    have hi0 : (0 : Int) ≤ (k : Int) := by omega
    clear hI1 hI2 hcs hsm hy hm4
    have HSD : Hid (∀ o, Below W1.heap.size W1 (wr.alloc o).drew) := by show ∀ o, _; exact fun o => (hcl.below.alloc hcl.below.size o).drew
    have HSA : Hid (∀ o, Below W1.heap.size W1 (wr.alloc o)) := by show ∀ o, _; exact fun o => hcl.below.alloc hcl.below.size o
    have HSET : Hid (∀ w' i u, Below W1.heap.size W1 w' → Below W1.heap.size W1 (w'.setCell ⟨wr.heap.size, i, none⟩ u)) := by show ∀ w' i u, _; exact fun w' i u h => h.setCell hcl.below.size _
    go_wp2_with fail
    go_region_law
     (first
      | (refine step_append_strs (by rfl) _ _ (by rfl) (by rfl) (by rfl) (K1.out _ (HSD.out _)) M1.out ?_; intro p1 p2 p3 wI hsI hgI; (first | (have hz := grown_alloc_drew hgI; obtain ⟨y0, y1, y2, y3, y4, f0, f1, f2, f3, f4⟩ := cells5 hz) | (have hz := grown_alloc hgI; obtain ⟨y0, y1, y2, y3, y4, f0, f1, f2, f3, f4⟩ := cells5 hz)); have hSn := below_grown0 (HSD.out _) hgI (HSD.out _).size)
      | (refine step_append_strs (by rfl) _ _ (by rfl) (by rfl) (by rfl) (K2.out _ (by assumption)) M2.out ?_; intro q1 q2 q3 wO hsO hgO; (have hz2 := grown_keep hgO hz; obtain ⟨x0, x1, x2, x3, x4, e0, e1, e2, e3, e4⟩ := cells5 hz2); have hSm := below_grown0 (show Below W1.heap.size W1 _ by assumption) hgO (show Below W1.heap.size W1 _ by assumption).size)
      | fail)
    all_goals
     obtain ⟨W7, hW7⟩ : ∃ V, (wO.setCell ⟨wr.heap.size, 2, none⟩ (.slice p1 p2 p3)).setCell ⟨wr.heap.size, 3, none⟩ (.slice q1 q2 q3) = V := ⟨_, rfl⟩
     rw [hW7]
     have hrec7 : W7.heap[wr.heap.size]? = some (.cells #[.string y.out, .int .i64 y.op, .slice p1 p2 p3, .slice q1 q2 q3, .int .i64 y.n] 50) := by
      rw [← hW7]; exact heap_set 3 _ (heap_set 2 _ hz2)
     have s1 := hgI.size
     have s2 := hgO.size
     simp only [drew_size, alloc_size] at s1
     have hbI : Below wr.heap.size wr wI := below_grown0 ((Below.refl _ _).alloc (Nat.le_refl _) _).drew hgI (by simp only [drew_size, alloc_size]; omega)
     have hbO : Below wr.heap.size wr wO := below_grown0 hbI hgO (by omega)
     have hb7 : Below wr.heap.size wr W7 := by
      rw [← hW7]; exact (hbO.setCell (Nat.le_refl _) _).setCell (Nat.le_refl _) _
     have hp7 : StrsA (fun b => b < wr.heap.size) W7 (.slice p1 p2 p3) y.args := by
      rw [← hW7]
      have h1 : StrsA (fun b => b < wr.heap.size + 1) wO (.slice p1 p2 p3) y.args := RowA.keep (RowA.mono hsI.1 fun b _ hb => by simp only [drew_size, alloc_size]; exact hb) (fr_below (grown_below0 hgO))
      exact RowA.mono (RowA.keep h1 ((fr_set (Av := fun b => b < wr.heap.size + 1) (a := ⟨wr.heap.size, 2, none⟩) (Nat.lt_succ_self _) _).trans (fr_set (a := ⟨wr.heap.size, 3, none⟩) (Nat.lt_succ_self _) _))) fun b _ hb => by omega
     have hq7 : StrsA (fun b => b < wr.heap.size) W7 (.slice q1 q2 q3) y.lits := by
      rw [← hW7]
      have hlt7 : wr.heap.size < wI.heap.size := by omega
      exact RowA.mono (RowA.keep hsO.1 ((fr_set (Av := fun b => b < wI.heap.size) (a := ⟨wr.heap.size, 2, none⟩) hlt7 _).trans (fr_set (a := ⟨wr.heap.size, 3, none⟩) hlt7 _))) fun b _ hb => by omega
     have HL7 := Lib.hid (hcl.step HGS.out hb7)
     have HA7 := Lib.hid (stepA_raise (vv := .slice av k cv) hp7 hq7 hcl.size (fun b hb => (hcl.own.lt b hb).2))
     have HLA := Lib.hid (HL7.out.step HGS.out ((Below.refl _ _).alloc (Nat.le_refl _) (.cells #[.string y.out, .int .i64 y.op, .slice p1 p2 p3, .slice q1 q2 q3, .int .i64 y.n] 50)))
     have HAA := Lib.hid (HA7.out.keep (fr_alloc _ _ (.cells #[.string y.out, .int .i64 y.op, .slice p1 p2 p3, .slice q1 q2 q3, .int .i64 y.n] 50)))
     have hrs : rs.length = k := by rw [hcl.all.1, List.length_take]; omega
     clear y0 y1 y2 y3 y4 f0 f1 f2 f3 f4 x0 x1 x2 x3 x4 e0 e1 e2 e3 e4 z0 z1 z2 z3 z4 hz hz2 hsI hsO hgI hgO hSn hSm s1 s2 hbI hbO hb7 hp7 hq7 hW7 hc4 hcl
     obtain ⟨y0, y1, y2, y3, y4, f0, f1, f2, f3, f4⟩ := cells5 hrec7
     obtain ⟨d0, d1, d2, d3, d4, g0, g1, g2, g3, g4⟩ := cells5 HL7.out.record
     go_wp2_with (at_builtin; refine wpList_append_new _ rfl _ _ 36 rfl WC.heap.size 50 I0 (.agg #[.string ByteArray.empty, .int .i64 0, .slice none 0 0, .slice none 0 0, .int .i64 0]) 5 80 Tryz.underlying36 hI0 hI1 hI2 hI3 rfl (by decide) _ _ _ rfl (by have h := HLA.out.own; rw [hrs] at h; exact h) ⟨W7.heap.size, 0, none⟩ 1 1 [.string y.out, .int .i64 y.op, .slice p1 p2 p3, .slice q1 q2 q3, .int .i64 y.n] rfl rfl ?c1 ?c2 (by decide) ?c3 ?c4 ?c5 ?_)
     case c1 =>
      intro j u hj
      match j, hj with
      | 0, hj => simp at hj; subst hj; simp [Addr.add]
      | 1, hj => simp at hj; subst hj; simp [Addr.add]
      | 2, hj => simp at hj; subst hj; simp [Addr.add]
      | 3, hj => simp at hj; subst hj; simp [Addr.add]
      | 4, hj => simp at hj; subst hj; simp [Addr.add]
     case c2 => intro u hu; simp at hu; rcases hu with rfl | rfl | rfl | rfl | rfl <;> rfl
     case c3 => unfold maxLen; omega
     case c4 => omega
     case c5 => exact HLA.out.size
     intro v' w8 hown' hgrow hnew
     obtain ⟨aB, cB, rfl, _⟩ := own_shape hown'
     have htk : x.steps.take k ++ [y] = x.steps.take (k + 1) := by rw [List.take_add_one, HY.out]; rfl
     have HN := Lib.hid (HLA.out.grow HGL.out HGS.out hgrow (by simpa using hnew) HAA.out (by rw [hrs]; exact hown'))
     rw [htk] at HN
     have hg8 : w8.heap[g]? = some (.cells #[.string x.name, .slice i1 i2 i3, .slice j1 j2 j3, .slice l1 l2 l3, .slice av k cv] 38) :=
      (hgrow.block g (Nat.lt_of_lt_of_le HGS.out HLA.out.size) (fun e => by have := (HLA.out.own.lt g e.symm).1; have := HGS.out; omega)).trans HLA.out.record
     clear y0 y1 y2 y3 y4 f0 f1 f2 f3 f4 d0 d1 d2 d3 d4 g0 g1 g2 g3 g4 hown' hgrow hnew htk
     obtain ⟨d0, d1, d2, d3, d4, g0, g1, g2, g3, g4⟩ := cells5 hg8
     go_wp2
     go_roundw
     case rel => exact ⟨k + 1, _, aB, cB, by omega, by go_num, HN.out⟩
     case measure => simp [intOf]; omega
   ·obtain rfl : k = x.steps.length := by omega
    have hi1 : ¬ (x.steps.length : Int) < (rows.length : Int) := by rw [HRL.out]; omega
    have hcl2 := hcl
    rw [List.take_length] at hcl2
    have HE := Lib.hid hcl2
    have hout : wr.heap[w.heap.size + 1]? = some (.cells #[.string ⟨#[]⟩, .slice none 0 0, .slice none 0 0, .slice none 0 0, .slice none 0 0] 38) := (hcl.below.block _ (by have := HS1.out; omega)).trans HX2.out
    have HOUT := Lib.hid hout
    obtain ⟨d0, d1, d2, d3, d4, g0, g1, g2, g3, g4⟩ := cells5 hcl.record
    obtain ⟨e0, e1, e2, e3, e4, f0, f1, f2, f3, f4⟩ := cells5 hout
    clear hcl hcl2 hm4 hout
    go_wp2
    refine bodyPost_ret (results_c rfl _ _ (w.heap.size + 1) _ _ _ _ rfl (heap_set _ _ (heap_set _ _ (heap_set _ _ (heap_set _ _ (heap_set _ _ HOUT.out))))) Tryz.underlying38 rfl (by kernel_rfl)) rfl ?_
    have hE := HE.out
    have hS := HS1.out
    have hWC : W1.heap.size ≤ WC.heap.size := by have := HGS.out; have := HGL.out; omega
    have hfr : ∀ u0 u1 u2 u3 u4, Fr (fun b => b < W1.heap.size ∨ b = g ∨ WC.heap.size ≤ b) wr _ := fun u0 u1 u2 u3 u4 => fr_set5 (Av := fun b => b < W1.heap.size ∨ b = g ∨ WC.heap.size ≤ b) (w := wr) (g := w.heap.size + 1) (.inl (by omega)) u0 u1 u2 u3 u4
    have hfs : ∀ u0 u1 u2 u3 u4, Fr (fun b => b < W1.heap.size) wr _ := fun u0 u1 u2 u3 u4 => fr_set5 (Av := fun b => b < W1.heap.size) (w := wr) (g := w.heap.size + 1) (by omega) u0 u1 u2 u3 u4
    have hst : StepsA (fun b => b < W1.heap.size) wr (.slice av x.steps.length cv) x.steps :=
     ⟨rs, (rowA_own hE.own (hE.all.len fun r x h => h.len)).mono fun b _ hb => by omega, hE.all.imp fun r x h => h.mono fun b _ hb => .inl (by omega)⟩
    have hop := openV_own hE.own
    have hst2 : StepsA (fun b => b < WC.heap.size) wr (.slice av x.steps.length cv) x.steps :=
     ⟨rs, rowA_own hE.own (hE.all.len fun r x h => h.len), hE.all.imp fun r x h => h.mono fun b _ hb => .inl hb⟩
    have hfs2 : ∀ u0 u1 u2 u3 u4, Fr (fun b => b < WC.heap.size) wr _ := fun u0 u1 u2 u3 u4 => fr_set5 (Av := fun b => b < WC.heap.size) (w := wr) (g := w.heap.size + 1) (by omega) u0 u1 u2 u3 u4
    have hlo : ∀ b, (Value.slice i1 i2 i3).ownBlock = some b ∨ (Value.slice l1 l2 l3).ownBlock = some b → b < WC.heap.size := by
     intro b hb
     rcases hb with hb | hb
     ·have q : ¬ (b < W1.heap.size ∨ b = g ∨ WC.heap.size ≤ b) := (hE.ins.1.2 b hb).2
      omega
     ·have q : ¬ (b < W1.heap.size ∨ b = g ∨ WC.heap.size ≤ b) := (hE.after.1.2 b hb).2
      omega
    exact ⟨⟨_, _, _, _, rfl, StrsO.mono (StrsO.keep hE.ins (hfr _ _ _ _ _)) fun b _ hb => .inl (by omega), StrsO.mono (StrsO.keep hE.outs (hfr _ _ _ _ _)) fun b _ hb => .inl (by omega), StrsO.mono (StrsO.keep hE.after (hfr _ _ _ _ _)) fun b _ hb => .inl (by omega), (hst.keep (hfs _ _ _ _ _)).mono fun b _ hb => by omega, hop.keep (fun b e => ⟨(hE.own.lt b e).2, (by have := (hE.own.lt b e).1; show ¬ b < W1.heap.size; omega)⟩) (hfs _ _ _ _ _), HAP.out, WC.heap.size, hlo, hst2.keep (hfs2 _ _ _ _ _)⟩,
     below_set5 (HB1.out.trans (hE.below.mono HB1.out.size)) (by omega) _ _ _ _ _⟩
theorem copyR_any (x : RuleS) (vi vo vf vs : Value) (w : World) (h : RuleI w [.string x.name, vi, vo, vf, vs] x) (hf : SmallR x 1048576) :
  Calls Tryz.prog 12 #[.agg #[.string x.name, vi, vo, vf, vs]] w fun e w' => RuleO w w' x e ∧ Below w.heap.size w w' :=
 (copyR_full x vi vo vf vs w h hf).mono fun _ _ h => ⟨h.1.o, h.2⟩
end Go.Proofs.YtlmnabhhgplhnaaGreatDoor
namespace Go.Proofs.YtlmnabhhgplhnaaGreatDoor

/-- Does j wait for i, at once or through others? -/
def waitsB (md : Region.Mode) (ops : Array Oper) (i : Nat) : Nat → Nat → Bool
 | 0, _ => false
 | f + 1, j => match ops[j]? with
  | none => false
  | some o => o.after.any fun e => Region.binds md e && (e.on == i || waitsB md ops i f e.on)
/-- What has come up has had all come up that it waits for. -/
def ClosedL (md : Region.Mode) (ops : Array Oper) (L : Array Bool) : Prop := ∀ (j : Nat) (o : Oper), ops[j]? = some o → L.getD j false = true → ∀ e ∈ o.after, Region.binds md e = true → L.getD e.on false = true
def closedB (md : Region.Mode) (ops : Array Oper) (L : Array Bool) : Bool := (List.range ops.size).all fun j => !L.getD j false || match ops[j]? with
 | some o => o.after.all fun e => !Region.binds md e || L.getD e.on false
 | none => true
section
variable {P : Program} {ops : Array Oper} {Q : Exit → Act → World → Prop} {md : Region.Mode} {S : Bool → World → Prop} {st : Nat}

theorem closed_of {L : Array Bool} (h : closedB md ops L = true) : ClosedL md ops L := by
 intro j o ho hl e he hb
 have hj : j < ops.size := (Array.getElem?_eq_some_iff.1 ho).1
 have := List.all_eq_true.1 h j (List.mem_range.2 hj)
 simp only [hl, Bool.not_true, Bool.false_or, ho, Array.all_eq_true_iff_forall_mem] at this
 have := this e he
 simpa [hb] using this
theorem getD_tf {L : Array Bool} {i : Nat} (h : L.getD i true = false) : L.getD i false = false := by
 rw [Array.getD_eq_getD_getElem?] at h ⊢
 cases h2 : L[i]? with
 | none => rfl
 | some b => rw [h2] at h; exact h
theorem closed_waits {L : Array Bool} {i : Nat} (h : ClosedL md ops L) : ∀ (f j : Nat), waitsB md ops i f j = true → L.getD j false = true → L.getD i false = true
 | 0, _, hw, _ => by simp [waitsB] at hw
 | f + 1, j, hw, hl => by
  unfold waitsB at hw
  cases ho : ops[j]? with
  | none => rw [ho] at hw; cases hw
  | some o =>
   rw [ho] at hw
   dsimp only at hw
   rw [← Array.any_toList] at hw
   obtain ⟨e, he, hp⟩ := List.any_eq_true.1 hw
   simp only [Bool.and_eq_true, Bool.or_eq_true, beq_iff_eq] at hp
   have he := Array.mem_toList_iff.1 he
   obtain ⟨hb, h1 | h1⟩ := hp
   ·rw [← h1]; exact h j o ho hl e he hb
   ·exact closed_waits h f e.on h1 (h j o ho hl e he hb)
theorem closed_set {L : Array Bool} {i : Nat} (h : ClosedL md ops L) (hi : i ∈ Region.ready md ops L) : ClosedL md ops (L.setIfInBounds i true) := by
 intro j o ho hl e he hb
 refine getD_set_true ?_
 obtain ⟨h1, oi, hoi, hall⟩ := mem_ready.1 hi
 by_cases hji : j = i
 ·subst hji
  rw [ho] at hoi
  injection hoi with hoi
  subst hoi
  exact hall e he hb
 ·rw [getD_set_ne false (Ne.symm hji)] at hl
  exact h j o ho hl e he hb

/-- Whatever order is picked from here on; behind every operation 'S false' holds as long as 'st' has not come up, 'S true' from then on. -/
def wpAnyS (P : Program) (md : Region.Mode) (ops : Array Oper) (Q : Exit → Act → World → Prop) (S : Bool → World → Prop) (st : Nat) : Nat → Array Bool → Act → World → Prop
 | 0, listed, a, w => Region.ready md ops listed = [] ∧ Q .normal a w
 | fuel + 1, listed, a, w =>
  (Region.ready md ops listed = [] → Q .normal a w) ∧
  ∀ i ∈ Region.ready md ops listed, wpOp P ops Q i (fun a' w' => S ((listed.setIfInBounds i true).getD st false) w' ∧ wpAnyS P md ops Q S st fuel (listed.setIfInBounds i true) a' w') a w
theorem wpAny_of_S : ∀ (fuel : Nat) (listed : Array Bool) (a : Act) (w : World), wpAnyS P md ops Q S st fuel listed a w → wpAny P md ops Q fuel listed a w
 | 0, _, _, _, h => h
 | fuel + 1, _, _, _, h => ⟨h.1, fun i hi => wpOp_mono (fun a' w' h' => wpAny_of_S fuel _ a' w' h'.2) (h.2 i hi)⟩

theorem wpAnyS_first {i : Nat} {oi : Oper} {v : Value} (hi : ops[i]? = some oi) (hsel : ∀ (j : Nat) (o : Oper) cs b, ops[j]? = some o → o.op ≠ .select cs b)
  (hQ : ∀ c a w, Q (.panic c) (a.put oi.dst v) w → Q (.panic c) a w) (hne : i ≠ st) (f : Nat) (hwt : waitsB md ops i f st = true) :
  ∀ (fuel : Nat) (listed : Array Bool) (a : Act) (w : World), ClosedL md ops listed →
   (∀ j oj, ops[j]? = some oj → j ≠ i → listed.getD j true = false → (∀ e ∈ oj.after, Region.binds md e = true → e.on ≠ i) → oi.apart ops oj = true) →
   i ∈ Region.ready md ops listed → YieldsIf P ops (S false) oi v a → S false w → listed.getD st false = false →
   wpAnyS P md ops Q S st fuel (listed.setIfInBounds i true) (a.put oi.dst v) w → wpAnyS P md ops Q S st (fuel + 1) listed a w := by
 intro fuel
 induction fuel with
 | zero =>
  intro listed a w _ _ hr hy hS hL H
  refine ⟨fun h => (by rw [h] at hr; cases hr), fun j hj => ?_⟩
  by_cases hji : j = i
  ·subst hji; exact hy.wpOp hi hS ⟨by rw [getD_set_ne false hne, hL]; exact hS, H⟩
  ·have := ready_mono hj hji
   rw [H.1] at this
   cases this
 | succ fuel ih =>
  intro listed a w hcl hfree hr hy hS hL H
  refine ⟨fun h => (by rw [h] at hr; cases hr), fun j hj => ?_⟩
  by_cases hji : j = i
  ·subst hji; exact hy.wpOp hi hS ⟨by rw [getD_set_ne false hne, hL]; exact hS, H⟩
  ·have h1 := H.2 j (ready_mono hj hji)
   obtain ⟨hjun, oj, hoj, hall⟩ := mem_ready.1 hj
   have hnot : ∀ e ∈ oj.after, Region.binds md e = true → e.on ≠ i := fun e he hb heq => by
    have h1 := hall e he hb
    have h0 := (mem_ready.1 hr).1
    rw [heq] at h1
    rcases Nat.lt_or_ge i listed.size with h' | h'
    ·simp [h'] at h0 h1; rw [h0] at h1; cases h1
    ·simp [Array.getElem?_eq_none h'] at h1
   have h2 := wpOp_putIf hoj (hfree j oj hoj hji hjun hnot) (fun cs b => hsel i oi cs b hi) (fun cs b => hsel j oj cs b hoj) hQ hy h1
   have hfree' : ∀ k ok, ops[k]? = some ok → k ≠ i → (listed.setIfInBounds j true).getD k true = false →
     (∀ e ∈ ok.after, Region.binds md e = true → e.on ≠ i) → oi.apart ops ok = true := fun k ok hk hki hun hno => by
    refine hfree k ok hk hki ?_ hno
    by_cases hjk : j = k
    ·subst hjk; exact hjun
    ·rw [getD_set_ne true hjk] at hun; exact hun
   have hcl' := closed_set hcl hj
   have hri : i ∈ Region.ready md ops (listed.setIfInBounds j true) := ready_mono hr (Ne.symm hji)
   have hst : (listed.setIfInBounds j true).getD st false = false := by
    cases hx : (listed.setIfInBounds j true).getD st false with
    | false => rfl
    | true =>
     exfalso
     have h3 := closed_waits hcl' f st hwt hx
     rw [getD_tf (mem_ready.1 hri).1] at h3
     cases h3
   have hst2 : ((listed.setIfInBounds i true).setIfInBounds j true).getD st false = false := by
    rw [Array.setIfInBounds_comm _ _ (Ne.symm hji), getD_set_ne false hne]; exact hst
   refine wpOp_mono (fun a' w' h3 => ?_) h2
   have h4 := h3.2.1
   rw [hst2] at h4
   refine ⟨by rw [hst]; exact h4, ih (listed.setIfInBounds j true) a' w' hcl' hfree' hri h3.1 h4 hst ?_⟩
   rw [Array.setIfInBounds_comm _ _ hji]
   exact h3.2.2

theorem wpAnyS_first0 {i : Nat} {oi : Oper} {v : Value} (hi : ops[i]? = some oi) (hsel : ∀ (j : Nat) (o : Oper) cs b, ops[j]? = some o → o.op ≠ .select cs b)
  (hQ : ∀ c a w, Q (.panic c) (a.put oi.dst v) w → Q (.panic c) a w) (hne : i ≠ st) :
  ∀ (fuel : Nat) (listed : Array Bool) (a : Act) (w : World), S (listed.getD st false) w →
   (∀ j oj, ops[j]? = some oj → j ≠ i → listed.getD j true = false → (∀ e ∈ oj.after, Region.binds md e = true → e.on ≠ i) → oi.apart ops oj = true) →
   i ∈ Region.ready md ops listed → YieldsIf P ops (fun w => ∃ b, S b w) oi v a →
   wpAnyS P md ops Q S st fuel (listed.setIfInBounds i true) (a.put oi.dst v) w → wpAnyS P md ops Q S st (fuel + 1) listed a w := by
 intro fuel
 induction fuel with
 | zero =>
  intro listed a w hS _ hr hy H
  refine ⟨fun h => (by rw [h] at hr; cases hr), fun j hj => ?_⟩
  by_cases hji : j = i
  ·subst hji; exact hy.wpOp hi ⟨_, hS⟩ ⟨by rw [getD_set_ne false hne]; exact hS, H⟩
  ·have := ready_mono hj hji
   rw [H.1] at this
   cases this
 | succ fuel ih =>
  intro listed a w hS hfree hr hy H
  refine ⟨fun h => (by rw [h] at hr; cases hr), fun j hj => ?_⟩
  by_cases hji : j = i
  ·subst hji; exact hy.wpOp hi ⟨_, hS⟩ ⟨by rw [getD_set_ne false hne]; exact hS, H⟩
  ·have h1 := H.2 j (ready_mono hj hji)
   obtain ⟨hjun, oj, hoj, hall⟩ := mem_ready.1 hj
   have hnot : ∀ e ∈ oj.after, Region.binds md e = true → e.on ≠ i := fun e he hb heq => by
    have h1 := hall e he hb
    have h0 := (mem_ready.1 hr).1
    rw [heq] at h1
    rcases Nat.lt_or_ge i listed.size with h' | h'
    ·simp [h'] at h0 h1; rw [h0] at h1; cases h1
    ·simp [Array.getElem?_eq_none h'] at h1
   have h2 := wpOp_putIf hoj (hfree j oj hoj hji hjun hnot) (fun cs b => hsel i oi cs b hi) (fun cs b => hsel j oj cs b hoj) hQ hy h1
   have hfree' : ∀ k ok, ops[k]? = some ok → k ≠ i → (listed.setIfInBounds j true).getD k true = false →
     (∀ e ∈ ok.after, Region.binds md e = true → e.on ≠ i) → oi.apart ops ok = true := fun k ok hk hki hun hno => by
    refine hfree k ok hk hki ?_ hno
    by_cases hjk : j = k
    ·subst hjk; exact hjun
    ·rw [getD_set_ne true hjk] at hun; exact hun
   have hri : i ∈ Region.ready md ops (listed.setIfInBounds j true) := ready_mono hr (Ne.symm hji)
   have hst2 : ((listed.setIfInBounds i true).setIfInBounds j true).getD st false = (listed.setIfInBounds j true).getD st false := by
    rw [Array.setIfInBounds_comm _ _ (Ne.symm hji), getD_set_ne false hne]
   refine wpOp_mono (fun a' w' h3 => ?_) h2
   have hS' : S ((listed.setIfInBounds j true).getD st false) w' := by rw [← hst2]; exact h3.2.1
   refine ⟨hS', ih (listed.setIfInBounds j true) a' w' hS' hfree' hri h3.1 ?_⟩
   rw [Array.setIfInBounds_comm _ _ hji]
   exact h3.2.2

/-! ### The moves of a walk -/
/-- Take number i first: it may come up, yields v in every world that meets S, and st waits for it. -/
theorem wpAnyS_take {i f : Nat} {oi : Oper} {v : Value} {fuel : Nat} {listed : Array Bool} {a : Act} {w : World} (hi : ops[i]? = some oi)
  (hs : Region.noSelect ops = true) (hcl : closedB md ops listed = true) (hwt : waitsB md ops i f st = true) (hne : (i == st) = false) (hf : Region.free md ops listed i = true) (hr : (Region.ready md ops listed).contains i = true)
  (hQ : ∀ c a w, Q (.panic c) (a.put oi.dst v) w → Q (.panic c) a w) (hL : listed.getD st false = false) (hy : YieldsIf P ops (S false) oi v a) (hS : S false w)
  (h : wpAnyS P md ops Q S st fuel (listed.setIfInBounds i true) (a.put oi.dst v) w) : wpAnyS P md ops Q S st (fuel + 1) listed a w :=
 wpAnyS_first hi (Region.noSelect_spec hs) hQ (by simpa using hne) f hwt fuel listed a w (closed_of hcl) (Region.free_spec hi hf) (by simpa using hr) hy hS hL h
/-- .. or yields v in every world that meets one of both. -/
theorem wpAnyS_take0 {i : Nat} {oi : Oper} {v : Value} {fuel : Nat} {listed : Array Bool} {a : Act} {w : World} (hi : ops[i]? = some oi)
  (hs : Region.noSelect ops = true) (hne : (i == st) = false) (hf : Region.free md ops listed i = true) (hr : (Region.ready md ops listed).contains i = true)
  (hQ : ∀ c a w, Q (.panic c) (a.put oi.dst v) w → Q (.panic c) a w) {b : Bool} (hb : listed.getD st false = b) (hy : YieldsIf P ops (fun w => ∃ b, S b w) oi v a) (hS : S b w)
  (h : wpAnyS P md ops Q S st fuel (listed.setIfInBounds i true) (a.put oi.dst v) w) : wpAnyS P md ops Q S st (fuel + 1) listed a w :=
 wpAnyS_first0 hi (Region.noSelect_spec hs) hQ (by simpa using hne) fuel listed a w (hb ▸ hS) (Region.free_spec hi hf) (by simpa using hr) hy h
theorem wpAnyS_done {listed : Array Bool} {a : Act} {w : World} (hr : Region.ready md ops listed = []) (h : Q .normal a w) : ∀ fuel, wpAnyS P md ops Q S st fuel listed a w
 | 0 => ⟨hr, h⟩
 | _ + 1 => ⟨fun _ => h, by rw [hr]; simp⟩
theorem wp_region_S {id : Nat} {a : Act} {w : World} (hm : P.follows .mixedOrders = true) (hS : S false w.drew)
  (h : S false w.drew → wpAnyS P .any ops Q S st ops.size (Array.replicate ops.size false) a w.drew) : (Code.region id ops true).wp P Q a w :=
 wp_region_any hm (wpAny_of_S _ _ _ _ (h hS))
def AllReadyS (P : Program) (md : Region.Mode) (ops : Array Oper) (Q : Exit → Act → World → Prop) (S : Bool → World → Prop) (st fuel : Nat) (listed : Array Bool) (a : Act) (w : World) (rs : List Nat) : Prop :=
 ∀ i ∈ rs, wpOp P ops Q i (fun a' w' => S ((listed.setIfInBounds i true).getD st false) w' ∧ wpAnyS P md ops Q S st fuel (listed.setIfInBounds i true) a' w') a w
theorem AllReadyS.nil {fuel : Nat} {listed : Array Bool} {a : Act} {w : World} : AllReadyS P md ops Q S st fuel listed a w [] := fun _ h => by cases h
theorem AllReadyS.cons {fuel : Nat} {listed : Array Bool} {a : Act} {w : World} {i : Nat} {o : Oper} {rs : List Nat} {b : Bool} (ho : ops[i]? = some o) (hb : (listed.setIfInBounds i true).getD st false = b)
  (h : ∀ K' : Act → World → Prop, Shut (∀ a w, S b w → (S b w → wpAnyS P md ops Q S st fuel (listed.setIfInBounds i true) a w) → K' a w) → if Region.wanted o (yielded ops a.tmps) = true then Oper.wp P o a w K' Q else K' (a.put o.dst undef) w)
  (hs : AllReadyS P md ops Q S st fuel listed a w rs) : AllReadyS P md ops Q S st fuel listed a w (i :: rs) := fun j hj => by
 rcases List.mem_cons.1 hj with rfl | hj
 ·exact wpOp_step ho (fun K' hK => h K' (fun a w hS hW => hK a w ⟨by rw [hb]; exact hS, hW hS⟩))
 ·exact hs j hj
theorem wpAnyS_ready {rs : List Nat} {fuel : Nat} {listed : Array Bool} {a : Act} {w : World} (hr : Region.ready md ops listed = rs) (hne : rs ≠ [])
  (h : AllReadyS P md ops Q S st fuel listed a w rs) : wpAnyS P md ops Q S st (fuel + 1) listed a w :=
 ⟨fun h0 => absurd (hr ▸ h0) hne, hr ▸ h⟩
end
end Go.Proofs.YtlmnabhhgplhnaaGreatDoor
namespace Go.Proofs.YtlmnabhhgplhnaaGreatDoor
open Go.RowKit Go.Shelf

theorem cell_drew (w : World) (a : Addr) : w.drew.cell? a = w.cell? a := rfl
theorem frozen_drew (w : World) (a : Addr) : w.drew.frozen? a = w.frozen? a := rfl
def cutS (y : StepS) : StepS := { y with args := y.args.take 8, lits := y.lits.take 3 }
def cutQ (x : RuleS) : RuleS := { x with ins := x.ins.take 10, outs := x.outs.take 6, after := x.after.take 10, steps := x.steps.take 14 }
def cutR (x : RuleS) : RuleS := { cutQ x with steps := (x.steps.take 14).map cutS }
theorem take_len (n m : Nat) (k : Int) (hk : k = (m : Int)) : (min (n : Int) k).toNat = min m n := by omega
theorem isStrs_take {w : World} {a : Option Addr} {xs : List ByteArray} {c : Nat} (h : IsStrs w (.slice a xs.length c) xs) (m : Nat) : IsStrs w (.slice a (min m xs.length) c) (xs.take m) := by
 obtain ⟨a', c', q, h1, h2, h3⟩ := h
 injection q with q1 q2 q3
 subst q1 q3
 refine ⟨a, c, by rw [List.length_take], by rw [List.length_take]; omega, h2, fun hne => ?_⟩
 obtain ⟨b, o, ha, hb, hc⟩ := h3 (by rintro rfl; simp at hne)
 refine ⟨b, o, ha, hb, fun j x hx => hc j x ?_⟩
 rw [List.getElem?_take] at hx
 split at hx
 ·exact hx
 ·cases hx
theorem stepsI_take {w : World} {a : Option Addr} {xs : List StepS} {n c : Nat} (h : StepsI w (.slice a n c) xs) (m : Nat) : StepsI w (.slice a (min m n) c) (xs.take m) := by
 obtain ⟨rows, ⟨a', c', q, h1, h2, h3⟩, hall⟩ := h
 injection q with q1 q2 q3
 subst q1 q3
 have hrl := hall.1
 refine ⟨rows.take m, ⟨a, c, by rw [List.length_take, q2], by rw [List.length_take]; omega, h2, fun hne => ?_⟩, ⟨by rw [List.length_take, List.length_take, hall.1], fun j r y hr hy => ?_⟩⟩
 ·obtain ⟨b, o, ha, hb, hc⟩ := h3 (by rintro rfl; simp at hne)
  refine ⟨b, o, ha, hb, fun j x hx => hc j x ?_⟩
  rw [List.getElem?_take] at hx
  split at hx
  ·exact hx
  ·cases hx
 ·rw [List.getElem?_take] at hr hy
  split at hr
  ·rename_i hj
   rw [if_pos hj] at hy
   exact hall.2 j r y hr hy
  ·cases hr
theorem strsA_take {Av : Nat → Prop} {w : World} {a : Option Addr} {n : Nat} {xs : List ByteArray} {c : Nat} (h : StrsA Av w (.slice a n c) xs) (m : Nat) : StrsA Av w (.slice a (min m n) c) (xs.take m) := by
 obtain ⟨⟨a', c', q, h1, h2, h3⟩, hb⟩ := h
 injection q with q1 q2 q3
 subst q1 q3
 rw [strRows_length] at h1 q2
 refine ⟨⟨a, c, by rw [strRows_length, List.length_take, q2], by rw [strRows_length, List.length_take]; omega, h2, fun hne => ?_⟩, fun b e => hb b (by rcases a with _ | ⟨_, _, _ | _⟩ <;> exact e)⟩
 obtain ⟨b, o, ha, hbl, hc⟩ := h3 (by rintro e; apply hne; cases xs with
  | nil => simp [strRows]
  | cons x xs => simp [strRows] at e)
 refine ⟨b, o, ha, hbl, fun j r hr i u hu => hc j r ?_ i u hu⟩
 unfold strRows at hr ⊢
 rw [List.getElem?_map, List.getElem?_take] at hr
 rw [List.getElem?_map]
 split at hr
 ·exact hr
 ·simp at hr
/-- A store to a cell that holds no text turns no list of texts. -/
theorem strsA_set {Av : Nat → Prop} {w : World} {v : Value} {xs : List ByteArray} {p : Addr} {u0 : Value} (h : StrsA Av w v xs) (hp : w.cell? p = some u0) (hu : ∀ s, u0 ≠ .string s) (u : Value) : StrsA Av (w.setCell p u) v xs := by
 obtain ⟨⟨a, c, rfl, h1, h2, h3⟩, hb⟩ := h
 refine ⟨⟨a, c, rfl, h1, h2, fun hne => ?_⟩, fun b e => ⟨by simp [World.setCell]; exact (hb b e).1, (hb b e).2⟩⟩
 obtain ⟨b, o, ha, hbl, hc⟩ := h3 hne
 refine ⟨b, o, ha, by simp [World.setCell]; exact hbl, fun j r hr i x hx => ?_⟩
 have h4 := hc j r hr i x hx
 rw [World.cell?_setCell_other]
 ·exact h4
 ·intro e
  rw [← e, hp] at h4
  injection h4 with h4
  unfold strRows at hr
  rw [List.getElem?_map] at hr
  obtain ⟨s, _, rfl⟩ := Option.map_eq_some_iff.1 hr
  match i, hx with
  | 0, hx => simp at hx; exact hu s (h4.trans hx.symm)
/-- A step's lists of a list of steps: written anew. -/
theorem stepsA_set2 {Av : Nat → Prop} {w : World} {b o n c k : Nat} {xs : List StepS} {y : StepS} {p1 q1 : Option Addr} {c1 d1 : Nat} (h : StepsA Av w (.slice (some ⟨b, o, none⟩) n c) xs) (hy : xs[k]? = some y)
  (z2 : w.cell? ⟨b, o + k * 5 + 2, none⟩ = some (.slice p1 y.args.length c1)) (z3 : w.cell? ⟨b, o + k * 5 + 3, none⟩ = some (.slice q1 y.lits.length d1)) (m1 m2 : Nat) :
  StepsA Av ((w.setCell ⟨b, o + k * 5 + 2, none⟩ (.slice p1 (min m1 y.args.length) c1)).setCell ⟨b, o + k * 5 + 3, none⟩ (.slice q1 (min m2 y.lits.length) d1)) (.slice (some ⟨b, o, none⟩) n c) (xs.set k { y with args := y.args.take m1, lits := y.lits.take m2 }) := by
 obtain ⟨rows, ⟨⟨a', c', q, h1, h2, h3⟩, hb⟩, hall⟩ := h
 injection q with q1' q2' q3'
 subst q1' q3'
 have hk : k < xs.length := (List.getElem?_eq_some_iff.1 hy).1
 have hkr : k < rows.length := by rw [hall.1]; exact hk
 obtain ⟨va, vl, er, ha, hl⟩ := hall.2 k rows[k] y (List.getElem?_eq_getElem hkr) hy
 obtain ⟨b', o', e', hbl, hc⟩ := h3 (by rintro e; rw [e] at hkr; simp at hkr)
 cases e'
 have hrow : rows[k]? = some [.string y.out, .int .i64 y.op, va, vl, .int .i64 y.n] := by rw [List.getElem?_eq_getElem hkr, er]
 obtain rfl : va = .slice p1 y.args.length c1 := by
  have := hc k _ hrow 2 va rfl
  rw [z2] at this; injection this with this; exact this.symm
 obtain rfl : vl = .slice q1 y.lits.length d1 := by
  have := hc k _ hrow 3 vl rfl
  rw [z3] at this; injection this with this; exact this.symm
 have hlen : ∀ r ∈ rows, r.length = 5 := hall.len fun r x h => h.len
 have z3' : (w.setCell ⟨b, o + k * 5 + 2, none⟩ (.slice p1 (min m1 y.args.length) c1)).cell? ⟨b, o + k * 5 + 3, none⟩ = some (.slice q1 y.lits.length d1) := by
  rw [World.cell?_setCell_other _ _ _ _ (by simp)]; exact z3
 have keep : ∀ {v : Value} {zs : List ByteArray}, StrsA Av w v zs → StrsA Av ((w.setCell ⟨b, o + k * 5 + 2, none⟩ (.slice p1 (min m1 y.args.length) c1)).setCell ⟨b, o + k * 5 + 3, none⟩ (.slice q1 (min m2 y.lits.length) d1)) v zs :=
  fun h => strsA_set (strsA_set h z2 (by intro s e; cases e) _) z3' (by intro s e; cases e) _
 refine ⟨rows.set k [.string y.out, .int .i64 y.op, .slice p1 (min m1 y.args.length) c1, .slice q1 (min m2 y.lits.length) d1, .int .i64 y.n], ⟨⟨_, c, by rw [List.length_set, q2'], by rw [List.length_set]; exact h1, h2, fun hne => ⟨b, o, rfl, by simp [World.setCell]; exact hbl, fun j r hr i u hu => ?_⟩⟩, fun b e => ⟨by simp [World.setCell]; exact (hb b e).1, (hb b e).2⟩⟩, ⟨by rw [List.length_set, List.length_set, hall.1], fun j r x hr hx => ?_⟩⟩
 ·by_cases hj : j = k
  ·subst hj
   rw [List.getElem?_set_self hkr] at hr
   injection hr with hr
   subst hr
   match i, hu with
   | 0, hu => simp at hu; subst hu; rw [World.cell?_setCell_other _ _ _ _ (by simp), World.cell?_setCell_other _ _ _ _ (by simp)]; exact hc j _ hrow 0 _ rfl
   | 1, hu => simp at hu; subst hu; rw [World.cell?_setCell_other _ _ _ _ (by simp), World.cell?_setCell_other _ _ _ _ (by simp)]; exact hc j _ hrow 1 _ rfl
   | 2, hu => simp at hu; subst hu; rw [World.cell?_setCell_other _ _ _ _ (by simp)]; exact World.cell?_setCell_same _ _ _ z2
   | 3, hu => simp at hu; subst hu; exact World.cell?_setCell_same _ _ _ z3'
   | 4, hu => simp at hu; subst hu; rw [World.cell?_setCell_other _ _ _ _ (by simp), World.cell?_setCell_other _ _ _ _ (by simp)]; exact hc j _ hrow 4 _ rfl
  ·rw [List.getElem?_set_ne (Ne.symm hj)] at hr
   have hi : i < 5 := by
    have := hlen r (List.mem_of_getElem? hr)
    have := (List.getElem?_eq_some_iff.1 hu).1
    omega
   have e1 : (⟨b, o + k * 5 + 2, none⟩ : Addr) ≠ ⟨b, o + j * 5 + i, none⟩ := by intro e; injection e with _ e; omega
   have e2 : (⟨b, o + k * 5 + 3, none⟩ : Addr) ≠ ⟨b, o + j * 5 + i, none⟩ := by intro e; injection e with _ e; omega
   rw [World.cell?_setCell_other _ _ _ _ e2, World.cell?_setCell_other _ _ _ _ e1]
   exact hc j r hr i u hu
 ·by_cases hj : j = k
  ·subst hj
   rw [List.getElem?_set_self hkr] at hr
   rw [List.getElem?_set_self hk] at hx
   injection hr with hr; injection hx with hx
   subst hr hx
   exact ⟨_, _, rfl, strsA_take (keep ha) m1, strsA_take (keep hl) m2⟩
  ·rw [List.getElem?_set_ne (Ne.symm hj)] at hr hx
   obtain ⟨va, vl, rfl, h1, h2⟩ := hall.2 j r x hr hx
   exact ⟨va, vl, rfl, keep h1, keep h2⟩
theorem StepsI.below {w w' : World} {v : Value} {xs : List StepS} (h : StepsI w v xs) (hb : Below w.heap.size w w') : StepsI w' v xs := by
 obtain ⟨rows, h1, h2⟩ := h
 exact ⟨rows, h1.below hb, h2.imp fun r x h => by obtain ⟨va, vl, rfl, ha, hl⟩ := h; exact ⟨va, vl, rfl, ha.below hb, hl.below hb⟩⟩
theorem stepsA_blk {Av : Nat → Prop} {w : World} {v : Value} {xs : List StepS} (h : StepsA Av w v xs) : ∀ b, v.ownBlock = some b → b < w.heap.size ∧ ¬ Av b := by
 obtain ⟨rows, ⟨_, hb⟩, _⟩ := h
 exact hb
theorem strsA_cap {Av : Nat → Prop} {w : World} {v : Value} {xs : List ByteArray} (h : StrsA Av w v xs) : ∃ a c, v = .slice a xs.length c ∧ xs.length ≤ c ∧ c ≤ maxLen := by
 obtain ⟨⟨a, c, rfl, h1, h2, _⟩, _⟩ := h
 rw [strRows_length] at h1 ⊢
 exact ⟨a, c, rfl, h1, h2⟩
/-- A step of a list of one's own: where its lists stand. -/
theorem stepsA_at {Av : Nat → Prop} {w : World} {s1 : Option Addr} {n s3 : Nat} {xs : List StepS} (h : StepsA Av w (.slice s1 n s3) xs) {k : Nat} {y : StepS} (hy : xs[k]? = some y) :
  ∃ b o p1 c1 q1 d1, s1 = some ⟨b, o, none⟩ ∧ n = xs.length ∧ ¬ Av b ∧ b < w.heap.size ∧ y.args.length ≤ c1 ∧ c1 ≤ maxLen ∧ y.lits.length ≤ d1 ∧ d1 ≤ maxLen ∧ n ≤ s3 ∧ s3 ≤ maxLen ∧
   w.cell? ⟨b, o + k * 5 + 2, none⟩ = some (.slice p1 y.args.length c1) ∧ w.cell? ⟨b, o + k * 5 + 3, none⟩ = some (.slice q1 y.lits.length d1) := by
 obtain ⟨rows, ⟨⟨a', c', q, h1, h2, h3⟩, hb⟩, hall⟩ := h
 injection q with q1' q2' q3'
 subst q1' q3'
 have hk : k < xs.length := (List.getElem?_eq_some_iff.1 hy).1
 have hkr : k < rows.length := by rw [hall.1]; exact hk
 obtain ⟨va, vl, er, ha, hl⟩ := hall.2 k rows[k] y (List.getElem?_eq_getElem hkr) hy
 obtain ⟨b, o, rfl, hbl, hc⟩ := h3 (by rintro e; rw [e] at hkr; simp at hkr)
 have hrow : rows[k]? = some [.string y.out, .int .i64 y.op, va, vl, .int .i64 y.n] := by rw [List.getElem?_eq_getElem hkr, er]
 obtain ⟨p1, c1, rfl, g1, g2⟩ := strsA_cap ha
 obtain ⟨q1, d1, rfl, g3, g4⟩ := strsA_cap hl
 exact ⟨b, o, p1, c1, q1, d1, rfl, by rw [q2', hall.1], (hb b rfl).2, hbl, g1, g2, g3, g4, by omega, h2, hc k _ hrow 2 _ rfl, hc k _ hrow 3 _ rfl⟩
/-- The first k steps are cut. -/
def mixS (k : Nat) (ys : List StepS) : List StepS := (ys.take k).map cutS ++ ys.drop k
theorem mixS_zero (ys : List StepS) : mixS 0 ys = ys := rfl
theorem mixS_all {k : Nat} (ys : List StepS) (h : ys.length ≤ k) : mixS k ys = ys.map cutS := by
 unfold mixS; rw [List.take_of_length_le h, List.drop_eq_nil_of_le h, List.append_nil]
theorem mixS_len (k : Nat) (ys : List StepS) : (mixS k ys).length = ys.length := by
 unfold mixS; rw [List.length_append, List.length_map, List.length_take, List.length_drop]; omega
theorem mixS_at {k : Nat} {ys : List StepS} {y : StepS} (h : ys[k]? = some y) : (mixS k ys)[k]? = some y := by
 have hk := (List.getElem?_eq_some_iff.1 h).1
 unfold mixS
 have hl : ((ys.take k).map cutS).length = k := by rw [List.length_map, List.length_take]; omega
 rw [List.getElem?_append_right (by omega), hl, Nat.sub_self, List.getElem?_drop, Nat.add_zero]
 exact h
theorem mixS_next {k : Nat} {ys : List StepS} {y : StepS} (h : ys[k]? = some y) : (mixS k ys).set k (cutS y) = mixS (k + 1) ys := by
 have hk := (List.getElem?_eq_some_iff.1 h).1
 have he := (List.getElem?_eq_some_iff.1 h).2
 unfold mixS
 have hl : ((ys.take k).map cutS).length = k := by rw [List.length_map, List.length_take]; omega
 rw [List.set_append_right _ _ (by omega), hl, Nat.sub_self, List.drop_eq_getElem_cons hk, List.set_cons_zero, List.take_succ_eq_append_getElem hk, List.map_append, he]
 simp
end Go.Proofs.YtlmnabhhgplhnaaGreatDoor
