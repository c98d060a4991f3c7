/- append to a row of the call's own, as one step of a region that draws its order; what two trees and a row are to each other behind such steps. -/
import Derived.Deep.AppendLies
import Derived.Deep.RegionHeld3
import Derived.Test.YtjaojfaedikkeaaGreatDoorWalkR
namespace Go.Proofs.YtjaojfaedikkeaaGreatDoor
open Go.RowKit

theorem step_append_own {P : Program} {ops : Array Oper} {o : Oper} {a : Act} {w : World} {K : Act → World → Prop} {Q : Exit → Act → World → Prop} {E : Prop} (hgd : o.guard = none) (s x : Operand) (t : TypeId)
    (ho : o.op = .call { callee := .builtin .append, args := #[s, x], argTypes := #[t, t] })
    (base : Nat) (e : TypeId) (i : TypeInfo) (z : Value) (size bytes : Nat) (ht : P.underlying t = some (.slice e)) (hi : P.info? e = some i) (hz : i.zero = some z)
    (hsize : i.size = size) (hby : i.bytes = bytes) (hzs : z.cells.size = size) (hsz : 0 < size)
    (v : Value) (n : Nat) (xs : List Value) (hs : a.eval s = v) (hown : w.ownsRow base e size v n xs)
    (ad : Addr) (m c : Nat) (news : List Value) (hx : a.eval x = .slice (some ad) m c) (hl : news.length = m * size) (hnews : ∀ j u, news[j]? = some u → w.cell? (ad.add j) = some u) (h1 : ∀ u ∈ news, u.oneCell' = true)
    (h63 : n + m ≤ maxLen) (hbytes : (n + m) * bytes ≤ 140737488355328) (hbase : base ≤ w.heap.size)
    (h : ∀ v' w', w'.ownsRow base e size v' (n + m) (xs ++ news) → w.grownBy w' v.ownBlock → K (a.put o.dst v') w') :
    if Region.wanted o (yielded ops a.tmps) = true then Oper.wp P o a w K Q else E := by
  have hw : Region.wanted o (yielded ops a.tmps) = true := by simp [Region.wanted, hgd]
  rw [if_pos hw]
  obtain ⟨v', w', hr, h2, h3, _⟩ := run_append_own (P := P) w base t o.type e i z size bytes ht hi hz hsize hby hzs hsz v n xs hown ad m c news hl hnews h1 h63 hbytes hbase
  unfold Oper.wp execOp
  simp only [ho, resolve, invoke, builtin, Sem.run_bind, Sem.run_pure, Result.andThen_ok, List.map_toArray, List.map_cons, List.map_nil, hs, hx, hr]
  exact h v' w' h2 h3

def RowAt (w : World) (B : Nat) (v : Value) (fs : List F2) : Prop := w.ownsRow B 33 2 v fs.length (fileCells fs)
def Apart (v : Value) (b : Nat) (r : Option Nat) : Prop := ∀ g, v.ownBlock = some g → g ≠ b ∧ r ≠ some g
theorem RowAt.below {w w' : World} {B : Nat} {v : Value} {fs : List F2} (h : RowAt w B v fs) (hb : Below w.heap.size w w') : RowAt w' B v fs := World.ownsRow.kept h (grown_below hb none) (by cases Value.ownBlock v <;> simp)
theorem RowAt.files {w : World} {B : Nat} {v : Value} {fs : List F2} (h : RowAt w B v fs) : IsFiles w v fs := OwnF.files (.inl ⟨h, rfl⟩)
theorem RowAt.new {w : World} {B b : Nat} {v : Value} {fs T : List F2} {r : Option Nat} (h : RowAt w B v fs) (w' : World) (ht : IsTree w' w.heap.size b r T) : Apart v b r := by
  intro g hg
  have := World.ownsRow.lt h g hg
  obtain ⟨h1, h2, _⟩ := ht.rlt
  exact ⟨by omega, fun e => by have := (h1 g e).1; omega⟩
theorem IsTree.grown {w w' : World} {B b : Nat} {r row : Option Nat} {fs : List F2} (h : IsTree w B b r fs) (hg : w.grownBy w' row) (hb : some b ≠ row) (hr : r = none ∨ r ≠ row) : IsTree w' B b r fs := by
  obtain ⟨h1, h2, h3, v, h4, h5⟩ := h
  exact ⟨h1, h2, h3, v, (hg.block b (block_lt h4) hb).trans h4, h5.kept hg hr⟩
theorem RowAt.after {w w' : World} {B b : Nat} {r : Option Nat} {v : Value} {fs T : List F2} (h : RowAt w' w.heap.size v fs) (ht : IsTree w B b r T) (hg : w.grownBy w' none) : IsTree w' B b r T ∧ Apart v b r := by
  refine ⟨ht.grown hg (by simp) (by cases r <;> simp), fun g hgv => ?_⟩
  have := World.ownsRow.lt h g hgv
  obtain ⟨h1, h2, h3⟩ := ht.rlt
  exact ⟨by omega, fun e => by have := (h1 g e).2; omega⟩
theorem Apart.tree {w w' : World} {B b : Nat} {r : Option Nat} {v : Value} {T : List F2} (h : Apart v b r) (ht : IsTree w B b r T) (hg : w.grownBy w' v.ownBlock) : IsTree w' B b r T := by
  refine ht.grown hg (fun e => (h b e.symm).1 rfl) ?_
  cases r with
  | none => exact .inl rfl
  | some g => exact .inr fun e => (h g e.symm).2 rfl

/-- Two trees, the second one made when the first one was there. -/
def BothT (wr w : World) (b1 b2 : Nat) (r1 r2 : Option Nat) (T U : List F2) : Prop :=
  ∃ B1 B2, IsTree w B1 b1 r1 T ∧ IsTree w B2 b2 r2 U ∧ b1 < B2 ∧ (∀ k, r1 = some k → k < B2) ∧ Below wr.heap.size wr w ∧ wr.heap.size ≤ B1 ∧ wr.heap.size ≤ B2
theorem BothT.make {wr w w' : World} {B1 b1 b2 : Nat} {r1 r2 : Option Nat} {T U : List F2} (h1 : IsTree w B1 b1 r1 T) (h2 : IsTree w' w.heap.size b2 r2 U) (hb : Below w.heap.size w w') (hw : Below wr.heap.size wr w) (hB : wr.heap.size ≤ B1) : BothT wr w' b1 b2 r1 r2 T U :=
  ⟨B1, w.heap.size, h1.below hb, h2, h1.rlt.2.2, fun k hk => (h1.rlt.1 k hk).2, hw.trans (hb.mono hw.size), hB, hw.size⟩
theorem BothT.below {wr w w' : World} {b1 b2 : Nat} {r1 r2 : Option Nat} {T U : List F2} (h : BothT wr w b1 b2 r1 r2 T U) (hb : Below w.heap.size w w') : BothT wr w' b1 b2 r1 r2 T U := by
  obtain ⟨B1, B2, h1, h2, h3, h4, h5, h6⟩ := h
  exact ⟨B1, B2, h1.below hb, h2.below hb, h3, h4, h5.trans (hb.mono h5.size), h6⟩
theorem grown_up {wr w w' : World} {row : Option Nat} (h : Below wr.heap.size wr w) (hg : w.grownBy w' row) (hr : ∀ k, row = some k → wr.heap.size ≤ k) : Below wr.heap.size wr w' := h.grown hg h.size hr
theorem tree_frame {w w' : World} {B b b2 : Nat} {r r2 : Option Nat} {fs : List F2} (h : IsTree w B b r fs) (hf : Frame2 w w' b2 r2) (hb : b ≠ b2) (hb2 : r2 ≠ some b) (hr : ∀ k, r = some k → k ≠ b2) (hr2 : ∀ k, r = some k → r2 ≠ some k) : IsTree w' B b r fs := by
  obtain ⟨h1, h2, h3, v, h4, h5⟩ := h
  refine ⟨h1, h2, h3, v, (hf.block b (block_lt h4) hb (fun e => hb2 e.symm)).trans h4, ?_⟩
  rcases h5 with ⟨hown, rfl⟩ | ⟨rfl, rfl, a, rfl⟩
  · refine .inl ⟨⟨hown.1, ?_⟩, rfl⟩
    rcases hown.2 with hn | ⟨g, cap, cur, rfl, hb', hgg, rest⟩
    · exact .inl hn
    · refine .inr ⟨g, cap, cur, rfl, hb', ?_, rest⟩
      rw [hf.block g (block_lt hgg) (hr g rfl) (fun e => hr2 g rfl e.symm)]
      exact hgg
  · exact .inr ⟨rfl, rfl, a, rfl⟩
theorem row_first {w : World} {B n : Nat} {v : Value} {fs : List F2} (h : w.ownsRow B 33 2 v (0 + n) ([] ++ fileCells fs)) (hn : fs.length = n) : RowAt w B v fs := by
  unfold RowAt
  rw [hn]
  simpa using h
theorem row_more {w : World} {B n m : Nat} {v : Value} {xs ys : List F2} (h : w.ownsRow B 33 2 v (n + m) (fileCells xs ++ fileCells ys)) (hn : xs.length = n) (hm : ys.length = m) : RowAt w B v (xs ++ ys) := by
  unfold RowAt
  rw [List.length_append, fileCells_append, hn, hm]
  exact h
end Go.Proofs.YtjaojfaedikkeaaGreatDoor
