/- The reference's tree: Write. -/
import Derived.Test.YtjaojfaedikkeaaGreatDoorRefD
import Derived.Test.YtjaojfaedikkeaaGreatDoorRefE
import Derived.Test.YtjaojfaedikkeaaGreatDoorRefF
namespace Go.Proofs.YtjaojfaedikkeaaGreatDoor
open Go.RowKit

theorem frame_of_below {w w' : World} (h : Below w.heap.size w w') (b : Nat) (r : Option Nat) : Frame2 w w' b r := Frame2.of_below h b r
theorem rt_put {w : World} {B b : Nat} {v v0 : Value} {fs : List F2} (hB : B ≤ b) (hs : Sorted fs) (hl : fs.length ≤ 60) (hb : w.heap[b]? = some (.cells #[v0] 29 (0, 0))) (h : RowAt w B v fs) :
    IsRT (w.setCell ⟨b, 0, none⟩ v) B b v.ownBlock fs := by
  have hne : v.ownBlock ≠ some b := by
    intro e
    obtain ⟨_, ⟨hv, _⟩ | ⟨g, cap, cur, hv, _, hg, _⟩⟩ := h
    · rw [hv] at e; cases e
    · rw [hv] at e
      injection e with e
      subst e
      rw [hb] at hg; simp at hg
  refine ⟨hB, hs, hl, v, ?_, ?_, rfl⟩
  · rw [setCell_eq_setRow w b 0 #[v0] _ (0, 0) _ hb]
    exact setRow_heap w b _ _ _ _ hb
  · obtain ⟨h1, h2 | ⟨g, cap, cur, hv, hgB, hg, rest⟩⟩ := h
    · exact ⟨h1, .inl h2⟩
    · refine ⟨h1, .inr ⟨g, cap, cur, hv, hgB, ?_, rest⟩⟩
      rw [Below.heap_setCell w _ _ g (fun e => hne (by rw [hv, e]; rfl))]
      exact hg

/-- What an insertion or a removal leaves: the tree's cell is the new row, all else as it was. -/
theorem rt_done {w wz : World} {B b : Nat} {r : Option Nat} {v0 v : Value} {fs : List F2} (hB : B ≤ b) (hBw : B ≤ w.heap.size) (hs : Sorted fs) (hl : fs.length ≤ 60) (hblt : b < w.heap.size) (hb : w.heap[b]? = some (.cells #[v0] 29 (0, 0)))
    (hx : Below w.heap.size w wz) (h : RowAt wz w.heap.size v fs) : IsRT (wz.setCell ⟨b, 0, none⟩ v) B b v.ownBlock fs ∧ Frame2 w (wz.setCell ⟨b, 0, none⟩ v) b r ∧ (v.ownBlock = none ∨ ∃ k, v.ownBlock = some k ∧ w.heap.size ≤ k) := by
  refine ⟨rt_put hB hs hl ((hx.block b hblt).trans hb) (own_mono h hBw), ⟨hx.os, hx.tape, hx.output, by simpa [World.setCell] using hx.size, fun k hk hkb _ => ?_⟩, ?_⟩
  · rw [Below.heap_setCell wz _ _ k hkb]
    exact hx.block k hk
  · cases hv : v.ownBlock with
    | none => exact .inl rfl
    | some k => exact .inr ⟨k, rfl, (World.ownsRow.lt h k hv).1⟩

/-- The insertion's memory: the world in which it begins, and what stands there. -/
structure InsAt (w : World) (b g c : Nat) (fs : List F2) : Prop where
  cell : ∀ w', Below w.heap.size w w' → w'.cell? ⟨b, 0, none⟩ = some (.slice (some ⟨g, 0, none⟩) fs.length c)
  cells : ∀ w', Below w.heap.size w w' → ∀ (j : Nat) u, (fileCells fs)[j]? = some u → w'.cell? ⟨g, j, none⟩ = some u

theorem InsAt.take {w : World} {b g c : Nat} {fs : List F2} (h : InsAt w b g c fs) (k : Nat) (w' : World) (hw : Below w.heap.size w w') : ∀ (j : Nat) u, (fileCells (fs.take k))[j]? = some u → w'.cell? ((⟨g, 0, none⟩ : Addr).add j) = some u := by
  intro j u hu
  rw [← fileCells_take, List.getElem?_take] at hu
  split at hu
  · rw [Addr.add_lit, Nat.zero_add]
    exact h.cells w' hw _ u hu
  · cases hu
theorem InsAt.drop {w : World} {b g c : Nat} {fs : List F2} (h : InsAt w b g c fs) (k : Nat) (w' : World) (hw : Below w.heap.size w w') : ∀ (j : Nat) u, (fileCells (fs.drop k))[j]? = some u → w'.cell? ((⟨g, k * 2, none⟩ : Addr).add j) = some u := by
  intro j u hu
  rw [← fileCells_drop, List.getElem?_drop] at hu
  rw [Addr.add_lit]
  exact h.cells w' hw _ u hu
theorem row_zero {w : World} {B n : Nat} {v : Value} {cs : List Value} (h : w.ownsRow B 33 2 v (0 + n) ([] ++ cs)) : w.ownsRow B 33 2 v n cs := by simpa using h
theorem rt_post {w w2 wz : World} {B b : Nat} {r : Option Nat} {v0 v : Value} {fs : List F2} (hx2 : Below w.heap.size w w2) (hB : B ≤ b) (hBw : B ≤ w.heap.size) (hs : Sorted fs) (hl : fs.length ≤ 60) (hblt : b < w.heap.size) (hb : w.heap[b]? = some (.cells #[v0] 29 (0, 0)))
    (hx : Below w2.heap.size w2 wz) (h : RowAt wz w2.heap.size v fs) : RTPost w B b r 0 fs (.returned (.int .i64 0)) (wz.setCell ⟨b, 0, none⟩ v) := by
  obtain ⟨h1, h2, h3⟩ := rt_done (r := r) hB (Nat.le_trans hBw hx2.size) hs hl (Nat.lt_of_lt_of_le hblt hx2.size) ((hx2.block b hblt).trans hb) hx h
  refine ⟨_, rfl, h1, (Frame2.of_below hx2 b r).trans h2 (.inl rfl), .inr ?_⟩
  rcases h3 with h | ⟨k, h, h'⟩
  · exact .inl h
  · exact .inr ⟨k, h, Nat.le_trans hx2.size h'⟩
theorem row_ins {w : World} {B p m : Nat} {v : Value} {A C : List F2} {x y : ByteArray} (h : w.ownsRow B 33 2 v (p + 1 + m) (fileCells A ++ [.string x, .string y] ++ fileCells C)) (hA : A.length = p) (hC : C.length = m) : RowAt w B v (A ++ (x, y) :: C) := by
  unfold RowAt
  have e1 : (A ++ (x, y) :: C).length = p + 1 + m := by simp [hA, hC]; omega
  have e2 : fileCells (A ++ (x, y) :: C) = fileCells A ++ [.string x, .string y] ++ fileCells C := by rw [fileCells_append, fileCells_cons, List.append_assoc]; rfl
  rw [e1, e2]
  exact h
end Go.Proofs.YtjaojfaedikkeaaGreatDoor
