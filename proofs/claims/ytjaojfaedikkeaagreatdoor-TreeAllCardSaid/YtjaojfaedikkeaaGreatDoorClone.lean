/- Contracts of slices.Clone at files and of a tree's Clone; a tree beside another one. -/
import Derived.Test.YtjaojfaedikkeaaGreatDoorWalkR
namespace Go.Proofs.YtjaojfaedikkeaaGreatDoor
open Go.RowKit Go.Lib

/-- slices.Clone at files. -/
def ClonePost (w : World) (fs : List F2) (e : Ending) (w' : World) : Prop :=
  ∃ v, e = .returned v ∧ (∃ r, OwnF w' w.heap.size r v fs) ∧ Below w.heap.size w w'

set_option maxHeartbeats 2000000 in
set_option maxRecDepth 100000 in
theorem clone_c (v : Value) (fs : List F2) (w : World) (h : IsFiles w v fs) (hn : fs.length ≤ 1000) :
    Calls Tryz.prog 27 #[v] w (ClonePost w fs) := by
  obtain ⟨a, c, rfl, h1, h1m, h2⟩ := h
  obtain ⟨i0, hi, hz0, hz1, hz2⟩ := info_parts info_file
  cases a with
  | none =>
    have hfs : fs = [] := by
      rcases fs with _ | ⟨f, fs⟩
      · rfl
      · obtain ⟨b, o, ha, _⟩ := h2 (by simp)
        cases ha
    subst hfs
    have hq : ∀ w, (Go.binOp .eql 22 (.slice none 0 c) (.slice none 0 0)).run Tryz.prog w = .ok (.bool true) w := fun w => Lib.run_eql_slice_nil w 22 33 none 0 c 0 0 Tryz.underlying22
    go_enter Tryz.func27, Tryz.ntmps27
    go_wp2
    go_ret
    refine ⟨_, rfl, ⟨none, ?_⟩, Below.refl _ _⟩
    exact Or.inr ⟨rfl, rfl, none, rfl⟩
  | some ad =>
    obtain ⟨ab, ao, asp⟩ := ad
    have hq : ∀ w, (Go.binOp .eql 22 (.slice (some ⟨ab, ao, asp⟩) fs.length c) (.slice none 0 0)).run Tryz.prog w = .ok (.bool false) w := fun w => Lib.run_eql_slice_nil w 22 33 _ _ _ _ _ Tryz.underlying22
    have hcells : ∀ j u, (fileCells fs)[j]? = some u → w.cell? ((⟨ab, ao, asp⟩ : Addr).add j) = some u := by
      intro j u hu
      have hj : j < fs.length * 2 := by
        have := (List.getElem?_eq_some_iff.1 hu).1
        rwa [fileCells_length] at this
      obtain ⟨b, o, ha, _, hc⟩ := h2 (by rintro rfl; simp at hj)
      cases ha
      obtain ⟨x, hx⟩ : ∃ x, fs[j / 2]? = some x := ⟨fs[j / 2]'(by omega), List.getElem?_eq_getElem _⟩
      obtain ⟨e1, e2⟩ := fileCells_at fs (j / 2) x hx
      obtain ⟨g1, g2⟩ := hc (j / 2) x hx
      rw [Addr.add_lit]
      rcases Nat.mod_two_eq_zero_or_one j with hm | hm
      · rw [show j / 2 * 2 = j by omega] at e1 g1
        rw [e1] at hu
        cases hu
        exact g1
      · rw [show j / 2 * 2 + 1 = j by omega] at e2
        rw [show ao + j / 2 * 2 + 1 = ao + j by omega] at g2
        rw [e2] at hu
        cases hu
        exact g2
    have HC := Lib.hid hcells
    clear hcells h2
    go_enter Tryz.func27, Tryz.ntmps27
    go_wp2_with (at_builtin; refine wpList_append_own _ rfl _ _ 22 rfl w.heap.size 33 i0 _ 2 32 Tryz.underlying22 hi hz0 hz1 hz2 rfl (by decide) _ _ _ rfl (World.ownsRow_made w #[] 0 (Nat.le_refl _) (Nat.zero_le _) (by simp)) ⟨ab, ao, asp⟩ fs.length c (fileCells fs) rfl ?qc1 ?qc2 ?qc3 ?qc4 ?qc5 ?qc6 ?_)
    case qc1 => exact fileCells_length fs
    case qc2 =>
      intro j u hj
      exact Lib.cell?_alloc_some _ (HC.out j u hj)
    case qc3 => exact fileCells_one fs
    case qc4 => unfold maxLen; omega
    case qc5 => omega
    case qc6 => simp
    intro v' w1 hown hgrow hnil
    go_wp2
    go_ret
    refine ⟨_, rfl, ⟨_, .inl ⟨hown, rfl⟩⟩, ?_⟩
    exact ((Below.refl _ w).alloc (Nat.le_refl _) _).grown hgrow (by simp) (by intro k hk; simp [Value.ownBlock] at hk; omega)

/-- A tree's Clone: another tree of the same files. -/
def TClonePost (w : World) (fs : List F2) (e : Ending) (w' : World) : Prop :=
  ∃ b r, e = .returned (.pointer (some ⟨b, 0, none⟩)) ∧ IsTree w' w.heap.size b r fs ∧ Below w.heap.size w w'

set_option maxHeartbeats 2000000 in
theorem tclone_any (B b : Nat) (r : Option Nat) (fs : List F2) (w : World) (h : IsTree w B b r fs) :
    Calls Tryz.prog 7 #[.pointer (some ⟨b, 0, none⟩)] w (TClonePost w fs) := by
  obtain ⟨a, c, hb, hown, hc, hcm⟩ := h.ptr
  have hcell : w.cell? ⟨b, 0, none⟩ = some (.slice a fs.length c) := by simp [World.cell?, hb]
  have cC := fun w' hw => clone_c (.slice a fs.length c) fs w' (hown.files.below hw) (by have := h.2.2.1; omega)
  have hs := h.2.1
  have hl := h.2.2.1
  have HCC := Lib.hid cC
  have HS := Lib.hid hs
  clear cC hs hb hown h hc hcm
  go_enter Tryz.func7, Tryz.ntmps7
  go_wp2_with fail
  refine (HCC.out w (Below.refl _ _)).mono ?_
  rintro e w1 ⟨v, rfl, ⟨r1, hown⟩, hb1⟩
  obtain ⟨a1, c1, rfl, hl1, hm1⟩ := hown.shape
  have HO := Lib.hid hown
  clear hown
  go_wp2
  go_ret
  have hbx : Below w1.heap.size w1 (w1.alloc (.cells #[.slice a1 fs.length c1] 56)) := (Below.refl _ _).alloc (Nat.le_refl _) _
  exact ⟨w1.heap.size, r1, rfl, ⟨hb1.size, HS.out, hl, _, heap_alloc_new w1 _, HO.out.kept (grown_below hbx none) (by cases r1 <;> simp)⟩, hb1.alloc hb1.size _⟩

/-- A tree is left as it is where another one is written. -/
theorem IsTree.frame {w w' : World} {B b b2 : Nat} {r r2 : Option Nat} {fs : List F2} (h : IsTree w B b r fs) (hf : Frame2 w w' b2 r2) (hb : b ≠ b2) (hb2 : r2 ≠ some b) (hr : ∀ k, r = some k → k ≠ b2) (hr2 : ∀ k, r = some k → r2 ≠ some k) : IsTree w' B b r fs := by
  obtain ⟨h1, h2, h3, v, h4, h5⟩ := h
  refine ⟨h1, h2, h3, v, (hf.block b (block_lt h4) hb (fun e => hb2 e.symm)).trans h4, ?_⟩
  rcases h5 with ⟨hown, rfl⟩ | ⟨rfl, rfl, a, rfl⟩
  · refine .inl ⟨⟨hown.1, ?_⟩, rfl⟩
    rcases hown.2 with hn | ⟨g, cap, cur, rfl, hb', hgg, rest⟩
    · exact .inl hn
    · refine .inr ⟨g, cap, cur, rfl, hb', ?_, rest⟩
      rw [hf.block g (block_lt hgg) (hr g rfl) (fun e => hr2 g rfl e.symm)]
      exact hgg
  · exact .inr ⟨rfl, rfl, a, rfl⟩
end Go.Proofs.YtjaojfaedikkeaaGreatDoor
