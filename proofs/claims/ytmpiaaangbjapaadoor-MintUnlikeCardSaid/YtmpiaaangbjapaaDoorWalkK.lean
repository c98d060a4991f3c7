/- slices.Insert of one file: every way. -/
import Derived.Test.YtmpiaaangbjapaaDoorWalkJ
import Derived.Test.YtmpiaaangbjapaaDoorWalkD
import Derived.ArgAppend
namespace Go.Proofs.YtmpiaaangbjapaaDoor
open Go.RowKit

/-- A slice of files that owns its row (block r), or an empty one without room. -/
def OwnF (w : World) (B : Nat) (r : Option Nat) (v : Value) (fs : List F2) : Prop :=
  (w.ownsRow B 36 2 v fs.length (fileCells fs) ∧ r = v.ownBlock) ∨ (fs = [] ∧ r = none ∧ ∃ a, v = .slice a 0 0)

def InsPost (w : World) (B : Nat) (r : Option Nat) (fs : List F2) (e : Ending) (w' : World) : Prop :=
  ∃ v' r', e = .returned v' ∧ OwnF w' B r' v' fs ∧ w.grownBy w' r ∧ (r' = r ∨ ∃ k, r' = some k ∧ w.heap.size ≤ k)

theorem own_mono {w : World} {B B' e size : Nat} {v : Value} {n : Nat} {xs : List Value} (h : w.ownsRow B e size v n xs) (hB : B' ≤ B) : w.ownsRow B' e size v n xs := by
  obtain ⟨h1, h2 | ⟨g, cap, cur, hv, hg, hr⟩⟩ := h
  · exact ⟨h1, .inl h2⟩
  · exact ⟨h1, .inr ⟨g, cap, cur, hv, Nat.le_trans hB hg, hr⟩⟩
theorem own_fresh {w : World} {B e size : Nat} {v : Value} {n : Nat} {xs : List Value} (h : w.ownsRow B e size v n xs) (hn : n ≠ 0) : ∃ k, v.ownBlock = some k ∧ B ≤ k := by
  obtain ⟨h1, ⟨_, h2⟩ | ⟨g, cap, cur, hv, hg, hr⟩⟩ := h
  · exact absurd h2 hn
  · exact ⟨g, by rw [hv]; rfl, hg⟩

set_option maxHeartbeats 4000000 in
set_option maxRecDepth 100000 in
/-- At the end of a row that has room. -/
theorem insert_end_room (B vb g c : Nat) (fs : List F2) (f : F2) (w : World) (_hn : fs.length ≤ 1000) (hc : fs.length + 1 ≤ c)
    (hown : w.ownsRow B 36 2 (.slice (some ⟨g, 0, none⟩) fs.length c) fs.length (fileCells fs))
    (hv : w.heap[vb]? = some (.cells #[.string f.1, .string f.2] 36 (0, 0))) :
    Calls Tryd.prog 40 #[.slice (some ⟨g, 0, none⟩) fs.length c, .int .i64 fs.length, .slice (some ⟨vb, 0, none⟩) 1 1] w (InsPost w B (some g) (fs ++ [f])) := by
  obtain ⟨i0, hi0, hz0, hz1, hz2⟩ := info_parts info_file
  have hcm := (own_shape hown)
  obtain ⟨a', c', hv', _, hnc, hcm⟩ := hcm
  cases hv'
  unfold maxLen at hcm
  have hne : ¬ (c = fs.length) := by omega
  go_enter Tryd.func40, Tryd.ntmps40
  go_wp2_with (at_builtin; refine wpList_append_fits _ rfl _ _ 59 rfl B 36 i0 2 Tryd.underlying59 hi0 hz1 g _ _ _ rfl hown ⟨vb, 0, none⟩ 1 1 [.string f.1, .string f.2] rfl rfl ?c1 ?c2 hc ?_)
  case c1 => exact fun j u hj => row_cell hv 0 j u (by simpa using hj)
  case c2 => intro u hu; simp at hu; rcases hu with rfl | rfl <;> rfl
  intro w' hown' hgrow
  have HO : Hid (OwnF w' B (some g) (.slice (some ⟨g, 0, none⟩) (fs.length + 1) c) (fs ++ [f])) := by
    refine .inl ⟨?_, rfl⟩
    rw [fileCells_append, fileCells_cons, fileCells_nil]
    simpa using hown'
  clear hown'
  go_wp2
  go_ret
  exact ⟨_, _, rfl, HO.out, hgrow, .inl rfl⟩

set_option maxHeartbeats 4000000 in
set_option maxRecDepth 100000 in
/-- At the end of a row without room, or of none. -/
theorem insert_end_grow (B vb c : Nat) (a : Option Addr) (r : Option Nat) (fs : List F2) (f : F2) (w : World) (hn : fs.length ≤ 1000) (hc : c = fs.length) (hB : B ≤ w.heap.size) (hnone : a = none → fs.length = 0)
    (hcs : ∀ b, a = some b → ∀ j u, (fileCells fs)[j]? = some u → w.cell? (b.add j) = some u)
    (hv : w.heap[vb]? = some (.cells #[.string f.1, .string f.2] 36 (0, 0))) :
    Calls Tryd.prog 40 #[.slice a fs.length c, .int .i64 fs.length, .slice (some ⟨vb, 0, none⟩) 1 1] w (InsPost w B r (fs ++ [f])) := by
  obtain ⟨i0, hi0, hz0, hz1, hz2⟩ := info_parts info_file
  subst hc
  have HCS := Lib.hid hcs
  clear hcs
  go_enter Tryd.func40, Tryd.ntmps40
  go_wp2_with (at_builtin; refine wpList_append_grows _ rfl _ _ 59 rfl 36 i0 _ 2 32 Tryd.underlying59 hi0 hz0 hz1 hz2 rfl (by decide) a fs.length fs.length (fileCells fs) rfl ?c0 ?cl ?cs ⟨vb, 0, none⟩ 1 1 [.string f.1, .string f.2] rfl rfl ?c1 ?c2 ?c3 ?c4 ?c5 ?_)
  case c0 => exact fun h => ⟨hnone h, hnone h⟩
  case cl => exact fileCells_length fs
  case cs => exact HCS.out
  case c1 => exact fun j u hj => row_cell hv 0 j u (by simpa using hj)
  case c2 => intro u hu; simp at hu; rcases hu with rfl | rfl <;> rfl
  case c3 => omega
  case c4 => unfold maxLen; omega
  case c5 => omega
  all_goals
    intro v' w' hown' hgrow
    obtain ⟨k, hk, hkB⟩ := own_fresh hown' (by omega)
    have HO : Hid (OwnF w' B (some k) v' (fs ++ [f])) := by
      refine .inl ⟨?_, hk.symm⟩
      rw [fileCells_append, fileCells_cons, fileCells_nil]
      simpa using own_mono hown' hB
    have HG : Hid (w.grownBy w' r) := ⟨hgrow.os, hgrow.tape, hgrow.output, hgrow.size, fun k hk _ => hgrow.block k hk (by simp)⟩
    clear hown' hgrow
    go_wp2
    go_ret
    exact ⟨_, _, rfl, HO.out, HG.out, .inr ⟨k, rfl, hkB⟩⟩

theorem grown_of {w w' : World} {r : Option Nat} (h : w.grownBy w' none) : w.grownBy w' r := ⟨h.os, h.tape, h.output, h.size, fun k hk _ => h.block k hk (by simp)⟩

/-- slices.Insert of one file. -/
theorem insert_any (B vb i : Nat) (r : Option Nat) (v : Value) (fs : List F2) (f : F2) (w : World) (hi : i ≤ fs.length) (hn : fs.length ≤ 1000) (hB : B ≤ w.heap.size)
    (hown : OwnF w B r v fs) (hvb : some vb ≠ r)
    (hv : w.heap[vb]? = some (.cells #[.string f.1, .string f.2] 36 (0, 0))) :
    Calls Tryd.prog 40 #[v, .int .i64 i, .slice (some ⟨vb, 0, none⟩) 1 1] w (InsPost w B r (fs.take i ++ f :: fs.drop i)) := by
  rcases hown with ⟨hown, rfl⟩ | ⟨rfl, rfl, a, rfl⟩
  · obtain ⟨hl, ⟨rfl, h0⟩ | ⟨g, c, cur, rfl, hgB, hg, hnc, hcm, hcs, htk⟩⟩ := id hown
    · obtain rfl := List.eq_nil_of_length_eq_zero h0
      obtain rfl : i = 0 := by simpa using hi
      exact insert_end_grow B vb 0 none _ [] f w hn rfl hB (fun _ => rfl) (fun b hb => by cases hb) hv
    · by_cases he : i = fs.length
      · subst he
        rw [List.take_length, List.drop_length]
        by_cases hc : fs.length + 1 ≤ c
        · exact insert_end_room B vb g c fs f w hn hc hown hv
        · exact insert_end_grow B vb c (some ⟨g, 0, none⟩) _ fs f w hn (by omega) hB (fun h => by cases h) (fun b hb j u hj => by
            cases hb
            refine row_cell hg 0 j u ?_
            rw [← htk, List.getElem?_take] at hj
            split at hj
            · simpa using hj
            · cases hj) hv
      · by_cases hc : fs.length + 1 ≤ c
        · refine (insert_shift g fs.length c i vb fs f cur w (by omega) hc hn (by unfold maxLen at hcm; omega) (fun e => hvb (by rw [e]; rfl)) rfl hg hcs htk hv).mono ?_
          rintro e w' ⟨rfl, cur', hg', hcs', htk', hgrow⟩
          refine ⟨_, _, rfl, .inl ⟨⟨by rw [fileCells_length], .inr ⟨g, c, cur', ?_, hgB, hg', ?_, hcm, hcs', ?_⟩⟩, rfl⟩, hgrow, .inl rfl⟩
          · congr 1; simp; omega
          · simp; omega
          · rw [show (fs.take i ++ f :: fs.drop i).length = fs.length + 1 from by simp; omega]; exact htk'
        · refine (insert_grow g fs.length c i vb fs f cur w (by omega) (by omega) hn hnc rfl hg hcs htk hv).mono ?_
          rintro e w' ⟨G, rfl, hG, hGm, cur', hg', hcs', htk', hgrow⟩
          refine ⟨_, _, rfl, .inl ⟨⟨by rw [fileCells_length], .inr ⟨w.heap.size, G, cur', ?_, hB, hg', ?_, hGm, hcs', ?_⟩⟩, rfl⟩, grown_of hgrow, .inr ⟨w.heap.size, rfl, Nat.le_refl _⟩⟩
          · congr 1; simp; omega
          · simp; omega
          · rw [show (fs.take i ++ f :: fs.drop i).length = fs.length + 1 from by simp; omega]; exact htk'
  · obtain rfl : i = 0 := by simpa using hi
    exact insert_end_grow B vb 0 a _ [] f w hn rfl hB (fun _ => rfl) (fun b hb j u hj => by simp [fileCells] at hj) hv
end Go.Proofs.YtmpiaaangbjapaaDoor
