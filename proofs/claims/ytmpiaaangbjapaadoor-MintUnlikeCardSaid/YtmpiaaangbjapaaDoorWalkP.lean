/- Contract of package tree: Key. -/
import Derived.Test.YtmpiaaangbjapaaDoorWalkO
namespace Go.Proofs.YtmpiaaangbjapaaDoor
open Go.RowKit

/-- Names and contents, one after another. -/
def keyB (fs : List F2) : List ByteArray := (fs.map fun f => [f.1, f.2]).flatten
def keyL (fs : List F2) : List (List UInt8) := (fs.map fun f => [f.1.data.toList, f.2.data.toList]).flatten
theorem keyB_data (fs : List F2) : (keyB fs).map (·.data.toList) = keyL fs := by
  induction fs with
  | nil => rfl
  | cons f fs ih => simp only [keyB, keyL, List.map_cons, List.flatten_cons, List.map_append] at ih ⊢; rw [ih]; rfl
theorem keyB_length (fs : List F2) : (keyB fs).length = fs.length * 2 := by
  induction fs with
  | nil => rfl
  | cons f fs ih => simp only [keyB, List.map_cons, List.flatten_cons, List.length_append, List.length_cons, List.length_nil] at ih ⊢; omega
theorem keyB_next (fs : List F2) (k : Nat) (x : F2) (h : fs[k]? = some x) : keyB (fs.take (k + 1)) = keyB (fs.take k) ++ [x.1, x.2] := by
  rw [List.take_add_one, h]; simp [keyB]

set_option maxHeartbeats 2000000 in
theorem key_core (p : Option Addr) (a : Option Addr) (c : Nat) (fs : List F2) (w : World) (h : AllIs (.pointer p) a c fs w) (hF : IsFiles w (.slice a fs.length c) fs) (hl : fs.length ≤ 60) (hg : Glob w) (hlen : (putS (keyL fs)).length ≤ 140737488355328) :
    Calls Tryd.prog 18 #[.pointer p] w fun e w' => e = .returned (.string ⟨(putS (keyL fs)).toArray⟩) ∧ Below w.heap.size w w' := by
  obtain ⟨i0, hi, hz0, hz1, hz2⟩ := info_parts info_str
  obtain ⟨a', c', hv, h1, h1m, h2⟩ := hF
  cases hv
  have hcells : ∀ (k : Nat) x, fs[k]? = some x → ∃ b o, a = some ⟨b, o, none⟩ ∧ b < w.heap.size ∧ w.cell? ⟨b, o + k * 2, none⟩ = some (.string x.1) ∧ w.cell? ⟨b, o + k * 2 + 1, none⟩ = some (.string x.2) := by
    intro k x hx
    obtain ⟨b, o, ha, hb, hc⟩ := h2 (by rintro rfl; simp at hx)
    exact ⟨b, o, ha, hb, hc k x hx⟩
  have HC := Lib.hid hcells
  have hL := len_core p a c fs w h
  have HA := Lib.hid h
  have HG := Lib.hid hg
  have HLE := Lib.hid hlen
  obtain ⟨res, hres⟩ : ∃ res, res = putS (keyL fs) := ⟨_, rfl⟩
  rw [← hres]
  have HRES := Lib.hid hres
  clear hcells h2 h hg hlen hres
  unfold maxLen at h1m
  go_enter Tryd.func18, Tryd.ntmps18
  go_wp2_with fail
  refine hL.mono ?_
  rintro e w' ⟨rfl, rfl⟩
  go_wp2_with (at_make; refine wpList_make_own _ rfl _ _ 28 rfl w.heap.size 9 i0 (.string ByteArray.empty) 1 Tryd.underlying28 hi hz0 hz1 _ _ _ (2 * fs.length) rfl rfl ?m0 ?m1 ?m2 ?m3 ?_)
  case m0 => omega
  case m1 => rw [hz2]; omega
  case m2 => unfold maxLen; omega
  case m3 => exact Nat.le_refl _
  intro w1 hown1 hgrow1
  have hnx1 : Below w.heap.size w w1 := (Below.refl _ _).grown hgrow1 (Nat.le_refl _) (by simp)
  clear hgrow1 hL
  have hA1 := HA.out w1 hnx1
  have hown0 : w1.ownsRow w.heap.size 9 1 (.slice (some ⟨w.heap.size, 0, none⟩) 0 (2 * fs.length)) (keyB (fs.take 0)).length ((keyB (fs.take 0)).map Value.string) := by simpa [keyB] using hown1
  clear hown1
  go_wp2_with fail
  refine hA1.mono ?_
  rintro e w' ⟨rfl, rfl⟩
  go_wp2
  go_loopw [3, 13] (fun v i wr => ∃ k : Nat, k ≤ fs.length ∧ i = .int .i64 k ∧ wr.ownsRow w.heap.size 9 1 v (keyB (fs.take k)).length ((keyB (fs.take k)).map Value.string) ∧ Below w.heap.size w wr)
    (fun _ i _ => fs.length - (intOf i).toNat)
  case atStart => exact ⟨0, Nat.zero_le _, rfl, hown0, hnx1⟩
  case round =>
    obtain ⟨k, hk, rfl, hown, hnx⟩ := hrel
    clear hown0
    by_cases hlt : k < fs.length
    · obtain ⟨x, hx⟩ : ∃ x, fs[k]? = some x := ⟨fs[k], List.getElem?_eq_getElem hlt⟩
      obtain ⟨b, o, ha, hb, hc0, hc1⟩ := HC.out k x hx
      subst ha
      have hcx0 : wr.cell? ⟨b, o + k * 2, none⟩ = some (.string x.1) := (hnx.cell (by exact hb)).trans hc0
      have hcx1 : wr.cell? ⟨b, o + k * 2 + 1, none⟩ = some (.string x.2) := (hnx.cell (by exact hb)).trans hc1
      have hms1 := keyB_next fs k x hx
      have HM1 := Lib.hid hms1
      have hkl : (keyB (fs.take k)).length ≤ k * 2 := by rw [keyB_length]; have := List.length_take_le k fs; omega
      have hs2 := hnx.size
      clear hms1 hc0 hc1 hx
      go_wp2_with (at_builtin; refine wpList_append_own _ rfl _ _ 28 rfl w.heap.size 9 i0 (.string ByteArray.empty) 1 16 Tryd.underlying28 hi hz0 hz1 hz2 rfl (by decide) _ _ _ rfl ((hown.alloc _).alloc _) ⟨wr.heap.size + 1, 0, none⟩ 2 2 [.string x.1, .string x.2] rfl rfl ?c1 ?c2 ?c3 ?c4 ?c5 ?_)
      case c1 =>
        intro j u hj
        match j, hj with
        | 0, hj => simp at hj; subst hj; rw [Addr.add_lit]; exact World.cell?_alloc_at _ _ _ _ (by simp)
        | 1, hj => simp at hj; subst hj; rw [Addr.add_lit]; exact World.cell?_alloc_at _ _ _ _ (by simp)
      case c2 => intro u hu; simp at hu; rcases hu with rfl | rfl <;> rfl
      case c3 => unfold maxLen; omega
      case c4 => omega
      case c5 => simp; omega
      · intro v' w3 hown' hgrow _
        have hnx' : Below w.heap.size w w3 := ((hnx.alloc hs2 _).alloc (by simp; omega) _).grown hgrow (by simp; omega) (fun g hg => (hown.lt g hg).1)
        have HO : Hid (w3.ownsRow w.heap.size 9 1 v' (keyB (fs.take (k + 1))).length ((keyB (fs.take (k + 1))).map Value.string)) := by
          show w3.ownsRow _ _ _ _ _ _
          rw [HM1.out, List.length_append, List.map_append]
          simpa using hown'
        clear hgrow hown hown'
        go_wp2
        go_roundw
        case rel => exact ⟨k + 1, by omega, by go_num, HO.out, hnx'⟩
        case measure => simp [intOf]; omega
    · have hfull : fs.take k = fs := List.take_of_length_le (by omega)
      rw [hfull] at hown
      have hS := strs_own hown
      have hpl : putS ((keyB fs).map (·.data.toList)) = res := by rw [keyB_data, HRES.out]
      have cP := put_any _ (keyB fs) wr hS (by rw [keyB_length]; omega) (HG.out.below hnx) (by rw [keyB_data]; exact HLE.out)
      rw [hpl] at cP
      clear hfull hown hpl hS
      go_wp2_with fail
      refine cP.mono ?_
      rintro e w2 ⟨rfl, hb2⟩
      go_wp2
      go_ret
      exact ⟨rfl, hnx.trans (hb2.mono hnx.size)⟩
end Go.Proofs.YtmpiaaangbjapaaDoor
