/- Contracts of package tree: the comparison, the search, all, find. -/
import Derived.Test.YtmpiaaangbjapaaDoorWalkK
import Derived.Test.YtmpiaaangbjapaaDoorMathC
namespace Go.Proofs.YtmpiaaangbjapaaDoor
open Go.RowKit

/-- A slice of files that can be read in a world. -/
def IsFiles (w : World) (v : Value) (fs : List F2) : Prop :=
  ∃ a c, v = .slice a fs.length c ∧ fs.length ≤ c ∧ c ≤ maxLen ∧ (fs ≠ [] → ∃ b o, a = some ⟨b, o, none⟩ ∧ b < w.heap.size ∧ ∀ (j : Nat) x, fs[j]? = some x → w.cell? ⟨b, o + j * 2, none⟩ = some (.string x.1) ∧ w.cell? ⟨b, o + j * 2 + 1, none⟩ = some (.string x.2))

theorem IsFiles.below {w w' : World} {v : Value} {fs : List F2} (h : IsFiles w v fs) (hb : Below w.heap.size w w') : IsFiles w' v fs := by
  obtain ⟨a, c, rfl, h1, h1m, h2⟩ := h
  refine ⟨a, c, rfl, h1, h1m, fun hne => ?_⟩
  obtain ⟨b, o, rfl, h3, h4⟩ := h2 hne
  exact ⟨b, o, rfl, Nat.lt_of_lt_of_le h3 hb.size, fun j x hx => ⟨(hb.cell h3).trans (h4 j x hx).1, (hb.cell h3).trans (h4 j x hx).2⟩⟩

theorem fileCells_at (fs : List F2) : ∀ (j : Nat) (x : F2), fs[j]? = some x → (fileCells fs)[j * 2]? = some (.string x.1) ∧ (fileCells fs)[j * 2 + 1]? = some (.string x.2) := by
  induction fs with
  | nil => intro j x h; simp at h
  | cons f fs ih =>
    intro j x h
    rw [fileCells_cons]
    cases j with
    | zero => simp at h; subst h; simp
    | succ j => rw [Nat.add_mul]; simpa using ih j x (by simpa using h)

theorem OwnF.files {w : World} {B : Nat} {r : Option Nat} {v : Value} {fs : List F2} (h : OwnF w B r v fs) : IsFiles w v fs := by
  rcases h with ⟨hown, rfl⟩ | ⟨rfl, rfl, a, rfl⟩
  · obtain ⟨hl, ⟨rfl, h0⟩ | ⟨g, c, cur, rfl, hgB, hg, hnc, hcm, hcs, htk⟩⟩ := hown
    · obtain rfl := List.eq_nil_of_length_eq_zero h0
      exact ⟨none, 0, rfl, by simp, by simp [maxLen], fun h => absurd rfl h⟩
    · refine ⟨_, c, rfl, hnc, hcm, fun _ => ⟨g, 0, rfl, ?_, fun j x hx => ?_⟩⟩
      · rcases Nat.lt_or_ge g w.heap.size with h | h
        · exact h
        · rw [Array.getElem?_eq_none h] at hg; cases hg
      · have key : ∀ (t : Nat) u, (fileCells fs)[t]? = some u → w.cell? ⟨g, t, none⟩ = some u := by
          intro t u hu
          rw [← htk, List.getElem?_take] at hu
          split at hu
          · simp only [World.cell?, hg]; simpa using hu
          · cases hu
        have := fileCells_at fs j x hx
        rw [Nat.zero_add]
        exact ⟨key _ _ this.1, key _ _ this.2⟩
  · exact ⟨a, 0, rfl, by simp, by simp [maxLen], fun h => absurd rfl h⟩

theorem compare_c (a b : ByteArray) (w : World) : Calls Tryd.prog 43 #[.string a, .string b] w fun e w' => e = .returned (.int .i64 (Lib.compareBytes a.data.toList b.data.toList)) ∧ w' = w :=
  Any.strings_Compare lLays_n106 a b w

theorem cmp_range : ∀ a b : List UInt8, -1 ≤ Lib.compareBytes a b ∧ Lib.compareBytes a b ≤ 1
  | [], [] => by simp [Lib.compareBytes]
  | [], _ :: _ => by simp [Lib.compareBytes]
  | _ :: _, [] => by simp [Lib.compareBytes]
  | a :: l, b :: m => by
    unfold Lib.compareBytes
    split
    · decide
    · split
      · decide
      · exact cmp_range l m

theorem closure_any (f : F2) (x : ByteArray) (w : World) : Calls Tryd.prog 42 #[.agg #[.string f.1, .string f.2], .string x] w fun e w' => e = .returned (.int .i64 (cmpF f x)) ∧ Below w.heap.size w w' := by
  obtain ⟨n, hn⟩ : ∃ n, cmpF f x = n := ⟨_, rfl⟩
  have hc := fun w => compare_c f.1 x w
  rw [hn]
  rw [show Lib.compareBytes f.1.data.toList x.data.toList = n from hn] at hc
  have HC := Lib.hid hc
  clear hc hn
  go_enter Tryd.func42, Tryd.ntmps42
  go_wp2_with (go_at_call 43; refine (HC.out _).mono ?_; rintro e w' ⟨rfl, rfl⟩)
  go_ret
  exact ⟨rfl, (Below.refl _ _).alloc (Nat.le_refl _) _⟩

set_option maxHeartbeats 4000000 in
set_option maxRecDepth 100000 in
theorem search_any (v : Value) (fs : List F2) (x : ByteArray) (w : World) (h : IsFiles w v fs) (hn : fs.length ≤ 1000) (hs : Sorted fs) :
    Calls Tryd.prog 41 #[v, .string x, .func (.func 42) #[] #[]] w fun e w' => e = .returned (.tuple #[.int .i64 (posOf fs x : Nat), .bool (hasF fs x)]) ∧ Below w.heap.size w w' := by
  obtain ⟨a, c, rfl, h1, h1m, h2⟩ := h
  have hcells : ∀ (k : Nat) x, fs[k]? = some x → ∃ b o, a = some ⟨b, o, none⟩ ∧ b < w.heap.size ∧ w.cell? ⟨b, o + k * 2, none⟩ = some (.string x.1) ∧ w.cell? ⟨b, o + k * 2 + 1, none⟩ = some (.string x.2) := by
    intro k x hx
    obtain ⟨b, o, ha, hb, hc⟩ := h2 (by rintro rfl; simp at hx)
    exact ⟨b, o, ha, hb, hc k x hx⟩
  have HC := Lib.hid hcells
  have HS := Lib.hid hs
  clear hcells h2 hs
  unfold maxLen at h1m
  go_enter Tryd.func41, Tryd.ntmps41
  go_wp2
  go_loopw [9, 10] (fun p q wr => ∃ i j : Nat, i ≤ j ∧ j ≤ fs.length ∧ p = .int .i64 i ∧ q = .int .i64 j ∧ (∀ (t : Nat) f, t < i → fs[t]? = some f → cmpF f x < 0) ∧ (∀ (t : Nat) f, j ≤ t → fs[t]? = some f → ¬ cmpF f x < 0) ∧ Below w.heap.size w wr)
    (fun p q _ => (intOf q).toNat - (intOf p).toNat)
  case atStart => exact ⟨0, fs.length, Nat.zero_le _, Nat.le_refl _, rfl, rfl, fun t f h => absurd h (by omega), fun t f h hf => by have := (List.getElem?_eq_some_iff.1 hf).1; omega, Below.refl _ _⟩
  case round =>
    obtain ⟨i, j, hij, hj, rfl, rfl, hlo, hhi, hnx⟩ := hrel
    have HLO := Lib.hid hlo
    have HHI := Lib.hid hhi
    clear hlo hhi
    by_cases hlt : i < j
    · obtain ⟨h, hh⟩ : ∃ h : Nat, h = (i + j) / 2 := ⟨_, rfl⟩
      have hih : i ≤ h := by omega
      have hhj : h < j := by omega
      have heq : ((i : Int) + (j : Int)) / 2 = (h : Int) := by omega
      clear hh
      obtain ⟨f, hf⟩ : ∃ f, fs[h]? = some f := ⟨fs[h], List.getElem?_eq_getElem (by omega)⟩
      obtain ⟨b, o, ha, hb, hc0, hc1⟩ := HC.out h f hf
      subst ha
      have hcx0 : wr.cell? ⟨b, o + h * 2, none⟩ = some (.string f.1) := (hnx.cell (by exact hb)).trans hc0
      have hcx1 : wr.cell? ⟨b, o + h * 2 + 1, none⟩ = some (.string f.2) := (hnx.cell (by exact hb)).trans hc1
      have HF := Lib.hid hf
      obtain ⟨cv, hcv⟩ : ∃ cv, cmpF f x = cv := ⟨_, rfl⟩
      have hrange : -1 ≤ cv ∧ cv ≤ 1 := by rw [← hcv]; exact cmp_range _ _
      have cC := closure_any f x wr
      rw [hcv] at cC
      have HCV := Lib.hid hcv
      have hlt' : h < fs.length := by omega
      clear hf hc0 hc1 hcv
      by_cases hneg : cv < 0
      · go_wp2_with (go_at_call 42; refine cC.mono ?_; rintro e w2 ⟨rfl, hb2⟩)
        go_roundw
        case rel => exact ⟨h + 1, j, by omega, hj, by go_num, rfl, fun t g ht hg => sorted_mono HS.out (by omega) hg HF.out (by rw [HCV.out]; exact hneg), fun t g ht hg => Int.not_lt.2 (HHI.out t g ht hg), hnx.trans (hb2.mono hnx.size)⟩
        case measure => simp [intOf]; omega
      · go_wp2_with (go_at_call 42; refine cC.mono ?_; rintro e w2 ⟨rfl, hb2⟩)
        go_roundw
        case rel => exact ⟨i, h, by omega, by omega, rfl, by go_num, HLO.out, fun t g ht hg hx => absurd (show cv < 0 by rw [← HCV.out]; exact sorted_mono HS.out ht HF.out hg hx) (Int.not_lt.2 hneg), hnx.trans (hb2.mono hnx.size)⟩
        case measure => simp [intOf]; omega
    · obtain rfl : i = j := by omega
      have hpos : posOf fs x = i := posOf_eq hj HLO.out HHI.out
      have hhas := hasF_at HS.out HLO.out HHI.out
      have HP := Lib.hid hpos
      have HH := Lib.hid hhas
      clear hpos hhas
      by_cases hin : i < fs.length
      · obtain ⟨f, hf⟩ : ∃ f, fs[i]? = some f := ⟨fs[i], List.getElem?_eq_getElem hin⟩
        obtain ⟨b, o, ha, hb, hc0, hc1⟩ := HC.out i f hf
        subst ha
        have hcx0 : wr.cell? ⟨b, o + i * 2, none⟩ = some (.string f.1) := (hnx.cell (by exact hb)).trans hc0
        have hcx1 : wr.cell? ⟨b, o + i * 2 + 1, none⟩ = some (.string f.2) := (hnx.cell (by exact hb)).trans hc1
        have HF := Lib.hid hf
        obtain ⟨cv, hcv⟩ : ∃ cv, cmpF f x = cv := ⟨_, rfl⟩
        have cC := closure_any f x wr
        rw [hcv] at cC
        have HCV := Lib.hid hcv
        clear hf hc0 hc1 hcv
        go_wp2_with (go_at_call 42; refine cC.mono ?_; rintro e w2 ⟨rfl, hb2⟩)
        go_ret2
        refine ⟨ret_num (by rw [HP.out]) ?_, hnx.trans (hb2.mono hnx.size)⟩
        rw [Bool.eq_iff_iff, ← HH.out]
        simp only [beq_iff_eq]
        exact ⟨fun h0 => ⟨f, HF.out, by rw [HCV.out]; exact h0⟩, fun ⟨g, hg, h0⟩ => by rw [HF.out] at hg; injection hg with hg; rw [← HCV.out, hg]; exact h0⟩
      · go_wp2
        go_ret2
        refine ⟨ret_num (by rw [HP.out]) ?_, hnx⟩
        rw [Bool.eq_iff_iff, ← HH.out]
        exact ⟨fun h => absurd h (by decide), fun ⟨g, hg, _⟩ => absurd (List.getElem?_eq_some_iff.1 hg).1 hin⟩
end Go.Proofs.YtmpiaaangbjapaaDoor
