/- Contracts of package tree: New, Len, Names, Key. -/
import Derived.Test.YtmpiaaangbjapaaDoorWalkN
namespace Go.Proofs.YtmpiaaangbjapaaDoor
open Go.RowKit

/-- What a tree holds when files have been written, one after another. -/
def newF (xs : List F2) : List F2 := xs.foldl (fun t f => (writeF t f.1 f.2).2) []
theorem newF_next (xs : List F2) (k : Nat) (x : F2) (h : xs[k]? = some x) : newF (xs.take (k + 1)) = (writeF (newF (xs.take k)) x.1 x.2).2 := by
  rw [List.take_add_one, h]
  simp [newF, List.foldl_append]

def NewPost (w : World) (fs : List F2) (e : Ending) (w' : World) : Prop :=
  ∃ b r, e = .returned (.pointer (some ⟨b, 0, none⟩)) ∧ IsTree w' w.heap.size b r fs ∧ Below w.heap.size w w'

theorem IsTree.rlt {w : World} {B b : Nat} {r : Option Nat} {fs : List F2} (h : IsTree w B b r fs) : (∀ k, r = some k → B ≤ k ∧ k < w.heap.size) ∧ B ≤ b ∧ b < w.heap.size := by
  obtain ⟨h1, _, _, v, h4, h5⟩ := h
  exact ⟨fun k hk => h5.lt hk, h1, block_lt h4⟩

set_option maxHeartbeats 2000000 in
theorem new_any (v : Value) (xs : List F2) (w : World) (h : IsFiles w v xs) (hg : Glob w) (hsz : ∀ x ∈ xs, x.1.size ≤ maxLen ∧ x.2.size ≤ maxLen) :
    Calls Tryd.prog 10 #[v] w (NewPost w (newF xs)) := by
  obtain ⟨a, c, rfl, h1, h1m, h2⟩ := h
  have hcells : ∀ (k : Nat) x, xs[k]? = some x → ∃ b o, a = some ⟨b, o, none⟩ ∧ b < w.heap.size ∧ w.cell? ⟨b, o + k * 2, none⟩ = some (.string x.1) ∧ w.cell? ⟨b, o + k * 2 + 1, none⟩ = some (.string x.2) := by
    intro k x hx
    obtain ⟨b, o, ha, hb, hc⟩ := h2 (by rintro rfl; simp at hx)
    exact ⟨b, o, ha, hb, hc k x hx⟩
  have HC := Lib.hid hcells
  have HG := Lib.hid hg
  have HSZ := Lib.hid hsz
  have hgb := hg.gb
  have h0 : IsTree (w.alloc (.cells #[.slice none 0 0] 61)) w.heap.size w.heap.size none (newF (xs.take 0)) :=
    ⟨Nat.le_refl _, List.Pairwise.nil, by simp [newF], .slice none 0 0, heap_alloc_new w _, .inl ⟨World.ownsRow_nil _ _ _ _, rfl⟩⟩
  have H0 := Lib.hid h0
  have HGB := Lib.hid hgb
  clear hcells h2 hg hsz h0 hgb
  unfold maxLen at h1m
  go_enter Tryd.func10, Tryd.ntmps10
  go_wp2
  go_loopw [10] (fun i wr => ∃ (k : Nat) (r : Option Nat), k ≤ xs.length ∧ i = .int .i64 k ∧ IsTree wr w.heap.size w.heap.size r (newF (xs.take k)) ∧ Below w.heap.size w wr)
    (fun i _ => xs.length - (intOf i).toNat)
  case atStart => exact ⟨0, none, Nat.zero_le _, rfl, H0.out, (Below.refl _ _).alloc (Nat.le_refl _) _⟩
  case round =>
    obtain ⟨k, r, hk, rfl, ht, hnx⟩ := hrel
    have HT := Lib.hid ht
    clear ht H0
    by_cases hlt : k < xs.length
    · obtain ⟨x, hx⟩ : ∃ x, xs[k]? = some x := ⟨xs[k], List.getElem?_eq_getElem hlt⟩
      obtain ⟨b, o, ha, hb, hc0, hc1⟩ := HC.out k x hx
      subst ha
      have hcx0 : wr.cell? ⟨b, o + k * 2, none⟩ = some (.string x.1) := (hnx.cell (by exact hb)).trans hc0
      have hcx1 : wr.cell? ⟨b, o + k * 2 + 1, none⟩ = some (.string x.2) := (hnx.cell (by exact hb)).trans hc1
      have hxs := HSZ.out x (List.mem_of_getElem? hx)
      have hnxt := newF_next xs k x hx
      have HN := Lib.hid hnxt
      have hb2 : Below wr.heap.size wr (wr.alloc (.cells #[.string x.1, .string x.2] 36)) := (Below.refl _ _).alloc (Nat.le_refl _) _
      have hnx2 : Below w.heap.size w (wr.alloc (.cells #[.string x.1, .string x.2] 36)) := hnx.alloc hnx.size _
      have hT2 := HT.out.below hb2
      have cW := write_any w.heap.size w.heap.size r _ x.1 x.2 _ hT2 (HG.out.low HGB.out hnx2) hxs.1 hxs.2
      have hrl := hT2.rlt
      have HRL := Lib.hid hrl
      have HX2 := Lib.hid hnx2
      clear hx hc0 hc1 hxs hnxt hT2 hrl hb2 hnx2
      go_wp2_with fail
      refine cW.mono ?_
      rintro e w3 ⟨r3, rfl, hT3, hF3, hr3⟩
      have hnx3 : Below w.heap.size w w3 := HX2.out.trans (hF3.below HX2.out.size (Nat.le_refl _) (fun g hg => (HRL.out.1 g hg).1))
      have HT3 := Lib.hid hT3
      clear hT3 hF3 hr3 cW
      go_wp2
      go_roundw
      case rel => exact ⟨k + 1, r3, by omega, by go_num, by rw [HN.out]; exact HT3.out, hnx3⟩
      case measure => simp [intOf]; omega
    · have hfull : xs.take k = xs := List.take_of_length_le (by omega)
      have HFu := Lib.hid hfull
      clear hfull
      go_wp2
      go_ret
      exact ⟨w.heap.size, r, rfl, by have := HT.out; rw [HFu.out] at this; exact this, hnx⟩

/-- 'all' tells this slice in every later world. -/
def AllIs (p : Value) (a : Option Addr) (c : Nat) (fs : List F2) (w : World) : Prop :=
  ∀ w', Below w.heap.size w w' → Calls Tryd.prog 33 #[p] w' fun e w'' => e = .returned (.slice a fs.length c) ∧ w' = w''

theorem IsTree.all {w : World} {B b : Nat} {r : Option Nat} {fs : List F2} (h : IsTree w B b r fs) : ∃ a c, AllIs (.pointer (some ⟨b, 0, none⟩)) a c fs w ∧ IsFiles w (.slice a fs.length c) fs := by
  obtain ⟨a, c, hb, hown, hc, hcm⟩ := h.ptr
  exact ⟨a, c, fun w' hw => all_any b fs.length c a w' ((hw.block b (block_lt hb)).trans hb), hown.files⟩
theorem allIs_nil (w : World) : AllIs (.pointer none) none 0 [] w ∧ IsFiles w (.slice none 0 0) [] :=
  ⟨fun w' _ => all_nil w', none, 0, rfl, by simp, by simp [maxLen], fun h => absurd rfl h⟩

theorem AllIs.below {p : Value} {a : Option Addr} {c : Nat} {fs : List F2} {w w' : World} (h : AllIs p a c fs w) (hb : Below w.heap.size w w') : AllIs p a c fs w' :=
  fun w'' h'' => h w'' (hb.trans (h''.mono hb.size))

theorem len_core (p : Option Addr) (a : Option Addr) (c : Nat) (fs : List F2) (w : World) (h : AllIs (.pointer p) a c fs w) :
    Calls Tryd.prog 16 #[.pointer p] w fun e w' => e = .returned (.int .i64 fs.length) ∧ w = w' := by
  have hA := h w (Below.refl _ _)
  clear h
  go_enter Tryd.func16, Tryd.ntmps16
  go_wp2_with fail
  refine hA.mono ?_
  rintro e w' ⟨rfl, rfl⟩
  go_wp2
  go_ret
  exact ⟨rfl, rfl⟩

def NamesPost (w : World) (fs : List F2) (e : Ending) (w' : World) : Prop :=
  ∃ a c, e = .returned (.slice a fs.length c) ∧ w'.ownsRow w.heap.size 9 1 (.slice a fs.length c) fs.length (fs.map fun f => .string f.1) ∧ Below w.heap.size w w'

set_option maxHeartbeats 2000000 in
theorem names_core (p : Option Addr) (a : Option Addr) (c : Nat) (fs : List F2) (w : World) (h : AllIs (.pointer p) a c fs w) (hF : IsFiles w (.slice a fs.length c) fs) (hl : fs.length ≤ 60) :
    Calls Tryd.prog 17 #[.pointer p] w (NamesPost w fs) := by
  obtain ⟨i0, hi, hz0, hz1, hz2⟩ := info_parts info_str
  obtain ⟨a', c', hv, h1, h1m, h2⟩ := hF
  cases hv
  have hcells : ∀ (k : Nat) x, fs[k]? = some x → ∃ b o, a = some ⟨b, o, none⟩ ∧ b < w.heap.size ∧ w.cell? ⟨b, o + k * 2, none⟩ = some (.string x.1) ∧ w.cell? ⟨b, o + k * 2 + 1, none⟩ = some (.string x.2) := by
    intro k x hx
    obtain ⟨b, o, ha, hb, hc⟩ := h2 (by rintro rfl; simp at hx)
    exact ⟨b, o, ha, hb, hc k x hx⟩
  have HC := Lib.hid hcells
  have hL := len_core p a c fs w h
  have HA := Lib.hid h
  obtain ⟨ms, hms⟩ : ∃ ms : List ByteArray, ms = fs.map fun f => f.1 := ⟨_, rfl⟩
  have hml : ms.length = fs.length := by rw [hms]; simp
  have hmm : ms.map Value.string = fs.map fun f => Value.string f.1 := by rw [hms]; simp
  have HMS := Lib.hid hms
  have HML := Lib.hid hml
  have HMM := Lib.hid hmm
  clear hcells h2 h hms hml hmm
  unfold maxLen at h1m
  go_enter Tryd.func17, Tryd.ntmps17
  go_wp2_with fail
  refine hL.mono ?_
  rintro e w' ⟨rfl, rfl⟩
  go_wp2_with (at_make; refine wpList_make_own _ rfl _ _ 28 rfl w.heap.size 9 i0 (.string ByteArray.empty) 1 Tryd.underlying28 hi hz0 hz1 _ _ _ fs.length rfl rfl rfl ?m1 ?m2 ?m3 ?_)
  case m1 => rw [hz2]; omega
  case m2 => unfold maxLen; omega
  case m3 => exact Nat.le_refl _
  intro w1 hown1 hgrow1
  have hnx1 : Below w.heap.size w w1 := (Below.refl _ _).grown hgrow1 (Nat.le_refl _) (by simp)
  clear hgrow1 hL
  have hA1 := HA.out w1 hnx1
  have hown0 : w1.ownsRow w.heap.size 9 1 (.slice (some ⟨w.heap.size, 0, none⟩) 0 fs.length) (ms.take 0).length ((ms.take 0).map Value.string) := by simpa using hown1
  clear hown1
  go_wp2_with fail
  refine hA1.mono ?_
  rintro e w' ⟨rfl, rfl⟩
  go_wp2
  go_loopw [3, 12] (fun v i wr => ∃ k : Nat, k ≤ fs.length ∧ i = .int .i64 k ∧ wr.ownsRow w.heap.size 9 1 v (ms.take k).length ((ms.take k).map Value.string) ∧ Below w.heap.size w wr)
    (fun _ i _ => fs.length - (intOf i).toNat)
  case atStart => exact ⟨0, Nat.zero_le _, rfl, hown0, hnx1⟩
  case round =>
    obtain ⟨k, hk, rfl, hown, hnx⟩ := hrel
    clear hown0
    by_cases hlt : k < fs.length
    · obtain ⟨x, hx⟩ : ∃ x, fs[k]? = some x := ⟨fs[k], List.getElem?_eq_getElem hlt⟩
      obtain ⟨b, o, ha, hb, hc0, hc1⟩ := HC.out k x hx
      subst ha
      have hcx0 : wr.cell? ⟨b, o + k * 2, none⟩ = some (.string x.1) := (hnx.cell (by exact hb)).trans hc0
      have hcx1 : wr.cell? ⟨b, o + k * 2 + 1, none⟩ = some (.string x.2) := (hnx.cell (by exact hb)).trans hc1
      have hmk : ms[k]? = some x.1 := by rw [HMS.out, List.getElem?_map, hx]; rfl
      have hms1 : (ms.take (k + 1)) = ms.take k ++ [x.1] := by rw [List.take_add_one, hmk]; rfl
      have HM1 := Lib.hid hms1
      have hkl : (ms.take k).length ≤ k := List.length_take_le _ _
      have hs2 := hnx.size
      clear hms1 hmk hc0 hc1 hx
      go_wp2_with (at_builtin; refine wpList_append_own _ rfl _ _ 28 rfl w.heap.size 9 i0 (.string ByteArray.empty) 1 16 Tryd.underlying28 hi hz0 hz1 hz2 rfl (by decide) _ _ _ rfl ((hown.alloc _).alloc _) ⟨wr.heap.size + 1, 0, none⟩ 1 1 [.string x.1] rfl rfl ?c1 ?c2 ?c3 ?c4 ?c5 ?_)
      case c1 =>
        intro j u hj
        match j, hj with
        | 0, hj => simp at hj; subst hj; rw [Addr.add_lit]; exact World.cell?_alloc_at _ _ _ _ (by simp)
      case c2 => intro u hu; simp at hu; subst hu; rfl
      case c3 => unfold maxLen; omega
      case c4 => omega
      case c5 => simp; omega
      · intro v' w3 hown' hgrow _
        have hnx' : Below w.heap.size w w3 := ((hnx.alloc hs2 _).alloc (by simp; omega) _).grown hgrow (by simp; omega) (fun g hg => (hown.lt g hg).1)
        have HO : Hid (w3.ownsRow w.heap.size 9 1 v' (ms.take (k + 1)).length ((ms.take (k + 1)).map Value.string)) := by
          show w3.ownsRow _ _ _ _ _ _
          rw [HM1.out, List.length_append, List.map_append]
          simpa using hown'
        clear hgrow hown hown'
        go_wp2
        go_roundw
        case rel => exact ⟨k + 1, by omega, by go_num, HO.out, hnx'⟩
        case measure => simp [intOf]; omega
    · have hfull : ms.take k = ms := List.take_of_length_le (by have := HML.out; omega)
      rw [hfull, HMM.out, HML.out] at hown
      obtain ⟨a9, c9, hv9, _⟩ := own_shape hown
      rw [hv9] at hown
      have HO := Lib.hid hown
      have HV := Lib.hid hv9
      clear hfull hown hv9
      go_wp2
      go_ret
      exact ⟨a9, c9, by rw [HV.out]; rfl, HO.out, hnx⟩
end Go.Proofs.YtmpiaaangbjapaaDoor
