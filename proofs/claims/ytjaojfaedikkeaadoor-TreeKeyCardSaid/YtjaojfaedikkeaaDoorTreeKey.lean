/- The law on trees' keys: for every files, every turn and every operation the call returns true. -/
import Derived.Deep.DeepCutAuto
import Derived.Deep.CutBlock
import Derived.Deep.RegionLaw
import Derived.Test.YtjaojfaedikkeaaDoorMathI
import Derived.Test.YtjaojfaedikkeaaDoorStepOwn
namespace Go.Proofs.YtjaojfaedikkeaaDoor.lawTreeKey
open Go.RowKit

def twiceF (acc : List F2) (f : F2) : Bool := acc.any fun g => g.1.toList == f.1.toList
def ddup (acc : List F2) (f : F2) : List F2 := if twiceF acc f then acc else acc ++ [f]
def ddupL (xs : List F2) : List F2 := xs.foldl ddup []
theorem ddup_next (xs : List F2) (k : Nat) (x : F2) (h : xs[k]? = some x) : ddupL (xs.take (k + 1)) = ddup (ddupL (xs.take k)) x := by
  rw [List.take_add_one, h]
  simp [ddupL, List.foldl_append]
theorem ddup_yes {acc : List F2} {f : F2} (h : twiceF acc f = true) : ddup acc f = acc := by unfold ddup; rw [if_pos h]
theorem ddup_no {acc : List F2} {f : F2} (h : twiceF acc f = false) : ddup acc f = acc ++ [f] := by unfold ddup; rw [if_neg (by rw [h]; decide)]
theorem ddup_distinct {acc : List F2} (h : Distinct acc) (f : F2) : Distinct (ddup acc f) := by
  cases ht : twiceF acc f
  · rw [ddup_no ht]
    unfold Distinct
    rw [List.pairwise_append]
    refine ⟨h, by simp, fun a ha b hb e => ?_⟩
    obtain rfl := List.mem_singleton.1 hb
    have : twiceF acc b = true := List.any_eq_true.2 ⟨a, ha, by rw [e]; simp⟩
    rw [ht] at this; cases this
  · rw [ddup_yes ht]; exact h
theorem ddup_len (acc : List F2) (f : F2) : (ddup acc f).length ≤ acc.length + 1 := by
  unfold ddup; split <;> simp
theorem ddup_mem (acc : List F2) (f : F2) : ∀ g ∈ ddup acc f, g ∈ acc ∨ g = f := by
  unfold ddup
  split
  · exact fun g hg => .inl hg
  · intro g hg; simpa using hg
theorem ddupL_all : ∀ (n : Nat) (xs : List F2), xs.length = n → Distinct (ddupL xs) ∧ (ddupL xs).length ≤ n ∧ ∀ g ∈ ddupL xs, g ∈ xs := by
  intro n
  induction n with
  | zero => intro xs hl; obtain rfl := List.eq_nil_of_length_eq_zero hl; simp [ddupL, Distinct]
  | succ n ih =>
    intro xs hl
    have h0 : xs ≠ [] := by rintro rfl; simp at hl
    obtain ⟨t, c, rfl⟩ : ∃ t c, xs = t ++ [c] := ⟨xs.dropLast, xs.getLast h0, (List.dropLast_concat_getLast h0).symm⟩
    obtain ⟨i1, i2, i3⟩ := ih t (by simpa using hl)
    have e : ddupL (t ++ [c]) = ddup (ddupL t) c := by simp [ddupL, List.foldl_append]
    rw [e]
    refine ⟨ddup_distinct i1 c, by have := ddup_len (ddupL t) c; omega, fun g hg => ?_⟩
    rcases ddup_mem _ _ g hg with h | rfl
    · exact List.mem_append_left _ (i3 g h)
    · simp

/-- What the first loop leaves: unlike files, a row of the call's own. -/
def CutL (W0 : World) (fs : List F2) (l : Value) (w : World) : Prop :=
  ∃ L : List F2, Distinct L ∧ L.length ≤ 12 ∧ (∀ f ∈ L, f ∈ fs) ∧ w.ownsRow W0.heap.size 50 2 l L.length (fileCells L) ∧ (L = [] → l = .slice none 0 0) ∧ Below W0.heap.size W0 w

/-- What the two trees' statement leaves. -/
def TwoT (wr : World) (T U : List F2) (x y : Value) (w : World) : Prop :=
  ∃ b1 b2 r1 r2, x = .pointer (some ⟨b1, 0, none⟩) ∧ y = .pointer (some ⟨b2, 0, none⟩) ∧ BothT wr w b1 b2 r1 r2 T U

set_option maxHeartbeats 4000000 in
set_option maxRecDepth 100000 in
theorem law (v : Value) (fs : List F2) (n : Int) (on : Int) (os ob : ByteArray) (w : World) (hF : IsFiles w v fs) (hsz : ∀ f ∈ fs, f.1.size ≤ maxLen ∧ f.2.size ≤ maxLen) (hos : os.size ≤ maxLen) (hob : ob.size ≤ maxLen) (hG : Glob w) :
    Calls Tryd.prog 7 #[v, .int .i64 n, .agg #[.int .i64 on, .string os, .string ob]] w fun e w' => e = .returned (.bool true) ∧ Below w.heap.size w w' := by
  obtain ⟨a, c, rfl, h1, h1m, h2⟩ := hF
  obtain ⟨i0, hi, hz0, hz1, hz2⟩ := info_parts info_file
  have hcells : ∀ (k : Nat) x, fs[k]? = some x → ∃ b o, a = some ⟨b, o, none⟩ ∧ b < w.heap.size ∧ w.cell? ⟨b, o + k * 2, none⟩ = some (.string x.1) ∧ w.cell? ⟨b, o + k * 2 + 1, none⟩ = some (.string x.2) := by
    intro k x hx
    obtain ⟨b, o, ha, hb, hc⟩ := h2 (by rintro rfl; simp at hx)
    exact ⟨b, o, ha, hb, hc k x hx⟩
  have HC := Lib.hid hcells
  have HG := Lib.hid hG
  have HSZ := Lib.hid hsz
  have HNEXT := Lib.hid (ddup_next fs)
  clear hcells h2 hsz hG
  unfold maxLen at h1m
  obtain ⟨W0, hW0⟩ : ∃ W0, w.alloc (.cells #[.int .i64 on, .string os, .string ob] 48) = W0 := ⟨_, rfl⟩
  have hB0 : Below w.heap.size w W0 := by rw [← hW0]; exact (Below.refl _ _).alloc (Nat.le_refl _) _
  have hlt0 : w.heap.size < W0.heap.size := by rw [← hW0]; simp
  have hc0 : W0.cell? ⟨w.heap.size, 0, none⟩ = some (.int .i64 on) := by rw [← hW0, World.cell?_alloc_at _ _ _ _ rfl]; rfl
  have hc1 : W0.cell? ⟨w.heap.size, 1, none⟩ = some (.string os) := by rw [← hW0, World.cell?_alloc_at _ _ _ _ rfl]; rfl
  have hc2 : W0.cell? ⟨w.heap.size, 2, none⟩ = some (.string ob) := by rw [← hW0, World.cell?_alloc_at _ _ _ _ rfl]; rfl
  have HB0 := Lib.hid hB0
  have HO1 : Hid (∀ wz, Below W0.heap.size W0 wz → wz.cell? ⟨w.heap.size, 1, none⟩ = some (.string os)) := by
    show ∀ wz, _; exact fun wz h => (h.cell hlt0).trans hc1
  have HO2 : Hid (∀ wz, Below W0.heap.size W0 wz → wz.cell? ⟨w.heap.size, 2, none⟩ = some (.string ob)) := by
    show ∀ wz, _; exact fun wz h => (h.cell hlt0).trans hc2
  have HW0 := Lib.hid hW0
  clear hc0 hc1 hc2 hB0 hW0
  go_enter Tryd.func7, Tryd.ntmps7
  go_wp2_with fail
  rw [HW0.out]
  refine (begun_any _ (HG.out.below HB0.out)).mono ?_
  rintro e w1 ⟨rfl, hb1⟩
  have HX1 := Lib.hid hb1
  clear hb1
  go_upto_block 0 with fail
  go_cut [8] (fun l wx => CutL W0 fs l wx)
  case first =>
    go_wp2_with fail
    go_loopw [8, 9] (fun l i wr => ∃ (k : Nat), k ≤ fs.length ∧ k ≤ 12 ∧ i = .int .i64 k ∧ wr.ownsRow W0.heap.size 50 2 l (ddupL (fs.take k)).length (fileCells (ddupL (fs.take k))) ∧ (ddupL (fs.take k) = [] → l = .slice none 0 0) ∧ Below W0.heap.size W0 wr)
      (fun _ i _ => fs.length - (intOf i).toNat)
    case atStart => exact ⟨0, Nat.zero_le _, by omega, rfl, World.ownsRow_nil _ _ _ _, fun _ => rfl, HX1.out⟩
    case round =>
      obtain ⟨k, hk, hk12, rfl, hown, hnil, hnx⟩ := hrel
      have HOWN := Lib.hid hown
      have HNX := Lib.hid hnx
      obtain ⟨L, hL⟩ : ∃ L, ddupL (fs.take k) = L := ⟨_, rfl⟩
      have hall := ddupL_all _ (fs.take k) rfl
      rw [hL] at hall
      have hLl : L.length ≤ 12 := by have := hall.2.1; rw [List.length_take] at this; omega
      rw [hL] at HOWN hnil
      have HNIL := Lib.hid hnil
      clear hnil
      have HL := Lib.hid hL
      have HALL := Lib.hid hall
      clear hown hnx hL hall HX1
      by_cases hgo : k < fs.length ∧ k < 12
      · obtain ⟨hlt, hlt12⟩ := hgo
        obtain ⟨x, hx⟩ : ∃ x, fs[k]? = some x := ⟨fs[k], List.getElem?_eq_getElem hlt⟩
        obtain ⟨b, o, ha, hb, hc0, hc1⟩ := HC.out k x hx
        subst ha
        have hbw0 : b < W0.heap.size := Nat.lt_trans hb hlt0
        have hcx0 : wr.cell? ⟨b, o + k * 2, none⟩ = some (.string x.1) := (HNX.out.cell (by exact hbw0)).trans ((HB0.out.cell hb).trans hc0)
        have hcx1 : wr.cell? ⟨b, o + k * 2 + 1, none⟩ = some (.string x.2) := (HNX.out.cell (by exact hbw0)).trans ((HB0.out.cell hb).trans hc1)
        have hnx1 := HNEXT.out k x hx
        rw [HL.out] at hnx1
        have HN1 := Lib.hid hnx1
        obtain ⟨la, lc, hlv, hl0, hlc, hlm⟩ := own_shape HOWN.out
        have hk0 : (0 : Int) ≤ (k : Int) := by omega
        have hkA : (k : Int) < (fs.length : Int) := by omega
        have hkB : (k : Int) < 12 := by omega
        clear hc0 hc1 hx hnx1 hb hbw0
        subst hlv
        have HL0 := Lib.hid hl0
        clear hl0
        unfold maxLen at hlm
        have HTW : Hid (∀ (j : Nat) y, L[j]? = some y → ∀ t, (L.take j).any (fun g => g.1.toList == x.1.toList) = t → (L.take (j + 1)).any (fun g => g.1.toList == x.1.toList) = (t || (y.1.toList == x.1.toList))) := by
          show ∀ (j : Nat) y, _
          intro j y hy t ht
          rw [List.take_add_one, hy, List.any_append, ht]
          simp
        have HFL := Lib.hid (show OwnF wr W0.heap.size _ (.slice la L.length lc) L from .inl ⟨HOWN.out, rfl⟩).files
        go_wp2_with fail
        go_loopw [10, 32] (fun t i wz => ∃ (j : Nat) (q : Bool), j ≤ L.length ∧ i = .int .i64 j ∧ t = .bool q ∧ (L.take j).any (fun g => g.1.toList == x.1.toList) = q ∧ Below W0.heap.size W0 wz ∧ Below wr.heap.size wr wz)
          (fun _ i _ => L.length - (intOf i).toNat)
        case atStart => exact ⟨0, false, Nat.zero_le _, rfl, rfl, by simp, HNX.out, Below.refl _ _⟩
        case round =>
          obtain ⟨j, q, hj, rfl, rfl, hq, hnz, hnz2⟩ := hrel
          have HQ := Lib.hid hq
          have HNZ := Lib.hid hnz
          have HNZ2 := Lib.hid hnz2
          clear hq hnz hnz2
          by_cases hjlt : j < L.length
          · obtain ⟨y, hy⟩ : ∃ y, L[j]? = some y := ⟨L[j], List.getElem?_eq_getElem hjlt⟩
            have HTJ := Lib.hid (HTW.out j y hy q HQ.out)
            have hcx0' : wr.cell? ⟨b, o + k * 2, none⟩ = some (.string x.1) := (HNZ2.out.cell (p := ⟨b, o + k * 2, none⟩) (cell_lt hcx0)).trans hcx0
            obtain ⟨la', lc', hv, _, _, hfc⟩ := HFL.out.below HNZ2.out
            cases hv
            obtain ⟨gb, go, rfl, hgb, hgc⟩ := hfc (by rintro rfl; simp at hjlt)
            obtain ⟨hy0, _⟩ := hgc j y hy
            have hj0 : (0 : Int) ≤ (j : Int) := by omega
            have hjA : (j : Int) < (L.length : Int) := by omega
            clear hgc hfc hgb hy
            cases q
            · obtain ⟨q2, hq2⟩ : ∃ q2, (y.1.toList == x.1.toList) = q2 := ⟨_, rfl⟩
              go_wp2_with fail
              go_quiet (fail)
              go_wp2
              go_roundw
              case rel => exact ⟨j + 1, _, by omega, by go_num, rfl, by rw [HTJ.out, Bool.false_or, hq2], below_drewN HNZ.out _, below_drewN HNZ2.out _⟩
              case measure => simp [intOf]; omega
            · go_wp2_with fail
              go_quiet (fail)
              go_wp2
              go_roundw
              case rel => exact ⟨j + 1, _, by omega, by go_num, rfl, by rw [HTJ.out]; rfl, below_drewN HNZ.out _, below_drewN HNZ2.out _⟩
              case measure => simp [intOf]; omega
          · have hjL : j = L.length := by omega
            have hq' : twiceF L x = q := by have := HQ.out; rw [List.take_of_length_le (by omega)] at this; exact this
            have HQ' := Lib.hid hq'
            have HF2 := Lib.hid (HFL.out.below HNZ2.out)
            clear hq' hjL
            cases q
            · have HD := Lib.hid (ddup_no HQ'.out)
              have hcy0 : wr.cell? ⟨b, o + k * 2, none⟩ = some (.string x.1) := (HNZ2.out.cell (p := ⟨b, o + k * 2, none⟩) (cell_lt hcx0)).trans hcx0
              have hcy1 : wr.cell? ⟨b, o + k * 2 + 1, none⟩ = some (.string x.2) := (HNZ2.out.cell (p := ⟨b, o + k * 2 + 1, none⟩) (cell_lt hcx1)).trans hcx1
              have hown2 := HOWN.out.kept (grown_below HNZ2.out none) (by cases la <;> simp [Value.ownBlock])
              have hs1 := HNZ.out.size
              go_wp2_with (at_builtin; refine wpList_append_own _ rfl _ _ 46 rfl W0.heap.size 50 i0 _ 2 32 Tryd.underlying46 hi hz0 hz1 hz2 rfl (by decide) _ _ _ rfl (hown2.alloc _) ⟨wr.heap.size, 0, none⟩ 1 1 [.string x.1, .string x.2] rfl rfl ?c1 ?c2 ?c3 ?c4 ?c5 ?_)
              case c1 =>
                intro j u hj
                match j, hj with
                | 0, hj => simp at hj; subst hj; simp [Addr.add]
                | 1, hj => simp at hj; subst hj; simp [Addr.add]
              case c2 => intro u hu; simp at hu; rcases hu with rfl | rfl <;> rfl
              case c3 => unfold maxLen; omega
              case c4 => omega
              case c5 => simp; omega
              intro v' w3 hown' hgrow _
              have hnx' : Below W0.heap.size W0 w3 := (HNZ.out.alloc hs1 _).grown hgrow (by simp; omega) (fun g hg => (hown2.lt g hg).1)
              have HO : Hid (w3.ownsRow W0.heap.size 50 2 v' (ddupL (fs.take (k + 1))).length (fileCells (ddupL (fs.take (k + 1))))) := by
                show w3.ownsRow _ _ _ _ _ _
                rw [HN1.out, HD.out, List.length_append, fileCells_append]
                exact hown'
              clear hgrow hown2 hown'
              go_wp2
              go_roundw
              case rel => exact ⟨k + 1, by omega, by omega, by go_num, HO.out, (fun e => absurd e (by rw [HN1.out, HD.out]; simp)), hnx'⟩
              case measure => simp [intOf]; omega
            · have HD := Lib.hid (ddup_yes HQ'.out)
              go_wp2_with fail
              go_roundw
              case rel => exact ⟨k + 1, by omega, by omega, by go_num, by rw [HN1.out, HD.out]; exact HOWN.out.kept (grown_below HNZ2.out none) (by cases la <;> simp [Value.ownBlock]), (by rw [HN1.out, HD.out]; exact HNIL.out), HNZ.out⟩
              case measure => simp [intOf]; omega
      · have hcl : ddupL (fs.take k) = L := HL.out
        have HCUT := Lib.hid (show CutL W0 fs _ wr from ⟨L, HALL.out.1, hLl, fun f hf => List.mem_of_mem_take (HALL.out.2.2 f hf), HOWN.out, HNIL.out, HNX.out⟩)
        by_cases hlt : k < fs.length
        · have hge : ¬ k < 12 := fun h => hgo ⟨hlt, h⟩
          clear hgo
          go_wp2_with fail
          go_meet
          exact HCUT.out
        · clear hgo
          go_wp2_with fail
          go_meet
          exact HCUT.out
  case rest =>
    obtain ⟨L, hdi, hLl, hmem, hown, hnil, hnx⟩ := hcut
    have HDI := Lib.hid hdi
    have HSL : Hid (∀ f ∈ L, f.1.size ≤ maxLen ∧ f.2.size ≤ maxLen) := by
      show ∀ f ∈ L, _
      exact fun f hf => HSZ.out f (hmem f hf)
    have HGL : Hid (∀ wz, Below wc.heap.size wc wz → Glob wz) := by
      show ∀ wz, _
      exact fun wz h => HG.out.below (chain (chain HB0.out hnx) h)
    have HOWN := Lib.hid hown
    have HNIL := Lib.hid hnil
    have HNX := Lib.hid hnx
    obtain ⟨T, hT⟩ : ∃ T, newF L = T := ⟨_, rfl⟩
    have HT := Lib.hid hT
    clear hT hdi hmem hown hnil hnx
    obtain ⟨la, lc, hlv, hl0, hlc, hlm⟩ := own_shape HOWN.out
    subst hlv
    have HL0 := Lib.hid hl0
    clear hl0
    unfold maxLen at hlm
    go_upto_if 61 with fail
    go_cut [12] (fun k wx => ∃ K : Nat, k = .int .i64 K ∧ (L = [] → K = 0) ∧ (L ≠ [] → K < L.length) ∧ wx = wc)
    case first =>
      by_cases hL0 : L = []
      · have hlz : L.length = 0 := by rw [hL0]; rfl
        go_wp2_with fail
        go_meet
        exact ⟨0, rfl, fun _ => rfl, fun h => absurd hL0 h, rfl⟩
      · have hLpos : 0 < L.length := List.length_pos_iff.2 hL0
        obtain ⟨K, hK, hKl⟩ : ∃ K : Nat, (wrap64 (n.tmod (L.length : Int) + (L.length : Int))).tmod (L.length : Int) = (K : Int) ∧ K < L.length := by
          have hp : (0 : Int) < (L.length : Int) := by omega
          have q1 := Int.tmod_lt_of_pos n hp
          have q2 := Int.lt_tmod_of_pos n hp
          have q3 : wrap64 (n.tmod (L.length : Int) + (L.length : Int)) = n.tmod (L.length : Int) + (L.length : Int) := by unfold wrap64; omega
          rw [q3]
          have q4 := Int.tmod_lt_of_pos (n.tmod (L.length : Int) + (L.length : Int)) hp
          have q5 := Int.tmod_nonneg (L.length : Int) (show 0 ≤ n.tmod (L.length : Int) + (L.length : Int) by omega)
          exact ⟨((n.tmod (L.length : Int) + (L.length : Int)).tmod (L.length : Int)).toNat, by omega, by omega⟩
        have HKL := Lib.hid hKl
        clear hKl
        go_wp2_with fail
        go_meet
        exact ⟨K, rfl, fun h => absurd h hL0, fun _ => HKL.out, rfl⟩
    case rest =>
      obtain ⟨K, rfl, hK0, hK1, rfl⟩ := hcut
      have HK0 := Lib.hid hK0
      have HK1 := Lib.hid hK1
      clear hK0 hK1
      go_upto_region 19 with fail
      go_cut [13, 14] (fun x y wx => TwoT wc (newF L) (newF (L.drop K ++ L.take K)) x y wx)
      case first =>
        have HS0 := Lib.hid (show Below wc.heap.size wc wc.drew from (Below.refl _ _).drew)
        have HFI : Hid (∀ wz, Below wc.heap.size wc wz → IsFiles wz (.slice la L.length lc) L) := by
          show ∀ wz, _
          exact fun wz hwz => (RowAt.files (show RowAt wc W0.heap.size _ L from HOWN.out)).below hwz
        have CN1 : Hid (∀ wz, Below wc.heap.size wc wz → Calls Tryd.prog 17 #[.slice la L.length lc] wz (NewPost wz (newF L))) := by
          show ∀ wz, _
          exact fun wz hwz => new_any _ L wz (HFI.out wz hwz) (HGL.out wz hwz) HSL.out
        have CN2 : Hid (∀ wz B v, Below wc.heap.size wc wz → RowAt wz B v (L.drop K ++ L.take K) → Calls Tryd.prog 17 #[v] wz (NewPost wz (newF (L.drop K ++ L.take K)))) := by
          show ∀ wz B v, _
          exact fun wz B v hwz hr => new_any _ _ wz hr.files (HGL.out wz hwz) (fun f hf => by
            rcases List.mem_append.1 hf with h | h
            · exact HSL.out f (List.mem_of_mem_drop h)
            · exact HSL.out f (List.mem_of_mem_take h))
        by_cases hL0 : L = []
        · have hv := HNIL.out hL0
          have hk := HK0.out hL0
          subst hk
          subst hL0
          simp only [List.length_nil, Value.slice.injEq, true_and] at hv
          obtain ⟨rfl, rfl⟩ := hv
          have CN : Hid (∀ wz, Below wc.heap.size wc wz → Calls Tryd.prog 17 #[.slice none 0 0] wz (NewPost wz (newF []))) := CN1
          clear CN1 CN2 HFI HSL
          go_region_held3 (fun w' => Below wc.heap.size wc w') (first | assumption | exact HS0.out)
            (first
              | (go_at_call 17; refine (CN.out _ (by assumption)).mono ?_; rintro e w' ⟨b2, r2, rfl, hT2, hbN⟩; have hboth := BothT.make hT1 hT2 hbN (by assumption) hlo1; have hSn := chain (w := wc) (by assumption) hbN; clear hbN hT2)
              | (go_at_call 17; refine (CN.out _ (by assumption)).mono ?_; rintro e w' ⟨b1, r1, rfl, hT1, hbN⟩; have hlo1 := (show Below wc.heap.size wc _ from by assumption).size; have hSn := chain (w := wc) (by assumption) hbN; clear hbN))
          all_goals (go_wp2_with fail; go_meet; exact ⟨b1, b2, r1, r2, rfl, rfl, hboth⟩)
        · have hLpos : 0 < L.length := List.length_pos_iff.2 hL0
          have hKl := HK1.out hL0
          obtain ⟨g, hg⟩ := HL0.out (by omega)
          subst hg
          have HCE : Hid (∀ wz, Below wc.heap.size wc wz → ∀ (j : Nat) u, (fileCells L)[j]? = some u → wz.cell? ⟨g, j, none⟩ = some u) := by
            show ∀ wz, _
            intro wz hwz j u hu
            obtain ⟨_, ⟨hv, _⟩ | ⟨g', cap, cur, hv, hgB, hgh, hnc, hcm, hcs, htk⟩⟩ := HOWN.out
            · cases hv
            · cases hv
              rw [← htk, List.getElem?_take] at hu
              split at hu
              · rw [hwz.cell (p := ⟨g, j, none⟩) (block_lt hgh)]
                simp only [World.cell?, hgh]; simpa using hu
              · cases hu
          have hl1 : (L.drop K).length = L.length - K := List.length_drop
          have hl2 : (L.take K).length = K := by rw [List.length_take]; omega
          have HC1 : Hid (∀ wz, Below wc.heap.size wc wz → ∀ (j : Nat) u, (fileCells (L.drop K))[j]? = some u → wz.cell? ((⟨g, K * 2, none⟩ : Addr).add j) = some u) := by
            show ∀ wz, _
            intro wz hwz j u hu
            rw [← fileCells_drop, List.getElem?_drop] at hu
            rw [Addr.add_lit]
            exact HCE.out wz hwz _ u hu
          have HC2 : Hid (∀ wz, Below wc.heap.size wc wz → ∀ (j : Nat) u, (fileCells (L.take K))[j]? = some u → wz.cell? ((⟨g, 0, none⟩ : Addr).add j) = some u) := by
            show ∀ wz, _
            intro wz hwz j u hu
            rw [← fileCells_take, List.getElem?_take] at hu
            split at hu
            · rw [Addr.add_lit, Nat.zero_add]
              exact HCE.out wz hwz _ u hu
            · cases hu
          have HL1 := Lib.hid hl1
          have HL2 := Lib.hid hl2
          have HLD := Lib.hid (show (fileCells (L.drop K)).length = (L.length - K) * 2 by rw [fileCells_length, hl1])
          have HLT := Lib.hid (show (fileCells (L.take K)).length = K * 2 by rw [fileCells_length, hl2])
          have hld : (L.drop K).length ≤ 12 := by omega
          clear hl1 hl2
          have hk0 : (0 : Int) ≤ (K : Int) := by omega
          have hk1 : (K : Int) ≤ (L.length : Int) := by omega
          have hk2 : (K : Int) ≤ (lc : Int) := by omega
          have hk3 : ¬ lc = K := by omega
          go_region_held3 (fun w' => Below wc.heap.size wc w') (first | assumption | exact HS0.out)
            (first
              | (go_at_call_of 17 (Value.slice (some ⟨g, 0, none⟩) L.length lc); refine (CN1.out _ (by assumption)).mono ?_; rintro e w' ⟨b1, r1, rfl, hT1, hbN⟩; have hlo1 := (show Below wc.heap.size wc _ from by assumption).size; have hSn := chain (w := wc) (by assumption) hbN; (try (have hap := RowAt.new hA _ hT1; replace hA := RowAt.below hA hbN)); (try (replace hB := RowAt.below hB hbN)); clear hbN)
              | (refine step_append_own (by rfl) _ _ _ (by rfl) _ 50 i0 _ 2 32 Tryd.underlying46 hi hz0 hz1 hz2 rfl (by decide) (.slice none 0 0) 0 [] (by rfl) (World.ownsRow_nil _ _ _ _) ⟨g, K * 2, none⟩ (L.length - K) (lc - K) (fileCells (L.drop K)) (by rfl) HLD.out (HC1.out _ (by assumption)) (fileCells_one _) (by unfold maxLen; omega) (by omega) (Nat.le_refl _) ?_; intro vA w' hA0 hgA; have hA1 := row_first hA0 HL1.out; have hgA' := (show World.grownBy _ w' none from hgA); have hA := (show RowAt w' wc.heap.size vA _ from own_mono hA1 (show Below wc.heap.size wc _ from by assumption).size); have hSn := grown_up (wr := wc) (by assumption) hgA' (by intro k hk; cases hk); (try (obtain ⟨hT1, hap⟩ := RowAt.after hA1 hT1 hgA')); clear hA0 hA1 hgA hgA')
              | (refine step_append_own (by rfl) _ _ _ (by rfl) wc.heap.size 50 i0 _ 2 32 Tryd.underlying46 hi hz0 hz1 hz2 rfl (by decide) vA (L.drop K).length (fileCells (L.drop K)) (by rfl) hA ⟨g, 0, none⟩ K lc (fileCells (L.take K)) (by rfl) HLT.out (HC2.out _ (by assumption)) (fileCells_one _) (by unfold maxLen; omega) (by omega) (show Below wc.heap.size wc _ from by assumption).size ?_; intro vB w' hB0 hgB; have hB := row_more hB0 rfl HL2.out; have hSn := grown_up (wr := wc) (by assumption) hgB (fun k hk => (World.ownsRow.lt hA k hk).1); (try (replace hT1 := Apart.tree hap hT1 hgB)); clear hB0 hgB)
              | (go_at_call_of 17 vB; refine (CN2.out _ _ _ (by assumption) hB).mono ?_; rintro e w' ⟨b2, r2, rfl, hT2, hbN⟩; have hboth := BothT.make hT1 hT2 hbN (by assumption) hlo1; have hSn := chain (w := wc) (by assumption) hbN; clear hbN hT2))
          all_goals (go_wp2_with fail; go_meet; exact ⟨b1, b2, r1, r2, rfl, rfl, hboth⟩)
      case rest =>
        obtain ⟨b1, b2, r1, r2, rfl, rfl, hboth⟩ := hcut
        have hturn : newF (L.drop K ++ L.take K) = newF L := by
          obtain ⟨_, _, q1, q2, _⟩ := hboth
          exact new_turn HDI.out (by omega) K q1.2.1 q2.2.1
        rw [hturn, HT.out] at hboth
        have hok : FOk T := by rw [← HT.out]; exact FOk.new L
        obtain ⟨B1, B2, ht1, ht2, hap1, hap2, hbx, hB1, hB2⟩ := hboth
        have HX0 := Lib.hid (chain HNX.out hbx)
        have HGX : Hid (∀ wz, Below W0.heap.size W0 wz → Glob wz) := by
          show ∀ wz, _
          exact fun wz h => HG.out.below (chain HB0.out h)
        have HT1 := Lib.hid ht1
        have HT2 := Lib.hid ht2
        have HAP2 := Lib.hid hap2
        have HOK := Lib.hid hok
        have hl60 : T.length ≤ 60 := ht1.2.2.1
        have HKL := Lib.hid (key_len T hok)
        have hgW0 := hB1
        obtain ⟨a1, c1, hA1, hF1⟩ := ht1.all
        have HA1 := Lib.hid hA1
        have HF1 := Lib.hid hF1
        obtain ⟨KT, hKT⟩ : ∃ KT : ByteArray, (⟨(putS (keyL T)).toArray⟩ : ByteArray) = KT := ⟨_, rfl⟩
        have HKT := Lib.hid hKT
        have hdK : (KT.toList == KT.toList) = true := by simp
        have hB2w : B2 ≤ b2 := ht2.1
        have hW0B2 : W0.heap.size ≤ B2 := Nat.le_trans HNX.out.size hB2
        clear ht1 ht2 hap2 hok hbx hA1 hF1 hKT HK0 HK1 HL0 HNIL HOWN HSL HGL hturn hlm hlc HDI
        have kc := fun p a c w h hF hg => key_core p a c T w h hF hl60 hg (by have := HKL.out; omega)
        simp only [HKT.out] at kc
        have KC := Lib.hid kc
        clear kc
        go_wp2_with fail
        refine (KC.out _ a1 c1 _ HA1.out HF1.out (HGX.out _ HX0.out)).mono ?_
        rintro e w3 ⟨rfl, hb3⟩
        have HX3 := Lib.hid (chain HX0.out hb3)
        have HT13 := Lib.hid (HT1.out.below hb3)
        have HT23 := Lib.hid (HT2.out.below hb3)
        clear hb3 HT1 HT2 HA1 HF1 HX0
        obtain ⟨a2, c2, hA2, hF2⟩ := HT23.out.all
        have HA2 := Lib.hid hA2
        have HF2 := Lib.hid hF2
        clear hA2 hF2
        go_wp2_with fail
        refine (KC.out _ a2 c2 _ HA2.out HF2.out (HGX.out _ HX3.out)).mono ?_
        rintro e w4 ⟨rfl, hb4⟩
        have HX4 := Lib.hid (chain HX3.out hb4)
        have HT14 := Lib.hid (HT13.out.below hb4)
        have HT24 := Lib.hid (HT23.out.below hb4)
        clear hb4 HT13 HT23 HA2 HF2 HX3
        have ho1 := HO1.out w4 HX4.out
        have cR := read_any _ b1 r1 T os w4 HT14.out
        obtain ⟨was, there, hwas⟩ : ∃ was there, readF T os = (was, there) := ⟨_, _, rfl⟩
        rw [hwas] at cR
        have HWAS := Lib.hid hwas
        clear hwas
        go_wp2_with fail
        refine cR.mono ?_
        rintro e w5 ⟨rfl, hb5⟩
        have HX5 := Lib.hid (chain HX4.out hb5)
        have HT15 := Lib.hid (HT14.out.below hb5)
        have HT25 := Lib.hid (HT24.out.below hb5)
        clear hb5 HT14 HT24 HX4 cR ho1
        have ho1 := HO1.out w5 HX5.out
        have ho2 := HO2.out w5 HX5.out
        have cW := write_any _ b2 r2 T os ob w5 HT25.out (HGX.out _ HX5.out) hos hob
        obtain ⟨q, hq⟩ : ∃ q, (writeF T os ob).1 = q := ⟨_, rfl⟩
        obtain ⟨T2, hT2e⟩ : ∃ T2, (writeF T os ob).2 = T2 := ⟨_, rfl⟩
        rw [hq, hT2e] at cW
        have HQ := Lib.hid hq
        have HT2E := Lib.hid hT2e
        clear hq hT2e
        go_wp2_with fail
        refine cW.mono ?_
        rintro e w6 ⟨r6, rfl, hC6, hf6, _⟩
        have rl5 := HT25.out.rlt
        have rt5 := HT15.out.rlt
        have hx6 : Below W0.heap.size W0 w6 := HX5.out.trans (hf6.below HX5.out.size (Nat.le_trans hW0B2 rl5.2.1) (fun g hg => Nat.le_trans hW0B2 (rl5.1 g hg).1))
        have hT16 := tree_frame HT15.out hf6 (by omega) (fun e => by have := rl5.1 b1 e; omega) (fun k hk => by have := HAP2.out k hk; omega) (fun k hk e => by have := HAP2.out k hk; have := rl5.1 k e; omega)
        have HT16 := Lib.hid hT16
        have HC6 := Lib.hid hC6
        have HX6 := Lib.hid hx6
        have hs25 := HT25.out.2.1
        have HS25 := Lib.hid hs25
        clear hT16 hC6 hx6 hf6 rl5 rt5 cW ho1 ho2 HT15 HT25 HX5 hs25 HAP2
        obtain ⟨a6, c6, hA6, hF6⟩ := HT16.out.all
        have HA6 := Lib.hid hA6
        have HF6 := Lib.hid hF6
        clear hA6 hF6
        by_cases hq0 : q = 0
        · subst hq0
          have hok2 : FOk T2 := by rw [← HT2E.out]; exact HOK.out.write os ob
          have hl2 : T2.length ≤ 60 := HC6.out.2.2.1
          have hkl2 := key_len T2 hok2
          obtain ⟨K2, hK2⟩ : ∃ K2 : ByteArray, (⟨(putS (keyL T2)).toArray⟩ : ByteArray) = K2 := ⟨_, rfl⟩
          have kc2 := fun p a c w h hF hg => key_core p a c T2 w h hF hl2 hg (by omega)
          simp only [hK2] at kc2
          have KC2 := Lib.hid kc2
          have hws := write_same (fs := T) (x := os) (b := ob) HS25.out (by rw [HT2E.out]; exact HC6.out.2.1) HQ.out
          rw [HT2E.out, HWAS.out] at hws
          have hkey : (KT.toList == K2.toList) = (there && (was.toList == ob.toList)) := by
            rw [Bool.eq_iff_iff, beq_iff_eq, Bool.and_eq_true, beq_iff_eq, Lib.toList_data, Lib.toList_data, Lib.toList_data, Lib.toList_data, ← HKT.out, ← hK2]
            constructor
            · intro h
              have hTT : T = T2 := key_inj h
              have := hws.1 hTT
              injection this with e1 e2
              exact ⟨e2, by rw [e1]⟩
            · rintro ⟨h1, h2⟩
              have e1 : was = ob := ByteArray.ext (Array.toList_inj.1 h2)
              have := hws.2 (by rw [e1, h1])
              rw [this]
          have HKEY := Lib.hid hkey
          clear kc2 hkl2 hok2 hws hkey hK2
          go_wp2_with fail
          refine (KC.out _ a6 c6 _ HA6.out HF6.out (HGX.out _ HX6.out)).mono ?_
          rintro e w7 ⟨rfl, hb7⟩
          have HX7 := Lib.hid (chain HX6.out hb7)
          have HC7 := Lib.hid (HC6.out.below hb7)
          clear hb7 HT16 HC6 HX6 HA6 HF6
          obtain ⟨a7, c7, hA7, hF7⟩ := HC7.out.all
          have HA7 := Lib.hid hA7
          have HF7 := Lib.hid hF7
          clear hA7 hF7
          go_wp2_with fail
          refine (KC2.out _ a7 c7 _ HA7.out HF7.out (HGX.out _ HX7.out)).mono ?_
          rintro e w8 ⟨rfl, hb8⟩
          have HX8 := Lib.hid (chain HX7.out hb8)
          clear hb8 HA7 HF7
          have ho2 := HO2.out w8 HX8.out
          have HFIN := Lib.hid (chain HB0.out HX8.out)
          obtain ⟨x1, hx1⟩ : ∃ x1, (KT.toList == K2.toList) = x1 := ⟨_, rfl⟩
          obtain ⟨x2, hx2⟩ : ∃ x2, (was.toList == ob.toList) = x2 := ⟨_, rfl⟩
          have hk := HKEY.out
          rw [hx1, hx2] at hk
          cases there
          · obtain rfl : x1 = false := by simpa using hk
            clear hk hx2
            go_wp2
            go_ret
            exact ⟨rfl, HFIN.out⟩
          · obtain rfl : x1 = x2 := by simpa using hk
            clear hk
            go_wp2
            go_ret
            exact ⟨rfl, HFIN.out⟩
        · have hTT : T2 = T := by rw [← HT2E.out]; exact write_fail (by rw [HQ.out]; exact hq0)
          subst hTT
          go_wp2_with fail
          refine (KC.out _ a6 c6 _ HA6.out HF6.out (HGX.out _ HX6.out)).mono ?_
          rintro e w7 ⟨rfl, hb7⟩
          have HX7 := Lib.hid (chain HX6.out hb7)
          have HC7 := Lib.hid (HC6.out.below hb7)
          clear hb7 HT16 HC6 HX6 HA6 HF6
          obtain ⟨a7, c7, hA7, hF7⟩ := HC7.out.all
          have HA7 := Lib.hid hA7
          have HF7 := Lib.hid hF7
          clear hA7 hF7
          go_wp2_with fail
          refine (KC.out _ a7 c7 _ HA7.out HF7.out (HGX.out _ HX7.out)).mono ?_
          rintro e w8 ⟨rfl, hb8⟩
          have HX8 := Lib.hid (chain HX7.out hb8)
          clear hb8 HA7 HF7
          have HFIN := Lib.hid (chain HB0.out HX8.out)
          go_wp2
          go_ret
          exact ⟨rfl, HFIN.out⟩
end Go.Proofs.YtjaojfaedikkeaaDoor.lawTreeKey
