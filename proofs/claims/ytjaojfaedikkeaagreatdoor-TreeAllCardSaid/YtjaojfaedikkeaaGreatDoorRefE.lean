/- The reference's tree: where a file is, Read. -/
import Derived.Deep.RegionLaw
import Derived.Test.YtjaojfaedikkeaaGreatDoorRefA
import Derived.Test.YtjaojfaedikkeaaGreatDoorStepOwn
namespace Go.Proofs.YtjaojfaedikkeaaGreatDoor
open Go.RowKit

/-- A tree of the reference. -/
def IsRT (w : World) (B b : Nat) (r : Option Nat) (fs : List F2) : Prop :=
  B ≤ b ∧ Sorted fs ∧ fs.length ≤ 60 ∧ ∃ v, w.heap[b]? = some (.cells #[v] 29 (0, 0)) ∧ RowAt w B v fs ∧ r = v.ownBlock

theorem IsRT.below {w w' : World} {B b : Nat} {r : Option Nat} {fs : List F2} (h : IsRT w B b r fs) (hb : Below w.heap.size w w') : IsRT w' B b r fs := by
  obtain ⟨h1, h2, h3, v, h4, h5, h6⟩ := h
  exact ⟨h1, h2, h3, v, (hb.block b (block_lt h4)).trans h4, h5.below hb, h6⟩
theorem IsRT.ptr {w : World} {B b : Nat} {r : Option Nat} {fs : List F2} (h : IsRT w B b r fs) : ∃ a c, w.heap[b]? = some (.cells #[.slice a fs.length c] 29 (0, 0)) ∧ OwnF w B r (.slice a fs.length c) fs ∧ fs.length ≤ c ∧ c ≤ maxLen := by
  obtain ⟨_, _, _, v, hb, hown, hr⟩ := h
  have ho : OwnF w B r v fs := .inl ⟨hown, hr⟩
  obtain ⟨a, c, rfl, h1, h2⟩ := ho.shape
  exact ⟨a, c, hb, ho, h1, h2⟩
/-- The slice that the tree holds: none, or a row of its own. -/
theorem IsRT.row {w : World} {B b : Nat} {r : Option Nat} {fs : List F2} (h : IsRT w B b r fs) :
    (fs = [] ∧ r = none ∧ w.heap[b]? = some (.cells #[.slice none 0 0] 29 (0, 0))) ∨
    ∃ g c, r = some g ∧ w.heap[b]? = some (.cells #[.slice (some ⟨g, 0, none⟩) fs.length c] 29 (0, 0)) ∧ RowAt w B (.slice (some ⟨g, 0, none⟩) fs.length c) fs ∧ fs.length ≤ c ∧ c ≤ maxLen ∧ B ≤ g ∧ g < w.heap.size ∧
      (∀ (j : Nat) u, (fileCells fs)[j]? = some u → w.cell? ⟨g, j, none⟩ = some u) ∧ ∃ cur, w.heap[g]? = some (.cells cur 33 (0, 0)) ∧ cur.size = c * 2 := by
  obtain ⟨_, _, _, v, hb, hown, hr⟩ := h
  have hown' := hown
  obtain ⟨_, ⟨hv, h0⟩ | ⟨g, cap, cur, hv, hgB, hgh, hnc, hcm, hcs, htk⟩⟩ := hown'
  · refine .inl ⟨List.eq_nil_of_length_eq_zero h0, by rw [hr, hv]; rfl, by rw [← hv]; exact hb⟩
  · refine .inr ⟨g, cap, by rw [hr, hv]; rfl, by rw [← hv]; exact hb, by rw [← hv]; exact hown, hnc, hcm, hgB, block_lt hgh, fun j u hu => ?_, cur, hgh, hcs⟩
    rw [← htk, List.getElem?_take] at hu
    split at hu
    · simp only [World.cell?, hgh]; simpa using hu
    · cases hu
theorem IsRT.rlt {w : World} {B b : Nat} {r : Option Nat} {fs : List F2} (h : IsRT w B b r fs) : (∀ k, r = some k → B ≤ k ∧ k < w.heap.size) ∧ B ≤ b ∧ b < w.heap.size := by
  obtain ⟨h1, _, _, v, h4, h5, h6⟩ := h
  exact ⟨fun k hk => World.ownsRow.lt h5 k (by rw [← h6]; exact hk), h1, block_lt h4⟩
theorem rt_frame {w w' : World} {B b b2 : Nat} {r r2 : Option Nat} {fs : List F2} (h : IsRT w B b r fs) (hf : Frame2 w w' b2 r2) (hb : b ≠ b2) (hb2 : r2 ≠ some b) (hr : ∀ k, r = some k → k ≠ b2) (hr2 : ∀ k, r = some k → r2 ≠ some k) : IsRT w' B b r fs := by
  obtain ⟨h1, h2, h3, v, h4, h5, h6⟩ := h
  refine ⟨h1, h2, h3, v, (hf.block b (block_lt h4) hb (fun e => hb2 e.symm)).trans h4, ?_, h6⟩
  obtain ⟨hl, hn | ⟨g, cap, cur, hv, hb', hgg, rest⟩⟩ := h5
  · exact ⟨hl, .inl hn⟩
  · have hrg : r = some g := by rw [h6, hv]; rfl
    exact ⟨hl, .inr ⟨g, cap, cur, hv, hb', (hf.block g (block_lt hgg) (hr g hrg) (fun e => hr2 g hrg e.symm)).trans hgg, rest⟩⟩
def RTPost (w : World) (B b : Nat) (r : Option Nat) (code : Int) (fs : List F2) (e : Ending) (w' : World) : Prop :=
  ∃ r', e = .returned (.int .i64 code) ∧ IsRT w' B b r' fs ∧ Frame2 w w' b r ∧ (r' = r ∨ r' = none ∨ ∃ k, r' = some k ∧ w.heap.size ≤ k)

theorem less_cmp : ∀ a b : List UInt8, Op.bytesLess a b = decide (Lib.compareBytes a b < 0)
  | [], [] => rfl
  | _ :: _, [] => rfl
  | [], _ :: _ => rfl
  | a :: x, b :: y => by
    unfold Op.bytesLess Lib.compareBytes
    by_cases h : a < b
    · rw [if_pos h]; simp [h]
    · by_cases h' : b < a
      · have hne : ¬ a = b := fun e => h (by rw [e] at h' ⊢; exact h')
        rw [if_neg h, if_pos h']; simp [h, hne]
      · have he : a = b := UInt8.toNat_inj.1 (by rw [UInt8.lt_iff_toNat_lt] at h h'; omega)
        rw [if_neg h, if_neg h', less_cmp x y]; simp [he]

theorem pos_step {fs : List F2} (hs : Sorted fs) {x : ByteArray} {k : Nat} {f : F2} (hf : fs[k]? = some f) (h : cmpF f x < 0) : k + 1 ≤ posOf fs x := by
  have h2 := (posOf_spec x hs).2
  rcases Nat.lt_or_ge k (posOf fs x) with h' | h'
  · omega
  · exact absurd h (h2 k f h' hf)
theorem pos_stop {fs : List F2} (hs : Sorted fs) {x : ByteArray} {k : Nat} {f : F2} (hf : fs[k]? = some f) (hk : k ≤ posOf fs x) (h : ¬ cmpF f x < 0) : k = posOf fs x := by
  have h1 := (posOf_spec x hs).1
  rcases Nat.lt_or_ge k (posOf fs x) with h' | h'
  · exact absurd (h1 k f h' hf) h
  · omega
theorem has_at {fs : List F2} (hs : Sorted fs) {x : ByteArray} {f : F2} (hf : fs[posOf fs x]? = some f) : (f.1.toList == x.toList) = hasF fs x := by
  have h := hasF_at hs (posOf_spec x hs).1 (posOf_spec x hs).2
  rw [Bool.eq_iff_iff, ← h, beq_iff_eq, Lib.toList_data, Lib.toList_data]
  constructor
  · intro e
    have : f.1 = x := ByteArray.ext (Array.toList_inj.1 e)
    exact ⟨f, hf, by rw [← this]; exact cmpF_self f⟩
  · rintro ⟨g, hg, h0⟩
    rw [hf] at hg
    injection hg with hg
    subst hg
    rw [cmpF_zero h0]
theorem has_end {fs : List F2} (hs : Sorted fs) {x : ByteArray} (h : fs.length ≤ posOf fs x) : hasF fs x = false := by
  have h' := hasF_at hs (posOf_spec x hs).1 (posOf_spec x hs).2
  rw [Bool.eq_false_iff]
  intro e
  obtain ⟨f, hf, _⟩ := h'.2 e
  have := (List.getElem?_eq_some_iff.1 hf).1
  omega

set_option maxHeartbeats 4000000 in
set_option maxRecDepth 100000 in
theorem atR_any (B b : Nat) (r : Option Nat) (fs : List F2) (x : ByteArray) (w : World) (h : IsRT w B b r fs) :
    Calls Tryz.prog 25 #[.pointer (some ⟨b, 0, none⟩), .string x] w fun e w' => e = .returned (.tuple #[.int .i64 (posOf fs x : Nat), .bool (hasF fs x)]) ∧ Below w.heap.size w w' := by
  obtain ⟨a, c, hb, hown, hc, hcm⟩ := h.ptr
  have hcell : w.cell? ⟨b, 0, none⟩ = some (.slice a fs.length c) := by simp [World.cell?, hb]
  obtain ⟨a', c', hv, _, _, hcs⟩ := hown.files
  cases hv
  have HS := Lib.hid h.2.1
  have hl := h.2.2.1
  have HCS := Lib.hid hcs
  have hple := posOf_le fs x
  obtain ⟨p, hp⟩ : ∃ p, posOf fs x = p := ⟨_, rfl⟩
  obtain ⟨q, hq⟩ : ∃ q, hasF fs x = q := ⟨_, rfl⟩
  rw [hp] at hple
  rw [hp, hq]
  have HP := Lib.hid hp
  have HQ := Lib.hid hq
  unfold maxLen at hcm
  clear hp hq hcs hb hown h
  go_enter Tryz.func25, Tryz.ntmps25
  go_wp2
  go_loop [6] (fun i => ∃ k : Nat, k ≤ p ∧ i = .int .i64 k) (fun i => fs.length - (intOf i).toNat)
  case atStart => exact ⟨0, Nat.zero_le _, rfl⟩
  case round =>
    obtain ⟨k, hk, rfl⟩ := hrel
    by_cases hlt : k < fs.length
    · obtain ⟨f, hf⟩ : ∃ f, fs[k]? = some f := ⟨fs[k], List.getElem?_eq_getElem hlt⟩
      obtain ⟨gb, go, rfl, hgb, hgc⟩ := HCS.out (by rintro rfl; simp at hlt)
      obtain ⟨hf0, _⟩ := hgc k f hf
      have HF := Lib.hid hf
      have hk0 : (0 : Int) ≤ (k : Int) := by omega
      have hk1 : (k : Int) < (fs.length : Int) := by omega
      clear hgc hf
      obtain ⟨lt, hlt2⟩ : ∃ lt, Op.bytesLess f.1.toList x.toList = lt := ⟨_, rfl⟩
      have hlc : lt = decide (cmpF f x < 0) := by rw [← hlt2, less_cmp, Lib.toList_data, Lib.toList_data]; rfl
      have HLC := Lib.hid hlc
      clear hlc
      cases lt
      · have hnc : ¬ cmpF f x < 0 := of_decide_eq_false HLC.out.symm
        have hkp : k = p := by rw [← HP.out]; exact pos_stop HS.out HF.out (by rw [HP.out]; exact hk) hnc
        subst hkp
        have hat : (f.1.toList == x.toList) = q := by
          have := HF.out
          rw [← HP.out] at this
          rw [has_at HS.out this, HQ.out]
        clear hnc
        go_wp2_with fail
        go_quiet (fail)
        go_wp2
        go_ret2
        exact ⟨rfl, below_drewN (Below.refl _ _) _⟩
      · have hcl : cmpF f x < 0 := of_decide_eq_true HLC.out.symm
        have hkp : k + 1 ≤ p := by rw [← HP.out]; exact pos_step HS.out HF.out hcl
        clear hcl
        go_wp2
        go_round
        case rel => exact ⟨k + 1, hkp, by go_num⟩
        case measure => simp [intOf]; omega
    · have hkp : k = p := by omega
      have hqf : q = false := by rw [← HQ.out]; exact has_end HS.out (by rw [HP.out]; omega)
      subst hqf
      have HKP := Lib.hid hkp
      have hd : decide ((k : Int) < (fs.length : Int)) = false := by simp; omega
      clear hkp
      go_wp2_with fail
      go_quiet (fail)
      go_wp2
      go_ret2
      exact ⟨ret_num (by rw [HKP.out]) rfl, below_drewN (Below.refl _ _) _⟩

set_option maxHeartbeats 2000000 in
set_option maxRecDepth 100000 in
theorem readR_any (B b : Nat) (r : Option Nat) (fs : List F2) (x : ByteArray) (w : World) (h : IsRT w B b r fs) :
    Calls Tryz.prog 13 #[.pointer (some ⟨b, 0, none⟩), .string x] w fun e w' => e = .returned (.tuple #[.string (readF fs x).1, .bool (readF fs x).2]) ∧ Below w.heap.size w w' := by
  have cA := atR_any B b r fs x w h
  have HS := Lib.hid h.2.1
  have H := Lib.hid h
  obtain ⟨p, hp⟩ : ∃ p, posOf fs x = p := ⟨_, rfl⟩
  obtain ⟨q, hq⟩ : ∃ q, hasF fs x = q := ⟨_, rfl⟩
  rw [hp, hq] at cA
  obtain ⟨rb, rq, hrd⟩ : ∃ rb rq, readF fs x = (rb, rq) := ⟨_, _, rfl⟩
  rw [hrd]
  have HRD := Lib.hid hrd
  have HP := Lib.hid hp
  have HQ := Lib.hid hq
  clear h hp hq hrd
  go_enter Tryz.func13, Tryz.ntmps13
  go_wp2_with fail
  refine cA.mono ?_
  rintro e w2 ⟨rfl, hb2⟩
  have HX2 := Lib.hid hb2
  cases q
  · have hrr : rb = ⟨#[]⟩ ∧ rq = false := by
      have := HRD.out
      unfold readF at this
      rw [HQ.out, if_neg (by decide)] at this
      injection this with e1 e2
      exact ⟨e1.symm, e2.symm⟩
    obtain ⟨rfl, rfl⟩ := hrr
    clear hb2
    go_wp2
    go_ret2
    exact ⟨rfl, HX2.out⟩
  · obtain ⟨f, hf, hfx⟩ := hasF_pos HS.out HQ.out
    have hrr : rb = f.2 ∧ rq = true := by
      have := HRD.out
      unfold readF at this
      rw [if_pos HQ.out, hf] at this
      injection this with e1 e2
      exact ⟨e1.symm, e2.symm⟩
    obtain ⟨rfl, rfl⟩ := hrr
    rw [HP.out] at hf
    have hpl := (List.getElem?_eq_some_iff.1 hf).1
    obtain ⟨a, c, hb, hown, hc, hcm⟩ := (H.out.below hb2).ptr
    have hcell : w2.cell? ⟨b, 0, none⟩ = some (.slice a fs.length c) := by simp [World.cell?, hb]
    obtain ⟨a', c', hv, _, _, hcs⟩ := hown.files
    cases hv
    obtain ⟨gb, go, rfl, hgb, hgc⟩ := hcs (by rintro rfl; simp at hpl)
    obtain ⟨_, hf1⟩ := hgc p f hf
    have hk0 : (0 : Int) ≤ (p : Int) := by omega
    have hk1 : (p : Int) < (fs.length : Int) := by omega
    unfold maxLen at hcm
    clear hb hown hgc hcs hf hb2 cA hfx
    go_wp2
    go_ret2
    exact ⟨rfl, HX2.out⟩
end Go.Proofs.YtjaojfaedikkeaaGreatDoor
