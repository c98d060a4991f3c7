/- Plain facts on sorted lists of files by name; no program is spoken of. -/
import Derived.Lib.Bytealg
import Derived.Test.YtmpiaaangbjapaaDoorMathA
namespace Go.Proofs.YtmpiaaangbjapaaDoor
open Go.Lib

theorem cmp_refl : ∀ a : List UInt8, compareBytes a a = 0
  | [] => rfl
  | a :: as => by
    unfold compareBytes
    have h : ¬ a < a := by rw [UInt8.lt_iff_toNat_lt]; omega
    rw [if_neg h, if_neg h, cmp_refl as]

theorem cmp_zero : ∀ a b : List UInt8, compareBytes a b = 0 → a = b
  | [], [], _ => rfl
  | [], _ :: _, h => by simp [compareBytes] at h
  | _ :: _, [], h => by simp [compareBytes] at h
  | a :: as, b :: bs, h => by
    unfold compareBytes at h
    split at h
    · cases h
    · split at h
      · cases h
      · rename_i h1 h2
        have : a = b := UInt8.toNat_inj.1 (by rw [UInt8.lt_iff_toNat_lt] at h1 h2; omega)
        rw [this, cmp_zero as bs h]

theorem cmp_anti : ∀ a b : List UInt8, compareBytes b a = - compareBytes a b
  | [], [] => rfl
  | [], _ :: _ => rfl
  | _ :: _, [] => rfl
  | a :: as, b :: bs => by
    unfold compareBytes
    by_cases h1 : a < b
    · have h2 : ¬ b < a := by rw [UInt8.lt_iff_toNat_lt] at h1 ⊢; omega
      rw [if_pos h1, if_neg h2, if_pos h1]; rfl
    · by_cases h2 : b < a
      · rw [if_pos h2, if_neg h1, if_pos h2]
      · rw [if_neg h2, if_neg h1, if_neg h1, if_neg h2, cmp_anti as bs]

theorem cmp_trans : ∀ a b c : List UInt8, compareBytes a b < 0 → compareBytes b c < 0 → compareBytes a c < 0
  | [], [], _, h, _ => by simp [compareBytes] at h
  | [], _ :: _, [], _, h => by simp [compareBytes] at h
  | [], _ :: _, _ :: _, _, _ => by simp [compareBytes]
  | _ :: _, [], _, h, _ => by simp [compareBytes] at h
  | _ :: _, _ :: _, [], _, h => by simp [compareBytes] at h
  | a :: as, b :: bs, c :: cs, h1, h2 => by
    unfold compareBytes at h1 h2 ⊢
    simp only [UInt8.lt_iff_toNat_lt] at h1 h2 ⊢
    by_cases hab : a.toNat < b.toNat
    · by_cases hbc : b.toNat < c.toNat
      · rw [if_pos (by omega)]; decide
      · rw [if_neg hbc] at h2
        by_cases hcb : c.toNat < b.toNat
        · rw [if_pos hcb] at h2; exact absurd h2 (by decide)
        · rw [if_pos (by omega)]; decide
    · rw [if_neg hab] at h1
      by_cases hba : b.toNat < a.toNat
      · rw [if_pos hba] at h1; exact absurd h1 (by decide)
      · rw [if_neg hba] at h1
        by_cases hbc : b.toNat < c.toNat
        · rw [if_pos (by omega)]; decide
        · rw [if_neg hbc] at h2
          by_cases hcb : c.toNat < b.toNat
          · rw [if_pos hcb] at h2; exact absurd h2 (by decide)
          · rw [if_neg hcb] at h2
            rw [if_neg (by omega), if_neg (by omega)]
            exact cmp_trans as bs cs h1 h2

/-- How files' names compare with a text. -/
def cmpF (f : ByteArray × ByteArray) (x : ByteArray) : Int := compareBytes f.1.data.toList x.data.toList
def Sorted (fs : List (ByteArray × ByteArray)) : Prop := fs.Pairwise fun f g => cmpF f g.1 < 0
/-- The place of a name, and whether it is there. -/
def posOf (fs : List (ByteArray × ByteArray)) (x : ByteArray) : Nat := (fs.takeWhile fun f => decide (cmpF f x < 0)).length
def hasF (fs : List (ByteArray × ByteArray)) (x : ByteArray) : Bool := fs.any fun f => f.1.data.toList == x.data.toList

theorem cmpF_trans {f g : ByteArray × ByteArray} {x : ByteArray} (h1 : cmpF f g.1 < 0) (h2 : cmpF g x < 0) : cmpF f x < 0 := cmp_trans _ _ _ h1 h2
theorem cmpF_zero {f : ByteArray × ByteArray} {x : ByteArray} (h : cmpF f x = 0) : f.1 = x := by
  have := cmp_zero _ _ h
  exact ByteArray.ext (Array.toList_inj.1 this)
theorem cmpF_self (f : ByteArray × ByteArray) : cmpF f f.1 = 0 := cmp_refl _

theorem sorted_mono {fs : List (ByteArray × ByteArray)} (h : Sorted fs) {a b : Nat} {fa fb : ByteArray × ByteArray} (hab : a ≤ b) (ha : fs[a]? = some fa) (hb : fs[b]? = some fb) {x : ByteArray} (hx : cmpF fb x < 0) : cmpF fa x < 0 := by
  rcases Nat.lt_or_ge a b with hlt | hge
  · obtain ⟨hb', rfl⟩ := List.getElem?_eq_some_iff.1 hb
    obtain ⟨ha', rfl⟩ := List.getElem?_eq_some_iff.1 ha
    exact cmpF_trans (List.pairwise_iff_getElem.1 h a b ha' hb' hlt) hx
  · obtain rfl : a = b := by omega
    rw [ha] at hb; injection hb with hb; rw [hb]; exact hx

theorem posOf_eq {fs : List (ByteArray × ByteArray)} {x : ByteArray} : ∀ {p : Nat}, p ≤ fs.length → (∀ (t : Nat) f, t < p → fs[t]? = some f → cmpF f x < 0) → (∀ (t : Nat) f, p ≤ t → fs[t]? = some f → ¬ cmpF f x < 0) → posOf fs x = p := by
  induction fs with
  | nil => intro p hp _ _; simp at hp; simp [posOf, hp]
  | cons f fs ih =>
    intro p hp h1 h2
    cases p with
    | zero =>
      have := h2 0 f (Nat.le_refl _) rfl
      simp [posOf, this]
    | succ p =>
      have h0 := h1 0 f (Nat.succ_pos _) rfl
      have := ih (p := p) (by simpa using hp) (fun t g ht hg => h1 (t + 1) g (by omega) (by simpa using hg)) (fun t g ht hg => h2 (t + 1) g (by omega) (by simpa using hg))
      unfold posOf at this ⊢
      rw [List.takeWhile_cons, if_pos (by simpa using h0), List.length_cons, this]

theorem posOf_le (fs : List (ByteArray × ByteArray)) (x : ByteArray) : posOf fs x ≤ fs.length := by
  unfold posOf
  exact (List.takeWhile_sublist _).length_le

theorem posOf_cons (f : ByteArray × ByteArray) (fs : List (ByteArray × ByteArray)) (x : ByteArray) : posOf (f :: fs) x = if cmpF f x < 0 then posOf fs x + 1 else 0 := by
  unfold posOf
  rw [List.takeWhile_cons]
  by_cases h : cmpF f x < 0 <;> simp [h]

theorem posOf_spec (x : ByteArray) : ∀ {fs : List (ByteArray × ByteArray)}, Sorted fs → (∀ (t : Nat) f, t < posOf fs x → fs[t]? = some f → cmpF f x < 0) ∧ (∀ (t : Nat) f, posOf fs x ≤ t → fs[t]? = some f → ¬ cmpF f x < 0)
  | [], _ => ⟨fun t f _ h => by simp at h, fun t f _ h => by simp at h⟩
  | g :: gs, hs => by
    obtain ⟨ih1, ih2⟩ := posOf_spec x (List.pairwise_cons.1 hs).2
    rw [posOf_cons]
    by_cases h : cmpF g x < 0
    · rw [if_pos h]
      refine ⟨fun t f ht hf => ?_, fun t f ht hf => ?_⟩
      · cases t with
        | zero => simp at hf; rw [← hf]; exact h
        | succ t => exact ih1 t f (by omega) (by simpa using hf)
      · cases t with
        | zero => omega
        | succ t => exact ih2 t f (by omega) (by simpa using hf)
    · rw [if_neg h]
      refine ⟨fun t f ht hf => by omega, fun t f ht hf => ?_⟩
      cases t with
      | zero => simp at hf; rw [← hf]; exact h
      | succ t => exact fun hx => h (cmpF_trans ((List.pairwise_cons.1 hs).1 f (List.mem_of_getElem? (by simpa using hf))) hx)

theorem hasF_at {fs : List (ByteArray × ByteArray)} (hs : Sorted fs) {x : ByteArray} {p : Nat} (h1 : ∀ (t : Nat) f, t < p → fs[t]? = some f → cmpF f x < 0) (h2 : ∀ (t : Nat) f, p ≤ t → fs[t]? = some f → ¬ cmpF f x < 0) :
    (∃ f, fs[p]? = some f ∧ cmpF f x = 0) ↔ hasF fs x = true := by
  unfold hasF
  rw [List.any_eq_true]
  constructor
  · rintro ⟨f, hf, h0⟩
    exact ⟨f, List.mem_of_getElem? hf, by rw [cmpF_zero h0]; simp⟩
  · rintro ⟨f, hf, hx⟩
    have hx : f.1 = x := ByteArray.ext (Array.toList_inj.1 (eq_of_beq hx))
    obtain ⟨t, ht⟩ := List.getElem?_of_mem hf
    have h0 : cmpF f x = 0 := by rw [← hx]; exact cmpF_self f
    have hpt : p ≤ t := by
      rcases Nat.lt_or_ge t p with h | h
      · have := h1 t f h ht; omega
      · exact h
    rcases Nat.lt_or_ge p t with h | h
    · exfalso
      obtain ⟨ht', _⟩ := List.getElem?_eq_some_iff.1 ht
      have hp' : fs[p]? = some fs[p] := List.getElem?_eq_getElem (by omega)
      have h3 := h2 p _ (Nat.le_refl _) hp'
      have h4 : cmpF fs[p] f.1 < 0 := by
        obtain ⟨ht'', rfl⟩ := List.getElem?_eq_some_iff.1 ht
        exact List.pairwise_iff_getElem.1 hs p t (by omega) ht' h
      rw [hx] at h4
      exact h3 h4
    · obtain rfl : p = t := by omega
      exact ⟨f, ht, h0⟩
end Go.Proofs.YtmpiaaangbjapaaDoor
