/- Three trees side by side: the program's, the reference's, a clone; what each operation leaves of them. -/
import Derived.Test.YtjaojfaedikkeaaGreatDoorErase
import Derived.Test.YtjaojfaedikkeaaGreatDoorClone
import Derived.Test.YtjaojfaedikkeaaGreatDoorRefH
import Derived.Test.YtjaojfaedikkeaaGreatDoorRefL
namespace Go.Proofs.YtjaojfaedikkeaaGreatDoor
open Go.RowKit

theorem IsTree.low {w : World} {B B' b : Nat} {r : Option Nat} {fs : List F2} (h : IsTree w B b r fs) (hB : B' ≤ B) : IsTree w B' b r fs := by
  obtain ⟨h1, h2, h3, v, h4, h5⟩ := h
  refine ⟨Nat.le_trans hB h1, h2, h3, v, h4, ?_⟩
  rcases h5 with ⟨h5, h6⟩ | h5
  · exact .inl ⟨own_mono h5 hB, h6⟩
  · exact .inr h5
theorem IsRT.low {w : World} {B B' b : Nat} {r : Option Nat} {fs : List F2} (h : IsRT w B b r fs) (hB : B' ≤ B) : IsRT w B' b r fs := by
  obtain ⟨h1, h2, h3, v, h4, h5, h6⟩ := h
  exact ⟨Nat.le_trans hB h1, h2, h3, v, h4, own_mono h5 hB, h6⟩

/-- Two holders of a block and a row are apart. -/
def Sep (b1 : Nat) (r1 : Option Nat) (b2 : Nat) (r2 : Option Nat) : Prop :=
  b1 ≠ b2 ∧ r1 ≠ some b2 ∧ r2 ≠ some b1 ∧ ∀ k, r1 = some k → r2 ≠ some k
theorem Sep.symm {b1 b2 : Nat} {r1 r2 : Option Nat} (h : Sep b1 r1 b2 r2) : Sep b2 r2 b1 r1 := ⟨h.1.symm, h.2.2.1, h.2.1, fun k h2 h1 => h.2.2.2 k h1 h2⟩
/-- A new row parts no two. -/
theorem Sep.grow {b1 b2 n : Nat} {r1 r1' r2 : Option Nat} (h : Sep b1 r1 b2 r2) (hr : r1' = r1 ∨ r1' = none ∨ ∃ k, r1' = some k ∧ n ≤ k) (hb : b2 < n) (h2 : ∀ k, r2 = some k → k < n) : Sep b1 r1' b2 r2 := by
  rcases hr with rfl | rfl | ⟨k, rfl, hk⟩
  · exact h
  · exact ⟨h.1, by simp, h.2.2.1, by simp⟩
  · refine ⟨h.1, fun e => ?_, h.2.2.1, fun j hj e => ?_⟩
    · injection e with e; omega
    · injection hj with hj
      have := h2 j e
      omega

structure St (W0 w : World) (bt bw bc : Nat) (rt rw rc : Option Nat) (T U C : List F2) : Prop where
  t : IsTree w W0.heap.size bt rt T
  u : IsRT w W0.heap.size bw rw U
  c : IsTree w W0.heap.size bc rc C
  x : Below W0.heap.size W0 w
  tu : Sep bt rt bw rw
  tc : Sep bt rt bc rc
  uc : Sep bw rw bc rc

theorem St.below {W0 w w' : World} {bt bw bc : Nat} {rt rw rc : Option Nat} {T U C : List F2} (h : St W0 w bt bw bc rt rw rc T U C) (hb : Below w.heap.size w w') : St W0 w' bt bw bc rt rw rc T U C :=
  ⟨h.t.below hb, h.u.below hb, h.c.below hb, chain h.x hb, h.tu, h.tc, h.uc⟩

/-- What one holder's operation leaves, for a third one: a block of another thing is as it was. -/
def Far (w w' : World) (b : Nat) (r : Option Nat) : Prop := ∀ k, k < w.heap.size → k ≠ b → r ≠ some k → w'.heap[k]? = w.heap[k]?

def StPost (W0 w : World) (bt bw bc : Nat) (rt rw rc : Option Nat) (code : Int) (T U C : List F2) (left : Bool) (e : Ending) (w' : World) : Prop :=
  ∃ rt' rw', e = .returned (.int .i64 code) ∧ St W0 w' bt bw bc rt' rw' rc T U C ∧ w.heap.size ≤ w'.heap.size ∧ (if left then Far w w' bt rt ∧ rw' = rw else Far w w' bw rw ∧ rt' = rt)

theorem St.left {W0 w w' : World} {bt bw bc : Nat} {rt rw rc rt' : Option Nat} {T T' U C : List F2} (h : St W0 w bt bw bc rt rw rc T U C) (ht : IsTree w' W0.heap.size bt rt' T') (hf : Frame2 w w' bt rt) (hr : rt' = rt ∨ rt' = none ∨ ∃ k, rt' = some k ∧ w.heap.size ≤ k) : St W0 w' bt bw bc rt' rw rc T' U C := by
  have lu := h.u.rlt
  have lc := h.c.rlt
  have lt := h.t.rlt
  refine ⟨ht, rt_frame h.u hf h.tu.1.symm h.tu.2.1 (fun k hk e => h.tu.2.2.1 (by rw [hk, e])) (fun k hk e => h.tu.2.2.2 k e hk), tree_frame h.c hf h.tc.1.symm h.tc.2.1 (fun k hk e => h.tc.2.2.1 (by rw [hk, e])) (fun k hk e => h.tc.2.2.2 k e hk), ?_, h.tu.grow hr lu.2.2 (fun k hk => (lu.1 k hk).2), h.tc.grow hr lc.2.2 (fun k hk => (lc.1 k hk).2), h.uc⟩
  exact h.x.trans (hf.below h.x.size lt.2.1 (fun g hg => (lt.1 g hg).1))

theorem St.right {W0 w w' : World} {bt bw bc : Nat} {rt rw rc rw' : Option Nat} {T U U' C : List F2} (h : St W0 w bt bw bc rt rw rc T U C) (hu : IsRT w' W0.heap.size bw rw' U') (hf : Frame2 w w' bw rw) (hr : rw' = rw ∨ rw' = none ∨ ∃ k, rw' = some k ∧ w.heap.size ≤ k) : St W0 w' bt bw bc rt rw' rc T U' C := by
  have lu := h.u.rlt
  have lc := h.c.rlt
  have lt := h.t.rlt
  refine ⟨tree_frame h.t hf h.tu.1 h.tu.2.2.1 (fun k hk e => h.tu.2.1 (by rw [hk, e])) (fun k hk e => h.tu.2.2.2 k hk e), hu, tree_frame h.c hf h.uc.1.symm h.uc.2.1 (fun k hk e => h.uc.2.2.1 (by rw [hk, e])) (fun k hk e => h.uc.2.2.2 k e hk), ?_, (h.tu.symm.grow hr lt.2.2 (fun k hk => (lt.1 k hk).2)).symm, h.tc, h.uc.grow hr lc.2.2 (fun k hk => (lc.1 k hk).2)⟩
  exact h.x.trans (hf.below h.x.size lu.2.1 (fun g hg => (lu.1 g hg).1))

theorem three {r r' : Option Nat} {n : Nat} (h : r' = r ∨ ∃ k, r' = some k ∧ n ≤ k) : r' = r ∨ r' = none ∨ ∃ k, r' = some k ∧ n ≤ k := by
  rcases h with h | h
  · exact .inl h
  · exact .inr (.inr h)

theorem St.writeT {W0 w : World} {bt bw bc : Nat} {rt rw rc : Option Nat} {T U C : List F2} (h : St W0 w bt bw bc rt rw rc T U C) (x y : ByteArray) (hG : Glob w) (hx : x.size ≤ maxLen) (hy : y.size ≤ maxLen) :
    Calls Tryz.prog 9 #[.pointer (some ⟨bt, 0, none⟩), .string x, .string y] w (StPost W0 w bt bw bc rt rw rc (writeF T x y).1 (writeF T x y).2 U C true) :=
  (write_any _ bt rt T x y w h.t hG hx hy).mono fun _ _ ⟨r', he, ht, hf, hr⟩ => ⟨r', rw, he, h.left ht hf (three hr), hf.size, fun k h1 h2 h3 => hf.block k h1 h2 (fun e => h3 e.symm), rfl⟩
theorem St.writeU {W0 w : World} {bt bw bc : Nat} {rt rw rc : Option Nat} {T U C : List F2} (h : St W0 w bt bw bc rt rw rc T U C) (x y : ByteArray) (hx : x.size ≤ maxLen) (hy : y.size ≤ maxLen) :
    Calls Tryz.prog 6 #[.pointer (some ⟨bw, 0, none⟩), .string x, .string y] w (StPost W0 w bt bw bc rt rw rc (writeF U x y).1 T (writeF U x y).2 C false) :=
  (writeR_any _ bw rw U x y w h.u hx hy).mono fun _ _ ⟨r', he, hu, hf, hr⟩ => ⟨rt, r', he, h.right hu hf hr, hf.size, fun k h1 h2 h3 => hf.block k h1 h2 (fun e => h3 e.symm), rfl⟩
theorem St.eraseU {W0 w : World} {bt bw bc : Nat} {rt rw rc : Option Nat} {T U C : List F2} (h : St W0 w bt bw bc rt rw rc T U C) (x : ByteArray) :
    Calls Tryz.prog 11 #[.pointer (some ⟨bw, 0, none⟩), .string x] w (StPost W0 w bt bw bc rt rw rc (eraseF U x).1 T (eraseF U x).2 C false) :=
  (eraseR_any _ bw rw U x w h.u).mono fun _ _ ⟨r', he, hu, hf, hr⟩ => ⟨rt, r', he, h.right hu hf hr, hf.size, fun k h1 h2 h3 => hf.block k h1 h2 (fun e => h3 e.symm), rfl⟩
theorem St.eraseT {W0 w : World} {bt bw bc : Nat} {rt rw rc : Option Nat} {T U C : List F2} (h : St W0 w bt bw bc rt rw rc T U C) (x : ByteArray) :
    Calls Tryz.prog 10 #[.pointer (some ⟨bt, 0, none⟩), .string x] w (StPost W0 w bt bw bc rt rw rc (eraseF T x).1 (eraseF T x).2 U C true) :=
  (erase_any _ bt rt T x w h.t).mono fun _ _ ⟨r', he, ht, hf, hr⟩ => ⟨r', rw, he, h.left ht hf (three hr), hf.size, fun k h1 h2 h3 => hf.block k h1 h2 (fun e => h3 e.symm), rfl⟩
end Go.Proofs.YtjaojfaedikkeaaGreatDoor
