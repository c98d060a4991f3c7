/- The law's 'reads': the program's File and the reference's answer alike. -/
import Derived.Test.YtknpcbjjofdlmaaGreatDoorRqH
import Derived.Test.YtknpcbjjofdlmaaGreatDoorMrs
import Derived.Test.YtknpcbjjofdlmaaGreatDoorMbeg
namespace Go.Proofs.YtknpcbjjofdlmaaGreatDoor
open Go.RowKit Go.Shelf

/-- What 'File' answers, error or not: the rules, the code, the place. -/
def resS (L : List UInt8) : List RuleS × Int × Int := match fileS L with
  | .error x => ([], x.1, x.2)
  | .ok rs => (rs, 0, 0)
theorem file_res {L : List UInt8} {w w' : World} {e : Ending} (h : FileE L w w' e) : ∃ a n cp, e = .returned (.tuple #[.slice a n cp, .agg #[.int .i64 (resS L).2.1, .int .i64 (resS L).2.2]]) ∧ RulesA (fun b => b < w.heap.size) w' (.slice a n cp) (resS L).1 := by
  unfold FileE at h
  unfold resS
  cases hf : fileS L with
  | error x =>
    rw [hf] at h
    exact ⟨none, 0, 0, h, ⟨[], rowA_nil _ _ _, AllA.nil _⟩⟩
  | ok rs =>
    rw [hf] at h
    obtain ⟨v, he, hr⟩ := h
    obtain ⟨a, c, q, _, _⟩ := rulesA_len hr
    subst q
    exact ⟨a, rs.length, c, he, hr⟩

set_option maxHeartbeats 4000000 in
set_option maxRecDepth 100000 in
theorem reads_any (s : ByteArray) (w : World) (hs : s.size ≤ 1000000) (hG : GP w.heap.size w) :
    Calls Tryz.prog 11 #[.string s] w fun e w' => e = .returned (.bool true) ∧ Below w.heap.size w w' := by
  have c1 := file_any s w (by unfold maxLen; omega) hG
  have C2 := Lib.hid (fun w' => fileQ_any s w' (by omega))
  have EQ := eql_err
  obtain ⟨R, hR⟩ : ∃ R, resS s.data.toList = R := ⟨_, rfl⟩
  obtain ⟨rs, ec, ep⟩ := R
  have HR := Lib.hid hR
  clear hR hG
  go_enter Tryz.func11, Tryz.ntmps11
  go_wp2_with fail
  refine c1.mono ?_
  rintro e w1 ⟨he, hb1⟩
  obtain ⟨a1, n1, g1, rfl, hr1⟩ := file_res he
  rw [HR.out] at hr1 ⊢
  have HB1 := Lib.hid hb1
  have HR1 := Lib.hid hr1
  clear he hb1 hr1
  go_wp2_with fail
  refine (C2.out _).mono ?_
  rintro e w2 ⟨he, hb2⟩
  obtain ⟨a2, n2, g2, rfl, hr2⟩ := file_res he
  rw [HR.out] at hr2 ⊢
  have h1a := (Below.refl w1.heap.size w1).alloc (Nat.le_refl _) (.cells #[.int .i64 ec, .int .i64 ep] 34)
  have h2a := (Below.refl w2.heap.size w2).alloc (Nat.le_refl _) (.cells #[.int .i64 ec, .int .i64 ep] 34)
  have h12 : Below (w1.alloc (.cells #[.int .i64 ec, .int .i64 ep] 34)).heap.size (w1.alloc (.cells #[.int .i64 ec, .int .i64 ep] 34)) (w2.alloc (.cells #[.int .i64 ec, .int .i64 ep] 34)) := hb2.trans (h2a.mono hb2.size)
  have h1w : Below w1.heap.size w1 (w2.alloc (.cells #[.int .i64 ec, .int .i64 ep] 34)) := h1a.trans (h12.mono h1a.size)
  have hx := (h12.block w1.heap.size (by simp)).trans (alloc_at w1 (.cells #[.int .i64 ec, .int .i64 ep] 34))
  have hy := alloc_at w2 (.cells #[.int .i64 ec, .int .i64 ep] 34)
  have cE := eqR_same (.slice a1 n1 g1) (.slice a2 n2 g2) rs (fun _ => False) (w2.alloc (.cells #[.int .i64 ec, .int .i64 ep] 34)) ((RulesA.keep HR1.out (fr_below h1w)).mono fun _ _ e => e.elim) ((RulesA.keep hr2 (fr_below h2a)).mono fun _ _ e => e.elim)
  have hsz := h1w.size
  have hlt1 : w1.heap.size < (w2.alloc (.cells #[.int .i64 ec, .int .i64 ep] 34)).heap.size := by have := h12.size; simp at this ⊢; omega
  have HX := Lib.hid hx
  have HY := Lib.hid hy
  have HL1 := Lib.hid hlt1
  have HW := Lib.hid (HB1.out.trans (h1w.mono HB1.out.size))
  clear he hb2 hr2 h1a h2a h12 h1w hx hy hsz hlt1
  go_wp2_with fail
  refine cE.mono ?_
  rintro e w3 ⟨rfl, hb3⟩
  obtain ⟨x0, x1, _, _⟩ := cells2 ((hb3.block _ HL1.out).trans HX.out)
  obtain ⟨y0, y1, _, _⟩ := cells2 ((hb3.block w2.heap.size (by simp)).trans HY.out)
  have HE := Lib.hid (HW.out.trans (hb3.mono HW.out.size))
  clear hb3 cE
  go_wp2
  go_ret
  exact ⟨rfl, HE.out⟩
end Go.Proofs.YtknpcbjjofdlmaaGreatDoor
