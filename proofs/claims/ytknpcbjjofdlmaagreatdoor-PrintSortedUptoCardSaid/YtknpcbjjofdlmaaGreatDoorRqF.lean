/- The reference's reader: a step (May and GetNumber of the reference handed in). -/
import Derived.Deep.RegionHeld3
import Derived.BigQuiet
import Derived.Test.YtknpcbjjofdlmaaGreatDoorMrp
import Derived.Test.YtknpcbjjofdlmaaGreatDoorMpri
import Derived.Test.YtknpcbjjofdlmaaGreatDoorMwalk
import Derived.Test.YtknpcbjjofdlmaaGreatDoorMrq
namespace Go.Proofs.YtknpcbjjofdlmaaGreatDoor
open Go.RowKit

theorem AfterQ.set {w w1 : World} {p : Nat} {v : Value} {ws : List WordT} {s0 s : PS} (h0 : QSt w p v ws s0) (h : AfterQ w w1 p v ws s) {a : Addr} (ha : w.heap.size ≤ a.block) (u : Value) : AfterQ w (w1.setCell a u) p v ws s := by
  refine ⟨h.1.fr (Av := fun b => b = a.block) (fr_set (a := a) (Av := fun b => b = a.block) rfl u) (fun e => ?_) (fun b hb e => ?_), ?_⟩
  · have := h0.p_lt; omega
  · have := (h0.row.2 b hb).1; omega
  · refine ⟨h.2.os, h.2.tape, h.2.output, by simp [World.setCell]; exact h.2.size, fun k hk hn => ?_⟩
    rw [Below.heap_setCell _ _ _ _ (by omega)]
    exact h.2.block k hk hn
theorem AfterQ.next {w w1 : World} {p : Nat} {v : Value} {ws : List WordT} {k k' : Nat} (h : AfterQ w w1 p v ws (k, false)) (hk : k' < ws.length) : AfterQ w (w1.setCell ⟨p, 1, none⟩ (.int .i64 (k' : Int))) p v ws (k', false) :=
  ⟨h.1.setNext hk _ rfl, h.2.trans (fr_set (a := ⟨p, 1, none⟩) (Av := fun b => b = p) rfl _)⟩

/-- A call that fills a record: the result's cell (untouched yet), the record, the reader. -/
structure SQ (T : TypeId) (z : Array Value) (w wr : World) (p : Nat) (v : Value) (ws : List WordT) (s : PS) (B : Nat) (cs : Array Value) : Prop where
  af : AfterQ w wr p v ws s
  r0 : wr.heap[w.heap.size]? = some (.cells z T)
  r1 : wr.heap[B]? = some (.cells cs T)
  lo : w.heap.size < B
  hi : B < wr.heap.size
section
variable {T : TypeId} {z cs : Array Value} {w wr w' : World} {p B : Nat} {v : Value} {ws : List WordT} {s0 s s' : PS}
theorem SQ.begin {w1 : World} (h : QSt w p v ws s0) (ha : AfterQ (w.alloc (.cells z T)) w1 p v ws s) (cs : Array Value) : SQ T z w (w1.alloc (.cells cs T)) p v ws s w1.heap.size cs := by
  have h1 := ha.2.size
  have hp := h.p_lt
  simp at h1
  refine ⟨(((AfterQ.refl h).alloc _).trans ha).alloc _, ?_, alloc_at w1 _, by omega, by simp⟩
  rw [Below.heap_alloc _ _ _ (by omega)]
  exact (ha.2.block _ (by simp) (by omega)).trans (alloc_at w _)
theorem SQ.step (h0 : QSt w p v ws s0) (h : SQ T z w wr p v ws s B cs) (ha : AfterQ wr w' p v ws s') : SQ T z w w' p v ws s' B cs := by
  have hp := h0.p_lt
  have hl := h.lo
  have hb := h.hi
  exact ⟨h.af.trans ha, (ha.2.block _ (by omega) (by omega)).trans h.r0, (ha.2.block _ (by omega) (by omega)).trans h.r1, hl, Nat.lt_of_lt_of_le hb ha.2.size⟩
theorem SQ.below (h0 : QSt w p v ws s0) (h : SQ T z w wr p v ws s B cs) (hb : Below wr.heap.size wr w') : SQ T z w w' p v ws s B cs := h.step h0 (AfterQ.of_below h.af.1 hb)
theorem SQ.set (h0 : QSt w p v ws s0) (h : SQ T z w wr p v ws s B cs) (i : Nat) (u : Value) : SQ T z w (wr.setCell ⟨B, i, none⟩ u) p v ws s B (cs.setIfInBounds i u) := by
  have hl := h.lo
  refine ⟨h.af.set h0 (Nat.le_of_lt hl) u, ?_, heap_set i u h.r1, hl, by simp [World.setCell]; exact h.hi⟩
  rw [Below.heap_setCell _ _ _ _ (by simp; omega)]
  exact h.r0
theorem SQ.next {k k' : Nat} (h0 : QSt w p v ws s0) (h : SQ T z w wr p v ws (k, false) B cs) (hk : k' < ws.length) : SQ T z w (wr.setCell ⟨p, 1, none⟩ (.int .i64 (k' : Int))) p v ws (k', false) B cs :=
  h.step h0 ((AfterQ.refl h.af.1).next hk)
theorem SQ.grown {r : Option Nat} (h0 : QSt w p v ws s0) (h : SQ T z w wr p v ws s B cs) (hg : wr.grownBy w' r) (hr : ∀ k, r = some k → B < k) : SQ T z w w' p v ws s B cs := by
  have hl := h.lo
  have hb := h.hi
  exact ⟨h.af.grown h0 hg (fun k e => by have := hr k e; omega), (hg.block _ (by omega) (fun e => by have := hr _ e.symm; omega)).trans h.r0, (hg.block _ hb (fun e => by have := hr _ e.symm; omega)).trans h.r1, hl, Nat.lt_of_lt_of_le hb hg.size⟩
theorem SQ.fr (h0 : QSt w p v ws s0) (h : SQ T z w wr p v ws s B cs) (ha : AfterQ wr w' p v ws s') : Fr (fun x => x ≤ B) wr w' := ha.2.mono fun k _ e => by have := h0.p_lt; have := h.lo; omega
end
theorem strsB_old {w wr : World} {B : Nat} {va : Value} {xs : List ByteArray} (h : StrsA (fun x => x ≤ B) wr va xs) (hB : w.heap.size ≤ B) : StrsA (fun b => b < w.heap.size) wr va xs := RowA.mono h fun b _ hb => by omega
theorem strsB_new {wr : World} {B B' : Nat} {va : Value} {xs : List ByteArray} (h : StrsA (fun b => b < B') wr va xs) (hB : B < B') : StrsA (fun x => x ≤ B) wr va xs := RowA.mono h fun b _ hb => by omega
/-- A store into the result's cell. -/
theorem fr_out {w wr : World} {B : Nat} (hB : w.heap.size ≤ B) (u0 u1 u2 u3 u4 : Value) : Fr (fun x => x ≤ B) wr (((((wr.setCell ⟨w.heap.size, 0, none⟩ u0).setCell ⟨w.heap.size, 1, none⟩ u1).setCell ⟨w.heap.size, 2, none⟩ u2).setCell ⟨w.heap.size, 3, none⟩ u3).setCell ⟨w.heap.size, 4, none⟩ u4) :=
  ((((fr_set (by exact hB) _).trans (fr_set (by exact hB) _)).trans (fr_set (by exact hB) _)).trans (fr_set (by exact hB) _)).trans (fr_set (by exact hB) _)

/-- What the reference's reader asks of the calls below it. -/
structure QC (p : Nat) (v : Value) (ws : List WordT) : Prop where
  name : ∀ s w', QSt w' p v ws s → Calls Tryz.prog 106 #[.pointer (some ⟨p, 0, none⟩)] w' fun e w'' => e = .returned (.string (nameP ws s).1) ∧ AfterQ w' w'' p v ws (nameP ws s).2
  text : ∀ s w', QSt w' p v ws s → Calls Tryz.prog 143 #[.pointer (some ⟨p, 0, none⟩)] w' fun e w'' => e = .returned (.string (textP ws s).1) ∧ AfterQ w' w'' p v ws (textP ws s).2
  ok : ∀ s w', QSt w' p v ws s → Calls Tryz.prog 59 #[.pointer (some ⟨p, 0, none⟩)] w' fun e w'' => e = .returned (.bool (!s.2)) ∧ w' = w''
  want : ∀ key s w', QSt w' p v ws s → Calls Tryz.prog 105 #[.pointer (some ⟨p, 0, none⟩), .int .i64 3, .string key] w' fun e w'' => e = .returned (.tuple #[]) ∧ AfterQ w' w'' p v ws (markP ws key s)
  fail : ∀ s w', QSt w' p v ws s → Calls Tryz.prog 141 #[.pointer (some ⟨p, 0, none⟩)] w' fun e w'' => e = .returned (.tuple #[]) ∧ AfterQ w' w'' p v ws (s.1, true)
  number : ∀ k w', k < ws.length → Calls Tryz.prog 144 #[.string (wTx ws k), .int .i64 2000] w' fun e w'' => e = .returned (.tuple #[.int .i64 (getNum (wTx ws k).data.toList 2000).1, .bool (getNum (wTx ws k).data.toList 2000).2]) ∧ Below w'.heap.size w' w''
/-- Whether the reader has failed, read off memory. -/
def failQ (w : World) (p : Nat) : Nat := match w.cell? ⟨p, 2, none⟩ with
  | some (.int _ n) => if n < 0 then 1 else 0
  | _ => 1
theorem QSt.left {w : World} {p : Nat} {v : Value} {ws : List WordT} {s : PS} (h : QSt w p v ws s) : 2 * (ws.length - posPs w p) + failQ w p = leftP ws s := by
  rw [h.pos]
  unfold failQ leftP
  rw [h.cells.2.2.1]
  unfold badOf
  cases s.2
  · rfl
  · simp only [if_true]
    rw [if_neg (by omega)]
theorem opNum_le (t : List UInt8) : opNum t ≤ 9 := by
  unfold opNum opTab
  simp only [opGo]
  repeat' split
  all_goals omega

set_option maxHeartbeats 8000000 in
set_option maxRecDepth 100000 in
theorem q_step_any (p : Nat) (v : Value) (ws : List WordT) (s : PS) (w : World) (h : QSt w p v ws s) (hc : QC p v ws) (hfew : ws.length ≤ 2097152) :
    Calls Tryz.prog 109 #[.pointer (some ⟨p, 0, none⟩)] w fun e w' => StepE w w' (stepR ws s).1 e ∧ AfterQ w w' p v ws (stepR ws s).2 := by
  have H := Lib.hid h
  have HC := Lib.hid hc
  have hpl := h.p_lt
  obtain ⟨bw, ow, cw, rfl, hl, hm, _, _, _, _, _⟩ := h.slice
  obtain ⟨R, hR⟩ : ∃ R, stepR ws s = R := ⟨_, rfl⟩
  rw [hR]
  obtain ⟨x1, hx1⟩ : ∃ x, nameP ws s = x := ⟨_, rfl⟩
  obtain ⟨nm, s1⟩ := x1
  obtain ⟨s2, hs2⟩ : ∃ x, markP ws cEq s1 = x := ⟨_, rfl⟩
  have c1 := HC.out.name s _ (h.alloc (.cells #[.string ⟨#[]⟩, .int .i64 0, .slice none 0 0, .slice none 0 0, .int .i64 0] 56))
  rw [hx1] at c1
  unfold stepR at hR
  simp only [hx1, hs2] at hR
  have HR := Lib.hid hR
  have HS2 := Lib.hid hs2
  clear hR hs2 hx1 h hc
  go_enter Tryz.func109, Tryz.ntmps109
  go_wp2_with fail
  refine c1.mono ?_
  rintro e w1 ⟨rfl, ha1⟩
  have h2 := SQ.begin H.out ha1 #[.string nm, .int .i64 0, .slice none 0 0, .slice none 0 0, .int .i64 0]
  have H2 := Lib.hid h2
  have c2 := HC.out.want cEq _ _ h2.af.1
  rw [HS2.out] at c2
  clear ha1 h2 c1
  go_wp2_with fail
  refine c2.mono ?_
  rintro e w2 ⟨rfl, ha2⟩
  have h3 := H2.out.step H.out ha2
  have H3 := Lib.hid h3
  have c3 := HC.out.ok _ _ h3.af.1
  clear ha2 h3 c2
  go_wp2_with fail
  refine c3.mono ?_
  rintro e w3 ⟨rfl, rfl⟩
  obtain ⟨k2, f2⟩ := s2
  clear c3
  cases f2
  case true =>
    have hres := HR.out
    rw [if_pos rfl] at hres
    have HRES := Lib.hid hres.symm
    clear hres
    try clear d0 d1 d2 d3 d4 g0 g1 g2 g3 g4
    obtain ⟨d0, d1, d2, d3, d4, g0, g1, g2, g3, g4⟩ := cells5 H3.out.r1
    obtain ⟨e0, e1, e2, e3, e4, i0, i1, i2, i3, i4⟩ := cells5 H3.out.r0
    go_wp2
    refine bodyPost_ret (results_c rfl _ _ w.heap.size _ _ _ _ rfl (heap_set _ _ (heap_set _ _ (heap_set _ _ (heap_set _ _ (heap_set _ _ H3.out.r0))))) Tryz.underlying56 rfl (by kernel_rfl)) rfl ?_
    rw [HRES.out]
    exact ⟨⟨_, _, rfl, strsB_old (RowA.keep (strsA_nil _ _) (fr_out (Nat.le_of_lt H3.out.lo) _ _ _ _ _)) (Nat.le_of_lt H3.out.lo), strsB_old (RowA.keep (strsA_nil _ _) (fr_out (Nat.le_of_lt H3.out.lo) _ _ _ _ _)) (Nat.le_of_lt H3.out.lo)⟩, ((((H3.out.af.set H.out (Nat.le_refl _) _).set H.out (Nat.le_refl _) _).set H.out (Nat.le_refl _) _).set H.out (Nat.le_refl _) _).set H.out (Nat.le_refl _) _⟩
  case false =>
    obtain ⟨c0, c1, c2, f0, f1, f2⟩ := H3.out.af.1.cells
    obtain ⟨b', o', c', q', hl', hm', hb', hbp', d0, d1, d2⟩ := H3.out.af.1.slice
    cases q'
    have hlt := H3.out.af.1.lt
    have hends := H3.out.af.1.ends
    simp only at c1 c2 d0 d1 d2 hlt
    have hi1 : (k2 : Int) < (ws.length : Int) := by omega
    have HEN := Lib.hid (fun hi : (wAt ws k2).1 = 1 => hends k2 hlt (by rw [hi]; decide))
    have hbz := (Below.refl w2.heap.size w2).alloc (Nat.le_refl _) (.cells #[.int .i64 0, .int .i64 0, .string ⟨#[]⟩] 50)
    have a0 := (hbz.cell (p := ⟨p, 0, none⟩) H3.out.af.1.p_lt).trans c0
    have a1 := (hbz.cell (p := ⟨p, 1, none⟩) H3.out.af.1.p_lt).trans c1
    have a2 := (hbz.cell (p := ⟨bw, ow + k2 * 3, none⟩) hb').trans d0
    have a3 := (hbz.cell (p := ⟨bw, ow + k2 * 3 + 1, none⟩) hb').trans d1
    have a4 := (hbz.cell (p := ⟨bw, ow + k2 * 3 + 2, none⟩) hb').trans d2
    obtain ⟨x, hx⟩ : ∃ x, (wAt ws k2).1 = x := ⟨_, rfl⟩
    obtain ⟨W1, hW1⟩ : ∃ W1, (w2.alloc (.cells #[.int .i64 x, .int .i64 ((wAt ws k2).2.1 : Int), .string (wTx ws k2)] 50)).drew = W1 := ⟨_, rfl⟩
    have hxW : Below w2.heap.size w2 W1 := by rw [← hW1]; exact word_copy w2 _ _ _
    have hbk : W1.heap[w2.heap.size]? = some (.cells #[.int .i64 x, .int .i64 ((wAt ws k2).2.1 : Int), .string (wTx ws k2)] 50) := by rw [← hW1]; exact alloc_at w2 _
    rw [hx] at d0 a2
    obtain ⟨t0, t1, t2, _⟩ := cells3 hbk
    have HEE := Lib.hid (And.intro t0 t2)
    rw [← hW1] at t0 t2
    have HW1 := Lib.hid hW1
    have H4 := Lib.hid (H3.out.below H.out hxW)
    have HBK := Lib.hid hbk
    have hsz1 := hxW.size
    have hres := HR.out
    simp only [Bool.false_eq_true, if_false] at hres
    rw [hx] at hres
    rw [hx] at HEN
    have HRE := Lib.hid hres
    have HX := Lib.hid hx
    have HLT := Lib.hid hlt
    have HHW : Hid (w2.heap.size < W1.heap.size) := by show _ < _; rw [← hW1]; show _ < (w2.alloc _).heap.size; simp
    clear hbz hres hx hxW hbk t1 c2 hW1 hends
    by_cases hk : x = 1
    · subst hk
      obtain ⟨o, ho⟩ : ∃ o, opNum (wTx ws k2).data.toList = o := ⟨_, rfl⟩
      have cP := fun w' => q_op_any (wTx ws k2) w'
      rw [ho] at cP
      have ho9 : o ≤ 9 := by rw [← ho]; exact opNum_le _
      have hres := HRE.out
      rw [ho] at hres
      have HRE2 := Lib.hid hres
      have CP := Lib.hid cP
      clear hres cP ho HRE
      go_wp2_with fail
      go_region
      clear a0 a1 a2 a3 a4 c0 c1 d0 d1 d2
      go_wp2_with fail
      rw [HW1.out]
      refine (CP.out _).mono ?_
      rintro e w3 ⟨rfl, hb3⟩
      have H5 := Lib.hid (H4.out.below H.out hb3)
      have hbk3 := (hb3.block _ HHW.out).trans HBK.out
      have HBK3 := Lib.hid hbk3
      clear hb3 hbk3 t0 t2
      by_cases ho0 : o = 0
      · subst ho0
        have hres := HRE2.out
        simp only [ne_eq, not_true_eq_false, decide_false, Bool.and_false, Bool.false_eq_true, if_false] at hres
        have HRES := Lib.hid hres.symm
        have cF := HC.out.fail _ _ H5.out.af.1
        clear hres
        go_wp2_with fail
        refine cF.mono ?_
        rintro e w4 ⟨rfl, ha4⟩
        have H6 := Lib.hid (H5.out.step H.out ha4)
        clear ha4 cF
        try clear d0 d1 d2 d3 d4 g0 g1 g2 g3 g4
        obtain ⟨d0, d1, d2, d3, d4, g0, g1, g2, g3, g4⟩ := cells5 H6.out.r1
        obtain ⟨e0, e1, e2, e3, e4, i0, i1, i2, i3, i4⟩ := cells5 H6.out.r0
        go_wp2
        refine bodyPost_ret (results_c rfl _ _ w.heap.size _ _ _ _ rfl (heap_set _ _ (heap_set _ _ (heap_set _ _ (heap_set _ _ (heap_set _ _ H6.out.r0))))) Tryz.underlying56 rfl (by kernel_rfl)) rfl ?_
        rw [HRES.out]
        exact ⟨⟨_, _, rfl, strsB_old (RowA.keep (strsA_nil _ _) (fr_out (Nat.le_of_lt H6.out.lo) _ _ _ _ _)) (Nat.le_of_lt H6.out.lo), strsB_old (RowA.keep (strsA_nil _ _) (fr_out (Nat.le_of_lt H6.out.lo) _ _ _ _ _)) (Nat.le_of_lt H6.out.lo)⟩, ((((H6.out.af.set H.out (Nat.le_refl _) _).set H.out (Nat.le_refl _) _).set H.out (Nat.le_refl _) _).set H.out (Nat.le_refl _) _).set H.out (Nat.le_refl _) _⟩
      · have hoi : ¬ ((o : Int) = 0) := by omega
        have hres := HRE2.out
        rw [if_pos (by simp [ho0])] at hres
        have HRES := Lib.hid hres.symm
        have hk3 := HEN.out (by first | rfl | trivial)
        have hn : IntKind.i64.wrap ((k2 : Int) + 1) = ((k2 + 1 : Nat) : Int) := by
          rw [show ((k2 : Int) + 1) = ((k2 + 1 : Nat) : Int) by omega]
          exact IntWalk.i64_in _ (by omega)
        obtain ⟨c0, c1, c2, f0, f1, f2⟩ := H5.out.af.1.cells
        simp only at c1 c2
        have h6 := H5.out.next H.out hk3
        have hbk6 : (w3.setCell ⟨p, 1, none⟩ (.int .i64 ((k2 : Int) + 1))).heap[w2.heap.size]? = some (.cells #[.int .i64 1, .int .i64 ((wAt ws k2).2.1 : Int), .string (wTx ws k2)] 50) := by
          rw [Below.heap_setCell _ _ _ _ (by show w2.heap.size ≠ p; have := H3.out.af.1.p_lt; omega)]
          exact HBK3.out
        obtain ⟨t0, t1, t2, _⟩ := cells3 hbk6
        have H6 := Lib.hid h6
        clear hres h6 hbk6 t0 t1 c2 HRE2
        go_wp2_with fail
        refine (CP.out _).mono ?_
        rintro e w4 ⟨rfl, hb4⟩
        have h7 := H6.out.below H.out hb4
        obtain ⟨d0, d1, d2, d3, d4, g0, g1, g2, g3, g4⟩ := cells5 h7.r1
        have h8 : SQ 56 #[.string ⟨#[]⟩, .int .i64 0, .slice none 0 0, .slice none 0 0, .int .i64 0] w _ p _ ws (k2 + 1, false) w1.heap.size #[.string nm, .int .i64 (o : Int), .slice none 0 0, .slice none 0 0, .int .i64 0] := h7.set H.out 1 (.int .i64 (o : Int))
        have H8 := Lib.hid h8
        clear hb4 h7 c0 c1 f0 f1 f2 t2 h8 ho0
        obtain ⟨k, hkk⟩ : ∃ k, k2 + 1 = k := ⟨_, rfl⟩
        rw [hkk] at H8 HRES
        clear hn hi1 hlt hk3
        by_cases h6 : o = 6
        · skip
          subst h6
          have htl : tailR ws ((6 : Nat) : Int) (k, false) = (([], [(textP ws (k, false)).1], 0), (textP ws (k, false)).2) := by simp [tailR]
          have HTL0 := Lib.hid htl
          clear htl
          have q1 := HC.out.text _ _ H8.out.af.1
          have hq1 := HTL0.out
          obtain ⟨y, hy⟩ : ∃ y, textP ws (k, false) = y := ⟨_, rfl⟩
          simp only [hy] at q1 hq1
          obtain ⟨t1, z1⟩ := y
          simp only at q1 hq1
          clear HTL0 hy
          have HTL0 := Lib.hid hq1
          clear hq1
          go_wp2_with fail
          refine q1.mono ?_
          rintro e v1 ⟨rfl, ha1⟩
          have M1 := Lib.hid (H8.out.step H.out ha1)
          clear ha1 q1
          have al := M1.out.below H.out ((Below.refl v1.heap.size v1).alloc (Nat.le_refl _) (.cells #[.string t1] 9))
          have sl := strsB_new (strsA_lit (t := 9) v1 #[.string t1] 1 [t1] rfl rfl (by unfold maxLen; omega)) M1.out.hi
          have SL3 := Lib.hid (RowA.keep sl (fr_set (a := ⟨w1.heap.size, 3, none⟩) (Av := fun x => x ≤ w1.heap.size) (Nat.le_refl _) (.slice (some ⟨v1.heap.size, 0, none⟩) 1 1)))
          try clear d0 d1 d2 d3 d4 g0 g1 g2 g3 g4
          obtain ⟨d0, d1, d2, d3, d4, g0, g1, g2, g3, g4⟩ := cells5 al.r1
          have M2 : Hid (SQ 56 #[.string ⟨#[]⟩, .int .i64 0, .slice none 0 0, .slice none 0 0, .int .i64 0] w _ p _ ws z1 w1.heap.size #[.string nm, .int .i64 6, .slice none 0 0, .slice (some ⟨v1.heap.size, 0, none⟩) 1 1, .int .i64 0]) := Lib.hid (al.set H.out 3 (.slice (some ⟨v1.heap.size, 0, none⟩) 1 1))
          clear al sl
          have cE := HC.out.want cSemi _ _ M2.out.af.1
          go_wp2_with fail
          refine cE.mono ?_
          rintro e wE ⟨rfl, haE⟩
          have HE := Lib.hid (M2.out.step H.out haE)
          have HKE := Lib.hid (M2.out.fr H.out haE)
          clear haE cE
          try clear d0 d1 d2 d3 d4 g0 g1 g2 g3 g4
          obtain ⟨d0, d1, d2, d3, d4, g0, g1, g2, g3, g4⟩ := cells5 HE.out.r1
          obtain ⟨e0, e1, e2, e3, e4, i0, i1, i2, i3, i4⟩ := cells5 HE.out.r0
          go_wp2
          refine bodyPost_ret (results_c rfl _ _ w.heap.size _ _ _ _ rfl (heap_set _ _ (heap_set _ _ (heap_set _ _ (heap_set _ _ (heap_set _ _ HE.out.r0))))) Tryz.underlying56 rfl (by kernel_rfl)) rfl ?_
          rw [HRES.out, HTL0.out]
          exact ⟨⟨_, _, rfl, strsB_old (RowA.keep (strsA_nil _ _) (fr_out (Nat.le_of_lt HE.out.lo) _ _ _ _ _)) (Nat.le_of_lt HE.out.lo), strsB_old (RowA.keep (RowA.keep SL3.out HKE.out) (fr_out (Nat.le_of_lt HE.out.lo) _ _ _ _ _)) (Nat.le_of_lt HE.out.lo)⟩, ((((HE.out.af.set H.out (Nat.le_refl _) _).set H.out (Nat.le_refl _) _).set H.out (Nat.le_refl _) _).set H.out (Nat.le_refl _) _).set H.out (Nat.le_refl _) _⟩
        by_cases h7 : o = 7
        · skip
          subst h7
          have htl : tailR ws ((7 : Nat) : Int) (k, false) = (([(nameP ws (textP ws (k, false)).2).1], [(textP ws (k, false)).1], 0), (nameP ws (textP ws (k, false)).2).2) := by simp [tailR]
          have HTL0 := Lib.hid htl
          clear htl
          have q1 := HC.out.text _ _ H8.out.af.1
          have hq1 := HTL0.out
          obtain ⟨y, hy⟩ : ∃ y, textP ws (k, false) = y := ⟨_, rfl⟩
          simp only [hy] at q1 hq1
          obtain ⟨t1, z1⟩ := y
          simp only at q1 hq1
          clear HTL0 hy
          have HTL0 := Lib.hid hq1
          clear hq1
          go_wp2_with fail
          refine q1.mono ?_
          rintro e v1 ⟨rfl, ha1⟩
          have M1 := Lib.hid (H8.out.step H.out ha1)
          clear ha1 q1
          have al := M1.out.below H.out ((Below.refl v1.heap.size v1).alloc (Nat.le_refl _) (.cells #[.string t1] 9))
          have sl := strsB_new (strsA_lit (t := 9) v1 #[.string t1] 1 [t1] rfl rfl (by unfold maxLen; omega)) M1.out.hi
          have SL3 := Lib.hid (RowA.keep sl (fr_set (a := ⟨w1.heap.size, 3, none⟩) (Av := fun x => x ≤ w1.heap.size) (Nat.le_refl _) (.slice (some ⟨v1.heap.size, 0, none⟩) 1 1)))
          try clear d0 d1 d2 d3 d4 g0 g1 g2 g3 g4
          obtain ⟨d0, d1, d2, d3, d4, g0, g1, g2, g3, g4⟩ := cells5 al.r1
          have M2 : Hid (SQ 56 #[.string ⟨#[]⟩, .int .i64 0, .slice none 0 0, .slice none 0 0, .int .i64 0] w _ p _ ws z1 w1.heap.size #[.string nm, .int .i64 7, .slice none 0 0, .slice (some ⟨v1.heap.size, 0, none⟩) 1 1, .int .i64 0]) := Lib.hid (al.set H.out 3 (.slice (some ⟨v1.heap.size, 0, none⟩) 1 1))
          clear al sl
          have q3 := HC.out.name _ _ M2.out.af.1
          have hq3 := HTL0.out
          obtain ⟨y, hy⟩ : ∃ y, nameP ws z1 = y := ⟨_, rfl⟩
          simp only [hy] at q3 hq3
          obtain ⟨t3, z3⟩ := y
          simp only at q3 hq3
          clear HTL0 hy
          have HTL0 := Lib.hid hq3
          clear hq3
          go_wp2_with fail
          refine q3.mono ?_
          rintro e v3 ⟨rfl, ha3⟩
          have M3 := Lib.hid (M2.out.step H.out ha3)
          have SL3n3 := Lib.hid (RowA.keep SL3.out (M2.out.fr H.out ha3))
          clear ha3 q3
          have al := M3.out.below H.out ((Below.refl v3.heap.size v3).alloc (Nat.le_refl _) (.cells #[.string t3] 9))
          have sl := strsB_new (strsA_lit (t := 9) v3 #[.string t3] 1 [t3] rfl rfl (by unfold maxLen; omega)) M3.out.hi
          have SL2 := Lib.hid (RowA.keep sl (fr_set (a := ⟨w1.heap.size, 2, none⟩) (Av := fun x => x ≤ w1.heap.size) (Nat.le_refl _) (.slice (some ⟨v3.heap.size, 0, none⟩) 1 1)))
          have SL3n3m := Lib.hid (RowA.keep (RowA.keep SL3n3.out (fr_alloc _ _ (.cells #[.string t3] 9))) (fr_set (a := ⟨w1.heap.size, 2, none⟩) (Av := fun x => x ≤ w1.heap.size) (Nat.le_refl _) (.slice (some ⟨v3.heap.size, 0, none⟩) 1 1)))
          try clear d0 d1 d2 d3 d4 g0 g1 g2 g3 g4
          obtain ⟨d0, d1, d2, d3, d4, g0, g1, g2, g3, g4⟩ := cells5 al.r1
          have M4 : Hid (SQ 56 #[.string ⟨#[]⟩, .int .i64 0, .slice none 0 0, .slice none 0 0, .int .i64 0] w _ p _ ws z3 w1.heap.size #[.string nm, .int .i64 7, .slice (some ⟨v3.heap.size, 0, none⟩) 1 1, .slice (some ⟨v1.heap.size, 0, none⟩) 1 1, .int .i64 0]) := Lib.hid (al.set H.out 2 (.slice (some ⟨v3.heap.size, 0, none⟩) 1 1))
          clear al sl
          have cE := HC.out.want cSemi _ _ M4.out.af.1
          go_wp2_with fail
          refine cE.mono ?_
          rintro e wE ⟨rfl, haE⟩
          have HE := Lib.hid (M4.out.step H.out haE)
          have HKE := Lib.hid (M4.out.fr H.out haE)
          clear haE cE
          try clear d0 d1 d2 d3 d4 g0 g1 g2 g3 g4
          obtain ⟨d0, d1, d2, d3, d4, g0, g1, g2, g3, g4⟩ := cells5 HE.out.r1
          obtain ⟨e0, e1, e2, e3, e4, i0, i1, i2, i3, i4⟩ := cells5 HE.out.r0
          go_wp2
          refine bodyPost_ret (results_c rfl _ _ w.heap.size _ _ _ _ rfl (heap_set _ _ (heap_set _ _ (heap_set _ _ (heap_set _ _ (heap_set _ _ HE.out.r0))))) Tryz.underlying56 rfl (by kernel_rfl)) rfl ?_
          rw [HRES.out, HTL0.out]
          exact ⟨⟨_, _, rfl, strsB_old (RowA.keep (RowA.keep SL2.out HKE.out) (fr_out (Nat.le_of_lt HE.out.lo) _ _ _ _ _)) (Nat.le_of_lt HE.out.lo), strsB_old (RowA.keep (RowA.keep SL3n3m.out HKE.out) (fr_out (Nat.le_of_lt HE.out.lo) _ _ _ _ _)) (Nat.le_of_lt HE.out.lo)⟩, ((((HE.out.af.set H.out (Nat.le_refl _) _).set H.out (Nat.le_refl _) _).set H.out (Nat.le_refl _) _).set H.out (Nat.le_refl _) _).set H.out (Nat.le_refl _) _⟩
        by_cases h8 : o = 8
        · skip
          subst h8
          have htl : tailR ws ((8 : Nat) : Int) (k, false) = (([(nameP ws (textP ws (textP ws (k, false)).2).2).1], [(textP ws (k, false)).1, (textP ws (textP ws (k, false)).2).1], 0), (nameP ws (textP ws (textP ws (k, false)).2).2).2) := by simp [tailR]
          have HTL0 := Lib.hid htl
          clear htl
          have q1 := HC.out.text _ _ H8.out.af.1
          have hq1 := HTL0.out
          obtain ⟨y, hy⟩ : ∃ y, textP ws (k, false) = y := ⟨_, rfl⟩
          simp only [hy] at q1 hq1
          obtain ⟨t1, z1⟩ := y
          simp only at q1 hq1
          clear HTL0 hy
          have HTL0 := Lib.hid hq1
          clear hq1
          go_wp2_with fail
          refine q1.mono ?_
          rintro e v1 ⟨rfl, ha1⟩
          have M1 := Lib.hid (H8.out.step H.out ha1)
          clear ha1 q1
          have q2 := HC.out.text _ _ M1.out.af.1
          have hq2 := HTL0.out
          obtain ⟨y, hy⟩ : ∃ y, textP ws z1 = y := ⟨_, rfl⟩
          simp only [hy] at q2 hq2
          obtain ⟨t2, z2⟩ := y
          simp only at q2 hq2
          clear HTL0 hy
          have HTL0 := Lib.hid hq2
          clear hq2
          go_wp2_with fail
          refine q2.mono ?_
          rintro e v2 ⟨rfl, ha2⟩
          have M2 := Lib.hid (M1.out.step H.out ha2)
          clear ha2 q2
          have al := M2.out.below H.out ((Below.refl v2.heap.size v2).alloc (Nat.le_refl _) (.cells #[.string t1, .string t2] 9))
          have sl := strsB_new (strsA_lit (t := 9) v2 #[.string t1, .string t2] 2 [t1, t2] rfl rfl (by unfold maxLen; omega)) M2.out.hi
          have SL3 := Lib.hid (RowA.keep sl (fr_set (a := ⟨w1.heap.size, 3, none⟩) (Av := fun x => x ≤ w1.heap.size) (Nat.le_refl _) (.slice (some ⟨v2.heap.size, 0, none⟩) 2 2)))
          try clear d0 d1 d2 d3 d4 g0 g1 g2 g3 g4
          obtain ⟨d0, d1, d2, d3, d4, g0, g1, g2, g3, g4⟩ := cells5 al.r1
          have M3 : Hid (SQ 56 #[.string ⟨#[]⟩, .int .i64 0, .slice none 0 0, .slice none 0 0, .int .i64 0] w _ p _ ws z2 w1.heap.size #[.string nm, .int .i64 8, .slice none 0 0, .slice (some ⟨v2.heap.size, 0, none⟩) 2 2, .int .i64 0]) := Lib.hid (al.set H.out 3 (.slice (some ⟨v2.heap.size, 0, none⟩) 2 2))
          clear al sl
          have q4 := HC.out.name _ _ M3.out.af.1
          have hq4 := HTL0.out
          obtain ⟨y, hy⟩ : ∃ y, nameP ws z2 = y := ⟨_, rfl⟩
          simp only [hy] at q4 hq4
          obtain ⟨t4, z4⟩ := y
          simp only at q4 hq4
          clear HTL0 hy
          have HTL0 := Lib.hid hq4
          clear hq4
          go_wp2_with fail
          refine q4.mono ?_
          rintro e v4 ⟨rfl, ha4⟩
          have M4 := Lib.hid (M3.out.step H.out ha4)
          have SL3n4 := Lib.hid (RowA.keep SL3.out (M3.out.fr H.out ha4))
          clear ha4 q4
          have al := M4.out.below H.out ((Below.refl v4.heap.size v4).alloc (Nat.le_refl _) (.cells #[.string t4] 9))
          have sl := strsB_new (strsA_lit (t := 9) v4 #[.string t4] 1 [t4] rfl rfl (by unfold maxLen; omega)) M4.out.hi
          have SL2 := Lib.hid (RowA.keep sl (fr_set (a := ⟨w1.heap.size, 2, none⟩) (Av := fun x => x ≤ w1.heap.size) (Nat.le_refl _) (.slice (some ⟨v4.heap.size, 0, none⟩) 1 1)))
          have SL3n4m := Lib.hid (RowA.keep (RowA.keep SL3n4.out (fr_alloc _ _ (.cells #[.string t4] 9))) (fr_set (a := ⟨w1.heap.size, 2, none⟩) (Av := fun x => x ≤ w1.heap.size) (Nat.le_refl _) (.slice (some ⟨v4.heap.size, 0, none⟩) 1 1)))
          try clear d0 d1 d2 d3 d4 g0 g1 g2 g3 g4
          obtain ⟨d0, d1, d2, d3, d4, g0, g1, g2, g3, g4⟩ := cells5 al.r1
          have M5 : Hid (SQ 56 #[.string ⟨#[]⟩, .int .i64 0, .slice none 0 0, .slice none 0 0, .int .i64 0] w _ p _ ws z4 w1.heap.size #[.string nm, .int .i64 8, .slice (some ⟨v4.heap.size, 0, none⟩) 1 1, .slice (some ⟨v2.heap.size, 0, none⟩) 2 2, .int .i64 0]) := Lib.hid (al.set H.out 2 (.slice (some ⟨v4.heap.size, 0, none⟩) 1 1))
          clear al sl
          have cE := HC.out.want cSemi _ _ M5.out.af.1
          go_wp2_with fail
          refine cE.mono ?_
          rintro e wE ⟨rfl, haE⟩
          have HE := Lib.hid (M5.out.step H.out haE)
          have HKE := Lib.hid (M5.out.fr H.out haE)
          clear haE cE
          try clear d0 d1 d2 d3 d4 g0 g1 g2 g3 g4
          obtain ⟨d0, d1, d2, d3, d4, g0, g1, g2, g3, g4⟩ := cells5 HE.out.r1
          obtain ⟨e0, e1, e2, e3, e4, i0, i1, i2, i3, i4⟩ := cells5 HE.out.r0
          go_wp2
          refine bodyPost_ret (results_c rfl _ _ w.heap.size _ _ _ _ rfl (heap_set _ _ (heap_set _ _ (heap_set _ _ (heap_set _ _ (heap_set _ _ HE.out.r0))))) Tryz.underlying56 rfl (by kernel_rfl)) rfl ?_
          rw [HRES.out, HTL0.out]
          exact ⟨⟨_, _, rfl, strsB_old (RowA.keep (RowA.keep SL2.out HKE.out) (fr_out (Nat.le_of_lt HE.out.lo) _ _ _ _ _)) (Nat.le_of_lt HE.out.lo), strsB_old (RowA.keep (RowA.keep SL3n4m.out HKE.out) (fr_out (Nat.le_of_lt HE.out.lo) _ _ _ _ _)) (Nat.le_of_lt HE.out.lo)⟩, ((((HE.out.af.set H.out (Nat.le_refl _) _).set H.out (Nat.le_refl _) _).set H.out (Nat.le_refl _) _).set H.out (Nat.le_refl _) _).set H.out (Nat.le_refl _) _⟩
        by_cases h9 : o = 9
        · skip
          subst h9
          obtain ⟨gn, hgn⟩ : ∃ gn, getNum (wTx ws k).data.toList 2000 = gn := ⟨_, rfl⟩
          have hklt := H8.out.af.1.lt
          have hends := H8.out.af.1.ends
          simp only at hklt
          have cG := HC.out.number k
          rw [hgn] at cG
          obtain ⟨WZ, hWZ⟩ : ∃ WZ, w4.setCell ⟨w1.heap.size, 1, none⟩ (.int .i64 9) = WZ := ⟨_, rfl⟩
          have h8 : SQ 56 #[.string ⟨#[]⟩, .int .i64 0, .slice none 0 0, .slice none 0 0, .int .i64 0] w (w4.setCell ⟨w1.heap.size, 1, none⟩ (.int .i64 9)) p _ ws (k, false) w1.heap.size #[.string nm, .int .i64 9, .slice none 0 0, .slice none 0 0, .int .i64 0] := H8.out
          rw [hWZ] at h8
          have hq := h8.af.1
          obtain ⟨c0, c1, c2, f0, f1, f2⟩ := hq.cells
          obtain ⟨b', o', c', q', hl', hm', hb', hbp', e0, e1, e2⟩ := hq.slice
          cases q'
          have hp0 : ∀ w', Below WZ.heap.size WZ w' → w'.cell? ⟨p, 0, none⟩ = some (.slice (some ⟨bw, ow, none⟩) ws.length cw) := fun w' hb => (hb.cell (p := ⟨p, 0, none⟩) hq.p_lt).trans c0
          have hp1 : ∀ w', Below WZ.heap.size WZ w' → w'.cell? ⟨p, 1, none⟩ = some (.int .i64 (k : Int)) := fun w' hb => (hb.cell (p := ⟨p, 1, none⟩) hq.p_lt).trans c1
          have hp2 : ∀ w', Below WZ.heap.size WZ w' → w'.cell? ⟨bw, ow + k * 3 + 2, none⟩ = some (.string (wTx ws k)) := fun w' hb => (hb.cell (p := ⟨bw, ow + k * 3 + 2, none⟩) hb').trans e2
          have HSD : Hid (Below WZ.heap.size WZ WZ.drew) := by show Below _ _ _; exact (Below.refl _ _).drew
          have hi1 : (k : Int) < (ws.length : Int) := by omega
          have hi0 : (0 : Int) ≤ (k : Int) := by omega
          obtain ⟨x, hx⟩ : ∃ x, (wAt ws k).1 = x := ⟨_, rfl⟩
          obtain ⟨gv, gb⟩ := gn
          have htl : tailR ws ((9 : Nat) : Int) (k, false) = (if gb && x == 1 then (([(nameP ws (k + 1, false)).1], [], gv), (nameP ws (k + 1, false)).2) else (([], [], 0), (k, true))) := by
            unfold tailR numP
            simp only [hgn, hx]
            rfl
          have hkn : x = 1 → k + 1 < ws.length := fun e => hends k hklt (by rw [hx, e]; decide)
          have HTL1 := Lib.hid htl
          have HKN := Lib.hid hkn
          have HX9 := Lib.hid hx
          have HG := Lib.hid cG
          have HKL := Lib.hid hklt
          have HZ := Lib.hid hWZ
          have H8Z := Lib.hid h8
          clear htl hkn hends hx cG hgn h8 hq c0 c1 c2 f0 f1 f2 e0 e1 e2 hklt hWZ
          go_wp2_with fail
          rw [HZ.out]
          go_region_held3 (fun w' => Below WZ.heap.size WZ w') (first | assumption | exact HSD.out)
            (first
              | (go_at_call 144; refine (HG.out _ HKL.out).mono ?_; rintro e w5 ⟨rfl, hb5⟩; have hSn := (show Below WZ.heap.size WZ _ by assumption).trans (hb5.mono (show Below WZ.heap.size WZ _ by assumption).size))
              | fail)
          clear hp0 hp1 hp2 d0 d1 d2 d3 d4 g0 g1 g2 g3 g4
          have h9 := H8Z.out.below H.out hSn
          have H9 := Lib.hid h9
          clear hSn hb5
          obtain ⟨c0, c1, c2, f0, f1, f2⟩ := h9.af.1.cells
          obtain ⟨b', o', c', q', hl', hm', hb', hbp', e0, e1, e2⟩ := h9.af.1.slice
          cases q'
          rw [HX9.out] at e0
          simp only at c1
          have HQD : Hid (∀ n, SQ 56 #[.string ⟨#[]⟩, .int .i64 0, .slice none 0 0, .slice none 0 0, .int .i64 0] w (w5.drewN n) p (.slice (some ⟨bw, ow, none⟩) ws.length cw) ws (k, false) w1.heap.size #[.string nm, .int .i64 9, .slice none 0 0, .slice none 0 0, .int .i64 0]) := by show ∀ n, _; exact fun n => H9.out.below H.out (below_drewN (Below.refl _ _) n)
          clear h9
          by_cases hk9 : x = 1 ∧ gb = true
          · obtain ⟨rfl, rfl⟩ := hk9
            have htl := HTL1.out
            simp only [beq_self_eq_true, Bool.and_self, if_true] at htl
            have HTL0 := Lib.hid htl
            have hk3 := HKN.out (by first | rfl | trivial)
            have hn : IntKind.i64.wrap ((k : Int) + 1) = ((k + 1 : Nat) : Int) := by
              rw [show ((k : Int) + 1) = ((k + 1 : Nat) : Int) by omega]
              exact IntWalk.i64_in _ (by omega)
            clear htl HTL1 c2
            go_wp2_with fail
            go_big_quiet (fail)
            have h10 := HQD.out nq
            obtain ⟨W5, hW5⟩ : ∃ W5, w5.drewN nq = W5 := ⟨_, rfl⟩
            rw [hW5] at h10 ⊢
            clear c0 c1 f0 f1 f2 e0 e1 e2 hW5
            obtain ⟨d0, d1, d2, d3, d4, g0, g1, g2, g3, g4⟩ := cells5 h10.r1
            have h11 := h10.set H.out 4 (.int .i64 gv)
            obtain ⟨c0, c1, c2, f0, f1, f2⟩ := h11.af.1.cells
            simp only at c1
            have h12 : SQ 56 #[.string ⟨#[]⟩, .int .i64 0, .slice none 0 0, .slice none 0 0, .int .i64 0] w ((W5.setCell ⟨w1.heap.size, 4, none⟩ (.int .i64 gv)).setCell ⟨p, 1, none⟩ (.int .i64 ((k + 1 : Nat) : Int))) p (.slice (some ⟨bw, ow, none⟩) ws.length cw) ws (k + 1, false) w1.heap.size #[.string nm, .int .i64 9, .slice none 0 0, .slice none 0 0, .int .i64 gv] := h11.next H.out hk3
            have H12 := Lib.hid h12
            obtain ⟨l0, l1, l2, l3, l4, _⟩ := cells5 (show ((W5.setCell ⟨w1.heap.size, 4, none⟩ (.int .i64 gv)).setCell ⟨p, 1, none⟩ (.int .i64 ((k : Int) + 1))).heap[w1.heap.size]? = _ from h12.r1)
            clear h10 h11 h12 c2
            have q1 := HC.out.name _ _ H12.out.af.1
            have hq1 := HTL0.out
            obtain ⟨y, hy⟩ : ∃ y, nameP ws (k + 1, false) = y := ⟨_, rfl⟩
            simp only [hy] at q1 hq1
            obtain ⟨t1, z1⟩ := y
            simp only at q1 hq1
            clear HTL0 hy
            have HTL0 := Lib.hid hq1
            clear hq1
            go_wp2_with fail
            refine q1.mono ?_
            rintro e v1 ⟨rfl, ha1⟩
            have M1 := Lib.hid (H12.out.step H.out ha1)
            clear ha1 q1
            have al := M1.out.below H.out ((Below.refl v1.heap.size v1).alloc (Nat.le_refl _) (.cells #[.string t1] 9))
            have sl := strsB_new (strsA_lit (t := 9) v1 #[.string t1] 1 [t1] rfl rfl (by unfold maxLen; omega)) M1.out.hi
            have SL2 := Lib.hid (RowA.keep sl (fr_set (a := ⟨w1.heap.size, 2, none⟩) (Av := fun x => x ≤ w1.heap.size) (Nat.le_refl _) (.slice (some ⟨v1.heap.size, 0, none⟩) 1 1)))
            try clear d0 d1 d2 d3 d4 g0 g1 g2 g3 g4
            obtain ⟨d0, d1, d2, d3, d4, g0, g1, g2, g3, g4⟩ := cells5 al.r1
            have M2 : Hid (SQ 56 #[.string ⟨#[]⟩, .int .i64 0, .slice none 0 0, .slice none 0 0, .int .i64 0] w _ p _ ws z1 w1.heap.size #[.string nm, .int .i64 9, .slice (some ⟨v1.heap.size, 0, none⟩) 1 1, .slice none 0 0, .int .i64 gv]) := Lib.hid (al.set H.out 2 (.slice (some ⟨v1.heap.size, 0, none⟩) 1 1))
            clear al sl
            have cE := HC.out.want cSemi _ _ M2.out.af.1
            go_wp2_with fail
            refine cE.mono ?_
            rintro e wE ⟨rfl, haE⟩
            have HE := Lib.hid (M2.out.step H.out haE)
            have HKE := Lib.hid (M2.out.fr H.out haE)
            clear haE cE
            try clear d0 d1 d2 d3 d4 g0 g1 g2 g3 g4
            obtain ⟨d0, d1, d2, d3, d4, g0, g1, g2, g3, g4⟩ := cells5 HE.out.r1
            obtain ⟨e0, e1, e2, e3, e4, i0, i1, i2, i3, i4⟩ := cells5 HE.out.r0
            go_wp2
            refine bodyPost_ret (results_c rfl _ _ w.heap.size _ _ _ _ rfl (heap_set _ _ (heap_set _ _ (heap_set _ _ (heap_set _ _ (heap_set _ _ HE.out.r0))))) Tryz.underlying56 rfl (by kernel_rfl)) rfl ?_
            rw [HRES.out, HTL0.out]
            exact ⟨⟨_, _, rfl, strsB_old (RowA.keep (RowA.keep SL2.out HKE.out) (fr_out (Nat.le_of_lt HE.out.lo) _ _ _ _ _)) (Nat.le_of_lt HE.out.lo), strsB_old (RowA.keep (strsA_nil _ _) (fr_out (Nat.le_of_lt HE.out.lo) _ _ _ _ _)) (Nat.le_of_lt HE.out.lo)⟩, ((((HE.out.af.set H.out (Nat.le_refl _) _).set H.out (Nat.le_refl _) _).set H.out (Nat.le_refl _) _).set H.out (Nat.le_refl _) _).set H.out (Nat.le_refl _) _⟩
          · have hbad : (gb && x == 1) = false := by cases gb <;> simp at hk9 ⊢ <;> exact hk9
            have htl := HTL1.out
            rw [hbad] at htl
            simp only [Bool.false_eq_true, if_false] at htl
            have hr9 : R = (⟨nm, ((9 : Nat) : Int), [], [], 0⟩, (k, true)) := by rw [HRES.out, htl]; exact congrArg (Prod.mk _) (mark_failed rfl)
            have HR9 := Lib.hid hr9
            clear htl HTL1 c2 hbad hr9
            have cF : Hid (∀ n, Calls Tryz.prog 141 #[.pointer (some ⟨p, 0, none⟩)] (w5.drewN n) fun e w'' => e = .returned (.tuple #[]) ∧ AfterQ (w5.drewN n) w'' p (.slice (some ⟨bw, ow, none⟩) ws.length cw) ws (k, true)) := by show ∀ n, _; exact fun n => HC.out.fail _ _ (HQD.out n).af.1
            by_cases hx1 : x = 1
            · have hgb : gb = false := by cases gb <;> simp [hx1] at hk9 ⊢
              subst hx1 hgb
              go_wp2_with fail
              go_big_quiet (fail)
              clear c0 c1 f0 f1 f2 e0 e1 e2
              go_wp2_with fail
              refine (cF.out _).mono ?_
              rintro e w6 ⟨rfl, ha6⟩
              have H10 := Lib.hid ((HQD.out _).step H.out ha6)
              clear ha6
              try clear d0 d1 d2 d3 d4 g0 g1 g2 g3 g4
              obtain ⟨d0, d1, d2, d3, d4, g0, g1, g2, g3, g4⟩ := cells5 H10.out.r1
              obtain ⟨e0, e1, e2, e3, e4, i0, i1, i2, i3, i4⟩ := cells5 H10.out.r0
              go_wp2
              refine bodyPost_ret (results_c rfl _ _ w.heap.size _ _ _ _ rfl (heap_set _ _ (heap_set _ _ (heap_set _ _ (heap_set _ _ (heap_set _ _ H10.out.r0))))) Tryz.underlying56 rfl (by kernel_rfl)) rfl ?_
              rw [HR9.out]
              exact ⟨⟨_, _, rfl, strsB_old (RowA.keep (strsA_nil _ _) (fr_out (Nat.le_of_lt H10.out.lo) _ _ _ _ _)) (Nat.le_of_lt H10.out.lo), strsB_old (RowA.keep (strsA_nil _ _) (fr_out (Nat.le_of_lt H10.out.lo) _ _ _ _ _)) (Nat.le_of_lt H10.out.lo)⟩, ((((H10.out.af.set H.out (Nat.le_refl _) _).set H.out (Nat.le_refl _) _).set H.out (Nat.le_refl _) _).set H.out (Nat.le_refl _) _).set H.out (Nat.le_refl _) _⟩
            · have hx2 : (x != 1) = true := by simpa using hx1
              go_wp2_with fail
              go_big_quiet (fail)
              clear c0 c1 f0 f1 f2 e0 e1 e2
              go_wp2_with fail
              refine (cF.out _).mono ?_
              rintro e w6 ⟨rfl, ha6⟩
              have H10 := Lib.hid ((HQD.out _).step H.out ha6)
              clear ha6
              try clear d0 d1 d2 d3 d4 g0 g1 g2 g3 g4
              obtain ⟨d0, d1, d2, d3, d4, g0, g1, g2, g3, g4⟩ := cells5 H10.out.r1
              obtain ⟨e0, e1, e2, e3, e4, i0, i1, i2, i3, i4⟩ := cells5 H10.out.r0
              go_wp2
              refine bodyPost_ret (results_c rfl _ _ w.heap.size _ _ _ _ rfl (heap_set _ _ (heap_set _ _ (heap_set _ _ (heap_set _ _ (heap_set _ _ H10.out.r0))))) Tryz.underlying56 rfl (by kernel_rfl)) rfl ?_
              rw [HR9.out]
              exact ⟨⟨_, _, rfl, strsB_old (RowA.keep (strsA_nil _ _) (fr_out (Nat.le_of_lt H10.out.lo) _ _ _ _ _)) (Nat.le_of_lt H10.out.lo), strsB_old (RowA.keep (strsA_nil _ _) (fr_out (Nat.le_of_lt H10.out.lo) _ _ _ _ _)) (Nat.le_of_lt H10.out.lo)⟩, ((((H10.out.af.set H.out (Nat.le_refl _) _).set H.out (Nat.le_refl _) _).set H.out (Nat.le_refl _) _).set H.out (Nat.le_refl _) _).set H.out (Nat.le_refl _) _⟩
        by_cases h5 : o = 5
        · skip
          subst h5
          obtain ⟨RR, hRR⟩ : ∃ RR, namesR ws (ws.length + 1) [] (k, false) = RR := ⟨_, rfl⟩
          have htl : tailR ws ((5 : Nat) : Int) (k, false) = ((RR.1, [], 0), RR.2) := by rw [← hRR]; simp [tailR]
          obtain ⟨i0, hi, hz0, hz1, hz2⟩ := info_of info_str
          have HTL0 := Lib.hid htl
          have HRR := Lib.hid hRR
          have h8 : SQ 56 #[.string ⟨#[]⟩, .int .i64 0, .slice none 0 0, .slice none 0 0, .int .i64 0] w (w4.setCell ⟨w1.heap.size, 1, none⟩ (.int .i64 5)) p (.slice (some ⟨bw, ow, none⟩) ws.length cw) ws (k, false) w1.heap.size #[.string nm, .int .i64 5, .slice none 0 0, .slice none 0 0, .int .i64 0] := H8.out
          have H8Z := Lib.hid h8
          clear htl hRR h8
          go_wp2
          clear d0 d1 d2 d3 d4 g0 g1 g2 g3 g4
          go_loopw [] (fun wr => ∃ (f : Nat) (acc : List ByteArray) (s' : PS) (va : Value), (s'.2 = true ∨ ws.length - s'.1 < f) ∧ namesR ws f acc s' = RR ∧ acc.length ≤ s'.1 + (if s'.2 then 1 else 0) ∧ SQ 56 #[.string ⟨#[]⟩, .int .i64 0, .slice none 0 0, .slice none 0 0, .int .i64 0] w wr p (.slice (some ⟨bw, ow, none⟩) ws.length cw) ws s' w1.heap.size #[.string nm, .int .i64 5, va, .slice none 0 0, .int .i64 0] ∧ wr.ownsRow (w1.heap.size + 1) 9 1 va acc.length (acc.map Value.string))
            (fun wr => 2 * (ws.length - posPs wr p) + failQ wr p)
          case atStart => exact ⟨ws.length + 1, [], (k, false), .slice none 0 0, .inr (by show ws.length - k < _; omega), HRR.out, by simp, H8Z.out, ⟨rfl, .inl ⟨rfl, rfl⟩⟩⟩
          case round =>
            obtain ⟨f, acc, s', va, hf, hj, hal, hsq, hown⟩ := hrel
            obtain ⟨aa, ca, rfl, _, _, _⟩ := own_shape hown
            have hlt := hsq.af.1.lt
            have hends := hsq.af.1.ends
            obtain ⟨c0, c1, c2, f0, f1, f2⟩ := hsq.af.1.cells
            obtain ⟨b', o', c', q', hl', hm', hb', hbp', e0, e1, e2⟩ := hsq.af.1.slice
            cases q'
            have HLEFT := Lib.hid hsq.af.1.left
            have HSQ := Lib.hid hsq
            have HOWN := Lib.hid hown
            have HJ := Lib.hid hj
            have HD : Hid (∀ n, SQ 56 #[.string ⟨#[]⟩, .int .i64 0, .slice none 0 0, .slice none 0 0, .int .i64 0] w (wr.drewN n) p (.slice (some ⟨bw, ow, none⟩) ws.length cw) ws s' w1.heap.size #[.string nm, .int .i64 5, .slice aa acc.length ca, .slice none 0 0, .int .i64 0]) := by show ∀ n, _; exact fun n => hsq.below H.out (below_drewN (Below.refl _ _) n)
            have HSA : Hid (∀ n, StrsA (fun x => x ≤ w1.heap.size) (wr.drewN n) (.slice aa acc.length ca) acc) := by
              show ∀ n, _
              intro n
              have h1 : StrsA (fun x => x ≤ w1.heap.size) wr (.slice aa acc.length ca) acc := RowA.mono (strsA_own hown) fun b _ hb => by omega
              exact RowA.keep h1 (fr_below (below_drewN (Below.refl _ _) n))
            obtain ⟨kk, fl⟩ := s'
            have cO : Hid (∀ n, Calls Tryz.prog 59 #[.pointer (some ⟨p, 0, none⟩)] (wr.drewN n) fun e w' => e = .returned (.bool (!fl)) ∧ w' = wr.drewN n) := by
              show ∀ n, _
              exact fun n => (HC.out.ok _ _ (HD.out n).af.1).mono fun _ _ h => ⟨h.1, h.2.symm⟩
            have cE : Hid (∀ n, Calls Tryz.prog 105 #[.pointer (some ⟨p, 0, none⟩), .int .i64 3, .string cSemi] (wr.drewN n) fun e w'' => e = .returned (.tuple #[]) ∧ AfterQ (wr.drewN n) w'' p (.slice (some ⟨bw, ow, none⟩) ws.length cw) ws (markP ws cSemi (kk, fl))) := by show ∀ n, _; exact fun n => HC.out.want _ _ _ (HD.out n).af.1
            simp only at c1 e0 e1 e2 hlt
            have hi1 : (kk : Int) < (ws.length : Int) := by omega
            have hi0 : (0 : Int) ≤ (kk : Int) := by omega
            clear hsq hj c2
            cases fl
            case true =>
              replace cO : Hid (∀ n, Calls Tryz.prog 59 #[.pointer (some ⟨p, 0, none⟩)] (wr.drewN n) fun e w' => e = .returned (.bool false) ∧ w' = wr.drewN n) := cO
              have hstop := HJ.out
              rw [namesR_failed ws f acc rfl] at hstop
              have HSTOP := Lib.hid hstop
              clear hstop hown hal hf HLEFT HJ
              go_wp2_with fail
              go_quiet ((go_at_call 59; refine Calls.quiet_of_same (cO.out _)))
              clear c0 c1 f0 f1 f2 e0 e1 e2
              go_wp2_with fail
              refine (cE.out _).mono ?_
              rintro e wE ⟨rfl, haE⟩
              have HE := Lib.hid ((HD.out _).step H.out haE)
              have HKE := Lib.hid ((HD.out _).fr H.out haE)
              clear haE
              try clear d0 d1 d2 d3 d4 g0 g1 g2 g3 g4
              obtain ⟨d0, d1, d2, d3, d4, g0, g1, g2, g3, g4⟩ := cells5 HE.out.r1
              obtain ⟨e0, e1, e2, e3, e4, i0, i1, i2, i3, i4⟩ := cells5 HE.out.r0
              go_wp2
              refine bodyPost_ret (results_c rfl _ _ w.heap.size _ _ _ _ rfl (heap_set _ _ (heap_set _ _ (heap_set _ _ (heap_set _ _ (heap_set _ _ HE.out.r0))))) Tryz.underlying56 rfl (by kernel_rfl)) rfl ?_
              rw [HRES.out, HTL0.out, ← HSTOP.out]
              exact ⟨⟨_, _, rfl, strsB_old (RowA.keep (RowA.keep (HSA.out _) HKE.out) (fr_out (Nat.le_of_lt HE.out.lo) _ _ _ _ _)) (Nat.le_of_lt HE.out.lo), strsB_old (RowA.keep (strsA_nil _ _) (fr_out (Nat.le_of_lt HE.out.lo) _ _ _ _ _)) (Nat.le_of_lt HE.out.lo)⟩, ((((HE.out.af.set H.out (Nat.le_refl _) _).set H.out (Nat.le_refl _) _).set H.out (Nat.le_refl _) _).set H.out (Nat.le_refl _) _).set H.out (Nat.le_refl _) _⟩
            case false =>
              replace cO : Hid (∀ n, Calls Tryz.prog 59 #[.pointer (some ⟨p, 0, none⟩)] (wr.drewN n) fun e w' => e = .returned (.bool true) ∧ w' = wr.drewN n) := cO
              have hf2 : ws.length - kk < f := by rcases hf with h | h
                                                  · cases h
                                                  · exact h
              obtain ⟨f, rfl⟩ : ∃ g, f = g + 1 := ⟨f - 1, by omega⟩
              obtain ⟨x, hx⟩ : ∃ x, (wAt ws kk).1 = x := ⟨_, rfl⟩
              rw [hx] at e0
              by_cases hx1 : x = 1
              · subst hx1
                have hres := HJ.out
                have hstep : namesR ws (f + 1) acc (kk, false) = namesR ws f (acc ++ [(nameP ws (kk, false)).1]) (nameP ws (kk, false)).2 := by simp [namesR, hx]
                rw [hstep] at hres
                have hge := name_ge ws (kk, false)
                have hcnt : (nameP ws (kk, false)).2.1 = kk + 1 ∧ (nameP ws (kk, false)).2.2 = false ∨ (nameP ws (kk, false)).2 = (kk, true) := by
                  unfold nameP
                  by_cases hn : isNameP ws (kk, false) = true
                  · rw [take_yes rfl hn]; exact .inl ⟨rfl, rfl⟩
                  · rw [take_no (.inr (by simpa using hn))]; exact .inr rfl
                have cN := fun w' (hw : QSt w' p (.slice (some ⟨bw, ow, none⟩) ws.length cw) ws (kk, false)) => HC.out.name (kk, false) w' hw
                obtain ⟨yy, hyy⟩ : ∃ y, nameP ws (kk, false) = y := ⟨_, rfl⟩
                rw [hyy] at hres hcnt hge
                simp only [hyy] at cN
                obtain ⟨y, s6⟩ := yy
                simp only at hres hcnt hge cN
                have HRES6 := Lib.hid hres
                have HCNT := Lib.hid hcnt
                have CNN := Lib.hid cN
                have hlow : acc.length ≤ kk := by simpa using hal
                have HLOW := Lib.hid hlow
                have HF2 := Lib.hid hf2
                have HKL := Lib.hid hlt
                clear hres hstep hcnt cN hyy hge hown hal hf hx hends
                go_wp2_with fail
                go_quiet ((go_at_call 59; refine Calls.quiet_of_same (cO.out _)))
                clear c0 c1 f0 f1 f2 e0 e1 e2
                have h9 := (HD.out nq)
                have hb9 : Below wr.heap.size wr (wr.drewN nq) := below_drewN (Below.refl _ _) nq
                have ho9 := World.ownsRow.kept (row := none) HOWN.out ⟨hb9.os, hb9.tape, hb9.output, hb9.size, fun k hk _ => hb9.block k hk⟩ (by cases Value.ownBlock _ <;> simp)
                obtain ⟨WR, hWR⟩ : ∃ WR, wr.drewN nq = WR := ⟨_, rfl⟩
                rw [hWR] at h9 ho9 ⊢
                clear hb9 hWR
                obtain ⟨d0, d1, d2, d3, d4, g0, g1, g2, g3, g4⟩ := cells5 h9.r1
                have H9 := Lib.hid (h9.below H.out (Below.refl _ _).drew)
                have HO9 := Lib.hid ho9.drew
                have CNM := Lib.hid (CNN.out _ H9.out.af.1)
                have HPB := Lib.hid (show p < w1.heap.size + 1 by have := H9.out.lo; omega)
                have HB1 := Lib.hid (show acc.length + 1 ≤ maxLen by have := HLOW.out; have := HKL.out; unfold maxLen; omega)
                have HB2 := Lib.hid (show (acc.length + 1) * 16 ≤ 140737488355328 by have := HLOW.out; have := HKL.out; omega)
                clear h9 ho9
                go_wp2_with fail
                go_region_law (first
                  | (go_simp; go_at_call 106; refine CNM.out.mono ?_; rintro e w6 ⟨rfl, ha6⟩; have H6 := Lib.hid (H9.out.step H.out ha6); have HO6 := Lib.hid (own_fr HO9.out ha6.2 HPB.out); obtain ⟨m0, m1, m2, m3, m4, o0, o1, o2, o3, o4⟩ := cells5 H6.out.r1; obtain ⟨z0, z1, z2, z3, z4, _⟩ := cells5 (H6.out.below H.out ((Below.refl _ _).alloc (Nat.le_refl _) (.cells #[.string y] 9))).r1; clear ha6)
                  | (refine step_append_own (by rfl) _ _ _ (by rfl) (w1.heap.size + 1) 9 i0 (.string ByteArray.empty) 1 16 Tryz.underlying39 hi hz0 hz1 hz2 rfl (by decide) (.slice aa acc.length ca) acc.length (acc.map Value.string) (by rfl) (HO6.out.alloc _) ⟨w6.heap.size, 0, none⟩ 1 1 [.string y] (by rfl) rfl (World.news_of_block (cs := #[.string y]) (t := 9) (fr := (0, 0)) (heap_alloc_new w6 _)) (by simp [Value.oneCell']) HB1.out HB2.out (by have := H6.out.hi; simp; omega) ?_; intro v' w7 hA0 hgA; obtain ⟨aB, cB, rfl, _⟩ := own_shape hA0; have H7 := Lib.hid ((H6.out.below H.out ((Below.refl _ _).alloc (Nat.le_refl _) (.cells #[.string y] 9))).grown H.out hgA (fun g hg => (World.ownsRow.lt HO6.out g hg).1)); obtain ⟨n0, n1, n2, n3, n4, q0, q1, q2, q3, q4⟩ := cells5 H7.out.r1; have HA := Lib.hid hA0; clear hA0 hgA))
                all_goals
                  have HF8 := Lib.hid (H7.out.set H.out 2 (.slice aB (acc.length + 1) cB))
                  have HO8 : Hid ((w7.setCell ⟨w1.heap.size, 2, none⟩ (.slice aB (acc.length + 1) cB)).ownsRow (w1.heap.size + 1) 9 1 (.slice aB (acc.length + 1) cB) (acc ++ [y]).length ((acc ++ [y]).map Value.string)) := by
                    show World.ownsRow _ _ _ _ _ _ _
                    have h1 := ownsRow_setCell_below (a := ⟨w1.heap.size, 2, none⟩) HA.out (Nat.lt_succ_self _) (.slice aB (acc.length + 1) cB)
                    rw [List.length_append, List.map_append]
                    exact h1
                  clear d0 d1 d2 d3 d4 g0 g1 g2 g3 g4 m0 m1 m2 m3 m4 o0 o1 o2 o3 o4 n0 n1 n2 n3 n4 q0 q1 q2 q3 q4 z0 z1 z2 z3 z4
                  go_wp2
                  go_roundw
                  case rel =>
                    refine ⟨f, acc ++ [y], s6, .slice aB (acc.length + 1) cB, ?_, HRES6.out, ?_, HF8.out, HO8.out⟩
                    · rcases HCNT.out with h | h
                      · exact .inr (by have := HF2.out; rw [h.1]; omega)
                      · exact .inl (by rw [h])
                    · have := HLOW.out
                      rw [List.length_append]
                      rcases HCNT.out with h | h
                      · rw [h.1]; simp only [List.length_cons, List.length_nil]; omega
                      · rw [h]; simp only [List.length_cons, List.length_nil, if_true]; omega
                  case measure =>
                    have := HKL.out
                    rw [HF8.out.af.1.left, HLEFT.out]
                    unfold leftP
                    rcases HCNT.out with h | h
                    · rw [h.1, h.2]; simp only [Bool.false_eq_true, if_false]; omega
                    · rw [h]; simp
              · have hxb : (x == 1) = false := by simpa using hx1
                have hstop := HJ.out
                rw [show namesR ws (f + 1) acc (kk, false) = (acc, (kk, false)) by simp [namesR, hx, hx1]] at hstop
                clear hx
                have HSTOP := Lib.hid hstop
                clear hstop hown hal hf HLEFT HJ
                go_wp2_with fail
                go_quiet ((go_at_call 59; refine Calls.quiet_of_same (cO.out _)))
                clear c0 c1 f0 f1 f2 e0 e1 e2
                go_wp2_with fail
                refine (cE.out _).mono ?_
                rintro e wE ⟨rfl, haE⟩
                have HE := Lib.hid ((HD.out _).step H.out haE)
                have HKE := Lib.hid ((HD.out _).fr H.out haE)
                clear haE
                try clear d0 d1 d2 d3 d4 g0 g1 g2 g3 g4
                obtain ⟨d0, d1, d2, d3, d4, g0, g1, g2, g3, g4⟩ := cells5 HE.out.r1
                obtain ⟨e0, e1, e2, e3, e4, i0, i1, i2, i3, i4⟩ := cells5 HE.out.r0
                go_wp2
                refine bodyPost_ret (results_c rfl _ _ w.heap.size _ _ _ _ rfl (heap_set _ _ (heap_set _ _ (heap_set _ _ (heap_set _ _ (heap_set _ _ HE.out.r0))))) Tryz.underlying56 rfl (by kernel_rfl)) rfl ?_
                rw [HRES.out, HTL0.out, ← HSTOP.out]
                exact ⟨⟨_, _, rfl, strsB_old (RowA.keep (RowA.keep (HSA.out _) HKE.out) (fr_out (Nat.le_of_lt HE.out.lo) _ _ _ _ _)) (Nat.le_of_lt HE.out.lo), strsB_old (RowA.keep (strsA_nil _ _) (fr_out (Nat.le_of_lt HE.out.lo) _ _ _ _ _)) (Nat.le_of_lt HE.out.lo)⟩, ((((HE.out.af.set H.out (Nat.le_refl _) _).set H.out (Nat.le_refl _) _).set H.out (Nat.le_refl _) _).set H.out (Nat.le_refl _) _).set H.out (Nat.le_refl _) _⟩
        · skip
          have j5 : ¬ ((o : Int) = 5) := by omega
          have j6 : ¬ ((o : Int) = 6) := by omega
          have j7 : ¬ ((o : Int) = 7) := by omega
          have j8 : ¬ ((o : Int) = 8) := by omega
          have j9 : ¬ ((o : Int) = 9) := by omega
          have htl : tailR ws (o : Int) (k, false) = (([(nameP ws (k, false)).1], [], 0), (nameP ws (k, false)).2) := by unfold tailR; rw [if_neg j5, if_neg j6, if_neg j7, if_neg j8, if_neg j9]
          have HTL0 := Lib.hid htl
          clear htl
          have q1 := HC.out.name _ _ H8.out.af.1
          have hq1 := HTL0.out
          obtain ⟨y, hy⟩ : ∃ y, nameP ws (k, false) = y := ⟨_, rfl⟩
          simp only [hy] at q1 hq1
          obtain ⟨t1, z1⟩ := y
          simp only at q1 hq1
          clear HTL0 hy
          have HTL0 := Lib.hid hq1
          clear hq1
          go_wp2_with fail
          refine q1.mono ?_
          rintro e v1 ⟨rfl, ha1⟩
          have M1 := Lib.hid (H8.out.step H.out ha1)
          clear ha1 q1
          have al := M1.out.below H.out ((Below.refl v1.heap.size v1).alloc (Nat.le_refl _) (.cells #[.string t1] 9))
          have sl := strsB_new (strsA_lit (t := 9) v1 #[.string t1] 1 [t1] rfl rfl (by unfold maxLen; omega)) M1.out.hi
          have SL2 := Lib.hid (RowA.keep sl (fr_set (a := ⟨w1.heap.size, 2, none⟩) (Av := fun x => x ≤ w1.heap.size) (Nat.le_refl _) (.slice (some ⟨v1.heap.size, 0, none⟩) 1 1)))
          try clear d0 d1 d2 d3 d4 g0 g1 g2 g3 g4
          obtain ⟨d0, d1, d2, d3, d4, g0, g1, g2, g3, g4⟩ := cells5 al.r1
          have M2 : Hid (SQ 56 #[.string ⟨#[]⟩, .int .i64 0, .slice none 0 0, .slice none 0 0, .int .i64 0] w _ p _ ws z1 w1.heap.size #[.string nm, .int .i64 (o : Int), .slice (some ⟨v1.heap.size, 0, none⟩) 1 1, .slice none 0 0, .int .i64 0]) := Lib.hid (al.set H.out 2 (.slice (some ⟨v1.heap.size, 0, none⟩) 1 1))
          clear al sl
          have cE := HC.out.want cSemi _ _ M2.out.af.1
          go_wp2_with fail
          refine cE.mono ?_
          rintro e wE ⟨rfl, haE⟩
          have HE := Lib.hid (M2.out.step H.out haE)
          have HKE := Lib.hid (M2.out.fr H.out haE)
          clear haE cE
          try clear d0 d1 d2 d3 d4 g0 g1 g2 g3 g4
          obtain ⟨d0, d1, d2, d3, d4, g0, g1, g2, g3, g4⟩ := cells5 HE.out.r1
          obtain ⟨e0, e1, e2, e3, e4, i0, i1, i2, i3, i4⟩ := cells5 HE.out.r0
          go_wp2
          refine bodyPost_ret (results_c rfl _ _ w.heap.size _ _ _ _ rfl (heap_set _ _ (heap_set _ _ (heap_set _ _ (heap_set _ _ (heap_set _ _ HE.out.r0))))) Tryz.underlying56 rfl (by kernel_rfl)) rfl ?_
          rw [HRES.out, HTL0.out]
          exact ⟨⟨_, _, rfl, strsB_old (RowA.keep (RowA.keep SL2.out HKE.out) (fr_out (Nat.le_of_lt HE.out.lo) _ _ _ _ _)) (Nat.le_of_lt HE.out.lo), strsB_old (RowA.keep (strsA_nil _ _) (fr_out (Nat.le_of_lt HE.out.lo) _ _ _ _ _)) (Nat.le_of_lt HE.out.lo)⟩, ((((HE.out.af.set H.out (Nat.le_refl _) _).set H.out (Nat.le_refl _) _).set H.out (Nat.le_refl _) _).set H.out (Nat.le_refl _) _).set H.out (Nat.le_refl _) _⟩
    · have hkb : (x == 1) = false := by simpa using hk
      have hres := HRE.out
      rw [hkb, Bool.false_and, if_neg (by decide)] at hres
      have HRES := Lib.hid hres.symm
      clear hres
      go_wp2_with fail
      go_region
      clear a0 a1 a2 a3 a4 c0 c1 d0 d1 d2
      have cF := HC.out.fail _ _ H4.out.af.1
      go_wp2_with fail
      rw [HW1.out]
      refine cF.mono ?_
      rintro e w4 ⟨rfl, ha4⟩
      have H6 := Lib.hid (H4.out.step H.out ha4)
      clear ha4 cF t0 t2
      try clear d0 d1 d2 d3 d4 g0 g1 g2 g3 g4
      obtain ⟨d0, d1, d2, d3, d4, g0, g1, g2, g3, g4⟩ := cells5 H6.out.r1
      obtain ⟨e0, e1, e2, e3, e4, i0, i1, i2, i3, i4⟩ := cells5 H6.out.r0
      go_wp2
      refine bodyPost_ret (results_c rfl _ _ w.heap.size _ _ _ _ rfl (heap_set _ _ (heap_set _ _ (heap_set _ _ (heap_set _ _ (heap_set _ _ H6.out.r0))))) Tryz.underlying56 rfl (by kernel_rfl)) rfl ?_
      rw [HRES.out]
      exact ⟨⟨_, _, rfl, strsB_old (RowA.keep (strsA_nil _ _) (fr_out (Nat.le_of_lt H6.out.lo) _ _ _ _ _)) (Nat.le_of_lt H6.out.lo), strsB_old (RowA.keep (strsA_nil _ _) (fr_out (Nat.le_of_lt H6.out.lo) _ _ _ _ _)) (Nat.le_of_lt H6.out.lo)⟩, ((((H6.out.af.set H.out (Nat.le_refl _) _).set H.out (Nat.le_refl _) _).set H.out (Nat.le_refl _) _).set H.out (Nat.le_refl _) _).set H.out (Nat.le_refl _) _⟩
end Go.Proofs.YtknpcbjjofdlmaaGreatDoor
