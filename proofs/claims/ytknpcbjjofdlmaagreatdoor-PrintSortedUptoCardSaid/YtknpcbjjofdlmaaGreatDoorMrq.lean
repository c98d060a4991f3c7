/- The reference's reader in memory; contracts of ok, is, fail, want. The reference's reader: str. The reference's reader: name (the reference's May handed in). The reference's reader: list (the reference's May handed in). The reference's command numbers: names, Op. -/
import Derived.Test.YtknpcbjjofdlmaaGreatDoorMpar
namespace Go.Proofs.YtknpcbjjofdlmaaGreatDoor
open Go.RowKit

/-- Where the first word stands that can't. -/
def badOf (ws : List WordT) (s : PS) : Int := if s.2 then ((wAt ws s.1).2.1 : Int) else -1
/-- The reference's reader: its block, its words, where it stands. -/
structure QSt (w : World) (p : Nat) (v : Value) (ws : List WordT) (s : PS) : Prop where
  blk : w.heap[p]? = some (.cells #[v, .int .i64 (s.1 : Int), .int .i64 (badOf ws s)] 93)
  row : RowA (fun b => b = p) w v 3 (wordRows ws)
  lt : s.1 < ws.length
  ends : EndsW ws
theorem QSt.p_lt {w : World} {p : Nat} {v : Value} {ws : List WordT} {s : PS} (h : QSt w p v ws s) : p < w.heap.size := by
  rcases Nat.lt_or_ge p w.heap.size with h' | h'
  · exact h'
  · have := h.blk; rw [Array.getElem?_eq_none h'] at this; cases this
theorem QSt.slice {w : World} {p : Nat} {v : Value} {ws : List WordT} {s : PS} (h : QSt w p v ws s) :
    ∃ b o c, v = .slice (some ⟨b, o, none⟩) ws.length c ∧ ws.length ≤ c ∧ c ≤ maxLen ∧ b < w.heap.size ∧ b ≠ p ∧
      w.cell? ⟨b, o + s.1 * 3, none⟩ = some (.int .i64 (wAt ws s.1).1) ∧ w.cell? ⟨b, o + s.1 * 3 + 1, none⟩ = some (.int .i64 ((wAt ws s.1).2.1 : Int)) ∧ w.cell? ⟨b, o + s.1 * 3 + 2, none⟩ = some (.string (wTx ws s.1)) := by
  obtain ⟨⟨⟨a, c, rfl, h1, h1m, h2⟩, h3⟩, hlt⟩ := And.intro h.row h.lt
  have hne : wordRows ws ≠ [] := by
    intro e
    have h0 : ws.length = 0 := by rw [← wordRows_length ws, e]; rfl
    omega
  obtain ⟨b, o, rfl, h4, h5⟩ := h2 hne
  rw [wordRows_length] at h1
  have hr : (wordRows ws)[s.1]? = some (wordRow (wAt ws s.1)) := by
    unfold wordRows wAt
    rw [List.getElem?_map, List.getD_eq_getElem?_getD, List.getElem?_eq_getElem hlt]
    rfl
  refine ⟨b, o, c, by rw [wordRows_length], h1, h1m, h4, (h3 b rfl).2, h5 _ _ hr 0 _ rfl, h5 _ _ hr 1 _ rfl, h5 _ _ hr 2 _ rfl⟩
theorem QSt.len {w : World} {p : Nat} {v : Value} {ws : List WordT} {s : PS} (h : QSt w p v ws s) : ws.length ≤ 9223372036854775807 := by
  obtain ⟨b, o, c, _, h1, h2, _⟩ := h.slice
  unfold maxLen at h2
  omega
theorem QSt.fr {w w' : World} {p : Nat} {v : Value} {ws : List WordT} {s : PS} {Av : Nat → Prop} (h : QSt w p v ws s) (hf : Fr Av w w') (hp : ¬ Av p) (hv : ∀ b, v.ownBlock = some b → ¬ Av b) : QSt w' p v ws s := by
  refine ⟨(hf.block p h.p_lt hp).trans h.blk, ?_, h.lt, h.ends⟩
  have h1 : RowA Av w v 3 (wordRows ws) := ⟨h.row.1, fun b e => ⟨(h.row.2 b e).1, hv b e⟩⟩
  have h2 := h1.keep hf
  exact ⟨h2.1, fun b e => ⟨(h2.2 b e).1, (h.row.2 b e).2⟩⟩
theorem QSt.below {w w' : World} {p : Nat} {v : Value} {ws : List WordT} {s : PS} (h : QSt w p v ws s) (hb : Below w.heap.size w w') : QSt w' p v ws s :=
  h.fr (Av := fun _ => False) (fr_below hb) (fun h => h) (fun _ _ h => h)
theorem QSt.alloc {w : World} {p : Nat} {v : Value} {ws : List WordT} {s : PS} (h : QSt w p v ws s) (o : Obj) : QSt (w.alloc o) p v ws s := h.below ((Below.refl _ _).alloc (Nat.le_refl _) _)
theorem QSt.cells {w : World} {p : Nat} {v : Value} {ws : List WordT} {s : PS} (h : QSt w p v ws s) :
    w.cell? ⟨p, 0, none⟩ = some v ∧ w.cell? ⟨p, 1, none⟩ = some (.int .i64 (s.1 : Int)) ∧ w.cell? ⟨p, 2, none⟩ = some (.int .i64 (badOf ws s)) ∧ w.frozen? ⟨p, 0, none⟩ = false ∧ w.frozen? ⟨p, 1, none⟩ = false ∧ w.frozen? ⟨p, 2, none⟩ = false := by
  simp [World.cell?, World.frozen?, h.blk]
def AfterQ (w w' : World) (p : Nat) (v : Value) (ws : List WordT) (s' : PS) : Prop := QSt w' p v ws s' ∧ Fr (fun b => b = p) w w'
theorem AfterQ.trans {a b c : World} {p : Nat} {v : Value} {ws : List WordT} {s s' : PS} (h : AfterQ a b p v ws s) (k : AfterQ b c p v ws s') : AfterQ a c p v ws s' := ⟨k.1, h.2.trans k.2⟩
theorem AfterQ.of_below {w w' : World} {p : Nat} {v : Value} {ws : List WordT} {s : PS} (h : QSt w p v ws s) (hb : Below w.heap.size w w') : AfterQ w w' p v ws s := ⟨h.below hb, fr_below hb⟩
theorem AfterQ.refl {w : World} {p : Nat} {v : Value} {ws : List WordT} {s : PS} (h : QSt w p v ws s) : AfterQ w w p v ws s := ⟨h, Fr.refl _ _⟩
theorem QSt.setBad {w : World} {p : Nat} {v : Value} {ws : List WordT} {s : PS} (h : QSt w p v ws s) (n : Int) (hn : n = ((wAt ws s.1).2.1 : Int)) : QSt (w.setCell ⟨p, 2, none⟩ (.int .i64 n)) p v ws (s.1, true) := by
  subst hn
  exact ⟨heap_set 2 _ h.blk, h.row.keep (fr_set (a := ⟨p, 2, none⟩) (Av := fun b => b = p) rfl _), h.lt, h.ends⟩
theorem QSt.setNext {w : World} {p : Nat} {v : Value} {ws : List WordT} {k k' : Nat} (h : QSt w p v ws (k, false)) (hk : k' < ws.length) (n : Int) (hn : n = (k' : Int)) : QSt (w.setCell ⟨p, 1, none⟩ (.int .i64 n)) p v ws (k', false) := by
  subst hn
  exact ⟨heap_set 1 _ h.blk, h.row.keep (fr_set (a := ⟨p, 1, none⟩) (Av := fun b => b = p) rfl _), hk, h.ends⟩

set_option maxHeartbeats 1000000 in
set_option maxRecDepth 100000 in
theorem q_ok_any (p : Nat) (v : Value) (ws : List WordT) (s : PS) (w : World) (h : QSt w p v ws s) :
    Calls Tryz.prog 59 #[.pointer (some ⟨p, 0, none⟩)] w fun e w' => e = .returned (.bool (!s.2)) ∧ w = w' := by
  obtain ⟨c0, c1, c2, f0, f1, f2⟩ := h.cells
  obtain ⟨k, fl⟩ := s
  unfold badOf at c2
  clear h
  cases fl
  · go_enter Tryz.func59, Tryz.ntmps59
    go_wp2
    go_ret
    exact ⟨rfl, rfl⟩
  · have hn : ¬ (((wAt ws k).2.1 : Int) < 0) := by omega
    go_enter Tryz.func59, Tryz.ntmps59
    go_wp2
    go_ret
    exact ⟨rfl, rfl⟩

set_option maxHeartbeats 1000000 in
set_option maxRecDepth 100000 in
theorem q_fail_any (p : Nat) (v : Value) (ws : List WordT) (s : PS) (w : World) (h : QSt w p v ws s) :
    Calls Tryz.prog 141 #[.pointer (some ⟨p, 0, none⟩)] w fun e w' => e = .returned (.tuple #[]) ∧ AfterQ w w' p v ws (s.1, true) := by
  have HQ := Lib.hid h
  obtain ⟨c0, c1, c2, f0, f1, f2⟩ := h.cells
  obtain ⟨b, o, c, rfl, hl, hm, hb, hbp, d0, d1, d2⟩ := h.slice
  have hlt := h.lt
  have hi1 : (s.1 : Int) < (ws.length : Int) := by omega
  obtain ⟨k, fl⟩ := s
  unfold badOf at c2
  clear h
  cases fl
  · go_enter Tryz.func141, Tryz.ntmps141
    go_wp2_with fail
    go_region
    all_goals go_wp2
    all_goals go_end0
    all_goals exact ⟨rfl, ((HQ.out.setBad _ rfl).below (Below.refl _ _).drew), (fr_set (a := ⟨p, 2, none⟩) (Av := fun b => b = p) rfl _).trans (fr_drew _ _)⟩
  · have hn : ¬ (((wAt ws k).2.1 : Int) < 0) := by omega
    go_enter Tryz.func141, Tryz.ntmps141
    go_wp2
    go_end0
    exact ⟨rfl, AfterQ.refl HQ.out⟩

def isQ (ws : List WordT) (kd : Int) (t : ByteArray) (s : PS) : Bool := (wAt ws s.1).1 == kd && (wTx ws s.1).toList == t.toList
def wantQ (ws : List WordT) (kd : Int) (t : ByteArray) (s : PS) : PS := (takeP ws (isQ ws kd t s) s).2

set_option maxHeartbeats 1000000 in
set_option maxRecDepth 100000 in
theorem q_is_any (p : Nat) (v : Value) (ws : List WordT) (s : PS) (kd : Int) (t : ByteArray) (w : World) (h : QSt w p v ws s) :
    Calls Tryz.prog 107 #[.pointer (some ⟨p, 0, none⟩), .int .i64 kd, .string t] w fun e w' => e = .returned (.bool (isQ ws kd t s)) ∧ Below w.heap.size w w' := by
  obtain ⟨r, hr⟩ : ∃ r, isQ ws kd t s = r := ⟨_, rfl⟩
  rw [hr]
  unfold isQ at hr
  obtain ⟨c0, c1, c2, f0, f1, f2⟩ := h.cells
  obtain ⟨b, o, c, rfl, hl, hm, hb, hbp, d0, d1, d2⟩ := h.slice
  have hlt := h.lt
  have hi1 : (s.1 : Int) < (ws.length : Int) := by omega
  obtain ⟨x, hx⟩ : ∃ x, (wAt ws s.1).1 = x := ⟨_, rfl⟩
  obtain ⟨y, hy⟩ : ∃ y, wTx ws s.1 = y := ⟨_, rfl⟩
  rw [hx] at d0 hr
  rw [hy] at d2 hr
  obtain ⟨k, fl⟩ := s
  clear h c2 hx hy
  by_cases h1 : x = kd
  · subst h1
    have hr2 : (y.toList == t.toList) = r := by rw [← hr]; simp
    clear hr
    go_enter Tryz.func107, Tryz.ntmps107
    go_wp2_with fail
    go_region
    all_goals go_wp2
    all_goals go_ret
    all_goals exact ⟨rfl, (Below.refl _ _).drew⟩
  · have hk : (x == kd) = false := by simpa using h1
    have hr2 : false = r := by rw [← hr, hk]; rfl
    subst hr2
    clear hr
    go_enter Tryz.func107, Tryz.ntmps107
    go_wp2_with fail
    go_region
    all_goals go_wp2
    all_goals go_ret
    all_goals exact ⟨rfl, (Below.refl _ _).drew⟩

set_option maxHeartbeats 1000000 in
set_option maxRecDepth 100000 in
theorem q_want_any (p : Nat) (v : Value) (ws : List WordT) (s : PS) (kd : Int) (t : ByteArray) (w : World) (h : QSt w p v ws s) (hk4 : kd ≠ 4) :
    Calls Tryz.prog 105 #[.pointer (some ⟨p, 0, none⟩), .int .i64 kd, .string t] w fun e w' => e = .returned (.tuple #[]) ∧ AfterQ w w' p v ws (wantQ ws kd t s) := by
  have HQ := Lib.hid h
  have cO := q_ok_any p v ws s w h
  have cI := q_is_any p v ws s kd t w h
  have CF : Hid (∀ w', Below w.heap.size w w' → Calls Tryz.prog 141 #[.pointer (some ⟨p, 0, none⟩)] w' fun e w'' => e = .returned (.tuple #[]) ∧ AfterQ w' w'' p v ws (s.1, true)) := fun w' hb => q_fail_any p v ws s w' (h.below hb)
  have hends : isQ ws kd t s = true → s.1 + 1 < ws.length := fun hi => h.ends _ h.lt (by
    unfold isQ at hi
    simp only [Bool.and_eq_true, beq_iff_eq] at hi
    rw [hi.1]; exact hk4)
  have hlen := h.len
  have hlt := h.lt
  obtain ⟨k, fl⟩ := s
  cases fl
  · obtain ⟨q, hq⟩ : ∃ q, isQ ws kd t (k, false) = q := ⟨_, rfl⟩
    rw [hq] at cI hends
    have hw : wantQ ws kd t (k, false) = (takeP ws q (k, false)).2 := by unfold wantQ; rw [hq]
    rw [hw]
    clear h hq hw
    cases q
    · rw [take_no (.inr rfl)]
      go_enter Tryz.func105, Tryz.ntmps105
      go_wp2_with fail
      refine cO.mono ?_
      rintro e w2 ⟨rfl, rfl⟩
      go_wp2_with fail
      refine cI.mono ?_
      rintro e w3 ⟨rfl, hb3⟩
      have cF := CF.out _ hb3
      have HB3 := Lib.hid hb3
      clear hb3
      go_wp2_with fail
      refine cF.mono ?_
      rintro e w4 ⟨rfl, ha4⟩
      go_wp2
      go_end0
      exact ⟨rfl, (AfterQ.of_below HQ.out HB3.out).trans ha4⟩
    · rw [take_yes rfl rfl]
      have hk1 := hends rfl
      have hn : IntKind.i64.wrap ((k : Int) + 1) = ((k + 1 : Nat) : Int) := by
        rw [show ((k : Int) + 1) = ((k + 1 : Nat) : Int) by omega]
        exact IntWalk.i64_in _ (by simp only at hk1; omega)
      clear hends hlen
      go_enter Tryz.func105, Tryz.ntmps105
      go_wp2_with fail
      refine cO.mono ?_
      rintro e w2 ⟨rfl, rfl⟩
      go_wp2_with fail
      refine cI.mono ?_
      rintro e w3 ⟨rfl, hb3⟩
      have h3 := HQ.out.below hb3
      obtain ⟨c0, c1, c2, f0, f1, f2⟩ := h3.cells
      have H3 := Lib.hid h3
      have HB3 := Lib.hid hb3
      clear hb3 h3 c2
      go_wp2
      refine bodyPost_ret (results_none rfl _ _ _) rfl ?_
      exact ⟨rfl, H3.out.setNext hk1 _ rfl, (fr_below HB3.out).trans (fr_set (a := ⟨p, 1, none⟩) (Av := fun b => b = p) rfl _)⟩
  · have hw : wantQ ws kd t (k, true) = (k, true) := by unfold wantQ; rw [take_no (.inl rfl)]
    rw [hw]
    clear h hw hends
    go_enter Tryz.func105, Tryz.ntmps105
    go_wp2_with fail
    refine cO.mono ?_
    rintro e w2 ⟨rfl, rfl⟩
    have cF := CF.out _ (Below.refl _ _)
    go_wp2_with fail
    refine cF.mono ?_
    rintro e w4 ⟨rfl, ha4⟩
    go_wp2
    go_end0
    exact ⟨rfl, ha4⟩
end Go.Proofs.YtknpcbjjofdlmaaGreatDoor
namespace Go.Proofs.YtknpcbjjofdlmaaGreatDoor
open Go.RowKit

/-- The word at hand, copied into a variable. -/
theorem word_copy (w : World) (x y z : Value) : Below w.heap.size w (w.alloc (.cells #[x, y, z] 50)).drew := ((Below.refl _ _).alloc (Nat.le_refl _) _).drew

set_option maxHeartbeats 1000000 in
set_option maxRecDepth 100000 in
theorem q_str_any (p : Nat) (v : Value) (ws : List WordT) (s : PS) (w : World) (h : QSt w p v ws s) :
    Calls Tryz.prog 143 #[.pointer (some ⟨p, 0, none⟩)] w fun e w' => e = .returned (.string (textP ws s).1) ∧ AfterQ w w' p v ws (textP ws s).2 := by
  have HQ := Lib.hid h
  obtain ⟨c0, c1, c2, f0, f1, f2⟩ := h.cells
  obtain ⟨b, o, c, rfl, hl, hm, hb, hbp, d0, d1, d2⟩ := h.slice
  have hlt := h.lt
  have hi1 : (s.1 : Int) < (ws.length : Int) := by omega
  obtain ⟨W1, hW1⟩ : ∃ W1, (w.alloc (.cells #[.int .i64 (wAt ws s.1).1, .int .i64 ((wAt ws s.1).2.1 : Int), .string (wTx ws s.1)] 50)).drew = W1 := ⟨_, rfl⟩
  have hx1 : Below w.heap.size w W1 := by rw [← hW1]; exact word_copy w _ _ _
  have hbk : W1.heap[w.heap.size]? = some (.cells #[.int .i64 (wAt ws s.1).1, .int .i64 ((wAt ws s.1).2.1 : Int), .string (wTx ws s.1)] 50) := by rw [← hW1]; exact alloc_at w _
  have hq1 := h.below hx1
  have cO := q_ok_any p _ ws s W1 hq1
  have CF : Hid (∀ w', Below W1.heap.size W1 w' → Calls Tryz.prog 141 #[.pointer (some ⟨p, 0, none⟩)] w' fun e w'' => e = .returned (.tuple #[]) ∧ AfterQ w' w'' p _ ws (s.1, true)) := fun w' hb => q_fail_any p _ ws s w' (hq1.below hb)
  have hends : (wAt ws s.1).1 = 2 → s.1 + 1 < ws.length := fun hi => h.ends _ h.lt (by rw [hi]; decide)
  have hlen := h.len
  unfold textP
  obtain ⟨x, hx⟩ : ∃ x, (wAt ws s.1).1 = x := ⟨_, rfl⟩
  rw [hx] at hbk d0 hends hW1 ⊢
  obtain ⟨e0, e1, e2, g0, g1, g2⟩ := cells3 hbk
  obtain ⟨k0, k1, k2, l0, l1, l2⟩ := hq1.cells
  have HW1 := Lib.hid hW1
  have HX1 := Lib.hid hx1
  have HQ1 := Lib.hid hq1
  have hbz := (Below.refl w.heap.size w).alloc (Nat.le_refl _) (.cells #[.int .i64 0, .int .i64 0, .string ⟨#[]⟩] 50)
  have a0 := (hbz.cell (p := ⟨p, 0, none⟩) h.p_lt).trans c0
  have a1 := (hbz.cell (p := ⟨p, 1, none⟩) h.p_lt).trans c1
  have a2 := (hbz.cell (p := ⟨b, o + s.1 * 3, none⟩) hb).trans d0
  have a3 := (hbz.cell (p := ⟨b, o + s.1 * 3 + 1, none⟩) hb).trans d1
  have a4 := (hbz.cell (p := ⟨b, o + s.1 * 3 + 2, none⟩) hb).trans d2
  obtain ⟨k, fl⟩ := s
  clear h hq1 hbk hx1 c2 k2 hx hbz
  by_cases hc : fl = false ∧ x = 2
  · obtain ⟨rfl, rfl⟩ := hc
    rw [show ((2 : Int) == 2) = true from rfl, take_yes rfl rfl]
    have hk1 := hends rfl
    have hn : IntKind.i64.wrap ((k : Int) + 1) = ((k + 1 : Nat) : Int) := by
      rw [show ((k : Int) + 1) = ((k + 1 : Nat) : Int) by omega]
      exact IntWalk.i64_in _ (by simp only at hk1; omega)
    have HK1 := Lib.hid hk1
    have HE := Lib.hid (And.intro e0 (And.intro e2 (And.intro k1 l1)))
    clear hends hlen hW1 k0 k1 l0 l1 l2 e0 e1 e2 g0 g1 g2 hk1
    go_enter Tryz.func143, Tryz.ntmps143
    go_wp2_with fail
    go_region
    go_wp2_with fail
    rw [HW1.out]
    refine cO.mono ?_
    rintro e w2 ⟨rfl, rfl⟩
    obtain ⟨e0, e2, k1, l1⟩ := HE.out
    go_wp2
    go_ret
    exact ⟨rfl, HQ1.out.setNext HK1.out _ rfl, (fr_below HX1.out).trans (fr_set (a := ⟨p, 1, none⟩) (Av := fun b => b = p) rfl _)⟩
  · have hno : takeP ws (x == 2) (k, fl) = (⟨#[]⟩, (k, true)) := by
      refine take_no ?_
      cases fl
      · right
        simpa using fun e => hc ⟨rfl, e⟩
      · exact .inl rfl
    rw [hno]
    have HE := Lib.hid e0
    have HC := Lib.hid hc
    clear hends hlen hW1 k0 k1 l0 l1 l2 e0 e1 e2 g0 g1 g2 hno hc
    cases fl
    · have hx2 : (x == 2) = false := by simpa using fun e => HC.out ⟨rfl, e⟩
      have hx3 : (x != 2) = true := by simpa using fun e => HC.out ⟨rfl, e⟩
      go_enter Tryz.func143, Tryz.ntmps143
      go_wp2_with fail
      go_region
      go_wp2_with fail
      rw [HW1.out]
      refine cO.mono ?_
      rintro e w2 ⟨rfl, rfl⟩
      have e0 := HE.out
      have cF := CF.out _ (Below.refl _ _)
      go_wp2_with fail
      refine cF.mono ?_
      rintro e w3 ⟨rfl, ha3⟩
      go_wp2
      go_ret
      exact ⟨rfl, (AfterQ.of_below HQ.out HX1.out).trans ha3⟩
    · go_enter Tryz.func143, Tryz.ntmps143
      go_wp2_with fail
      go_region
      go_wp2_with fail
      rw [HW1.out]
      refine cO.mono ?_
      rintro e w2 ⟨rfl, rfl⟩
      have cF := CF.out _ (Below.refl _ _)
      go_wp2_with fail
      refine cF.mono ?_
      rintro e w3 ⟨rfl, ha3⟩
      go_wp2
      go_ret
      exact ⟨rfl, (AfterQ.of_below HQ.out HX1.out).trans ha3⟩
end Go.Proofs.YtknpcbjjofdlmaaGreatDoor
namespace Go.Proofs.YtknpcbjjofdlmaaGreatDoor
open Go.RowKit

set_option maxHeartbeats 1000000 in
set_option maxRecDepth 100000 in
theorem q_name_any (p : Nat) (v : Value) (ws : List WordT) (s : PS) (w : World) (h : QSt w p v ws s) (hsz : ∀ k, k < ws.length → (wTx ws k).size ≤ 1048576)
    (hmay : ∀ (t : ByteArray) (w : World), t.size ≤ 1048576 → Calls Tryz.prog 111 #[.string t] w fun e w' => e = .returned (.bool (okName t.data.toList)) ∧ Below w.heap.size w w') :
    Calls Tryz.prog 106 #[.pointer (some ⟨p, 0, none⟩)] w fun e w' => e = .returned (.string (nameP ws s).1) ∧ AfterQ w w' p v ws (nameP ws s).2 := by
  have HQ := Lib.hid h
  obtain ⟨c0, c1, c2, f0, f1, f2⟩ := h.cells
  obtain ⟨b, o, c, rfl, hl, hm, hb, hbp, d0, d1, d2⟩ := h.slice
  have hlt := h.lt
  have hi1 : (s.1 : Int) < (ws.length : Int) := by omega
  obtain ⟨W1, hW1⟩ : ∃ W1, (w.alloc (.cells #[.int .i64 (wAt ws s.1).1, .int .i64 ((wAt ws s.1).2.1 : Int), .string (wTx ws s.1)] 50)).drew = W1 := ⟨_, rfl⟩
  have hx1 : Below w.heap.size w W1 := by rw [← hW1]; exact word_copy w _ _ _
  have hbk : W1.heap[w.heap.size]? = some (.cells #[.int .i64 (wAt ws s.1).1, .int .i64 ((wAt ws s.1).2.1 : Int), .string (wTx ws s.1)] 50) := by rw [← hW1]; exact alloc_at w _
  have hq1 := h.below hx1
  have cO := q_ok_any p _ ws s W1 hq1
  have CF : Hid (∀ w', Below W1.heap.size W1 w' → Calls Tryz.prog 141 #[.pointer (some ⟨p, 0, none⟩)] w' fun e w'' => e = .returned (.tuple #[]) ∧ AfterQ w' w'' p _ ws (s.1, true)) := fun w' hb => q_fail_any p _ ws s w' (hq1.below hb)
  have hends : (wAt ws s.1).1 = 1 → s.1 + 1 < ws.length := fun hi => h.ends _ h.lt (by rw [hi]; decide)
  have hlen := h.len
  have cM := hmay (wTx ws s.1) W1 (hsz _ h.lt)
  obtain ⟨q, hq⟩ : ∃ q, okName (wTx ws s.1).data.toList = q := ⟨_, rfl⟩
  rw [hq] at cM
  unfold nameP isNameP
  rw [hq]
  obtain ⟨x, hx⟩ : ∃ x, (wAt ws s.1).1 = x := ⟨_, rfl⟩
  rw [hx] at hbk d0 hends hW1 ⊢
  obtain ⟨e0, e1, e2, g0, g1, g2⟩ := cells3 hbk
  have HW1 := Lib.hid hW1
  have HX1 := Lib.hid hx1
  have HQ1 := Lib.hid hq1
  have HBK := Lib.hid hbk
  have hbz := (Below.refl w.heap.size w).alloc (Nat.le_refl _) (.cells #[.int .i64 0, .int .i64 0, .string ⟨#[]⟩] 50)
  have a0 := (hbz.cell (p := ⟨p, 0, none⟩) h.p_lt).trans c0
  have a1 := (hbz.cell (p := ⟨p, 1, none⟩) h.p_lt).trans c1
  have a2 := (hbz.cell (p := ⟨b, o + s.1 * 3, none⟩) hb).trans d0
  have a3 := (hbz.cell (p := ⟨b, o + s.1 * 3 + 1, none⟩) hb).trans d1
  have a4 := (hbz.cell (p := ⟨b, o + s.1 * 3 + 2, none⟩) hb).trans d2
  obtain ⟨k, fl⟩ := s
  have HE := Lib.hid (And.intro e0 e2)
  have HCM := Lib.hid cM
  have HEN := Lib.hid hends
  have HLEN := Lib.hid hlen
  have HS1 := Lib.hid hx1.size
  clear h hq1 hbk hx1 c2 hx hbz hq hW1 e0 e1 e2 g0 g1 g2 cM hends hlen hmay hsz
  cases fl
  · by_cases hk : x = 1
    · subst hk
      cases q
      · rw [show (((1 : Int) == 1) && false) = false from rfl, take_no (.inr rfl)]
        go_enter Tryz.func106, Tryz.ntmps106
        go_wp2_with fail
        go_region
        go_wp2_with fail
        rw [HW1.out]
        refine cO.mono ?_
        rintro e w2 ⟨rfl, rfl⟩
        obtain ⟨e0, e2⟩ := HE.out
        go_wp2_with fail
        refine HCM.out.mono ?_
        rintro e w3 ⟨rfl, hb3⟩
        have HB3 := Lib.hid hb3
        clear hb3
        have cF := CF.out _ HB3.out
        go_wp2_with fail
        refine cF.mono ?_
        rintro e w3 ⟨rfl, ha3⟩
        go_wp2
        go_ret
        exact ⟨rfl, (AfterQ.of_below HQ.out (HX1.out.trans (HB3.out.mono HS1.out))).trans ha3⟩

      · rw [show (((1 : Int) == 1) && true) = true from rfl, take_yes rfl rfl]
        have hk1 := HEN.out rfl
        have hn : IntKind.i64.wrap ((k : Int) + 1) = ((k + 1 : Nat) : Int) := by
          rw [show ((k : Int) + 1) = ((k + 1 : Nat) : Int) by omega]
          exact IntWalk.i64_in _ (by have := HLEN.out; simp only at hk1; omega)
        have HK1 := Lib.hid hk1
        clear hk1
        go_enter Tryz.func106, Tryz.ntmps106
        go_wp2_with fail
        go_region
        go_wp2_with fail
        rw [HW1.out]
        refine cO.mono ?_
        rintro e w2 ⟨rfl, rfl⟩
        obtain ⟨e0, e2⟩ := HE.out
        go_wp2_with fail
        refine HCM.out.mono ?_
        rintro e w3 ⟨rfl, hb3⟩
        have h3 := HQ1.out.below hb3
        obtain ⟨k0, k1, k2, l0, l1, l2⟩ := h3.cells
        have hp2 := hb3.block w.heap.size (by rw [← HW1.out]; simp)
        obtain ⟨u0, u1, u2, y0, y1, y2⟩ := cells3 (hp2.trans HBK.out)
        have H3 := Lib.hid h3
        have HB3 := Lib.hid hb3
        clear hb3 h3 k2 hp2 u1 y0 y1 y2 e0 e2
        go_wp2
        go_ret
        exact ⟨rfl, H3.out.setNext HK1.out _ rfl, (fr_below (HX1.out.trans (HB3.out.mono HS1.out))).trans (fr_set (a := ⟨p, 1, none⟩) (Av := fun b => b = p) rfl _)⟩
    · have hx2 : (x == 1) = false := by simpa using hk
      have hx3 : (x != 1) = true := by simpa using hk
      rw [hx2, Bool.false_and, take_no (.inr rfl)]
      go_enter Tryz.func106, Tryz.ntmps106
      go_wp2_with fail
      go_region
      go_wp2_with fail
      rw [HW1.out]
      refine cO.mono ?_
      rintro e w2 ⟨rfl, rfl⟩
      obtain ⟨e0, e2⟩ := HE.out
      have cF := CF.out _ (Below.refl _ _)
      go_wp2_with fail
      refine cF.mono ?_
      rintro e w3 ⟨rfl, ha3⟩
      go_wp2
      go_ret
      exact ⟨rfl, (AfterQ.of_below HQ.out HX1.out).trans ha3⟩

  · rw [take_no (.inl rfl)]
    go_enter Tryz.func106, Tryz.ntmps106
    go_wp2_with fail
    go_region
    go_wp2_with fail
    rw [HW1.out]
    refine cO.mono ?_
    rintro e w2 ⟨rfl, rfl⟩
    have cF := CF.out _ (Below.refl _ _)
    go_wp2_with fail
    refine cF.mono ?_
    rintro e w3 ⟨rfl, ha3⟩
    go_wp2
    go_ret
    exact ⟨rfl, (AfterQ.of_below HQ.out HX1.out).trans ha3⟩
end Go.Proofs.YtknpcbjjofdlmaaGreatDoor
namespace Go.Proofs.YtknpcbjjofdlmaaGreatDoor
open Go.RowKit

theorem AfterQ.grown {w w1 w2 : World} {p : Nat} {v : Value} {ws : List WordT} {s0 s : PS} {r : Option Nat} (h0 : QSt w p v ws s0) (h : AfterQ w w1 p v ws s) (hg : w1.grownBy w2 r) (hr : ∀ k, r = some k → w.heap.size ≤ k) : AfterQ w w2 p v ws s := by
  refine ⟨h.1.fr (Av := fun b => some b = r) (fr_grown hg fun k e => e.symm) (fun e => ?_) (fun b hb e => ?_), ?_⟩
  · have := hr p e.symm; have := h0.p_lt; omega
  · have := hr b e.symm; have := (h0.row.2 b hb).1; omega
  · refine ⟨hg.os.trans h.2.os, hg.tape.trans h.2.tape, hg.output.trans h.2.output, Nat.le_trans h.2.size hg.size, fun k hk hn => ?_⟩
    rw [hg.block k (Nat.lt_of_lt_of_le hk h.2.size) (fun e => by have := hr k e.symm; omega)]
    exact h.2.block k hk hn
theorem AfterQ.alloc {w w1 : World} {p : Nat} {v : Value} {ws : List WordT} {s : PS} (h : AfterQ w w1 p v ws s) (o : Obj) : AfterQ w (w1.alloc o) p v ws s := ⟨h.1.alloc o, h.2.trans (fr_alloc _ _ _)⟩
theorem QSt.pos {w : World} {p : Nat} {v : Value} {ws : List WordT} {s : PS} (h : QSt w p v ws s) : posPs w p = s.1 := by
  unfold posPs
  rw [h.cells.2.1]
  simp [intOf]

set_option maxHeartbeats 4000000 in
set_option maxRecDepth 100000 in
theorem q_list_any (p : Nat) (v : Value) (ws : List WordT) (s : PS) (w : World) (h : QSt w p v ws s) (hsz : ∀ k, k < ws.length → (wTx ws k).size ≤ 1048576) (hfew : ws.length ≤ 2097152)
    (hmay : ∀ (t : ByteArray) (w : World), t.size ≤ 1048576 → Calls Tryz.prog 111 #[.string t] w fun e w' => e = .returned (.bool (okName t.data.toList)) ∧ Below w.heap.size w w') :
    Calls Tryz.prog 108 #[.pointer (some ⟨p, 0, none⟩)] w fun e w' => ∃ vv, e = .returned vv ∧ StrsA (fun b => b < w.heap.size) w' vv (moreP ws (nameP ws s).1 (nameP ws s).2).1 ∧ AfterQ w w' p v ws (markP ws cSemi (moreP ws (nameP ws s).1 (nameP ws s).2).2) := by
  obtain ⟨i0, hi, hz0, hz1, hz2⟩ := info_of info_str
  have H := Lib.hid h
  have hpl := h.p_lt
  have CN : Hid (∀ s w', QSt w' p v ws s → Calls Tryz.prog 106 #[.pointer (some ⟨p, 0, none⟩)] w' fun e w'' => e = .returned (.string (nameP ws s).1) ∧ AfterQ w' w'' p v ws (nameP ws s).2) := fun s w' hq => q_name_any p v ws s w' hq hsz hmay
  have CO : Hid (∀ s w', QSt w' p v ws s → Calls Tryz.prog 59 #[.pointer (some ⟨p, 0, none⟩)] w' fun e w'' => e = .returned (.bool (!s.2)) ∧ w' = w'') := fun s w' hq => q_ok_any p v ws s w' hq
  have CI : Hid (∀ s w', QSt w' p v ws s → Calls Tryz.prog 107 #[.pointer (some ⟨p, 0, none⟩), .int .i64 3, .string cComma] w' fun e w'' => e = .returned (.bool (isMarkP ws cComma s)) ∧ Below w'.heap.size w' w'') := fun s w' hq => q_is_any p v ws s 3 cComma w' hq
  have CW : Hid (∀ s w', QSt w' p v ws s → Calls Tryz.prog 105 #[.pointer (some ⟨p, 0, none⟩), .int .i64 3, .string cSemi] w' fun e w'' => e = .returned (.tuple #[]) ∧ AfterQ w' w'' p v ws (markP ws cSemi s)) := fun s w' hq => q_want_any p v ws s 3 cSemi w' hq (by decide)
  have c0 := CN.out s w h
  obtain ⟨x, hx⟩ : ∃ x, nameP ws s = x := ⟨_, rfl⟩
  rw [hx] at c0 ⊢
  obtain ⟨x, s2⟩ := x
  obtain ⟨R, hR⟩ : ∃ R, moreP ws x s2 = R := ⟨_, rfl⟩
  have HR := Lib.hid hR
  simp only [hR] at c0 ⊢
  clear hR hx hmay h
  go_enter Tryz.func108, Tryz.ntmps108
  go_wp2_with fail
  refine c0.mono ?_
  rintro e w3 ⟨rfl, ha3⟩
  have ha4 := ha3.alloc (.cells #[.string x] 9)
  have hs3 := ha3.2.size
  have hown0 := World.ownsRow_lit (base := w.heap.size) (e := 9) (size := 1) w3 #[.string x] 1 hs3 (by unfold maxLen; omega) rfl
  have HA4 := Lib.hid ha4
  have HO0 := Lib.hid hown0
  clear ha3 ha4 hown0 c0
  go_wp2
  go_loopw [3] (fun vv wr => ∃ (f : Nat) (acc : List ByteArray) (s' : PS), ws.length - s'.1 < f ∧ moreF ws f acc s' = R ∧ acc.length ≤ s'.1 + 1 ∧ wr.ownsRow w.heap.size 9 1 vv acc.length (acc.map Value.string) ∧ AfterQ w wr p v ws s')
    (fun _ wr => ws.length - posPs wr p)
  case atStart => exact ⟨ws.length + 1, [x], s2, by omega, HR.out, by simp, HO0.out, HA4.out⟩
  case round =>
    obtain ⟨f, acc, s', hf, hj, hal, hown, ha⟩ := hrel
    obtain ⟨f, rfl⟩ : ∃ g, f = g + 1 := ⟨f - 1, by omega⟩
    have HA := Lib.hid ha
    have HJ := Lib.hid hj
    have HO := Lib.hid hown
    have hlt := ha.1.lt
    have hends := ha.1.ends
    have hlen := ha.1.len
    have hsz2 := ha.2.size
    have cO := CO.out _ _ ha.1
    have cI := CI.out _ _ ha.1
    obtain ⟨k, fl⟩ := s'
    clear ha hj hown
    cases fl
    · obtain ⟨q, hq⟩ : ∃ q, isMarkP ws cComma (k, false) = q := ⟨_, rfl⟩
      rw [hq] at cI
      have HQ := Lib.hid hq
      clear hq
      cases q
      · have hres := HJ.out
        rw [moreF_stop (.inr HQ.out)] at hres
        subst hres
        clear hends hlen
        go_wp2_with fail
        refine cO.mono ?_
        rintro e w5 ⟨rfl, rfl⟩
        go_wp2_with fail
        refine cI.mono ?_
        rintro e w5 ⟨rfl, hb5⟩
        have cS := CW.out _ _ (HA.out.1.below hb5)
        have HA5 := Lib.hid (AfterQ.of_below HA.out.1 hb5)
        have HO5 := Lib.hid (own_fr HO.out (p := p) (fr_below hb5) hpl)
        clear hb5 cI
        go_wp2_with fail
        refine cS.mono ?_
        rintro e w6 ⟨rfl, ha6⟩
        go_wp2
        go_ret
        exact ⟨_, rfl, strsA_own (own_fr HO5.out ha6.2 hpl), (HA.out.trans HA5.out).trans ha6⟩
      · have hres := HJ.out
        rw [moreF_go rfl HQ.out] at hres
        have hmk : markP ws cComma (k, false) = (k + 1, false) := by unfold markP; rw [take_yes rfl HQ.out]
        have hk1 : k + 1 < ws.length := hends k hlt (mark_kind HQ.out)
        rw [hmk] at hres
        have hge := name_ge ws (k + 1, false)
        have CN2 := Lib.hid (CN.out (k + 1, false))
        obtain ⟨y, hy⟩ : ∃ y, nameP ws (k + 1, false) = y := ⟨_, rfl⟩
        rw [hy] at hres hge CN2
        obtain ⟨y, s6⟩ := y
        have HRES := Lib.hid hres
        have hadv2 : k + 1 ≤ s6.1 := hge
        have hn : IntKind.i64.wrap ((k : Int) + 1) = ((k + 1 : Nat) : Int) := by
          rw [show ((k : Int) + 1) = ((k + 1 : Nat) : Int) by omega]
          exact IntWalk.i64_in _ (by omega)
        have HK1 := Lib.hid hk1
        clear hres hge hy hmk hends hlen hk1
        simp only at CN2 HRES
        go_wp2_with fail
        refine cO.mono ?_
        rintro e w5 ⟨rfl, rfl⟩
        go_wp2_with fail
        refine cI.mono ?_
        rintro e w5 ⟨rfl, hb5⟩
        have h5 := HA.out.1.below hb5
        obtain ⟨d0, d1, d2, g0, g1, g2⟩ := h5.cells
        have h6 := h5.setNext HK1.out _ rfl
        have ha6 : AfterQ w (w5.setCell ⟨p, 1, none⟩ (.int .i64 ((k + 1 : Nat) : Int))) p v ws (k + 1, false) := ⟨h6, (HA.out.2.trans (fr_below hb5)).trans (fr_set (a := ⟨p, 1, none⟩) (Av := fun b => b = p) rfl _)⟩
        have hO6 := own_fr (own_fr HO.out (p := p) (fr_below hb5) hpl) (fr_set (a := ⟨p, 1, none⟩) (Av := fun b => b = p) rfl (.int .i64 ((k + 1 : Nat) : Int))) hpl
        have cN := CN2.out _ h6
        have HA6 := Lib.hid ha6
        have HO6 := Lib.hid hO6
        clear hb5 cI h5 h6 ha6 hO6 d2
        go_wp2_with fail
        refine cN.mono ?_
        rintro e w7 ⟨rfl, ha7⟩
        have hA7 := HA6.out.trans ha7
        have HO7 := Lib.hid (own_fr HO6.out ha7.2 hpl)
        have HA7 := Lib.hid hA7
        have hs7 := hA7.2.size
        clear ha7 hA7 cN
        go_wp2_with (at_builtin; refine wpList_append_own _ rfl _ _ 39 rfl w.heap.size 9 i0 (.string ByteArray.empty) 1 16 Tryz.underlying39 hi hz0 hz1 hz2 rfl (by decide) _ _ _ rfl (HO7.out.alloc _) ⟨w7.heap.size, 0, none⟩ 1 1 [.string y] rfl rfl ?c1 ?c2 ?c3 ?c4 ?c5 ?_)
        case c1 =>
          intro j u hj
          match j, hj with
          | 0, hj => simp at hj; subst hj; simp [Addr.add]
        case c2 => intro u hu; simp at hu; subst hu; rfl
        case c3 => unfold maxLen; have h1 : k < ws.length := hlt; have h2 : acc.length ≤ k + 1 := hal; omega
        case c4 => have h1 : k < ws.length := hlt; have h2 : acc.length ≤ k + 1 := hal; omega
        case c5 => simp; omega
        intro v' w8 hown' hgrow _
        have hA8 := (HA7.out.alloc (.cells #[.string y] 9)).grown H.out hgrow (fun b hb => (HO7.out.lt b hb).1)
        have HO8 : Hid (w8.ownsRow w.heap.size 9 1 v' (acc ++ [y]).length ((acc ++ [y]).map Value.string)) := by
          show w8.ownsRow _ _ _ _ _ _
          rw [List.length_append, List.map_append]
          simpa using hown'
        have HA8 := Lib.hid hA8
        clear hgrow hown' hA8
        go_wp2
        go_roundw
        case rel => exact ⟨f, acc ++ [y], s6, by have h1 : k < ws.length := hlt; have h2 : ws.length - k < f + 1 := hf; omega, HRES.out, by have h2 : acc.length ≤ k + 1 := hal; rw [List.length_append]; simp only [List.length_cons, List.length_nil]; omega, HO8.out, HA8.out⟩
        case measure => rw [HA8.out.1.pos, HA.out.1.pos]; have h1 : k < ws.length := hlt; show ws.length - s6.1 < ws.length - k; omega
    · have hres := HJ.out
      rw [moreF_stop (.inl rfl)] at hres
      subst hres
      have cS := CW.out _ _ HA.out.1
      clear cI hends hlen
      go_wp2_with fail
      refine cO.mono ?_
      rintro e w5 ⟨rfl, rfl⟩
      go_wp2_with fail
      refine cS.mono ?_
      rintro e w6 ⟨rfl, ha6⟩
      go_wp2
      go_ret
      exact ⟨_, rfl, strsA_own (own_fr HO.out ha6.2 hpl), HA.out.trans ha6⟩
end Go.Proofs.YtknpcbjjofdlmaaGreatDoor
namespace Go.Proofs.YtknpcbjjofdlmaaGreatDoor
open Go.RowKit

def opCells : Array Value := (opTab.map fun x => Value.string ⟨x.toArray⟩).toArray
theorem q_names_any (w : World) :
    Calls Tryz.prog 121 #[] w fun e w' => e = .returned (.slice (some ⟨w.heap.size, 0, none⟩) 10 10) ∧ w' = w.alloc (.cells opCells 9) := by
  go_enter Tryz.func121, Tryz.ntmps121
  go_wp2
  go_ret
  exact ⟨rfl, rfl⟩
theorem op_from_one (t : List UInt8) : opGo (opTab.drop 1) 1 t = opNum t := by
  unfold opNum
  by_cases h : t = []
  · subst h; decide
  · show _ = opGo ([] :: opTab.drop 1) 0 t
    rw [opGo, if_neg (fun e => h e.symm)]

set_option maxHeartbeats 1000000 in
set_option maxRecDepth 100000 in
theorem q_op_any (t : ByteArray) (w : World) :
    Calls Tryz.prog 142 #[.string t] w fun e w' => e = .returned (.int .i64 (opNum t.data.toList : Nat)) ∧ Below w.heap.size w w' := by
  obtain ⟨E, hE⟩ : ∃ E, opNum t.data.toList = E := ⟨_, rfl⟩
  rw [hE]
  have HE := Lib.hid hE
  clear hE
  go_enter Tryz.func142, Tryz.ntmps142
  go_wp2_with fail
  refine (q_names_any w).mono ?_
  rintro e w2 ⟨rfl, hw2⟩
  have hx : Below w.heap.size w w2 := by rw [hw2]; exact (Below.refl _ _).alloc (Nat.le_refl _) _
  have HO : Hid (∀ (k : Nat) x, opTab[k]? = some x → w2.cell? ⟨w.heap.size, k, none⟩ = some (.string ⟨x.toArray⟩)) := by
    show ∀ (k : Nat) x, _
    intro k x hk
    rw [hw2, World.cell?_alloc_at _ _ _ _ rfl]
    unfold opCells
    simp [hk]
  have HX := Lib.hid hx
  clear hw2 hx
  go_wp2
  go_loop [4] (fun i => ∃ k : Nat, i = .int .i64 k ∧ k ≤ 10 ∧ opGo (opTab.drop k) k t.data.toList = E) (fun i => 10 - (intOf i).toNat)
  case atStart => exact ⟨1, rfl, by omega, (op_from_one _).trans HE.out⟩
  case round =>
    obtain ⟨k, rfl, hk, hr⟩ := hrel
    have HR := Lib.hid hr
    clear hr
    by_cases hlt : k < 10
    · obtain ⟨x, hx⟩ : ∃ x, opTab[k]? = some x := ⟨opTab[k]'(by simpa [opTab] using hlt), List.getElem?_eq_getElem _⟩
      have hc := HO.out k x hx
      have hd : opTab.drop k = x :: opTab.drop (k + 1) := by
        obtain ⟨hl, hg⟩ := List.getElem?_eq_some_iff.1 hx
        rw [List.drop_eq_getElem_cons hl, hg]
      have hstep := HR.out
      rw [hd] at hstep
      have hlt' : (k : Int) < 10 := by omega
      obtain ⟨X, hX⟩ : ∃ X : ByteArray, (⟨x.toArray⟩ : ByteArray) = X := ⟨_, rfl⟩
      have hXd : X.data.toList = x := by rw [← hX]
      rw [hX] at hc
      by_cases he : x = t.data.toList
      · have hb : (X.toList == t.toList) = true := by rw [string_beq, hXd]; simp [he]
        have hE : k = E := by rw [← hstep]; simp [opGo, he]
        have HE2 := Lib.hid hE
        clear hE hstep hd hx he hX hXd
        go_wp2
        go_ret
        exact ⟨ret_int (by rw [HE2.out]), HX.out⟩
      · have hb : (X.toList == t.toList) = false := by rw [string_beq, hXd]; simp [he]
        have hE : opGo (opTab.drop (k + 1)) (k + 1) t.data.toList = E := by rw [← hstep]; simp [opGo, he]
        have HE2 := Lib.hid hE
        clear hE hstep hd hx he hX hXd
        go_wp2
        go_round
        case rel => exact ⟨k + 1, by go_num, by omega, HE2.out⟩
        case measure => simp [intOf]; omega
    · have hk10 : k = 10 := by omega
      subst hk10
      have hE : 0 = E := HR.out
      have HE2 := Lib.hid hE
      clear hE
      go_wp2
      go_ret
      exact ⟨ret_int (by rw [← HE2.out]; rfl), HX.out⟩
end Go.Proofs.YtknpcbjjofdlmaaGreatDoor
