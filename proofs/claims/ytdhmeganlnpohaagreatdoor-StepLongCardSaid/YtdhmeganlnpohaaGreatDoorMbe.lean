import Derived.Test.YtdhmeganlnpohaaGreatDoorMbc
import Derived.Test.YtdhmeganlnpohaaGreatDoorMbd
import Derived.Test.YtdhmeganlnpohaaGreatDoorMax
import Derived.Test.YtdhmeganlnpohaaGreatDoorMav
import Derived.Test.YtdhmeganlnpohaaGreatDoorMaw
namespace Go.Proofs.YtdhmeganlnpohaaGreatDoor
open Go.RowKit Go.Shelf Go.Maps
def okN (x : ByteArray) : Bool := okName x.data.toList
def stepFitsB (x : StepS) : Bool := mayB x && okN x.out && x.args.all okN
def formFitsB (r : RuleS) : Bool := okN r.name && r.ins.all okN && decide (0 < r.outs.length) && r.outs.all okN && r.after.all okN && r.steps.all stepFitsB
def sizeFitsB (r : RuleS) : Bool := decide (r.ins.length ≤ 8) && decide (r.outs.length ≤ 4) && decide (r.after.length ≤ 8) && decide (r.steps.length ≤ 12)
def MayW (w : World) : Prop := ∃ m, w.cell? ⟨1, 0, none⟩ = some (.int .i64 m)
theorem cellLt {w : World} {b k : Nat} {v : Value} (h : w.cell? ⟨b, k, none⟩ = some v) : b < w.heap.size := by
 cases hb : w.heap[b]? with
 | none => simp [World.cell?, hb] at h
 | some o => exact (Array.getElem?_eq_some_iff.1 hb).1
theorem smallMax {ks : List ByteArray} (h : SmallL ks 1048576) : ∀ k ∈ ks, k.size ≤ maxLen := fun k hk => by have := h.2 k hk; unfold maxLen; omega
theorem MayW.below {w w' : World} (h : MayW w) (hb : Below w.heap.size w w') : MayW w' := by
 obtain ⟨m, h⟩ := h
 exact ⟨m, (hb.cell (p := ⟨_, 0, none⟩) (cellLt h)).trans h⟩
set_option maxHeartbeats 4000000
set_option maxRecDepth 100000
theorem mayW_any (s : ByteArray) (w : World) (hs : s.size ≤ maxLen) (hm : MayW w) : Calls Tryz.prog 107 #[.string s] w fun e w' => e = .returned (.bool (okN s)) ∧ Below w.heap.size w w' := by
 obtain ⟨m, h⟩ := hm
 exact may_any s m w hs h
theorem mayAll1_any (s : ByteArray) (w : World) (hs : s.size ≤ maxLen) (hm : MayW w) : Calls Tryz.prog 156 #[.string s] w fun e w' => e = .returned (.bool (!okN s)) ∧ Below w.heap.size w w' := by
 have C := Lib.hid (mayW_any s w hs hm)
 clear hs hm
 go_enter Tryz.func156, Tryz.ntmps156
 go_wp2_with (go_at_call 107; refine C.out.mono ?_; rintro e w2 ⟨rfl, hb2⟩)
 go_ret
 exact ⟨rfl, hb2⟩
theorem mayAll_any (v : Value) (xs : List ByteArray) (w : World) (hv : IsStrs w v xs) (hs : ∀ x ∈ xs, x.size ≤ maxLen) (hm : MayW w) : Calls Tryz.prog 108 #[v] w fun e w' => e = .returned (.bool (xs.all okN)) ∧ Below w.heap.size w w' := by
 have cC := conB_str 156 #[] (enters_of Tryz.func156 (by kernel_rfl) rfl) v xs (fun x => !okN x) w.heap.size w (Nat.le_refl _) (fun W hW => hv.below hW) (fun x hx W hW => mayAll1_any x W (hs x hx) (hm.below hW))
 have e : (!xs.any fun x => !okN x) = xs.all okN := by rw [← List.not_all_eq_any_not]; simp
 obtain ⟨r, hr⟩ : ∃ r, (xs.any fun x => !okN x) = r := ⟨_, rfl⟩
 rw [hr] at cC e
 rw [← e]
 have CC := Lib.hid cC
 clear hv hs hm cC e hr
 go_enter Tryz.func108, Tryz.ntmps108
 go_wp2_with (go_at_call 82; refine CC.out.mono ?_; rintro e w2 ⟨rfl, hb2⟩)
 go_ret
 exact ⟨rfl, hb2⟩
theorem stepFits_any (x : StepS) (a1 a2 : Option Addr) (c1 c2 : Nat) (w : World) (ha : IsStrs w (.slice a1 x.args.length c1) x.args) (hl : IsStrs w (.slice a2 x.lits.length c2) x.lits) (hs : SmallS x 1048576) (hm : MayW w) :
  Calls Tryz.prog 111 #[.agg #[.string x.out, .int .i64 x.op, .slice a1 x.args.length c1, .slice a2 x.lits.length c2, .int .i64 x.n]] w fun e w' => e = .returned (.bool (stepFitsB x)) ∧ Below w.heap.size w w' := by
 obtain ⟨W1, hW1⟩ : ∃ W1, w.alloc (.cells #[.string x.out, .int .i64 x.op, .slice a1 x.args.length c1, .slice a2 x.lits.length c2, .int .i64 x.n] 24) = W1 := ⟨_, rfl⟩
 have hb : Below w.heap.size w W1 := by rw [← hW1]; exact (Below.refl _ _).alloc (Nat.le_refl _) _
 have hc : W1.heap[w.heap.size]? = some (.cells #[.string x.out, .int .i64 x.op, .slice a1 x.args.length c1, .slice a2 x.lits.length c2, .int .i64 x.n] 24) := by rw [← hW1]; exact alloc_at w _
 have hs1 : W1.heap.size = w.heap.size + 1 := by rw [← hW1]; simp
 have hD : ∀ W, Below W1.heap.size W1 W → W.heap[w.heap.size]? = some (.cells #[.string x.out, .int .i64 x.op, .slice a1 x.args.length c1, .slice a2 x.lits.length c2, .int .i64 x.n] 24) := fun W h => (h.block _ (by omega)).trans hc
 have q0 : ∀ W, Below W1.heap.size W1 W → Calls Tryz.prog 19 #[.agg #[.string x.out, .int .i64 x.op, .slice a1 x.args.length c1, .slice a2 x.lits.length c2, .int .i64 x.n]] W fun e w' => e = .returned (.bool (mayB x)) ∧ Below W1.heap.size W1 w' := fun W h => (stepMay_any x a1 a2 c1 c2 W (ha.below (hb.trans (h.mono hb.size))) (hl.below (hb.trans (h.mono hb.size)))).mono fun e w' r => ⟨r.1, h.trans (r.2.mono h.size)⟩
 have q1 : ∀ W, Below W1.heap.size W1 W → Calls Tryz.prog 107 #[.string x.out] W fun e w' => e = .returned (.bool (okN x.out)) ∧ Below W1.heap.size W1 w' := fun W h => (mayW_any x.out W (by have := hs.out; unfold maxLen; omega) (hm.below (hb.trans (h.mono hb.size)))).mono fun e w' r => ⟨r.1, h.trans (r.2.mono h.size)⟩
 have q2 : ∀ W, Below W1.heap.size W1 W → Calls Tryz.prog 108 #[.slice a1 x.args.length c1] W fun e w' => e = .returned (.bool (x.args.all okN)) ∧ Below W1.heap.size W1 w' := fun W h => (mayAll_any _ x.args W (ha.below (hb.trans (h.mono hb.size))) (smallMax hs.args) (hm.below (hb.trans (h.mono hb.size)))).mono fun e w' r => ⟨r.1, h.trans (r.2.mono h.size)⟩
 unfold stepFitsB
 obtain ⟨b0, h0⟩ : ∃ b, mayB x = b := ⟨_, rfl⟩
 obtain ⟨b1, h1⟩ : ∃ b, okN x.out = b := ⟨_, rfl⟩
 obtain ⟨b2, h2⟩ : ∃ b, x.args.all okN = b := ⟨_, rfl⟩
 rw [h0] at q0; rw [h1] at q1; rw [h2] at q2
 rw [h0, h1, h2]
 obtain ⟨out, op, args, lits, n⟩ := x
 simp only at q0 q1 q2 hD hb hW1 ⊢
 have Q0 := Lib.hid q0; have Q1 := Lib.hid q1; have Q2 := Lib.hid q2; have HB := Lib.hid hb; have HD := Lib.hid hD; have HW := Lib.hid hW1
 clear q0 q1 q2 hb hD hW1 h0 h1 h2 ha hl hs hm hc hs1
 go_enter Tryz.func111, Tryz.ntmps111
 go_wp2_with fail
 rw [HW.out]
 have R1 : Hid (Below W1.heap.size W1 W1) := Lib.hid (Below.refl _ _)
 obtain ⟨d0, d1, d2, d3, d4, _⟩ := cells5 (HD.out W1 R1.out)
 cases b0
 ·go_wp2_with (first
   | (go_at_call 19; (with_reducible refine (Q0.out _ R1.out).mono ?_); rintro e w2 ⟨rfl, hb2⟩; have HB2 := Lib.hid hb2; obtain ⟨d0, d1, d2, d3, d4, _⟩ := cells5 <| HD.out _ HB2.out; clear hb2))
  go_ret
  exact ⟨rfl, HB.out.trans (HB2.out.mono HB.out.size)⟩
 cases b1
 ·go_wp2_with (first
   | (go_at_call 19; (with_reducible refine (Q0.out _ R1.out).mono ?_); rintro e w2 ⟨rfl, hb2⟩; have HB2 := Lib.hid hb2; obtain ⟨d0, d1, d2, d3, d4, _⟩ := cells5 <| HD.out _ HB2.out; clear hb2)
   | (go_at_call 107; (with_reducible refine (Q1.out _ HB2.out).mono ?_); rintro e w3 ⟨rfl, hb3⟩; have HB3 := Lib.hid hb3; obtain ⟨d0, d1, d2, d3, d4, _⟩ := cells5 <| HD.out _ HB3.out; clear hb3))
  go_ret
  exact ⟨rfl, HB.out.trans (HB3.out.mono HB.out.size)⟩
 cases b2
 ·go_wp2_with (first
   | (go_at_call 19; (with_reducible refine (Q0.out _ R1.out).mono ?_); rintro e w2 ⟨rfl, hb2⟩; have HB2 := Lib.hid hb2; obtain ⟨d0, d1, d2, d3, d4, _⟩ := cells5 <| HD.out _ HB2.out; clear hb2)
   | (go_at_call 107; (with_reducible refine (Q1.out _ HB2.out).mono ?_); rintro e w3 ⟨rfl, hb3⟩; have HB3 := Lib.hid hb3; obtain ⟨d0, d1, d2, d3, d4, _⟩ := cells5 <| HD.out _ HB3.out; clear hb3)
   | (go_at_call 108; (with_reducible refine (Q2.out _ HB3.out).mono ?_); rintro e w4 ⟨rfl, hb4⟩; have HB4 := Lib.hid hb4; obtain ⟨d0, d1, d2, d3, d4, _⟩ := cells5 <| HD.out _ HB4.out; clear hb4))
  go_ret
  exact ⟨rfl, HB.out.trans (HB4.out.mono HB.out.size)⟩
 go_wp2_with (first
  | (go_at_call 19; (with_reducible refine (Q0.out _ R1.out).mono ?_); rintro e w2 ⟨rfl, hb2⟩; have HB2 := Lib.hid hb2; obtain ⟨d0, d1, d2, d3, d4, _⟩ := cells5 <| HD.out _ HB2.out; clear hb2)
  | (go_at_call 107; (with_reducible refine (Q1.out _ HB2.out).mono ?_); rintro e w3 ⟨rfl, hb3⟩; have HB3 := Lib.hid hb3; obtain ⟨d0, d1, d2, d3, d4, _⟩ := cells5 <| HD.out _ HB3.out; clear hb3)
  | (go_at_call 108; (with_reducible refine (Q2.out _ HB3.out).mono ?_); rintro e w4 ⟨rfl, hb4⟩; have HB4 := Lib.hid hb4; obtain ⟨d0, d1, d2, d3, d4, _⟩ := cells5 <| HD.out _ HB4.out; clear hb4))
 go_ret
 exact ⟨rfl, HB.out.trans (HB4.out.mono HB.out.size)⟩
theorem stepFits1_any (x : StepS) (a1 a2 : Option Addr) (c1 c2 : Nat) (w : World) (ha : IsStrs w (.slice a1 x.args.length c1) x.args) (hl : IsStrs w (.slice a2 x.lits.length c2) x.lits) (hs : SmallS x 1048576) (hm : MayW w) :
  Calls Tryz.prog 110 #[.agg #[.string x.out, .int .i64 x.op, .slice a1 x.args.length c1, .slice a2 x.lits.length c2, .int .i64 x.n]] w fun e w' => e = .returned (.bool (!stepFitsB x)) ∧ Below w.heap.size w w' := by
 obtain ⟨W1, hW1⟩ : ∃ W1, w.alloc (.cells #[.string x.out, .int .i64 x.op, .slice a1 x.args.length c1, .slice a2 x.lits.length c2, .int .i64 x.n] 24) = W1 := ⟨_, rfl⟩
 have hb : Below w.heap.size w W1 := by rw [← hW1]; exact (Below.refl _ _).alloc (Nat.le_refl _) _
 have hc : W1.heap[w.heap.size]? = some (.cells #[.string x.out, .int .i64 x.op, .slice a1 x.args.length c1, .slice a2 x.lits.length c2, .int .i64 x.n] 24) := by rw [← hW1]; exact alloc_at w _
 obtain ⟨d0, d1, d2, d3, d4, _⟩ := cells5 hc
 have C := Lib.hid (stepFits_any x a1 a2 c1 c2 W1 (ha.below hb) (hl.below hb) hs (hm.below hb))
 obtain ⟨b0, h0⟩ : ∃ b, stepFitsB x = b := ⟨_, rfl⟩
 rw [h0] at C ⊢
 obtain ⟨out, op, args, lits, n⟩ := x
 simp only at C d0 d1 d2 d3 d4 hW1 ⊢
 have HB := Lib.hid hb; have HW := Lib.hid hW1
 clear hb hW1 hc ha hl hs hm h0
 go_enter Tryz.func110, Tryz.ntmps110
 go_wp2_with (go_at_call 111; rw [HW.out]; (with_reducible refine C.out.mono ?_); rintro e w2 ⟨rfl, hb2⟩)
 go_ret
 exact ⟨rfl, HB.out.trans (hb2.mono HB.out.size)⟩
theorem any_rangeS (xs : List StepS) (q : StepS → Bool) (p : Nat → Bool) (h : ∀ (k : Nat) x, xs[k]? = some x → p k = q x) : (List.range xs.length).any p = xs.any q := by
 rw [Bool.eq_iff_iff, List.any_eq_true, List.any_eq_true]
 constructor
 ·rintro ⟨k, hk, hp⟩
  have hk := List.mem_range.1 hk
  exact ⟨xs[k], List.getElem_mem hk, by rw [← h k _ (List.getElem?_eq_getElem hk)]; exact hp⟩
 ·rintro ⟨x, hx, hp⟩
  obtain ⟨k, hk, e⟩ := List.getElem_of_mem hx
  exact ⟨k, List.mem_range.2 hk, by rw [h k x (by rw [List.getElem?_eq_getElem hk, e])]; exact hp⟩
theorem conB_step (fid : Nat) (caps : Array Value) (eg : ∀ args w, (callFunc fid args).run Tryz.prog w = .ok (.enter fid args) w) (v : Value) (xs : List StepS) (q : StepS → Bool) (w : World) (hv : StepsI w v xs)
  (hf : ∀ x ∈ xs, ∀ (a1 a2 : Option Addr) (c1 c2 : Nat) W, Below w.heap.size w W → IsStrs W (.slice a1 x.args.length c1) x.args → IsStrs W (.slice a2 x.lits.length c2) x.lits → Calls Tryz.prog fid (#[.agg #[.string x.out, .int .i64 x.op, .slice a1 x.args.length c1, .slice a2 x.lits.length c2, .int .i64 x.n]] ++ caps) W fun e W' => e = .returned (.bool (q x)) ∧ Below W.heap.size W W') :
  Calls Tryz.prog 109 #[v, .func (.func fid) #[] caps] w fun e w' => e = .returned (.bool (xs.any q)) ∧ Below w.heap.size w w' := by
 obtain ⟨rows, hrow, hall⟩ := hv
 obtain ⟨a, c, rfl, h1, h2, h3⟩ := id hrow
 have hq : ∀ (k : Nat) x, xs[k]? = some x → ∃ r, rows[k]? = some r ∧ StepI w r x := by
  intro k x hx
  have hk : k < rows.length := by rw [hall.1]; exact (List.getElem?_eq_some_iff.1 hx).1
  exact ⟨rows[k], List.getElem?_eq_getElem hk, hall.2 k _ x (List.getElem?_eq_getElem hk) hx⟩
 have hx : ∀ (k : Nat), k < rows.length → ∃ x, xs[k]? = some x := fun k hk => ⟨xs[k]'(by rw [← hall.1]; exact hk), List.getElem?_eq_getElem _⟩
 refine (con_step fid caps eg a rows.length c (Nat.le_trans h1 h2) (fun k => (rows.getD k []).getD 0 undef) (fun k => (rows.getD k []).getD 1 undef) (fun k => (rows.getD k []).getD 2 undef) (fun k => (rows.getD k []).getD 3 undef) (fun k => (rows.getD k []).getD 4 undef) (fun k => (xs[k]?.map q).getD false) (fun _ W => Below w.heap.size w W) w (fun k W hk hW => ?_) (fun k W hk _ hW => ?_) (Below.refl _ _)).mono ?_
 ·obtain ⟨x, hkx⟩ := hx k hk
  obtain ⟨r, hr, va, vl, e5, _, _⟩ := hq k x hkx
  obtain ⟨b, o, rfl, hb, hc⟩ := h3 (by rintro rfl; simp at hk)
  refine ⟨b, o, rfl, ?_⟩
  have hgd : rows.getD k [] = r := by rw [List.getD_eq_getElem?_getD, hr]; rfl
  have hcc : ∀ (i : Nat) u, r[i]? = some u → W.cell? ⟨b, o + k * 5 + i, none⟩ = some u := fun i u hu => (hW.cell (p := ⟨b, _, none⟩) hb).trans (hc k r hr i u hu)
  simp only [hgd]
  subst e5
  exact ⟨hcc 0 _ rfl, hcc 1 _ rfl, hcc 2 _ rfl, hcc 3 _ rfl, hcc 4 _ rfl⟩
 ·obtain ⟨x, hkx⟩ := hx k hk
  obtain ⟨r, hr, va, vl, e5, hA, hL⟩ := hq k x hkx
  obtain ⟨b1, m1, rfl⟩ := isStrs_shape hA
  obtain ⟨b2, m2, rfl⟩ := isStrs_shape hL
  have hgd : rows.getD k [] = r := by rw [List.getD_eq_getElem?_getD, hr]; rfl
  simp only [hgd]
  subst e5
  refine (hf x (List.mem_of_getElem? hkx) b1 b2 m1 m2 W hW (hA.below hW) (hL.below hW)).mono ?_
  rintro e W' ⟨rfl, hb⟩
  exact ⟨by rw [hkx]; rfl, hW.trans (hb.mono hW.size)⟩
 ·intro e w' h
  obtain ⟨rfl, k, _, hb⟩ := h.any
  exact ⟨by rw [hall.1, any_rangeS xs q _ (fun k x hkx => by rw [hkx]; rfl)], hb⟩
theorem formFits_any (r : RuleS) (a1 a2 a3 a4 : Option Addr) (c1 c2 c3 c4 : Nat) (w : World) (hr : RuleI w [.string r.name, .slice a1 r.ins.length c1, .slice a2 r.outs.length c2, .slice a3 r.after.length c3, .slice a4 r.steps.length c4] r) (hs : SmallR r 1048576) (hm : MayW w) :
  Calls Tryz.prog 77 #[.agg (ruleV r a1 a2 a3 a4 c1 c2 c3 c4)] w fun e w' => e = .returned (.bool (formFitsB r)) ∧ Below w.heap.size w w' := by
 obtain ⟨vi, vo, vf, vst, qe, h1, h2, h3, h4⟩ := hr
 simp only [List.cons.injEq, and_true, true_and] at qe
 obtain ⟨rfl, rfl, rfl, rfl⟩ := qe
 obtain ⟨W1, hW1⟩ : ∃ W1, w.alloc (.cells (ruleV r a1 a2 a3 a4 c1 c2 c3 c4) 45) = W1 := ⟨_, rfl⟩
 have hb : Below w.heap.size w W1 := by rw [← hW1]; exact (Below.refl _ _).alloc (Nat.le_refl _) _
 have hc : W1.heap[w.heap.size]? = some (.cells (ruleV r a1 a2 a3 a4 c1 c2 c3 c4) 45) := by rw [← hW1]; exact alloc_at w _
 have hs1 : W1.heap.size = w.heap.size + 1 := by rw [← hW1]; simp
 have hD : ∀ W, Below W1.heap.size W1 W → W.heap[w.heap.size]? = some (.cells (ruleV r a1 a2 a3 a4 c1 c2 c3 c4) 45) := fun W h => (h.block _ (by omega)).trans hc
 have q0 : ∀ W, Below W1.heap.size W1 W → Calls Tryz.prog 107 #[.string r.name] W fun e w' => e = .returned (.bool (okN r.name)) ∧ Below W1.heap.size W1 w' := fun W h => (mayW_any r.name W (by have := hs.name; unfold maxLen; omega) (hm.below (hb.trans (h.mono hb.size)))).mono fun e w' r => ⟨r.1, h.trans (r.2.mono h.size)⟩
 have q1 : ∀ W, Below W1.heap.size W1 W → Calls Tryz.prog 108 #[.slice a1 r.ins.length c1] W fun e w' => e = .returned (.bool (r.ins.all okN)) ∧ Below W1.heap.size W1 w' := fun W h => (mayAll_any _ r.ins W (h1.below (hb.trans (h.mono hb.size))) (smallMax hs.ins) (hm.below (hb.trans (h.mono hb.size)))).mono fun e w' r => ⟨r.1, h.trans (r.2.mono h.size)⟩
 have q3 : ∀ W, Below W1.heap.size W1 W → Calls Tryz.prog 108 #[.slice a2 r.outs.length c2] W fun e w' => e = .returned (.bool (r.outs.all okN)) ∧ Below W1.heap.size W1 w' := fun W h => (mayAll_any _ r.outs W (h2.below (hb.trans (h.mono hb.size))) (smallMax hs.outs) (hm.below (hb.trans (h.mono hb.size)))).mono fun e w' r => ⟨r.1, h.trans (r.2.mono h.size)⟩
 have q4 : ∀ W, Below W1.heap.size W1 W → Calls Tryz.prog 108 #[.slice a3 r.after.length c3] W fun e w' => e = .returned (.bool (r.after.all okN)) ∧ Below W1.heap.size W1 w' := fun W h => (mayAll_any _ r.after W (h3.below (hb.trans (h.mono hb.size))) (smallMax hs.after) (hm.below (hb.trans (h.mono hb.size)))).mono fun e w' r => ⟨r.1, h.trans (r.2.mono h.size)⟩
 have q5 : ∀ W, Below W1.heap.size W1 W → Calls Tryz.prog 109 #[.slice a4 r.steps.length c4, .func (.func 110) #[] #[]] W fun e w' => e = .returned (.bool (r.steps.any fun x => !stepFitsB x)) ∧ Below W1.heap.size W1 w' := fun W h => (conB_step 110 #[] (enters_of Tryz.func110 (by kernel_rfl) rfl) _ r.steps (fun x => !stepFitsB x) W (h4.below (hb.trans (h.mono hb.size))) (fun x hx a1 a2 c1 c2 W2 hW2 hA hL => stepFits1_any x a1 a2 c1 c2 W2 hA hL (hs.steps x hx) ((hm.below (hb.trans (h.mono hb.size))).below hW2))).mono fun e w' r => ⟨r.1, h.trans (r.2.mono h.size)⟩
 have e5 : (!r.steps.any fun x => !stepFitsB x) = r.steps.all stepFitsB := by rw [← List.not_all_eq_any_not]; simp
 have houts : r.outs.length ≤ 1048576 := hs.outs.1
 unfold formFitsB
 rw [← e5]
 obtain ⟨b0, h0⟩ : ∃ b, okN r.name = b := ⟨_, rfl⟩
 obtain ⟨b1, g1⟩ : ∃ b, r.ins.all okN = b := ⟨_, rfl⟩
 obtain ⟨b2, g2⟩ : ∃ b, decide (0 < r.outs.length) = b := ⟨_, rfl⟩
 obtain ⟨b3, g3⟩ : ∃ b, r.outs.all okN = b := ⟨_, rfl⟩
 obtain ⟨b4, g4⟩ : ∃ b, r.after.all okN = b := ⟨_, rfl⟩
 obtain ⟨b5, g5⟩ : ∃ b, (r.steps.any fun x => !stepFitsB x) = b := ⟨_, rfl⟩
 rw [h0] at q0; rw [g1] at q1; rw [g3] at q3; rw [g4] at q4; rw [g5] at q5
 rw [h0, g1, g2, g3, g4, g5]
 obtain ⟨name, insN, outsN, after, steps⟩ := r
 simp only [ruleV] at q0 q1 q3 q4 q5 hD hb hW1 houts g2 ⊢
 have Q0 := Lib.hid q0; have Q1 := Lib.hid q1; have Q3 := Lib.hid q3; have Q4 := Lib.hid q4; have Q5 := Lib.hid q5; have HB := Lib.hid hb; have HD := Lib.hid hD; have HW := Lib.hid hW1
 clear q0 q1 q3 q4 q5 hb hD hW1 h0 g1 g3 g4 g5 h1 h2 h3 h4 hs hm hc hs1 e5
 have hmf : ∀ (fn : Fn) (first cap : Array Value) (w : World), (Instr.makeFunc fn first cap).run Tryz.prog w = .ok (.func fn first cap) w := fun _ _ _ _ => rfl
 go_enter Tryz.func77, Tryz.ntmps77
 go_wp2_with fail
 rw [HW.out]
 have R1 : Hid (Below W1.heap.size W1 W1) := Lib.hid (Below.refl _ _)
 obtain ⟨d0, d1, d2, d3, d4, _⟩ := cells5 (HD.out W1 R1.out)
 cases b0
 ·go_wp2_with (first
   | (go_at_call 107; (with_reducible refine (Q0.out _ R1.out).mono ?_); rintro e w2 ⟨rfl, hb2⟩; have HB2 := Lib.hid hb2; obtain ⟨d0, d1, d2, d3, d4, _⟩ := cells5 <| HD.out _ HB2.out; clear hb2))
  go_ret
  exact ⟨rfl, HB.out.trans (HB2.out.mono HB.out.size)⟩
 cases b1
 ·go_wp2_with (first
   | (go_at_call 107; (with_reducible refine (Q0.out _ R1.out).mono ?_); rintro e w2 ⟨rfl, hb2⟩; have HB2 := Lib.hid hb2; obtain ⟨d0, d1, d2, d3, d4, _⟩ := cells5 <| HD.out _ HB2.out; clear hb2)
   | (go_at_call 108; (with_reducible refine (Q1.out _ HB2.out).mono ?_); rintro e w3 ⟨rfl, hb3⟩; have HB3 := Lib.hid hb3; obtain ⟨d0, d1, d2, d3, d4, _⟩ := cells5 <| HD.out _ HB3.out; clear hb3))
  go_ret
  exact ⟨rfl, HB.out.trans (HB3.out.mono HB.out.size)⟩
 cases b2
 ·have hzi : ¬ (0 : Int) < (outsN.length : Int) := by have := of_decide_eq_false g2; omega
  go_wp2_with (first
   | (go_at_call 107; (with_reducible refine (Q0.out _ R1.out).mono ?_); rintro e w2 ⟨rfl, hb2⟩; have HB2 := Lib.hid hb2; obtain ⟨d0, d1, d2, d3, d4, _⟩ := cells5 <| HD.out _ HB2.out; clear hb2)
   | (go_at_call 108; (with_reducible refine (Q1.out _ HB2.out).mono ?_); rintro e w3 ⟨rfl, hb3⟩; have HB3 := Lib.hid hb3; obtain ⟨d0, d1, d2, d3, d4, _⟩ := cells5 <| HD.out _ HB3.out; clear hb3))
  go_ret
  exact ⟨rfl, HB.out.trans (HB3.out.mono HB.out.size)⟩
 have hzi : (0 : Int) < (outsN.length : Int) := by have := of_decide_eq_true g2; omega
 cases b3
 ·go_wp2_with (first
   | (go_at_call 107; (with_reducible refine (Q0.out _ R1.out).mono ?_); rintro e w2 ⟨rfl, hb2⟩; have HB2 := Lib.hid hb2; obtain ⟨d0, d1, d2, d3, d4, _⟩ := cells5 <| HD.out _ HB2.out; clear hb2)
   | (go_at_call 108; (with_reducible refine (Q1.out _ HB2.out).mono ?_); rintro e w3 ⟨rfl, hb3⟩; have HB3 := Lib.hid hb3; obtain ⟨d0, d1, d2, d3, d4, _⟩ := cells5 <| HD.out _ HB3.out; clear hb3)
   | (go_at_call 108; (with_reducible refine (Q3.out _ HB3.out).mono ?_); rintro e w5 ⟨rfl, hb5⟩; have HB5 := Lib.hid hb5; obtain ⟨d0, d1, d2, d3, d4, _⟩ := cells5 <| HD.out _ HB5.out; clear hb5))
  go_ret
  exact ⟨rfl, HB.out.trans (HB5.out.mono HB.out.size)⟩
 cases b4
 ·go_wp2_with (first
   | (go_at_call 107; (with_reducible refine (Q0.out _ R1.out).mono ?_); rintro e w2 ⟨rfl, hb2⟩; have HB2 := Lib.hid hb2; obtain ⟨d0, d1, d2, d3, d4, _⟩ := cells5 <| HD.out _ HB2.out; clear hb2)
   | (go_at_call 108; (with_reducible refine (Q1.out _ HB2.out).mono ?_); rintro e w3 ⟨rfl, hb3⟩; have HB3 := Lib.hid hb3; obtain ⟨d0, d1, d2, d3, d4, _⟩ := cells5 <| HD.out _ HB3.out; clear hb3)
   | (go_at_call 108; (with_reducible refine (Q3.out _ HB3.out).mono ?_); rintro e w5 ⟨rfl, hb5⟩; have HB5 := Lib.hid hb5; obtain ⟨d0, d1, d2, d3, d4, _⟩ := cells5 <| HD.out _ HB5.out; clear hb5)
   | (go_at_call 108; (with_reducible refine (Q4.out _ HB5.out).mono ?_); rintro e w6 ⟨rfl, hb6⟩; have HB6 := Lib.hid hb6; obtain ⟨d0, d1, d2, d3, d4, _⟩ := cells5 <| HD.out _ HB6.out; clear hb6))
  go_ret
  exact ⟨rfl, HB.out.trans (HB6.out.mono HB.out.size)⟩
 cases b5
 ·go_wp2_with (first
   | (go_at_call 107; (with_reducible refine (Q0.out _ R1.out).mono ?_); rintro e w2 ⟨rfl, hb2⟩; have HB2 := Lib.hid hb2; obtain ⟨d0, d1, d2, d3, d4, _⟩ := cells5 <| HD.out _ HB2.out; clear hb2)
   | (go_at_call 108; (with_reducible refine (Q1.out _ HB2.out).mono ?_); rintro e w3 ⟨rfl, hb3⟩; have HB3 := Lib.hid hb3; obtain ⟨d0, d1, d2, d3, d4, _⟩ := cells5 <| HD.out _ HB3.out; clear hb3)
   | (go_at_call 108; (with_reducible refine (Q3.out _ HB3.out).mono ?_); rintro e w5 ⟨rfl, hb5⟩; have HB5 := Lib.hid hb5; obtain ⟨d0, d1, d2, d3, d4, _⟩ := cells5 <| HD.out _ HB5.out; clear hb5)
   | (go_at_call 108; (with_reducible refine (Q4.out _ HB5.out).mono ?_); rintro e w6 ⟨rfl, hb6⟩; have HB6 := Lib.hid hb6; obtain ⟨d0, d1, d2, d3, d4, _⟩ := cells5 <| HD.out _ HB6.out; clear hb6)
   | (go_at_call 109; (with_reducible refine (Q5.out _ HB6.out).mono ?_); rintro e w7 ⟨rfl, hb7⟩; have HB7 := Lib.hid hb7; obtain ⟨d0, d1, d2, d3, d4, _⟩ := cells5 <| HD.out _ HB7.out; clear hb7))
  go_ret
  exact ⟨rfl, HB.out.trans (HB7.out.mono HB.out.size)⟩
 go_wp2_with (first
  | (go_at_call 107; (with_reducible refine (Q0.out _ R1.out).mono ?_); rintro e w2 ⟨rfl, hb2⟩; have HB2 := Lib.hid hb2; obtain ⟨d0, d1, d2, d3, d4, _⟩ := cells5 <| HD.out _ HB2.out; clear hb2)
  | (go_at_call 108; (with_reducible refine (Q1.out _ HB2.out).mono ?_); rintro e w3 ⟨rfl, hb3⟩; have HB3 := Lib.hid hb3; obtain ⟨d0, d1, d2, d3, d4, _⟩ := cells5 <| HD.out _ HB3.out; clear hb3)
  | (go_at_call 108; (with_reducible refine (Q3.out _ HB3.out).mono ?_); rintro e w5 ⟨rfl, hb5⟩; have HB5 := Lib.hid hb5; obtain ⟨d0, d1, d2, d3, d4, _⟩ := cells5 <| HD.out _ HB5.out; clear hb5)
  | (go_at_call 108; (with_reducible refine (Q4.out _ HB5.out).mono ?_); rintro e w6 ⟨rfl, hb6⟩; have HB6 := Lib.hid hb6; obtain ⟨d0, d1, d2, d3, d4, _⟩ := cells5 <| HD.out _ HB6.out; clear hb6)
  | (go_at_call 109; (with_reducible refine (Q5.out _ HB6.out).mono ?_); rintro e w7 ⟨rfl, hb7⟩; have HB7 := Lib.hid hb7; obtain ⟨d0, d1, d2, d3, d4, _⟩ := cells5 <| HD.out _ HB7.out; clear hb7))
 go_ret
 exact ⟨rfl, HB.out.trans (HB7.out.mono HB.out.size)⟩
theorem sizeFits_any (r : RuleS) (a1 a2 a3 a4 : Option Addr) (c1 c2 c3 c4 : Nat) (w : World) (hs : SmallR r 1048576) :
  Calls Tryz.prog 78 #[.agg (ruleV r a1 a2 a3 a4 c1 c2 c3 c4)] w fun e w' => e = .returned (.bool (sizeFitsB r)) ∧ Below w.heap.size w w' := by
 have hl1 := hs.ins.1; have hl2 := hs.outs.1; have hl3 := hs.after.1; have hl4 := hs.few
 unfold sizeFitsB
 obtain ⟨b1, g1⟩ : ∃ b, decide (r.ins.length ≤ 8) = b := ⟨_, rfl⟩
 obtain ⟨b2, g2⟩ : ∃ b, decide (r.outs.length ≤ 4) = b := ⟨_, rfl⟩
 obtain ⟨b3, g3⟩ : ∃ b, decide (r.after.length ≤ 8) = b := ⟨_, rfl⟩
 obtain ⟨b4, g4⟩ : ∃ b, decide (r.steps.length ≤ 12) = b := ⟨_, rfl⟩
 rw [g1, g2, g3, g4]
 obtain ⟨name, insN, outsN, after, steps⟩ := r
 simp only [ruleV] at g1 g2 g3 g4 hl1 hl2 hl3 hl4 ⊢
 clear hs
 cases b1
 ·have h1 : ¬ (insN.length : Int) ≤ 8 := by have := of_decide_eq_false g1; omega
  go_enter Tryz.func78, Tryz.ntmps78
  go_wp2
  go_ret
  exact ⟨rfl, (Below.refl _ _).alloc (Nat.le_refl _) _⟩
 have h1 : (insN.length : Int) ≤ 8 := by have := of_decide_eq_true g1; omega
 cases b2
 ·have h2 : ¬ (outsN.length : Int) ≤ 4 := by have := of_decide_eq_false g2; omega
  go_enter Tryz.func78, Tryz.ntmps78
  go_wp2
  go_ret
  exact ⟨rfl, (Below.refl _ _).alloc (Nat.le_refl _) _⟩
 have h2 : (outsN.length : Int) ≤ 4 := by have := of_decide_eq_true g2; omega
 cases b3
 ·have h3 : ¬ (after.length : Int) ≤ 8 := by have := of_decide_eq_false g3; omega
  go_enter Tryz.func78, Tryz.ntmps78
  go_wp2
  go_ret
  exact ⟨rfl, (Below.refl _ _).alloc (Nat.le_refl _) _⟩
 have h3 : (after.length : Int) ≤ 8 := by have := of_decide_eq_true g3; omega
 have h4 : decide ((steps.length : Int) ≤ 12) = b4 := by rw [← g4, Bool.eq_iff_iff, decide_eq_true_eq, decide_eq_true_eq]; omega
 have H4 := Lib.hid h4
 clear h4 g4
 go_enter Tryz.func78, Tryz.ntmps78
 go_wp2
 go_ret
 exact ⟨congrArg (fun b => Ending.returned (.bool b)) H4.out, (Below.refl _ _).alloc (Nat.le_refl _) _⟩
end Go.Proofs.YtdhmeganlnpohaaGreatDoor
namespace Go.Proofs.YtdhmeganlnpohaaGreatDoor
open Go.RowKit Go.Shelf
def bwD (rows : List (List Value)) : Nat → List (Nat × List Value)
 | 0 => []
 | k + 1 => (k, rows.getD k []) :: bwD rows k
def KeepBG (sb : Nat) (a : Option Addr) (A B : World) : Prop := B.heap[sb]? = A.heap[sb]? ∧ ∀ g, (a.map Addr.block) = some g → B.heap[g]? = A.heap[g]?
theorem keepBG_put {b : Nat} {a : Option Addr} {w : World} (h : b < w.heap.size) (ha : ∀ g, (a.map Addr.block) = some g → g < w.heap.size) (W : World) (l : Nat) (o o' : Obj) (hl : w.heap.size ≤ l) (_ : W.heap[l]? = some o) (_ : o.isCells = false) (_ : o.isWalk = false) : KeepBG b a W (W.putObj l o') :=
 ⟨World.putObj_heap_other (by omega), fun g hg => World.putObj_heap_other (by have := ha g hg; omega)⟩
section
attribute [local go_sem] Oper.semAt_some
set_option maxRecDepth 100000
set_option maxHeartbeats 4000000
theorem backward_all (n : Nat) (hn : 1 ≤ n) (sb : Nat) (a : Option Addr) (c : Nat) (rows : List (List Value)) (w : World) (hb : Boxed w sb 43 (.slice a rows.length c)) (hr : IsRow w (.slice a rows.length c) 5 rows) (h5 : ∀ r ∈ rows, ∃ v0 v1 v2 v3 v4, r = [v0, v1, v2, v3, v4]) (a0 : Option Addr) (ha0 : rows ≠ [] → a0 = a) :
  SeqAll Fence.wide n Tryz.prog 137 #[.pointer (some ⟨sb, 0, none⟩)] (fun x : Nat × List Value => #[.int .i64 (x.1 : Int), .agg x.2.toArray]) (fun A B => A = B) (KeepBG sb a0) (bwD rows rows.length) w := by
 obtain ⟨a', c', e, hlc, hcm, hcells⟩ := hr
 cases e
 intro l J W hW _ hY h0
 have hbW : Boxed W sb 43 (.slice a rows.length c) := (hW.block sb hb.lt).trans hb
 have hC : ∀ (k : Nat) r, rows[k]? = some r → ∃ g o, a = some ⟨g, o, none⟩ ∧ ∀ w' : World, w'.heap[g]? = W.heap[g]? → ∀ (i : Nat) u, r[i]? = some u → w'.cell? ⟨g, o + k * 5 + i, none⟩ = some u := by
  intro k r hkr
  obtain ⟨g, o, e, hg, hc⟩ := hcells (by rintro rfl; simp at hkr)
  exact ⟨g, o, e, fun w' hw i u hu => (World.cell?_of_block (a := ⟨g, o + k * 5 + i, none⟩) (hw.trans (hW.block g hg))).trans (hc k r hkr i u hu)⟩
 have HC := Lib.hid hC
 have H5 := Lib.hid h5
 clear hb hW hcells hC h5
 unfold maxLen at hcm
 show CallsIn Fence.wide n Tryz.prog 137 #[.func (.yield l) #[] #[], .pointer (some ⟨sb, 0, none⟩)] W _
 refine callsIn_of_wp Tryz.func137 rfl trivial ?_ rfl
 simp only [Tryz.ntmps137, List.size_toArray, List.length_cons, List.length_nil, Nat.reduceAdd, Nat.reduceSub, Array.replicate_succ, Array.replicate_zero, List.push_toArray, List.append_toArray, List.nil_append, List.cons_append]
 have hcW := hbW.cell
 have hi9 : (0 : Int) ≤ (rows.length : Int) := by omega
 gi_wp2
 gi_loopw [3] (fun iv wr => ∃ (k : Nat) (pre : List (Nat × List Value)), k ≤ rows.length ∧ iv = .int .i64 ((k : Int) - 1) ∧ bwD rows rows.length = pre ++ bwD rows k ∧ wr.heap[sb]? = W.heap[sb]? ∧ (∀ g, (a0.map Addr.block) = some g → wr.heap[g]? = W.heap[g]?) ∧ J pre wr) (fun iv _ => (intOf iv + 1).toNat)
 case atStart => exact ⟨rows.length, [], Nat.le_refl _, rfl, rfl, rfl, fun _ _ => rfl, h0⟩
 case round =>
  obtain ⟨k, pre, hk, rfl, hx, hsb, hga, hJs⟩ := hrel
  have hc : wr.cell? ⟨sb, 0, none⟩ = some (.slice a rows.length c) := (World.cell?_of_block (a := ⟨sb, 0, none⟩) hsb).trans hcW
  cases k with
  | zero =>
   have hx' : bwD rows rows.length = pre := by rw [hx]; simp [bwD]
   have HX := Lib.hid hx'
   have HJ := Lib.hid hJs
   clear hx hx' hY h0 hJs hga hsb
   gi_wp2
   go_end0
   exact ⟨⟨_, rfl⟩, by rw [HX.out]; exact HJ.out⟩
  | succ k =>
   obtain ⟨r, hr⟩ : ∃ r, rows[k]? = some r := ⟨rows[k], List.getElem?_eq_getElem (by omega)⟩
   have hgd : rows.getD k [] = r := by rw [List.getD_eq_getElem?_getD, hr]; rfl
   obtain ⟨g, o, ha, hcr⟩ := HC.out k r hr
   obtain ⟨v0, v1, v2, v3, v4, hr5⟩ := H5.out r (List.mem_of_getElem? hr)
   have hcc := hcr wr (hga g (by rw [ha0 (by rintro rfl; simp at hr), ha]; rfl))
   rw [hr5] at hcc
   have e0 := hcc 0 _ rfl
   have e1 := hcc 1 _ rfl
   have e2 := hcc 2 _ rfl
   have e3 := hcc 3 _ rfl
   have e4 := hcc 4 _ rfl
   simp only [Nat.add_zero] at e0
   obtain ⟨fn, tmps, assign, body, hy, hR⟩ := hY pre (k, r) (bwD rows k) wr (by rw [hx, bwD, hgd]) hJs
   have HX := Lib.hid (show bwD rows rows.length = (pre ++ [(k, r)]) ++ bwD rows k by rw [hx, bwD, hgd]; simp)
   have HGA := Lib.hid hga
   have HSB := Lib.hid hsb
   subst hr5
   have hkk : ((k + 1 : Nat) : Int) - 1 = (k : Int) := by omega
   have hi0 : (0 : Int) ≤ (k : Int) := by omega
   have hi1 : (k : Int) < (rows.length : Int) := by omega
   have HA := Lib.hid ha
   rw [ha] at hc
   rw [hkk]
   dsimp only at hy
   clear hx hY h0 hJs hcc hr hgd hcr hga hsb ha hkk
   gi_wp2
   refine hR.mono ?_
   rintro e W3 ⟨rfl, hJ3, hk3, hk4⟩
   have HK := Lib.hid (show (intOf (.int .i64 ((k : Int) - 1)) + 1).toNat < (intOf (.int .i64 (k : Int)) + 1).toNat by simp [intOf])
   gi_wp2
   go_roundw
   case rel => exact ⟨k, pre ++ [(k, _)], by omega, rfl, HX.out, hk3.trans HSB.out, fun g' hg' => (hk4 g' hg').trans (HGA.out g' hg'), hJ3⟩
   case measure => simp [intOf]
end
end Go.Proofs.YtdhmeganlnpohaaGreatDoor
namespace Go.Proofs.YtdhmeganlnpohaaGreatDoor
open Go.Lib
def needF (outs : List ByteArray) : List StepS → List Bool × List ByteArray
 | [] => ([], outs)
 | s :: r => if 0 ≤ findI (needF outs r).2 s.out then (true :: (needF outs r).1, (needF outs r).2 ++ s.args) else (false :: (needF outs r).1, (needF outs r).2)
theorem needF_len (outs : List ByteArray) : ∀ l : List StepS, (needF outs l).1.length = l.length
 | [] => rfl
 | s :: r => by unfold needF; split <;> simp [needF_len outs r]
def whL (b : Bool) : Nat → List Bool → List Nat
 | _, [] => []
 | k, m :: r => if m = b then k :: whL b (k + 1) r else whL b (k + 1) r
theorem whL_append (b : Bool) : ∀ (l : List Bool) (k : Nat) (m : Bool), whL b k (l ++ [m]) = whL b k l ++ if m = b then [k + l.length] else []
 | [], k, m => by simp [whL]
 | x :: l, k, m => by
  rw [List.cons_append, whL, whL, whL_append b l (k + 1) m]
  split <;> simp [Nat.add_assoc, Nat.add_comm 1]
theorem whL_mem (b : Bool) : ∀ (l : List Bool) (k j : Nat), j ∈ whL b k l ↔ k ≤ j ∧ l[j - k]? = some b
 | [], k, j => by simp [whL]
 | x :: l, k, j => by
  rw [whL]
  have ih := whL_mem b l (k + 1) j
  by_cases hj : j = k
  ·subst hj
   have hno : j ∉ whL b (j + 1) l := fun h => by have := (ih.1 h).1; omega
   split
   ·rename_i e; simp [e]
   ·rename_i e; simp [e, hno]
  ·have hsub : k + 1 ≤ j → (x :: l)[j - k]? = l[j - (k + 1)]? := fun h => by
    obtain ⟨d, rfl⟩ : ∃ d, j = k + 1 + d := ⟨j - (k + 1), by omega⟩
    rw [show k + 1 + d - k = d + 1 by omega, show k + 1 + d - (k + 1) = d by omega]
    simp
   have e2 : (k + 1 ≤ j ∧ l[j - (k + 1)]? = some b) ↔ (k ≤ j ∧ (x :: l)[j - k]? = some b) := by
    constructor
    ·rintro ⟨h1, h2⟩; exact ⟨by omega, by rw [hsub h1]; exact h2⟩
    ·rintro ⟨h1, h2⟩; have h3 : k + 1 ≤ j := by omega
     exact ⟨h3, by rw [← hsub h3]; exact h2⟩
   split
   ·rw [List.mem_cons, ih, e2]; simp [hj]
   ·rw [ih, e2]
theorem whL_lt (b : Bool) (l : List Bool) : ∀ j ∈ whL b 0 l, j < l.length := fun j hj => (List.getElem?_eq_some_iff.1 ((whL_mem b l 0 j).1 hj).2).1
theorem whL_len (b : Bool) : ∀ (l : List Bool) (k : Nat), (whL b k l).length ≤ l.length
 | [], _ => Nat.le_refl _
 | x :: l, k => by rw [whL]; have := whL_len b l (k + 1); split <;> simp <;> omega
def argsM : List StepS → List Bool → List ByteArray
 | s :: r, m :: ms => if m = true then s.args ++ argsM r ms else argsM r ms
 | _, _ => []
def readP (r : RuleS) (outs : List ByteArray) : List ByteArray := srtB (r.ins.filter fun a => decide (0 ≤ findI (argsM r.steps (needF outs r.steps).1) a))
end Go.Proofs.YtdhmeganlnpohaaGreatDoor
