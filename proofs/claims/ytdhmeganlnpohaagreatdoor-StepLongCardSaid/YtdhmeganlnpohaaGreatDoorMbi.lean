import Derived.Test.YtdhmeganlnpohaaGreatDoorMbh
namespace Go.Proofs.YtdhmeganlnpohaaGreatDoor
open Go.RowKit Go.Shelf Go.Maps
def onceB (l : List ByteArray) : Bool := decide ((addS [] l).length = l.length)
def namesFitB (r : RuleS) : Bool := onceB r.ins && onceB r.outs && onceB r.after && !inS (addS [] r.after) r.name && followB r.outs (addS [] r.ins) [] r.steps
structure NamF (w : World) (n : Nat) (o : Obj) (S : List ByteArray) (W : World) : Prop where
 box : W.heap[n]? = some o
 set : SetIs W (n + 3) S
 size : n + 4 ≤ W.heap.size
 below : Below n w W
theorem NamF.alloc {w : World} {n : Nat} {o : Obj} {S : List ByteArray} {W : World} (h : NamF w n o S W) (o' : Obj) : NamF w n o S (W.alloc o') :=
 ⟨(Below.heap_alloc _ _ _ (by have := h.size; omega)).trans h.box, h.set.heap (Below.heap_alloc _ _ _ (by have := h.size; omega)), by rw [World.size_alloc]; have := h.size; omega, h.below.alloc (by have := h.size; omega) _⟩
theorem NamF.later {w : World} {n : Nat} {o : Obj} {S : List ByteArray} {W W' : World} (h : NamF w n o S W) (hb : Below W.heap.size W W') : NamF w n o S W' :=
 have hz := h.size
 ⟨(hb.block _ (by omega)).trans h.box, h.set.heap (hb.block _ (by omega)), by have := hb.size; omega, h.below.trans (hb.mono (by omega))⟩
theorem NamF.grown {w : World} {n : Nat} {o : Obj} {S : List ByteArray} {W W' : World} {b : Nat} (h : NamF w n o S W) (hg : W.grownBy W' (some b)) (hb : n < b) (hb3 : b ≠ n + 3) : NamF w n o S W' :=
 have hz := h.size
 ⟨(hg.block _ (by omega) (fun e => by have := Option.some.inj e; omega)).trans h.box, h.set.heap (hg.block _ (by omega) (fun e => by have := Option.some.inj e; omega)), by have := hg.size; omega, h.below.grown hg (by omega) (fun j e => by cases e; omega)⟩
set_option maxHeartbeats 4000000
set_option maxRecDepth 100000
theorem namesFit_any (r : RuleS) (a1 a2 a3 a4 : Option Addr) (c1 c2 c3 c4 : Nat) (w : World) (hr : RuleI w [.string r.name, .slice a1 r.ins.length c1, .slice a2 r.outs.length c2, .slice a3 r.after.length c3, .slice a4 r.steps.length c4] r) (hs : SmallR r 1048576) :
  Calls Tryz.prog 79 #[.agg (ruleV r a1 a2 a3 a4 c1 c2 c3 c4)] w fun e w' => e = .returned (.bool (namesFitB r)) ∧ Below w.heap.size w w' := by
 have hri := hr
 obtain ⟨vi, vo, vf, vst, qe, h1, h2, h3, h4⟩ := hr
 simp only [List.cons.injEq, and_true, true_and] at qe
 obtain ⟨rfl, rfl, rfl, rfl⟩ := qe
 obtain ⟨n, hn⟩ : ∃ n, w.heap.size = n := ⟨_, rfl⟩
 have mixed : Tryz.prog.follows .mixedOrders = true := by kernel_rfl
 have hmm := @run_makeMap Tryz.prog
 have hil := hs.ins.1; have hol := hs.outs.1; have hal := hs.after.1
 have hnm := hs.name
 have hsf := fun W (h : Below w.heap.size w W) => stepsFollow_any r a1 a2 a3 a4 c1 c2 c3 c4 W (hri.below h) hs
 have hmi := smallMax hs.ins; have hmo := smallMax hs.outs; have hma := smallMax hs.after
 unfold namesFitB
 rw [hn] at hsf ⊢
 obtain ⟨name, insN, outsN, after, steps⟩ := r
 simp only [ruleV] at h1 h2 h3 hil hol hal hnm hsf hmi hmo hma ⊢
 obtain ⟨o, ho⟩ : ∃ o : Obj, .cells #[.string name, .slice a1 insN.length c1, .slice a2 outsN.length c2, .slice a3 after.length c3, .slice a4 steps.length c4] 45 = o := ⟨_, rfl⟩
 obtain ⟨W4, hW4⟩ : ∃ W, ((((w.alloc (.cells #[.string name, .slice a1 insN.length c1, .slice a2 outsN.length c2, .slice a3 after.length c3, .slice a4 steps.length c4] 45)).alloc (.map #[] 0)).alloc (.map #[] 0)).alloc (.map #[] 0)) = W := ⟨_, rfl⟩
 have hs4 : W4.heap.size = n + 4 := by rw [← hW4]; simp [hn]
 have hb4 : Below n w W4 := by rw [← hW4, ← hn]; exact ((((Below.refl _ _).alloc (Nat.le_refl _) _).alloc (by simp) _).alloc (by simp; omega) _).alloc (by simp; omega) _
 have hx4 : W4.heap[n]? = some o := by
  rw [← hW4, Below.heap_alloc _ _ _ (by simp [hn]; omega), Below.heap_alloc _ _ _ (by simp [hn]; omega), Below.heap_alloc _ _ _ (by simp [hn]), ← hn, ← ho]; exact alloc_at w _
 have hA4 : SetIs W4 (n + 1) [] := by
  have := setIs_made (w.alloc (.cells #[.string name, .slice a1 insN.length c1, .slice a2 outsN.length c2, .slice a3 after.length c3, .slice a4 steps.length c4] 45))
  rw [World.size_alloc, hn] at this
  rw [← hW4]; exact this.heap ((Below.heap_alloc _ _ _ (by simp [hn])).trans (Below.heap_alloc _ _ _ (by simp [hn])))
 have hB4 : SetIs W4 (n + 2) [] := by
  have := setIs_made ((w.alloc (.cells #[.string name, .slice a1 insN.length c1, .slice a2 outsN.length c2, .slice a3 after.length c3, .slice a4 steps.length c4] 45)).alloc (.map #[] 0))
  rw [World.size_alloc, World.size_alloc, hn] at this
  rw [← hW4]; exact this.heap (Below.heap_alloc _ _ _ (by simp [hn]))
 have hC4 : SetIs W4 (n + 3) [] := by
  have := setIs_made (((w.alloc (.cells #[.string name, .slice a1 insN.length c1, .slice a2 outsN.length c2, .slice a3 after.length c3, .slice a4 steps.length c4] 45)).alloc (.map #[] 0)).alloc (.map #[] 0))
  rw [World.size_alloc, World.size_alloc, World.size_alloc, hn] at this
  rw [← hW4]; exact this
 have hf4 : NamF w n o [] W4 := ⟨hx4, hC4, by omega, hb4⟩
 have hne : ∀ (a : Option Addr) (l : List ByteArray) (c m : Nat), IsStrs w (.slice a l.length c) l → n < m → ∀ g o' c', l ≠ [] → Value.slice a l.length c = .slice (some ⟨g, o', none⟩) l.length c' → g ≠ m := by
  intro a l c m h hm g o' c' hl e
  obtain ⟨g', o2, e', hg', _⟩ := isStrs_blk h hl
  have e2 := e'.symm.trans (Value.slice.inj e).1
  cases e2
  omega
 have q1 : Calls Tryz.prog 112 #[.map (some (n + 1)), .slice a1 insN.length c1] W4 fun e w' => e = .returned (.bool (onceB insN)) ∧ NamF w n o [] w' ∧ SetIs w' (n + 2) [] :=
  (cAdd_any (n + 1) [] _ insN W4 hA4 (h1.below (by rw [hn]; exact hb4)) (hne _ _ _ _ h1 (by omega)) (by simp; omega) hmi).mono fun e w' q => ⟨by rw [q.1, List.length_nil, Nat.zero_add]; rfl, hf4.grown q.2.2.1 (by omega) (by omega), hB4.heap (q.2.2.1.block _ (by omega) (fun e => by have := Option.some.inj e; omega))⟩
 have q2 : ∀ W, NamF w n o [] W → SetIs W (n + 2) [] → Calls Tryz.prog 112 #[.map (some (n + 2)), .slice a2 outsN.length c2] W fun e w' => e = .returned (.bool (onceB outsN)) ∧ NamF w n o [] w' := fun W hW hS =>
  (cAdd_any (n + 2) [] _ outsN W hS (h2.below (by rw [hn]; exact hW.below)) (hne _ _ _ _ h2 (by omega)) (by simp; omega) hmo).mono fun e w' q => ⟨by rw [q.1, List.length_nil, Nat.zero_add]; rfl, hW.grown q.2.2.1 (by omega) (by omega)⟩
 have q3 : ∀ W, NamF w n o [] W → Calls Tryz.prog 112 #[.map (some (n + 3)), .slice a3 after.length c3] W fun e w' => e = .returned (.bool (onceB after)) ∧ NamF w n o (addS [] after) w' := fun W hW =>
  (cAdd_any (n + 3) [] _ after W hW.set (h3.below (by rw [hn]; exact hW.below)) (hne _ _ _ _ h3 (by omega)) (by simp; omega) hma).mono fun e w' q => ⟨by rw [q.1, List.length_nil, Nat.zero_add]; rfl,
   ⟨(q.2.2.1.block _ (by have := hW.size; omega) (fun e => by have := Option.some.inj e; omega)).trans hW.box, q.2.1, by have := q.2.2.1.size; have := hW.size; omega, hW.below.grown q.2.2.1 (by have := hW.size; omega) (fun j e => by cases e; omega)⟩⟩
 have q4 : ∀ W g, NamF w n o (addS [] after) W → W.heap[g]? = some (.cells #[.string name] 9) → Calls Tryz.prog 113 #[.map (some (n + 3)), .slice (some ⟨g, 0, none⟩) 1 1] W fun e w' => e = .returned (.bool (inS (addS [] after) name)) ∧ NamF w n o (addS [] after) w' := fun W g hW hg =>
  (cHas_any (n + 3) (addS [] after) _ [name] W hW.set (isStrs_one hg) (by intro z hz; simp at hz; subst hz; unfold maxLen; omega)).mono fun e w' q => ⟨by rw [q.1]; simp, hW.later q.2⟩
 have q5 : ∀ W, NamF w n o (addS [] after) W → Calls Tryz.prog 114 #[.agg #[.string name, .slice a1 insN.length c1, .slice a2 outsN.length c2, .slice a3 after.length c3, .slice a4 steps.length c4]] W fun e w' => e = .returned (.bool (followB outsN (addS [] insN) [] steps)) ∧ NamF w n o (addS [] after) w' := fun W hW => (hsf W hW.below).mono fun e w' q => ⟨q.1, hW.later q.2⟩
 obtain ⟨b1, g1⟩ : ∃ b, onceB insN = b := ⟨_, rfl⟩
 obtain ⟨b2, g2⟩ : ∃ b, onceB outsN = b := ⟨_, rfl⟩
 obtain ⟨b3, g3⟩ : ∃ b, onceB after = b := ⟨_, rfl⟩
 obtain ⟨b4, g4⟩ : ∃ b, inS (addS [] after) name = b := ⟨_, rfl⟩
 obtain ⟨b5, g5⟩ : ∃ b, followB outsN (addS [] insN) [] steps = b := ⟨_, rfl⟩
 rw [g1] at q1; rw [g2] at q2; rw [g3] at q3; rw [g4] at q4; rw [g5] at q5
 rw [g1, g2, g3, g4, g5]
 have Q1 := Lib.hid q1; have Q2 := Lib.hid q2; have Q3 := Lib.hid q3; have Q4 := Lib.hid q4; have Q5 := Lib.hid q5
 have HD : Hid (∀ W S, NamF w n o S W → W.heap[n]? = some (.cells #[.string name, .slice a1 insN.length c1, .slice a2 outsN.length c2, .slice a3 after.length c3, .slice a4 steps.length c4] 45)) := Lib.hid fun W S h => h.box.trans (by rw [← ho])
 have HF4 := Lib.hid hf4; have HW4 := Lib.hid hW4
 clear q1 q2 q3 q4 q5 hf4 hW4 g1 g2 g3 g4 g5 hsf h1 h2 h3 h4 hri hs hne hA4 hB4 hC4 hx4 hb4 hs4 hmi hmo hma ho
 go_enter Tryz.func79, Tryz.ntmps79
 go_wp2_with fail
 rw [HW4.out]
 obtain ⟨d0, d1, d2, d3, d4, _⟩ := cells5 (HD.out _ _ HF4.out)
 cases b1
 ·skip
  go_wp2_with (first
   | (go_at_call 112; (with_reducible refine Q1.out.mono ?_); rintro e w5 ⟨rfl, hnf, hs2⟩; have S5 := Lib.hid hs2; clear hs2; have N5 := Lib.hid hnf; clear hnf; obtain ⟨d0, d1, d2, d3, d4, _⟩ := cells5 (HD.out _ _ N5.out)))
  go_ret
  exact ⟨by first | rfl | simp, N5.out.below⟩
 cases b2
 ·skip
  go_wp2_with (first
   | (go_at_call 112; (with_reducible refine Q1.out.mono ?_); rintro e w5 ⟨rfl, hnf, hs2⟩; have S5 := Lib.hid hs2; clear hs2; have N5 := Lib.hid hnf; clear hnf; obtain ⟨d0, d1, d2, d3, d4, _⟩ := cells5 (HD.out _ _ N5.out))
   | (go_at_call 112; (with_reducible refine (Q2.out _ N5.out S5.out).mono ?_); rintro e w6 ⟨rfl, hnf⟩; have N6 := Lib.hid hnf; clear hnf; obtain ⟨d0, d1, d2, d3, d4, _⟩ := cells5 (HD.out _ _ N6.out)))
  go_ret
  exact ⟨by first | rfl | simp, N6.out.below⟩
 cases b3
 ·skip
  go_wp2_with (first
   | (go_at_call 112; (with_reducible refine Q1.out.mono ?_); rintro e w5 ⟨rfl, hnf, hs2⟩; have S5 := Lib.hid hs2; clear hs2; have N5 := Lib.hid hnf; clear hnf; obtain ⟨d0, d1, d2, d3, d4, _⟩ := cells5 (HD.out _ _ N5.out))
   | (go_at_call 112; (with_reducible refine (Q2.out _ N5.out S5.out).mono ?_); rintro e w6 ⟨rfl, hnf⟩; have N6 := Lib.hid hnf; clear hnf; obtain ⟨d0, d1, d2, d3, d4, _⟩ := cells5 (HD.out _ _ N6.out))
   | (go_at_call 112; (with_reducible refine (Q3.out _ N6.out).mono ?_); rintro e w7 ⟨rfl, hnf⟩; have N7 := Lib.hid hnf; clear hnf; obtain ⟨d0, d1, d2, d3, d4, _⟩ := cells5 (HD.out _ _ N7.out)))
  go_ret
  exact ⟨by first | rfl | simp, N7.out.below⟩
 cases b4
 rotate_left
 ·skip
  go_wp2_with (first
   | (go_at_call 112; (with_reducible refine Q1.out.mono ?_); rintro e w5 ⟨rfl, hnf, hs2⟩; have S5 := Lib.hid hs2; clear hs2; have N5 := Lib.hid hnf; clear hnf; obtain ⟨d0, d1, d2, d3, d4, _⟩ := cells5 (HD.out _ _ N5.out))
   | (go_at_call 112; (with_reducible refine (Q2.out _ N5.out S5.out).mono ?_); rintro e w6 ⟨rfl, hnf⟩; have N6 := Lib.hid hnf; clear hnf; obtain ⟨d0, d1, d2, d3, d4, _⟩ := cells5 (HD.out _ _ N6.out))
   | (go_at_call 112; (with_reducible refine (Q3.out _ N6.out).mono ?_); rintro e w7 ⟨rfl, hnf⟩; have N7 := Lib.hid hnf; clear hnf; obtain ⟨d0, d1, d2, d3, d4, _⟩ := cells5 (HD.out _ _ N7.out))
   | (go_at_call 113; (with_reducible refine (Q4.out _ _ (N7.out.alloc _) (alloc_at w7 _)).mono ?_); rintro e w8 ⟨rfl, hnf⟩; have N8 := Lib.hid hnf; clear hnf; obtain ⟨d0, d1, d2, d3, d4, _⟩ := cells5 (HD.out _ _ N8.out)))
  go_ret
  exact ⟨by first | rfl | simp, N8.out.below⟩
 go_wp2_with (first
  | (go_at_call 112; (with_reducible refine Q1.out.mono ?_); rintro e w5 ⟨rfl, hnf, hs2⟩; have S5 := Lib.hid hs2; clear hs2; have N5 := Lib.hid hnf; clear hnf; obtain ⟨d0, d1, d2, d3, d4, _⟩ := cells5 (HD.out _ _ N5.out))
  | (go_at_call 112; (with_reducible refine (Q2.out _ N5.out S5.out).mono ?_); rintro e w6 ⟨rfl, hnf⟩; have N6 := Lib.hid hnf; clear hnf; obtain ⟨d0, d1, d2, d3, d4, _⟩ := cells5 (HD.out _ _ N6.out))
  | (go_at_call 112; (with_reducible refine (Q3.out _ N6.out).mono ?_); rintro e w7 ⟨rfl, hnf⟩; have N7 := Lib.hid hnf; clear hnf; obtain ⟨d0, d1, d2, d3, d4, _⟩ := cells5 (HD.out _ _ N7.out))
  | (go_at_call 113; (with_reducible refine (Q4.out _ _ (N7.out.alloc _) (alloc_at w7 _)).mono ?_); rintro e w8 ⟨rfl, hnf⟩; have N8 := Lib.hid hnf; clear hnf; obtain ⟨d0, d1, d2, d3, d4, _⟩ := cells5 (HD.out _ _ N8.out))
  | (go_at_call 114; (with_reducible refine (Q5.out _ N8.out).mono ?_); rintro e w9 ⟨rfl, hnf⟩; have N9 := Lib.hid hnf; clear hnf; obtain ⟨d0, d1, d2, d3, d4, _⟩ := cells5 (HD.out _ _ N9.out)))
 go_ret
 exact ⟨by first | rfl | simp, N9.out.below⟩
def ruleB (r : RuleS) : Int := if formFitsB r = false then 1 else if sizeFitsB r = false then 4 else if namesFitB r = false then 2 else 0
theorem checkRule_any (r : RuleS) (a1 a2 a3 a4 : Option Addr) (c1 c2 c3 c4 : Nat) (w : World) (hr : RuleI w [.string r.name, .slice a1 r.ins.length c1, .slice a2 r.outs.length c2, .slice a3 r.after.length c3, .slice a4 r.steps.length c4] r) (hs : SmallR r 1048576) (hm : MayW w) :
  Calls Tryz.prog 48 #[.agg (ruleV r a1 a2 a3 a4 c1 c2 c3 c4)] w fun e w' => e = .returned (.int .i64 (ruleB r)) ∧ Below w.heap.size w w' := by
 have q1 := fun W (h : Below w.heap.size w W) => formFits_any r a1 a2 a3 a4 c1 c2 c3 c4 W (hr.below h) hs (hm.below h)
 have q2 := fun W => sizeFits_any r a1 a2 a3 a4 c1 c2 c3 c4 W hs
 have q3 := fun W (h : Below w.heap.size w W) => namesFit_any r a1 a2 a3 a4 c1 c2 c3 c4 W (hr.below h) hs
 unfold ruleB
 obtain ⟨b1, g1⟩ : ∃ b, formFitsB r = b := ⟨_, rfl⟩
 obtain ⟨b2, g2⟩ : ∃ b, sizeFitsB r = b := ⟨_, rfl⟩
 obtain ⟨b3, g3⟩ : ∃ b, namesFitB r = b := ⟨_, rfl⟩
 rw [g1] at q1; rw [g2] at q2; rw [g3] at q3
 rw [g1, g2, g3]
 obtain ⟨name, insN, outsN, after, steps⟩ := r
 simp only [ruleV] at q1 q2 q3 ⊢
 have Q1 := Lib.hid q1; have Q2 := Lib.hid q2; have Q3 := Lib.hid q3
 obtain ⟨W1, hW1⟩ : ∃ W, w.alloc (.cells #[.string name, .slice a1 insN.length c1, .slice a2 outsN.length c2, .slice a3 after.length c3, .slice a4 steps.length c4] 45) = W := ⟨_, rfl⟩
 have hb1 : Below w.heap.size w W1 := by rw [← hW1]; exact (Below.refl _ _).alloc (Nat.le_refl _) _
 have hc : ∀ W, Below W1.heap.size W1 W → W.heap[w.heap.size]? = some (.cells #[.string name, .slice a1 insN.length c1, .slice a2 outsN.length c2, .slice a3 after.length c3, .slice a4 steps.length c4] 45) := fun W h => (h.block _ (by rw [← hW1]; simp)).trans (by rw [← hW1]; exact alloc_at w _)
 have HB1 := Lib.hid hb1; have HC := Lib.hid hc; have HW1 := Lib.hid hW1
 clear q1 q2 q3 g1 g2 g3 hr hs hm hb1 hc hW1
 go_enter Tryz.func48, Tryz.ntmps48
 go_wp2_with fail
 rw [HW1.out]
 obtain ⟨d0, d1, d2, d3, d4, _⟩ := cells5 (HC.out _ (Below.refl _ _))
 cases b1
 ·skip
  go_wp2_with (first
   | (go_at_call 77; (with_reducible refine (Q1.out _ HB1.out).mono ?_); rintro e w2 ⟨rfl, hb2⟩; have HB2 := Lib.hid ((Below.refl W1.heap.size W1).trans (hb2.mono (Below.refl W1.heap.size W1).size)); clear hb2; obtain ⟨d0, d1, d2, d3, d4, _⟩ := cells5 (HC.out _ HB2.out)))
  go_ret
  exact ⟨by first | rfl | simp, HB1.out.trans (HB2.out.mono HB1.out.size)⟩
 cases b2
 ·skip
  go_wp2_with (first
   | (go_at_call 77; (with_reducible refine (Q1.out _ HB1.out).mono ?_); rintro e w2 ⟨rfl, hb2⟩; have HB2 := Lib.hid ((Below.refl W1.heap.size W1).trans (hb2.mono (Below.refl W1.heap.size W1).size)); clear hb2; obtain ⟨d0, d1, d2, d3, d4, _⟩ := cells5 (HC.out _ HB2.out))
   | (go_at_call 78; (with_reducible refine (Q2.out _).mono ?_); rintro e w3 ⟨rfl, hb3⟩; have HB3 := Lib.hid (HB2.out.trans (hb3.mono HB2.out.size)); clear hb3; obtain ⟨d0, d1, d2, d3, d4, _⟩ := cells5 (HC.out _ HB3.out)))
  go_ret
  exact ⟨by first | rfl | simp, HB1.out.trans (HB3.out.mono HB1.out.size)⟩
 cases b3
 ·skip
  go_wp2_with (first
   | (go_at_call 77; (with_reducible refine (Q1.out _ HB1.out).mono ?_); rintro e w2 ⟨rfl, hb2⟩; have HB2 := Lib.hid ((Below.refl W1.heap.size W1).trans (hb2.mono (Below.refl W1.heap.size W1).size)); clear hb2; obtain ⟨d0, d1, d2, d3, d4, _⟩ := cells5 (HC.out _ HB2.out))
   | (go_at_call 78; (with_reducible refine (Q2.out _).mono ?_); rintro e w3 ⟨rfl, hb3⟩; have HB3 := Lib.hid (HB2.out.trans (hb3.mono HB2.out.size)); clear hb3; obtain ⟨d0, d1, d2, d3, d4, _⟩ := cells5 (HC.out _ HB3.out))
   | (go_at_call 79; (with_reducible refine (Q3.out _ (HB1.out.trans (HB3.out.mono HB1.out.size))).mono ?_); rintro e w4 ⟨rfl, hb4⟩; have HB4 := Lib.hid (HB3.out.trans (hb4.mono HB3.out.size)); clear hb4; obtain ⟨d0, d1, d2, d3, d4, _⟩ := cells5 (HC.out _ HB4.out)))
  go_ret
  exact ⟨by first | rfl | simp, HB1.out.trans (HB4.out.mono HB1.out.size)⟩
 go_wp2_with (first
  | (go_at_call 77; (with_reducible refine (Q1.out _ HB1.out).mono ?_); rintro e w2 ⟨rfl, hb2⟩; have HB2 := Lib.hid ((Below.refl W1.heap.size W1).trans (hb2.mono (Below.refl W1.heap.size W1).size)); clear hb2; obtain ⟨d0, d1, d2, d3, d4, _⟩ := cells5 (HC.out _ HB2.out))
  | (go_at_call 78; (with_reducible refine (Q2.out _).mono ?_); rintro e w3 ⟨rfl, hb3⟩; have HB3 := Lib.hid (HB2.out.trans (hb3.mono HB2.out.size)); clear hb3; obtain ⟨d0, d1, d2, d3, d4, _⟩ := cells5 (HC.out _ HB3.out))
  | (go_at_call 79; (with_reducible refine (Q3.out _ (HB1.out.trans (HB3.out.mono HB1.out.size))).mono ?_); rintro e w4 ⟨rfl, hb4⟩; have HB4 := Lib.hid (HB3.out.trans (hb4.mono HB3.out.size)); clear hb4; obtain ⟨d0, d1, d2, d3, d4, _⟩ := cells5 (HC.out _ HB4.out)))
 go_ret
 exact ⟨by first | rfl | simp, HB1.out.trans (HB4.out.mono HB1.out.size)⟩
end Go.Proofs.YtdhmeganlnpohaaGreatDoor
