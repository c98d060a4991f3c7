import Derived.Test.YtdhmeganlnpohaaGreatDoorMbg
import Derived.Test.YtdhmeganlnpohaaGreatDoorMbe
namespace Go.Proofs.YtdhmeganlnpohaaGreatDoor
open Go.RowKit Go.Shelf Go.Maps
set_option maxHeartbeats 4000000
set_option maxRecDepth 100000
theorem isStrs_one {w : World} {b : Nat} {s : ByteArray} {t : TypeId} (h : w.heap[b]? = some (.cells #[.string s] t)) : IsStrs w (.slice (some ⟨b, 0, none⟩) 1 1) [s] := by
 refine ⟨_, 1, rfl, Nat.le_refl _, by decide, fun _ => ⟨b, 0, rfl, (Array.getElem?_eq_some_iff.1 h).1, fun j x hx => ?_⟩⟩
 match j, hx with
 | 0, hx =>
  obtain rfl : s = x := by simpa using hx
  simp [World.cell?, h]
def StepsPost (w : World) (is : List Nat) (e : Ending) (w' : World) : Prop := ∃ v, e = .returned v ∧ IsInts w' v is ∧ Below w.heap.size w w'
theorem WhPost.ints {w0 w w' : World} {b : Bool} {ms : List Bool} {e : Ending} (h : WhPost w b ms e w') (hb : Below w0.heap.size w0 w) : StepsPost w0 (whL b 0 ms) e w' := by
 obtain ⟨v, rfl, ho, hb2⟩ := h
 exact ⟨v, rfl, own_ints ho, hb.trans (hb2.mono hb.size)⟩
theorem ruleI_outs {w : World} {r : RuleS} {a1 a2 a3 a4 : Option Addr} {c1 c2 c3 c4 : Nat} (hr : RuleI w [.string r.name, .slice a1 r.ins.length c1, .slice a2 r.outs.length c2, .slice a3 r.after.length c3, .slice a4 r.steps.length c4] r) : IsStrs w (.slice a2 r.outs.length c2) r.outs := by
 obtain ⟨vi, vo, vf, vs, q, h1, h2, h3, h4⟩ := hr
 simp only [List.cons.injEq, and_true, true_and] at q
 obtain ⟨rfl, rfl, rfl, rfl⟩ := q
 exact h2
theorem small_max {ks : List ByteArray} (h : ks.length ≤ 1048576 ∧ ∀ k ∈ ks, k.size ≤ 1048576) : ∀ k ∈ ks, k.size ≤ maxLen := fun k hk => by have := h.2 k hk; unfold maxLen; omega
theorem sliceSteps_any (r : RuleS) (a1 a2 a3 a4 : Option Addr) (c1 c2 c3 c4 : Nat) (out : ByteArray) (w : World) (hr : RuleI w [.string r.name, .slice a1 r.ins.length c1, .slice a2 r.outs.length c2, .slice a3 r.after.length c3, .slice a4 r.steps.length c4] r) (hs : SmallR r 1048576) (ho : out.size ≤ maxLen) :
  Calls Tryz.prog 38 #[.agg (ruleV r a1 a2 a3 a4 c1 c2 c3 c4), .string out] w (StepsPost w (whL true 0 (needF [out] r.steps).1)) := by
 have cn : ∀ W v, Below w.heap.size w W → IsStrs W v [out] → Calls Tryz.prog 70 #[.agg (ruleV r a1 a2 a3 a4 c1 c2 c3 c4), v] W (NeedPost W [out] r.steps) := fun W v hb hv => needed_any r a1 a2 a3 a4 c1 c2 c3 c4 v [out] W (hr.below hb) hs hv (by simp) (by simpa using ho)
 have CN := Lib.hid cn
 have hfew := hs.few
 have hMl : (needF [out] r.steps).1.length = r.steps.length := needF_len [out] r.steps
 obtain ⟨MS, hMS⟩ : ∃ MS, (needF [out] r.steps).1 = MS := ⟨_, rfl⟩
 unfold NeedPost at CN
 rw [hMS] at hMl CN ⊢
 obtain ⟨name, insN, outsN, after, steps⟩ := r
 simp only [ruleV] at CN hMl hfew ⊢
 obtain ⟨W1, hW1⟩ : ∃ W, (w.alloc (.cells #[.string name, .slice a1 insN.length c1, .slice a2 outsN.length c2, .slice a3 after.length c3, .slice a4 steps.length c4] 45)).alloc (.cells #[.string out] 9) = W := ⟨_, rfl⟩
 have h1 : IsStrs W1 (.slice (some ⟨w.heap.size + 1, 0, none⟩) 1 1) [out] := by rw [← hW1]; refine isStrs_one (t := 9) ?_; have := alloc_at (w.alloc (.cells #[.string name, .slice a1 insN.length c1, .slice a2 outsN.length c2, .slice a3 after.length c3, .slice a4 steps.length c4] 45)) (.cells #[.string out] 9); rwa [World.size_alloc] at this
 have hb1 : Below w.heap.size w W1 := by rw [← hW1]; exact ((Below.refl _ _).alloc (Nat.le_refl _) _).alloc (by simp) _
 have C1 := Lib.hid (CN.out W1 _ hb1 h1)
 have HB1 := Lib.hid hb1
 have HW1 := Lib.hid hW1
 clear cn hr hs ho h1 hb1 hW1 hMS
 go_enter Tryz.func38, Tryz.ntmps38
 go_wp2_with (first
  | (go_at_call 70; rw [HW1.out]; (with_reducible refine C1.out.mono ?_); rintro e W3 ⟨g, rfl, hms, hgg, hb3⟩; have CWH := where_any g MS true W3 hms (by omega); rw [hMl] at CWH; have CWI := Lib.hid CWH; clear CWH; have HB3 := Lib.hid (HB1.out.trans (hb3.mono HB1.out.size)))
  | (go_at_call 69; (with_reducible refine CWI.out.mono ?_); rintro e W4 hwp; obtain ⟨iv, rfl, hin, hbe⟩ := hwp.ints HB3.out))
 go_ret
 exact ⟨_, rfl, hin, hbe⟩
theorem sliceReads_any (r : RuleS) (a1 a2 a3 a4 : Option Addr) (c1 c2 c3 c4 : Nat) (out : ByteArray) (w : World) (hr : RuleI w [.string r.name, .slice a1 r.ins.length c1, .slice a2 r.outs.length c2, .slice a3 r.after.length c3, .slice a4 r.steps.length c4] r) (hs : SmallR r 1048576) (ho : out.size ≤ maxLen) :
  Calls Tryz.prog 40 #[.agg (ruleV r a1 a2 a3 a4 c1 c2 c3 c4), .string out] w (ReadPost w r [out]) := by
 have cn : ∀ W v, Below w.heap.size w W → IsStrs W v [out] → Calls Tryz.prog 71 #[.agg (ruleV r a1 a2 a3 a4 c1 c2 c3 c4), v] W (ReadPost W r [out]) := fun W v hb hv => sliceRead_any r a1 a2 a3 a4 c1 c2 c3 c4 v [out] W (hr.below hb) hs hv (by simp) (by simpa using ho)
 have CN := Lib.hid cn
 unfold ReadPost at CN ⊢
 obtain ⟨RS, hRS⟩ : ∃ RS, readP r [out] = RS := ⟨_, rfl⟩
 rw [hRS] at CN ⊢
 obtain ⟨name, insN, outsN, after, steps⟩ := r
 simp only [ruleV] at CN ⊢
 obtain ⟨W1, hW1⟩ : ∃ W, (w.alloc (.cells #[.string name, .slice a1 insN.length c1, .slice a2 outsN.length c2, .slice a3 after.length c3, .slice a4 steps.length c4] 45)).alloc (.cells #[.string out] 9) = W := ⟨_, rfl⟩
 have h1 : IsStrs W1 (.slice (some ⟨w.heap.size + 1, 0, none⟩) 1 1) [out] := by rw [← hW1]; refine isStrs_one (t := 9) ?_; have := alloc_at (w.alloc (.cells #[.string name, .slice a1 insN.length c1, .slice a2 outsN.length c2, .slice a3 after.length c3, .slice a4 steps.length c4] 45)) (.cells #[.string out] 9); rwa [World.size_alloc] at this
 have hb1 : Below w.heap.size w W1 := by rw [← hW1]; exact ((Below.refl _ _).alloc (Nat.le_refl _) _).alloc (by simp) _
 have C1 := Lib.hid (CN.out W1 _ hb1 h1)
 have HB1 := Lib.hid hb1
 have HW1 := Lib.hid hW1
 clear cn hr hs ho h1 hb1 hW1 hRS
 go_enter Tryz.func40, Tryz.ntmps40
 go_wp2_with (go_at_call 71; rw [HW1.out]; (with_reducible refine C1.out.mono ?_); rintro e W3 ⟨iv, rfl, hin, hb3⟩; have HB3 := Lib.hid (HB1.out.trans (hb3.mono HB1.out.size)))
 go_ret
 exact ⟨_, rfl, hin, HB3.out⟩
theorem sliceAll_any (r : RuleS) (a1 a2 a3 a4 : Option Addr) (c1 c2 c3 c4 : Nat) (w : World) (hr : RuleI w [.string r.name, .slice a1 r.ins.length c1, .slice a2 r.outs.length c2, .slice a3 r.after.length c3, .slice a4 r.steps.length c4] r) (hs : SmallR r 1048576) :
  Calls Tryz.prog 42 #[.agg (ruleV r a1 a2 a3 a4 c1 c2 c3 c4)] w (ReadPost w r r.outs) := by
 have cn : ∀ W v, Below w.heap.size w W → IsStrs W v r.outs → Calls Tryz.prog 71 #[.agg (ruleV r a1 a2 a3 a4 c1 c2 c3 c4), v] W (ReadPost W r r.outs) := fun W v hb hv => sliceRead_any r a1 a2 a3 a4 c1 c2 c3 c4 v r.outs W (hr.below hb) hs hv hs.outs.1 (small_max hs.outs)
 have CN := Lib.hid cn
 have ho := ruleI_outs hr
 have HO := Lib.hid ho
 unfold ReadPost at CN ⊢
 obtain ⟨RS, hRS⟩ : ∃ RS, readP r r.outs = RS := ⟨_, rfl⟩
 rw [hRS] at CN ⊢
 obtain ⟨name, insN, outsN, after, steps⟩ := r
 simp only [ruleV] at CN HO ⊢
 obtain ⟨W1, hW1⟩ : ∃ W, (w.alloc (.cells #[.string name, .slice a1 insN.length c1, .slice a2 outsN.length c2, .slice a3 after.length c3, .slice a4 steps.length c4] 45)) = W := ⟨_, rfl⟩
 have hb1 : Below w.heap.size w W1 := by rw [← hW1]; exact (Below.refl _ _).alloc (Nat.le_refl _) _
 have h1 : IsStrs W1 (.slice a2 outsN.length c2) outsN := HO.out.below hb1
 obtain ⟨d0, d1, d2, d3, d4, _⟩ := cells5 (show W1.heap[w.heap.size]? = some (.cells #[.string name, .slice a1 insN.length c1, .slice a2 outsN.length c2, .slice a3 after.length c3, .slice a4 steps.length c4] 45) by rw [← hW1]; exact alloc_at w _)
 have C1 := Lib.hid (CN.out W1 _ hb1 h1)
 have HB1 := Lib.hid hb1
 have HW1 := Lib.hid hW1
 clear cn hr hs ho h1 hb1 hW1 hRS
 go_enter Tryz.func42, Tryz.ntmps42
 go_wp2_with (go_at_call 71; rw [HW1.out]; (with_reducible refine C1.out.mono ?_); rintro e W3 ⟨iv, rfl, hin, hb3⟩; have HB3 := Lib.hid (HB1.out.trans (hb3.mono HB1.out.size)))
 go_ret
 exact ⟨_, rfl, hin, HB3.out⟩
theorem sliceDead_any (r : RuleS) (a1 a2 a3 a4 : Option Addr) (c1 c2 c3 c4 : Nat) (w : World) (hr : RuleI w [.string r.name, .slice a1 r.ins.length c1, .slice a2 r.outs.length c2, .slice a3 r.after.length c3, .slice a4 r.steps.length c4] r) (hs : SmallR r 1048576) :
  Calls Tryz.prog 43 #[.agg (ruleV r a1 a2 a3 a4 c1 c2 c3 c4)] w (StepsPost w (whL false 0 (needF r.outs r.steps).1)) := by
 have cn : ∀ W v, Below w.heap.size w W → IsStrs W v r.outs → Calls Tryz.prog 70 #[.agg (ruleV r a1 a2 a3 a4 c1 c2 c3 c4), v] W (NeedPost W r.outs r.steps) := fun W v hb hv => needed_any r a1 a2 a3 a4 c1 c2 c3 c4 v r.outs W (hr.below hb) hs hv hs.outs.1 (small_max hs.outs)
 have CN := Lib.hid cn
 have ho := ruleI_outs hr
 have HO := Lib.hid ho
 have hfew := hs.few
 have hMl : (needF r.outs r.steps).1.length = r.steps.length := needF_len r.outs r.steps
 obtain ⟨MS, hMS⟩ : ∃ MS, (needF r.outs r.steps).1 = MS := ⟨_, rfl⟩
 unfold NeedPost at CN
 rw [hMS] at hMl CN ⊢
 obtain ⟨name, insN, outsN, after, steps⟩ := r
 simp only [ruleV] at CN hMl hfew HO ⊢
 obtain ⟨W1, hW1⟩ : ∃ W, (w.alloc (.cells #[.string name, .slice a1 insN.length c1, .slice a2 outsN.length c2, .slice a3 after.length c3, .slice a4 steps.length c4] 45)) = W := ⟨_, rfl⟩
 have hb1 : Below w.heap.size w W1 := by rw [← hW1]; exact (Below.refl _ _).alloc (Nat.le_refl _) _
 have h1 : IsStrs W1 (.slice a2 outsN.length c2) outsN := HO.out.below hb1
 obtain ⟨d0, d1, d2, d3, d4, _⟩ := cells5 (show W1.heap[w.heap.size]? = some (.cells #[.string name, .slice a1 insN.length c1, .slice a2 outsN.length c2, .slice a3 after.length c3, .slice a4 steps.length c4] 45) by rw [← hW1]; exact alloc_at w _)
 have C1 := Lib.hid (CN.out W1 _ hb1 h1)
 have HB1 := Lib.hid hb1
 have HW1 := Lib.hid hW1
 clear cn hr hs ho h1 hb1 hW1 hMS
 go_enter Tryz.func43, Tryz.ntmps43
 go_wp2_with (first
  | (go_at_call 70; rw [HW1.out]; (with_reducible refine C1.out.mono ?_); rintro e W3 ⟨g, rfl, hms, hgg, hb3⟩; have CWH := where_any g MS false W3 hms (by omega); rw [hMl] at CWH; have CWI := Lib.hid CWH; clear CWH; have HB3 := Lib.hid (HB1.out.trans (hb3.mono HB1.out.size)))
  | (go_at_call 69; (with_reducible refine CWI.out.mono ?_); rintro e W4 hwp; obtain ⟨iv, rfl, hin, hbe⟩ := hwp.ints HB3.out))
 go_ret
 exact ⟨_, rfl, hin, hbe⟩
end Go.Proofs.YtdhmeganlnpohaaGreatDoor
namespace Go.Proofs.YtdhmeganlnpohaaGreatDoor
open Go.RowKit Go.Shelf Go.Maps
def followB (outs : List ByteArray) : List ByteArray → List ByteArray → List StepS → Bool
 | _, M, [] => outs.all (inS M)
 | T, M, s :: r => if s.args.all (inS T) = true ∧ inS T s.out = false then followB outs (addS T [s.out]) (addS M [s.out]) r else false
theorem addS_one_len (T : List ByteArray) (k : ByteArray) : decide ((addS T [k]).length = T.length + 1) = !inS T k := by
 show decide ((insS T k).length = T.length + 1) = !inS T k
 unfold insS
 cases h : inS T k
 ·simp
 ·simp
set_option maxHeartbeats 4000000
set_option maxRecDepth 100000
theorem stepsFollow_any (r : RuleS) (a1 a2 a3 a4 : Option Addr) (c1 c2 c3 c4 : Nat) (w : World) (hr : RuleI w [.string r.name, .slice a1 r.ins.length c1, .slice a2 r.outs.length c2, .slice a3 r.after.length c3, .slice a4 r.steps.length c4] r) (hs : SmallR r 1048576) :
  Calls Tryz.prog 114 #[.agg (ruleV r a1 a2 a3 a4 c1 c2 c3 c4)] w fun e w' => e = .returned (.bool (followB r.outs (addS [] r.ins) [] r.steps)) ∧ Below w.heap.size w w' := by
 obtain ⟨vi, vo, vf, vst, qe, h1, h2, h3, h4⟩ := hr
 simp only [List.cons.injEq, and_true, true_and] at qe
 obtain ⟨rfl, rfl, rfl, rfl⟩ := qe
 have hfew := hs.few
 have hil := hs.ins.1
 obtain ⟨n, hn⟩ : ∃ n, w.heap.size = n := ⟨_, rfl⟩
 have mixed : Tryz.prog.follows .mixedOrders = true := by kernel_rfl
 have hmm := @run_makeMap Tryz.prog
 obtain ⟨R, hR⟩ : ∃ R, followB r.outs (addS [] r.ins) [] r.steps = R := ⟨_, rfl⟩
 rw [hR, hn]
 obtain ⟨name, insN, outsN, after, steps⟩ := r
 simp only [ruleV] at hR hfew hil h1 h2 h4 hs ⊢
 have HN := Lib.hid hn; have HR := Lib.hid hR; have H1 := Lib.hid h1; have H2 := Lib.hid h2; have H4 := Lib.hid h4; have HS := Lib.hid hs
 clear hR h1 h2 h3 h4 hs
 go_enter Tryz.func114, Tryz.ntmps114
 obtain ⟨W3, hW3⟩ : ∃ W, ((w.alloc (.cells #[.string name, .slice a1 insN.length c1, .slice a2 outsN.length c2, .slice a3 after.length c3, .slice a4 steps.length c4] 45)).alloc (.map #[] 0)).alloc (.map #[] 0) = W := ⟨_, rfl⟩
 have hs3 : W3.heap.size = n + 3 := by rw [← hW3]; simp [hn]
 have hb3 : Below n w W3 := by rw [← hW3, ← hn]; exact (((Below.refl _ _).alloc (Nat.le_refl _) _).alloc (by simp) _).alloc (by simp; omega) _
 have hx3 : W3.heap[n]? = some (.cells #[.string name, .slice a1 insN.length c1, .slice a2 outsN.length c2, .slice a3 after.length c3, .slice a4 steps.length c4] 45) := by
  rw [← hW3, Below.heap_alloc _ _ _ (by simp [hn]; omega), Below.heap_alloc _ _ _ (by simp [hn]), ← hn]; exact alloc_at w _
 have hT3 : SetIs W3 (n + 1) [] := by
  have := setIs_made (w.alloc (.cells #[.string name, .slice a1 insN.length c1, .slice a2 outsN.length c2, .slice a3 after.length c3, .slice a4 steps.length c4] 45))
  rw [World.size_alloc, hn] at this
  rw [← hW3]; exact this.heap (Below.heap_alloc _ _ _ (by simp [hn]))
 have hM3 : SetIs W3 (n + 2) [] := by
  have := setIs_made ((w.alloc (.cells #[.string name, .slice a1 insN.length c1, .slice a2 outsN.length c2, .slice a3 after.length c3, .slice a4 steps.length c4] 45)).alloc (.map #[] 0))
  rw [World.size_alloc, World.size_alloc, hn] at this
  rw [← hW3]; exact this
 have CA := Lib.hid (cAdd_any (n + 1) [] (.slice a1 insN.length c1) insN W3 hT3 (H1.out.below (by rw [hn]; exact hb3)) (fun g o c hne e => by
  obtain ⟨g', o', e', hg', _⟩ := isStrs_blk H1.out hne
  have e2 := e'.symm.trans (Value.slice.inj e).1
  cases e2
  omega) (by simp; omega) (smallMax HS.out.ins))
 have HW3 := Lib.hid hW3; have HS3 := Lib.hid hs3; have HB3 := Lib.hid hb3; have HX3 := Lib.hid hx3; have HM3 := Lib.hid hM3
 clear hW3 hs3 hb3 hx3 hT3 hM3
 go_wp2_with fail
 rw [HW3.out]
 (with_reducible refine CA.out.mono ?_)
 rintro e W4 ⟨rfl, hT4, hg4, hz4⟩
 have hs3 := HS3.out
 have hx4 : W4.heap[n]? = some (.cells #[.string name, .slice a1 insN.length c1, .slice a2 outsN.length c2, .slice a3 after.length c3, .slice a4 steps.length c4] 45) := (hg4.block n (by omega) (fun e => by cases e)).trans HX3.out
 obtain ⟨d0, d1, d2, d3, d4, _⟩ := cells5 hx4
 have HT4 := Lib.hid hT4; have HX4 := Lib.hid hx4
 have HM4 : Hid (SetIs W4 (n + 2) []) := Lib.hid (HM3.out.heap (hg4.block _ (by omega) (fun e => by cases e)))
 have HZ4 : Hid (n + 3 ≤ W4.heap.size) := Lib.hid (by omega)
 have HB4 : Hid (Below n w W4) := Lib.hid (HB3.out.grown hg4 (by omega) (fun j e => by cases e; omega))
 clear hT4 hx4 hg4 hz4 hs3
 go_wp2
 go_loopw [2, 6, 16, 17, 18, 19, 20, 21, 22, 23, 24, 25, 26, 27, 28, 29, 30, 31, 32, 33, 34, 35, 36, 37, 38] (fun _ _ iv _ _ _ _ _ _ _ _ _ _ _ _ _ _ _ _ _ _ _ _ _ _ wr => ∃ k T M, k ≤ steps.length ∧ iv = .int .i64 (k : Int) ∧ SetIs wr (n + 1) T ∧ SetIs wr (n + 2) M ∧ T.length ≤ insN.length + k ∧ M.length ≤ k ∧ followB outsN T M (steps.drop k) = R ∧ wr.heap[n]? = some (.cells #[.string name, .slice a1 insN.length c1, .slice a2 outsN.length c2, .slice a3 after.length c3, .slice a4 steps.length c4] 45) ∧ n + 3 ≤ wr.heap.size ∧ Below n w wr) (fun _ _ iv _ _ _ _ _ _ _ _ _ _ _ _ _ _ _ _ _ _ _ _ _ _ _ => steps.length - (intOf iv).toNat)
 case atStart => exact ⟨0, _, [], Nat.zero_le _, rfl, HT4.out, HM4.out, by have := addS_len insN []; simpa using this, Nat.le_refl _, HR.out, HX4.out, HZ4.out, HB4.out⟩
 case round =>
  obtain ⟨k, T, M, hk, rfl, hT, hM, hTl, hMl, hf, hx, hz, hb⟩ := hrel
  have HT := Lib.hid hT; have HM := Lib.hid hM; have HX := Lib.hid hx; have HZ := Lib.hid hz; have HB := Lib.hid hb
  by_cases hlt : k < steps.length
  ·obtain ⟨y, hy⟩ : ∃ y, steps[k]? = some y := ⟨steps[k], List.getElem?_eq_getElem hlt⟩
   obtain ⟨b, o, cap, va, vl, e, hya, hyl, hyc⟩ := stepsI_at5 H4.out hy
   obtain ⟨b1, m1, rfl⟩ := isStrs_shape hya
   obtain ⟨b2, m2, rfl⟩ := isStrs_shape hyl
   injection e with e1 _ e3
   subst e1 e3
   have hsy := HS.out.steps y (List.mem_of_getElem? hy)
   have hdr : steps.drop k = y :: steps.drop (k + 1) := by
    rw [List.drop_eq_getElem_cons hlt]; congr 1; rw [List.getElem?_eq_getElem hlt] at hy; exact Option.some.inj hy
   rw [hdr, followB] at hf
   have hbn : Below w.heap.size w wr := by rw [HN.out]; exact hb
   obtain ⟨e0, e1, e2, e3, e4⟩ := hyc wr hbn
   have hi1 : (k : Int) < (steps.length : Int) := by omega
   have hi0 : (0 : Int) ≤ (k : Int) := by omega
   have cH : ∀ W, Below wr.heap.size wr W → Calls Tryz.prog 113 #[.map (some (n + 1)), .slice b1 y.args.length m1] W fun e w' => e = .returned (.bool (y.args.all (inS T))) ∧ Below W.heap.size W w' := fun W hW => (cHas_any (n + 1) T _ y.args W (hT.below hW (by omega)) (hya.below (hbn.trans (hW.mono (by rw [HN.out]; omega)))) (smallMax hsy.args))
   have hyo : ∀ z ∈ [y.out], z.size ≤ maxLen := by intro z hz; simp at hz; subst hz; have := hsy.out; unfold maxLen; omega
   have cT : ∀ W g, Below wr.heap.size wr W → W.heap[g]? = some (.cells #[.string y.out] 9) → wr.heap.size ≤ g → Calls Tryz.prog 112 #[.map (some (n + 1)), .slice (some ⟨g, 0, none⟩) 1 1] W fun e w' => e = .returned (.bool (!inS T y.out)) ∧ SetIs w' (n + 1) (addS T [y.out]) ∧ W.grownBy w' (some (n + 1)) ∧ w'.heap.size = W.heap.size := fun W g hW hg hgl => (cAdd_any (n + 1) T _ [y.out] W (hT.below hW (by omega)) (isStrs_one hg) (fun g' o' c' _ e => by cases (Value.slice.inj e).1; omega) (by simp; omega) hyo).mono fun e w' q => ⟨by rw [q.1, List.length_singleton, addS_one_len], q.2⟩
   have cM : ∀ W g, SetIs W (n + 2) M → W.heap[g]? = some (.cells #[.string y.out] 9) → wr.heap.size ≤ g → Calls Tryz.prog 112 #[.map (some (n + 2)), .slice (some ⟨g, 0, none⟩) 1 1] W (CAddPost W (n + 2) M [y.out]) := fun W g hW hg hgl => cAdd_any (n + 2) M _ [y.out] W hW (isStrs_one hg) (fun g' o' c' _ e => by cases (Value.slice.inj e).1; omega) (by simp; omega) hyo
   obtain ⟨bA, hbA⟩ : ∃ b, y.args.all (inS T) = b := ⟨_, rfl⟩
   obtain ⟨bT, hbT⟩ : ∃ b, inS T y.out = b := ⟨_, rfl⟩
   rw [hbA] at cH hf; rw [hbT] at cT hf
   have CH := Lib.hid cH; have CT := Lib.hid cT; have CM := Lib.hid cM
   obtain ⟨W1, hW1⟩ : ∃ W, wr.alloc (.cells #[.string y.out, .int .i64 y.op, .slice b1 y.args.length m1, .slice b2 y.lits.length m2, .int .i64 y.n] 24) = W := ⟨_, rfl⟩
   have hs1 : W1.heap.size = wr.heap.size + 1 := by rw [← hW1]; simp
   have hb1 : Below wr.heap.size wr W1 := by rw [← hW1]; exact (Below.refl _ _).alloc (Nat.le_refl _) _
   have hx1 : W1.heap[wr.heap.size]? = some (.cells #[.string y.out, .int .i64 y.op, .slice b1 y.args.length m1, .slice b2 y.lits.length m2, .int .i64 y.n] 24) := by rw [← hW1]; exact alloc_at wr _
   obtain ⟨f0, f1, f2, f3, f4, _⟩ := cells5 hx1
   have HB1 := Lib.hid hb1; have HW1 := Lib.hid hW1; have HF := Lib.hid hf; have HX1 := Lib.hid hx1; have HS1 := Lib.hid hs1
   have H1A : Hid (T.length ≤ insN.length + k ∧ M.length ≤ k) := Lib.hid ⟨hTl, hMl⟩
   have hfX := HF.out
   clear hT hM hTl hMl hf hx hz hb hy hya hyl hyc hsy hdr hbn cH cT cM hyo hbA hbT hb1 hW1 hx1 hs1
   cases bA
   ·rw [if_neg (fun h => by cases h.1)] at hfX
    subst hfX
    go_wp2_with (go_at_call 113; rw [HW1.out]; (with_reducible refine (CH.out _ HB1.out).mono ?_); rintro e w2 ⟨rfl, hb2⟩; have HB2 := Lib.hid (HB1.out.trans (hb2.mono HB1.out.size)); clear hb2)
    go_ret
    exact ⟨rfl, HB.out.trans (HB2.out.mono (by have := HZ.out; omega))⟩
   cases bT
   ·rw [if_pos ⟨rfl, rfl⟩] at hfX
    have HFX := Lib.hid hfX
    clear hfX
    go_wp2_with (first
     | (go_at_call 113; rw [HW1.out]; (with_reducible refine (CH.out _ HB1.out).mono ?_); rintro e w2 ⟨rfl, hb2⟩; have HX2 := Lib.hid ((hb2.block _ (Array.getElem?_eq_some_iff.1 HX1.out).1).trans HX1.out); obtain ⟨f0, f1, f2, f3, f4, _⟩ := cells5 HX2.out; have HB2 := Lib.hid (HB1.out.trans (hb2.mono HB1.out.size)); clear hb2)
     | (go_at_call 112; (with_reducible refine (CT.out _ _ (HB2.out.alloc HB2.out.size _) (alloc_at w2 _) HB2.out.size).mono ?_); rintro e w3 ⟨rfl, hT3, hg3, hz3⟩; have HX3' := Lib.hid (show w3.heap[wr.heap.size]? = _ from (hg3.block _ (by rw [World.size_alloc]; have := (Array.getElem?_eq_some_iff.1 HX2.out).1; omega) (fun e => by have := Option.some.inj e; have := HZ.out; omega)).trans ((Below.heap_alloc _ _ _ (Array.getElem?_eq_some_iff.1 HX2.out).1).trans HX2.out)); obtain ⟨f0, f1, f2, f3, f4, _⟩ := cells5 HX3'.out; have HT3 := Lib.hid hT3; have HG3 := Lib.hid hg3; have HM3' := Lib.hid (show SetIs w3 (n + 2) M from HM.out.heap ((hg3.block _ (by rw [World.size_alloc]; have := HZ.out; have := HB2.out.size; omega) (fun e => by have := Option.some.inj e; omega)).trans ((Below.heap_alloc _ _ _ (by have := HZ.out; have := HB2.out.size; omega)).trans (HB2.out.block _ (by have := HZ.out; omega))))); have HZ3 := Lib.hid (show wr.heap.size ≤ w3.heap.size by rw [hz3, World.size_alloc]; have := HB2.out.size; omega); clear hT3 hg3 hz3)
     | (go_at_call 112; (with_reducible refine (CM.out _ _ (HM3'.out.heap (Below.heap_alloc _ _ _ (by have := HZ.out; have := HZ3.out; omega))) (alloc_at w3 _) HZ3.out).mono ?_); rintro e w4 ⟨rfl, hM4, hg4, hz4⟩; have HM4' := Lib.hid hM4; have HG4 := Lib.hid hg4; have HZ4' := Lib.hid hz4; clear hM4 hg4 hz4))
    have hz := HZ.out
    have hz2 := HB2.out.size
    have hz3 := HZ3.out
    have hb2 : Below n w (w2.alloc (.cells #[.string y.out] 9)) := HB.out.trans ((HB2.out.alloc HB2.out.size _).mono (by omega))
    have hb3 : Below n w w3 := hb2.grown HG3.out (by rw [World.size_alloc]; omega) (fun j e => by cases e; omega)
    have hb4 : Below n w w4 := (hb3.alloc (by omega) (.cells #[.string y.out] 9)).grown HG4.out (by rw [World.size_alloc]; omega) (fun j e => by cases e; omega)
    have hT4 : SetIs w4 (n + 1) (addS T [y.out]) := HT3.out.heap ((HG4.out.block _ (by rw [World.size_alloc]; omega) (fun e => by have := Option.some.inj e; omega)).trans (Below.heap_alloc _ _ _ (by omega)))
    have hx4 : w4.heap[n]? = wr.heap[n]? := (HG4.out.block _ (by rw [World.size_alloc]; omega) (fun e => by have := Option.some.inj e; omega)).trans ((Below.heap_alloc _ _ _ (by omega)).trans ((HG3.out.block _ (by rw [World.size_alloc]; omega) (fun e => by have := Option.some.inj e; omega)).trans ((Below.heap_alloc _ _ _ (by omega)).trans (HB2.out.block _ (by omega)))))
    have hz4 : n + 3 ≤ w4.heap.size := by rw [HZ4'.out, World.size_alloc]; omega
    have HALL := Lib.hid (show SetIs w4 (n + 1) (addS T [y.out]) ∧ w4.heap[n]? = wr.heap[n]? ∧ n + 3 ≤ w4.heap.size ∧ Below n w w4 from ⟨hT4, hx4, hz4, hb4⟩)
    clear hz hz2 hz3 hb2 hb3 hb4 hT4 hx4 hz4
    go_roundw
    case rel =>
     obtain ⟨r1, r2, r3, r4⟩ := HALL.out
     obtain ⟨l1, l2⟩ := H1A.out
     exact ⟨k + 1, _, _, by omega, by go_num, r1, HM4'.out, by have := addS_len [y.out] T; simp at this; omega, by have := addS_len [y.out] M; simp at this; omega, HFX.out, r2.trans HX.out, r3, r4⟩
    case measure => simp [intOf]; omega
   ·rw [if_neg (fun h => by cases h.2)] at hfX
    subst hfX
    go_wp2_with (first
     | (go_at_call 113; rw [HW1.out]; (with_reducible refine (CH.out _ HB1.out).mono ?_); rintro e w2 ⟨rfl, hb2⟩; have HX2 := Lib.hid ((hb2.block _ (Array.getElem?_eq_some_iff.1 HX1.out).1).trans HX1.out); obtain ⟨f0, f1, f2, f3, f4, _⟩ := cells5 HX2.out; have HB2 := Lib.hid (HB1.out.trans (hb2.mono HB1.out.size)); clear hb2)
     | (go_at_call 112; (with_reducible refine (CT.out _ _ (HB2.out.alloc HB2.out.size _) (alloc_at w2 _) HB2.out.size).mono ?_); rintro e w3 ⟨rfl, hT3, hg3, hz3⟩; have HG3 := Lib.hid hg3; clear hT3 hg3 hz3))
    go_ret
    exact ⟨rfl, (HB.out.trans ((HB2.out.alloc HB2.out.size _).mono (by have := HZ.out; omega))).grown HG3.out (by rw [World.size_alloc]; have := HZ.out; have := HB2.out.size; omega) (fun j e => by cases e; omega)⟩
  ·have hi1 : ¬ (k : Int) < (steps.length : Int) := by omega
   obtain rfl : k = steps.length := by omega
   rw [List.drop_length, followB] at hf
   obtain ⟨q0, q1, q2, q3, q4, _⟩ := cells5 hx
   have CH := Lib.hid (cHas_any (n + 2) M _ outsN wr hM (H2.out.below (by rw [HN.out]; exact hb)) (smallMax HS.out.outs))
   rw [hf] at CH
   clear hT hM hTl hMl hf hx hz hb
   go_wp2_with (go_at_call 113; (with_reducible refine CH.out.mono ?_); rintro e w2 ⟨rfl, hb2⟩)
   go_ret
   exact ⟨rfl, HB.out.trans (hb2.mono (by have := HZ.out; omega))⟩
end Go.Proofs.YtdhmeganlnpohaaGreatDoor
