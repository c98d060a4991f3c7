import Derived.Deep.RegionHeld3
import Derived.Test.YtdhmeganlnpohaaGreatDoorMbb
namespace Go.Proofs.YtdhmeganlnpohaaGreatDoor
open Go.RowKit Go.Shelf Go.Maps
theorem capV_size (t : List UInt8) : (capV t).2.size ≤ 2000 := by
 unfold capV
 split
 ·show t.toArray.size ≤ 2000; rw [List.size_toArray]; assumption
 ·show (0 : Nat) ≤ 2000; omega
theorem doV_size (x : StepS) (vs : List ValT) : (doV x vs).2.size ≤ 2000 := by
 unfold doV
 split
 ·cases doT x (vs.map (·.2.data.toList)) with
  | none => show (0 : Nat) ≤ 2000; omega
  | some t => exact capV_size t
 ·show (0 : Nat) ≤ 2000; omega
def ShortE (e : ByteArray → ValT) : Prop := ∀ k, (e k).2.size ≤ 100000000
theorem ShortE.set {e : ByteArray → ValT} (h : ShortE e) (k : ByteArray) {v : ValT} (hv : v.2.size ≤ 100000000) : ShortE (setE e k v) := fun k' => by
 unfold setE; split
 ·exact hv
 ·exact h k'
theorem ShortE.by : ∀ (ks : List ByteArray) (vs : List ValT) (e : ByteArray → ValT), ShortE e → (∀ v ∈ vs, v.2.size ≤ 100000000) → ShortE (byE ks vs e)
 | [], _, e, h, _ => by rw [byE]; exact h; intros; simp_all
 | _ :: _, [], e, h, _ => by rw [byE]; exact h; intros; simp_all
 | k :: ks, v :: vs, e, h, hv => by rw [byE]; exact ShortE.by ks vs _ (h.set k (hv v (by simp))) fun u hu => hv u (by simp [hu])
theorem stepsE_next : ∀ (l : List StepS) (e : ByteArray → ValT) (i : Nat) (s : StepS), l[i]? = some s → stepsE (l.take (i + 1)) e = setE (stepsE (l.take i) e) s.out (doV s (s.args.map fun a => normV (stepsE (l.take i) e a)))
 | [], _, _, _, h => by simp at h
 | s0 :: l, e, 0, s, h => by
  obtain rfl : s0 = s := by simpa using h
  simp [stepsE]
 | s0 :: l, e, i + 1, s, h => by
  rw [List.take_succ_cons, List.take_succ_cons, stepsE, stepsE]
  exact stepsE_next l _ i s (by simpa using h)
theorem stepsE_short : ∀ (l : List StepS) (e : ByteArray → ValT), ShortE e → ShortE (stepsE l e)
 | [], _, h => h
 | s :: l, e, h => by rw [stepsE]; exact stepsE_short l _ (h.set _ (Nat.le_trans (doV_size _ _) (by decide)))
theorem normV_short {v : ValT} (h : v.2.size ≤ 100000000) : (normV v).2.size ≤ 100000000 := by
 unfold normV; split
 ·exact h
 ·show (0 : Nat) ≤ _; omega
theorem vals_nil' (w : World) : IsVals w (.slice none 0 0) [] := ⟨none, 0, rfl, by simp, by simp [maxLen], fun h => absurd rfl h⟩
set_option maxHeartbeats 8000000
set_option maxRecDepth 100000
abbrev ruleV (r : RuleS) (a1 a2 a3 a4 : Option Addr) (c1 c2 c3 c4 : Nat) : Array Value := #[.string r.name, .slice a1 r.ins.length c1, .slice a2 r.outs.length c2, .slice a3 r.after.length c3, .slice a4 r.steps.length c4]
def OfPost (r : RuleS) (ins : List ValT) (w : World) (e : Ending) (w' : World) : Prop := ∃ v, e = .returned v ∧ IsVals w' v (runP r ins) ∧ Below w.heap.size w w'
theorem of_any (r : RuleS) (a1 a2 a3 a4 : Option Addr) (c1 c2 c3 c4 : Nat) (vv : Value) (ins : List ValT) (w : World) (hr : RuleI w [.string r.name, .slice a1 r.ins.length c1, .slice a2 r.outs.length c2, .slice a3 r.after.length c3, .slice a4 r.steps.length c4] r) (hs : SmallR r 1048576) (hv : IsVals w vv ins) (hn : ins.length ≤ 1048576) (hi : ∀ v ∈ ins, v.2.size ≤ 100000000) (hG : Glob w) :
  Calls Tryz.prog 33 #[.agg (ruleV r a1 a2 a3 a4 c1 c2 c3 c4), vv] w (OfPost r ins w) := by
 obtain ⟨vi, vo, vf, vs, q, h1, h2, h3, h4⟩ := hr
 simp only [List.cons.injEq, and_true, true_and] at q
 obtain ⟨rfl, rfl, rfl, rfl⟩ := q
 obtain ⟨va, vc, rfl, hvl, hvm, _⟩ := id hv
 have hsi := hs.ins
 have hso := hs.outs
 have hss := hs.steps
 have hfew := hs.few
 have hb0 : Below w.heap.size w (w.alloc (.cells (ruleV r a1 a2 a3 a4 c1 c2 c3 c4) 45)) := (Below.refl _ _).alloc (Nat.le_refl _) _
 have hx := alloc_at w (.cells (ruleV r a1 a2 a3 a4 c1 c2 c3 c4) 45)
 obtain ⟨W1, hW1⟩ : ∃ W1, w.alloc (.cells (ruleV r a1 a2 a3 a4 c1 c2 c3 c4) 45) = W1 := ⟨_, rfl⟩
 obtain ⟨d0, d1, d2, d3, d4, _⟩ := cells5 hx
 have hs1 : W1.heap.size = w.heap.size + 1 := by rw [← hW1]; simp
 rw [hW1] at hb0 hx
 have HD : Hid (∀ W, Below W1.heap.size W1 W → W.cell? ⟨w.heap.size, 0, none⟩ = some (.string r.name) ∧ W.cell? ⟨w.heap.size, 1, none⟩ = some (.slice a1 r.ins.length c1) ∧ W.cell? ⟨w.heap.size, 2, none⟩ = some (.slice a2 r.outs.length c2) ∧ W.cell? ⟨w.heap.size, 3, none⟩ = some (.slice a3 r.after.length c3) ∧ W.cell? ⟨w.heap.size, 4, none⟩ = some (.slice a4 r.steps.length c4)) := by
  show ∀ W, _
  intro W hW
  obtain ⟨e0, e1, e2, e3, e4, _⟩ := cells5 ((hW.block w.heap.size (by omega)).trans hx)
  exact ⟨e0, e1, e2, e3, e4⟩
 have hml : ∀ x ∈ r.ins, x.size ≤ maxLen := fun x hx => by have := hsi.2 x hx; unfold maxLen; omega
 have hmo : ∀ x ∈ r.outs, x.size ≤ maxLen := fun x hx => by have := hso.2 x hx; unfold maxLen; omega
 have cB := byName_any (.slice a1 r.ins.length c1) (.slice va ins.length vc) r.ins ins W1 (h1.below hb0) (vals_below hv hb0) (by have := hsi.1; omega) (by omega) hml
 have hW0 := hb0.size
 have UP : Hid (∀ W, Below W1.heap.size W1 W → Below w.heap.size w W) := by show ∀ W, _; exact fun W h => hb0.trans (h.mono hW0)
 have CP : Hid (∀ (b n : Nat) f W, EnvIs W b n f → Below W1.heap.size W1 W → Calls Tryz.prog 66 #[.map (some b), .slice a2 r.outs.length c2] W (PickPost W r.outs f)) := by
  show ∀ (b n : Nat) f W, _
  exact fun b n f W he hb => pick_any b n f _ r.outs W he (h2.below (UP.out W hb)) (by have := hso.1; omega) hmo
 have HST : Hid (∀ (k : Nat) y, r.steps[k]? = some y → ∃ b o b1 m1 b2 m2, a4 = some ⟨b, o, none⟩ ∧ SmallS y 1048576 ∧ (∀ W, Below w.heap.size w W → IsStrs W (.slice b1 y.args.length m1) y.args ∧ IsStrs W (.slice b2 y.lits.length m2) y.lits) ∧
   ∀ W, Below w.heap.size w W → W.cell? ⟨b, o + k * 5, none⟩ = some (.string y.out) ∧ W.cell? ⟨b, o + k * 5 + 1, none⟩ = some (.int .i64 y.op) ∧ W.cell? ⟨b, o + k * 5 + 2, none⟩ = some (.slice b1 y.args.length m1) ∧ W.cell? ⟨b, o + k * 5 + 3, none⟩ = some (.slice b2 y.lits.length m2) ∧ W.cell? ⟨b, o + k * 5 + 4, none⟩ = some (.int .i64 y.n)) := by
  show ∀ (k : Nat) y, _
  intro k y hy
  obtain ⟨b, o, cap, va, vl, e, ha, hl, hc⟩ := stepsI_at5 h4 hy
  obtain ⟨b1, m1, rfl⟩ := isStrs_shape ha
  obtain ⟨b2, m2, rfl⟩ := isStrs_shape hl
  injection e with e1 _ _
  exact ⟨b, o, b1, m1, b2, m2, e1, hss y (List.mem_of_getElem? hy), fun W hW => ⟨ha.below hW, hl.below hW⟩, hc⟩
 have HGL : Hid (∀ W, Below w.heap.size w W → Glob W) := by show ∀ W, _; exact fun W h => hG.below h
 have hml4 : r.steps.length ≤ maxLen := by unfold maxLen; omega
 have HW := Lib.hid hW1; have HS1 := Lib.hid hs1
 obtain ⟨E0, hE0⟩ : ∃ E0, (byE r.ins ins fun _ => noV) = E0 := ⟨_, rfl⟩
 have HSH : Hid (ShortE E0) := Lib.hid (by rw [← hE0]; exact ShortE.by _ _ _ (fun _ => by show (0 : Nat) ≤ _; omega) hi)
 have HE0 := Lib.hid hE0
 have CB : Hid (Calls Tryz.prog 65 #[.slice a1 r.ins.length c1, .slice va ins.length vc] W1 fun e w' => ∃ b, e = .returned (.map (some b)) ∧ EnvIs w' b 1048576 E0 ∧ W1.heap.size ≤ b ∧ Below W1.heap.size W1 w') := by
  show Calls _ _ _ _ _
  refine cB.mono ?_
  rintro e w' ⟨b, rfl, ⟨m, m1, m2, m3⟩, hbb, hbw⟩
  rw [hE0] at m2
  exact ⟨b, rfl, ⟨m, m1, m2, by omega⟩, hbb, hbw⟩
 have HRUN : Hid (ins.length = r.ins.length → runP r ins = r.outs.map fun o => normV (stepsE r.steps E0 o)) := by
  show _ → _
  intro h; unfold runP; rw [if_neg (by omega), hE0]
 have HRN : Hid (¬ ins.length = r.ins.length → runP r ins = []) := by show _ → _; intro h; unfold runP; rw [if_pos h]
 have hN : Hid (r.outs.length ≤ maxLen) := Lib.hid (by have := hso.1; unfold maxLen; omega)
 obtain ⟨name, insN, outs, after, steps⟩ := r
 simp only [ruleV] at d0 d1 d2 d3 d4 HD CP HST HRUN HRN hml4 hfew HW CB hN ⊢
 have mixed : Tryz.prog.follows .mixedOrders = true := by kernel_rfl
 unfold maxLen at hvm hml4
 clear h1 h2 h3 h4 hs hsi hso hss hv hG hb0 hx hW1 hs1 hml hmo cB hW0 hE0 hi
 by_cases hlen : ins.length = insN.length
 ·have HLEN := Lib.hid hlen
  have hle : (ins.length : Int) = (insN.length : Int) := by omega
  clear hlen
  go_enter Tryz.func33, Tryz.ntmps33
  go_wp2_with fail
  rw [HW.out]
  clear hle d0 d1 d2 d3 d4
  refine CB.out.mono ?_
  rintro e w2 ⟨b, rfl, henv, hbb, hb2⟩
  have HENV := Lib.hid henv; have HBB := Lib.hid hbb; have H2 := Lib.hid hb2
  clear henv hbb hb2
  obtain ⟨d0, d1, d2, d3, d4⟩ := HD.out w2 H2.out
  go_wp2_with fail
  go_loopw [21] (fun iv wr => ∃ k : Nat, k ≤ steps.length ∧ iv = .int .i64 (k : Int) ∧ EnvIs wr b (1048576 + k) (stepsE (steps.take k) E0) ∧ Below W1.heap.size W1 wr) (fun iv _ => steps.length - (intOf iv).toNat)
  case atStart => exact ⟨0, Nat.zero_le _, rfl, by simpa [stepsE] using HENV.out, H2.out⟩
  case round =>
   obtain ⟨k, hk, rfl, henv, hnx⟩ := hrel
   have HE := Lib.hid henv
   have HNX := Lib.hid hnx
   clear henv hnx d0 d1 d2 d3 d4
   by_cases hlt : k < steps.length
   ·obtain ⟨y, hy⟩ : ∃ y, steps[k]? = some y := ⟨steps[k], List.getElem?_eq_getElem hlt⟩
    obtain ⟨sb, so, b1, m1, b2, m2, e4, hsm, hst, hcs⟩ := HST.out k y hy
    subst e4
    obtain ⟨e0, e1, e2, e3, e4⟩ := hcs wr (UP.out wr HNX.out)
    have hi1 : (k : Int) < (steps.length : Int) := by omega
    have hi0 : (0 : Int) ≤ (k : Int) := by omega
    have hsbW : W1.heap.size ≤ wr.heap.size := HNX.out.size
    obtain ⟨WS, hWS⟩ : ∃ WS, wr.alloc (.cells (stepV y b1 b2 m1 m2) 24) = WS := ⟨_, rfl⟩
    have hbx := alloc_at wr (.cells (stepV y b1 b2 m1 m2) 24)
    have hss : WS.heap.size = wr.heap.size + 1 := by rw [← hWS]; simp
    rw [hWS] at hbx
    have hwS : Below W1.heap.size W1 WS := by rw [← hWS]; exact HNX.out.alloc hsbW _
    have HCS : Hid (∀ w' : World, w'.heap[wr.heap.size]? = WS.heap[wr.heap.size]? → w'.cell? ⟨wr.heap.size, 0, none⟩ = some (.string y.out) ∧ w'.cell? ⟨wr.heap.size, 1, none⟩ = some (.int .i64 y.op) ∧ w'.cell? ⟨wr.heap.size, 2, none⟩ = some (.slice b1 y.args.length m1) ∧ w'.cell? ⟨wr.heap.size, 3, none⟩ = some (.slice b2 y.lits.length m2) ∧ w'.cell? ⟨wr.heap.size, 4, none⟩ = some (.int .i64 y.n)) := by
     show ∀ w', _
     intro w' h
     obtain ⟨f0, f1, f2, f3, f4, _⟩ := cells5 (h.trans hbx)
     exact ⟨f0, f1, f2, f3, f4⟩
    have HEV : Hid (∀ w', Below WS.heap.size WS w' → EnvIs w' b (1048576 + k) (stepsE (steps.take k) E0)) := by
     show ∀ w', _
     intro w' h
     have hbl := HE.out.lt
     refine HE.out.heap ((h.block b (by omega)).trans ?_)
     rw [← hWS]
     exact Below.heap_alloc _ _ _ hbl
    have HPK : Hid (∀ w', Below WS.heap.size WS w' → Calls Tryz.prog 66 #[.map (some b), .slice b1 y.args.length m1] w' (PickPost w' y.args (stepsE (steps.take k) E0))) := by
     show ∀ w', _
     intro w' h
     exact pick_any b (1048576 + k) _ _ y.args w' (HEV.out w' h) (hst w' (UP.out w' (hwS.trans (h.mono hwS.size)))).1 (by have := hsm.args.1; omega) (fun x hx => by have := hsm.args.2 x hx; unfold maxLen; omega)
    have HDO : Hid (∀ w' v, Below WS.heap.size WS w' → IsVals w' v (y.args.map fun a => normV (stepsE (steps.take k) E0 a)) → Calls Tryz.prog 24 #[.agg (stepV y b1 b2 m1 m2), v] w' (DoPost y (y.args.map fun a => normV (stepsE (steps.take k) E0 a)) w')) := by
     show ∀ w' v, _
     intro w' v h hv
     have hbw := UP.out w' (hwS.trans (h.mono hwS.size))
     exact do_any y b1 b2 m1 m2 v _ w' (hst w' hbw).1 (hst w' hbw).2 hv (by rw [List.length_map]; have := hsm.args.1; omega) (fun u hu => by
      obtain ⟨a, _, rfl⟩ := List.mem_map.1 hu
      exact normV_short (stepsE_short _ _ HSH.out a)) (HGL.out w' hbw)
    have HYO : Hid (y.out.size ≤ maxLen) := Lib.hid (by have := hsm.out; unfold maxLen; omega)
    have HNE := Lib.hid (stepsE_next steps E0 k y hy)
    have HAN : Hid (y.args.length ≤ maxLen) := Lib.hid (by have := hsm.args.1; unfold maxLen; omega)
    have HWS := Lib.hid hWS; have HWB := Lib.hid hwS; have HSS := Lib.hid hss; have HBL := Lib.hid HE.out.lt
    clear hst hcs hsm hy hbx hwS hss hWS
    obtain ⟨yout, yop, yargs, ylits, yn⟩ := y
    simp only [stepV] at e0 e1 e2 e3 e4 HCS HPK HDO HYO HNE HAN HWS
    go_wp2
    rw [HWS.out]
    refine wp_region_held_drew (S := (fun w' => w'.cell? ⟨wr.heap.size, 0, none⟩ = some (.string yout) ∧ w'.cell? ⟨wr.heap.size, 1, none⟩ = some (.int .i64 yop) ∧ w'.cell? ⟨wr.heap.size, 2, none⟩ = some (.slice b1 yargs.length m1) ∧ w'.cell? ⟨wr.heap.size, 3, none⟩ = some (.slice b2 ylits.length m2) ∧ w'.cell? ⟨wr.heap.size, 4, none⟩ = some (.int .i64 yn))) (by kernel_rfl) ?_ (fun hHeld => ?_)
    ·exact HCS.out _ rfl
    refine wpAnyH_take (i := 0) (oi := _) (v := ?_) (by simp only [List.getElem?_toArray, List.getElem?_cons_zero]; rfl) (by kernel_rfl) (by kernel_rfl) (by kernel_rfl) (by exact fun _ _ _ h => h) (Or.inl ⟨by rfl, ?_⟩) (by assumption) ?_
    rotate_left
    ·intro w hSw; obtain ⟨q0, q1, q2, q3, q4⟩ := hSw; go_simp; try with_reducible rfl
    try simp only [Act.put, List.setIfInBounds_toArray, List.set_cons_zero, List.set_cons_succ]
    refine wpAnyH_take (i := 1) (oi := _) (v := ?_) (by simp only [List.getElem?_toArray, List.getElem?_cons_succ, List.getElem?_cons_zero]; rfl) (by kernel_rfl) (by kernel_rfl) (by kernel_rfl) (by exact fun _ _ _ h => h) (Or.inl ⟨by rfl, ?_⟩) (by assumption) ?_
    rotate_left
    ·intro w hSw; obtain ⟨q0, q1, q2, q3, q4⟩ := hSw; go_simp; try with_reducible rfl
    try simp only [Act.put, List.setIfInBounds_toArray, List.set_cons_zero, List.set_cons_succ]
    refine wpAnyH_take (i := 2) (oi := _) (v := ?_) (by simp only [List.getElem?_toArray, List.getElem?_cons_succ, List.getElem?_cons_zero]; rfl) (by kernel_rfl) (by kernel_rfl) (by kernel_rfl) (by exact fun _ _ _ h => h) (Or.inl ⟨by rfl, ?_⟩) (by assumption) ?_
    rotate_left
    ·intro w hSw; obtain ⟨q0, q1, q2, q3, q4⟩ := hSw; go_simp; try with_reducible rfl
    try simp only [Act.put, List.setIfInBounds_toArray, List.set_cons_zero, List.set_cons_succ]
    refine wpAnyH_take (i := 3) (oi := _) (v := ?_) (by simp only [List.getElem?_toArray, List.getElem?_cons_succ, List.getElem?_cons_zero]; rfl) (by kernel_rfl) (by kernel_rfl) (by kernel_rfl) (by exact fun _ _ _ h => h) (Or.inl ⟨by rfl, ?_⟩) (by assumption) ?_
    rotate_left
    ·intro w hSw; obtain ⟨q0, q1, q2, q3, q4⟩ := hSw; go_simp; try with_reducible rfl
    try simp only [Act.put, List.setIfInBounds_toArray, List.set_cons_zero, List.set_cons_succ]
    refine wpAnyH_take (i := 4) (oi := _) (v := ?_) (by simp only [List.getElem?_toArray, List.getElem?_cons_succ, List.getElem?_cons_zero]; rfl) (by kernel_rfl) (by kernel_rfl) (by kernel_rfl) (by exact fun _ _ _ h => h) (Or.inl ⟨by rfl, ?_⟩) (by assumption) ?_
    rotate_left
    ·intro w hSw; obtain ⟨q0, q1, q2, q3, q4⟩ := hSw; go_simp; try with_reducible rfl
    try simp only [Act.put, List.setIfInBounds_toArray, List.set_cons_zero, List.set_cons_succ]
    refine wpAnyH_take (i := 5) (oi := _) (v := ?_) (by simp only [List.getElem?_toArray, List.getElem?_cons_succ, List.getElem?_cons_zero]; rfl) (by kernel_rfl) (by kernel_rfl) (by kernel_rfl) (by exact fun _ _ _ h => h) (Or.inl ⟨by rfl, ?_⟩) (by assumption) ?_
    rotate_left
    ·intro w hSw; obtain ⟨q0, q1, q2, q3, q4⟩ := hSw; go_simp; try with_reducible rfl
    try simp only [Act.put, List.setIfInBounds_toArray, List.set_cons_zero, List.set_cons_succ]
    refine wpAnyH_take (i := 6) (oi := _) (v := ?_) (by simp only [List.getElem?_toArray, List.getElem?_cons_succ, List.getElem?_cons_zero]; rfl) (by kernel_rfl) (by kernel_rfl) (by kernel_rfl) (by exact fun _ _ _ h => h) (Or.inl ⟨by rfl, ?_⟩) (by assumption) ?_
    rotate_left
    ·intro w hSw; obtain ⟨q0, q1, q2, q3, q4⟩ := hSw; go_simp; try with_reducible rfl
    try simp only [Act.put, List.setIfInBounds_toArray, List.set_cons_zero, List.set_cons_succ]
    refine wpAnyH_ready (rs := [7]) (by kernel_rfl) (by simp) ?_
    refine AllReadyH.cons (o := _) (by simp only [List.getElem?_toArray, List.getElem?_cons_succ, List.getElem?_cons_zero]; rfl) (fun K hK => ?_) ?_
    ·go_simp; refine (HPK.out _ (below_drewN (Below.refl _ _) 1)).mono ?_; rintro e w3 ⟨g, rfl, hrow, hgs, hb3⟩; have HB3 : Hid (Below WS.heap.size WS w3) := Lib.hid ((below_drewN (Below.refl _ _) 1).trans hb3); have hV3 := hrow.vals (by rw [List.length_map]; exact HAN.out); rw [List.length_map] at hV3; have HV3 := Lib.hid hV3; clear hrow hgs hb3 hV3; dsimp only
     refine hK.out _ _ ?_ (fun hHeld => ?_)
     ·try dsimp only
      exact HCS.out _ (HB3.out.block wr.heap.size (by have := HSS.out; omega))
     clear hK K
     try simp only [Act.put, List.setIfInBounds_toArray, List.set_cons_zero, List.set_cons_succ]
     refine wpAnyH_ready (rs := [8]) (by kernel_rfl) (by simp) ?_
     refine AllReadyH.cons (o := _) (by simp only [List.getElem?_toArray, List.getElem?_cons_succ, List.getElem?_cons_zero]; rfl) (fun K hK => ?_) ?_
     ·go_simp; refine (HDO.out _ _ HB3.out HV3.out).mono ?_; rintro e w4 ⟨rfl, hb4⟩; have HB4 := Lib.hid (HB3.out.trans (hb4.mono HB3.out.size)); obtain ⟨w5, hput, henv5, hturn⟩ := (HEV.out w4 HB4.out).put (by omega) yout HYO.out (doV ⟨yout, yop, yargs, ylits, yn⟩ (yargs.map fun a => normV (stepsE (steps.take k) E0 a))); rw [← HNE.out] at henv5; have HEN := Lib.hid henv5; have HBX : Hid (w5.heap[wr.heap.size]? = WS.heap[wr.heap.size]?) := Lib.hid ((hturn.grown.block wr.heap.size (by have := HB4.out.size; have := HSS.out; omega) (fun e => by have := HBL.out; cases e; omega)).trans (HB4.out.block wr.heap.size (by have := HSS.out; omega))); have HB5 : Hid (Below W1.heap.size W1 w5) := Lib.hid ((HWB.out.trans (HB4.out.mono HWB.out.size)).grown hturn.grown (Nat.le_trans HWB.out.size HB4.out.size) (fun j e => by cases e; exact HBB.out)); clear hb4 henv5 hturn; dsimp only
      refine hK.out _ _ ?_ (fun hHeld => ?_)
      ·try dsimp only
       exact HCS.out _ (HB4.out.block wr.heap.size (by have := HSS.out; omega))
      clear hK K
      try simp only [Act.put, List.setIfInBounds_toArray, List.set_cons_zero, List.set_cons_succ]
      refine wpAnyH_ready (rs := [9]) (by kernel_rfl) (by simp) ?_
      refine AllReadyH.cons (o := _) (by simp only [List.getElem?_toArray, List.getElem?_cons_succ, List.getElem?_cons_zero]; rfl) (fun K hK => ?_) ?_
      ·go_simp; first | done | skip
       refine hK.out _ _ ?_ (fun hHeld => ?_)
       ·try dsimp only
        exact HCS.out _ HBX.out
       clear hK K
       try simp only [Act.put, List.setIfInBounds_toArray, List.set_cons_zero, List.set_cons_succ]
       refine wpAnyH_done (by kernel_rfl) ?_ _
       go_wp2
       go_roundw
       case rel => exact ⟨k + 1, by omega, by go_num, HEN.out, HB5.out⟩
       case measure => simp [intOf]; omega
      exact AllReadyH.nil
     exact AllReadyH.nil
    exact AllReadyH.nil
   ·have hi1 : ¬ (k : Int) < (steps.length : Int) := by omega
    have hfull : steps.take k = steps := List.take_of_length_le (by omega)
    have hE := HE.out
    rw [hfull] at hE
    have CPP := Lib.hid (CP.out b _ _ wr hE HNX.out)
    obtain ⟨d0, d1, d2, d3, d4⟩ := HD.out wr HNX.out
    clear hfull hE
    go_wp2_with fail
    refine CPP.out.mono ?_
    rintro e w3 ⟨g, rfl, hrow, hgs, hb3⟩
    have hV := hrow.vals (by rw [List.length_map]; exact hN.out)
    rw [List.length_map, ← HRUN.out HLEN.out] at hV
    have HV := Lib.hid hV
    have HB3 := Lib.hid (UP.out w3 (HNX.out.trans (hb3.mono HNX.out.size)))
    clear hrow hgs hb3 hV
    go_wp2
    go_ret
    exact ⟨_, rfl, HV.out, HB3.out⟩
 ·have hle : ¬ (ins.length : Int) = (insN.length : Int) := by omega
  have HB1 := Lib.hid (UP.out W1 (Below.refl _ _))
  have hr0 := HRN.out hlen
  have HR0 := Lib.hid hr0
  clear hr0
  go_enter Tryz.func33, Tryz.ntmps33
  go_wp2
  rw [HW.out]
  go_ret
  exact ⟨_, rfl, by rw [HR0.out]; exact vals_nil' _, HB1.out⟩
end Go.Proofs.YtdhmeganlnpohaaGreatDoor
