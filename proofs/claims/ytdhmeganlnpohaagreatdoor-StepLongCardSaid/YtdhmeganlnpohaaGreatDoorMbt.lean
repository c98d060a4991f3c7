import Derived.Test.YtdhmeganlnpohaaGreatDoorMbd
import Derived.Test.YtdhmeganlnpohaaGreatDoorMbs
import Derived.Test.YtdhmeganlnpohaaGreatDoorMbh
import Derived.Test.YtdhmeganlnpohaaGreatDoorMay
import Derived.Test.YtdhmeganlnpohaaGreatDoorMae
import Derived.Test.YtdhmeganlnpohaaGreatDoorMaa
namespace Go.Proofs.YtdhmeganlnpohaaGreatDoor
open Go.RowKit Go.Shelf Go.Maps
set_option maxHeartbeats 8000000
set_option maxRecDepth 100000
theorem byE_sizes (ks : List ByteArray) (vs : List ValT) (h : ∀ v ∈ vs, v.2.size ≤ 100000000) : ShortE (byE ks vs fun _ => noV) := ShortE.by _ _ _ (fun _ => by show (0 : Nat) ≤ _; omega) h
def namedP (r : RuleS) (ks : List ByteArray) (vs : List ValT) : List ValT := runP r (r.ins.map fun k => normV (byE ks vs (fun _ => noV) k))
def NamedPost (r : RuleS) (ks : List ByteArray) (vs : List ValT) (w : World) (e : Ending) (w' : World) : Prop := ∃ v, e = .returned v ∧ IsVals w' v (namedP r ks vs) ∧ Below w.heap.size w w'
theorem named_any (r : RuleS) (a1 a2 a3 a4 : Option Addr) (c1 c2 c3 c4 : Nat) (nv vv : Value) (ks : List ByteArray) (vs : List ValT) (w : World) (hr : RuleI w [.string r.name, .slice a1 r.ins.length c1, .slice a2 r.outs.length c2, .slice a3 r.after.length c3, .slice a4 r.steps.length c4] r) (hs : SmallR r 1048576) (hk : IsStrs w nv ks) (hkn : ks.length ≤ 1000000) (hks : ∀ k ∈ ks, k.size ≤ maxLen) (hv : IsVals w vv vs) (hn : vs.length ≤ 1048576) (hi : ∀ v ∈ vs, v.2.size ≤ 100000000) (hG : Glob w) :
  Calls Tryz.prog 35 #[.agg (ruleV r a1 a2 a3 a4 c1 c2 c3 c4), nv, vv] w (NamedPost r ks vs w) := by
 have hri := hr
 obtain ⟨vi, vo, vf, vst, q, h1, h2, h3, h4⟩ := hr
 simp only [List.cons.injEq, and_true, true_and] at q
 obtain ⟨rfl, rfl, rfl, rfl⟩ := q
 have hsi := hs.ins
 have hb0 : Below w.heap.size w (w.alloc (.cells (ruleV r a1 a2 a3 a4 c1 c2 c3 c4) 45)) := (Below.refl _ _).alloc (Nat.le_refl _) _
 have hx := alloc_at w (.cells (ruleV r a1 a2 a3 a4 c1 c2 c3 c4) 45)
 obtain ⟨W1, hW1⟩ : ∃ W1, w.alloc (.cells (ruleV r a1 a2 a3 a4 c1 c2 c3 c4) 45) = W1 := ⟨_, rfl⟩
 have hs1 : W1.heap.size = w.heap.size + 1 := by rw [← hW1]; simp
 rw [hW1] at hb0 hx
 have HD : Hid (∀ W, Below W1.heap.size W1 W → W.cell? ⟨w.heap.size, 0, none⟩ = some (.string r.name) ∧ W.cell? ⟨w.heap.size, 1, none⟩ = some (.slice a1 r.ins.length c1) ∧ W.cell? ⟨w.heap.size, 2, none⟩ = some (.slice a2 r.outs.length c2) ∧ W.cell? ⟨w.heap.size, 3, none⟩ = some (.slice a3 r.after.length c3) ∧ W.cell? ⟨w.heap.size, 4, none⟩ = some (.slice a4 r.steps.length c4)) := by
  show ∀ W, _
  intro W hW
  obtain ⟨e0, e1, e2, e3, e4, _⟩ := cells5 ((hW.block w.heap.size (by omega)).trans hx)
  exact ⟨e0, e1, e2, e3, e4⟩
 have hW0 := hb0.size
 have UP : Hid (∀ W, Below W1.heap.size W1 W → Below w.heap.size w W) := by show ∀ W, _; exact fun W h => hb0.trans (h.mono hW0)
 have CB := Lib.hid (byName_any nv vv ks vs W1.drew (hk.below (UP.out _ (below_drewN (Below.refl _ _) 1))) (vals_below hv (UP.out _ (below_drewN (Below.refl _ _) 1))) (by omega) (by omega) hks)
 obtain ⟨E0, hE0⟩ : ∃ E0, (byE ks vs fun _ => noV) = E0 := ⟨_, rfl⟩
 have HSH : Hid (ShortE E0) := Lib.hid (by rw [← hE0]; exact byE_sizes ks vs hi)
 have HE0 := Lib.hid hE0
 have CP : Hid (∀ (b n : Nat) W, EnvIs W b n E0 → Below W1.heap.size W1 W → Calls Tryz.prog 66 #[.map (some b), .slice a1 r.ins.length c1] W (PickPost W r.ins E0)) := by
  show ∀ (b n : Nat) W, _
  exact fun b n W he hb => pick_any b n E0 _ r.ins W he (h1.below (UP.out W hb)) (by have := hsi.1; omega) (fun x hx => by have := hsi.2 x hx; unfold maxLen; omega)
 have CO : Hid (∀ W v, Below W1.heap.size W1 W → IsVals W v (r.ins.map fun k => normV (E0 k)) → Calls Tryz.prog 33 #[.agg (ruleV r a1 a2 a3 a4 c1 c2 c3 c4), v] W (OfPost r (r.ins.map fun k => normV (E0 k)) W)) := by
  show ∀ W v, _
  intro W v hb hv'
  have hbw := UP.out W hb
  exact of_any r a1 a2 a3 a4 c1 c2 c3 c4 v _ W (hri.below hbw) hs hv' (by rw [List.length_map]; exact hsi.1) (fun u hu => by
   obtain ⟨k, _, rfl⟩ := List.mem_map.1 hu
   exact normV_short (HSH.out k)) (hG.below hbw)
 have hnn : Hid (r.ins.length ≤ maxLen) := Lib.hid (by have := hsi.1; unfold maxLen; omega)
 have HP : Hid (namedP r ks vs = runP r (r.ins.map fun k => normV (E0 k))) := Lib.hid (by unfold namedP; rw [hE0])
 have HW := Lib.hid hW1; have HS1 := Lib.hid hs1
 have mixed : Tryz.prog.follows .mixedOrders = true := by kernel_rfl
 obtain ⟨d0, d1, d2, d3, d4⟩ := HD.out W1 (Below.refl _ _)
 obtain ⟨rname, rins, routs, rafter, rsteps⟩ := r
 simp only [ruleV] at d0 d1 d2 d3 d4 HD CP CO HP HW hnn ⊢
 clear hri h1 h2 h3 h4 hs hsi hk hv hG hb0 hx hW1 hs1 hW0 hE0 hi hkn hks
 go_enter Tryz.func35, Tryz.ntmps35
 go_wp2
 rw [HW.out]
 refine wp_region_held_drew (S := (fun w' => w'.cell? ⟨w.heap.size, 0, none⟩ = some (.string rname) ∧ w'.cell? ⟨w.heap.size, 1, none⟩ = some (.slice a1 rins.length c1) ∧ w'.cell? ⟨w.heap.size, 2, none⟩ = some (.slice a2 routs.length c2) ∧ w'.cell? ⟨w.heap.size, 3, none⟩ = some (.slice a3 rafter.length c3) ∧ w'.cell? ⟨w.heap.size, 4, none⟩ = some (.slice a4 rsteps.length c4))) (by kernel_rfl) ?_ (fun hHeld => ?_)
 ·exact HD.out _ (below_drewN (Below.refl _ _) 1)
 refine wpAnyH_take (i := 0) (oi := _) (v := ?_) (by simp only [List.getElem?_toArray, List.getElem?_cons_zero]; rfl) (by kernel_rfl) (by kernel_rfl) (by kernel_rfl) (by exact fun _ _ _ h => h) (Or.inl ⟨by rfl, ?_⟩) (by assumption) ?_
 rotate_left
 ·intro w hSw; obtain ⟨q0, q1, q2, q3, q4⟩ := hSw; go_simp; try with_reducible rfl
 try simp only [Act.put, List.setIfInBounds_toArray, List.set_cons_zero, List.set_cons_succ]
 refine wpAnyH_take (i := 1) (oi := _) (v := ?_) (by simp only [List.getElem?_toArray, List.getElem?_cons_succ, List.getElem?_cons_zero]; rfl) (by kernel_rfl) (by kernel_rfl) (by kernel_rfl) (by exact fun _ _ _ h => h) (Or.inl ⟨by rfl, ?_⟩) (by assumption) ?_
 rotate_left
 ·intro w hSw; obtain ⟨q0, q1, q2, q3, q4⟩ := hSw; go_simp; try with_reducible rfl
 try simp only [Act.put, List.setIfInBounds_toArray, List.set_cons_zero, List.set_cons_succ]
 refine wpAnyH_take (i := 2) (oi := _) (v := ?_) (by simp only [List.getElem?_toArray, List.getElem?_cons_succ, List.getElem?_cons_zero]; rfl) (by kernel_rfl) (by kernel_rfl) (by kernel_rfl) (by exact fun _ _ _ h => h) (Or.inl ⟨by rfl, ?_⟩) (by assumption) ?_
 rotate_left
 ·intro w hSw; obtain ⟨q0, q1, q2, q3, q4⟩ := hSw; go_simp; try with_reducible rfl
 try simp only [Act.put, List.setIfInBounds_toArray, List.set_cons_zero, List.set_cons_succ]
 refine wpAnyH_take (i := 4) (oi := _) (v := ?_) (by simp only [List.getElem?_toArray, List.getElem?_cons_succ, List.getElem?_cons_zero]; rfl) (by kernel_rfl) (by kernel_rfl) (by kernel_rfl) (by exact fun _ _ _ h => h) (Or.inl ⟨by rfl, ?_⟩) (by assumption) ?_
 rotate_left
 ·intro w hSw; obtain ⟨q0, q1, q2, q3, q4⟩ := hSw; go_simp; try with_reducible rfl
 try simp only [Act.put, List.setIfInBounds_toArray, List.set_cons_zero, List.set_cons_succ]
 refine wpAnyH_take (i := 5) (oi := _) (v := ?_) (by simp only [List.getElem?_toArray, List.getElem?_cons_succ, List.getElem?_cons_zero]; rfl) (by kernel_rfl) (by kernel_rfl) (by kernel_rfl) (by exact fun _ _ _ h => h) (Or.inl ⟨by rfl, ?_⟩) (by assumption) ?_
 rotate_left
 ·intro w hSw; obtain ⟨q0, q1, q2, q3, q4⟩ := hSw; go_simp; try with_reducible rfl
 try simp only [Act.put, List.setIfInBounds_toArray, List.set_cons_zero, List.set_cons_succ]
 refine wpAnyH_ready (rs := [3]) (by kernel_rfl) (by simp) ?_
 refine AllReadyH.cons (o := _) (by simp only [List.getElem?_toArray, List.getElem?_cons_succ, List.getElem?_cons_zero]; rfl) (fun K hK => ?_) ?_
 ·go_simp; refine CB.out.mono ?_; rintro e w3 ⟨b, rfl, henv, hbs, hb3⟩; rw [HE0.out] at henv; have HE3 := Lib.hid henv; have HB3 := Lib.hid ((below_drewN (Below.refl W1.heap.size W1) 1).trans hb3); clear henv hbs hb3; dsimp only
  refine hK.out _ _ ?_ (fun hHeld => ?_)
  ·try dsimp only
   exact HD.out _ HB3.out
  clear hK K
  try simp only [Act.put, List.setIfInBounds_toArray, List.set_cons_zero, List.set_cons_succ]
  refine wpAnyH_ready (rs := [6]) (by kernel_rfl) (by simp) ?_
  refine AllReadyH.cons (o := _) (by simp only [List.getElem?_toArray, List.getElem?_cons_succ, List.getElem?_cons_zero]; rfl) (fun K hK => ?_) ?_
  ·go_simp; refine (CP.out _ _ _ HE3.out HB3.out).mono ?_; rintro e w4 ⟨g, rfl, hrow, hgs, hb4⟩; have HB4 := Lib.hid (HB3.out.trans (hb4.mono HB3.out.size)); have hV4 := hrow.vals (by rw [List.length_map]; exact hnn.out); rw [List.length_map] at hV4; have HV4 := Lib.hid hV4; clear hrow hgs hb4 hV4; dsimp only
   refine hK.out _ _ ?_ (fun hHeld => ?_)
   ·try dsimp only
    exact HD.out _ HB4.out
   clear hK K
   try simp only [Act.put, List.setIfInBounds_toArray, List.set_cons_zero, List.set_cons_succ]
   refine wpAnyH_ready (rs := [7]) (by kernel_rfl) (by simp) ?_
   refine AllReadyH.cons (o := _) (by simp only [List.getElem?_toArray, List.getElem?_cons_succ, List.getElem?_cons_zero]; rfl) (fun K hK => ?_) ?_
   ·go_simp; refine (CO.out _ _ HB4.out HV4.out).mono ?_; rintro e w5 ⟨v5, rfl, hv5, hb5⟩; have HB5 := Lib.hid (HB4.out.trans (hb5.mono HB4.out.size)); have HV5 := Lib.hid hv5; clear hv5 hb5; dsimp only
    refine hK.out _ _ ?_ (fun hHeld => ?_)
    ·try dsimp only
     exact HD.out _ HB5.out
    clear hK K
    try simp only [Act.put, List.setIfInBounds_toArray, List.set_cons_zero, List.set_cons_succ]
    refine wpAnyH_ready (rs := [8]) (by kernel_rfl) (by simp) ?_
    refine AllReadyH.cons (o := _) (by simp only [List.getElem?_toArray, List.getElem?_cons_succ, List.getElem?_cons_zero]; rfl) (fun K hK => ?_) ?_
    ·go_simp
     refine hK.out _ _ ?_ (fun hHeld => ?_)
     ·try dsimp only
      exact HD.out _ HB5.out
     clear hK K
     try simp only [Act.put, List.setIfInBounds_toArray, List.set_cons_zero, List.set_cons_succ]
     refine wpAnyH_done (by kernel_rfl) ?_ _
     go_wp2
     go_ret
     exact ⟨_, rfl, by rw [HP.out]; exact HV5.out, UP.out _ HB5.out⟩
    exact AllReadyH.nil
   exact AllReadyH.nil
  exact AllReadyH.nil
 exact AllReadyH.nil
end Go.Proofs.YtdhmeganlnpohaaGreatDoor
namespace Go.Proofs.YtdhmeganlnpohaaGreatDoor
open Go.RowKit Go.Shelf Go.Maps
def rB : RuleS := ⟨⟨#[114]⟩, [⟨#[97]⟩, ⟨#[98]⟩], [⟨#[120]⟩, ⟨#[121]⟩], [], [⟨⟨#[116]⟩, 3, [⟨#[97]⟩], [], 0⟩, ⟨⟨#[120]⟩, 4, [⟨#[116]⟩], [], 0⟩, ⟨⟨#[121]⟩, 2, [⟨#[98]⟩], [], 0⟩]⟩
def rS : RuleS := ⟨⟨#[115]⟩, [⟨#[120]⟩], [⟨#[97]⟩], [], [⟨⟨#[97]⟩, 1, [⟨#[120]⟩], [], 0⟩]⟩
def trB : List F2 := [(⟨#[97]⟩, ⟨#[50, 10, 49]⟩)]
theorem k_srtA : srtL [[113], [112]] = [[112], [113]] := by
 unfold srtL
 simp [List.mergeSort, List.MergeSort.Internal.splitInTwo, List.merge]
 decide
theorem k_srtB : srtL [[50], [49]] = [[49], [50]] := by
 unfold srtL
 simp [List.mergeSort, List.MergeSort.Internal.splitInTwo, List.merge]
 decide
def sB : StepS := ⟨⟨#[116]⟩, 3, [⟨#[97]⟩], [], 0⟩
theorem k_sortA : doV sB [(true, ⟨#[113, 10, 112]⟩)] = (true, ⟨#[112, 10, 113, 10]⟩) := by
 unfold doV
 rw [if_pos (by kernel_rfl), show doT sB ([(true, (⟨#[113, 10, 112]⟩ : ByteArray))].map (·.2.data.toList)) = some (joinN (srtL (linesL [113, 10, 112]))) by kernel_rfl, show linesL [113, 10, 112] = [[113], [112]] by kernel_rfl, k_srtA]
 kernel_rfl
theorem k_sortB : doV sB [(true, ⟨#[50, 10, 49]⟩)] = (true, ⟨#[49, 10, 50, 10]⟩) := by
 unfold doV
 rw [if_pos (by kernel_rfl), show doT sB ([(true, (⟨#[50, 10, 49]⟩ : ByteArray))].map (·.2.data.toList)) = some (joinN (srtL (linesL [50, 10, 49]))) by kernel_rfl, show linesL [50, 10, 49] = [[50], [49]] by kernel_rfl, k_srtB]
 kernel_rfl
theorem k_sortN : doV sB [noV] = noV := by kernel_rfl
def envB (x y : ValT) : ByteArray → ValT := byE [⟨#[97]⟩, ⟨#[98]⟩] [x, y] fun _ => noV
theorem k_runB (x y t : ValT) (h : doV sB [normV x] = t) : runP rB [x, y] = [⟨#[120]⟩, ⟨#[121]⟩].map fun o => normV (stepsE [⟨⟨#[120]⟩, 4, [⟨#[116]⟩], [], 0⟩, ⟨⟨#[121]⟩, 2, [⟨#[98]⟩], [], 0⟩] (setE (envB x y) ⟨#[116]⟩ t) o) := by
 unfold runP
 rw [if_neg (by simp [rB])]
 show ([⟨#[120]⟩, ⟨#[121]⟩].map fun o => normV (stepsE [⟨⟨#[120]⟩, 4, [⟨#[116]⟩], [], 0⟩, ⟨⟨#[121]⟩, 2, [⟨#[98]⟩], [], 0⟩] (setE (envB x y) ⟨#[116]⟩ (doV sB [normV (envB x y ⟨#[97]⟩)])) o)) = _
 rw [show envB x y ⟨#[97]⟩ = x by rfl, h]
theorem k_run : runP rB [(true, ⟨#[113, 10, 112]⟩), (true, ⟨#[]⟩)] = [(true, ⟨#[50, 10]⟩), noV] := by
 rw [k_runB (true, ⟨#[113, 10, 112]⟩) (true, ⟨#[]⟩) _ k_sortA]
 kernel_rfl
theorem k_named : namedP rB [⟨#[98]⟩] [(true, ⟨#[122]⟩)] = [noV, (true, ⟨#[122]⟩)] := by
 show runP rB [noV, (true, ⟨#[122]⟩)] = _
 rw [k_runB noV (true, ⟨#[122]⟩) _ k_sortN]
 kernel_rfl
theorem k_rule : ruleB rB = 0 := by kernel_rfl
theorem k_may : mayB ⟨⟨#[116]⟩, 3, [⟨#[97]⟩], [], 0⟩ = true := by kernel_rfl
theorem k_lines : (linesB ⟨#[97, 10, 10, 98]⟩).length = 3 := by kernel_rfl
theorem k_steps : whL true 0 (needF [⟨#[120]⟩] rB.steps).1 = [0, 1] := by kernel_rfl
theorem k_dead : whL false 0 (needF rB.outs rB.steps).1 = [] := by kernel_rfl
theorem k_tree : newF [(⟨#[97]⟩, ⟨#[50, 10, 49]⟩)] = trB := by kernel_rfl
theorem k_readB : readF trB ⟨#[98]⟩ = (⟨#[]⟩, false) := by kernel_rfl
theorem k_readA : readF trB ⟨#[97]⟩ = (⟨#[50, 10, 49]⟩, true) := by kernel_rfl
theorem k_before1 : beforeB [rB] = (0, ⟨#[]⟩) := by kernel_rfl
theorem k_before2 : beforeB [rS, rB] = (0, ⟨#[]⟩) := by kernel_rfl
theorem k_eq : eqV noV (false, ⟨#[63]⟩) = true := by kernel_rfl
theorem k_sr1 : srtRules [rB] = [rB] := by simp [srtRules]
theorem k_sr2 : srtRules [rS, rB] = [rB, rS] := by
 have h : nmLe rS rB = false := by kernel_rfl
 unfold srtRules
 simp [List.mergeSort, List.MergeSort.Internal.splitInTwo, h]
theorem k_n1 : needL [rB] 0 = [] := by
 unfold needL
 rw [show (insAt [rB] 0).filterMap (mkrN [rB] [rB].length) ++ (afterAt [rB] 0).filterMap (plcN [rB] [rB].length) = [] by kernel_rfl]
 simp [srtN]
theorem k_n2 : needL [rB, rS] 0 = [1] := by
 unfold needL
 rw [show (insAt [rB, rS] 0).filterMap (mkrN [rB, rS] [rB, rS].length) ++ (afterAt [rB, rS] 0).filterMap (plcN [rB, rS] [rB, rS].length) = [1] by kernel_rfl]
 simp [srtN]
theorem k_n3 : needL [rB, rS] 1 = [0] := by
 unfold needL
 rw [show (insAt [rB, rS] 1).filterMap (mkrN [rB, rS] [rB, rS].length) ++ (afterAt [rB, rS] 1).filterMap (plcN [rB, rS] [rB, rS].length) = [0] by kernel_rfl]
 simp [srtN]
theorem k_fc1 : firstC [rB] = [] := by
 unfold firstC
 rw [show List.range [rB].length = [0] from rfl]
 simp [fcL, roundP, bfsF, nextsF, k_n1]
theorem k_fc2 : firstC [rB, rS] = [⟨#[114]⟩, ⟨#[115]⟩] := by
 have e : roundP 0 (needL [rB, rS]) [rB, rS].length = [0, 1] := by
  show bfsF 0 (needL [rB, rS]) 4 [[0]] [false, false] = [0, 1]
  simp [bfsF, nextsF, k_n2, k_n3]
 unfold firstC
 rw [show List.range [rB, rS].length = [0, 1] from rfl, fcL, e, if_neg (by simp)]
 rfl
theorem k_all1 : allB [rB] (firstC (srtRules [rB])) = (0, ⟨#[]⟩) := by rw [k_sr1, k_fc1]; unfold allB; rw [k_before1]; rfl
theorem k_all2 : allB [rS, rB] (firstC (srtRules [rS, rB])) = (3, ⟨#[114]⟩) := by rw [k_sr2, k_fc2]; unfold allB; rw [k_before2]; rfl
theorem k_files : filesV [rB] (readF trB) [⟨#[120]⟩, ⟨#[97]⟩, ⟨#[121]⟩] = [(true, ⟨#[50, 10]⟩), (true, ⟨#[50, 10, 49]⟩), noV] := by
 unfold filesV
 rw [if_pos (by unfold codeB; rw [k_all1])]
 have ha : ∀ d, valF [rB] (readF trB) (d + 1) ⟨#[97]⟩ = (true, ⟨#[50, 10, 49]⟩) := fun d => by rw [valF, show mkrN [rB] [rB].length ⟨#[97]⟩ = none by kernel_rfl]; show ((readF trB ⟨#[97]⟩).2, (readF trB ⟨#[97]⟩).1) = _; rw [k_readA]
 have hb : ∀ d, valF [rB] (readF trB) (d + 1) ⟨#[98]⟩ = noV := fun d => by rw [valF, show mkrN [rB] [rB].length ⟨#[98]⟩ = none by kernel_rfl]; show ((readF trB ⟨#[98]⟩).2, (readF trB ⟨#[98]⟩).1) = _; rw [k_readB]; rfl
 have hr : runP rB (rB.ins.map (valF [rB] (readF trB) 2)) = [(true, ⟨#[50, 10]⟩), noV] := by
  rw [show rB.ins.map (valF [rB] (readF trB) 2) = [(true, ⟨#[50, 10, 49]⟩), noV] by show [valF _ _ _ _, valF _ _ _ _] = _; rw [ha 1, hb 1], k_runB (true, ⟨#[50, 10, 49]⟩) noV _ k_sortB]
  kernel_rfl
 have hx : fileV [rB] (readF trB) ⟨#[120]⟩ = (true, ⟨#[50, 10]⟩) := by
  show valF [rB] (readF trB) 3 ⟨#[120]⟩ = _
  rw [valF, show mkrN [rB] [rB].length ⟨#[120]⟩ = some 0 by kernel_rfl]
  show (runP rB (rB.ins.map (valF [rB] (readF trB) 2))).getD (findI rB.outs ⟨#[120]⟩).toNat noV = _
  rw [hr]; kernel_rfl
 have hy : fileV [rB] (readF trB) ⟨#[121]⟩ = noV := by
  show valF [rB] (readF trB) 3 ⟨#[121]⟩ = _
  rw [valF, show mkrN [rB] [rB].length ⟨#[121]⟩ = some 0 by kernel_rfl]
  show (runP rB (rB.ins.map (valF [rB] (readF trB) 2))).getD (findI rB.outs ⟨#[121]⟩).toNat noV = _
  rw [hr]; kernel_rfl
 show [fileV _ _ _, fileV _ _ _, fileV _ _ _] = _
 rw [hx, hy]
 show [_, valF [rB] (readF trB) 3 ⟨#[97]⟩, _] = _
 rw [ha 2]
theorem k_reads : (readP rB [⟨#[120]⟩]).length = 1 := by
 unfold readP
 rw [show rB.ins.filter (fun a => decide (0 ≤ findI (argsM rB.steps (needF [⟨#[120]⟩] rB.steps).1) a)) = [⟨#[97]⟩] by kernel_rfl]
 unfold srtB
 rw [List.length_map]
 unfold srtL
 rw [List.length_mergeSort]; rfl
theorem k_readsAll : (readP rB rB.outs).length = 2 := by
 unfold readP
 rw [show rB.ins.filter (fun a => decide (0 ≤ findI (argsM rB.steps (needF rB.outs rB.steps).1) a)) = [⟨#[97]⟩, ⟨#[98]⟩] by kernel_rfl]
 unfold srtB
 rw [List.length_map]
 unfold srtL
 rw [List.length_mergeSort]; rfl
def smallLB (l : List ByteArray) : Bool := decide (l.length ≤ 1048576) && l.all fun x => decide (x.size ≤ 1048576)
theorem smallL_of {l : List ByteArray} (h : smallLB l = true) : SmallL l 1048576 := by
 unfold smallLB at h
 rw [Bool.and_eq_true, decide_eq_true_eq, List.all_eq_true] at h
 exact ⟨h.1, fun x hx => by simpa using h.2 x hx⟩
def smallRB (r : RuleS) : Bool := decide (r.name.size ≤ 1048576) && smallLB r.ins && smallLB r.outs && smallLB r.after && decide (r.steps.length ≤ 1048576) && r.steps.all fun s => decide (s.out.size ≤ 1048576) && smallLB s.args && smallLB s.lits && decide (-9223372036854775808 ≤ s.op ∧ s.op ≤ 9223372036854775807) && decide (-9223372036854775808 ≤ s.n ∧ s.n ≤ 9223372036854775807)
theorem smallR_of {r : RuleS} (h : smallRB r = true) : SmallR r 1048576 := by
 unfold smallRB at h
 simp only [Bool.and_eq_true, decide_eq_true_eq, List.all_eq_true] at h
 obtain ⟨⟨⟨⟨⟨h1, h2⟩, h3⟩, h4⟩, h5⟩, h6⟩ := h
 exact ⟨h1, smallL_of h2, smallL_of h3, smallL_of h4, h5, fun s hs => by obtain ⟨⟨⟨⟨a, b⟩, c⟩, d⟩, e⟩ := h6 s hs; exact ⟨a, smallL_of b, smallL_of c, d, e⟩⟩
theorem k_small : SmallR rB 1048576 := smallR_of (by kernel_rfl)
theorem k_smallS : SmallR rS 1048576 := smallR_of (by kernel_rfl)
end Go.Proofs.YtdhmeganlnpohaaGreatDoor
namespace Go.Proofs.YtdhmeganlnpohaaGreatDoor
open Go.RowKit Go.Shelf
theorem val_und : Tryz.prog.underlying 34 = some (.struct (Tryz.prog.fieldsOf 34)) := by kernel_rfl
theorem val_held : Tryz.prog.stoodInHeld 34 = false := by kernel_rfl
set_option maxRecDepth 100000 in
theorem eq_vals (a b : Bool) (s t : ByteArray) (w : World) : (Go.binOp .eql 34 (.agg #[.bool a, .string s]) (.agg #[.bool b, .string t])).run Tryz.prog w = .ok (.bool ((a == b) && (s.toList == t.toList))) w := by
 have h1 := Tryz.underlying4
 have h2 := Tryz.underlying9
 have z1 := Tryz.sizeOf4
 have z2 := Tryz.sizeOf9
 rw [run_eql_struct, run_equalIn_agg w 9999 _ _ _ val_und val_held]
 simp only [Program.fieldsOf, Tryz.underlying34]
 cases a <;> cases b <;> go_simp
 all_goals (by_cases h : s.toList = t.toList <;> simp [h])
end Go.Proofs.YtdhmeganlnpohaaGreatDoor
