import Derived.Test.YtdhmeganlnpohaaGreatDoorMbn
namespace Go.Proofs.YtdhmeganlnpohaaGreatDoor
open Go.RowKit Go.Shelf Go.Maps
theorem below_grown' {B : Nat} {w w' : World} (h : Below B w w') (hB : w.heap.size ≤ B) : w.grownBy w' none := ⟨h.os, h.tape, h.output, h.size, fun k hk _ => h.block k (by omega)⟩
theorem grown_weak {w w' : World} {row : Option Nat} (h : w.grownBy w' none) : w.grownBy w' row := ⟨h.os, h.tape, h.output, h.size, fun k hk _ => h.block k hk (by simp)⟩
theorem vals_grown {w w' : World} {v : Value} {xs : List ValT} {b : Nat} (h : IsVals w v xs) (hg : w.grownBy w' (some b)) (hm : ∃ es c, w.heap[b]? = some (.map es c)) : IsVals w' v xs := by
 obtain ⟨a, c, e, h1, h2, h3⟩ := h
 refine ⟨a, c, e, h1, h2, fun hne => ?_⟩
 obtain ⟨g, o, ea, hgl, hc⟩ := h3 hne
 obtain ⟨es, c', hmp⟩ := hm
 have hgb : some g ≠ some b := by
  rintro ⟨⟩
  cases xs with
  | nil => exact hne rfl
  | cons x xs =>
   have := (hc 0 x rfl).1
   simp [World.cell?, hmp] at this
 exact ⟨g, o, ea, Nat.lt_of_lt_of_le hgl hg.size, fun j x hx => ⟨(World.cell?_of_block (a := ⟨g, o + j * 2, none⟩) (hg.block g hgl hgb)).trans (hc j x hx).1, (World.cell?_of_block (a := ⟨g, o + j * 2 + 1, none⟩) (hg.block g hgl hgb)).trans (hc j x hx).2⟩⟩
theorem runP_len {r : RuleS} {ins : List ValT} (h : ins.length = r.ins.length) : (runP r ins).length = r.outs.length := by unfold runP; rw [if_neg (by omega), List.length_map]
set_option maxHeartbeats 8000000
set_option maxRecDepth 100000
def ExecPost (n nm bm : Nat) (w0 : World) (rs : List RuleS) (RV : Nat → Value) (VV : ByteArray → ValT) (P outs : List ByteArray) (W : World) (e : Ending) (w' : World) : Prop :=
 e = .returned (.tuple #[]) ∧ W.grownBy w' (some bm) ∧ DenI w0 n nm bm rs RV VV (P ++ outs) w'
theorem execute_any {w0 : World} {n nm bm : Nat} {rs : List RuleS} {RV : Nat → Value} {VV : ByteArray → ValT} {rk : Nat → Nat} {tv : Value} {f : ByteArray → ByteArray × Bool} (hH : DenH w0 n nm bm rs RV VV rk tv f) (D : Nat) (hOne : OneDoes w0 n nm bm rs RV VV rk tv D)
  (k0 : Nat) (r : RuleS) (hr0 : rs[k0]? = some r) (hrk : rk k0 ≤ D) (P : List ByteArray) (W : World) (hI : DenI w0 n nm bm rs RV VV P W) :
  Calls Tryz.prog 152 #[.agg #[tv, .map (some nm), .map (some bm)], RV k0] W (ExecPost n nm bm w0 rs RV VV P r.outs W) := by
 have mixed : Tryz.prog.follows .mixedOrders = true := by kernel_rfl
 obtain ⟨a1, c1, a2, c2, a3, c3, a4, c4, hRV, hri⟩ := hH.rv k0 r hr0
 have hrm := List.mem_of_getElem? hr0
 have hsm := hH.small r hrm
 have hn0 := hH.hn
 obtain ⟨m, hmm⟩ : ∃ m, W.heap.size = m := ⟨_, rfl⟩
 obtain ⟨ta, hta⟩ := hH.tree
 obtain ⟨W2, hW2⟩ : ∃ V, (W.alloc (.cells #[tv, .map (some nm), .map (some bm)] 104)).alloc (.cells (ruleV r a1 a2 a3 a4 c1 c2 c3 c4) 45) = V := ⟨_, rfl⟩
 have hg2 : W.grownBy W2 none := by rw [← hW2]; exact (grown_alloc0 _ _).trans (grown_alloc0 _ _)
 have hI2 := hI.kept hH hg2 (by simp)
 have hm2 : W2.heap[m]? = some (.cells #[tv, .map (some nm), .map (some bm)] 104) := by
  rw [← hW2, Below.heap_alloc _ _ _ (by simp [hmm]), ← hmm]; exact alloc_at W _
 have hx2 : W2.heap[m + 1]? = some (.cells (ruleV r a1 a2 a3 a4 c1 c2 c3 c4) 45) := by
  have := alloc_at (W.alloc (.cells #[tv, .map (some nm), .map (some bm)] 104)) (.cells (ruleV r a1 a2 a3 a4 c1 c2 c3 c4) 45)
  rw [World.size_alloc, hmm] at this
  rw [← hW2]; exact this
 have hs2 : W2.heap.size = m + 2 := by rw [← hW2]; simp [hmm]
 have hbl := hI.bml
 have hnl2 := hI.nml
 have hbne : bm < m ∧ nm < m := by omega
 have hmo : ∀ x ∈ r.ins, x.size ≤ maxLen := smallMax hsm.ins
 have hmoo : ∀ x ∈ r.outs, x.size ≤ maxLen := smallMax hsm.outs
 have HC : Hid (∀ V : World, W2.grownBy V (some bm) → (V.cell? ⟨m, 0, none⟩ = some tv ∧ V.cell? ⟨m, 1, none⟩ = some (.map (some nm)) ∧ V.cell? ⟨m, 2, none⟩ = some (.map (some bm))) ∧ V.cell? ⟨m + 1, 0, none⟩ = some (.string r.name) ∧ V.cell? ⟨m + 1, 1, none⟩ = some (.slice a1 r.ins.length c1) ∧ V.cell? ⟨m + 1, 2, none⟩ = some (.slice a2 r.outs.length c2) ∧ V.cell? ⟨m + 1, 3, none⟩ = some (.slice a3 r.after.length c3) ∧ V.cell? ⟨m + 1, 4, none⟩ = some (.slice a4 r.steps.length c4)) := by
  show ∀ V, _
  intro V hV
  obtain ⟨p0, p1, p2, _⟩ := cells3 ((hV.block m (by omega) (fun e => by have := Option.some.inj e; omega)).trans hm2)
  obtain ⟨q0, q1, q2, q3, q4, _⟩ := cells5 ((hV.block (m + 1) (by omega) (fun e => by have := Option.some.inj e; omega)).trans hx2)
  exact ⟨⟨p0, p1, p2⟩, q0, q1, q2, q3, q4⟩
 have CA : Hid (∀ V, W2.grownBy V none → Calls Tryz.prog 76 #[.agg #[tv, .map (some nm), .map (some bm)], .slice a1 r.ins.length c1] V (AllPost n nm bm w0 rs RV VV P V r.ins)) := by
  show ∀ V, _
  intro V hV
  have hIV := hI2.kept hH hV (by simp)
  exact denAll_any hH D hOne _ r.ins P V ((ruleI_ins hri).below (by rw [hn0]; exact hIV.below)) hmo (by have := hsm.ins.1; omega) (fun x hx j hj => by have := hH.mean.down k0 r hr0 x hx j hj; omega) hIV
 have CO : Hid (∀ V v, DenI w0 n nm bm rs RV VV P V → IsVals V v (r.ins.map VV) → Calls Tryz.prog 33 #[.agg (ruleV r a1 a2 a3 a4 c1 c2 c3 c4), v] V (OfPost r (r.ins.map VV) V)) := by
  show ∀ V v, _
  intro V v hV hv
  have hbV : Below w0.heap.size w0 V := by rw [hn0]; exact hV.below
  exact of_any r a1 a2 a3 a4 c1 c2 c3 c4 v _ V (hri.below hbV) hsm hv (by rw [List.length_map]; have := hsm.ins.1; omega) (fun u hu => by obtain ⟨x, _, rfl⟩ := List.mem_map.1 hu; exact hH.size x) (hH.glob.below hbV)
 have HOC : Hid (∀ (j : Nat) x, r.outs[j]? = some x → ∃ b o, a2 = some ⟨b, o, none⟩ ∧ ∀ V, Below n w0 V → V.cell? ⟨b, o + j, none⟩ = some (.string x)) := by
  show ∀ (j : Nat) x, _
  intro j x hx
  obtain ⟨oa, oc, eo, _, _, hocc⟩ := isStrs_cells (ruleI_outs hri)
  obtain ⟨eo1, _, _⟩ := Value.slice.inj eo
  subst eo1
  obtain ⟨b, o, e, hc⟩ := hocc j x hx
  exact ⟨b, o, e, fun V hV => hc V (by rw [hn0]; exact hV)⟩
 have HOUT : Hid (∀ (j : Nat) o, r.outs[j]? = some o → VV o = (runP r (r.ins.map VV)).getD j noV) := Lib.hid fun j o ho => hH.mean.out k0 r hr0 j o ho
 have HFL : Hid (∀ o ∈ r.outs, o ∈ rs.flatMap (·.outs)) := Lib.hid fun o ho => List.mem_flatMap.2 ⟨r, hrm, ho⟩
 have hrl : (runP r (r.ins.map VV)).length = r.outs.length := runP_len (by rw [List.length_map])
 have hocm : r.outs.length ≤ c2 ∧ c2 ≤ maxLen := by
  obtain ⟨oa, oc, eo, h1, h2, _⟩ := isStrs_cells (ruleI_outs hri)
  obtain ⟨_, _, eo3⟩ := Value.slice.inj eo
  subst eo3; exact ⟨h1, h2⟩
 have HVL : Hid (r.ins.length ≤ maxLen) := Lib.hid (by have := hsm.ins.1; unfold maxLen; omega)
 have hol := hsm.outs.1
 obtain ⟨R, hR⟩ : ∃ R, runP r (r.ins.map VV) = R := ⟨_, rfl⟩
 have hRl : R.length = r.outs.length := by rw [← hR]; exact hrl
 have CO2 : Hid (∀ V v, DenI w0 n nm bm rs RV VV P V → IsVals V v (r.ins.map VV) → Calls Tryz.prog 33 #[.agg (ruleV r a1 a2 a3 a4 c1 c2 c3 c4), v] V fun e w' => ∃ u c, e = .returned (.slice u r.outs.length c) ∧ r.outs.length ≤ c ∧ c ≤ maxLen ∧ IsVals w' (.slice u r.outs.length c) R ∧ Below V.heap.size V w') := by
  show ∀ V v, _
  intro V v h1 h2
  refine (CO.out V v h1 h2).mono ?_
  rintro e w' ⟨u, rfl, hu, hb⟩
  rw [hR] at hu
  obtain ⟨a, c, rfl, h3, h4, _⟩ := id hu
  rw [hRl] at hu h3 ⊢
  exact ⟨a, c, rfl, h3, h4, hu, hb⟩
 rw [hR] at HOUT hrl
 have HG2 := Lib.hid hg2; have HI2 := Lib.hid hI2; have HS2 := Lib.hid hs2; have HMM := Lib.hid hmm; have HH := Lib.hid hH; have HW2 := Lib.hid hW2; have HBNE := Lib.hid hbne; have HMOO := Lib.hid hmoo; have HRL := Lib.hid hrl
 obtain ⟨name, ins, outs, after, steps⟩ := r
 simp only at *
 rw [hRV]
 unfold ExecPost
 subst hta
 unfold maxLen at hocm
 clear hRV hri hr0 hrk hrm hsm hg2 hI hI2 hm2 hx2 hs2 hbl hnl2 hbne hmo hmoo hR hW2 hmm hn0 hrl hRl CO hOne hH
 go_enter Tryz.func152, Tryz.ntmps152
 go_wp2_with fail
 rw [HW2.out, HMM.out]
 refine wp_region_held_drew (S := (fun V => (V.cell? ⟨m, 0, none⟩ = some (.pointer ta) ∧ V.cell? ⟨m, 1, none⟩ = some (.map (some nm)) ∧ V.cell? ⟨m, 2, none⟩ = some (.map (some bm))) ∧ V.cell? ⟨m + 1, 0, none⟩ = some (.string name) ∧ V.cell? ⟨m + 1, 1, none⟩ = some (.slice a1 ins.length c1) ∧ V.cell? ⟨m + 1, 2, none⟩ = some (.slice a2 outs.length c2) ∧ V.cell? ⟨m + 1, 3, none⟩ = some (.slice a3 after.length c3) ∧ V.cell? ⟨m + 1, 4, none⟩ = some (.slice a4 steps.length c4))) (by kernel_rfl) ?_ (fun hHeld => ?_)
 ·exact HC.out _ (grown_weak (below_grown' (below_drewN (Below.refl W2.heap.size W2) 1) (Nat.le_refl _)))
 refine wpAnyH_take (i := 0) (oi := _) (v := ?_) (by simp only [List.getElem?_toArray, List.getElem?_cons_zero]; rfl) (by kernel_rfl) (by kernel_rfl) (by kernel_rfl) (by exact fun _ _ _ h => h) (Or.inl ⟨by rfl, ?_⟩) (by assumption) ?_
 rotate_left
 ·intro w hSw; obtain ⟨⟨p0, p1, p2⟩, q0, q1, q2, q3, q4⟩ := hSw; go_simp; try with_reducible rfl
 try simp only [Act.put, List.setIfInBounds_toArray, List.set_cons_zero, List.set_cons_succ]
 refine wpAnyH_take (i := 1) (oi := _) (v := ?_) (by simp only [List.getElem?_toArray, List.getElem?_cons_succ, List.getElem?_cons_zero]; rfl) (by kernel_rfl) (by kernel_rfl) (by kernel_rfl) (by exact fun _ _ _ h => h) (Or.inl ⟨by rfl, ?_⟩) (by assumption) ?_
 rotate_left
 ·intro w hSw; obtain ⟨⟨p0, p1, p2⟩, q0, q1, q2, q3, q4⟩ := hSw; go_simp; try with_reducible rfl
 try simp only [Act.put, List.setIfInBounds_toArray, List.set_cons_zero, List.set_cons_succ]
 refine wpAnyH_take (i := 2) (oi := _) (v := ?_) (by simp only [List.getElem?_toArray, List.getElem?_cons_succ, List.getElem?_cons_zero]; rfl) (by kernel_rfl) (by kernel_rfl) (by kernel_rfl) (by exact fun _ _ _ h => h) (Or.inl ⟨by rfl, ?_⟩) (by assumption) ?_
 rotate_left
 ·intro w hSw; obtain ⟨⟨p0, p1, p2⟩, q0, q1, q2, q3, q4⟩ := hSw; go_simp; try with_reducible rfl
 try simp only [Act.put, List.setIfInBounds_toArray, List.set_cons_zero, List.set_cons_succ]
 refine wpAnyH_take (i := 3) (oi := _) (v := ?_) (by simp only [List.getElem?_toArray, List.getElem?_cons_succ, List.getElem?_cons_zero]; rfl) (by kernel_rfl) (by kernel_rfl) (by kernel_rfl) (by exact fun _ _ _ h => h) (Or.inl ⟨by rfl, ?_⟩) (by assumption) ?_
 rotate_left
 ·intro w hSw; obtain ⟨⟨p0, p1, p2⟩, q0, q1, q2, q3, q4⟩ := hSw; go_simp; try with_reducible rfl
 try simp only [Act.put, List.setIfInBounds_toArray, List.set_cons_zero, List.set_cons_succ]
 refine wpAnyH_take (i := 7) (oi := _) (v := ?_) (by simp only [List.getElem?_toArray, List.getElem?_cons_succ, List.getElem?_cons_zero]; rfl) (by kernel_rfl) (by kernel_rfl) (by kernel_rfl) (by exact fun _ _ _ h => h) (Or.inl ⟨by rfl, ?_⟩) (by assumption) ?_
 rotate_left
 ·intro w hSw; obtain ⟨⟨p0, p1, p2⟩, q0, q1, q2, q3, q4⟩ := hSw; go_simp; try with_reducible rfl
 try simp only [Act.put, List.setIfInBounds_toArray, List.set_cons_zero, List.set_cons_succ]
 refine wpAnyH_ready (rs := [4]) (by kernel_rfl) (by simp) ?_
 refine AllReadyH.cons (o := _) (by simp only [List.getElem?_toArray, List.getElem?_cons_succ, List.getElem?_cons_zero]; rfl) (fun K hK => ?_) ?_
 ·go_simp; refine (CA.out _ (below_grown' (below_drewN (Below.refl _ _) 1) (Nat.le_refl _))).mono ?_; rintro e w3 ⟨g, rfl, hrow, hgs, hg3, hI3⟩; have hv3 := hrow.vals (by rw [List.length_map]; exact HVL.out); rw [List.length_map] at hv3; have HV3 := Lib.hid hv3; have HI3 := Lib.hid hI3; have HG3 : Hid (W2.grownBy w3 (some bm)) := Lib.hid (World.grownBy.trans (grown_weak (below_grown' (below_drewN (Below.refl _ _) 1) (Nat.le_refl _))) hg3); clear hrow hgs hg3 hI3 hv3; dsimp only
  refine hK.out _ _ ?_ (fun hHeld => ?_)
  ·try dsimp only
   exact HC.out _ HG3.out
  clear hK K
  try simp only [Act.put, List.setIfInBounds_toArray, List.set_cons_zero, List.set_cons_succ]
  refine wpAnyH_ready (rs := [5]) (by kernel_rfl) (by simp) ?_
  refine AllReadyH.cons (o := _) (by simp only [List.getElem?_toArray, List.getElem?_cons_succ, List.getElem?_cons_zero]; rfl) (fun K hK => ?_) ?_
  ·go_simp; refine (CO2.out _ _ HI3.out HV3.out).mono ?_; rintro e w4 ⟨u, uc, rfl, huc, hum, hu, hb4⟩; have HU := Lib.hid hu; have HB4 := Lib.hid hb4; have HG4 : Hid (W2.grownBy w4 (some bm)) := Lib.hid (HG3.out.trans (grown_weak (below_grown' hb4 (Nat.le_refl _)))); clear hu hb4; dsimp only
   refine hK.out _ _ ?_ (fun hHeld => ?_)
   ·try dsimp only
    exact HC.out _ HG4.out
   clear hK K
   try simp only [Act.put, List.setIfInBounds_toArray, List.set_cons_zero, List.set_cons_succ]
   refine wpAnyH_take (i := 6) (oi := _) (v := ?_) (by simp only [List.getElem?_toArray, List.getElem?_cons_succ, List.getElem?_cons_zero]; rfl) (by kernel_rfl) (by kernel_rfl) (by kernel_rfl) (by exact fun _ _ _ h => h) (Or.inl ⟨by rfl, ?_⟩) (by assumption) ?_
   rotate_left
   ·intro w hSw; obtain ⟨⟨p0, p1, p2⟩, q0, q1, q2, q3, q4⟩ := hSw; go_simp; try with_reducible rfl
   try simp only [Act.put, List.setIfInBounds_toArray, List.set_cons_zero, List.set_cons_succ]
   refine wpAnyH_done (by kernel_rfl) ?_ _
   have hI4 := HI3.out.kept HH.out (below_grown' HB4.out (Nat.le_refl _)) (by simp)
   have hmp4 := hI4.isMap
   have HV4 : Hid (∀ wr, w4.grownBy wr (some bm) → ∀ (j : Nat) x, R[j]? = some x → ∃ b o, u = some ⟨b, o, none⟩ ∧ wr.cell? ⟨b, o + j * 2, none⟩ = some (.bool x.1) ∧ wr.cell? ⟨b, o + j * 2 + 1, none⟩ = some (.string x.2)) := by
    show ∀ wr, _
    intro wr hg j x hx
    obtain ⟨a, c, e, _, _, h3⟩ := vals_grown HU.out hg hmp4
    obtain ⟨e1, _, _⟩ := Value.slice.inj e
    subst e1
    obtain ⟨b, o, ea, _, hc⟩ := h3 (by rintro rfl; simp at hx)
    exact ⟨b, o, ea, hc j x hx⟩
   have HI4 := Lib.hid hI4
   have HFIN : Hid (∀ wr, w4.grownBy wr (some bm) → W.grownBy wr (some bm)) := Lib.hid fun wr hg => World.grownBy.trans (grown_weak HG2.out) (HG4.out.trans hg)
   clear hI4 hmp4 hHeld
   go_wp2_with fail
   go_loopw [13] (fun iv wr => ∃ k : Nat, k ≤ outs.length ∧ iv = .int .i64 (k : Int) ∧ DenI w0 n nm bm rs RV VV (P ++ outs.take k) wr ∧ w4.grownBy wr (some bm)) (fun iv _ => outs.length - (intOf iv).toNat)
   case atStart => exact ⟨0, Nat.zero_le _, rfl, by simpa using HI4.out, World.grownBy.refl _ _⟩
   case round =>
    obtain ⟨k, hk, rfl, hI, hg⟩ := hrel
    by_cases hlt : k < outs.length
    ·obtain ⟨o, ho⟩ : ∃ o, outs[k]? = some o := ⟨outs[k], List.getElem?_eq_getElem hlt⟩
     obtain ⟨x, hx⟩ : ∃ x, R[k]? = some x := ⟨R[k]'(by rw [HRL.out]; exact hlt), List.getElem?_eq_getElem _⟩
     have hvv : VV o = x := by rw [HOUT.out k o ho, List.getD_eq_getElem?_getD, hx]; rfl
     obtain ⟨ok, tx⟩ := x
     obtain ⟨ub, uo, eu, cu1, cu2⟩ := HV4.out wr hg k _ hx
     subst eu
     simp only at cu1 cu2
     obtain ⟨ob, oo, eo, hoc⟩ := HOC.out k o ho
     subst eo
     obtain ⟨wa, hwa⟩ : ∃ V, (wr.alloc (.cells #[.bool ok, .string tx] 34)) = V := ⟨_, rfl⟩
     have hga : wr.grownBy wa.drew none := by rw [← hwa]; exact ⟨rfl, rfl, rfl, by show wr.heap.size ≤ (wr.alloc _).heap.size; simp, fun i hi _ => Below.heap_alloc _ _ i hi⟩
     have hIa := hI.kept HH.out hga (by simp)
     have hom := List.mem_of_getElem? ho
     obtain ⟨w5, hput, hI5, hg5⟩ := hIa.put HH.out (HFL.out o hom) (HMOO.out o hom)
     rw [hvv, show valE (ok, tx) = .agg #[.bool ok, .string tx] from rfl] at hput
     have hga2 := HG4.out.trans (hg.trans (grown_weak (row := some bm) hga))
     obtain ⟨⟨p0, p1, p2⟩, q0, q1, q2, q3, q4⟩ := HC.out wa.drew hga2
     have cx := hoc wa.drew hIa.below
     have hbx := alloc_at wr (.cells #[.bool ok, .string tx] 34)
     rw [hwa] at hbx
     obtain ⟨b0, b1, _, _⟩ := cells2 (w := wa.drew) hbx
     have HI5 : Hid (DenI w0 n nm bm rs RV VV (P ++ outs.take (k + 1)) w5) := Lib.hid (by rw [List.take_add_one, ho, Option.toList_some, ← List.append_assoc]; exact hI5)
     have HG5 : Hid (w4.grownBy w5 (some bm)) := Lib.hid ((hg.trans (grown_weak (row := some bm) hga)).trans hg5)
     have HWA := Lib.hid hwa
     have hi1 : (k : Int) < (outs.length : Int) := by omega
     have hi0 : (0 : Int) ≤ (k : Int) := by omega
     clear hI hg ho hx hvv hoc hga hIa hom hI5 hg5 hga2 hbx hwa
     go_wp2_with fail
     rw [HWA.out]
     go_region
     all_goals go_wp2
     all_goals go_roundw
     case rel => exact ⟨k + 1, by omega, by go_num, HI5.out, HG5.out⟩
     case measure => simp [intOf]; omega
    ·have hi1 : ¬ (k : Int) < (outs.length : Int) := by omega
     rw [List.take_of_length_le (by omega)] at hI
     have HI := Lib.hid hI; have HG := Lib.hid hg
     clear hI hg
     go_wp2
     go_end0
     exact ⟨rfl, HFIN.out _ HG.out, HI.out⟩
  exact AllReadyH.nil
 exact AllReadyH.nil
end Go.Proofs.YtdhmeganlnpohaaGreatDoor
namespace Go.Proofs.YtdhmeganlnpohaaGreatDoor
open Go.RowKit Go.Shelf Go.Maps
set_option maxHeartbeats 8000000
set_option maxRecDepth 100000
theorem one_any {w0 : World} {n nm bm : Nat} {rs : List RuleS} {RV : Nat → Value} {VV : ByteArray → ValT} {rk : Nat → Nat} {tv : Value} {f : ByteArray → ByteArray × Bool} (hH : DenH w0 n nm bm rs RV VV rk tv f) (D : Nat) (hOne : ∀ D', D = D' + 1 → OneDoes w0 n nm bm rs RV VV rk tv D') :
  OneDoes w0 n nm bm rs RV VV rk tv D := by
 intro x P W hxs hrk hI
 have mixed : Tryz.prog.follows .mixedOrders = true := by kernel_rfl
 obtain ⟨m, hmm⟩ : ∃ m, W.heap.size = m := ⟨_, rfl⟩
 obtain ⟨ta, hta⟩ := hH.tree
 obtain ⟨W2, hW2⟩ : ∃ V, (W.alloc (.cells #[tv, .map (some nm), .map (some bm)] 104)).alloc (.cells #[.bool false, .string ⟨#[]⟩] 34) = V := ⟨_, rfl⟩
 have hg2 : W.grownBy W2 none := by rw [← hW2]; exact (grown_alloc0 _ _).trans (grown_alloc0 _ _)
 have hI2 := hI.kept hH hg2 (by simp)
 have hm2 : W2.heap[m]? = some (.cells #[tv, .map (some nm), .map (some bm)] 104) := by
  rw [← hW2, Below.heap_alloc _ _ _ (by simp [hmm]), ← hmm]; exact alloc_at W _
 have hr2 : W2.heap[m + 1]? = some (.cells #[.bool false, .string ⟨#[]⟩] 34) := by
  have := alloc_at (W.alloc (.cells #[tv, .map (some nm), .map (some bm)] 104)) (.cells #[.bool false, .string ⟨#[]⟩] 34)
  rw [World.size_alloc, hmm] at this
  rw [← hW2]; exact this
 have hs2 : W2.heap.size = m + 2 := by rw [← hW2]; simp [hmm]
 have hbl := hI.bml
 have hnl2 := hI.nml
 have hlook := hI2.mks.look Tryz.underlying102 (Tryz.zeroValue45 W2) x hxs
 obtain ⟨m0, m1, m2, _⟩ := cells3 hm2
 have HG2 := Lib.hid hg2; have HI2 := Lib.hid hI2; have HS2 := Lib.hid hs2; have HMM := Lib.hid hmm; have HH := Lib.hid hH; have HW2 := Lib.hid hW2; have HBNE : Hid (bm < m ∧ nm < m) := Lib.hid (by omega); have HM2 := Lib.hid hm2; have HR2 := Lib.hid hr2
 cases hk : mkrN rs rs.length x with
 | none =>
  rw [hk] at hlook
  simp only [Option.map_none, Option.getD_none, Option.isSome_none, zRuleV] at hlook
  have hsrc := hH.mean.src x hk
  obtain ⟨W3, hW3⟩ : ∃ V, W2.alloc (.cells #[.string ⟨#[]⟩, .slice none 0 0, .slice none 0 0, .slice none 0 0, .slice none 0 0] 45) = V := ⟨_, rfl⟩
  have hg3 : W2.grownBy W3 none := by rw [← hW3]; exact grown_alloc0 _ _
  have hI3 := hI2.kept hH hg3 (by simp)
  have CS := Lib.hid (source_any tv (.map (some nm)) (.map (some bm)) x f W3 hH.tree ⟨_, rfl⟩ ⟨_, rfl⟩ (fun y V hy hV => hH.read y V hy (by rw [hH.hn]; exact hI3.below.trans (hV.mono (by have := hI3.below.size; rw [hH.hn] at this; exact this)))) hxs)
  have hr3 := (hg3.block (m + 1) (by omega) (by simp)).trans hr2
  have hm3 := (hg3.block m (by omega) (by simp)).trans hm2
  obtain ⟨n0, n1, n2, _⟩ := cells3 hm3
  have HW3 := Lib.hid hW3; have HG3 := Lib.hid hg3; have HI3 := Lib.hid hI3; have HR3 := Lib.hid hr3; have HSRC := Lib.hid hsrc
  rw [hsrc]
  obtain ⟨⟨fb, fo⟩, hf⟩ : ∃ c, f x = c := ⟨_, rfl⟩
  rw [hf] at CS ⊢
  simp only at CS ⊢
  subst hta
  clear hk hrk hI hg2 hI2 hm2 hr2 hs2 hbl hnl2 hOne hH hW2 hW3 hg3 hI3 hr3 hm3 hsrc hf hmm
  go_enter Tryz.func106, Tryz.ntmps106
  go_upto_region 1 with fail
  rw [HW2.out, HMM.out]
  go_upto_region 3 with fail
  rw [HW3.out]
  go_wp2_with (go_at_call 151; (with_reducible refine CS.out.mono ?_); rintro e w4 ⟨rfl, hb4⟩; have HB4 := Lib.hid hb4; have hr4 := (hb4.block (m + 1) (by have := HG3.out.size; have := HS2.out; omega)).trans HR3.out; have HR4 := Lib.hid hr4; obtain ⟨r0, r1⟩ := cells2 hr4; clear hb4 hr4)
  refine bodyPost_ret (results_c rfl _ _ (m + 1) _ _ _ _ rfl (heap_set _ _ (heap_set _ _ HR4.out)) Tryz.underlying34 rfl (by kernel_rfl)) rfl ?_
  obtain ⟨W5, hW5⟩ : ∃ V, (w4.setCell ⟨m + 1, 0, none⟩ (.bool fo)).setCell ⟨m + 1, 1, none⟩ (.string fb) = V := ⟨_, rfl⟩
  have hg5 : w4.grownBy W5 (some (m + 1)) := by rw [← hW5]; exact ⟨rfl, rfl, rfl, by simp [World.setCell], fun i _ hi => (Below.heap_setCell _ _ _ i (fun e => hi (by rw [e]))).trans (Below.heap_setCell _ _ _ i (fun e => hi (by rw [e])))⟩
  rw [hW5]
  have hb := HBNE.out
  have hH := HH.out
  have hM := HMM.out
  have hI4 := HI3.out.kept hH (below_grown' HB4.out (Nat.le_refl _)) (by simp)
  have hI5 := hI4.kept hH hg5 (fun j e => by have := Option.some.inj e; have := hH.hnm; omega)
  have h24 := (HG2.out.trans HG3.out).trans (below_grown' HB4.out (Nat.le_refl _))
  refine ⟨rfl, ⟨hg5.os.trans h24.os, hg5.tape.trans h24.tape, hg5.output.trans h24.output, Nat.le_trans h24.size hg5.size, fun i hi _ => (hg5.block i (by have := h24.size; omega) (fun e => by have := Option.some.inj e; omega)).trans (h24.block i hi (by simp))⟩, hI5⟩
 | some k =>
  obtain ⟨hkl, hxo⟩ := mkrN_some hk
  obtain ⟨r, hr⟩ : ∃ r, rs[k]? = some r := ⟨rs[k], List.getElem?_eq_getElem hkl⟩
  rw [outsAt_of hr] at hxo
  obtain ⟨a1, c1, a2, c2, a3, c3, a4, c4, hRV, hri⟩ := hH.rv k r hr
  rw [hk] at hlook
  simp only [Option.map_some, Option.getD_some, Option.isSome_some, hRV] at hlook
  obtain ⟨W3, hW3⟩ : ∃ V, W2.alloc (.cells (ruleV r a1 a2 a3 a4 c1 c2 c3 c4) 45) = V := ⟨_, rfl⟩
  have hg3 : W2.grownBy W3 none := by rw [← hW3]; exact grown_alloc0 _ _
  have hI3 := hI2.kept hH hg3 (by simp)
  have hr3 := (hg3.block (m + 1) (by omega) (by simp)).trans hr2
  have hm3 := (hg3.block m (by omega) (by simp)).trans hm2
  have hx3 : W3.heap[m + 2]? = some (.cells (ruleV r a1 a2 a3 a4 c1 c2 c3 c4) 45) := by rw [← hW3, ← hs2]; exact alloc_at W2 _
  obtain ⟨n0, n1, n2, _⟩ := cells3 hm3
  obtain ⟨mm, h1, h2, h3, h4⟩ := id hI3.made
  have hlook3 := h1.look_ok (t := 94) (e := 34) Tryz.underlying9 Tryz.underlying94 (zeroVal W3) x hxs
  have hs3 : W3.heap.size = m + 3 := by rw [← hW3]; simp [hs2]
  obtain ⟨⟨vo, vb⟩, hvx⟩ : ∃ c, VV x = c := ⟨_, rfl⟩
  have HW3 := Lib.hid hW3; have HG3 := Lib.hid hg3; have HI3 := Lib.hid hI3; have HR3 := Lib.hid hr3; have HM3 := Lib.hid hm3; have HX3 := Lib.hid hx3; have HS3 := Lib.hid hs3; have HVX := Lib.hid hvx
  have HXO := Lib.hid hxo; have HXS := Lib.hid hxs
  have CE : Hid (∀ V, W3.grownBy V none → Calls Tryz.prog 152 #[.agg #[tv, .map (some nm), .map (some bm)], .agg (ruleV r a1 a2 a3 a4 c1 c2 c3 c4)] V (ExecPost n nm bm w0 rs RV VV P r.outs V)) := by
   show ∀ V, _
   intro V hV
   obtain ⟨D', hD'⟩ : ∃ D', D = D' + 1 := ⟨D - 1, by have := hrk k hk; omega⟩
   have := execute_any hH D' (hOne D' hD') k r hr (by have := hrk k hk; omega) P V (hI3.kept hH hV (by simp))
   rw [hRV] at this
   exact this
  have HP1 : Hid (∀ V : World, V.heap[m + 2]? = some (.cells (ruleV r a1 a2 a3 a4 c1 c2 c3 c4) 45) → V.cell? ⟨m + 2, 0, none⟩ = some (.string r.name) ∧ V.cell? ⟨m + 2, 1, none⟩ = some (.slice a1 r.ins.length c1) ∧ V.cell? ⟨m + 2, 2, none⟩ = some (.slice a2 r.outs.length c2) ∧ V.cell? ⟨m + 2, 3, none⟩ = some (.slice a3 r.after.length c3) ∧ V.cell? ⟨m + 2, 4, none⟩ = some (.slice a4 r.steps.length c4)) := by
   show ∀ V, _
   intro V hV
   obtain ⟨q0, q1, q2, q3, q4, _⟩ := cells5 hV
   exact ⟨q0, q1, q2, q3, q4⟩
  rw [hvx]
  subst hta
  have fin : Hid (∀ (V : World) (P' : List ByteArray), W3.grownBy V (some bm) → DenI w0 n nm bm rs RV VV P' V → (∀ o ∈ P, o ∈ P') → W.grownBy ((V.setCell ⟨m + 1, 0, none⟩ (.bool vo)).setCell ⟨m + 1, 1, none⟩ (.string vb)) (some bm) ∧ DenI w0 n nm bm rs RV VV P ((V.setCell ⟨m + 1, 0, none⟩ (.bool vo)).setCell ⟨m + 1, 1, none⟩ (.string vb))) := by
   show ∀ V P', _
   intro V P' hV hIV hP
   obtain ⟨W5, hW5⟩ : ∃ X, (V.setCell ⟨m + 1, 0, none⟩ (.bool vo)).setCell ⟨m + 1, 1, none⟩ (.string vb) = X := ⟨_, rfl⟩
   have hg5 : V.grownBy W5 (some (m + 1)) := by rw [← hW5]; exact ⟨rfl, rfl, rfl, by simp [World.setCell], fun i _ hi => (Below.heap_setCell _ _ _ i (fun e => hi (by rw [e]))).trans (Below.heap_setCell _ _ _ i (fun e => hi (by rw [e])))⟩
   rw [hW5]
   have hb := HBNE.out
   have hM := HMM.out
   have h24 := (grown_weak (row := some bm) (HG2.out.trans HG3.out)).trans hV
   exact ⟨⟨hg5.os.trans h24.os, hg5.tape.trans h24.tape, hg5.output.trans h24.output, Nat.le_trans h24.size hg5.size, fun i hi hne => (hg5.block i (by have := h24.size; omega) (fun e => by have := Option.some.inj e; omega)).trans (h24.block i hi hne)⟩, (hIV.less hP).kept HH.out hg5 (fun j e => by have := Option.some.inj e; have := HH.out.hnm; omega)⟩
  cases hh : hasM mm x with
  | true =>
   rw [hh, h2 x hh, hvx, show valE (vo, vb) = .agg #[.bool vo, .string vb] from rfl] at hlook3
   obtain ⟨W4, hW4⟩ : ∃ V, W3.alloc (.cells #[.bool vo, .string vb] 34) = V := ⟨_, rfl⟩
   have hg4 : W3.grownBy W4 none := by rw [← hW4]; exact grown_alloc0 _ _
   have hlook4 := (h1.heap (hg4.block bm h1.lt (by simp))).look (t := 94) (e := 34) Tryz.underlying9 Tryz.underlying94 (zeroVal W4) x hxs
   rw [h2 x hh, hvx, show valE (vo, vb) = .agg #[.bool vo, .string vb] from rfl] at hlook4
   have hr4 := (hg4.block (m + 1) (by omega) (by simp)).trans hr3
   have hm4 := (hg4.block m (by omega) (by simp)).trans hm3
   obtain ⟨l0, l1, l2, _⟩ := cells3 hm4
   obtain ⟨r0, r1⟩ := cells2 hr4
   have HW4 := Lib.hid hW4; have HR4 := Lib.hid hr4
   have HI4 := Lib.hid (hI3.kept hH hg4 (by simp)); have HG4 := Lib.hid hg4
   clear hk hrk hI hg2 hI2 hm2 hr2 hs2 hbl hnl2 hOne hH hW2 hW3 hg3 hI3 hr3 hm3 hx3 hW4 hg4 hr4 hm4 hh h1 h2 h3 h4 hr hri hRV hxo hkl hvx hmm hs3
   go_enter Tryz.func106, Tryz.ntmps106
   go_upto_region 1 with fail
   rw [HW2.out, HMM.out]
   go_upto_region 4 with fail
   rw [HW3.out, HS2.out]
   go_upto_region 5 with fail
   rw [HW4.out, HS3.out]
   go_wp2_with fail
   refine bodyPost_ret (results_c rfl _ _ (m + 1) _ _ _ _ rfl (heap_set _ _ (heap_set _ _ HR4.out)) Tryz.underlying34 rfl (by kernel_rfl)) rfl ?_
   exact ⟨rfl, fin.out _ P (grown_weak HG4.out) HI4.out (fun o ho => ho)⟩
  | false =>
   rw [hh, getM_not hh] at hlook3
   obtain ⟨W4, hW4⟩ : ∃ V, W3.alloc (.cells #[.bool false, .string ⟨#[]⟩] 34) = V := ⟨_, rfl⟩
   have hg4 : W3.grownBy W4 none := by rw [← hW4]; exact grown_alloc0 _ _
   have hr4 := (hg4.block (m + 1) (by omega) (by simp)).trans hr3
   have hm4 := (hg4.block m (by omega) (by simp)).trans hm3
   have hx4 := (hg4.block (m + 2) (by omega) (by simp)).trans hx3
   have hs4 : m + 3 ≤ W4.heap.size := by have := hg4.size; omega
   obtain ⟨l0, l1, l2, _⟩ := cells3 hm4
   obtain ⟨q0, q1, q2, q3, q4⟩ := HP1.out W4 hx4
   have HW4 := Lib.hid hW4; have HR4 := Lib.hid hr4; have HM4 := Lib.hid hm4
   have CE4 := Lib.hid (CE.out W4 hg4)
   have HG4 := Lib.hid hg4; have HS4 := Lib.hid hs4
   obtain ⟨name, ins, outs, after, steps⟩ := r
   simp only at *
   clear hk hrk hI hg2 hI2 hm2 hr2 hs2 hbl hnl2 hOne hH hW2 hW3 hg3 hI3 hr3 hm3 hx3 hx4 hW4 hg4 hr4 hm4 hh h1 h2 h3 h4 hr hri hRV hxo hkl hvx hmm hs3 hs4 hxs
   go_enter Tryz.func106, Tryz.ntmps106
   go_upto_region 1 with fail
   rw [HW2.out, HMM.out]
   go_upto_region 4 with fail
   rw [HW3.out, HS2.out]
   go_upto_region 5 with fail
   rw [HW4.out, HS3.out]
   go_wp2_with (go_at_call 152; (with_reducible refine CE4.out.mono ?_); rintro e w5 ⟨rfl, hg5, hI5⟩; obtain ⟨m5, h51, h52, h53, h54⟩ := id hI5.made; have hb := HBNE.out; have hlook5 := h51.look (t := 94) (e := 34) Tryz.underlying9 Tryz.underlying94 (zeroVal w5) x HXS.out; rw [h52 x (h54 x (List.mem_append_right _ HXO.out)), HVX.out, show valE (vo, vb) = .agg #[.bool vo, .string vb] from rfl] at hlook5; have hr5 := (hg5.block (m + 1) (by have := HS4.out; omega) (fun e => by have := Option.some.inj e; omega)).trans HR4.out; obtain ⟨l0, l1, l2, _⟩ := cells3 ((hg5.block m (by have := HS4.out; omega) (fun e => by have := Option.some.inj e; omega)).trans HM4.out); obtain ⟨r0, r1⟩ := cells2 hr5; have HR5 := Lib.hid hr5; have HI5 := Lib.hid hI5; have HG5 := Lib.hid hg5; clear h51 h52 h53 h54 hI5 hg5 hr5 hb)
   refine bodyPost_ret (results_c rfl _ _ (m + 1) _ _ _ _ rfl (heap_set _ _ (heap_set _ _ HR5.out)) Tryz.underlying34 rfl (by kernel_rfl)) rfl ?_
   exact ⟨rfl, fin.out _ _ (World.grownBy.trans (grown_weak HG4.out) HG5.out) HI5.out (fun o ho => List.mem_append_left _ ho)⟩
theorem ones_any {w0 : World} {n nm bm : Nat} {rs : List RuleS} {RV : Nat → Value} {VV : ByteArray → ValT} {rk : Nat → Nat} {tv : Value} {f : ByteArray → ByteArray × Bool} (hH : DenH w0 n nm bm rs RV VV rk tv f) : ∀ D, OneDoes w0 n nm bm rs RV VV rk tv D
 | 0 => one_any hH 0 (fun _ e => by cases e)
 | D + 1 => one_any hH (D + 1) (fun D' e => by cases e; exact ones_any hH D)
end Go.Proofs.YtdhmeganlnpohaaGreatDoor
