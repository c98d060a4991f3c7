import Derived.Test.YtdhmeganlnpohaaGreatDoorMbl
import Derived.Test.YtdhmeganlnpohaaGreatDoorMbm
import Derived.Deep.RegionHeld3
namespace Go.Proofs.YtdhmeganlnpohaaGreatDoor
open Go.RowKit Go.Shelf Go.Maps
def MapF (w : World) (b : Nat) (N : Nat) (f : ByteArray → Option Nat) (V : Nat → Value) (z : Value) : Prop := ∃ m, MapIs Tryz.prog 9 w b m ∧ (∀ k, hasM m k = (f k).isSome) ∧ (∀ k, getM m k z = ((f k).map V).getD z) ∧ m.length ≤ N
theorem MapF.lt {w : World} {b N : Nat} {f : ByteArray → Option Nat} {V : Nat → Value} {z : Value} (h : MapF w b N f V z) : b < w.heap.size := by obtain ⟨m, h1, _⟩ := h; exact h1.lt
theorem MapF.heap {w w' : World} {b N : Nat} {f : ByteArray → Option Nat} {V : Nat → Value} {z : Value} (h : MapF w b N f V z) (hb : w'.heap[b]? = w.heap[b]?) : MapF w' b N f V z := by obtain ⟨m, h1, r⟩ := h; exact ⟨m, h1.heap hb, r⟩
theorem MapF.more {w : World} {b N N' : Nat} {f : ByteArray → Option Nat} {V : Nat → Value} {z : Value} (h : MapF w b N f V z) (hn : N ≤ N') : MapF w b N' f V z := by obtain ⟨m, h1, h2, h3, h4⟩ := h; exact ⟨m, h1, h2, h3, by omega⟩
theorem mapF_made (w : World) (V : Nat → Value) (z : Value) : MapF (w.alloc (.map #[] 0)) w.heap.size 0 (fun _ => none) V z := ⟨[], mapIs_made w _ _, fun _ => rfl, fun _ => rfl, Nat.le_refl _⟩
theorem MapF.put {w : World} {b N : Nat} {f : ByteArray → Option Nat} {V : Nat → Value} {z : Value} {t e : TypeId} (h : MapF w b N f V z) (ht : Tryz.prog.underlying t = some (.map 9 e)) (hn : N ≤ 4000000000000000) (k : ByteArray) (hs : k.size ≤ maxLen) (i : Nat) :
  ∃ w', (Instr.mapUpdate t (.map (some b)) (.string k) (V i)).run Tryz.prog w = .ok () w' ∧ MapF w' b (N + 1) (updF f k i) V z ∧ w.mapTurned w' b := by
 obtain ⟨m, h1, h2, h3, h4⟩ := h
 obtain ⟨w', r, hm, ht'⟩ := h1.put Tryz.underlying9 ht (by unfold maxLen; omega) k hs (V i)
 refine ⟨w', r, ⟨_, hm, fun k' => ?_, fun k' => ?_, ?_⟩, ht'⟩
 ·rw [hasM_put, h2]
  unfold updF
  by_cases hk : k = k'
  ·simp [hk]
  ·simp [hk]
 ·unfold updF
  by_cases hk : k = k'
  ·subst hk; rw [getM_put_same, if_pos rfl]; rfl
  ·rw [getM_put_other _ _ _ hk, if_neg hk]; exact h3 k'
 ·obtain ⟨D, _, _, _, _, hK⟩ := h1
  rw [putM_len hK]
  split <;> omega
theorem MapF.look {w : World} {b N : Nat} {f : ByteArray → Option Nat} {V : Nat → Value} {z : Value} {t e : TypeId} (h : MapF w b N f V z) (ht : Tryz.prog.underlying t = some (.map 9 e)) (hz : (zeroValue e).run Tryz.prog w = .ok z w) (k : ByteArray) (hs : k.size ≤ maxLen) :
  (Instr.lookup t (.map (some b)) (.string k) true).run Tryz.prog w = .ok (.tuple #[((f k).map V).getD z, .bool (f k).isSome]) w := by
 obtain ⟨m, h1, h2, h3, h4⟩ := h
 rw [h1.look_ok Tryz.underlying9 ht hz k hs, h2, h3]
def zRuleV : Value := .agg #[.string ⟨#[]⟩, .slice none 0 0, .slice none 0 0, .slice none 0 0, .slice none 0 0]
def RvIs (w : World) (v : Value) (rs : List RuleS) (V : Nat → Value) : Prop := ∀ (k : Nat) x, rs[k]? = some x → ∃ a1 c1 a2 c2 a3 c3 a4 c4, V k = .agg (ruleV x a1 a2 a3 a4 c1 c2 c3 c4) ∧ RuleI w [.string x.name, .slice a1 x.ins.length c1, .slice a2 x.outs.length c2, .slice a3 x.after.length c3, .slice a4 x.steps.length c4] x ∧ ∃ g o cap, v = .slice (some ⟨g, o, none⟩) rs.length cap ∧ g < w.heap.size ∧ ∀ w', Below w.heap.size w w' →
 w'.cell? ⟨g, o + k * 5, none⟩ = some (.string x.name) ∧ w'.cell? ⟨g, o + k * 5 + 1, none⟩ = some (.slice a1 x.ins.length c1) ∧ w'.cell? ⟨g, o + k * 5 + 2, none⟩ = some (.slice a2 x.outs.length c2) ∧ w'.cell? ⟨g, o + k * 5 + 3, none⟩ = some (.slice a3 x.after.length c3) ∧ w'.cell? ⟨g, o + k * 5 + 4, none⟩ = some (.slice a4 x.steps.length c4)
theorem rv_of {w : World} {v : Value} {rs : List RuleS} (hv : RulesI w v rs) : ∃ V, RvIs w v rs V := by
 have h : ∀ k : Nat, ∃ u : Value, ∀ x, rs[k]? = some x → ∃ a1 c1 a2 c2 a3 c3 a4 c4, u = .agg (ruleV x a1 a2 a3 a4 c1 c2 c3 c4) ∧ RuleI w [.string x.name, .slice a1 x.ins.length c1, .slice a2 x.outs.length c2, .slice a3 x.after.length c3, .slice a4 x.steps.length c4] x ∧ ∃ g o cap, v = .slice (some ⟨g, o, none⟩) rs.length cap ∧ g < w.heap.size ∧ ∀ w', Below w.heap.size w w' →
   w'.cell? ⟨g, o + k * 5, none⟩ = some (.string x.name) ∧ w'.cell? ⟨g, o + k * 5 + 1, none⟩ = some (.slice a1 x.ins.length c1) ∧ w'.cell? ⟨g, o + k * 5 + 2, none⟩ = some (.slice a2 x.outs.length c2) ∧ w'.cell? ⟨g, o + k * 5 + 3, none⟩ = some (.slice a3 x.after.length c3) ∧ w'.cell? ⟨g, o + k * 5 + 4, none⟩ = some (.slice a4 x.steps.length c4) := by
  intro k
  cases hx : rs[k]? with
  | none => exact ⟨undef, fun x h => by cases h⟩
  | some x =>
   obtain ⟨g, o, cap, a1, c1, a2, c2, a3, c3, a4, c4, e, hg, hri, hyc⟩ := rulesI_at hv hx
   refine ⟨.agg (ruleV x a1 a2 a3 a4 c1 c2 c3 c4), fun x' h => ?_⟩
   ·cases h
    exact ⟨a1, c1, a2, c2, a3, c3, a4, c4, rfl, hri, g, o, cap, e, hg, hyc⟩
 obtain ⟨V, hV⟩ := Classical.skolem.1 h
 exact ⟨V, hV⟩
set_option maxHeartbeats 8000000
set_option maxRecDepth 100000
theorem meaningOf_any (v tv : Value) (rs : List RuleS) (V : Nat → Value) (w : World) (hv : RulesI w v rs) (hV : RvIs w v rs V) (hs : ∀ r ∈ rs, SmallR r 1048576) (hn : rs.length ≤ 1000) (ht : ∃ a, tv = .pointer a) :
  Calls Tryz.prog 75 #[v, tv] w fun e w' => ∃ n, e = .returned (.agg #[tv, .map (some n), .map (some (n + 1))]) ∧ w.heap.size ≤ n ∧ MapF w' n (rs.length * 1048576) (mkrN rs rs.length) V zRuleV ∧ MapIs Tryz.prog 9 w' (n + 1) [] ∧ Below w.heap.size w w' := by
 have mixed : Tryz.prog.follows .mixedOrders = true := by kernel_rfl
 have hmm := @run_makeMap Tryz.prog
 obtain ⟨ta, rfl⟩ := ht
 obtain ⟨va, vc, rfl, hvl, hvm⟩ := rulesI_len hv
 obtain ⟨n, hnn⟩ : ∃ n, w.heap.size = n := ⟨_, rfl⟩
 have HV := Lib.hid hV; have HS := Lib.hid hs; have HNN := Lib.hid hnn
 unfold maxLen at hvm
 rw [hnn]
 clear hv hV hs
 go_enter Tryz.func75, Tryz.ntmps75
 obtain ⟨W4, hW4⟩ : ∃ W, (((w.alloc (.cells #[.pointer none, .map none, .map none] 104)).alloc (.map #[] 0)).alloc (.map #[] 0)).alloc (.cells #[.pointer ta, .map (some (n + 1)), .map (some (n + 2))] 104) = W := ⟨_, rfl⟩
 have hs4 : W4.heap.size = n + 4 := by rw [← hW4]; simp [hnn]
 have h4 : MapF W4 (n + 1) (0) (mkrN rs 0) V zRuleV ∧ MapIs Tryz.prog 9 W4 (n + 2) [] ∧ W4.heap[n + 3]? = some (.cells #[.pointer ta, .map (some (n + 1)), .map (some (n + 2))] 104) ∧ W4.heap[n]? = some (.cells #[.pointer none, .map none, .map none] 104) ∧ Below n w W4 := by
  refine ⟨?_, ?_, ?_, ?_, ?_⟩
  ·have := mapF_made (w.alloc (.cells #[.pointer none, .map none, .map none] 104)) V zRuleV
   rw [World.size_alloc, hnn] at this
   rw [← hW4]; exact this.heap ((Below.heap_alloc _ _ _ (by simp [hnn] <;> omega)).trans (Below.heap_alloc _ _ _ (by simp [hnn])))
  ·have := mapIs_made ((w.alloc (.cells #[.pointer none, .map none, .map none] 104)).alloc (.map #[] 0)) Tryz.prog 9
   rw [World.size_alloc, World.size_alloc, hnn] at this
   rw [← hW4]; exact this.heap (Below.heap_alloc _ _ _ (by simp [hnn]))
  ·have := alloc_at (((w.alloc (.cells #[.pointer none, .map none, .map none] 104)).alloc (.map #[] 0)).alloc (.map #[] 0)) (.cells #[.pointer ta, .map (some (n + 1)), .map (some (n + 2))] 104)
   rw [World.size_alloc, World.size_alloc, World.size_alloc, hnn] at this
   rw [← hW4]; exact this
  ·rw [← hW4, Below.heap_alloc _ _ _ (by simp [hnn] <;> omega), Below.heap_alloc _ _ _ (by simp [hnn] <;> omega), Below.heap_alloc _ _ _ (by simp [hnn]), ← hnn]; exact alloc_at w _
  ·rw [← hW4, ← hnn]; exact ((((Below.refl _ _).alloc (Nat.le_refl _) _).alloc (by simp) _).alloc (by simp <;> omega) _).alloc (by simp <;> omega) _
 have H4 := Lib.hid h4; have HS4 := Lib.hid hs4; have HW4 := Lib.hid hW4
 clear h4 hs4 hW4
 go_wp2_with fail
 rw [HW4.out]
 go_loopw [7, 9, 16, 17, 18, 19, 20, 21, 22, 23, 24, 25, 26, 27, 28, 29, 30, 31, 32] (fun _ _ iv _ _ _ _ _ _ _ _ _ _ _ _ _ _ _ _ wr => ∃ k : Nat, k ≤ rs.length ∧ iv = .int .i64 (k : Int) ∧ (MapF wr (n + 1) (k * 1048576) (mkrN rs k) V zRuleV ∧ MapIs Tryz.prog 9 wr (n + 2) [] ∧ wr.heap[n + 3]? = some (.cells #[.pointer ta, .map (some (n + 1)), .map (some (n + 2))] 104) ∧ wr.heap[n]? = some (.cells #[.pointer none, .map none, .map none] 104) ∧ Below n w wr) ∧ n + 4 ≤ wr.heap.size) (fun _ _ iv _ _ _ _ _ _ _ _ _ _ _ _ _ _ _ _ _ => rs.length - (intOf iv).toNat)
 case atStart => exact ⟨0, Nat.zero_le _, rfl, by simpa using H4.out, by rw [HS4.out]; exact Nat.le_refl _⟩
 case round =>
  obtain ⟨k, hk, rfl, ⟨hm, hd, hbm, hbz, hb⟩, hz⟩ := hrel
  by_cases hlt : k < rs.length
  ·obtain ⟨y, hy⟩ : ∃ y, rs[k]? = some y := ⟨rs[k], List.getElem?_eq_getElem hlt⟩
   have hbw : Below w.heap.size w wr := by rw [HNN.out]; exact hb
   obtain ⟨a1, c1, a2, c2, a3, c3, a4, c4, hVk, hri, g, o, cap, e, hg, hyc⟩ := HV.out k y hy
   obtain ⟨e1, _, e3⟩ := Value.slice.inj e
   subst e1 e3
   obtain ⟨e0, e1, e2, e3, e4⟩ := hyc wr hbw
   have hi1 : (k : Int) < (rs.length : Int) := by omega
   have hi0 : (0 : Int) ≤ (k : Int) := by omega
   have hsy := HS.out y (List.mem_of_getElem? hy)
   have hnm2 : mkrN rs (k + 1) = updAll (mkrN rs k) y.outs k := by rw [mkrN]; unfold outsAt; rw [hy]; rfl
   obtain ⟨oa, oc, eo, hol, hom, hocc⟩ := isStrs_cells (ruleI_outs hri)
   obtain ⟨eo1, _, eo3⟩ := Value.slice.inj eo
   subst eo1 eo3
   have HOC : Hid (∀ (j : Nat) x, y.outs[j]? = some x → ∃ b' o', a2 = some ⟨b', o', none⟩ ∧ ∀ w', Below n w w' → w'.cell? ⟨b', o' + j, none⟩ = some (.string x)) := by
    show ∀ (j : Nat) x, _
    intro j x hx
    obtain ⟨b', o', e, hc⟩ := hocc j x hx
    exact ⟨b', o', e, fun w' hw => hc w' (by rw [HNN.out]; exact hw)⟩
   have HOS := Lib.hid (smallMax hsy.outs)
   have hol1 := hsy.outs.1
   unfold maxLen at hom
   obtain ⟨bs, hbs⟩ : ∃ bs, wr.heap.size = bs := ⟨_, rfl⟩
   obtain ⟨WB, hWB⟩ : ∃ W, wr.alloc (.cells #[.string y.name, .slice a1 y.ins.length c1, .slice a2 y.outs.length c2, .slice a3 y.after.length c3, .slice a4 y.steps.length c4] 45) = W := ⟨_, rfl⟩
   have hkp : ∀ i, i < bs → WB.heap[i]? = wr.heap[i]? := fun i hi => by rw [← hWB]; exact Below.heap_alloc _ _ _ (by omega)
   have hxB : WB.heap[bs]? = some (.cells #[.string y.name, .slice a1 y.ins.length c1, .slice a2 y.outs.length c2, .slice a3 y.after.length c3, .slice a4 y.steps.length c4] 45) := by rw [← hWB, ← hbs]; exact alloc_at wr _
   have hI0 : (MapF WB (n + 1) (k * 1048576) (mkrN rs k) V zRuleV ∧ MapIs Tryz.prog 9 WB (n + 2) [] ∧ WB.heap[n + 3]? = some (.cells #[.pointer ta, .map (some (n + 1)), .map (some (n + 2))] 104) ∧ WB.heap[n]? = some (.cells #[.pointer none, .map none, .map none] 104) ∧ Below n w WB) ∧ WB.heap[bs]? = some (.cells #[.string y.name, .slice a1 y.ins.length c1, .slice a2 y.outs.length c2, .slice a3 y.after.length c3, .slice a4 y.steps.length c4] 45) ∧ bs + 1 ≤ WB.heap.size := ⟨⟨hm.heap (hkp _ (by omega)), hd.heap (hkp _ (by omega)), (hkp _ (by omega)).trans hbm, (hkp _ (by omega)).trans hbz, by rw [← hWB]; exact hb.alloc (by omega) _⟩, hxB, by rw [← hWB, World.size_alloc]; omega⟩
   have HI0 := Lib.hid hI0; have HWB := Lib.hid hWB; have HBS := Lib.hid hbs; have HNM2 := Lib.hid hnm2; have HVK := Lib.hid hVk
   have hbz4 : n + 4 ≤ bs := by omega
   clear hm hd hbm hbz hb hz hbw hri hyc hg hsy hnm2 hocc hy eo e hkp hxB hI0 hWB hbs hVk
   go_wp2_with fail
   rw [HWB.out, HBS.out]
   go_loopw [9, 23, 24, 25, 26, 27, 28, 29, 30, 31] (fun _ jv _ _ _ _ _ _ _ _ wq => ∃ j : Nat, j ≤ y.outs.length ∧ jv = .int .i64 (j : Int) ∧ (MapF wq (n + 1) (k * 1048576 + j) (updAll (mkrN rs k) (y.outs.take j) k) V zRuleV ∧ MapIs Tryz.prog 9 wq (n + 2) [] ∧ wq.heap[n + 3]? = some (.cells #[.pointer ta, .map (some (n + 1)), .map (some (n + 2))] 104) ∧ wq.heap[n]? = some (.cells #[.pointer none, .map none, .map none] 104) ∧ Below n w wq) ∧ wq.heap[bs]? = some (.cells #[.string y.name, .slice a1 y.ins.length c1, .slice a2 y.outs.length c2, .slice a3 y.after.length c3, .slice a4 y.steps.length c4] 45) ∧ bs + 1 ≤ wq.heap.size) (fun _ jv _ _ _ _ _ _ _ _ _ => y.outs.length - (intOf jv).toNat)
   case atStart => exact ⟨0, Nat.zero_le _, rfl, by have := HI0.out.1; simpa [updAll] using this, HI0.out.2⟩
   case round =>
    obtain ⟨j, hj, rfl, ⟨hm, hd, hbm, hbz, hb⟩, hx', hz⟩ := hrel
    by_cases hlt2 : j < y.outs.length
    ·obtain ⟨x, hx⟩ : ∃ x, y.outs[j]? = some x := ⟨y.outs[j], List.getElem?_eq_getElem hlt2⟩
     obtain ⟨b', o', q1, hc⟩ := HOC.out j x hx
     subst q1
     have cx := hc _ hb
     obtain ⟨d0, d1, d2, d3, d4, _⟩ := cells5 hx'
     obtain ⟨m0, m1, m2, _⟩ := cells3 hbm
     have hj1 : (j : Int) < (y.outs.length : Int) := by omega
     have hj0 : (0 : Int) ≤ (j : Int) := by omega
     obtain ⟨w4, hput4, hm4, ht4⟩ := hm.put Tryz.underlying102 (prod_le (by omega) (by omega)) x (HOS.out x (List.mem_of_getElem? hx)) k
     rw [← updAll_next _ _ hx] at hm4
     rw [HVK.out] at hput4
     unfold ruleV at hput4
     have hg4 := ht4.grown
     have hsz4 := hg4.size
     have hk4 : ∀ i, i < bs + 1 → i ≠ n + 1 → w4.heap[i]? = wr.heap[i]? := fun i hi hne => hg4.block i (by omega) (fun e => hne (by have := Option.some.inj e; omega))
     have HFIN := Lib.hid (show (MapF w4 (n + 1) (k * 1048576 + j + 1) (updAll (mkrN rs k) (y.outs.take (j + 1)) k) V zRuleV ∧ MapIs Tryz.prog 9 w4 (n + 2) [] ∧ w4.heap[n + 3]? = some (.cells #[.pointer ta, .map (some (n + 1)), .map (some (n + 2))] 104) ∧ w4.heap[n]? = some (.cells #[.pointer none, .map none, .map none] 104) ∧ Below n w w4) ∧ w4.heap[bs]? = wr.heap[bs]? ∧ bs + 1 ≤ w4.heap.size from ⟨⟨hm4, hd.heap (hk4 _ (by omega) (by omega)), (hk4 _ (by omega) (by omega)).trans hbm, (hk4 _ (by omega) (by omega)).trans hbz, hb.grown hg4 (by omega) (fun j e => by cases e; omega)⟩, hk4 _ (by omega) (by omega), by omega⟩)
     have HX5 := Lib.hid hx'
     clear hm hd hbm hbz hb hz hc hx hm4 ht4 hg4 hsz4 hk4 hx'
     go_wp2
     go_roundw
     case rel => exact ⟨j + 1, by omega, by go_num, by have := HFIN.out.1; rwa [Nat.add_assoc] at this, HFIN.out.2.1.trans HX5.out, HFIN.out.2.2⟩
     case measure => simp [intOf]; omega
    ·have hj1 : ¬ (j : Int) < (y.outs.length : Int) := by omega
     have hfull : y.outs.take j = y.outs := List.take_of_length_le (by omega)
     rw [hfull, ← HNM2.out] at hm
     have HFIN := Lib.hid (And.intro (hm.more (prod_next k hol1 hj)) (And.intro hd (And.intro hbm (And.intro hbz hb))))
     have HZ5 := Lib.hid hz
     clear hm hd hbm hbz hb hz hx' hfull
     go_wp2
     go_roundw
     case rel => exact ⟨k + 1, by omega, by go_num, HFIN.out, by have := HZ5.out; omega⟩
     case measure => simp [intOf]; omega
  ·have hi1 : ¬ (k : Int) < (rs.length : Int) := by omega
   obtain rfl : k = rs.length := by omega
   obtain ⟨m0, m1, m2, _⟩ := cells3 hbm
   obtain ⟨z0, z1, z2, _⟩ := cells3 hbz
   have HM := Lib.hid hm; have HD := Lib.hid hd; have HBZ := Lib.hid hbz; have HB := Lib.hid hb; have HZ := Lib.hid hz
   clear hm hd hbm hbz hb hz
   go_wp2
   refine bodyPost_ret (results_c rfl _ _ n _ _ _ _ rfl (heap_set _ _ (heap_set _ _ (heap_set _ _ HBZ.out))) Tryz.underlying104 rfl (by kernel_rfl)) rfl ?_
   have hz := HZ.out
   have hk : ∀ i, i ≠ n → (((wr.setCell ⟨n, 0, none⟩ (.pointer ta)).setCell ⟨n, 1, none⟩ (.map (some (n + 1)))).setCell ⟨n, 2, none⟩ (.map (some (n + 2)))).heap[i]? = wr.heap[i]? := fun i hi => (Below.heap_setCell _ _ _ i hi).trans ((Below.heap_setCell _ _ _ i hi).trans (Below.heap_setCell _ _ _ i hi))
   exact ⟨n + 1, rfl, by omega, HM.out.heap (hk _ (by omega)), HD.out.heap (hk _ (by omega)), ((HB.out.setCell (p := ⟨n, 0, none⟩) (Nat.le_refl _) _).setCell (p := ⟨n, 1, none⟩) (Nat.le_refl _) _).setCell (p := ⟨n, 2, none⟩) (Nat.le_refl _) _⟩
end Go.Proofs.YtdhmeganlnpohaaGreatDoor
namespace Go.Proofs.YtdhmeganlnpohaaGreatDoor
open Go.RowKit Go.Shelf Go.Maps
def ReadDoes (tv : Value) (w : World) (f : ByteArray → ByteArray × Bool) : Prop := ∀ x W, x.size ≤ maxLen → Below w.heap.size w W → Calls Tryz.prog 206 #[tv, .string x] W fun e w' => e = .returned (.tuple #[.string (f x).1, .bool (f x).2]) ∧ Below W.heap.size W w'
set_option maxHeartbeats 8000000
set_option maxRecDepth 100000
theorem source_any (tv v1 v2 : Value) (x : ByteArray) (f : ByteArray → ByteArray × Bool) (w : World) (ht : ∃ a, tv = .pointer a) (h1 : ∃ b, v1 = .map b) (h2 : ∃ b, v2 = .map b) (hR : ReadDoes tv w f) (hx : x.size ≤ maxLen) :
  Calls Tryz.prog 151 #[.agg #[tv, v1, v2], .string x] w fun e w' => e = .returned (.agg #[.bool (f x).2, .string (f x).1]) ∧ Below w.heap.size w w' := by
 have mixed : Tryz.prog.follows .mixedOrders = true := by kernel_rfl
 obtain ⟨ta, rfl⟩ := ht
 obtain ⟨b1, rfl⟩ := h1
 obtain ⟨b2, rfl⟩ := h2
 obtain ⟨n, hnn⟩ : ∃ n, w.heap.size = n := ⟨_, rfl⟩
 obtain ⟨W2, hW2⟩ : ∃ W, (w.alloc (.cells #[.pointer ta, .map b1, .map b2] 104)).alloc (.cells #[.bool false, .string ⟨#[]⟩] 34) = W := ⟨_, rfl⟩
 have hb2 : Below n w W2 := by rw [← hW2, ← hnn]; exact ((Below.refl _ _).alloc (Nat.le_refl _) _).alloc (by simp) _
 have hs2 : W2.heap.size = n + 2 := by rw [← hW2]; simp [hnn]
 have hr2 : W2.heap[n + 1]? = some (.cells #[.bool false, .string ⟨#[]⟩] 34) := by
  have := alloc_at (w.alloc (.cells #[.pointer ta, .map b1, .map b2] 104)) (.cells #[.bool false, .string ⟨#[]⟩] 34)
  rw [World.size_alloc, hnn] at this
  rw [← hW2]; exact this
 have CR := Lib.hid (hR x W2 hx (by rw [hnn]; exact hb2))
 have HR2 := Lib.hid hr2; have HB2 := Lib.hid hb2; have HS2 := Lib.hid hs2; have HW2 := Lib.hid hW2
 obtain ⟨c, hc⟩ : ∃ c, f x = c := ⟨_, rfl⟩
 obtain ⟨c1, c2⟩ := c
 rw [hc] at CR ⊢
 rw [hnn]
 simp only at CR ⊢
 clear hR hb2 hs2 hr2 hW2 hc
 go_enter Tryz.func151, Tryz.ntmps151
 go_wp2_with (go_at_call 206; rw [HW2.out]; (with_reducible refine CR.out.mono ?_); rintro e w3 ⟨rfl, hb3⟩; have HB3 := Lib.hid (HB2.out.trans (hb3.mono (by have := HS2.out; omega))); have HR3 := Lib.hid ((hb3.block (n + 1) (by have := HS2.out; omega)).trans HR2.out); clear hb3; obtain ⟨r0, r1⟩ := cells2 HR3.out)
 refine bodyPost_ret (results_c rfl _ _ (n + 1) _ _ _ _ rfl (heap_set _ _ (heap_set _ _ HR3.out)) Tryz.underlying34 rfl (by kernel_rfl)) rfl ?_
 exact ⟨rfl, (HB3.out.setCell (p := ⟨n + 1, 0, none⟩) (Nat.le_succ _) _).setCell (p := ⟨n + 1, 1, none⟩) (Nat.le_succ _) _⟩
end Go.Proofs.YtdhmeganlnpohaaGreatDoor
namespace Go.Proofs.YtdhmeganlnpohaaGreatDoor
open Go.RowKit Go.Shelf Go.Maps
theorem getM_not {m : MapL} {k : ByteArray} {z : Value} (h : hasM m k = false) : getM m k z = z := by
 unfold getM
 rw [show (m.find? fun p => decide (p.1 = k)) = none from List.find?_eq_none.2 fun p hp => by
  intro e
  unfold hasM at h
  rw [List.any_eq_false] at h
  exact h p hp e]
 rfl
theorem keys_len : ∀ {m : MapL} {L : List ByteArray}, KeysN m → (∀ p ∈ m, p.1 ∈ L) → m.length ≤ L.length
 | [], _, _, _ => Nat.zero_le _
 | p :: m, L, h, hm => by
  obtain ⟨h1, h2⟩ := List.pairwise_cons.1 h
  have hp := hm p (by simp)
  have := keys_len (m := m) (L := L.filter fun x => decide (x ≠ p.1)) h2 fun q hq => List.mem_filter.2 ⟨hm q (by simp [hq]), by simpa using fun e => h1 q hq e.symm⟩
  have := List.length_filter_lt_length_iff_exists (p := fun x => decide (x ≠ p.1)) |>.2 ⟨p.1, hp, by simp⟩
  rw [List.length_cons]; omega
theorem flat_len : ∀ (rs : List RuleS), (∀ r ∈ rs, r.outs.length ≤ 1048576) → (rs.flatMap (·.outs)).length ≤ rs.length * 1048576
 | [], _ => by simp
 | r :: rs, h => by
  rw [List.flatMap_cons, List.length_append, List.length_cons, Nat.succ_mul]
  have := flat_len rs fun x hx => h x (by simp [hx])
  have := h r (by simp)
  omega
structure DenI (w0 : World) (n nm bm : Nat) (rs : List RuleS) (RV : Nat → Value) (VV : ByteArray → ValT) (P : List ByteArray) (W : World) : Prop where
 below : Below n w0 W
 mks : MapF W nm (rs.length * 1048576) (mkrN rs rs.length) RV zRuleV
 made : ∃ m, MapIs Tryz.prog 9 W bm m ∧ (∀ k, hasM m k = true → ∀ z, getM m k z = valE (VV k)) ∧ (∀ p ∈ m, p.1 ∈ rs.flatMap (·.outs)) ∧ ∀ o ∈ P, hasM m o = true
structure DenH (w0 : World) (n nm bm : Nat) (rs : List RuleS) (RV : Nat → Value) (VV : ByteArray → ValT) (rk : Nat → Nat) (tv : Value) (f : ByteArray → ByteArray × Bool) : Prop where
 hn : w0.heap.size = n
 hnm : n ≤ nm
 hbm : n ≤ bm
 hne : nm ≠ bm
 few : rs.length ≤ 1000
 small : ∀ r ∈ rs, SmallR r 1048576
 rv : ∀ (k : Nat) x, rs[k]? = some x → ∃ a1 c1 a2 c2 a3 c3 a4 c4, RV k = .agg (ruleV x a1 a2 a3 a4 c1 c2 c3 c4) ∧ RuleI w0 [.string x.name, .slice a1 x.ins.length c1, .slice a2 x.outs.length c2, .slice a3 x.after.length c3, .slice a4 x.steps.length c4] x
 mean : IsMean rs f VV rk
 size : ∀ x, (VV x).2.size ≤ 100000000
 tree : ∃ a, tv = .pointer a
 read : ReadDoes tv w0 f
 glob : Glob w0
section
variable {w0 : World} {n nm bm : Nat} {rs : List RuleS} {RV : Nat → Value} {VV : ByteArray → ValT} {P : List ByteArray} {W W' : World} {rk : Nat → Nat} {tv : Value} {f : ByteArray → ByteArray × Bool}
theorem DenI.bml (h : DenI w0 n nm bm rs RV VV P W) : bm < W.heap.size := by obtain ⟨m, h1, _⟩ := h.made; exact h1.lt
theorem DenI.nml (h : DenI w0 n nm bm rs RV VV P W) : nm < W.heap.size := h.mks.lt
theorem DenI.isMap (h : DenI w0 n nm bm rs RV VV P W) : ∃ es c, W.heap[bm]? = some (.map es c) := by
 obtain ⟨m, ⟨D, ⟨es, c, h1, _⟩, _⟩, _⟩ := h.made
 exact ⟨es, c, h1⟩
theorem DenI.kept {row : Option Nat} (h : DenI w0 n nm bm rs RV VV P W) (hH : DenH w0 n nm bm rs RV VV rk tv f) (hg : W.grownBy W' row) (hr : ∀ j, row = some j → n ≤ j ∧ j ≠ nm ∧ j ≠ bm) : DenI w0 n nm bm rs RV VV P W' := by
 have hb := hH.hbm
 have e1 := h.bml
 have e2 := h.nml
 refine ⟨h.below.grown hg (by omega) fun j e => (hr j e).1, h.mks.heap (hg.block nm e2 fun e => (hr nm e.symm).2.1 rfl), ?_⟩
 obtain ⟨m, h1, h2⟩ := h.made
 exact ⟨m, h1.heap (hg.block bm e1 fun e => (hr bm e.symm).2.2 rfl), h2⟩
theorem DenI.less {P' : List ByteArray} (h : DenI w0 n nm bm rs RV VV P W) (hP : ∀ o ∈ P', o ∈ P) : DenI w0 n nm bm rs RV VV P' W := by
 obtain ⟨m, h1, h2, h3, h4⟩ := h.made
 exact ⟨h.below, h.mks, m, h1, h2, h3, fun o ho => h4 o (hP o ho)⟩
theorem DenI.put (h : DenI w0 n nm bm rs RV VV P W) (hH : DenH w0 n nm bm rs RV VV rk tv f) {k : ByteArray} (hk : k ∈ rs.flatMap (·.outs)) (hs : k.size ≤ maxLen) :
  ∃ W', (Instr.mapUpdate 94 (.map (some bm)) (.string k) (valE (VV k))).run Tryz.prog W = .ok () W' ∧ DenI w0 n nm bm rs RV VV (P ++ [k]) W' ∧ W.grownBy W' (some bm) := by
 obtain ⟨m, h1, h2, h3, h4⟩ := h.made
 have hK : KeysN m := by obtain ⟨D, _, _, _, _, hK⟩ := h1; exact hK
 have hfl := flat_len rs fun r hr => (hH.small r hr).outs.1
 have hkl := keys_len hK h3
 have hfew := hH.few
 have hle : rs.length * 1048576 ≤ 1000 * 1048576 := Nat.mul_le_mul_right _ hfew
 obtain ⟨W', hr, hm, ht⟩ := h1.put Tryz.underlying9 Tryz.underlying94 (by unfold maxLen; omega) k hs (valE (VV k))
 have hg := ht.grown
 refine ⟨W', hr, ⟨h.below.grown hg (by have := h.bml; have := hH.hbm; omega) (fun j e => by have := hH.hbm; have := Option.some.inj e; omega), h.mks.heap (hg.block nm h.nml fun e => hH.hne (Option.some.inj e)), _, hm, fun k' hk' z => ?_, fun p hp => ?_, fun o ho => ?_⟩, hg⟩
 ·by_cases e : k = k'
  ·subst e; exact getM_put_same _ _ _ _
  ·rw [hasM_put, decide_eq_false e, Bool.false_or] at hk'
   rw [getM_put_other _ _ _ e]; exact h2 k' hk' z
 ·unfold putM at hp
  rcases List.mem_cons.1 hp with rfl | hp
  ·exact hk
  ·exact h3 p (List.mem_filter.1 hp).1
 ·rw [hasM_put]
  rcases List.mem_append.1 ho with ho | ho
  ·rw [h4 o ho, Bool.or_true]
  ·obtain rfl : o = k := by simpa using ho
   simp
end
def OneDoes (w0 : World) (n nm bm : Nat) (rs : List RuleS) (RV : Nat → Value) (VV : ByteArray → ValT) (rk : Nat → Nat) (tv : Value) (D : Nat) : Prop :=
 ∀ (x : ByteArray) (P : List ByteArray) (W : World), x.size ≤ maxLen → (∀ k, mkrN rs rs.length x = some k → rk k < D) → DenI w0 n nm bm rs RV VV P W →
  Calls Tryz.prog 106 #[.agg #[tv, .map (some nm), .map (some bm)], .string x] W fun e w' => e = .returned (valE (VV x)) ∧ W.grownBy w' (some bm) ∧ DenI w0 n nm bm rs RV VV P w'
end Go.Proofs.YtdhmeganlnpohaaGreatDoor
namespace Go.Proofs.YtdhmeganlnpohaaGreatDoor
open Go.RowKit Go.Shelf Go.Maps
theorem strs_grown {w w' : World} {v : Value} {xs : List ByteArray} {b : Nat} (h : IsStrs w v xs) (hg : w.grownBy w' (some b)) (hm : ∃ es c, w.heap[b]? = some (.map es c)) : IsStrs w' v xs := by
 obtain ⟨a, c, e, h1, h2, h3⟩ := h
 refine ⟨a, c, e, h1, h2, fun hne => ?_⟩
 obtain ⟨g, o, ea, hgl, hc⟩ := h3 hne
 obtain ⟨es, c', hmp⟩ := hm
 have hgb : some g ≠ some b := by
  rintro ⟨⟩
  cases xs with
  | nil => exact hne rfl
  | cons x xs =>
   have := hc 0 x rfl
   simp [World.cell?, hmp] at this
 exact ⟨g, o, ea, Nat.lt_of_lt_of_le hgl hg.size, fun j x hx => (World.cell?_of_block (a := ⟨g, o + j, none⟩) (hg.block g hgl hgb)).trans (hc j x hx)⟩
set_option maxHeartbeats 8000000
set_option maxRecDepth 100000
def AllPost (n nm bm : Nat) (w0 : World) (rs : List RuleS) (RV : Nat → Value) (VV : ByteArray → ValT) (P : List ByteArray) (W : World) (names : List ByteArray) (e : Ending) (w' : World) : Prop :=
 ∃ g, e = .returned (.slice (some ⟨g, 0, none⟩) names.length names.length) ∧ ValRow w' g (names.map VV) ∧ W.heap.size ≤ g ∧ W.grownBy w' (some bm) ∧ DenI w0 n nm bm rs RV VV P w'
theorem denAll_any {w0 : World} {n nm bm : Nat} {rs : List RuleS} {RV : Nat → Value} {VV : ByteArray → ValT} {rk : Nat → Nat} {tv : Value} {f : ByteArray → ByteArray × Bool} (hH : DenH w0 n nm bm rs RV VV rk tv f) (D : Nat) (hOne : OneDoes w0 n nm bm rs RV VV rk tv D)
  (nv : Value) (names : List ByteArray) (P : List ByteArray) (W : World) (hN : IsStrs W nv names) (hs : ∀ x ∈ names, x.size ≤ maxLen) (hl : names.length ≤ 1000000000) (hr : ∀ x ∈ names, ∀ k, mkrN rs rs.length x = some k → rk k < D) (hI : DenI w0 n nm bm rs RV VV P W) :
  Calls Tryz.prog 76 #[.agg #[tv, .map (some nm), .map (some bm)], nv] W (AllPost n nm bm w0 rs RV VV P W names) := by
 have mixed : Tryz.prog.follows .mixedOrders = true := by kernel_rfl
 obtain ⟨ta, rfl⟩ := hH.tree
 obtain ⟨na, nc, rfl, hnl, hnm, hncell⟩ := isStrs_cells hN
 obtain ⟨m, hmm⟩ : ∃ m, W.heap.size = m := ⟨_, rfl⟩
 have hmk := make_vals names.length hl
 obtain ⟨W2, hW2⟩ : ∃ V, (W.alloc (.cells #[.pointer ta, .map (some nm), .map (some bm)] 104)).alloc (.cells (madeCells #[.bool false, .string ⟨#[]⟩] (names.length * 2)) 34) = V := ⟨_, rfl⟩
 have hg2 : W.grownBy W2 none := by rw [← hW2]; exact (grown_alloc0 _ _).trans (grown_alloc0 _ _)
 have hI2 := hI.kept hH hg2 (by simp)
 have hr2 : ValRow W2 (m + 1) (List.replicate names.length noV) := by
  have := valRow_made (W.alloc (.cells #[.pointer ta, .map (some nm), .map (some bm)] 104)) names.length
  rw [World.size_alloc, hmm] at this
  rw [← hW2]; exact this
 have hm2 : W2.heap[m]? = some (.cells #[.pointer ta, .map (some nm), .map (some bm)] 104) := by
  rw [← hW2, Below.heap_alloc _ _ _ (by simp [hmm]), ← hmm]; exact alloc_at W _
 have hs2 : W2.heap.size = m + 2 := by rw [← hW2]; simp [hmm]
 have hbl := hI.bml
 have hnl2 := hI.nml
 have HC : Hid (∀ (j : Nat) x, names[j]? = some x → ∃ b o, na = some ⟨b, o, none⟩ ∧ ∀ w', W.grownBy w' (some bm) → w'.cell? ⟨b, o + j, none⟩ = some (.string x)) := by
  show ∀ (j : Nat) x, _
  intro j x hx
  obtain ⟨b, o, e, _⟩ := hncell j x hx
  refine ⟨b, o, e, fun w' hw => ?_⟩
  have := strs_grown hN hw hI.isMap
  obtain ⟨_, _, e1, _, _, h1⟩ := isStrs_cells this
  obtain ⟨e2, _, _⟩ := Value.slice.inj e1
  subst e2
  obtain ⟨b', o', e3, hc⟩ := h1 j x hx
  rw [e] at e3
  cases e3
  exact hc w' (Below.refl _ _)
 have HH := Lib.hid hH; have HO := Lib.hid hOne; have HS := Lib.hid hs; have HR := Lib.hid hr; have HW2 := Lib.hid hW2; have HMM := Lib.hid hmm
 have HG2 : Hid (W.grownBy W2 (some bm)) := Lib.hid ⟨hg2.os, hg2.tape, hg2.output, hg2.size, fun k hk _ => hg2.block k hk (by simp)⟩
 have HI2 := Lib.hid hI2; have HR2 := Lib.hid hr2; have HM2 := Lib.hid hm2; have HS2 := Lib.hid hs2; have HBM : Hid (bm < m ∧ nm < m) := Lib.hid (by omega)
 unfold maxLen at hnm
 unfold AllPost
 rw [hmm]
 clear hN hs hr hI hncell hg2 hI2 hr2 hm2 hs2 hW2 hbl hnl2 hH hOne
 go_enter Tryz.func76, Tryz.ntmps76
 go_wp2_with fail
 rw [HW2.out]
 go_loopw [13] (fun iv wr => ∃ k : Nat, k ≤ names.length ∧ iv = .int .i64 (k : Int) ∧ ValRow wr (m + 1) ((names.take k).map VV ++ List.replicate (names.length - k) noV) ∧ W.grownBy wr (some bm) ∧ DenI w0 n nm bm rs RV VV P wr ∧ wr.heap[m]? = some (.cells #[.pointer ta, .map (some nm), .map (some bm)] 104) ∧ m + 2 ≤ wr.heap.size) (fun iv _ => names.length - (intOf iv).toNat)
 case atStart => exact ⟨0, Nat.zero_le _, rfl, by simpa using HR2.out, HG2.out, HI2.out, HM2.out, by rw [HS2.out]; exact Nat.le_refl _⟩
 case round =>
  obtain ⟨k, hk, rfl, hrow, hg, hI, hm, hz⟩ := hrel
  by_cases hlt : k < names.length
  ·obtain ⟨x, hx⟩ : ∃ x, names[k]? = some x := ⟨names[k], List.getElem?_eq_getElem hlt⟩
   obtain ⟨b, o, q1, hc⟩ := HC.out k x hx
   subst q1
   have cx := hc wr hg
   have hxm := List.mem_of_getElem? hx
   obtain ⟨m0, m1, m2, _⟩ := cells3 hm
   have CO := Lib.hid (HO.out x P wr (HS.out x hxm) (HR.out x hxm) hI)
   have hi1 : (k : Int) < (names.length : Int) := by omega
   have hi0 : (0 : Int) ≤ (k : Int) := by omega
   have hat : ((names.take k).map VV ++ List.replicate (names.length - k) noV)[k]? = some noV := by
    rw [List.getElem?_append_right (by rw [List.length_map, List.length_take]; omega), List.length_map, List.length_take, Nat.min_eq_left hk, Nat.sub_self, List.getElem?_replicate, if_pos (by omega)]
   have hlen : ((names.take k).map VV).length = k := by simp; omega
   have hnext : ((names.take k).map VV ++ List.replicate (names.length - k) noV).set k (VV x) = (names.take (k + 1)).map VV ++ List.replicate (names.length - (k + 1)) noV := by
    rw [List.take_add_one, hx, List.set_append_right _ _ (by rw [hlen]; exact Nat.le_refl _), hlen, Nat.sub_self, show names.length - k = (names.length - (k + 1)) + 1 by omega, List.replicate_succ, List.set_cons_zero]
    simp
   obtain ⟨t, ht⟩ : ∃ t, VV x = t := ⟨_, rfl⟩
   rw [ht] at CO hnext
   obtain ⟨ok, tx⟩ := t
   have HROW := Lib.hid hrow; have HG := Lib.hid hg; have HM := Lib.hid hm; have HZ := Lib.hid hz; have HAT := Lib.hid hat; have HNX := Lib.hid hnext; have HI := Lib.hid hI
   clear hrow hg hI hm hz hc hx hxm hat hlen hnext ht
   go_wp2_with (go_at_call 106; (with_reducible refine CO.out.mono ?_); rintro e w4 ⟨rfl, hg4, hI4⟩; have hro := HROW.out.heap (hg4.block (m + 1) (by have := HZ.out; omega) (fun e => by have := HBM.out; have := Option.some.inj e; omega)); obtain ⟨p0, p1, p2, p3⟩ := hro.cells HAT.out; have HRO := Lib.hid hro; have HG4 := Lib.hid hg4; have HI4 := Lib.hid hI4; clear hro hg4 hI4; simp only [valE, noV] at p0 p1 ⊢)
   have hset := HRO.out.set k (ok, tx) (by rw [List.length_append, List.length_map, List.length_take, List.length_replicate]; omega)
   rw [HNX.out] at hset
   obtain ⟨W5, hW5⟩ : ∃ V, (w4.setCell ⟨m + 1, k * 2, none⟩ (.bool ok)).setCell ⟨m + 1, k * 2 + 1, none⟩ (.string tx) = V := ⟨_, rfl⟩
   have hg5 : w4.grownBy W5 (some (m + 1)) := by rw [← hW5]; exact ⟨rfl, rfl, rfl, by simp [World.setCell], fun i _ hi => (Below.heap_setCell _ _ _ i (fun e => hi (by rw [e]))).trans (Below.heap_setCell _ _ _ i (fun e => hi (by rw [e])))⟩
   simp only at hset
   rw [hW5] at hset
   have hbm := HBM.out
   have hH := HH.out
   have hz := HZ.out
   have hz4 := HG4.out.size
   have hI5 := HI4.out.kept hH hg5 (fun j e => by have := Option.some.inj e; have := hH.hnm; omega)
   have hgW : W.grownBy W5 (some bm) := by
    have h1 := HG.out.trans HG4.out
    refine ⟨hg5.os.trans h1.os, hg5.tape.trans h1.tape, hg5.output.trans h1.output, Nat.le_trans h1.size hg5.size, fun i hi hne => (hg5.block i (by have := h1.size; omega) (fun e => ?_)).trans (h1.block i hi hne)⟩
    have := Option.some.inj e
    have := HMM.out
    omega
   have hm5 : W5.heap[m]? = some (.cells #[.pointer ta, .map (some nm), .map (some bm)] 104) := (hg5.block m (by omega) (fun e => by have := Option.some.inj e; omega)).trans ((HG4.out.block m (by omega) (fun e => by have := Option.some.inj e; omega)).trans HM.out)
   have hz5 := hg5.size
   rw [hW5]
   go_roundw
   case rel => exact ⟨k + 1, by omega, by go_num, hset, hgW, hI5, hm5, by omega⟩
   case measure => simp [intOf]; omega
  ·obtain rfl : k = names.length := by omega
   rw [List.take_length, Nat.sub_self, List.replicate_zero, List.append_nil] at hrow
   have hi1 : ¬ (names.length : Int) < (names.length : Int) := by omega
   have HROW := Lib.hid hrow; have HG := Lib.hid hg; have HI := Lib.hid hI
   clear hrow hg hI hm
   go_wp2
   go_ret
   exact ⟨m + 1, rfl, HROW.out, by omega, HG.out, HI.out⟩
end Go.Proofs.YtdhmeganlnpohaaGreatDoor
