import Derived.Test.YtdhmeganlnpohaaGreatDoorMaw
import Derived.Test.YtdhmeganlnpohaaGreatDoorMbb
import Derived.Test.YtdhmeganlnpohaaGreatDoorMaa
namespace Go.Proofs.YtdhmeganlnpohaaGreatDoor
open Go.RowKit Go.Shelf Go.Maps
set_option maxHeartbeats 4000000
set_option maxRecDepth 100000
theorem isStrs_blk {w : World} {a : Option Addr} {n c : Nat} {xs : List ByteArray} (h : IsStrs w (.slice a n c) xs) : xs ≠ [] → ∃ b o, a = some ⟨b, o, none⟩ ∧ b < w.heap.size ∧ True := by
 obtain ⟨a', c', e, _, _, h⟩ := h
 intro hne
 obtain ⟨b, o, e2, hb, _⟩ := h hne
 exact ⟨b, o, (Value.slice.inj e).1.trans e2, hb, trivial⟩
def AddPost (w : World) (b : Nat) (L ks : List ByteArray) (e : Ending) (w' : World) : Prop := e = .returned (.tuple #[]) ∧ SetIs w' b (addS L ks) ∧ w.grownBy w' (some b) ∧ w'.heap.size = w.heap.size
theorem slcAdd_any (b : Nat) (L : List ByteArray) (nv : Value) (ks : List ByteArray) (w : World) (hS : SetIs w b L) (hk : IsStrs w nv ks) (hkb : ∀ g o c, ks ≠ [] → nv = .slice (some ⟨g, o, none⟩) ks.length c → g ≠ b) (hn : L.length + ks.length ≤ 4000000000000000) (hs : ∀ k ∈ ks, k.size ≤ maxLen) :
  Calls Tryz.prog 93 #[.map (some b), nv] w (AddPost w b L ks) := by
 obtain ⟨ka, kc, rfl, hkl, hkm, hkc⟩ := hk
 have HK : Hid (∀ (k : Nat) x, ks[k]? = some x → ∃ g o, ka = some ⟨g, o, none⟩ ∧ ∀ w', w.grownBy w' (some b) → w'.cell? ⟨g, o + k, none⟩ = some (.string x)) := by
  show ∀ (k : Nat) x, _
  intro k x hx
  have hne : ks ≠ [] := by rintro rfl; simp at hx
  obtain ⟨g, o, rfl, hg, hc⟩ := hkc hne
  exact ⟨g, o, rfl, fun w' hw => (World.cell?_of_block (hw.block g hg (fun e => hkb g o kc hne rfl (by cases e; rfl)))).trans (hc k x hx)⟩
 have HS := Lib.hid hs
 have HS0 := Lib.hid hS
 unfold maxLen at hkm
 clear hkc hs hS hkb
 go_enter Tryz.func93, Tryz.ntmps93
 go_wp2
 go_loopw [8] (fun iv wr => ∃ k : Nat, k ≤ ks.length ∧ iv = .int .i64 (k : Int) ∧ SetIs wr b (addS L (ks.take k)) ∧ w.grownBy wr (some b) ∧ wr.heap.size = w.heap.size) (fun iv _ => ks.length - (intOf iv).toNat)
 case atStart => exact ⟨0, Nat.zero_le _, rfl, by simpa [addS] using HS0.out, grown_refl _ _, rfl⟩
 case round =>
  obtain ⟨k, hk, rfl, hset, hgr, hsz⟩ := hrel
  have HZ := Lib.hid hsz
  have HG := Lib.hid hgr
  by_cases hlt : k < ks.length
  ·obtain ⟨x, hx⟩ : ∃ x, ks[k]? = some x := ⟨ks[k], List.getElem?_eq_getElem hlt⟩
   obtain ⟨g, o, q1, hc1⟩ := HK.out k x hx
   subst q1
   have cx := hc1 _ HG.out
   have hi1 : (k : Int) < (ks.length : Int) := by omega
   have hi0 : (0 : Int) ≤ (k : Int) := by omega
   have hl := addS_len (ks.take k) L
   rw [List.length_take] at hl
   obtain ⟨w3, hput, hset3, hturn⟩ := hset.put Tryz.underlying120 (by omega) x (HS.out x (List.mem_of_getElem? hx))
   rw [← addS_next L hx] at hset3
   have HS3 := Lib.hid hset3
   have HG3 := Lib.hid (HG.out.trans hturn.grown)
   have HZ3 : Hid (w3.heap.size = w.heap.size) := Lib.hid (by obtain ⟨_, _, _, _, _, e⟩ := hturn; rw [e]; show (wr.heap.setIfInBounds b _).size = _; rw [Array.size_setIfInBounds]; exact HZ.out)
   clear hset hgr hc1 hx hl hset3 hturn hsz
   go_wp2
   go_roundw
   case rel => exact ⟨k + 1, by omega, by go_num, HS3.out, HG3.out, HZ3.out⟩
   case measure => simp [intOf]; omega
  ·have hi1 : ¬ (k : Int) < (ks.length : Int) := by omega
   have HF := Lib.hid (show SetIs wr b (addS L ks) by rw [List.take_of_length_le (by omega)] at hset; exact hset)
   clear hset hgr hsz
   go_wp2
   go_end0
   exact ⟨rfl, HF.out, HG.out, HZ.out⟩
theorem zeroUnit (w : World) : (zeroValue 162).run Tryz.prog w = .ok (.agg #[]) w := Tryz.zeroValue162 w
theorem slcHas_any (b : Nat) (L : List ByteArray) (k : ByteArray) (w : World) (hS : SetIs w b L) (hs : k.size ≤ maxLen) :
  Calls Tryz.prog 95 #[.map (some b), .string k] w fun e w' => e = .returned (.bool (inS L k)) ∧ Below w.heap.size w w' := by
 have hlook := hS.look Tryz.underlying120 (zeroUnit w) k hs
 obtain ⟨r, hr⟩ : ∃ r, inS L k = r := ⟨_, rfl⟩
 rw [hr] at hlook ⊢
 clear hS hr
 go_enter Tryz.func95, Tryz.ntmps95
 go_wp2
 go_ret
 exact ⟨rfl, by first | exact (Below.refl _ _).alloc (Nat.le_refl _) _ | exact below_drewN ((Below.refl _ _).alloc (Nat.le_refl _) _) 1⟩
end Go.Proofs.YtdhmeganlnpohaaGreatDoor
namespace Go.Proofs.YtdhmeganlnpohaaGreatDoor
open Go.RowKit Go.Shelf
def IdxPost (n : Nat) (p : Nat → Bool) (J : Nat → World → Prop) (e : Ending) (w' : World) : Prop := ∃ k, k ≤ n ∧ (∀ j, j < k → p j = false) ∧ ((k = n ∧ e = .returned (.int .i64 (-1)) ∧ J n w') ∨ (k < n ∧ p k = true ∧ e = .returned (.int .i64 (k : Int)) ∧ J (k + 1) w'))
def ConPost (n : Nat) (p : Nat → Bool) (J : Nat → World → Prop) (e : Ending) (w' : World) : Prop := ∃ k, k ≤ n ∧ (∀ j, j < k → p j = false) ∧ ((k = n ∧ e = .returned (.bool false) ∧ J n w') ∨ (k < n ∧ p k = true ∧ e = .returned (.bool true) ∧ J (k + 1) w'))
theorem IdxPost.con {n : Nat} {p : Nat → Bool} {J : Nat → World → Prop} {e : Ending} {w' : World} (h : IdxPost n p J e w') : ∃ i : Int, e = .returned (.int .i64 i) ∧ ConPost n p J (.returned (.bool (decide (0 ≤ i)))) w' := by
 obtain ⟨k, h1, h2, ⟨rfl, rfl, h3⟩ | ⟨h4, h5, rfl, h6⟩⟩ := h
 ·exact ⟨-1, rfl, k, h1, h2, .inl ⟨rfl, rfl, h3⟩⟩
 ·exact ⟨k, rfl, k, h1, h2, .inr ⟨h4, h5, by rw [decide_eq_true (Int.natCast_nonneg k)], h6⟩⟩
theorem ConPost.any {n : Nat} {p : Nat → Bool} {J : Nat → World → Prop} {e : Ending} {w' : World} (h : ConPost n p J e w') : e = .returned (.bool ((List.range n).any p)) ∧ ((∃ k, k ≤ n ∧ J k w')) := by
 obtain ⟨k, h1, h2, ⟨rfl, rfl, h3⟩ | ⟨h4, h5, rfl, h6⟩⟩ := h
 ·refine ⟨?_, k, Nat.le_refl _, h3⟩
  rw [show (List.range k).any p = false by rw [List.any_eq_false]; intro x hx; rw [h2 x (List.mem_range.1 hx)]; decide]
 ·refine ⟨?_, k + 1, h4, h6⟩
  rw [show (List.range n).any p = true by rw [List.any_eq_true]; exact ⟨k, List.mem_range.2 h4, h5⟩]
set_option maxHeartbeats 4000000
set_option maxRecDepth 100000
section
theorem idx_str (fid : Nat) (caps : Array Value) (eg : ∀ args w, (callFunc fid args).run Tryz.prog w = .ok (.enter fid args) w) (a : Option Addr) (n c : Nat) (hn : n ≤ maxLen) (x : Nat → ByteArray) (p : Nat → Bool) (J : Nat → World → Prop) (w : World)
  (hc : ∀ k W, k < n → J k W → ∃ b o, a = some ⟨b, o, none⟩ ∧ W.cell? ⟨b, o + k, none⟩ = some (.string (x k))) (hf : ∀ k W, k < n → (∀ j, j < k → p j = false) → J k W → Calls Tryz.prog fid (#[.string (x k)] ++ caps) W fun e W' => e = .returned (.bool (p k)) ∧ J (k + 1) W') (h0 : J 0 w) :
  Calls Tryz.prog 127 #[.slice a n c, .func (.func fid) #[] caps] w (IdxPost n p J) := by
 have HC := Lib.hid hc
 have HF := Lib.hid hf
 have H0 := Lib.hid h0
 unfold maxLen at hn
 clear hc hf h0
 go_enter Tryz.func127, Tryz.ntmps127
 go_wp2
 go_loopw [5, 8] (fun _ iv wr => ∃ k : Nat, k ≤ n ∧ iv = .int .i64 (k : Int) ∧ (∀ j, j < k → p j = false) ∧ J k wr) (fun _ iv _ => n - (intOf iv).toNat)
 case atStart => exact ⟨0, Nat.zero_le _, rfl, fun j hj => absurd hj (Nat.not_lt_zero _), H0.out⟩
 case round =>
  obtain ⟨k, hk, rfl, hno, hJ⟩ := hrel
  have HNO := Lib.hid hno
  have HJ := Lib.hid hJ
  by_cases hlt : k < n
  ·obtain ⟨b, o, ea, e0⟩ := HC.out k wr hlt hJ
   subst ea
   have cF := HF.out k wr hlt hno hJ
   have hi1 : (k : Int) < (n : Int) := by omega
   have hi0 : (0 : Int) ≤ (k : Int) := by omega
   cases hq : p k with
   | true =>
    rw [hq] at cF
    have HQ := Lib.hid hq
    have CF := Lib.hid cF
    clear hno hJ cF hq
    go_wp2_with (go_at_fn fid; refine CF.out.mono ?_; rintro e w' ⟨rfl, hj2⟩; have HJ2 := Lib.hid hj2; clear hj2)
    go_ret
    exact ⟨k, hk, HNO.out, .inr ⟨hlt, HQ.out, rfl, HJ2.out⟩⟩
   | false =>
    rw [hq] at cF
    have HQ := Lib.hid hq
    have CF := Lib.hid cF
    clear hno hJ cF hq
    go_wp2_with (go_at_fn fid; refine CF.out.mono ?_; rintro e w' ⟨rfl, hj2⟩; have HJ2 := Lib.hid hj2; clear hj2)
    go_roundw
    case rel =>
     refine ⟨k + 1, by omega, by go_num, fun j hj => ?_, HJ2.out⟩
     by_cases e : j = k
     ·subst e; exact HQ.out
     ·exact HNO.out j (by omega)
    case measure => simp [intOf]; omega
  ·have hi1 : ¬ (k : Int) < (n : Int) := by omega
   obtain rfl : k = n := by omega
   clear hno hJ
   go_wp2
   go_ret
   exact ⟨k, Nat.le_refl _, HNO.out, .inl ⟨rfl, rfl, HJ.out⟩⟩
theorem idx_step (fid : Nat) (caps : Array Value) (eg : ∀ args w, (callFunc fid args).run Tryz.prog w = .ok (.enter fid args) w) (a : Option Addr) (n c : Nat) (hn : n ≤ maxLen) (v0 v1 v2 v3 v4 : Nat → Value) (p : Nat → Bool) (J : Nat → World → Prop) (w : World)
  (hc : ∀ k W, k < n → J k W → ∃ b o, a = some ⟨b, o, none⟩ ∧ W.cell? ⟨b, o + k * 5, none⟩ = some (v0 k) ∧ W.cell? ⟨b, o + k * 5 + 1, none⟩ = some (v1 k) ∧ W.cell? ⟨b, o + k * 5 + 2, none⟩ = some (v2 k) ∧ W.cell? ⟨b, o + k * 5 + 3, none⟩ = some (v3 k) ∧ W.cell? ⟨b, o + k * 5 + 4, none⟩ = some (v4 k)) (hf : ∀ k W, k < n → (∀ j, j < k → p j = false) → J k W → Calls Tryz.prog fid (#[.agg #[v0 k, v1 k, v2 k, v3 k, v4 k]] ++ caps) W fun e W' => e = .returned (.bool (p k)) ∧ J (k + 1) W') (h0 : J 0 w) :
  Calls Tryz.prog 157 #[.slice a n c, .func (.func fid) #[] caps] w (IdxPost n p J) := by
 have HC := Lib.hid hc
 have HF := Lib.hid hf
 have H0 := Lib.hid h0
 unfold maxLen at hn
 clear hc hf h0
 go_enter Tryz.func157, Tryz.ntmps157
 go_wp2
 go_loopw [5, 8] (fun _ iv wr => ∃ k : Nat, k ≤ n ∧ iv = .int .i64 (k : Int) ∧ (∀ j, j < k → p j = false) ∧ J k wr) (fun _ iv _ => n - (intOf iv).toNat)
 case atStart => exact ⟨0, Nat.zero_le _, rfl, fun j hj => absurd hj (Nat.not_lt_zero _), H0.out⟩
 case round =>
  obtain ⟨k, hk, rfl, hno, hJ⟩ := hrel
  have HNO := Lib.hid hno
  have HJ := Lib.hid hJ
  by_cases hlt : k < n
  ·obtain ⟨b, o, ea, e0, e1, e2, e3, e4⟩ := HC.out k wr hlt hJ
   subst ea
   have cF := HF.out k wr hlt hno hJ
   have hi1 : (k : Int) < (n : Int) := by omega
   have hi0 : (0 : Int) ≤ (k : Int) := by omega
   cases hq : p k with
   | true =>
    rw [hq] at cF
    have HQ := Lib.hid hq
    have CF := Lib.hid cF
    clear hno hJ cF hq
    go_wp2_with (go_at_fn fid; refine CF.out.mono ?_; rintro e w' ⟨rfl, hj2⟩; have HJ2 := Lib.hid hj2; clear hj2)
    go_ret
    exact ⟨k, hk, HNO.out, .inr ⟨hlt, HQ.out, rfl, HJ2.out⟩⟩
   | false =>
    rw [hq] at cF
    have HQ := Lib.hid hq
    have CF := Lib.hid cF
    clear hno hJ cF hq
    go_wp2_with (go_at_fn fid; refine CF.out.mono ?_; rintro e w' ⟨rfl, hj2⟩; have HJ2 := Lib.hid hj2; clear hj2)
    go_roundw
    case rel =>
     refine ⟨k + 1, by omega, by go_num, fun j hj => ?_, HJ2.out⟩
     by_cases e : j = k
     ·subst e; exact HQ.out
     ·exact HNO.out j (by omega)
    case measure => simp [intOf]; omega
  ·have hi1 : ¬ (k : Int) < (n : Int) := by omega
   obtain rfl : k = n := by omega
   clear hno hJ
   go_wp2
   go_ret
   exact ⟨k, Nat.le_refl _, HNO.out, .inl ⟨rfl, rfl, HJ.out⟩⟩
theorem idx_rule (fid : Nat) (caps : Array Value) (eg : ∀ args w, (callFunc fid args).run Tryz.prog w = .ok (.enter fid args) w) (a : Option Addr) (n c : Nat) (hn : n ≤ maxLen) (v0 v1 v2 v3 v4 : Nat → Value) (p : Nat → Bool) (J : Nat → World → Prop) (w : World)
  (hc : ∀ k W, k < n → J k W → ∃ b o, a = some ⟨b, o, none⟩ ∧ W.cell? ⟨b, o + k * 5, none⟩ = some (v0 k) ∧ W.cell? ⟨b, o + k * 5 + 1, none⟩ = some (v1 k) ∧ W.cell? ⟨b, o + k * 5 + 2, none⟩ = some (v2 k) ∧ W.cell? ⟨b, o + k * 5 + 3, none⟩ = some (v3 k) ∧ W.cell? ⟨b, o + k * 5 + 4, none⟩ = some (v4 k)) (hf : ∀ k W, k < n → (∀ j, j < k → p j = false) → J k W → Calls Tryz.prog fid (#[.agg #[v0 k, v1 k, v2 k, v3 k, v4 k]] ++ caps) W fun e W' => e = .returned (.bool (p k)) ∧ J (k + 1) W') (h0 : J 0 w) :
  Calls Tryz.prog 140 #[.slice a n c, .func (.func fid) #[] caps] w (IdxPost n p J) := by
 have HC := Lib.hid hc
 have HF := Lib.hid hf
 have H0 := Lib.hid h0
 unfold maxLen at hn
 clear hc hf h0
 go_enter Tryz.func140, Tryz.ntmps140
 go_wp2
 go_loopw [5, 8] (fun _ iv wr => ∃ k : Nat, k ≤ n ∧ iv = .int .i64 (k : Int) ∧ (∀ j, j < k → p j = false) ∧ J k wr) (fun _ iv _ => n - (intOf iv).toNat)
 case atStart => exact ⟨0, Nat.zero_le _, rfl, fun j hj => absurd hj (Nat.not_lt_zero _), H0.out⟩
 case round =>
  obtain ⟨k, hk, rfl, hno, hJ⟩ := hrel
  have HNO := Lib.hid hno
  have HJ := Lib.hid hJ
  by_cases hlt : k < n
  ·obtain ⟨b, o, ea, e0, e1, e2, e3, e4⟩ := HC.out k wr hlt hJ
   subst ea
   have cF := HF.out k wr hlt hno hJ
   have hi1 : (k : Int) < (n : Int) := by omega
   have hi0 : (0 : Int) ≤ (k : Int) := by omega
   cases hq : p k with
   | true =>
    rw [hq] at cF
    have HQ := Lib.hid hq
    have CF := Lib.hid cF
    clear hno hJ cF hq
    go_wp2_with (go_at_fn fid; refine CF.out.mono ?_; rintro e w' ⟨rfl, hj2⟩; have HJ2 := Lib.hid hj2; clear hj2)
    go_ret
    exact ⟨k, hk, HNO.out, .inr ⟨hlt, HQ.out, rfl, HJ2.out⟩⟩
   | false =>
    rw [hq] at cF
    have HQ := Lib.hid hq
    have CF := Lib.hid cF
    clear hno hJ cF hq
    go_wp2_with (go_at_fn fid; refine CF.out.mono ?_; rintro e w' ⟨rfl, hj2⟩; have HJ2 := Lib.hid hj2; clear hj2)
    go_roundw
    case rel =>
     refine ⟨k + 1, by omega, by go_num, fun j hj => ?_, HJ2.out⟩
     by_cases e : j = k
     ·subst e; exact HQ.out
     ·exact HNO.out j (by omega)
    case measure => simp [intOf]; omega
  ·have hi1 : ¬ (k : Int) < (n : Int) := by omega
   obtain rfl : k = n := by omega
   clear hno hJ
   go_wp2
   go_ret
   exact ⟨k, Nat.le_refl _, HNO.out, .inl ⟨rfl, rfl, HJ.out⟩⟩
theorem con_str (fid : Nat) (caps : Array Value) (eg : ∀ args w, (callFunc fid args).run Tryz.prog w = .ok (.enter fid args) w) (a : Option Addr) (n c : Nat) (hn : n ≤ maxLen) (x : Nat → ByteArray) (p : Nat → Bool) (J : Nat → World → Prop) (w : World)
  (hc : ∀ k W, k < n → J k W → ∃ b o, a = some ⟨b, o, none⟩ ∧ W.cell? ⟨b, o + k, none⟩ = some (.string (x k))) (hf : ∀ k W, k < n → (∀ j, j < k → p j = false) → J k W → Calls Tryz.prog fid (#[.string (x k)] ++ caps) W fun e W' => e = .returned (.bool (p k)) ∧ J (k + 1) W') (h0 : J 0 w) :
  Calls Tryz.prog 82 #[.slice a n c, .func (.func fid) #[] caps] w (ConPost n p J) := by
 have C := Lib.hid (idx_str fid caps eg a n c hn x p J w hc hf h0)
 clear hc hf h0 hn eg
 go_enter Tryz.func82, Tryz.ntmps82
 go_wp2_with (go_at_call 127; refine C.out.mono ?_; rintro e w' hi; obtain ⟨i, rfl, hcon⟩ := hi.con; have HCON := Lib.hid hcon; clear hcon)
 go_ret
 exact HCON.out
theorem con_step (fid : Nat) (caps : Array Value) (eg : ∀ args w, (callFunc fid args).run Tryz.prog w = .ok (.enter fid args) w) (a : Option Addr) (n c : Nat) (hn : n ≤ maxLen) (v0 v1 v2 v3 v4 : Nat → Value) (p : Nat → Bool) (J : Nat → World → Prop) (w : World)
  (hc : ∀ k W, k < n → J k W → ∃ b o, a = some ⟨b, o, none⟩ ∧ W.cell? ⟨b, o + k * 5, none⟩ = some (v0 k) ∧ W.cell? ⟨b, o + k * 5 + 1, none⟩ = some (v1 k) ∧ W.cell? ⟨b, o + k * 5 + 2, none⟩ = some (v2 k) ∧ W.cell? ⟨b, o + k * 5 + 3, none⟩ = some (v3 k) ∧ W.cell? ⟨b, o + k * 5 + 4, none⟩ = some (v4 k)) (hf : ∀ k W, k < n → (∀ j, j < k → p j = false) → J k W → Calls Tryz.prog fid (#[.agg #[v0 k, v1 k, v2 k, v3 k, v4 k]] ++ caps) W fun e W' => e = .returned (.bool (p k)) ∧ J (k + 1) W') (h0 : J 0 w) :
  Calls Tryz.prog 109 #[.slice a n c, .func (.func fid) #[] caps] w (ConPost n p J) := by
 have C := Lib.hid (idx_step fid caps eg a n c hn v0 v1 v2 v3 v4 p J w hc hf h0)
 clear hc hf h0 hn eg
 go_enter Tryz.func109, Tryz.ntmps109
 go_wp2_with (go_at_call 157; refine C.out.mono ?_; rintro e w' hi; obtain ⟨i, rfl, hcon⟩ := hi.con; have HCON := Lib.hid hcon; clear hcon)
 go_ret
 exact HCON.out
end
end Go.Proofs.YtdhmeganlnpohaaGreatDoor
namespace Go.Proofs.YtdhmeganlnpohaaGreatDoor
open Go.RowKit Go.Shelf Go.Maps
set_option maxHeartbeats 4000000
set_option maxRecDepth 100000
def CAddPost (w : World) (b : Nat) (L ks : List ByteArray) (e : Ending) (w' : World) : Prop := e = .returned (.bool (decide ((addS L ks).length = L.length + ks.length))) ∧ SetIs w' b (addS L ks) ∧ w.grownBy w' (some b) ∧ w'.heap.size = w.heap.size
theorem cAdd_any (b : Nat) (L : List ByteArray) (nv : Value) (ks : List ByteArray) (w : World) (hS : SetIs w b L) (hk : IsStrs w nv ks) (hkb : ∀ g o c, ks ≠ [] → nv = .slice (some ⟨g, o, none⟩) ks.length c → g ≠ b) (hn : L.length + ks.length ≤ 4000000000000000) (hs : ∀ k ∈ ks, k.size ≤ maxLen) :
  Calls Tryz.prog 112 #[.map (some b), nv] w (CAddPost w b L ks) := by
 obtain ⟨ka, kc, rfl, hkl, hkm, hkc⟩ := hk
 have HK : Hid (∀ (k : Nat) x, ks[k]? = some x → ∃ g o, ka = some ⟨g, o, none⟩ ∧ ∀ w', w.grownBy w' (some b) → w'.cell? ⟨g, o + k, none⟩ = some (.string x)) := by
  show ∀ (k : Nat) x, _
  intro k x hx
  have hne : ks ≠ [] := by rintro rfl; simp at hx
  obtain ⟨g, o, rfl, hg, hc⟩ := hkc hne
  exact ⟨g, o, rfl, fun w' hw => (World.cell?_of_block (hw.block g hg (fun e => hkb g o kc hne rfl (by cases e; rfl)))).trans (hc k x hx)⟩
 have HS := Lib.hid hs
 have HS0 := Lib.hid hS
 have hlen := hS.len Tryz.underlying139 3
 unfold maxLen at hkm
 clear hkc hs hS hkb
 go_enter Tryz.func112, Tryz.ntmps112
 go_wp2
 go_loopw [7, 12, 13, 14, 15, 16, 17, 18, 19] (fun _ iv _ _ _ _ _ _ _ wr => ∃ k : Nat, k ≤ ks.length ∧ iv = .int .i64 (k : Int) ∧ SetIs wr b (addS L (ks.take k)) ∧ w.grownBy wr (some b) ∧ wr.heap.size = w.heap.size) (fun _ iv _ _ _ _ _ _ _ _ => ks.length - (intOf iv).toNat)
 case atStart => exact ⟨0, Nat.zero_le _, rfl, by simpa [addS] using HS0.out, grown_refl _ _, rfl⟩
 case round =>
  obtain ⟨k, hk, rfl, hset, hgr, hsz⟩ := hrel
  have HZ := Lib.hid hsz
  have HG := Lib.hid hgr
  by_cases hlt : k < ks.length
  ·obtain ⟨x, hx⟩ : ∃ x, ks[k]? = some x := ⟨ks[k], List.getElem?_eq_getElem hlt⟩
   obtain ⟨g, o, q1, hc1⟩ := HK.out k x hx
   subst q1
   have cx := hc1 _ HG.out
   have hi1 : (k : Int) < (ks.length : Int) := by omega
   have hi0 : (0 : Int) ≤ (k : Int) := by omega
   have hl := addS_len (ks.take k) L
   rw [List.length_take] at hl
   obtain ⟨w3, hput, hset3, hturn⟩ := hset.put Tryz.underlying139 (by omega) x (HS.out x (List.mem_of_getElem? hx))
   rw [← addS_next L hx] at hset3
   have HS3 := Lib.hid hset3
   have HG3 := Lib.hid (HG.out.trans hturn.grown)
   have HZ3 : Hid (w3.heap.size = w.heap.size) := Lib.hid (by obtain ⟨_, _, _, _, _, e⟩ := hturn; rw [e]; show (wr.heap.setIfInBounds b _).size = _; rw [Array.size_setIfInBounds]; exact HZ.out)
   clear hset hgr hc1 hx hl hset3 hturn hsz hlen
   go_wp2
   go_roundw
   case rel => exact ⟨k + 1, by omega, by go_num, HS3.out, HG3.out, HZ3.out⟩
   case measure => simp [intOf]; omega
  ·have hi1 : ¬ (k : Int) < (ks.length : Int) := by omega
   have hset' : SetIs wr b (addS L ks) := by rw [List.take_of_length_le (by omega)] at hset; exact hset
   have hl := addS_len ks L
   have hlen2 := hset'.len Tryz.underlying139 3
   have HF := Lib.hid hset'
   obtain ⟨m, hm⟩ : ∃ m, (addS L ks).length = m := ⟨_, rfl⟩
   rw [hm] at hlen2 hl
   have HM := Lib.hid hm
   have hd2 : ((m : Int) == (L.length : Int) + (ks.length : Int)) = decide (m = L.length + ks.length) := by rw [Bool.eq_iff_iff, beq_iff_eq, decide_eq_true_eq]; omega
   have HD2 := Lib.hid hd2
   clear hset hgr hsz hset' hm hlen hd2
   go_wp2
   go_ret
   exact ⟨by rw [HM.out]; exact congrArg (fun b => Ending.returned (.bool b)) HD2.out, HF.out, HG.out, HZ.out⟩
theorem zeroUnitC (w : World) : (zeroValue 162).run Tryz.prog w = .ok (.agg #[]) w := Tryz.zeroValue162 w
theorem cHas1_any (b bn : Nat) (L : List ByteArray) (k : ByteArray) (w : World) (hB : Boxed w bn 139 (.map (some b))) (hS : SetIs w b L) (hs : k.size ≤ maxLen) :
  Calls Tryz.prog 158 #[.string k, .pointer (some ⟨bn, 0, none⟩)] w fun e w' => e = .returned (.bool (!inS L k)) ∧ Below w.heap.size w w' := by
 have hlook := fun W (h : Below w.heap.size w W) => (hS.below h hS.lt).look Tryz.underlying139 (zeroUnitC W) k hs
 have hbc := fun W (h : Below w.heap.size w W) => Boxed.cell (show Boxed W bn 139 (.map (some b)) from (h.block bn hB.lt).trans hB)
 obtain ⟨r, hr⟩ : ∃ r, inS L k = r := ⟨_, rfl⟩
 rw [hr] at hlook ⊢
 have mixed : Tryz.prog.follows .mixedOrders = true := by kernel_rfl
 have l0 := hlook w (Below.refl _ _)
 have c0 := hbc w (Below.refl _ _)
 clear hr
 go_enter Tryz.func158, Tryz.ntmps158
 go_wp2
 go_ret
 exact ⟨rfl, by first | exact (Below.refl _ _).alloc (Nat.le_refl _) _ | exact below_drewN ((Below.refl _ _).alloc (Nat.le_refl _) _) 1⟩
theorem any_range (xs : List ByteArray) (q : ByteArray → Bool) : (List.range xs.length).any (fun k => q (xs.getD k ⟨#[]⟩)) = xs.any q := by
 rw [Bool.eq_iff_iff, List.any_eq_true, List.any_eq_true]
 constructor
 ·rintro ⟨k, hk, h⟩
  have hk := List.mem_range.1 hk
  refine ⟨xs[k], List.getElem_mem hk, ?_⟩
  rwa [List.getD_eq_getElem?_getD, List.getElem?_eq_getElem hk] at h
 ·rintro ⟨x, hx, h⟩
  obtain ⟨k, hk, e⟩ := List.getElem_of_mem hx
  refine ⟨k, List.mem_range.2 hk, ?_⟩
  rwa [List.getD_eq_getElem?_getD, List.getElem?_eq_getElem hk, e]
theorem getD_at {xs : List ByteArray} {k : Nat} (h : k < xs.length) : xs[k]? = some (xs.getD k ⟨#[]⟩) := by
 rw [List.getD_eq_getElem?_getD, List.getElem?_eq_getElem h]; rfl
theorem getD_mem {xs : List ByteArray} {k : Nat} (h : k < xs.length) : xs.getD k ⟨#[]⟩ ∈ xs := List.mem_of_getElem? (getD_at h)
theorem conB_str (fid : Nat) (caps : Array Value) (eg : ∀ args w, (callFunc fid args).run Tryz.prog w = .ok (.enter fid args) w) (v : Value) (xs : List ByteArray) (q : ByteArray → Bool) (B : Nat) (w : World) (hB : B ≤ w.heap.size) (hv : ∀ W, Below B w W → IsStrs W v xs)
  (hf : ∀ x ∈ xs, ∀ W, Below B w W → Calls Tryz.prog fid (#[.string x] ++ caps) W fun e W' => e = .returned (.bool (q x)) ∧ Below W.heap.size W W') :
  Calls Tryz.prog 82 #[v, .func (.func fid) #[] caps] w fun e w' => e = .returned (.bool (xs.any q)) ∧ Below B w w' := by
 obtain ⟨a, c, rfl, h1, h2, h3⟩ := hv w (Below.refl _ _)
 refine (con_str fid caps eg a xs.length c (Nat.le_trans h1 h2) (fun k => xs.getD k ⟨#[]⟩) (fun k => q (xs.getD k ⟨#[]⟩)) (fun _ W => Below B w W) w (fun k W hk hW => ?_) (fun k W hk _ hW => ?_) (Below.refl _ _)).mono ?_
 ·obtain ⟨a', c', e, _, _, h3⟩ := hv W hW
  cases e
  have hx := getD_at hk
  obtain ⟨b, o, rfl, hb, hc⟩ := h3 (by rintro rfl; simp at hk)
  exact ⟨b, o, rfl, hc k _ hx⟩
 ·refine (hf _ (getD_mem hk) W hW).mono ?_
  rintro e W' ⟨rfl, hb⟩
  exact ⟨rfl, hW.trans (hb.mono (Nat.le_trans hB hW.size))⟩
 ·intro e w' h
  obtain ⟨rfl, k, _, hb⟩ := h.any
  exact ⟨by rw [any_range], hb⟩
theorem cHas_any (b : Nat) (L : List ByteArray) (v : Value) (ks : List ByteArray) (w : World) (hS : SetIs w b L) (hk : IsStrs w v ks) (hs : ∀ k ∈ ks, k.size ≤ maxLen) :
  Calls Tryz.prog 113 #[.map (some b), v] w fun e w' => e = .returned (.bool (ks.all (inS L))) ∧ Below w.heap.size w w' := by
 obtain ⟨W1, hW1⟩ : ∃ W, w.alloc (.cells #[.map (some b)] 139) = W := ⟨_, rfl⟩
 have hb1 : Below w.heap.size w W1 := by rw [← hW1]; exact (Below.refl _ _).alloc (Nat.le_refl _) _
 have hbx : Boxed W1 w.heap.size 139 (.map (some b)) := by rw [← hW1]; exact Boxed.new w _ _
 have hlt := hbx.lt
 have hset1 := hS.below hb1 hS.lt
 have cC := conB_str 158 #[.pointer (some ⟨w.heap.size, 0, none⟩)] (enters_of Tryz.func158 (by kernel_rfl) rfl) v ks (fun x => !inS L x) W1.heap.size W1 (Nat.le_refl _) (fun W hW => hk.below (hb1.trans (hW.mono hb1.size))) (fun x hx W hW => cHas1_any b w.heap.size L x W ((hW.block _ hlt).trans hbx) (hset1.below hW hset1.lt) (hs x hx))
 have e : (!ks.any fun x => !inS L x) = ks.all (inS L) := by rw [← List.not_all_eq_any_not]; simp
 obtain ⟨r, hr⟩ : ∃ r, (ks.any fun x => !inS L x) = r := ⟨_, rfl⟩
 rw [hr] at cC e
 rw [← e]
 have CC := Lib.hid cC
 have HB1 := Lib.hid hb1
 have HW1 := Lib.hid hW1
 clear hS hk hs hb1 hbx hlt hset1 cC e hr hW1
 go_enter Tryz.func113, Tryz.ntmps113
 go_wp2_with (go_at_call 82; rw [HW1.out]; refine CC.out.mono ?_; rintro e w2 ⟨rfl, hb2⟩)
 go_ret
 exact ⟨rfl, HB1.out.trans (hb2.mono HB1.out.size)⟩
end Go.Proofs.YtdhmeganlnpohaaGreatDoor
