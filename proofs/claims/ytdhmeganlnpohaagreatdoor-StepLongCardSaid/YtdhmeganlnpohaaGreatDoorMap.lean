import Derived.Test.YtdhmeganlnpohaaGreatDoorMao
import Derived.Lib.Join
import Derived.Test.YtdhmeganlnpohaaGreatDoorMai
import Derived.Test.YtdhmeganlnpohaaGreatDoorMab
import Derived.Shelf.Sort.AssemblysIn
import Derived.Shelf.Slices.In.SortNone
import Derived.Sort.EveryDepth
import Derived.Sort.OwnSorted
import Derived.Test.YtdhmeganlnpohaaGreatDoorMaa
namespace Go.Proofs.YtdhmeganlnpohaaGreatDoor
open Go.RowKit
theorem str_text : ∀ (f : Nat) {l : List UInt8} {x : List UInt8 × Nat}, strF f l = some x → x.1.length ≤ x.2
 | 0, _, _, h => by simp [strF] at h
 | f + 1, [], _, h => by simp [strF] at h
 | f + 1, c :: r, x, h => by
  rw [strF_cons] at h
  split at h
  ·injection h with h; subst h; simp
  ·cases he : elemS (c :: r) with
   | none => rw [he] at h; cases h
   | some y =>
    obtain ⟨d, n⟩ := y
    have hp := elem_pos he
    rw [he] at h
    simp only [Option.map_eq_some_iff] at h
    obtain ⟨z, hz, rfl⟩ := h
    have := str_text f hz
    simp only [List.length_cons]
    omega
theorem word_text {l : List UInt8} {k : Int} {t : List UInt8} {n : Nat} (h : wordS l = some (k, t, n)) : t.length ≤ n := by
 cases l with
 | nil => simp [wordS] at h
 | cons c r =>
  rw [wordS_cons] at h
  split at h
  ·obtain ⟨x, hx, h⟩ := Option.map_eq_some_iff.1 h
   injection h with _ h; injection h with h1 h2
   have := str_text _ hx
   subst h1 h2
   omega
  ·split at h
   ·injection h with h; injection h with _ h; injection h with h1 h2
    subst h1 h2; exact Nat.le_refl _
   ·split at h
    ·injection h with h; injection h with _ h; injection h with h1 h2
     subst h1 h2; simp
    ·cases h
theorem ends_one (x : WordT) (h : x.1 = 4) : EndsW [x] := by
 intro k hk hn
 obtain rfl : k = 0 := by simpa using hk
 exact absurd h hn
theorem ends_cons (x : WordT) {ws : List WordT} (h : EndsW ws) (h0 : 0 < ws.length) : EndsW (x :: ws) := by
 intro k hk hn
 cases k with
 | zero => simp; omega
 | succ k =>
  have := h k (by simpa using hk) (by simpa [wAt] using hn)
  simp; omega
theorem allF_ok : ∀ (f a : Nat) (l : List UInt8) (ws : List WordT), allF f a l = .ok ws → EndsW ws ∧ 0 < ws.length ∧ ws.length ≤ l.length + 1 ∧ ∀ x ∈ ws, x.2.2.length ≤ l.length
 | 0, _, _, _, h => by cases h
 | f + 1, a, l, ws, h => by
  rw [allF_succ] at h
  split at h
  ·injection h with h
   subst h
   exact ⟨ends_one _ rfl, by simp, by simp, by simp⟩
  ·split at h
   ·cases h
   ·rename_i k t n hw
    split at h
    ·cases h
    ·rename_i ws' hr
     injection h with h
     subst h
     obtain ⟨h1, h2, h3, h4⟩ := allF_ok f _ _ ws' hr
     have hp := word_pos hw
     have ht := word_text hw
     have hs := skip_le l false
     rw [List.length_drop] at hp
     rw [List.length_drop, List.length_drop] at h3
     refine ⟨ends_cons _ h1 h2, by simp, by simp only [List.length_cons]; omega, fun x hx => ?_⟩
     rcases List.mem_cons.1 hx with rfl | hx
     ·simp only; omega
     ·have := h4 x hx
      rw [List.length_drop, List.length_drop] at this
      omega
theorem GP.up {p p' : Nat} {w : World} (h : GP p w) (hp : p ≤ p') : GP p' w := ⟨h.glob, h.ops, Nat.lt_of_lt_of_le h.l1 hp, Nat.lt_of_lt_of_le h.l2 hp, Nat.lt_of_lt_of_le h.l3 hp, Nat.lt_of_lt_of_le h.l4 hp, Nat.lt_of_lt_of_le h.l5 hp⟩
def FileE (L : List UInt8) (w w' : World) (e : Ending) : Prop :=
 match fileS L with
 | .error x => e = .returned (.tuple #[.slice none 0 0, .agg #[.int .i64 x.1, .int .i64 x.2]])
 | .ok rs => ∃ v, e = .returned (.tuple #[v, .agg #[.int .i64 0, .int .i64 0]]) ∧ RulesA (fun b => b < w.heap.size) w' v rs
theorem fileE_bad {L : List UInt8} {w w' : World} {e : Ending} {c a : Int} (h : fileS L = .error (c, a)) (he : e = .returned (.tuple #[.slice none 0 0, .agg #[.int .i64 c, .int .i64 a]])) : FileE L w w' e := by
 unfold FileE; rw [h]; exact he
theorem fileE_good {L : List UInt8} {w w' : World} {e : Ending} {rs : List RuleS} {v : Value} (h : fileS L = .ok rs) (he : e = .returned (.tuple #[v, .agg #[.int .i64 0, .int .i64 0]])) (hr : RulesA (fun b => b < w.heap.size) w' v rs) : FileE L w w' e := by
 unfold FileE; rw [h]; exact ⟨v, he, hr⟩
theorem rs_new {w W : World} {v : Value} {ws : List WordT} {L : List UInt8} (h : allS L = .ok ws) (hL : L.length ≤ 1048576) (hg : GP w.heap.size w) (hb : Below w.heap.size w W) (hw : IsWords W v ws) (hv : ∀ b, v.ownBlock = some b → b < W.heap.size) :
  RS (W.alloc (.cells #[v, .int .i64 0, .bool false] 188)) W.heap.size v ws (0, false) := by
 obtain ⟨h1, h2, h3, h4⟩ := allF_ok _ _ _ _ h
 have hA := (Below.refl W.heap.size W).alloc (Nat.le_refl _) (.cells #[v, .int .i64 0, .bool false] 188)
 refine ⟨⟨alloc_at W _, ⟨hw.below hA, fun b e => ⟨by have := hv b e; simp; omega, fun e2 => by have := hv b e; omega⟩⟩, h2, h1⟩, ?_, fun k hk => ?_, by omega⟩
 ·exact ((hg.below hb).up hb.size).below (hA.mono (Nat.le_refl _))
 ·have hm : ws[k]'hk ∈ ws := List.getElem_mem hk
  have := h4 _ hm
  unfold wTx wAt
  rw [List.getD_eq_getElem?_getD, List.getElem?_eq_getElem hk]
  simp only [Option.getD_some, ByteArray.size, List.size_toArray]
  omega
theorem words_block {w : World} {v : Value} {ws : List WordT} (h : IsWords w v ws) (h0 : 0 < ws.length) : ∀ b, v.ownBlock = some b → b < w.heap.size := by
 obtain ⟨a, c, rfl, _, _, h2⟩ := h
 have hne : wordRows ws ≠ [] := by
  intro e
  have : ws.length = 0 := by rw [← wordRows_length ws, e]; rfl
  omega
 obtain ⟨b, o, rfl, h3, _⟩ := h2 hne
 intro b' e
 cases e
 exact h3
set_option maxHeartbeats 4000000 in
set_option maxRecDepth 100000 in
theorem file_any (s : ByteArray) (w : World) (hs : s.size ≤ maxLen) (hg : GP w.heap.size w) :
  Calls Tryz.prog 118 #[.string s] w fun e w' => FileE s.data.toList w w' e ∧ Below w.heap.size w w' := by
 unfold maxLen at hs
 obtain ⟨L, hL⟩ : ∃ L, s.data.toList = L := ⟨_, rfl⟩
 have hsz : s.size = L.length := by rw [← hL]; exact Lib.size_eq s
 rw [hL]
 by_cases hm : 20000 < s.size
 ·have hres : fileS L = .error (4, -1) := by unfold fileS; rw [if_pos (by omega)]
  have HRES := Lib.hid hres
  have hm' : (20000 : Int) < (s.size : Int) := by omega
  clear hres hL hsz hg
  go_enter Tryz.func118, Tryz.ntmps118
  go_wp2
  refine bodyPost_ret (results_tc rfl _ _ w.heap.size _ _ _ _ rfl (alloc_at w _) Tryz.underlying146 rfl (by kernel_rfl)) rfl ?_
  exact ⟨fileE_bad HRES.out rfl, (Below.refl _ _).alloc (Nat.le_refl _) _⟩
 ·have hm' : ¬ (20000 : Int) < (s.size : Int) := by omega
  have cA := fun w' => lexAll_any s w' (by omega)
  rw [hL] at cA
  have CA := Lib.hid cA
  have HG := Lib.hid hg
  have HSZ := Lib.hid hsz
  clear hL cA hg hsz
  cases hA : allS L with
  | error q =>
   have hres : fileS L = .error (1, (q : Int)) := by unfold fileS; rw [if_neg (by have := HSZ.out; omega), hA]
   have HRES := Lib.hid hres
   have HAE := Lib.hid hA
   clear hres hA
   go_enter Tryz.func118, Tryz.ntmps118
   go_wp2_with fail
   refine (CA.out _).mono ?_
   rintro e w2 ⟨he, hb2⟩
   unfold AllE at he
   rw [HAE.out] at he
   simp only at he
   subst he
   have hnx := below_new hb2
   have hbk := at_new hb2
   have hbk2 : (w2.alloc (.cells #[.int .i64 1, .int .i64 (q : Int)] 146)).heap[w.heap.size]? = some (.cells #[.int .i64 0, .int .i64 0] 146) := by
    rw [Below.heap_alloc _ _ _ (by have := hb2.size; simp at this; omega)]; exact hbk
   obtain ⟨e0, e1, f0, f1⟩ := cells2 hbk2
   have HBK := Lib.hid hbk2
   have HNX := Lib.hid hnx
   clear hbk hbk2 hb2 hnx
   go_wp2_with fail
   go_region
   all_goals go_wp2
   all_goals refine bodyPost_ret (results_tc rfl _ _ w.heap.size _ _ _ _ rfl (heap_set _ _ (heap_set _ _ HBK.out)) Tryz.underlying146 rfl (by kernel_rfl)) rfl ?_
   all_goals exact ⟨fileE_bad HRES.out rfl, (((HNX.out.alloc HNX.out.size _).setCell (Nat.le_refl _) _).setCell (Nat.le_refl _) _).drew⟩
  | ok ws =>
   obtain ⟨x, hx⟩ : ∃ x, rulesP ws (0, false) = x := ⟨_, rfl⟩
   have hres : fileS L = if x.2.2 then .error (1, ((wAt ws x.2.1).2.1 : Int)) else .ok x.1 := by unfold fileS; rw [if_neg (by have := HSZ.out; omega), hA, ← hx]
   obtain ⟨rs, st⟩ := x
   obtain ⟨k, fl⟩ := st
   have HRES := Lib.hid hres
   have HX := Lib.hid hx
   have HAE := Lib.hid hA
   clear hres hA hx
   go_enter Tryz.func118, Tryz.ntmps118
   go_wp2_with fail
   refine (CA.out _).mono ?_
   rintro e w2 ⟨he, hb2⟩
   unfold AllE at he
   rw [HAE.out] at he
   simp only at he
   obtain ⟨v, rfl, hwd⟩ := he
   have hnx := below_new hb2
   have hbk := at_new hb2
   have hs2 := hb2.size
   simp at hs2
   have h1 := words_block hwd (allF_ok _ _ _ _ HAE.out).2.1
   obtain ⟨va, vn, vc, hvs⟩ : ∃ a n c, v = .slice a n c := by obtain ⟨a, c, rfl, _⟩ := hwd; exact ⟨_, _, _, rfl⟩
   subst hvs
   have hA2 := hnx.alloc hnx.size (.cells #[.int .i64 0, .int .i64 0] 146)
   have hrs := rs_new HAE.out (by have := HSZ.out; omega) HG.out hA2 (hwd.below ((Below.refl _ _).alloc (Nat.le_refl _) (.cells #[.int .i64 0, .int .i64 0] 146))) (fun b e => by have := h1 b e; simp; omega)
   have hp : (w2.alloc (.cells #[.int .i64 0, .int .i64 0] 146)).heap.size = w2.heap.size + 1 := by simp
   rw [hp] at hrs
   have cR := p_rules_any _ _ _ _ _ hrs
   rw [HX.out] at cR
   have HRS := Lib.hid hrs
   have HB := Lib.hid hbk
   have HN2 := Lib.hid hA2
   clear hbk hb2 hnx hwd h1 hA2 hp hrs
   go_wp2_with fail
   refine cR.mono ?_
   rintro e w3 ⟨vv, rfl, hrl, ha3⟩
   obtain ⟨ra, rn, rc, hvs⟩ : ∃ a n c, vv = .slice a n c := by obtain ⟨rows, h1, _⟩ := hrl; exact rowA_shape h1
   subst hvs
   obtain ⟨c0, c1, c2, f0, f1, f2⟩ := ha3.1.cells
   have herr3 : w3.heap[w.heap.size]? = some (.cells #[.int .i64 0, .int .i64 0] 146) := by
    rw [ha3.2.block _ (by simp; omega) (by omega), Below.heap_alloc _ _ _ (by simp; omega), Below.heap_alloc _ _ _ (by omega)]
    exact HB.out
   have hn3 : Below w.heap.size w w3 := (HN2.out.alloc HN2.out.size _).trans (ha3.2.below (by simp; omega) fun b hb e => by omega)
   have HR3 : Hid (RulesA (fun b => b < w.heap.size + 1) w3 (.slice ra rn rc) rs) := RulesA.mono hrl fun b _ e => by simp; omega
   have HA3 := Lib.hid ha3
   have HN3 := Lib.hid hn3
   have HE3 := Lib.hid herr3
   have hs3 := ha3.2.size
   simp at hs3
   cases fl
   ·obtain ⟨e0, e1, g0, g1⟩ := cells2 herr3
    have hgood : fileS L = .ok rs := HRES.out
    have HGOOD := Lib.hid hgood
    clear ha3 herr3 hn3 hrl cR hgood
    go_wp2
    refine bodyPost_ret (results_tc rfl _ _ w.heap.size _ _ _ _ rfl (heap_set _ _ (heap_set _ _ HE3.out)) Tryz.underlying146 rfl (by kernel_rfl)) rfl ?_
    refine ⟨fileE_good HGOOD.out rfl (RulesA.mono (RulesA.keep HR3.out ((fr_set (by simp) _).trans (fr_set (by simp) _))) fun b _ e => by omega), (HN3.out.setCell (Nat.le_refl _) _).setCell (Nat.le_refl _) _⟩
   ·have hbad : fileS L = .error (1, ((wAt ws k).2.1 : Int)) := HRES.out
    have HBAD := Lib.hid hbad
    have cW := word_any _ _ _ _ _ ha3.1
    unfold wVal at cW
    have F1 := fld1
    clear herr3 hn3 hrl cR hbad ha3
    go_wp2_with fail
    refine cW.mono ?_
    rintro e w4 ⟨rfl, hb4⟩
    have herr4 : w4.heap[w.heap.size]? = some (.cells #[.int .i64 0, .int .i64 0] 146) := by rw [hb4.block _ (by omega)]; exact HE3.out
    obtain ⟨e0, e1, g0, g1⟩ := cells2 herr4
    have HE4 := Lib.hid herr4
    have HN4 := Lib.hid (HN3.out.trans (hb4.mono HN3.out.size))
    clear herr4 hb4 cW
    go_wp2
    refine bodyPost_ret (results_tc rfl _ _ w.heap.size _ _ _ _ rfl (heap_set _ _ (heap_set _ _ HE4.out)) Tryz.underlying146 rfl (by kernel_rfl)) rfl ?_
    exact ⟨fileE_bad HBAD.out rfl, (HN4.out.setCell (Nat.le_refl _) _).setCell (Nat.le_refl _) _⟩
end Go.Proofs.YtdhmeganlnpohaaGreatDoor
namespace Go.Proofs.YtdhmeganlnpohaaGreatDoor
def srtL (xs : List (List UInt8)) : List (List UInt8) := xs.mergeSort fun x y => decide (x ≤ y)
def srtB (xs : List ByteArray) : List ByteArray := (srtL (xs.map (·.data.toList))).map fun l => ⟨l.toArray⟩
theorem srtL_len (xs : List (List UInt8)) : (srtL xs).length = xs.length := List.length_mergeSort xs
theorem srtB_data (xs : List ByteArray) : (srtB xs).map (·.data.toList) = srtL (xs.map (·.data.toList)) := by
 unfold srtB
 rw [List.map_map]
 exact List.map_id'' (fun l => by simp) _
theorem srtB_len (xs : List ByteArray) : (srtB xs).length = xs.length := by unfold srtB; rw [List.length_map, srtL_len, List.length_map]
def opTx (op : Int) : List UInt8 := if op < 0 ∨ 10 ≤ op then [] else opTab.getD op.toNat []
def stepWs (x : StepS) : List ByteArray := [x.out, ⟨#[61]⟩, ⟨(opTx x.op).toArray⟩] ++ (if x.op = 9 then [⟨(Lib.itoa x.n).toArray⟩] else []) ++ x.lits.map (fun l => (⟨(quoteS l.data.toList).toArray⟩ : ByteArray)) ++ x.args
def stepTx (x : StepS) : List UInt8 := Lib.join ((stepWs x).map (·.data.toList)) [32] ++ [59]
def clauseTx (key : List UInt8) (xs : List ByteArray) : List UInt8 := if xs = [] then [] else [32, 32] ++ key ++ [32] ++ Lib.join (srtL (xs.map (·.data.toList))) [44, 32] ++ [59, 10]
def stepLn (x : StepS) : List UInt8 := [32, 32] ++ stepTx x ++ [10]
def headTx (r : RuleS) : List UInt8 := [114, 117, 108, 101, 32] ++ r.name.data.toList ++ [32, 123, 10]
def upTx (r : RuleS) : List UInt8 := headTx r ++ clauseTx [105, 110] r.ins ++ clauseTx [111, 117, 116] r.outs ++ clauseTx [97, 102, 116, 101, 114] r.after
def ruleTx (r : RuleS) : List UInt8 := upTx r ++ (r.steps.map stepLn).flatten ++ [125, 10]
def sortR (r : RuleS) : RuleS := ⟨r.name, srtB r.ins, srtB r.outs, srtB r.after, r.steps⟩
end Go.Proofs.YtdhmeganlnpohaaGreatDoor
namespace Go.Proofs.YtdhmeganlnpohaaGreatDoor
theorem takeWhile_prefix {p : UInt8 → Bool} : ∀ (l r : List UInt8), (l.takeWhile p).length < l.length → (l ++ r).takeWhile p = l.takeWhile p
 | [], r, h => by simp at h
 | c :: l, r, h => by
  rw [List.cons_append, List.takeWhile_cons, List.takeWhile_cons]
  by_cases hc : p c = true
  ·rw [if_pos hc, if_pos hc]
   rw [List.takeWhile_cons, if_pos hc] at h
   rw [takeWhile_prefix l r (by simpa using h)]
  ·rw [if_neg hc, if_neg hc]
end Go.Proofs.YtdhmeganlnpohaaGreatDoor
namespace Go.Proofs.YtdhmeganlnpohaaGreatDoor
def EndsN (l : List UInt8) : Prop := l = [] ∨ ∃ r, l = r ++ [10]
theorem EndsN.drop {l : List UInt8} (h : EndsN l) (n : Nat) : EndsN (l.drop n) := by
 rcases h with rfl | ⟨r, rfl⟩
 ·exact .inl (by simp)
 ·by_cases hn : n ≤ r.length
  ·exact .inr ⟨r.drop n, by rw [List.drop_append_of_le_length hn]⟩
  ·exact .inl (List.drop_eq_nil_of_le (by simp; omega))
theorem quote_fin : ∀ n : Fin 256, elemS (quoteB (UInt8.ofNat n.val)) = some (UInt8.ofNat n.val, (quoteB (UInt8.ofNat n.val)).length) ∧ (quoteB (UInt8.ofNat n.val)).head? ≠ some 34 ∧ (quoteB (UInt8.ofNat n.val)).all (fun c => decide (32 ≤ c.toNat ∧ c.toNat ≤ 126)) = true ∧ (quoteB (UInt8.ofNat n.val)).length ≤ 4 := by decide +kernel
theorem quote_elem (c : UInt8) : elemS (quoteB c) = some (c, (quoteB c).length) ∧ (quoteB c).head? ≠ some 34 ∧ (quoteB c).all (fun c => decide (32 ≤ c.toNat ∧ c.toNat ≤ 126)) = true ∧ (quoteB c).length ≤ 4 := by
 have := quote_fin ⟨c.toNat, c.toNat_lt⟩
 simpa using this
theorem quote_len (s : List UInt8) : (quoteS s).length ≤ 4 * s.length + 2 := by
 have : ∀ l : List UInt8, ((l.map quoteB).flatten).length ≤ 4 * l.length := by
  intro l
  induction l with
  | nil => simp
  | cons c l ih =>
   have := (quote_elem c).2.2.2
   simp only [List.map_cons, List.flatten_cons, List.length_append, List.length_cons] at ih ⊢
   omega
 have := this s
 unfold quoteS
 simp only [List.cons_append, List.length_cons, List.length_append, List.length_nil]
 omega
end Go.Proofs.YtdhmeganlnpohaaGreatDoor
namespace Go.Proofs.YtdhmeganlnpohaaGreatDoor
open Go.RowKit Go.Shelf
theorem below_drewN {B : Nat} {w w' : World} (h : Below B w w') (n : Nat) : Below B w (w'.drewN n) := ⟨h.os, h.tape, h.output, h.size, h.block⟩
theorem quote_plain_fin : ∀ n : Fin 256, plainB (UInt8.ofNat n.val) = true → Utf8.encode (wrap32 ((UInt8.ofNat n.val).toNat : Int)) = (⟨(quoteB (UInt8.ofNat n.val)).toArray⟩ : ByteArray) := by decide +kernel
theorem quote_plain1 (c : UInt8) (h : plainB c = true) : Utf8.encode (wrap32 (c.toNat : Int)) = (⟨(quoteB c).toArray⟩ : ByteArray) := by
 have := quote_plain_fin ⟨c.toNat, c.toNat_lt⟩
 simpa [h] using this
def hexDigits : ByteArray := ⟨#[48, 49, 50, 51, 52, 53, 54, 55, 56, 57, 97, 98, 99, 100, 101, 102]⟩
theorem quote_hex_fin : ∀ n : Fin 256, plainB (UInt8.ofNat n.val) = false → n.val ≠ 34 → n.val ≠ 92 → n.val ≠ 10 → n.val ≠ 9 → (⟨#[92, 120]⟩ ++ hexDigits.extract (n.val / 16) (n.val / 16 + 1) ++ hexDigits.extract (n.val % 16) (n.val % 16 + 1) : ByteArray) = (⟨(quoteB (UInt8.ofNat n.val)).toArray⟩ : ByteArray) := by decide +kernel
theorem quote_hex1 (c : UInt8) (h : plainB c = false) (h1 : c.toNat ≠ 34) (h2 : c.toNat ≠ 92) (h3 : c.toNat ≠ 10) (h4 : c.toNat ≠ 9) :
  (⟨#[92, 120]⟩ ++ (⟨#[48, 49, 50, 51, 52, 53, 54, 55, 56, 57, 97, 98, 99, 100, 101, 102]⟩ : ByteArray).extract (c.toNat / 16) (c.toNat / 16 + 1) ++ (⟨#[48, 49, 50, 51, 52, 53, 54, 55, 56, 57, 97, 98, 99, 100, 101, 102]⟩ : ByteArray).extract (c.toNat % 16) (c.toNat % 16 + 1) : ByteArray) = (⟨(quoteB c).toArray⟩ : ByteArray) := by
 have := quote_hex_fin ⟨c.toNat, c.toNat_lt⟩
 simp only [UInt8.ofNat_toNat] at this
 exact this h h1 h2 h3 h4
set_option maxHeartbeats 1000000 in
theorem quoteByte_any (c : UInt8) (w : World) :
  Calls Tryz.prog 171 #[.int .u8 c.toNat] w fun e w' => e = .returned (.string ⟨(quoteB c).toArray⟩) ∧ Below w.heap.size w w' := by
 obtain ⟨q, hq⟩ : ∃ q, plainB c = q := ⟨_, rfl⟩
 have HQ := Lib.hid hq
 have cP := fun w => isPlain_any c w
 simp only [hq] at cP
 have CP := Lib.hid cP
 clear hq cP
 go_enter Tryz.func171, Tryz.ntmps171
 go_wp2_with fail
 refine (CP.out _).mono ?_
 rintro e w2 ⟨rfl, rfl⟩
 cases q
 ·by_cases h34 : (c.toNat : Int) = 34
  ·obtain rfl := u8_is (n := 34) (by omega) h34
   go_wp2
   go_ret
   exact ⟨by rfl, Below.refl _ _⟩
  ·by_cases h92 : (c.toNat : Int) = 92
   ·obtain rfl := u8_is (n := 92) (by omega) h92
    go_wp2
    go_ret
    exact ⟨by rfl, Below.refl _ _⟩
   ·by_cases h10 : (c.toNat : Int) = 10
    ·obtain rfl := u8_is (n := 10) (by omega) h10
     go_wp2
     go_ret
     exact ⟨by rfl, Below.refl _ _⟩
    ·by_cases h9 : (c.toNat : Int) = 9
     ·obtain rfl := u8_is (n := 9) (by omega) h9
      go_wp2
      go_ret
      exact ⟨by rfl, Below.refl _ _⟩
     ·have hlt : c.toNat < 256 := c.toNat_lt
      obtain ⟨a, ha⟩ : ∃ a : Nat, c.toNat / 16 = a := ⟨_, rfl⟩
      obtain ⟨b, hb⟩ : ∃ b : Nat, c.toNat % 16 = b := ⟨_, rfl⟩
      have ha16 : a < 16 := by omega
      have hb16 : b < 16 := by omega
      have w1 : IntKind.u8.wrap ((c.toNat : Int) / 16) = (a : Int) := by rw [IntWalk.u8_in _ (by omega)]; omega
      have w2 : IntKind.u8.wrap ((c.toNat : Int) % 16) = (b : Int) := by rw [IntWalk.u8_in _ (by omega)]; omega
      have w2t : IntKind.u8.wrap ((c.toNat : Int).tmod 16) = (b : Int) := by rw [Int.tmod_eq_emod_of_nonneg (by omega)]; exact w2
      have w3 : IntKind.u8.wrap ((a : Int) + 1) = (a : Int) + 1 := IntWalk.u8_in _ (by omega)
      have w4 : IntKind.u8.wrap ((b : Int) + 1) = (b : Int) + 1 := IntWalk.u8_in _ (by omega)
      have p1 : (0 : Int) ≤ (a : Int) := by omega
      have p2 : (0 : Int) ≤ (b : Int) := by omega
      have p3 : (a : Int) ≤ (a : Int) + 1 := by omega
      have p4 : (b : Int) ≤ (b : Int) + 1 := by omega
      have p5 : (a : Int) + 1 ≤ 16 := by omega
      have p6 : (b : Int) + 1 ≤ 16 := by omega
      have t1 : ((a : Int) + 1).toNat = a + 1 := by omega
      have t2 : ((b : Int) + 1).toNat = b + 1 := by omega
      have p7 : (0 : Int) ≤ (a : Int) + 1 := by omega
      have p8 : (0 : Int) ≤ (b : Int) + 1 := by omega
      have HA := Lib.hid ha
      have HB := Lib.hid hb
      clear ha hb
      go_wp2_with fail
      go_quiet (fail)
      all_goals go_wp2
      all_goals go_ret
      all_goals exact ⟨ret_str (by rw [← HA.out]; exact quote_hex1 c HQ.out (by omega) (by omega) (by omega) (by omega)), below_drewN (Below.refl _ _) _⟩
 ·go_wp2
  go_ret
  have hc : Utf8.encode (wrap32 (c.toNat : Int)) = (⟨(quoteB c).toArray⟩ : ByteArray) := quote_plain1 c HQ.out
  exact ⟨ret_str hc, Below.refl _ _⟩
def bodyS (l : List UInt8) : List UInt8 := 34 :: (l.map quoteB).flatten
theorem bodyS_next (s : ByteArray) (k : Nat) (h : k < s.size) : bodyS (s.data.toList.take (k + 1)) = bodyS (s.data.toList.take k) ++ quoteB s[k] := by
 have hk : k < s.data.toList.length := by rw [← Lib.size_eq]; exact h
 unfold bodyS
 rw [List.take_succ_eq_append_getElem hk, List.map_append, List.flatten_append, List.map_cons, List.map_nil, List.flatten_cons, List.flatten_nil, List.append_nil, List.cons_append]
 rfl
theorem bodyS_len (s : ByteArray) (k : Nat) : (bodyS (s.data.toList.take k)).length ≤ 4 * s.size + 1 := by
 have h1 := quote_len (s.data.toList.take k)
 have h2 : (s.data.toList.take k).length ≤ s.size := by rw [Lib.size_eq]; exact List.length_take_le' _ _
 unfold quoteS at h1
 unfold bodyS
 simp only [List.length_append, List.length_cons, List.length_nil] at h1 ⊢
 omega
set_option maxHeartbeats 2000000 in
theorem quote_any (s : ByteArray) (w : World) (hs : s.size ≤ 35184372088000) :
  Calls Tryz.prog 120 #[.string s] w fun e w' => e = .returned (.string ⟨(quoteS s.data.toList).toArray⟩) ∧ Below w.heap.size w w' := by
 have hB0 := Lib.fresh_isBuilder 193 5 w
 have hw0 : w.heap.size ≤ (w.alloc (.cells #[.pointer none, .slice none 0 0] 193)).heap.size := by simp
 have HB0 := Lib.hid hB0
 clear hB0
 go_enter Tryz.func120, Tryz.ntmps120
 go_wp2_with fail
 refine (writeByte_c w.heap.size w.heap.size [] 34 34 rfl _ HB0.out (by simp) hw0).mono ?_
 rintro e w1 ⟨rfl, h1, hb1⟩
 have hb1' := ((Below.refl w.heap.size w).alloc (Nat.le_refl _) (.cells #[.pointer none, .slice none 0 0] 193)).trans hb1
 have H1 := Lib.hid h1
 clear h1 hb1
 go_wp2
 go_loopw [8] (fun i wr => ∃ k : Nat, k ≤ s.size ∧ i = .int .i64 k ∧ Lib.IsBuilder 193 5 w.heap.size w.heap.size (Lib.byteCells (bodyS (s.data.toList.take k))) wr ∧ Below w.heap.size w wr)
  (fun i _ => s.size - (intOf i).toNat)
 case atStart => exact ⟨0, Nat.zero_le _, rfl, H1.out, hb1'⟩
 case round =>
  obtain ⟨k, hk, rfl, hbu, hnx⟩ := hrel
  obtain ⟨cur, hcur⟩ : ∃ cur, bodyS (s.data.toList.take k) = cur := ⟨_, rfl⟩
  have hle := bodyS_len s k
  rw [hcur] at hbu hle
  have HCUR := Lib.hid hcur
  have HBU := Lib.hid hbu
  have hsz := hnx.size
  clear hcur hbu
  by_cases hlt : k < s.size
  ·have hnext := bodyS_next s k hlt
   rw [HCUR.out] at hnext
   have HN := Lib.hid hnext
   obtain ⟨c, hc⟩ : ∃ c, s[k] = c := ⟨_, rfl⟩
   rw [hc] at hnext
   have HN := Lib.hid hnext
   have hq4 := (quote_elem c).2.2.2
   clear hnext
   go_wp2_with fail
   refine (quoteByte_any _ _).mono ?_
   rintro e w2 ⟨rfl, hb2⟩
   have h2 := builder_below HBU.out hb2
   have s2 := hb2.size
   have H2 := Lib.hid h2
   clear h2
   have hn2 := hnx.trans (hb2.mono hsz)
   clear hb2
   go_wp2_with fail
   refine (writeString_c w.heap.size w.heap.size cur _ w2 H2.out (by simp only [ByteArray.size, List.size_toArray]; omega) (by omega)).mono ?_
   rintro e w3 ⟨rfl, h3, hb3⟩
   have hn3 := hn2.trans hb3
   have H3 := Lib.hid h3
   clear h3 hb3
   go_wp2
   go_roundw
   case rel => exact ⟨k + 1, by omega, by go_num, by rw [HN.out]; exact H3.out, hn3⟩
   case measure => simp [intOf]; omega
  ·have hkk : (k : Int) = (s.size : Int) := by omega
   have hfull : quoteS s.data.toList = cur ++ [34] := by rw [← HCUR.out, List.take_of_length_le (by rw [← Lib.size_eq]; omega)]; rfl
   have HF := Lib.hid hfull
   clear hfull
   go_wp2_with fail
   refine (writeByte_c w.heap.size w.heap.size cur 34 34 rfl wr HBU.out (by omega) hsz).mono ?_
   rintro e w2 ⟨rfl, h2, hb2⟩
   have hn2 := hnx.trans hb2
   have H2 := Lib.hid h2
   clear h2 hb2
   go_wp2_with fail
   refine (builderString_c w.heap.size w.heap.size (cur ++ [34]) w2 H2.out hn2.size).mono ?_
   rintro e w3 ⟨rfl, hb3⟩
   go_wp2
   go_ret
   exact ⟨ret_str (by rw [HF.out]), hn2.trans hb3⟩
end Go.Proofs.YtdhmeganlnpohaaGreatDoor
namespace Go.Proofs.YtdhmeganlnpohaaGreatDoor
open Go.RowKit Go.Shelf Go.Sort
set_option maxHeartbeats 1000000 in
theorem opName_any (op : Int) (p : Nat) (w : World) (hg : GP p w) :
  Calls Tryz.prog 123 #[.int .i64 op] w fun e w' => e = .returned (.string ⟨(opTx op).toArray⟩) ∧ w = w' := by
 by_cases h0 : op < 0
 ·have hr : (⟨(opTx op).toArray⟩ : ByteArray) = ⟨#[]⟩ := by unfold opTx; rw [if_pos (.inl h0)]
  rw [hr]
  clear hr hg
  go_enter Tryz.func123, Tryz.ntmps123
  go_wp2
  go_ret
  exact ⟨rfl, rfl⟩
 ·by_cases h10 : 10 ≤ op
  ·have hr : (⟨(opTx op).toArray⟩ : ByteArray) = ⟨#[]⟩ := by unfold opTx; rw [if_pos (.inr h10)]
   rw [hr]
   clear hr hg
   go_enter Tryz.func123, Tryz.ntmps123
   go_wp2
   go_ret
   exact ⟨rfl, rfl⟩
  ·obtain ⟨k, rfl⟩ : ∃ k : Nat, op = (k : Int) := ⟨op.toNat, by omega⟩
   obtain ⟨x, hx⟩ : ∃ x, opTab[k]? = some x := ⟨opTab[k]'(by simp [opTab]; omega), List.getElem?_eq_getElem _⟩
   have hc := hg.ops k x hx
   have hr : (⟨(opTx (k : Int)).toArray⟩ : ByteArray) = ⟨x.toArray⟩ := by unfold opTx; rw [if_neg (by omega), Int.toNat_natCast, List.getD_eq_getElem?_getD, hx]; rfl
   rw [hr]
   obtain ⟨X, hX⟩ : ∃ X : ByteArray, (⟨x.toArray⟩ : ByteArray) = X := ⟨_, rfl⟩
   rw [hX] at hc ⊢
   clear hr hg hX hx
   go_enter Tryz.func123, Tryz.ntmps123
   go_wp2
   go_ret
   exact ⟨rfl, rfl⟩
def OwnStrs (B : Nat) (w : World) (v : Value) (xs : List ByteArray) : Prop := w.ownsRow B 9 1 v xs.length (xs.map Value.string)
def CloneSPost (w : World) (xs : List ByteArray) (e : Ending) (w' : World) : Prop := ∃ v, e = .returned v ∧ ((xs = [] ∧ v = .slice none 0 0) ∨ (∃ g c, v = .slice (some ⟨g, 0, none⟩) xs.length c ∧ OwnStrs w.heap.size w' v xs)) ∧ Below w.heap.size w w'
theorem strsA_shape {Av : Nat → Prop} {w : World} {v : Value} {xs : List ByteArray} (h : StrsA Av w v xs) : ∃ a c, v = .slice a xs.length c ∧ xs.length ≤ c ∧ c ≤ maxLen ∧ (xs ≠ [] → ∃ b o, a = some ⟨b, o, none⟩ ∧ b < w.heap.size ∧ ∀ (j : Nat) x, xs[j]? = some x → w.cell? ⟨b, o + j, none⟩ = some (.string x)) := by
 obtain ⟨⟨a, c, rfl, h1, h2, h3⟩, _⟩ := h
 rw [strRows_length] at h1
 refine ⟨a, c, by rw [strRows_length], h1, h2, fun hne => ?_⟩
 obtain ⟨b, o, ha, hb, hc⟩ := h3 (by intro e; apply hne; have := congrArg List.length e; rw [strRows_length] at this; exact List.eq_nil_of_length_eq_zero this)
 refine ⟨b, o, ha, hb, fun j x hx => ?_⟩
 have := hc j [.string x] (by unfold strRows; rw [List.getElem?_map, hx]; rfl) 0 (.string x) rfl
 simpa using this
theorem StrsA.isStrs {Av : Nat → Prop} {w : World} {v : Value} {xs : List ByteArray} (h : StrsA Av w v xs) : IsStrs w v xs := strsA_shape h
set_option maxHeartbeats 2000000 in
set_option maxRecDepth 100000 in
theorem cloneS_any (v : Value) (xs : List ByteArray) (w : World) (h : IsStrs w v xs) (hn : xs.length ≤ 8796093022208) :
  Calls Tryz.prog 280 #[v] w (CloneSPost w xs) := by
 obtain ⟨a, c, rfl, h1, h1m, h2⟩ := h
 obtain ⟨i0, hi, hz0, hz1, hz2⟩ := info_parts info_str
 cases a with
 | none =>
  have hfs : xs = [] := by
   rcases xs with _ | ⟨f, fs⟩
   ·rfl
   ·obtain ⟨b, o, ha, _⟩ := h2 (by simp)
    cases ha
  subst hfs
  have hq : ∀ w, (Go.binOp .eql 22 (.slice none 0 c) (.slice none 0 0)).run Tryz.prog w = .ok (.bool true) w := fun w => Lib.run_eql_slice_nil w 22 9 none 0 c 0 0 Tryz.underlying22
  go_enter Tryz.func280, Tryz.ntmps280
  go_wp2
  go_ret
  exact ⟨_, rfl, .inl ⟨rfl, rfl⟩, Below.refl _ _⟩
 | some ad =>
  obtain ⟨ab, ao, asp⟩ := ad
  have hq : ∀ w, (Go.binOp .eql 22 (.slice (some ⟨ab, ao, asp⟩) xs.length c) (.slice none 0 0)).run Tryz.prog w = .ok (.bool false) w := fun w => Lib.run_eql_slice_nil w 22 9 _ _ _ _ _ Tryz.underlying22
  have hcells : ∀ j u, (xs.map Value.string)[j]? = some u → w.cell? ((⟨ab, ao, asp⟩ : Addr).add j) = some u := by
   intro j u hu
   rw [List.getElem?_map] at hu
   obtain ⟨x, hx, rfl⟩ := Option.map_eq_some_iff.1 hu
   obtain ⟨b, o, ha, _, hc⟩ := h2 (by rintro rfl; simp at hx)
   cases ha
   rw [Addr.add_lit]
   exact hc j x hx
  have HC := Lib.hid hcells
  clear hcells h2
  go_enter Tryz.func280, Tryz.ntmps280
  go_wp2_with (at_builtin; refine wpList_append_own _ rfl _ _ 22 rfl w.heap.size 9 i0 _ 1 16 Tryz.underlying22 hi hz0 hz1 hz2 rfl (by decide) _ _ _ rfl (World.ownsRow_made w #[] 0 (Nat.le_refl _) (Nat.zero_le _) (by simp)) ⟨ab, ao, asp⟩ xs.length c (xs.map Value.string) rfl ?qc1 ?qc2 ?qc3 ?qc4 ?qc5 ?qc6 ?_)
  case qc1 => simp
  case qc2 =>
   intro j u hj
   exact Lib.cell?_alloc_some _ (HC.out j u hj)
  case qc3 =>
   intro u hu
   obtain ⟨x, _, rfl⟩ := List.mem_map.1 hu
   rfl
  case qc4 => unfold maxLen; omega
  case qc5 => omega
  case qc6 => simp
  intro v' w1 hown hgrow hnil
  go_wp2
  go_ret
  have hb : Below w.heap.size w w1 := ((Below.refl _ w).alloc (Nat.le_refl _) _).grown hgrow (by simp) (by intro k hk; simp [Value.ownBlock] at hk; omega)
  refine ⟨_, rfl, ?_, hb⟩
  have hown' : OwnStrs w.heap.size w1 v' xs := by unfold OwnStrs; simpa using hown
  rcases hown'.2 with ⟨hv, h0⟩ | ⟨g, cap, cur, hv, _⟩
  ·exact .inl ⟨List.eq_nil_of_length_eq_zero h0, hv⟩
  ·exact .inr ⟨g, cap, hv, hown'⟩
theorem enc_map (xs : List ByteArray) : (xs.map (·.data.toList)).map encStr = xs.map Value.string := by
 rw [List.map_map]
 exact List.map_congr_left fun x _ => by simp [encStr]
theorem enc_srt (xs : List ByteArray) : (srtL (xs.map (·.data.toList))).map encStr = (srtB xs).map Value.string := by
 unfold srtB
 rw [List.map_map]
 exact List.map_congr_left fun x _ => by simp [encStr]
theorem e190 : nmRen.f 190 = 96 := by kernel_rfl
set_option maxRecDepth 100000 in
theorem sortS_c (B g c : Nat) (xs : List ByteArray) (w : World) (h : OwnStrs B w (.slice (some ⟨g, 0, none⟩) xs.length c) xs) (hn : xs.length ≤ 8796093022208) :
  Calls Tryz.prog 96 #[.slice (some ⟨g, 0, none⟩) xs.length c] w fun e w' => e = .returned (.tuple #[]) ∧ OwnStrs B w' (.slice (some ⟨g, 0, none⟩) xs.length c) (srtB xs) ∧ w.grownBy w' (some g) := by
 obtain ⟨hl, ⟨hv, _⟩ | ⟨g', cap', cur, hv, hbase, hb, h1, h2, h3, h4⟩⟩ := h
 ·cases hv
 cases hv
 have hsl : (xs.map (·.data.toList)).length = xs.length := by simp
 have hH : Holds encStr w g 0 (xs.map (·.data.toList)).toArray := holds_of_block hb (by rw [hsl, enc_map]; simpa using h4)
 have hgl : g < w.heap.size := (Array.getElem?_eq_some_iff.1 hb).1
 have hz : (xs.map (·.data.toList)).length < 4611686018427387904 := by rw [hsl]; omega
 have hd := fun D : Nat => AnyS.slices_Sort_string_in lLays_n190 D g 0 c (xs.map (·.data.toList)) w hH hgl hz
 have hc := calls_of_every_depth hd
 rw [e190, hsl] at hc
 refine hc.mono ?_
 rintro e w' ⟨rfl, n, os, rfl⟩
 refine ⟨rfl, ?_, grownBy_sorted _⟩
 have := ownsRow_sorted (n := n) (os := os) (ts := srtL (xs.map (·.data.toList))) (ss := xs.map (·.data.toList)) (cap := c) (srtL_len _) hbase hb (by rw [hsl]; exact h1) h2 h3
 rw [enc_srt, hsl] at this
 unfold OwnStrs
 rw [srtB_len]
 exact this
theorem sortS_none (a : Option Addr) (c : Nat) (w : World) : Calls Tryz.prog 96 #[.slice a 0 c] w fun e w' => e = .returned (.tuple #[]) ∧ w' = w :=
 by
 have := Any.slices_Sort_string_none lLays_n190 a c w
 rwa [e190] at this
def SortedPost (w : World) (xs : List ByteArray) (e : Ending) (w' : World) : Prop := ∃ v, e = .returned v ∧ IsStrs w' v (srtB xs) ∧ StrsA (fun b => b < w.heap.size) w' v (srtB xs) ∧ Below w.heap.size w w'
set_option maxHeartbeats 2000000 in
theorem sortedNames_any (v : Value) (xs : List ByteArray) (w : World) (h : IsStrs w v xs) (hn : xs.length ≤ 8796093022208) :
  Calls Tryz.prog 234 #[v] w (SortedPost w xs) := by
 have cC := cloneS_any v xs w h hn
 obtain ⟨a, c, rfl, h1, h1m, h2⟩ := h
 clear h2
 go_enter Tryz.func234, Tryz.ntmps234
 go_wp2_with fail
 refine cC.mono ?_
 rintro e w2 ⟨v2, rfl, hv, hb2⟩
 clear cC
 rcases hv with ⟨rfl, rfl⟩ | ⟨g, c2, rfl, hown⟩
 ·go_wp2_with fail
  refine (sortS_none _ _ _).mono ?_
  rintro e w3 ⟨rfl, rfl⟩
  go_wp2
  go_ret
  have hA : StrsA (fun b => b < w.heap.size) w3 (.slice none 0 0) (srtB []) := by
   have h1 : srtB [] = [] := by simp [srtB, srtL]
   rw [h1]
   exact rowA_nil _ _ _
  exact ⟨_, rfl, hA.isStrs, hA, hb2⟩
 ·have cS := sortS_c w.heap.size g c2 xs w2 hown hn
  have HB := Lib.hid hb2
  have hg := (hown.lt g rfl).1
  clear hown hb2
  go_wp2_with fail
  refine cS.mono ?_
  rintro e w3 ⟨rfl, hown3, hgr⟩
  go_wp2
  go_ret
  have hA : StrsA (fun b => b < w.heap.size) w3 (.slice (some ⟨g, 0, none⟩) (srtB xs).length c2) (srtB xs) := by
   refine strsA_own (t := 9) ?_
   rw [srtB_len]
   unfold OwnStrs at hown3
   rw [srtB_len] at hown3
   exact hown3
  rw [srtB_len] at hA
  exact ⟨_, rfl, hA.isStrs, hA, HB.out.grown hgr HB.out.size (fun k hk => by cases hk; exact hg)⟩
end Go.Proofs.YtdhmeganlnpohaaGreatDoor
