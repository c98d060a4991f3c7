/- What is printed, as plain functions; no program is spoken of. Contracts of package lex: quoteByte, Quote. Contracts of package print: names sorted, a clause; of package parse: OpName. Contracts of package print: a clause, a step. Contract of package print: Rule. Lists of steps and of rules of one's own; contract of package print: cloneSteps. Contract of package print: sortedRule; lists of rules of one's own. Lists of rules of one's own; contracts of package print: Sorted and File at no rule and at one. A builder whose cell lies apart from its bytes: what a write leaves as it was. Contract of package print: File (the sort handed in). Contract of package print: Eq, where both lists are the same. -/
import Derived.Test.YtlmnabhhgplhnaaGreatDoorMpar
import Derived.Lib.Join
import Derived.Test.YtlmnabhhgplhnaaGreatDoorMlex
import Derived.Test.YtlmnabhhgplhnaaGreatDoorMwalk
import Derived.Test.YtlmnabhhgplhnaaGreatDoorMpln
import Derived.Shelf.Sort.AssemblysIn
import Derived.Shelf.Slices.In.SortNone
import Derived.Sort.EveryDepth
import Derived.Sort.OwnSorted
import Derived.Laws.OwnMore
import Derived.Deep.RegionHeld3
import Derived.Lib.AppendStr
namespace Go.Proofs.YtlmnabhhgplhnaaGreatDoor

def srtL (xs : List (List UInt8)) : List (List UInt8) := xs.mergeSort fun x y => decide (x ≤ y)
def srtB (xs : List ByteArray) : List ByteArray := (srtL (xs.map (·.data.toList))).map fun l => ⟨l.toArray⟩
theorem srtL_len (xs : List (List UInt8)) : (srtL xs).length = xs.length := List.length_mergeSort xs
theorem srtB_data (xs : List ByteArray) : (srtB xs).map (·.data.toList) = srtL (xs.map (·.data.toList)) := by
  unfold srtB
  rw [List.map_map]
  exact List.map_id'' (fun l => by simp) _
theorem srtB_len (xs : List ByteArray) : (srtB xs).length = xs.length := by unfold srtB; rw [List.length_map, srtL_len, List.length_map]
def opTx (op : Int) : List UInt8 := if op < 0 ∨ 10 ≤ op then [] else opTab.getD op.toNat []
/-- The words of a step. -/
def stepWs (x : StepS) : List ByteArray := [x.out, ⟨#[61]⟩, ⟨(opTx x.op).toArray⟩] ++ (if x.op = 9 then [⟨(Lib.itoa x.n).toArray⟩] else []) ++ x.lits.map (fun l => (⟨(quoteS l.data.toList).toArray⟩ : ByteArray)) ++ x.args
def stepTx (x : StepS) : List UInt8 := Lib.join ((stepWs x).map (·.data.toList)) [32] ++ [59]
def clauseTx (key : List UInt8) (xs : List ByteArray) : List UInt8 := if xs = [] then [] else [32, 32] ++ key ++ [32] ++ Lib.join (srtL (xs.map (·.data.toList))) [44, 32] ++ [59, 10]
def stepLn (x : StepS) : List UInt8 := [32, 32] ++ stepTx x ++ [10]
def headTx (r : RuleS) : List UInt8 := [114, 117, 108, 101, 32] ++ r.name.data.toList ++ [32, 123, 10]
def upTx (r : RuleS) : List UInt8 := headTx r ++ clauseTx [105, 110] r.ins ++ clauseTx [111, 117, 116] r.outs ++ clauseTx [97, 102, 116, 101, 114] r.after
def ruleTx (r : RuleS) : List UInt8 := upTx r ++ (r.steps.map stepLn).flatten ++ [125, 10]
def sortR (r : RuleS) : RuleS := ⟨r.name, srtB r.ins, srtB r.outs, srtB r.after, r.steps⟩
def nameLe (a b : RuleS) : Bool := decide (a.name.data.toList ≤ b.name.data.toList)
def sortRs (rs : List RuleS) : List RuleS := (rs.map sortR).mergeSort nameLe
def fileTx (rs : List RuleS) : List UInt8 := ((sortRs rs).map ruleTx).flatten
/-- How long things are. -/
def lenB (xs : List ByteArray) : Nat := (xs.map (·.size)).sum
theorem lens_data (xs : List ByteArray) : Lib.lens (xs.map (·.data.toList)) = lenB xs := by
  unfold Lib.lens lenB
  rw [List.map_map]
  exact congrArg List.sum (List.map_congr_left fun x _ => (Lib.size_eq x).symm)
theorem sum_perm {xs ys : List Nat} (h : xs.Perm ys) : xs.sum = ys.sum := h.sum_nat
theorem lens_srt (xs : List (List UInt8)) : Lib.lens (srtL xs) = Lib.lens xs := by
  unfold Lib.lens srtL
  exact ((List.mergeSort_perm xs _).map _).sum_nat
theorem join_len (xs : List (List UInt8)) (sep : List UInt8) : (Lib.join xs sep).length ≤ Lib.lens xs + sep.length * xs.length := by
  cases xs with
  | nil => simp [Lib.join_nil]
  | cons x r =>
    rw [Lib.join_cons, List.length_append, Lib.joinTail_length]
    simp only [Lib.lens, List.map_cons, List.sum_cons, List.length_cons, Nat.mul_succ]
    omega
end Go.Proofs.YtlmnabhhgplhnaaGreatDoor
namespace Go.Proofs.YtlmnabhhgplhnaaGreatDoor
open Go.RowKit Go.Shelf

theorem below_drewN {B : Nat} {w w' : World} (h : Below B w w') (n : Nat) : Below B w (w'.drewN n) := ⟨h.os, h.tape, h.output, h.size, h.block⟩
theorem quote_plain_fin : ∀ n : Fin 256, plainB (UInt8.ofNat n.val) = true → Utf8.encode (wrap32 ((UInt8.ofNat n.val).toNat : Int)) = (⟨(quoteB (UInt8.ofNat n.val)).toArray⟩ : ByteArray) := by decide +kernel
theorem quote_plain1 (c : UInt8) (h : plainB c = true) : Utf8.encode (wrap32 (c.toNat : Int)) = (⟨(quoteB c).toArray⟩ : ByteArray) := by
  have := quote_plain_fin ⟨c.toNat, c.toNat_lt⟩
  simpa [h] using this

def hexDigits : ByteArray := ⟨#[48, 49, 50, 51, 52, 53, 54, 55, 56, 57, 97, 98, 99, 100, 101, 102]⟩
theorem quote_hex_fin : ∀ n : Fin 256, plainB (UInt8.ofNat n.val) = false → n.val ≠ 34 → n.val ≠ 92 → n.val ≠ 10 → n.val ≠ 9 → (⟨#[92, 120]⟩ ++ hexDigits.extract (n.val / 16) (n.val / 16 + 1) ++ hexDigits.extract (n.val % 16) (n.val % 16 + 1) : ByteArray) = (⟨(quoteB (UInt8.ofNat n.val)).toArray⟩ : ByteArray) := by decide +kernel
theorem quote_hex1 (c : UInt8) (h : plainB c = false) (h1 : c.toNat ≠ 34) (h2 : c.toNat ≠ 92) (h3 : c.toNat ≠ 10) (h4 : c.toNat ≠ 9) :
    (⟨#[92, 120]⟩ ++ (⟨#[48, 49, 50, 51, 52, 53, 54, 55, 56, 57, 97, 98, 99, 100, 101, 102]⟩ : ByteArray).extract (c.toNat / 16) (c.toNat / 16 + 1) ++ (⟨#[48, 49, 50, 51, 52, 53, 54, 55, 56, 57, 97, 98, 99, 100, 101, 102]⟩ : ByteArray).extract (c.toNat % 16) (c.toNat % 16 + 1) : ByteArray) = (⟨(quoteB c).toArray⟩ : ByteArray) := by
  have := quote_hex_fin ⟨c.toNat, c.toNat_lt⟩
  simp only [UInt8.ofNat_toNat] at this
  exact this h h1 h2 h3 h4

set_option maxHeartbeats 1000000 in
theorem quoteByte_any (c : UInt8) (w : World) :
    Calls Tryz.prog 41 #[.int .u8 c.toNat] w fun e w' => e = .returned (.string ⟨(quoteB c).toArray⟩) ∧ Below w.heap.size w w' := by
  obtain ⟨q, hq⟩ : ∃ q, plainB c = q := ⟨_, rfl⟩
  have HQ := Lib.hid hq
  have cP := fun w => isPlain_any c w
  simp only [hq] at cP
  have CP := Lib.hid cP
  clear hq cP
  go_enter Tryz.func41, Tryz.ntmps41
  go_wp2_with fail
  refine (CP.out _).mono ?_
  rintro e w2 ⟨rfl, rfl⟩
  cases q
  · by_cases h34 : (c.toNat : Int) = 34
    · obtain rfl := u8_is (n := 34) (by omega) h34
      go_wp2
      go_ret
      exact ⟨by rfl, Below.refl _ _⟩
    · by_cases h92 : (c.toNat : Int) = 92
      · obtain rfl := u8_is (n := 92) (by omega) h92
        go_wp2
        go_ret
        exact ⟨by rfl, Below.refl _ _⟩
      · by_cases h10 : (c.toNat : Int) = 10
        · obtain rfl := u8_is (n := 10) (by omega) h10
          go_wp2
          go_ret
          exact ⟨by rfl, Below.refl _ _⟩
        · by_cases h9 : (c.toNat : Int) = 9
          · obtain rfl := u8_is (n := 9) (by omega) h9
            go_wp2
            go_ret
            exact ⟨by rfl, Below.refl _ _⟩
          · have hlt : c.toNat < 256 := c.toNat_lt
            obtain ⟨a, ha⟩ : ∃ a : Nat, c.toNat / 16 = a := ⟨_, rfl⟩
            obtain ⟨b, hb⟩ : ∃ b : Nat, c.toNat % 16 = b := ⟨_, rfl⟩
            have ha16 : a < 16 := by omega
            have hb16 : b < 16 := by omega
            have w1 : IntKind.u8.wrap ((c.toNat : Int) / 16) = (a : Int) := by rw [IntWalk.u8_in _ (by omega)]; omega
            have w2 : IntKind.u8.wrap ((c.toNat : Int) % 16) = (b : Int) := by rw [IntWalk.u8_in _ (by omega)]; omega
            have w2t : IntKind.u8.wrap ((c.toNat : Int).tmod 16) = (b : Int) := by rw [Int.tmod_eq_emod_of_nonneg (by omega)]; exact w2
            have w3 : IntKind.u8.wrap ((a : Int) + 1) = (a : Int) + 1 := IntWalk.u8_in _ (by omega)
            have w4 : IntKind.u8.wrap ((b : Int) + 1) = (b : Int) + 1 := IntWalk.u8_in _ (by omega)
            have p1 : (0 : Int) ≤ (a : Int) := by omega
            have p2 : (0 : Int) ≤ (b : Int) := by omega
            have p3 : (a : Int) ≤ (a : Int) + 1 := by omega
            have p4 : (b : Int) ≤ (b : Int) + 1 := by omega
            have p5 : (a : Int) + 1 ≤ 16 := by omega
            have p6 : (b : Int) + 1 ≤ 16 := by omega
            have t1 : ((a : Int) + 1).toNat = a + 1 := by omega
            have t2 : ((b : Int) + 1).toNat = b + 1 := by omega
            have p7 : (0 : Int) ≤ (a : Int) + 1 := by omega
            have p8 : (0 : Int) ≤ (b : Int) + 1 := by omega
            have HA := Lib.hid ha
            have HB := Lib.hid hb
            clear ha hb
            go_wp2_with fail
            go_quiet (fail)
            all_goals go_wp2
            all_goals go_ret
            all_goals exact ⟨ret_str (by rw [← HA.out]; exact quote_hex1 c HQ.out (by omega) (by omega) (by omega) (by omega)), below_drewN (Below.refl _ _) _⟩
  · go_wp2
    go_ret
    have hc : Utf8.encode (wrap32 (c.toNat : Int)) = (⟨(quoteB c).toArray⟩ : ByteArray) := quote_plain1 c HQ.out
    exact ⟨ret_str hc, Below.refl _ _⟩

def bodyS (l : List UInt8) : List UInt8 := 34 :: (l.map quoteB).flatten
theorem bodyS_next (s : ByteArray) (k : Nat) (h : k < s.size) : bodyS (s.data.toList.take (k + 1)) = bodyS (s.data.toList.take k) ++ quoteB s[k] := by
  have hk : k < s.data.toList.length := by rw [← Lib.size_eq]; exact h
  unfold bodyS
  rw [List.take_succ_eq_append_getElem hk, List.map_append, List.flatten_append, List.map_cons, List.map_nil, List.flatten_cons, List.flatten_nil, List.append_nil, List.cons_append]
  rfl
theorem bodyS_len (s : ByteArray) (k : Nat) : (bodyS (s.data.toList.take k)).length ≤ 4 * s.size + 1 := by
  have h1 := quote_len (s.data.toList.take k)
  have h2 : (s.data.toList.take k).length ≤ s.size := by rw [Lib.size_eq]; exact List.length_take_le' _ _
  unfold quoteS at h1
  unfold bodyS
  simp only [List.length_append, List.length_cons, List.length_nil] at h1 ⊢
  omega

set_option maxHeartbeats 2000000 in
theorem quote_any (s : ByteArray) (w : World) (hs : s.size ≤ 35184372088000) :
    Calls Tryz.prog 16 #[.string s] w fun e w' => e = .returned (.string ⟨(quoteS s.data.toList).toArray⟩) ∧ Below w.heap.size w w' := by
  have hB0 := Lib.fresh_isBuilder 60 5 w
  have hw0 : w.heap.size ≤ (w.alloc (.cells #[.pointer none, .slice none 0 0] 60)).heap.size := by simp
  have HB0 := Lib.hid hB0
  clear hB0
  go_enter Tryz.func16, Tryz.ntmps16
  go_wp2_with fail
  refine (writeByte_c w.heap.size w.heap.size [] 34 34 rfl _ HB0.out (by simp) hw0).mono ?_
  rintro e w1 ⟨rfl, h1, hb1⟩
  have hb1' := ((Below.refl w.heap.size w).alloc (Nat.le_refl _) (.cells #[.pointer none, .slice none 0 0] 60)).trans hb1
  have H1 := Lib.hid h1
  clear h1 hb1
  go_wp2
  go_loopw [8] (fun i wr => ∃ k : Nat, k ≤ s.size ∧ i = .int .i64 k ∧ Lib.IsBuilder 60 5 w.heap.size w.heap.size (Lib.byteCells (bodyS (s.data.toList.take k))) wr ∧ Below w.heap.size w wr)
    (fun i _ => s.size - (intOf i).toNat)
  case atStart => exact ⟨0, Nat.zero_le _, rfl, H1.out, hb1'⟩
  case round =>
    obtain ⟨k, hk, rfl, hbu, hnx⟩ := hrel
    obtain ⟨cur, hcur⟩ : ∃ cur, bodyS (s.data.toList.take k) = cur := ⟨_, rfl⟩
    have hle := bodyS_len s k
    rw [hcur] at hbu hle
    have HCUR := Lib.hid hcur
    have HBU := Lib.hid hbu
    have hsz := hnx.size
    clear hcur hbu
    by_cases hlt : k < s.size
    · have hnext := bodyS_next s k hlt
      rw [HCUR.out] at hnext
      have HN := Lib.hid hnext
      obtain ⟨c, hc⟩ : ∃ c, s[k] = c := ⟨_, rfl⟩
      rw [hc] at hnext
      have HN := Lib.hid hnext
      have hq4 := (quote_elem c).2.2.2
      clear hnext
      go_wp2_with fail
      refine (quoteByte_any _ _).mono ?_
      rintro e w2 ⟨rfl, hb2⟩
      have h2 := builder_below HBU.out hb2
      have s2 := hb2.size
      have H2 := Lib.hid h2
      clear h2
      have hn2 := hnx.trans (hb2.mono hsz)
      clear hb2
      go_wp2_with fail
      refine (writeString_c w.heap.size w.heap.size cur _ w2 H2.out (by simp only [ByteArray.size, List.size_toArray]; omega) (by omega)).mono ?_
      rintro e w3 ⟨rfl, h3, hb3⟩
      have hn3 := hn2.trans hb3
      have H3 := Lib.hid h3
      clear h3 hb3
      go_wp2
      go_roundw
      case rel => exact ⟨k + 1, by omega, by go_num, by rw [HN.out]; exact H3.out, hn3⟩
      case measure => simp [intOf]; omega
    · have hkk : (k : Int) = (s.size : Int) := by omega
      have hfull : quoteS s.data.toList = cur ++ [34] := by rw [← HCUR.out, List.take_of_length_le (by rw [← Lib.size_eq]; omega)]; rfl
      have HF := Lib.hid hfull
      clear hfull
      go_wp2_with fail
      refine (writeByte_c w.heap.size w.heap.size cur 34 34 rfl wr HBU.out (by omega) hsz).mono ?_
      rintro e w2 ⟨rfl, h2, hb2⟩
      have hn2 := hnx.trans hb2
      have H2 := Lib.hid h2
      clear h2 hb2
      go_wp2_with fail
      refine (builderString_c w.heap.size w.heap.size (cur ++ [34]) w2 H2.out hn2.size).mono ?_
      rintro e w3 ⟨rfl, hb3⟩
      go_wp2
      go_ret
      exact ⟨ret_str (by rw [HF.out]), hn2.trans hb3⟩
end Go.Proofs.YtlmnabhhgplhnaaGreatDoor
namespace Go.Proofs.YtlmnabhhgplhnaaGreatDoor
open Go.RowKit Go.Shelf Go.Sort

set_option maxHeartbeats 1000000 in
theorem opName_any (op : Int) (p : Nat) (w : World) (hg : GP p w) :
    Calls Tryz.prog 19 #[.int .i64 op] w fun e w' => e = .returned (.string ⟨(opTx op).toArray⟩) ∧ w = w' := by
  by_cases h0 : op < 0
  · have hr : (⟨(opTx op).toArray⟩ : ByteArray) = ⟨#[]⟩ := by unfold opTx; rw [if_pos (.inl h0)]
    rw [hr]
    clear hr hg
    go_enter Tryz.func19, Tryz.ntmps19
    go_wp2
    go_ret
    exact ⟨rfl, rfl⟩
  · by_cases h10 : 10 ≤ op
    · have hr : (⟨(opTx op).toArray⟩ : ByteArray) = ⟨#[]⟩ := by unfold opTx; rw [if_pos (.inr h10)]
      rw [hr]
      clear hr hg
      go_enter Tryz.func19, Tryz.ntmps19
      go_wp2
      go_ret
      exact ⟨rfl, rfl⟩
    · obtain ⟨k, rfl⟩ : ∃ k : Nat, op = (k : Int) := ⟨op.toNat, by omega⟩
      obtain ⟨x, hx⟩ : ∃ x, opTab[k]? = some x := ⟨opTab[k]'(by simp [opTab]; omega), List.getElem?_eq_getElem _⟩
      have hc := hg.ops k x hx
      have hr : (⟨(opTx (k : Int)).toArray⟩ : ByteArray) = ⟨x.toArray⟩ := by unfold opTx; rw [if_neg (by omega), Int.toNat_natCast, List.getD_eq_getElem?_getD, hx]; rfl
      rw [hr]
      obtain ⟨X, hX⟩ : ∃ X : ByteArray, (⟨x.toArray⟩ : ByteArray) = X := ⟨_, rfl⟩
      rw [hX] at hc ⊢
      clear hr hg hX hx
      go_enter Tryz.func19, Tryz.ntmps19
      go_wp2
      go_ret
      exact ⟨rfl, rfl⟩

/-- slices.Clone at names: a row of its own. -/
def OwnStrs (B : Nat) (w : World) (v : Value) (xs : List ByteArray) : Prop := w.ownsRow B 9 1 v xs.length (xs.map Value.string)
def CloneSPost (w : World) (xs : List ByteArray) (e : Ending) (w' : World) : Prop := ∃ v, e = .returned v ∧ ((xs = [] ∧ v = .slice none 0 0) ∨ (∃ g c, v = .slice (some ⟨g, 0, none⟩) xs.length c ∧ OwnStrs w.heap.size w' v xs)) ∧ Below w.heap.size w w'

theorem strsA_shape {Av : Nat → Prop} {w : World} {v : Value} {xs : List ByteArray} (h : StrsA Av w v xs) : ∃ a c, v = .slice a xs.length c ∧ xs.length ≤ c ∧ c ≤ maxLen ∧ (xs ≠ [] → ∃ b o, a = some ⟨b, o, none⟩ ∧ b < w.heap.size ∧ ∀ (j : Nat) x, xs[j]? = some x → w.cell? ⟨b, o + j, none⟩ = some (.string x)) := by
  obtain ⟨⟨a, c, rfl, h1, h2, h3⟩, _⟩ := h
  rw [strRows_length] at h1
  refine ⟨a, c, by rw [strRows_length], h1, h2, fun hne => ?_⟩
  obtain ⟨b, o, ha, hb, hc⟩ := h3 (by intro e; apply hne; have := congrArg List.length e; rw [strRows_length] at this; exact List.eq_nil_of_length_eq_zero this)
  refine ⟨b, o, ha, hb, fun j x hx => ?_⟩
  have := hc j [.string x] (by unfold strRows; rw [List.getElem?_map, hx]; rfl) 0 (.string x) rfl
  simpa using this
theorem StrsA.isStrs {Av : Nat → Prop} {w : World} {v : Value} {xs : List ByteArray} (h : StrsA Av w v xs) : IsStrs w v xs := strsA_shape h

set_option maxHeartbeats 2000000 in
set_option maxRecDepth 100000 in
theorem cloneS_any (v : Value) (xs : List ByteArray) (w : World) (h : IsStrs w v xs) (hn : xs.length ≤ 8796093022208) :
    Calls Tryz.prog 116 #[v] w (CloneSPost w xs) := by
  obtain ⟨a, c, rfl, h1, h1m, h2⟩ := h
  obtain ⟨i0, hi, hz0, hz1, hz2⟩ := info_parts info_str
  cases a with
  | none =>
    have hfs : xs = [] := by
      rcases xs with _ | ⟨f, fs⟩
      · rfl
      · obtain ⟨b, o, ha, _⟩ := h2 (by simp)
        cases ha
    subst hfs
    have hq : ∀ w, (Go.binOp .eql 35 (.slice none 0 c) (.slice none 0 0)).run Tryz.prog w = .ok (.bool true) w := fun w => Lib.run_eql_slice_nil w 35 9 none 0 c 0 0 Tryz.underlying35
    go_enter Tryz.func116, Tryz.ntmps116
    go_wp2
    go_ret
    exact ⟨_, rfl, .inl ⟨rfl, rfl⟩, Below.refl _ _⟩
  | some ad =>
    obtain ⟨ab, ao, asp⟩ := ad
    have hq : ∀ w, (Go.binOp .eql 35 (.slice (some ⟨ab, ao, asp⟩) xs.length c) (.slice none 0 0)).run Tryz.prog w = .ok (.bool false) w := fun w => Lib.run_eql_slice_nil w 35 9 _ _ _ _ _ Tryz.underlying35
    have hcells : ∀ j u, (xs.map Value.string)[j]? = some u → w.cell? ((⟨ab, ao, asp⟩ : Addr).add j) = some u := by
      intro j u hu
      rw [List.getElem?_map] at hu
      obtain ⟨x, hx, rfl⟩ := Option.map_eq_some_iff.1 hu
      obtain ⟨b, o, ha, _, hc⟩ := h2 (by rintro rfl; simp at hx)
      cases ha
      rw [Addr.add_lit]
      exact hc j x hx
    have HC := Lib.hid hcells
    clear hcells h2
    go_enter Tryz.func116, Tryz.ntmps116
    go_wp2_with (at_builtin; refine wpList_append_own _ rfl _ _ 35 rfl w.heap.size 9 i0 _ 1 16 Tryz.underlying35 hi hz0 hz1 hz2 rfl (by decide) _ _ _ rfl (World.ownsRow_made w #[] 0 (Nat.le_refl _) (Nat.zero_le _) (by simp)) ⟨ab, ao, asp⟩ xs.length c (xs.map Value.string) rfl ?qc1 ?qc2 ?qc3 ?qc4 ?qc5 ?qc6 ?_)
    case qc1 => simp
    case qc2 =>
      intro j u hj
      exact Lib.cell?_alloc_some _ (HC.out j u hj)
    case qc3 =>
      intro u hu
      obtain ⟨x, _, rfl⟩ := List.mem_map.1 hu
      rfl
    case qc4 => unfold maxLen; omega
    case qc5 => omega
    case qc6 => simp
    intro v' w1 hown hgrow hnil
    go_wp2
    go_ret
    have hb : Below w.heap.size w w1 := ((Below.refl _ w).alloc (Nat.le_refl _) _).grown hgrow (by simp) (by intro k hk; simp [Value.ownBlock] at hk; omega)
    refine ⟨_, rfl, ?_, hb⟩
    have hown' : OwnStrs w.heap.size w1 v' xs := by unfold OwnStrs; simpa using hown
    rcases hown'.2 with ⟨hv, h0⟩ | ⟨g, cap, cur, hv, _⟩
    · exact .inl ⟨List.eq_nil_of_length_eq_zero h0, hv⟩
    · exact .inr ⟨g, cap, hv, hown'⟩

theorem enc_map (xs : List ByteArray) : (xs.map (·.data.toList)).map encStr = xs.map Value.string := by
  rw [List.map_map]
  exact List.map_congr_left fun x _ => by simp [encStr]
theorem enc_srt (xs : List ByteArray) : (srtL (xs.map (·.data.toList))).map encStr = (srtB xs).map Value.string := by
  unfold srtB
  rw [List.map_map]
  exact List.map_congr_left fun x _ => by simp [encStr]

theorem e190 : nmRen.f 190 = 117 := by kernel_rfl
set_option maxRecDepth 100000 in
theorem sortS_c (B g c : Nat) (xs : List ByteArray) (w : World) (h : OwnStrs B w (.slice (some ⟨g, 0, none⟩) xs.length c) xs) (hn : xs.length ≤ 8796093022208) :
    Calls Tryz.prog 117 #[.slice (some ⟨g, 0, none⟩) xs.length c] w fun e w' => e = .returned (.tuple #[]) ∧ OwnStrs B w' (.slice (some ⟨g, 0, none⟩) xs.length c) (srtB xs) ∧ w.grownBy w' (some g) := by
  obtain ⟨hl, ⟨hv, _⟩ | ⟨g', cap', cur, hv, hbase, hb, h1, h2, h3, h4⟩⟩ := h
  · cases hv
  cases hv
  have hsl : (xs.map (·.data.toList)).length = xs.length := by simp
  have hH : Holds encStr w g 0 (xs.map (·.data.toList)).toArray := holds_of_block hb (by rw [hsl, enc_map]; simpa using h4)
  have hgl : g < w.heap.size := (Array.getElem?_eq_some_iff.1 hb).1
  have hz : (xs.map (·.data.toList)).length < 4611686018427387904 := by rw [hsl]; omega
  have hd := fun D : Nat => AnyS.slices_Sort_string_in lLays_n190 D g 0 c (xs.map (·.data.toList)) w hH hgl hz
  have hc := calls_of_every_depth hd
  rw [e190, hsl] at hc
  refine hc.mono ?_
  rintro e w' ⟨rfl, n, os, rfl⟩
  refine ⟨rfl, ?_, grownBy_sorted _⟩
  have := ownsRow_sorted (n := n) (os := os) (ts := srtL (xs.map (·.data.toList))) (ss := xs.map (·.data.toList)) (cap := c) (srtL_len _) hbase hb (by rw [hsl]; exact h1) h2 h3
  rw [enc_srt, hsl] at this
  unfold OwnStrs
  rw [srtB_len]
  exact this
theorem sortS_none (a : Option Addr) (c : Nat) (w : World) : Calls Tryz.prog 117 #[.slice a 0 c] w fun e w' => e = .returned (.tuple #[]) ∧ w' = w :=
  by
  have := Any.slices_Sort_string_none lLays_n190 a c w
  rwa [e190] at this

/-- Names, sorted, in a list of its own. -/
def SortedPost (w : World) (xs : List ByteArray) (e : Ending) (w' : World) : Prop := ∃ v, e = .returned v ∧ IsStrs w' v (srtB xs) ∧ StrsA (fun b => b < w.heap.size) w' v (srtB xs) ∧ Below w.heap.size w w'
set_option maxHeartbeats 2000000 in
theorem sortedNames_any (v : Value) (xs : List ByteArray) (w : World) (h : IsStrs w v xs) (hn : xs.length ≤ 8796093022208) :
    Calls Tryz.prog 87 #[v] w (SortedPost w xs) := by
  have cC := cloneS_any v xs w h hn
  obtain ⟨a, c, rfl, h1, h1m, h2⟩ := h
  clear h2
  go_enter Tryz.func87, Tryz.ntmps87
  go_wp2_with fail
  refine cC.mono ?_
  rintro e w2 ⟨v2, rfl, hv, hb2⟩
  clear cC
  rcases hv with ⟨rfl, rfl⟩ | ⟨g, c2, rfl, hown⟩
  · go_wp2_with fail
    refine (sortS_none _ _ _).mono ?_
    rintro e w3 ⟨rfl, rfl⟩
    go_wp2
    go_ret
    have hA : StrsA (fun b => b < w.heap.size) w3 (.slice none 0 0) (srtB []) := by
      have h1 : srtB [] = [] := by simp [srtB, srtL]
      rw [h1]
      exact rowA_nil _ _ _
    exact ⟨_, rfl, hA.isStrs, hA, hb2⟩
  · have cS := sortS_c w.heap.size g c2 xs w2 hown hn
    have HB := Lib.hid hb2
    have hg := (hown.lt g rfl).1
    clear hown hb2
    go_wp2_with fail
    refine cS.mono ?_
    rintro e w3 ⟨rfl, hown3, hgr⟩
    go_wp2
    go_ret
    have hA : StrsA (fun b => b < w.heap.size) w3 (.slice (some ⟨g, 0, none⟩) (srtB xs).length c2) (srtB xs) := by
      refine strsA_own (t := 9) ?_
      rw [srtB_len]
      unfold OwnStrs at hown3
      rw [srtB_len] at hown3
      exact hown3
    rw [srtB_len] at hA
    exact ⟨_, rfl, hA.isStrs, hA, HB.out.grown hgr HB.out.size (fun k hk => by cases hk; exact hg)⟩
end Go.Proofs.YtlmnabhhgplhnaaGreatDoor
namespace Go.Proofs.YtlmnabhhgplhnaaGreatDoor
open Go.RowKit Go.Shelf

theorem size_list (l : List UInt8) : (⟨l.toArray⟩ : ByteArray).size = l.length := by simp [ByteArray.size]
theorem app_list (a : ByteArray) (l : List UInt8) : a ++ ⟨l.toArray⟩ = ⟨(a.data.toList ++ l).toArray⟩ := by
  apply ByteArray.ext
  simp
theorem bytes_list (a : ByteArray) : a = ⟨a.data.toList.toArray⟩ := by
  apply ByteArray.ext
  simp

set_option maxHeartbeats 2000000 in
theorem clause_any (key : ByteArray) (v : Value) (xs : List ByteArray) (w : World) (h : IsStrs w v xs) (hn : xs.length ≤ 8796093022208)
    (hlen : (clauseTx key.data.toList xs).length ≤ 140737488351232) :
    Calls Tryz.prog 57 #[.string key, v] w fun e w' => e = .returned (.string ⟨(clauseTx key.data.toList xs).toArray⟩) ∧ Below w.heap.size w w' := by
  have cS := sortedNames_any v xs w h hn
  obtain ⟨a, c, rfl, h1, h1m, h2⟩ := h
  clear h2
  by_cases h0 : xs = []
  · subst h0
    have hr : (⟨(clauseTx key.data.toList []).toArray⟩ : ByteArray) = ⟨#[]⟩ := by unfold clauseTx; rw [if_pos rfl]
    rw [hr]
    clear cS hr hlen
    go_enter Tryz.func57, Tryz.ntmps57
    go_wp2
    go_ret
    exact ⟨rfl, Below.refl _ _⟩
  · have hpos : 0 < xs.length := List.length_pos_iff.2 h0
    obtain ⟨J, hJ⟩ : ∃ J, Lib.join (srtL (xs.map (·.data.toList))) [44, 32] = J := ⟨_, rfl⟩
    have hr : clauseTx key.data.toList xs = [32, 32] ++ key.data.toList ++ [32] ++ J ++ [59, 10] := by unfold clauseTx; rw [if_neg h0, hJ]
    rw [hr] at hlen ⊢
    have hsz := Lib.size_eq key
    simp only [List.length_append, List.length_cons, List.length_nil, ← hsz] at hlen
    have hz : ((xs.length : Int) == 0) = false := by
      rw [Bool.eq_false_iff]; intro e; have := eq_of_beq e; omega
    have HJ := Lib.hid hJ
    have HN := Lib.hid hn
    clear hr hJ hsz h0 hpos hn
    go_enter Tryz.func57, Tryz.ntmps57
    go_wp2_with fail
    refine cS.mono ?_
    rintro e w2 ⟨v2, rfl, hS, _, hb2⟩
    have cJ := join_c v2 (srtB xs) ⟨#[44, 32]⟩ w2 hS (by rw [srtB_len]; have := HN.out; omega) (by rw [srtB_data]; show (Lib.join _ [44, 32]).length ≤ _; rw [HJ.out]; omega)
    rw [srtB_data] at cJ
    have hcJ : Lib.join (srtL (xs.map (·.data.toList))) (⟨#[44, 32]⟩ : ByteArray).data.toList = J := HJ.out
    rw [hcJ] at cJ
    have HB := Lib.hid hb2
    obtain ⟨va, vn, vc, hvs⟩ : ∃ a n c, v2 = .slice a n c := by obtain ⟨a, c, rfl, _⟩ := hS; exact ⟨_, _, _, rfl⟩
    subst hvs
    have hJs : (⟨J.toArray⟩ : ByteArray).size = J.length := size_list J
    obtain ⟨JB, hJB⟩ : ∃ JB : ByteArray, (⟨J.toArray⟩ : ByteArray) = JB := ⟨_, rfl⟩
    rw [hJB] at cJ hJs
    have HJB := Lib.hid hJB
    have hJs' : JB.size ≤ 140737488351232 - key.size - 5 := by omega
    clear hS hb2 hcJ cS hJs hJB
    have e1 : ∀ w, (Op.stringOp .add ⟨#[32, 32]⟩ key).run Tryz.prog w = .ok (.string (⟨#[32, 32]⟩ ++ key)) w := fun w => run_string_add_sum _ _ _ (by show 2 + key.size ≤ _; omega)
    go_wp2_with fail
    refine cJ.mono ?_
    rintro e w3 ⟨rfl, hb3⟩
    have HB3 := Lib.hid (HB.out.trans (hb3.mono HB.out.size))
    clear hb3 cJ
    go_wp2
    go_ret
    refine ⟨ret_str ?_, HB3.out⟩
    rw [← HJB.out]
    apply ByteArray.ext
    simp

/-- An append of nothing. -/
theorem wpList_append_nil {P : Program} {w : World} {ops : Array Oper} {rest : List Oper} {o : Oper} {a : Act} {Q : Exit → Act → World → Prop} (hgd : o.guard = none) (s x : Operand) (t : TypeId)
    (ho : o.op = .call { callee := .builtin .append, args := #[s, x], argTypes := #[t, t] })
    (base : Nat) (e : TypeId) (i : TypeInfo) (size : Nat) (ht : P.underlying t = some (.slice e)) (hi : P.info? e = some i)
    (v : Value) (n : Nat) (xs : List Value) (hs : a.eval s = v) (hown : w.ownsRow base e size v n xs) (c : Nat) (hx : a.eval x = .slice none 0 c)
    (h : wpList P ops Q rest (a.put o.dst v) w) : wpList P ops Q (o :: rest) a w := by
  refine wpList_plain hgd fun K hK => ?_
  have hrun : (Builtin.append_ #[t, t] o.type #[v, .slice none 0 c]).run P w = .ok v w := by
    rcases hown.2 with ⟨rfl, rfl⟩ | ⟨g, cap, cur, rfl, _, _, hnc, _⟩
    · simp [Builtin.append_, run_underlying ht, sizeOf, typeInfo, hi, Builtin.lenOf, Builtin.firstCells]
    · simp [Builtin.append_, run_underlying ht, sizeOf, typeInfo, hi, Builtin.lenOf, Builtin.firstCells, hnc, storeCells]
  unfold Oper.wp
  simp [execOp, ho, resolve, invoke, builtin, hs, hx, hrun, Result.andThen]
  exact hK _ _ h

/-- An append of one text to a list of one's own. -/
theorem wpList_append_str {w : World} {ops : Array Oper} {rest : List Oper} {o : Oper} {a : Act} {Q : Exit → Act → World → Prop} (hgd : o.guard = none) (s x : Operand)
    (ho : o.op = .call { callee := .builtin .append, args := #[s, x], argTypes := #[35, 35] })
    (B : Nat) (v : Value) (xs : List ByteArray) (q : ByteArray) (hs : a.eval s = v) (hown : w.ownsRow B 9 1 v xs.length (xs.map Value.string)) (hB : B ≤ w.heap.size) (hn : xs.length ≤ 1000000000)
    (hx : a.eval x = .slice (some ⟨w.heap.size, 0, none⟩) 1 1)
    (h : ∀ v' w', w'.ownsRow B 9 1 v' (xs ++ [q]).length ((xs ++ [q]).map Value.string) → Below B w w' → wpList Tryz.prog ops Q rest (a.put o.dst v') w') :
    wpList Tryz.prog ops Q (o :: rest) a (w.alloc (.cells #[.string q] 9)) := by
  obtain ⟨i0, hi, hz0, hz1, hz2⟩ := info_parts info_str
  refine wpList_append_own _ hgd s x 35 ho B 9 i0 (.string ByteArray.empty) 1 16 Tryz.underlying35 hi hz0 hz1 hz2 rfl (by decide) v xs.length _ hs (hown.alloc _) ⟨w.heap.size, 0, none⟩ 1 1 [.string q] hx rfl ?_ ?_ ?_ ?_ ?_ ?_
  · intro j u hj
    match j, hj with
    | 0, hj => simp at hj; subst hj; simp [Addr.add]
  · intro u hu; simp at hu; subst hu; rfl
  · unfold maxLen; omega
  · omega
  · simp; omega
  · intro v' w' ho' hg _
    refine h v' w' (by rw [List.length_append, List.map_append]; exact ho') ?_
    exact ((Below.refl B w).alloc hB _).grown hg (by simp; omega) (fun b hb => (hown.lt b hb).1)

/-- What a step asks of its lengths. -/
structure StepFit (x : StepS) : Prop where
  few : x.args.length + x.lits.length ≤ 1000000
  lits : ∀ l ∈ x.lits, l.size ≤ 35184372088000
  n : -9223372036854775808 ≤ x.n ∧ x.n ≤ 9223372036854775807
  all : (stepTx x).length ≤ 140737488351232
def litWs (ls : List ByteArray) : List ByteArray := ls.map fun l => ⟨(quoteS l.data.toList).toArray⟩
def headWs (x : StepS) : List ByteArray := [x.out, ⟨#[61]⟩, ⟨(opTx x.op).toArray⟩] ++ (if x.op = 9 then [⟨(Lib.itoa x.n).toArray⟩] else [])
theorem stepWs_eq (x : StepS) : stepWs x = headWs x ++ litWs x.lits ++ x.args := rfl
theorem litWs_next (ls : List ByteArray) (k : Nat) (l : ByteArray) (h : ls[k]? = some l) : litWs (ls.take (k + 1)) = litWs (ls.take k) ++ [⟨(quoteS l.data.toList).toArray⟩] := by
  unfold litWs
  rw [List.take_add_one, h, List.map_append]
  rfl
theorem litWs_len (ls : List ByteArray) (k : Nat) : (litWs (ls.take k)).length ≤ k := by unfold litWs; rw [List.length_map]; exact List.length_take_le _ _
theorem headWs_len (x : StepS) : (headWs x).length ≤ 4 := by unfold headWs; split <;> simp

theorem own_kept {B : Nat} {w w' : World} {v : Value} {xs : List ByteArray} (h : OwnStrs B w v xs) (hb : Below w.heap.size w w') : OwnStrs B w' v xs :=
  World.ownsRow.kept (row := none) h ⟨hb.os, hb.tape, hb.output, hb.size, fun k hk _ => hb.block k hk⟩ (by cases h : Value.ownBlock _ <;> simp)
theorem stepTx_eq (x : StepS) : stepTx x = Lib.join ((headWs x ++ litWs x.lits ++ x.args).map (·.data.toList)) [32] ++ [59] := rfl

set_option maxHeartbeats 8000000 in
set_option maxRecDepth 100000 in
theorem step_any (x : StepS) (va vl : Value) (p : Nat) (w : World) (hg : GP p w) (hp : p ≤ w.heap.size) (hA : IsStrs w va x.args) (hL : IsStrs w vl x.lits) (hf : StepFit x) :
    Calls Tryz.prog 22 #[.agg #[.string x.out, .int .i64 x.op, va, vl, .int .i64 x.n]] w fun e w' => e = .returned (.string ⟨(stepTx x).toArray⟩) ∧ Below w.heap.size w w' := by
  obtain ⟨i0, hi, hz0, hz1, hz2⟩ := info_parts info_str
  obtain ⟨o, ho⟩ : ∃ o : Obj, o = .cells #[.string x.out, .int .i64 x.op, va, vl, .int .i64 x.n] 50 := ⟨_, rfl⟩
  have hbox : ∀ w', Below (w.heap.size + 1) (w.alloc o) w' → w'.cell? ⟨w.heap.size, 0, none⟩ = some (.string x.out) ∧ w'.cell? ⟨w.heap.size, 1, none⟩ = some (.int .i64 x.op) ∧ w'.cell? ⟨w.heap.size, 2, none⟩ = some va ∧ w'.cell? ⟨w.heap.size, 3, none⟩ = some vl ∧ w'.cell? ⟨w.heap.size, 4, none⟩ = some (.int .i64 x.n) := by
    intro w' hw'
    have hb : w'.heap[w.heap.size]? = some o := (hw'.block _ (by omega)).trans (alloc_at w o)
    rw [ho] at hb
    refine ⟨?_, ?_, ?_, ?_, ?_⟩ <;> simp [World.cell?, hb]
  have hdown : ∀ w', Below (w.heap.size + 1) (w.alloc o) w' → Below w.heap.size w w' := fun w' h => ((Below.refl _ _).alloc (Nat.le_refl _) _).trans (h.mono (by omega))
  obtain ⟨aa, ca, hva, ha1, ha2, ha3⟩ := hA
  obtain ⟨al, cl, hvl, hl1, hl2, hl3⟩ := hL
  have hop := fun w' (hb : Below w.heap.size w w') => opName_any x.op p w' ((hg.below (hb.mono hp)))
  obtain ⟨opB, hopB⟩ : ∃ opB : ByteArray, (⟨(opTx x.op).toArray⟩ : ByteArray) = opB := ⟨_, rfl⟩
  rw [hopB] at hop
  obtain ⟨H, hH⟩ : ∃ H, headWs x = H := ⟨_, rfl⟩
  have hHl := headWs_len x
  rw [hH] at hHl
  have hb1 : Below (w.heap.size + 1) (w.alloc o) (w.alloc o) := Below.refl _ _
  have hb2 : ∀ o', Below (w.heap.size + 1) (w.alloc o) ((w.alloc o).alloc o').drew := fun o' => (hb1.alloc (by simp) _).drew
  have hc := hbox _ hb1
  subst hva hvl
  obtain ⟨c0, c1, _, _, _⟩ := hc
  have hS : Below w.heap.size w (w.alloc o).drew := (hdown _ hb1).drew
  have HSS := Lib.hid hS
  have HBOX := Lib.hid hbox
  have HDOWN := Lib.hid hdown
  have HLC := Lib.hid hl3
  have HAC := Lib.hid ha3
  have HG := Lib.hid hg
  have HF := Lib.hid hf
  have HOB := Lib.hid hopB
  have HH := Lib.hid hH
  have HOPN := Lib.hid hop
  have HHL := Lib.hid hHl
  have HB2 := Lib.hid hb2
  have HGL : Hid (∀ w', Below w.heap.size w w' → Glob w') := by show ∀ w', _; exact fun w' hb => (hg.below (hb.mono hp)).glob
  clear hbox hdown hg hf hop hopB hl3 ha3 hH hS hb1 hb2 hHl
  subst ho
  have hlit0 : ∀ w1 : World, w.heap.size + 1 ≤ w1.heap.size → OwnStrs (w.heap.size + 1) (w1.alloc (.cells #[.string x.out, .string ⟨#[61]⟩, .string opB] 9)).drew (.slice (some ⟨w1.heap.size, 0, none⟩) 3 3) [x.out, ⟨#[61]⟩, opB] := by
    intro w1 h1
    exact (World.ownsRow_lit w1 #[.string x.out, .string ⟨#[61]⟩, .string opB] 3 h1 (by unfold maxLen; omega) rfl).drew
  have HLIT := Lib.hid hlit0
  clear hlit0
  go_enter Tryz.func22, Tryz.ntmps22
  go_wp2_with fail
  go_region_held3 (fun w' => w'.cell? ⟨w.heap.size, 0, none⟩ = some (.string x.out) ∧ w'.cell? ⟨w.heap.size, 1, none⟩ = some (.int .i64 x.op)) (go_keep)
    (first | (go_at_call 19; refine (HOPN.out _ ?_).mono ?_; (first | assumption | exact HSS.out); rintro e w2 ⟨rfl, rfl⟩))
  by_cases h9 : x.op = 9
  case' pos =>
    have h9b : (x.op == 9) = true := by simpa using h9
    have hH9 : H = [x.out, ⟨#[61]⟩, opB] ++ [⟨(Lib.itoa x.n).toArray⟩] := by rw [← HH.out, ← HOB.out]; unfold headWs; rw [if_pos h9]
    obtain ⟨nB, hnB⟩ : ∃ nB : ByteArray, (⟨(Lib.itoa x.n).toArray⟩ : ByteArray) = nB := ⟨_, rfl⟩
    rw [hnB] at hH9
    have HH9 := Lib.hid hH9
    have HNB := Lib.hid hnB
    clear h9 hH9 hnB
    go_wp2_with fail
    refine (itoa_c x.n HF.out.n.1 HF.out.n.2 _ (HGL.out _ (HDOWN.out _ (HB2.out _)))).mono ?_
    rintro e w2 ⟨rfl, hb2⟩
    rw [HNB.out]
    have HN2 := Lib.hid ((HB2.out _).trans (hb2.mono (by simp)))
    have hs2 := HN2.out.size
    simp at hs2
    have HO2 : Hid (w2.ownsRow (w.heap.size + 1) 9 1 (.slice (some ⟨w.heap.size + 1, 0, none⟩) 3 3) [x.out, ⟨#[61]⟩, opB].length ([x.out, ⟨#[61]⟩, opB].map Value.string)) := by
      show World.ownsRow _ _ _ _ _ _ _
      have h0 := HLIT.out (w.alloc (.cells #[.string x.out, .int .i64 x.op, .slice aa x.args.length ca, .slice al x.lits.length cl, .int .i64 x.n] 50)) (by simp)
      have h1 := own_kept h0 hb2
      simpa [OwnStrs] using h1
    clear hb2
    obtain ⟨d0, d1, d2, d3, d4⟩ := HBOX.out _ HN2.out
    go_wp2_with (at_builtin; refine wpList_append_str (by rfl) _ _ (by rfl) (w.heap.size + 1) _ [x.out, ⟨#[61]⟩, opB] nB (by rfl) HO2.out (by have := HN2.out.size; simpa using this) (by simp) (by rfl) ?_)
    intro v3 W3 hown3 hb3
    have HO3 : Hid (W3.ownsRow (w.heap.size + 1) 9 1 v3 H.length (H.map Value.string)) := by
      show W3.ownsRow _ _ _ _ _ _
      rw [HH9.out]
      exact hown3
    have HN3 := Lib.hid (HN2.out.trans hb3)
    clear hown3 hb3 d0 d1 d2 d3 d4
  case' neg =>
    have h9b : (x.op == 9) = false := by simpa using h9
    have hH9 : H = [x.out, ⟨#[61]⟩, opB] := by rw [← HH.out, ← HOB.out]; unfold headWs; rw [if_neg h9]; simp
    obtain ⟨W3, hW3⟩ : ∃ W3, ((w.alloc (.cells #[.string x.out, .int .i64 x.op, .slice aa x.args.length ca, .slice al x.lits.length cl, .int .i64 x.n] 50)).alloc (.cells #[.string x.out, .string ⟨#[61]⟩, .string opB] 9)).drew = W3 := ⟨_, rfl⟩
    have HO3 : Hid (W3.ownsRow (w.heap.size + 1) 9 1 (.slice (some ⟨w.heap.size + 1, 0, none⟩) 3 3) H.length (H.map Value.string)) := by
      show World.ownsRow _ _ _ _ _ _ _
      have h0 := HLIT.out (w.alloc (.cells #[.string x.out, .int .i64 x.op, .slice aa x.args.length ca, .slice al x.lits.length cl, .int .i64 x.n] 50)) (by simp)
      rw [← hW3, hH9]
      simpa [OwnStrs] using h0
    have HN3 : Hid (Below (w.heap.size + 1) (w.alloc (.cells #[.string x.out, .int .i64 x.op, .slice aa x.args.length ca, .slice al x.lits.length cl, .int .i64 x.n] 50)) W3) := by
      show Below _ _ _
      rw [← hW3]
      exact HB2.out _
    rw [hW3]
    clear hW3 h9 hH9
  all_goals
    obtain ⟨d0, d1, d2, d3, d4⟩ := HBOX.out _ HN3.out
    go_wp2
    go_loopw [3, 24] (fun v i wr => ∃ k : Nat, k ≤ x.lits.length ∧ i = .int .i64 k ∧ wr.ownsRow (w.heap.size + 1) 9 1 v (H ++ litWs (x.lits.take k)).length ((H ++ litWs (x.lits.take k)).map Value.string) ∧ Below (w.heap.size + 1) (w.alloc (.cells #[.string x.out, .int .i64 x.op, .slice aa x.args.length ca, .slice al x.lits.length cl, .int .i64 x.n] 50)) wr)
      (fun _ i _ => x.lits.length - (intOf i).toNat)
    case atStart => exact ⟨0, Nat.zero_le _, rfl, by simpa [litWs] using HO3.out, HN3.out⟩
    case round =>
      obtain ⟨k, hk, rfl, hown, hnx⟩ := hrel
      have hwl := litWs_len x.lits k
      have hfw := HF.out.few
      have hsx := hnx.size
      simp at hsx
      have hHl := HHL.out
      have hlen : (H ++ litWs (x.lits.take k)).length ≤ 1000000000 := by rw [List.length_append]; omega
      have HO := Lib.hid hown
      have HNX := Lib.hid hnx
      clear hown hnx d0 d1 d2 d3 d4
      by_cases hlt : k < x.lits.length
      · obtain ⟨l, hl⟩ : ∃ l, x.lits[k]? = some l := ⟨x.lits[k], List.getElem?_eq_getElem hlt⟩
        obtain ⟨b, o, hal, hb, hcl⟩ := HLC.out (by rintro e; rw [e] at hlt; simp at hlt)
        subst hal
        have hcx : wr.cell? ⟨b, o + k, none⟩ = some (.string l) := ((HDOWN.out _ HNX.out).cell (p := ⟨b, o + k, none⟩) hb).trans (hcl k l hl)
        have HNEXT := Lib.hid (litWs_next x.lits k l hl)
        have hls := HF.out.lits l (List.mem_of_getElem? hl)
        have hi1 : (k : Int) < (x.lits.length : Int) := by omega
        clear hcl hb hl
        go_wp2_with fail
        refine (quote_any l _ hls).mono ?_
        rintro e w4 ⟨rfl, hb4⟩
        obtain ⟨qB, hqB⟩ : ∃ qB : ByteArray, (⟨(quoteS l.data.toList).toArray⟩ : ByteArray) = qB := ⟨_, rfl⟩
        rw [hqB]
        have HN4 := Lib.hid (HNX.out.trans (hb4.mono (by omega)))
        have HO4 := Lib.hid (World.ownsRow.kept (row := none) HO.out ⟨hb4.os, hb4.tape, hb4.output, hb4.size, fun k hk _ => hb4.block k hk⟩ (by cases h : Value.ownBlock _ <;> simp))
        have hs4 := hb4.size
        have HQ := Lib.hid hqB
        clear hb4 hcx hqB
        go_wp2_with (at_builtin; refine wpList_append_str (by rfl) _ _ (by rfl) (w.heap.size + 1) _ (H ++ litWs (x.lits.take k)) qB (by rfl) HO4.out (by omega) hlen (by rfl) ?_)
        intro v' w5 hown5 hb5
        have HO5 : Hid (w5.ownsRow (w.heap.size + 1) 9 1 v' (H ++ litWs (x.lits.take (k + 1))).length ((H ++ litWs (x.lits.take (k + 1))).map Value.string)) := by
          show w5.ownsRow _ _ _ _ _ _
          rw [HNEXT.out, ← List.append_assoc, HQ.out]
          simpa using hown5
        have HN5 := Lib.hid (HN4.out.trans hb5)
        clear hown5 hb5
        go_wp2
        go_roundw
        case rel => exact ⟨k + 1, by omega, by go_num, HO5.out, HN5.out⟩
        case measure => simp [intOf]; omega
      · have hfull : x.lits.take k = x.lits := List.take_of_length_le (by omega)
        rw [hfull] at hwl hlen
        have HO6 := HO.out
        rw [hfull] at HO6
        replace HO6 := Lib.hid HO6
        obtain ⟨d0, d1, d2, d3, d4⟩ := HBOX.out _ HNX.out
        clear hfull HO
        have hjl := HF.out.all
        rw [stepTx_eq, HH.out] at hjl
        obtain ⟨J, hJ⟩ : ∃ J, Lib.join ((H ++ litWs x.lits ++ x.args).map (·.data.toList)) [32] = J := ⟨_, rfl⟩
        rw [hJ] at hjl
        simp only [List.length_append, List.length_cons, List.length_nil] at hjl
        have cJ : ∀ (v : Value) (W : World), World.ownsRow W (w.heap.size + 1) 9 1 v (H ++ litWs x.lits ++ x.args).length ((H ++ litWs x.lits ++ x.args).map Value.string) → Calls Tryz.prog 50 #[v, .string ⟨#[32]⟩] W fun e w' => e = .returned (.string ⟨J.toArray⟩) ∧ Below W.heap.size W w' := by
          intro v W hW
          have := join_c v (H ++ litWs x.lits ++ x.args) ⟨#[32]⟩ W (strs_own hW) (by simp only [List.length_append]; simp only [List.length_append] at hlen; omega) (by show (Lib.join _ [32]).length ≤ _; rw [hJ]; omega)
          have e : Lib.join ((H ++ litWs x.lits ++ x.args).map (·.data.toList)) (⟨#[32]⟩ : ByteArray).data.toList = J := hJ
          rw [e] at this
          exact this
        obtain ⟨JB, hJB⟩ : ∃ JB : ByteArray, (⟨J.toArray⟩ : ByteArray) = JB := ⟨_, rfl⟩
        have hJs : JB.size ≤ 140737488351232 := by rw [← hJB, size_list]; omega
        have hJr : JB ++ ⟨#[59]⟩ = (⟨(stepTx x).toArray⟩ : ByteArray) := by rw [stepTx_eq, HH.out, hJ, ← hJB]; apply ByteArray.ext; simp
        rw [hJB] at cJ
        have CJ := Lib.hid cJ
        have HJR := Lib.hid hJr
        have hkn : ¬ (k : Int) < (x.lits.length : Int) := by omega
        clear cJ hJr hJB hJ hjl
        cases aa with
        | none =>
          have hx0 : x.args = [] := by
            rcases hx : x.args with _ | ⟨y, r⟩
            · rfl
            · obtain ⟨_, _, e, _⟩ := HAC.out (by rw [hx]; simp)
              cases e
          have hO7 := HO6.out
          have e7 : H ++ litWs x.lits ++ x.args = H ++ litWs x.lits := by rw [hx0, List.append_nil]
          rw [← e7] at hO7
          have cJ := CJ.out _ wr hO7
          clear hO7 e7
          go_wp2_with (at_builtin; refine wpList_append_nil (by rfl) _ _ 35 (by rfl) (w.heap.size + 1) 9 i0 1 Tryz.underlying35 hi _ _ _ (by rfl) HO6.out ca (by simp [Act.eval, hx0]) ?_)
          go_wp2_with fail
          refine cJ.mono ?_
          rintro e w7 ⟨rfl, hb7⟩
          go_wp2
          go_ret
          exact ⟨ret_str HJR.out, (HDOWN.out _ HNX.out).trans (hb7.mono (by omega))⟩
        | some ad =>
          have hcells : ∀ j u, (x.args.map Value.string)[j]? = some u → wr.cell? (ad.add j) = some u := by
            intro j u hu
            rw [List.getElem?_map] at hu
            obtain ⟨y, hy, rfl⟩ := Option.map_eq_some_iff.1 hu
            obtain ⟨b, o, e, hb, hcl⟩ := HAC.out (by rintro e; rw [e] at hy; simp at hy)
            cases e
            rw [Addr.add_lit]
            exact ((HDOWN.out _ HNX.out).cell (p := ⟨b, o + j, none⟩) hb).trans (hcl j y hy)
          have hone : ∀ u ∈ x.args.map Value.string, u.oneCell' = true := by
            intro u hu
            obtain ⟨y, _, rfl⟩ := List.mem_map.1 hu
            rfl
          have hml : (x.args.map Value.string).length = x.args.length * 1 := by simp
          have HCE := Lib.hid hcells
          have HONE := Lib.hid hone
          have HML := Lib.hid hml
          clear hcells hone hml
          go_wp2_with (at_builtin; refine wpList_append_own _ (by rfl) _ _ 35 (by rfl) (w.heap.size + 1) 9 i0 (.string ByteArray.empty) 1 16 Tryz.underlying35 hi hz0 hz1 hz2 rfl (by decide) _ _ _ (by rfl) HO6.out ad x.args.length ca (x.args.map Value.string) (by rfl) HML.out HCE.out HONE.out (by unfold maxLen; omega) (by omega) (by omega) ?_)
          intro v7 w7 hown7 hg7 _
          have hO7 : World.ownsRow w7 (w.heap.size + 1) 9 1 v7 (H ++ litWs x.lits ++ x.args).length ((H ++ litWs x.lits ++ x.args).map Value.string) := by
            simpa [Nat.add_assoc] using hown7
          have hn7 := HNX.out.grown hg7 (by omega) (fun b hb => (HO6.out.lt b hb).1)
          have cJ := CJ.out _ w7 hO7
          have HN7 := Lib.hid hn7
          have hs7 := hn7.size
          simp at hs7
          clear hO7 hown7 hg7 hn7
          go_wp2_with fail
          refine cJ.mono ?_
          rintro e w8 ⟨rfl, hb8⟩
          go_wp2
          go_ret
          exact ⟨ret_str HJR.out, (HDOWN.out _ HN7.out).trans (hb8.mono (by omega))⟩
end Go.Proofs.YtlmnabhhgplhnaaGreatDoor
namespace Go.Proofs.YtlmnabhhgplhnaaGreatDoor
open Go.RowKit Go.Shelf

/-- The k-th record of a row of five cells each. -/
theorem row5_at {Av : Nat → Prop} {w : World} {v : Value} {rows : List (List Value)} (h : RowA Av w v 5 rows) {k : Nat} {a b c d e : Value} (hk : rows[k]? = some [a, b, c, d, e]) :
    ∃ g o cap, v = .slice (some ⟨g, o, none⟩) rows.length cap ∧ g < w.heap.size ∧ ∀ w', Below w.heap.size w w' → w'.cell? ⟨g, o + k * 5, none⟩ = some a ∧ w'.cell? ⟨g, o + k * 5 + 1, none⟩ = some b ∧ w'.cell? ⟨g, o + k * 5 + 2, none⟩ = some c ∧ w'.cell? ⟨g, o + k * 5 + 3, none⟩ = some d ∧ w'.cell? ⟨g, o + k * 5 + 4, none⟩ = some e := by
  obtain ⟨⟨ad, cap, rfl, _, _, h2⟩, _⟩ := h
  obtain ⟨g, o, rfl, hg, hc⟩ := h2 (by rintro rfl; simp at hk)
  refine ⟨g, o, cap, rfl, hg, fun w' hb => ?_⟩
  have key : ∀ (i : Nat) u, [a, b, c, d, e][i]? = some u → w'.cell? ⟨g, o + k * 5 + i, none⟩ = some u := fun i u hu => (hb.cell (p := ⟨g, o + k * 5 + i, none⟩) hg).trans (hc k _ hk i u hu)
  exact ⟨key 0 a rfl, key 1 b rfl, key 2 c rfl, key 3 d rfl, key 4 e rfl⟩
theorem rowA_len {Av : Nat → Prop} {w : World} {v : Value} {k : Nat} {rows : List (List Value)} (h : RowA Av w v k rows) : ∃ a c, v = .slice a rows.length c ∧ rows.length ≤ c ∧ c ≤ maxLen := by
  obtain ⟨⟨a, c, rfl, h1, h2, _⟩, _⟩ := h
  exact ⟨a, c, rfl, h1, h2⟩

/-- What a rule asks of its lengths. -/
structure RuleFit (r : RuleS) : Prop where
  few : r.ins.length ≤ 1000000 ∧ r.outs.length ≤ 1000000 ∧ r.after.length ≤ 1000000 ∧ r.steps.length ≤ 1000000
  steps : ∀ x ∈ r.steps, StepFit x
  all : (ruleTx r).length ≤ 140737488351232
def stepsTx (xs : List StepS) : List UInt8 := (xs.map stepLn).flatten
theorem stepsTx_next (xs : List StepS) (k : Nat) (x : StepS) (h : xs[k]? = some x) : stepsTx (xs.take (k + 1)) = stepsTx (xs.take k) ++ stepLn x := by
  unfold stepsTx
  rw [List.take_add_one, h, List.map_append, List.flatten_append]
  simp
theorem stepsTx_le (xs : List StepS) (k : Nat) : (stepsTx (xs.take k)).length ≤ (stepsTx xs).length := by
  conv => rhs; rw [← List.take_append_drop k xs]
  unfold stepsTx
  rw [List.map_append, List.flatten_append, List.length_append]
  omega
theorem ruleTx_eq (r : RuleS) : ruleTx r = upTx r ++ stepsTx r.steps ++ [125, 10] := rfl

theorem writeL_c (B b : Nat) (l t : List UInt8) (s : ByteArray) (hst : s = ⟨t.toArray⟩) (w : World) (h : Lib.IsBuilder 60 5 B b (Lib.byteCells l) w) (hlen : l.length + t.length ≤ 140737488355328) (hBw : B ≤ w.heap.size) :
    Calls Tryz.prog 28 #[.pointer (some ⟨b, 0, none⟩), .string s] w fun e w' => (∃ x y, e = .returned (.tuple #[x, y])) ∧ Lib.IsBuilder 60 5 B b (Lib.byteCells (l ++ t)) w' ∧ Below B w w' := by
  subst hst
  refine (writeString_c B b l ⟨t.toArray⟩ w h (by rw [size_list]; exact hlen) hBw).mono ?_
  rintro e w' ⟨rfl, h1, h2⟩
  exact ⟨⟨_, _, rfl⟩, h1, h2⟩

set_option maxHeartbeats 8000000 in
set_option maxRecDepth 100000 in
theorem rule_any (r : RuleS) (vi vo vf vs : Value) (Av : Nat → Prop) (p : Nat) (w : World) (hg : GP p w) (hp : p ≤ w.heap.size) (hI : StrsA Av w vi r.ins) (hO : StrsA Av w vo r.outs) (hF : StrsA Av w vf r.after) (hS : StepsA Av w vs r.steps) (hf : RuleFit r) :
    Calls Tryz.prog 29 #[.agg #[.string r.name, vi, vo, vf, vs]] w fun e w' => e = .returned (.string ⟨(ruleTx r).toArray⟩) ∧ Below w.heap.size w w' := by
  obtain ⟨rows, hrow, hall⟩ := hS
  obtain ⟨sa, sc, hvs, hs1, hs2⟩ := rowA_len hrow
  have hrl := hall.1
  have hLE := hf.all
  rw [ruleTx_eq] at hLE
  obtain ⟨T0, hT0⟩ : ∃ T, headTx r = T := ⟨_, rfl⟩
  obtain ⟨T1, hT1⟩ : ∃ T, clauseTx [105, 110] r.ins = T := ⟨_, rfl⟩
  obtain ⟨T2, hT2⟩ : ∃ T, clauseTx [111, 117, 116] r.outs = T := ⟨_, rfl⟩
  obtain ⟨T3, hT3⟩ : ∃ T, clauseTx [97, 102, 116, 101, 114] r.after = T := ⟨_, rfl⟩
  have hup : upTx r = T0 ++ T1 ++ T2 ++ T3 := by unfold upTx; rw [hT0, hT1, hT2, hT3]
  have hres : ruleTx r = T0 ++ T1 ++ T2 ++ T3 ++ stepsTx r.steps ++ [125, 10] := by rw [ruleTx_eq, hup]
  rw [hup] at hLE
  simp only [List.length_append, List.length_cons, List.length_nil] at hLE
  have c1 : ∀ w', Below w.heap.size w w' → Calls Tryz.prog 57 #[.string ⟨#[105, 110]⟩, vi] w' fun e w'' => e = .returned (.string ⟨T1.toArray⟩) ∧ Below w'.heap.size w' w'' := by
    intro w' hb
    have := clause_any ⟨#[105, 110]⟩ vi r.ins w' (hI.isStrs.below hb) (by have := hf.few; omega) (by show (clauseTx [105, 110] r.ins).length ≤ _; rw [hT1]; omega)
    rw [show clauseTx (⟨#[105, 110]⟩ : ByteArray).data.toList r.ins = T1 from hT1] at this
    exact this
  have c2 : ∀ w', Below w.heap.size w w' → Calls Tryz.prog 57 #[.string ⟨#[111, 117, 116]⟩, vo] w' fun e w'' => e = .returned (.string ⟨T2.toArray⟩) ∧ Below w'.heap.size w' w'' := by
    intro w' hb
    have := clause_any ⟨#[111, 117, 116]⟩ vo r.outs w' (hO.isStrs.below hb) (by have := hf.few; omega) (by show (clauseTx [111, 117, 116] r.outs).length ≤ _; rw [hT2]; omega)
    rw [show clauseTx (⟨#[111, 117, 116]⟩ : ByteArray).data.toList r.outs = T2 from hT2] at this
    exact this
  have c3 : ∀ w', Below w.heap.size w w' → Calls Tryz.prog 57 #[.string ⟨#[97, 102, 116, 101, 114]⟩, vf] w' fun e w'' => e = .returned (.string ⟨T3.toArray⟩) ∧ Below w'.heap.size w' w'' := by
    intro w' hb
    have := clause_any ⟨#[97, 102, 116, 101, 114]⟩ vf r.after w' (hF.isStrs.below hb) (by have := hf.few; omega) (by show (clauseTx [97, 102, 116, 101, 114] r.after).length ≤ _; rw [hT3]; omega)
    rw [show clauseTx (⟨#[97, 102, 116, 101, 114]⟩ : ByteArray).data.toList r.after = T3 from hT3] at this
    exact this
  have cS : ∀ (k : Nat) x, r.steps[k]? = some x → ∃ g o cap a1 n1 c1 a2 n2 c2, vs = .slice (some ⟨g, o, none⟩) rows.length cap ∧ ∀ w', Below w.heap.size w w' →
      (w'.cell? ⟨g, o + k * 5, none⟩ = some (.string x.out) ∧ w'.cell? ⟨g, o + k * 5 + 1, none⟩ = some (.int .i64 x.op) ∧ w'.cell? ⟨g, o + k * 5 + 2, none⟩ = some (.slice a1 n1 c1) ∧ w'.cell? ⟨g, o + k * 5 + 3, none⟩ = some (.slice a2 n2 c2) ∧ w'.cell? ⟨g, o + k * 5 + 4, none⟩ = some (.int .i64 x.n)) ∧
      Calls Tryz.prog 22 #[.agg #[.string x.out, .int .i64 x.op, .slice a1 n1 c1, .slice a2 n2 c2, .int .i64 x.n]] w' fun e w'' => e = .returned (.string ⟨(stepTx x).toArray⟩) ∧ Below w'.heap.size w' w'' := by
    intro k x hx
    have hk : k < rows.length := by rw [hrl]; exact (List.getElem?_eq_some_iff.1 hx).1
    obtain ⟨va, vl, e, ha, hl⟩ := hall.2 k _ x (List.getElem?_eq_getElem hk) hx
    obtain ⟨g, o, cap, hv, hg', hc⟩ := row5_at hrow (k := k) (by rw [List.getElem?_eq_getElem hk, e])
    obtain ⟨a1, n1, c1, hva⟩ := rowA_shape ha
    obtain ⟨a2, n2, c2, hvl⟩ := rowA_shape hl
    subst hva hvl
    refine ⟨g, o, cap, a1, n1, c1, a2, n2, c2, hv, fun w' hb => ⟨hc w' hb, ?_⟩⟩
    exact step_any x _ _ p w' (hg.below (hb.mono hp)) (Nat.le_trans hp hb.size) (ha.isStrs.below hb) (hl.isStrs.below hb) (hf.steps x (List.mem_of_getElem? hx))
  obtain ⟨ia, inn, ic, hvi⟩ := rowA_shape hI
  obtain ⟨oa, on, oc, hvo⟩ := rowA_shape hO
  obtain ⟨fa, fnn, fc, hvf⟩ := rowA_shape hF
  subst hvi hvo hvf hvs
  obtain ⟨o, ho⟩ : ∃ o : Obj, o = .cells #[.string r.name, .slice ia inn ic, .slice oa on oc, .slice fa fnn fc, .slice sa rows.length sc] 38 := ⟨_, rfl⟩
  have hbox : ∀ w', Below (w.heap.size + 1) (w.alloc o) w' → w'.cell? ⟨w.heap.size, 0, none⟩ = some (.string r.name) ∧ w'.cell? ⟨w.heap.size, 1, none⟩ = some (.slice ia inn ic) ∧ w'.cell? ⟨w.heap.size, 2, none⟩ = some (.slice oa on oc) ∧ w'.cell? ⟨w.heap.size, 3, none⟩ = some (.slice fa fnn fc) ∧ w'.cell? ⟨w.heap.size, 4, none⟩ = some (.slice sa rows.length sc) := by
    intro w' hw'
    have hb : w'.heap[w.heap.size]? = some o := (hw'.block _ (by omega)).trans (alloc_at w o)
    rw [ho] at hb
    refine ⟨?_, ?_, ?_, ?_, ?_⟩ <;> simp [World.cell?, hb]
  have hdown : ∀ w', Below (w.heap.size + 1) (w.alloc o) w' → Below w.heap.size w w' := fun w' h => ((Below.refl _ _).alloc (Nat.le_refl _) _).trans (h.mono (by omega))
  have hB0 : Lib.IsBuilder 60 5 (w.heap.size + 1) (w.heap.size + 1) (Lib.byteCells []) ((w.alloc o).alloc (.cells #[.pointer none, .slice none 0 0] 60)) := by
    have := Lib.fresh_isBuilder 60 5 (w.alloc o)
    simpa [Lib.byteCells] using this
  have hb0 : Below (w.heap.size + 1) (w.alloc o) ((w.alloc o).alloc (.cells #[.pointer none, .slice none 0 0] 60)) := (Below.refl _ _).alloc (by simp) _
  obtain ⟨d0, d1, d2, d3, d4⟩ := hbox _ hb0
  have hhead : (⟨#[114, 117, 108, 101, 32]⟩ : ByteArray) ++ r.name ++ ⟨#[32, 123, 10]⟩ = ⟨T0.toArray⟩ := by rw [← hT0]; unfold headTx; apply ByteArray.ext; simp
  have hnm : r.name.size ≤ 140737488351232 := by
    have : T0.length = 5 + r.name.size + 3 := by rw [← hT0]; unfold headTx; simp only [List.length_append, List.length_cons, List.length_nil, ← Lib.size_eq]
    omega
  have HBOX := Lib.hid hbox
  have HDOWN := Lib.hid hdown
  have HLE := Lib.hid hLE
  have C1 := Lib.hid c1; have C2 := Lib.hid c2; have C3 := Lib.hid c3; have CS := Lib.hid cS
  have HRES := Lib.hid hres
  have HB0 := Lib.hid hB0
  have HN0 := Lib.hid hb0
  have HHEAD := Lib.hid hhead
  have HRL := Lib.hid hrl
  have HFEW := Lib.hid hf.few
  clear hbox hdown c1 c2 c3 cS hres hB0 hb0 hhead hup hT0 hT1 hT2 hT3 hI hO hF hrow hall hf hg hrl hLE
  subst ho
  go_enter Tryz.func29, Tryz.ntmps29
  go_wp2_with fail
  refine (writeL_c (w.heap.size + 1) (w.heap.size + 1) [] T0 _ HHEAD.out _ HB0.out (by have := HLE.out; simp; omega) (by simp)).mono ?_
  rintro e w1 ⟨⟨x1, y1, rfl⟩, h1, hb1⟩
  have HB1 := Lib.hid h1
  have HN1 := Lib.hid (HN0.out.trans hb1)
  have hs1 := HN1.out.size
  simp at hs1
  clear h1 hb1 d0 d1 d2 d3 d4
  obtain ⟨d0, d1, d2, d3, d4⟩ := HBOX.out _ HN1.out
  go_wp2_with fail
  refine (C1.out _ (HDOWN.out _ HN1.out)).mono ?_
  rintro e w2 ⟨rfl, hb2⟩
  have HB2 := Lib.hid (builder_below HB1.out hb2)
  have HN2 := Lib.hid (HN1.out.trans (hb2.mono hs1))
  have hs2 := Nat.le_trans hs1 hb2.size
  clear hb2
  go_wp2_with fail
  refine (writeL_c (w.heap.size + 1) (w.heap.size + 1) ([] ++ T0) T1 _ rfl _ HB2.out (by have := HLE.out; simp only [List.length_append, List.length_nil]; omega) hs2).mono ?_
  rintro e w3 ⟨⟨x3, y3, rfl⟩, h3, hb3⟩
  have HB3 := Lib.hid h3
  have HN3 := Lib.hid (HN2.out.trans hb3)
  have hs3 := Nat.le_trans hs2 hb3.size
  clear h3 hb3 d0 d1 d2 d3 d4
  obtain ⟨d0, d1, d2, d3, d4⟩ := HBOX.out _ HN3.out
  go_wp2_with fail
  refine (C2.out _ (HDOWN.out _ HN3.out)).mono ?_
  rintro e w4 ⟨rfl, hb4⟩
  have HB4 := Lib.hid (builder_below HB3.out hb4)
  have HN4 := Lib.hid (HN3.out.trans (hb4.mono hs3))
  have hs4 := Nat.le_trans hs3 hb4.size
  clear hb4
  go_wp2_with fail
  refine (writeL_c (w.heap.size + 1) (w.heap.size + 1) ([] ++ T0 ++ T1) T2 _ rfl _ HB4.out (by have := HLE.out; simp only [List.length_append, List.length_nil]; omega) hs4).mono ?_
  rintro e w5 ⟨⟨x5, y5, rfl⟩, h5, hb5⟩
  have HB5 := Lib.hid h5
  have HN5 := Lib.hid (HN4.out.trans hb5)
  have hs5 := Nat.le_trans hs4 hb5.size
  clear h5 hb5 d0 d1 d2 d3 d4
  obtain ⟨d0, d1, d2, d3, d4⟩ := HBOX.out _ HN5.out
  go_wp2_with fail
  refine (C3.out _ (HDOWN.out _ HN5.out)).mono ?_
  rintro e w6 ⟨rfl, hb6⟩
  have HB6 := Lib.hid (builder_below HB5.out hb6)
  have HN6 := Lib.hid (HN5.out.trans (hb6.mono hs5))
  have hs6 := Nat.le_trans hs5 hb6.size
  clear hb6
  go_wp2_with fail
  refine (writeL_c (w.heap.size + 1) (w.heap.size + 1) ([] ++ T0 ++ T1 ++ T2) T3 _ rfl _ HB6.out (by have := HLE.out; simp only [List.length_append, List.length_nil]; omega) hs6).mono ?_
  rintro e w7 ⟨⟨x7, y7, rfl⟩, h7, hb7⟩
  obtain ⟨T, hT⟩ : ∃ T, [] ++ T0 ++ T1 ++ T2 ++ T3 = T := ⟨_, rfl⟩
  rw [hT] at h7
  have hTl : T.length = T0.length + T1.length + T2.length + T3.length := by rw [← hT]; simp only [List.length_append, List.length_nil]; omega
  have HB7 := Lib.hid h7
  have HN7 := Lib.hid (HN6.out.trans hb7)
  have hs7 := Nat.le_trans hs6 hb7.size
  have HRES2 : Hid (ruleTx r = T ++ stepsTx r.steps ++ [125, 10]) := by show ruleTx r = _; rw [HRES.out, ← hT]; simp
  have HTL := Lib.hid hTl
  clear h7 hb7 d0 d1 d2 d3 d4 hT hTl
  obtain ⟨d0, d1, d2, d3, d4⟩ := HBOX.out _ HN7.out
  go_wp2
  go_loopw [26] (fun i wr => ∃ k : Nat, k ≤ r.steps.length ∧ i = .int .i64 k ∧ Lib.IsBuilder 60 5 (w.heap.size + 1) (w.heap.size + 1) (Lib.byteCells (T ++ stepsTx (r.steps.take k))) wr ∧ Below (w.heap.size + 1) (w.alloc (.cells #[.string r.name, .slice ia inn ic, .slice oa on oc, .slice fa fnn fc, .slice sa rows.length sc] 38)) wr)
    (fun i _ => r.steps.length - (intOf i).toNat)
  case atStart => exact ⟨0, Nat.zero_le _, rfl, by simpa [stepsTx] using HB7.out, HN7.out⟩
  case round =>
    obtain ⟨k, hk, rfl, hbu, hnx⟩ := hrel
    have hsz := hnx.size
    simp at hsz
    have hrl := HRL.out
    have hle := stepsTx_le r.steps k
    have hall := HLE.out
    have htl := HTL.out
    have hfew := HFEW.out
    have HBU := Lib.hid hbu
    have HNX := Lib.hid hnx
    clear d0 d1 d2 d3 d4 hbu hnx
    by_cases hlt : k < r.steps.length
    · obtain ⟨x, hx⟩ : ∃ x, r.steps[k]? = some x := ⟨r.steps[k], List.getElem?_eq_getElem hlt⟩
      obtain ⟨g, o, cap, a1, n1, c1, a2, n2, c2, hv, hstep⟩ := CS.out k x hx
      have hnext := stepsTx_next r.steps k x hx
      have hle2 := stepsTx_le r.steps (k + 1)
      rw [hnext, List.length_append] at hle2
      have HNEXT := Lib.hid hnext
      have hi1 : (k : Int) < (rows.length : Int) := by omega
      obtain ⟨d0, d1, d2, d3, d4⟩ := (hstep _ (HDOWN.out _ HNX.out)).1
      have HST := Lib.hid hstep
      cases hv
      have hll : (stepLn x).length = 2 + (stepTx x).length + 1 := by unfold stepLn; simp only [List.length_append, List.length_cons, List.length_nil]
      have hxl : (stepTx x).length ≤ 140737488351232 := by omega
      have HLL := Lib.hid hll
      clear hstep hnext hx hrl hll
      have hbel : Below w.heap.size w (wr.alloc (.cells #[.string x.out, .int .i64 x.op, .slice a1 n1 c1, .slice a2 n2 c2, .int .i64 x.n] 50)) := (HDOWN.out _ HNX.out).alloc (by omega) _
      have cX := (HST.out _ hbel).2
      have HNA := Lib.hid (HNX.out.alloc (show w.heap.size + 1 ≤ wr.heap.size from hsz) (.cells #[.string x.out, .int .i64 x.op, .slice a1 n1 c1, .slice a2 n2 c2, .int .i64 x.n] 50))
      have HBA := Lib.hid (builder_below HBU.out ((Below.refl wr.heap.size wr).alloc (Nat.le_refl _) (.cells #[.string x.out, .int .i64 x.op, .slice a1 n1 c1, .slice a2 n2 c2, .int .i64 x.n] 50)))
      clear hbel
      go_wp2_with fail
      refine cX.mono ?_
      rintro e wa ⟨rfl, hba⟩
      have HB2 := Lib.hid (builder_below HBA.out hba)
      have HN2 := Lib.hid (HNA.out.trans (hba.mono (by simp; omega)))
      have hsa := hba.size
      simp at hsa
      have hln : (⟨#[32, 32]⟩ : ByteArray) ++ ⟨(stepTx x).toArray⟩ ++ ⟨#[10]⟩ = (⟨(stepLn x).toArray⟩ : ByteArray) := by unfold stepLn; apply ByteArray.ext; simp
      obtain ⟨SB, hSB⟩ : ∃ SB : ByteArray, (⟨(stepTx x).toArray⟩ : ByteArray) = SB := ⟨_, rfl⟩
      have hSs : SB.size ≤ 140737488351232 := by rw [← hSB, size_list]; exact hxl
      rw [hSB] at hln ⊢
      have HLN := Lib.hid hln
      have hl3 := HLL.out
      clear hba cX d0 d1 d2 d3 d4 hln hSB
      go_wp2_with fail
      refine (writeL_c (w.heap.size + 1) (w.heap.size + 1) (T ++ stepsTx (r.steps.take k)) (stepLn x) _ HLN.out _ HB2.out (by rw [List.length_append]; omega) (by omega)).mono ?_
      rintro e wb ⟨⟨xb, yb, rfl⟩, hb, hbb⟩
      have HBb := Lib.hid hb
      have HNb := Lib.hid (HN2.out.trans hbb)
      clear hb hbb
      go_wp2
      go_roundw
      case rel => exact ⟨k + 1, by omega, by go_num, by rw [HNEXT.out, ← List.append_assoc]; exact HBb.out, HNb.out⟩
      case measure => simp [intOf]; omega
    · have hfull : r.steps.take k = r.steps := List.take_of_length_le (by omega)
      have hbu := HBU.out
      rw [hfull] at hbu
      have HBU := Lib.hid hbu
      have hi1 : ¬ (k : Int) < (rows.length : Int) := by omega
      clear hfull hbu hrl
      go_wp2_with fail
      refine (writeL_c (w.heap.size + 1) (w.heap.size + 1) (T ++ stepsTx r.steps) [125, 10] _ rfl _ HBU.out (by simp only [List.length_append, List.length_cons, List.length_nil]; omega) hsz).mono ?_
      rintro e wa ⟨⟨xa, ya, rfl⟩, ha, hba⟩
      have HBa := Lib.hid ha
      have HNa := Lib.hid (HNX.out.trans hba)
      have hsa := hba.size
      clear ha hba
      go_wp2_with fail
      refine (builderString_c (w.heap.size + 1) (w.heap.size + 1) _ wa HBa.out (by omega)).mono ?_
      rintro e wb ⟨rfl, hbb⟩
      go_wp2
      go_ret
      exact ⟨ret_str (by rw [HRES2.out]; first | done | rfl | simp), HDOWN.out _ (HNa.out.trans hbb)⟩
end Go.Proofs.YtlmnabhhgplhnaaGreatDoor
namespace Go.Proofs.YtlmnabhhgplhnaaGreatDoor
open Go.RowKit Go.Shelf

/-! ### Steps -/
def OwnSteps (B : Nat) (w : World) (v : Value) (xs : List StepS) : Prop := ∃ rows, w.ownsRow B 50 5 v rows.length rows.flatten ∧ AllA (StepA (AvOf B v) w) rows xs
theorem ownSteps_none (B : Nat) (w : World) : OwnSteps B w (.slice none 0 0) [] := ⟨[], ⟨rfl, .inl ⟨rfl, rfl⟩⟩, AllA.nil _⟩
theorem ownSteps_made (B : Nat) (w : World) (cur : Array Value) (cap : Nat) (hb : B ≤ w.heap.size) (hm : cap ≤ maxLen) (hs : cur.size = cap * 5) : OwnSteps B (w.alloc (.cells cur 50)) (.slice (some ⟨w.heap.size, 0, none⟩) 0 cap) [] :=
  ⟨[], World.ownsRow_made w cur cap hb hm hs, AllA.nil _⟩
theorem OwnSteps.below {B : Nat} {w w' : World} {v : Value} {xs : List StepS} (h : OwnSteps B w v xs) (hb : Below w.heap.size w w') : OwnSteps B w' v xs := by
  obtain ⟨rows, h1, h2⟩ := h
  exact ⟨rows, World.ownsRow.kept (row := none) h1 ⟨hb.os, hb.tape, hb.output, hb.size, fun k hk _ => hb.block k hk⟩ (by cases h : Value.ownBlock _ <;> simp), h2.imp fun r x h => h.keep (fr_below hb)⟩
theorem OwnSteps.fr {B : Nat} {w w' : World} {v : Value} {xs : List StepS} {Av : Nat → Prop} (h : OwnSteps B w v xs) (hf : Fr Av w w') (h1 : ∀ b, Av b → AvOf B v b) (h2 : ∀ b, v.ownBlock = some b → ¬ Av b) : OwnSteps B w' v xs := by
  obtain ⟨rows, hr, ha⟩ := h
  refine ⟨rows, ?_, ha.imp fun r x h => h.keep (hf.mono fun b _ e => h1 b e)⟩
  refine ⟨hr.1, ?_⟩
  rcases hr.2 with hn | ⟨g, cap, cur, rfl, hb, hg, rest⟩
  · exact .inl hn
  · exact .inr ⟨g, cap, cur, rfl, hb, (hf.block g (Array.getElem?_eq_some_iff.1 hg).1 (h2 g rfl)).trans hg, rest⟩
theorem OwnSteps.len {B : Nat} {w : World} {v : Value} {xs : List StepS} (h : OwnSteps B w v xs) : ∃ a c, v = .slice a xs.length c := by
  obtain ⟨rows, h1, h2⟩ := h
  rcases h1.2 with ⟨rfl, h0⟩ | ⟨g, cap, cur, rfl, _⟩
  · exact ⟨none, 0, by rw [← h2.1, h0]⟩
  · exact ⟨_, cap, by rw [h2.1]⟩
theorem OwnSteps.stepsA {B : Nat} {w : World} {v : Value} {xs : List StepS} (h : OwnSteps B w v xs) : StepsA (fun b => b < B) w v xs := by
  obtain ⟨rows, h1, h2⟩ := h
  exact ⟨rows, rowA_own h1 (h2.len fun r x h => h.len), h2.imp fun r x h => h.mono fun b _ e => .inl e⟩
theorem OwnSteps.lt {B : Nat} {w : World} {v : Value} {xs : List StepS} (h : OwnSteps B w v xs) : ∀ b, v.ownBlock = some b → B ≤ b ∧ b < w.heap.size := by
  obtain ⟨rows, h1, _⟩ := h
  exact fun b e => h1.lt b e

/-- An append of one step to a list of one's own. -/
theorem wpList_append_step {w : World} {ops : Array Oper} {rest : List Oper} {o : Oper} {a : Act} {Q : Exit → Act → World → Prop} (hgd : o.guard = none) (s x : Operand)
    (ho : o.op = .call { callee := .builtin .append, args := #[s, x], argTypes := #[36, 36] })
    (B : Nat) (v : Value) (xs : List StepS) (y : StepS) (a1 a2 : Option Addr) (n1 c1 n2 c2 : Nat) (hs : a.eval s = v) (hown : OwnSteps B w v xs) (hB : B ≤ w.heap.size) (hn : xs.length ≤ 1000000000)
    (hva : StrsA (AvOf B v) w (.slice a1 n1 c1) y.args) (hvl : StrsA (AvOf B v) w (.slice a2 n2 c2) y.lits)
    (gx : Nat) (hx : a.eval x = .slice (some ⟨gx, 0, none⟩) 1 1) (hgx : gx = w.heap.size)
    (h : ∀ v' w', OwnSteps B w' v' (xs ++ [y]) → Below B w w' → Fr (fun b => v.ownBlock = some b) w w' → (∀ b, v'.ownBlock = some b → v.ownBlock = some b ∨ w.heap.size ≤ b) → wpList Tryz.prog ops Q rest (a.put o.dst v') w') :
    wpList Tryz.prog ops Q (o :: rest) a (w.alloc (.cells #[.string y.out, .int .i64 y.op, .slice a1 n1 c1, .slice a2 n2 c2, .int .i64 y.n] 50)) := by
  subst hgx
  obtain ⟨i0, hi, hz0, hz1, hz2⟩ := info_of info_step
  obtain ⟨rows, h1, h2⟩ := hown
  have hrl := h2.1
  have hfa := fr_alloc (AvOf B v) w (.cells #[.string y.out, .int .i64 y.op, .slice a1 n1 c1, .slice a2 n2 c2, .int .i64 y.n] 50)
  refine wpList_append_new _ hgd s x 36 ho B 50 i0 (.agg #[.string ByteArray.empty, .int .i64 0, .slice none 0 0, .slice none 0 0, .int .i64 0]) 5 80 Tryz.underlying36 hi hz0 hz1 hz2 rfl (by decide) v rows.length rows.flatten hs (h1.alloc _) ⟨w.heap.size, 0, none⟩ 1 1 [.string y.out, .int .i64 y.op, .slice a1 n1 c1, .slice a2 n2 c2, .int .i64 y.n] hx rfl ?_ ?_ (by decide) ?_ ?_ ?_ ?_
  · intro j u hj
    match j, hj with
    | 0, hj => simp at hj; subst hj; simp [Addr.add]
    | 1, hj => simp at hj; subst hj; simp [Addr.add]
    | 2, hj => simp at hj; subst hj; simp [Addr.add]
    | 3, hj => simp at hj; subst hj; simp [Addr.add]
    | 4, hj => simp at hj; subst hj; simp [Addr.add]
  · intro u hu; simp at hu; rcases hu with rfl | rfl | rfl | rfl | rfl <;> rfl
  · unfold maxLen; omega
  · omega
  · simp; omega
  · intro v' w' ho' hg hnew
    have h3 : AllA (StepA (AvOf B v) w) (rows ++ [[.string y.out, .int .i64 y.op, .slice a1 n1 c1, .slice a2 n2 c2, .int .i64 y.n]]) (xs ++ [y]) := h2.snoc ⟨_, _, rfl, hva, hvl⟩
    have h4 := grow_steps (B := B) (v' := v') (h3.imp fun r x h => h.keep hfa) hg (fun b hb => (hnew b hb).imp id fun e => Nat.le_trans (by simp) e)
    refine h v' w' ⟨_, ?_, h4⟩ (((Below.refl B w).alloc hB _).grown hg (by simp; omega) (fun b hb => (h1.lt b hb).1)) ((fr_alloc _ w _).trans (fr_grown hg fun k e => e)) (fun b hb => (hnew b hb).imp id fun e => Nat.le_trans (by simp) e)
    rw [List.length_append, List.flatten_append]
    simpa using ho'

theorem clone_strs {w : World} {xs : List ByteArray} {e : Ending} {w' : World} (h : CloneSPost w xs e w') : ∃ a n c, e = .returned (.slice a n c) ∧ StrsA (fun b => b < w.heap.size) w' (.slice a n c) xs ∧ Below w.heap.size w w' := by
  obtain ⟨v, rfl, hv, hb⟩ := h
  rcases hv with ⟨rfl, rfl⟩ | ⟨g, c, rfl, ho⟩
  · exact ⟨_, _, _, rfl, rowA_nil _ _ _, hb⟩
  · exact ⟨_, _, _, rfl, strsA_own (t := 9) ho, hb⟩
def CloneStepsPost (w : World) (xs : List StepS) (e : Ending) (w' : World) : Prop := ∃ a n c, e = .returned (.slice a n c) ∧ StepsA (fun b => b < w.heap.size) w' (.slice a n c) xs ∧ Below w.heap.size w w'
theorem steps_at {Av : Nat → Prop} {w : World} {v : Value} {xs : List StepS} (h : StepsA Av w v xs) {k : Nat} {x : StepS} (hx : xs[k]? = some x) :
    ∃ g o cap a1 n1 c1 a2 n2 c2, v = .slice (some ⟨g, o, none⟩) xs.length cap ∧ g < w.heap.size ∧ StrsA Av w (.slice a1 n1 c1) x.args ∧ StrsA Av w (.slice a2 n2 c2) x.lits ∧ ∀ w', Below w.heap.size w w' →
      w'.cell? ⟨g, o + k * 5, none⟩ = some (.string x.out) ∧ w'.cell? ⟨g, o + k * 5 + 1, none⟩ = some (.int .i64 x.op) ∧ w'.cell? ⟨g, o + k * 5 + 2, none⟩ = some (.slice a1 n1 c1) ∧ w'.cell? ⟨g, o + k * 5 + 3, none⟩ = some (.slice a2 n2 c2) ∧ w'.cell? ⟨g, o + k * 5 + 4, none⟩ = some (.int .i64 x.n) := by
  obtain ⟨rows, hrow, hall⟩ := h
  have hk : k < rows.length := by rw [hall.1]; exact (List.getElem?_eq_some_iff.1 hx).1
  obtain ⟨va, vl, e, ha, hl⟩ := hall.2 k _ x (List.getElem?_eq_getElem hk) hx
  obtain ⟨g, o, cap, hv, hg', hc⟩ := row5_at hrow (k := k) (by rw [List.getElem?_eq_getElem hk, e])
  obtain ⟨a1, n1, c1, hva⟩ := rowA_shape ha
  obtain ⟨a2, n2, c2, hvl⟩ := rowA_shape hl
  subst hva hvl
  exact ⟨g, o, cap, a1, n1, c1, a2, n2, c2, by rw [hv, hall.1], hg', ha, hl, hc⟩
theorem stepsA_len {Av : Nat → Prop} {w : World} {v : Value} {xs : List StepS} (h : StepsA Av w v xs) : ∃ a c, v = .slice a xs.length c ∧ xs.length ≤ c ∧ c ≤ maxLen := by
  obtain ⟨rows, hrow, hall⟩ := h
  rw [← hall.1]
  exact rowA_len hrow

set_option maxHeartbeats 8000000 in
set_option maxRecDepth 100000 in
theorem cloneSteps_any (v : Value) (xs : List StepS) (Av : Nat → Prop) (w : World) (h : StepsA Av w v xs) (hn : xs.length ≤ 1000000) (hfew : ∀ x ∈ xs, x.args.length ≤ 1000000 ∧ x.lits.length ≤ 1000000) :
    Calls Tryz.prog 88 #[v] w (CloneStepsPost w xs) := by
  obtain ⟨sa, sc, hv, hs1, hs2⟩ := stepsA_len h
  subst hv
  have hcs : ∀ (k : Nat) x, xs[k]? = some x → _ := fun k x hx => steps_at h hx
  have HCS := Lib.hid hcs
  have HFEW := Lib.hid hfew
  obtain ⟨i0, hi, hz0, hz1, hz2⟩ := info_of info_step
  clear hcs h hfew
  go_enter Tryz.func88, Tryz.ntmps88
  go_wp2_with (refine wpList_make_own _ rfl _ _ 36 rfl w.heap.size 50 i0 (.agg #[.string ByteArray.empty, .int .i64 0, .slice none 0 0, .slice none 0 0, .int .i64 0]) 5 Tryz.underlying36 hi hz0 hz1 .i64 .i64 (xs.length : Int) xs.length rfl rfl rfl (by rw [hz2]; omega) (by unfold maxLen; omega) (Nat.le_refl _) ?_)
  intro w1 hown1 hg1
  have hb1 : Below w.heap.size w w1 := ⟨hg1.os, hg1.tape, hg1.output, hg1.size, fun k hk => hg1.block k hk (by simp)⟩
  have HO1 : Hid (OwnSteps w.heap.size w1 (.slice (some ⟨w.heap.size, 0, none⟩) 0 xs.length) []) := ⟨[], hown1, AllA.nil _⟩
  have HN1 := Lib.hid hb1
  clear hown1 hg1 hb1
  go_wp2
  go_loopw [3, 11] (fun vv i wr => ∃ k : Nat, k ≤ xs.length ∧ i = .int .i64 k ∧ OwnSteps w.heap.size wr vv (xs.take k) ∧ Below w.heap.size w wr)
    (fun _ i _ => xs.length - (intOf i).toNat)
  case atStart => exact ⟨0, Nat.zero_le _, rfl, by simpa using HO1.out, HN1.out⟩
  case round =>
    obtain ⟨k, hk, rfl, hown, hnx⟩ := hrel
    have hsz := hnx.size
    have HO := Lib.hid hown
    have HNX := Lib.hid hnx
    clear hown hnx
    by_cases hlt : k < xs.length
    · obtain ⟨x, hx⟩ : ∃ x, xs[k]? = some x := ⟨xs[k], List.getElem?_eq_getElem hlt⟩
      obtain ⟨g, o, cap, a1, n1, c1, a2, n2, c2, hv, hg, hA, hL, hc⟩ := HCS.out k x hx
      have hi1 : (k : Int) < (xs.length : Int) := by omega
      have hfx := HFEW.out x (List.mem_of_getElem? hx)
      have htk : xs.take (k + 1) = xs.take k ++ [x] := by rw [List.take_add_one, hx]; rfl
      obtain ⟨d0, d1, d2, d3, d4⟩ := hc _ HNX.out
      have HTK := Lib.hid htk
      have HAX := Lib.hid hA
      have HLX := Lib.hid hL
      cases hv
      clear hc hx htk hA hL
      obtain ⟨ob, hob⟩ : ∃ ob : Obj, ob = .cells #[.string x.out, .int .i64 x.op, .slice a1 n1 c1, .slice a2 n2 c2, .int .i64 x.n] 50 := ⟨_, rfl⟩
      have hnA : Below wr.heap.size wr (wr.alloc ob) := (Below.refl _ _).alloc (Nat.le_refl _) _
      have hup : ∀ W, Below wr.heap.size wr W → Below w.heap.size w W := fun W h => HNX.out.trans (h.mono hsz)
      have cA := cloneS_any (.slice a1 n1 c1) x.args (wr.alloc ob) (HAX.out.isStrs.below (hup _ hnA)) (by omega)
      have HBK : Hid ((wr.alloc ob).heap[wr.heap.size]? = some ob) := alloc_at wr ob
      have HNA := Lib.hid hnA
      have HUP := Lib.hid hup
      have CA := Lib.hid cA
      clear hnA cA hup
      subst hob
      go_wp2_with fail
      refine CA.out.mono ?_
      intro e w2 hpost
      obtain ⟨va, na, ca, rfl, hsa, hb2⟩ := clone_strs hpost
      have hbk2 := (hb2.block _ (by simp)).trans HBK.out
      have HBK2 := Lib.hid hbk2
      obtain ⟨e0, e1, e2, e3, e4, f0, f1, f2, f3, f4⟩ := cells5 hbk2
      have hn2 : Below wr.heap.size wr w2 := HNA.out.trans (hb2.mono (by simp))
      have hn3 : Below wr.heap.size wr (w2.setCell ⟨wr.heap.size, 2, none⟩ (.slice va na ca)) := hn2.setCell (Nat.le_refl _) _
      have hsa3 : StrsA (fun b => b ≤ wr.heap.size) (w2.setCell ⟨wr.heap.size, 2, none⟩ (.slice va na ca)) (.slice va na ca) x.args :=
        RowA.keep (RowA.mono hsa fun b _ e => by simp; omega) (fr_set (a := ⟨wr.heap.size, 2, none⟩) (Av := fun b => b ≤ wr.heap.size) (Nat.le_refl _) _)
      have cL := cloneS_any (.slice a2 n2 c2) x.lits (w2.setCell ⟨wr.heap.size, 2, none⟩ (.slice va na ca)) (HLX.out.isStrs.below (HUP.out _ hn3)) (by omega)
      have HBK3 : Hid ((w2.setCell ⟨wr.heap.size, 2, none⟩ (.slice va na ca)).heap[wr.heap.size]? = some (.cells #[.string x.out, .int .i64 x.op, .slice va na ca, .slice a2 n2 c2, .int .i64 x.n] 50)) := heap_set 2 (.slice va na ca) hbk2
      have HN3 := Lib.hid hn3
      have HSA3 := Lib.hid hsa3
      have CL := Lib.hid cL
      clear hpost hbk2 hsa hb2 d0 d1 d2 d3 d4 hn2 hn3 cL hsa3
      go_wp2_with fail
      refine CL.out.mono ?_
      intro e w4 hpost
      obtain ⟨vl, nl, cl, rfl, hsl, hb4⟩ := clone_strs hpost
      clear e0 e1 e2 e3 e4 f0 f1 f2 f3 f4
      have hlt3 : wr.heap.size < (w2.setCell ⟨wr.heap.size, 2, none⟩ (.slice va na ca)).heap.size := (Array.getElem?_eq_some_iff.1 HBK3.out).1
      have hbk4 := (hb4.block _ hlt3).trans HBK3.out
      obtain ⟨e0, e1, e2, e3, e4, f0, f1, f2, f3, f4⟩ := cells5 hbk4
      have hn4 : Below wr.heap.size wr w4 := HN3.out.trans (hb4.mono (by omega))
      have hn5 : Below wr.heap.size wr (w4.setCell ⟨wr.heap.size, 3, none⟩ (.slice vl nl cl)) := hn4.setCell (Nat.le_refl _) _
      have hsa5 : StrsA (fun b => b ≤ wr.heap.size) (w4.setCell ⟨wr.heap.size, 3, none⟩ (.slice vl nl cl)) (.slice va na ca) x.args :=
        RowA.keep (RowA.keep HSA3.out (fr_below hb4)) (fr_set (a := ⟨wr.heap.size, 3, none⟩) (Av := fun b => b ≤ wr.heap.size) (Nat.le_refl _) _)
      have hsl5 : StrsA (fun b => b ≤ wr.heap.size) (w4.setCell ⟨wr.heap.size, 3, none⟩ (.slice vl nl cl)) (.slice vl nl cl) x.lits :=
        RowA.keep (RowA.mono hsl fun b _ e => by omega) (fr_set (a := ⟨wr.heap.size, 3, none⟩) (Av := fun b => b ≤ wr.heap.size) (Nat.le_refl _) _)
      have hO5 := HO.out.below hn5
      have hlow := fun b hb => (HO.out.lt b hb).2
      have hav : ∀ b, AvOf w.heap.size _ b → b ≤ wr.heap.size := fun b e => by
        rcases e with e | e
        · omega
        · exact Nat.le_of_lt (hlow b e)
      have HO5 := Lib.hid hO5
      have HA5 := Lib.hid (RowA.mono hsa5 fun b _ e => hav b e)
      have HL5 := Lib.hid (RowA.mono hsl5 fun b _ e => hav b e)
      have HN5 := Lib.hid hn5
      have HTL : Hid ((xs.take k).length ≤ 1000000000) := by show _ ≤ _; rw [List.length_take]; omega
      have hs5 : w.heap.size ≤ (w4.setCell ⟨wr.heap.size, 3, none⟩ (.slice vl nl cl)).heap.size := Nat.le_trans hsz hn5.size
      have HS5 := Lib.hid hs5
      have HBK4 := Lib.hid hbk4
      clear hpost hbk4 hb4 hn4 hn5 hsa5 hsl5 hsl hO5 hlow hav hlt3 hs5
      go_wp2_with (at_builtin; refine wpList_append_step (by rfl) _ _ (by rfl) w.heap.size _ (xs.take k) x va vl na ca nl cl (by rfl) HO5.out HS5.out HTL.out HA5.out HL5.out _ (by rfl) (by simp [World.setCell]) ?_)
      intro v' w6 hown6 hb6 _ _
      have HO6 : Hid (OwnSteps w.heap.size w6 v' (xs.take (k + 1))) := by show OwnSteps _ _ _ _; rw [HTK.out]; exact hown6
      have HN6 := Lib.hid ((HUP.out _ HN5.out).trans hb6)
      clear hown6 hb6 e0 e1 e2 e3 e4 f0 f1 f2 f3 f4
      go_wp2
      go_roundw
      case rel => exact ⟨k + 1, by omega, by go_num, HO6.out, HN6.out⟩
      case measure => simp [intOf]; omega
    · have hfull : xs.take k = xs := List.take_of_length_le (by omega)
      have hi1 : ¬ (k : Int) < (xs.length : Int) := by omega
      have hO := HO.out
      rw [hfull] at hO
      obtain ⟨ra, rc, hr⟩ := hO.len
      subst hr
      have HO := Lib.hid hO
      clear hfull hO
      go_wp2
      go_ret
      exact ⟨_, _, _, rfl, HO.out.stepsA, HNX.out⟩
end Go.Proofs.YtlmnabhhgplhnaaGreatDoor
namespace Go.Proofs.YtlmnabhhgplhnaaGreatDoor
open Go.RowKit Go.Shelf

/-- What sorting asks of a rule's lists. -/
def FewR (r : RuleS) : Prop := r.ins.length ≤ 1000000 ∧ r.outs.length ≤ 1000000 ∧ r.after.length ≤ 1000000 ∧ r.steps.length ≤ 1000000 ∧ ∀ x ∈ r.steps, x.args.length ≤ 1000000 ∧ x.lits.length ≤ 1000000
/-- A rule of one's own, by value. -/
def OneRulePost (w : World) (r : RuleS) (e : Ending) (w' : World) : Prop :=
  ∃ a1 n1 c1 a2 n2 c2 a3 n3 c3 a4 n4 c4, e = .returned (.agg #[.string r.name, .slice a1 n1 c1, .slice a2 n2 c2, .slice a3 n3 c3, .slice a4 n4 c4]) ∧
    RuleA (fun b => b < w.heap.size) w' [.string r.name, .slice a1 n1 c1, .slice a2 n2 c2, .slice a3 n3 c3, .slice a4 n4 c4] r ∧ Below w.heap.size w w'
theorem sorted_strs {w : World} {xs : List ByteArray} {e : Ending} {w' : World} (h : SortedPost w xs e w') : ∃ a n c, e = .returned (.slice a n c) ∧ StrsA (fun b => b < w.heap.size) w' (.slice a n c) (srtB xs) ∧ Below w.heap.size w w' := by
  obtain ⟨v, rfl, _, hA, hb⟩ := h
  obtain ⟨a, n, c, rfl⟩ := rowA_shape hA
  exact ⟨a, n, c, rfl, hA, hb⟩
theorem steps_fr {Av : Nat → Prop} {w w' : World} {v : Value} {xs : List StepS} (h : StepsA Av w v xs) (hf : Fr Av w w') : StepsA Av w' v xs := h.keep hf

set_option maxHeartbeats 8000000 in
set_option maxRecDepth 100000 in
theorem sortedRule_any (r : RuleS) (vi vo vf vs : Value) (Av : Nat → Prop) (w : World) (hr : RuleA Av w [.string r.name, vi, vo, vf, vs] r) (hfew : FewR r) :
    Calls Tryz.prog 45 #[.agg #[.string r.name, vi, vo, vf, vs]] w (OneRulePost w (sortR r)) := by
  obtain ⟨_, _, _, _, he, hI, hO, hF, hS⟩ := hr
  cases he
  obtain ⟨ia, inn, ic, hvi⟩ := rowA_shape hI
  obtain ⟨oa, on, oc, hvo⟩ := rowA_shape hO
  obtain ⟨fa, fnn, fc, hvf⟩ := rowA_shape hF
  obtain ⟨sa, sc, hvs, _, _⟩ := stepsA_len hS
  subst hvi hvo hvf hvs
  have c1 : ∀ w', Below w.heap.size w w' → Calls Tryz.prog 87 #[.slice ia inn ic] w' (SortedPost w' r.ins) := fun w' hb => sortedNames_any _ _ w' (hI.isStrs.below hb) (by have := hfew.1; omega)
  have c2 : ∀ w', Below w.heap.size w w' → Calls Tryz.prog 87 #[.slice oa on oc] w' (SortedPost w' r.outs) := fun w' hb => sortedNames_any _ _ w' (hO.isStrs.below hb) (by have := hfew.2.1; omega)
  have c3 : ∀ w', Below w.heap.size w w' → Calls Tryz.prog 87 #[.slice fa fnn fc] w' (SortedPost w' r.after) := fun w' hb => sortedNames_any _ _ w' (hF.isStrs.below hb) (by have := hfew.2.2.1; omega)
  have c4 : ∀ w', Below w.heap.size w w' → Calls Tryz.prog 88 #[.slice sa r.steps.length sc] w' (CloneStepsPost w' r.steps) := fun w' hb => cloneSteps_any _ _ Av w' (hS.keep (fr_below hb)) hfew.2.2.2.1 hfew.2.2.2.2
  have C1 := Lib.hid c1; have C2 := Lib.hid c2; have C3 := Lib.hid c3; have C4 := Lib.hid c4
  clear c1 c2 c3 c4 hI hO hF hS hfew
  obtain ⟨W0, hW0⟩ : ∃ W0, W0 = ((w.alloc (.cells #[.string r.name, .slice ia inn ic, .slice oa on oc, .slice fa fnn fc, .slice sa r.steps.length sc] 38)).alloc (.cells #[.string ⟨#[]⟩, .slice none 0 0, .slice none 0 0, .slice none 0 0, .slice none 0 0] 38)) := ⟨_, rfl⟩
  have hs0 : w.heap.size + 2 ≤ W0.heap.size := by rw [hW0]; simp
  have HX0 : Hid (W0.heap[w.heap.size]? = some (.cells #[.string r.name, .slice ia inn ic, .slice oa on oc, .slice fa fnn fc, .slice sa r.steps.length sc] 38)) := by
    show W0.heap[w.heap.size]? = _
    rw [hW0, Below.heap_alloc _ _ _ (by simp)]; exact alloc_at w _
  have HZ0 : Hid (W0.heap[w.heap.size + 1]? = some (.cells #[.string ⟨#[]⟩, .slice none 0 0, .slice none 0 0, .slice none 0 0, .slice none 0 0] 38)) := by
    show W0.heap[w.heap.size + 1]? = _
    have := alloc_at (w.alloc (.cells #[.string r.name, .slice ia inn ic, .slice oa on oc, .slice fa fnn fc, .slice sa r.steps.length sc] 38)) (.cells #[.string ⟨#[]⟩, .slice none 0 0, .slice none 0 0, .slice none 0 0, .slice none 0 0] 38)
    rw [hW0]
    simpa using this
  have HN0 : Hid (Below w.heap.size w W0) := by
    show Below _ _ _
    rw [hW0]; exact ((Below.refl _ _).alloc (Nat.le_refl _) _).alloc (by simp) _
  have HS0 := Lib.hid hs0
  clear hs0
  subst hW0
  go_enter Tryz.func45, Tryz.ntmps45
  go_wp2_with fail
  refine (C1.out _ HN0.out).mono ?_
  intro e v1 hpost
  obtain ⟨a1, n1, c1, rfl, hA, hb⟩ := sorted_strs hpost
  have hx := (hb.block _ (by have := HS0.out; omega)).trans HX0.out
  have hz := (hb.block _ (by have := HS0.out; omega)).trans HZ0.out
  obtain ⟨e0, e1, e2, e3, e4, f0, f1, f2, f3, f4⟩ := cells5 hx
  have HX1 : Hid ((v1.setCell ⟨w.heap.size, 1, none⟩ (.slice a1 n1 c1)).heap[w.heap.size]? = some (.cells #[.string r.name, .slice a1 n1 c1, .slice oa on oc, .slice fa fnn fc, .slice sa r.steps.length sc] 38)) := heap_set 1 (.slice a1 n1 c1) hx
  have HZ1 : Hid ((v1.setCell ⟨w.heap.size, 1, none⟩ (.slice a1 n1 c1)).heap[w.heap.size + 1]? = some (.cells #[.string ⟨#[]⟩, .slice none 0 0, .slice none 0 0, .slice none 0 0, .slice none 0 0] 38)) := (Below.heap_setCell _ _ _ _ (by simp)).trans hz
  have HN1 : Hid (Below w.heap.size w (v1.setCell ⟨w.heap.size, 1, none⟩ (.slice a1 n1 c1))) := (HN0.out.trans (hb.mono (by have := HS0.out; omega))).setCell (Nat.le_refl _) _
  have HS1 : Hid (w.heap.size + 2 ≤ (v1.setCell ⟨w.heap.size, 1, none⟩ (.slice a1 n1 c1)).heap.size) := by
    show _ ≤ _
    have h1 := HS0.out; have h2 := hb.size; simp [World.setCell]; omega
  have HL1_1 : Hid (StrsA (fun b => b < w.heap.size + 2) (v1.setCell ⟨w.heap.size, 1, none⟩ (.slice a1 n1 c1)) (.slice a1 n1 c1) (sortR r).ins) :=
    RowA.keep (RowA.mono hA fun b _ e => by have := HS0.out; omega) (fr_set (a := ⟨w.heap.size, 1, none⟩) (Av := fun b => b < w.heap.size + 2) (by show w.heap.size < w.heap.size + 2; omega) _)
  clear hpost hA hx hz hb
  go_wp2_with fail
  refine (C2.out _ HN1.out).mono ?_
  intro e v2 hpost
  obtain ⟨a2, n2, c2, rfl, hA, hb⟩ := sorted_strs hpost
  clear e0 e1 e2 e3 e4 f0 f1 f2 f3 f4
  have hx := (hb.block _ (by have := HS1.out; omega)).trans HX1.out
  have hz := (hb.block _ (by have := HS1.out; omega)).trans HZ1.out
  obtain ⟨e0, e1, e2, e3, e4, f0, f1, f2, f3, f4⟩ := cells5 hx
  have HX2 : Hid ((v2.setCell ⟨w.heap.size, 2, none⟩ (.slice a2 n2 c2)).heap[w.heap.size]? = some (.cells #[.string r.name, .slice a1 n1 c1, .slice a2 n2 c2, .slice fa fnn fc, .slice sa r.steps.length sc] 38)) := heap_set 2 (.slice a2 n2 c2) hx
  have HZ2 : Hid ((v2.setCell ⟨w.heap.size, 2, none⟩ (.slice a2 n2 c2)).heap[w.heap.size + 1]? = some (.cells #[.string ⟨#[]⟩, .slice none 0 0, .slice none 0 0, .slice none 0 0, .slice none 0 0] 38)) := (Below.heap_setCell _ _ _ _ (by simp)).trans hz
  have HN2 : Hid (Below w.heap.size w (v2.setCell ⟨w.heap.size, 2, none⟩ (.slice a2 n2 c2))) := (HN1.out.trans (hb.mono (by have := HS1.out; omega))).setCell (Nat.le_refl _) _
  have HS2 : Hid (w.heap.size + 2 ≤ (v2.setCell ⟨w.heap.size, 2, none⟩ (.slice a2 n2 c2)).heap.size) := by
    show _ ≤ _
    have h1 := HS1.out; have h2 := hb.size; simp [World.setCell]; omega
  have HL1_2 : Hid (StrsA (fun b => b < w.heap.size + 2) (v2.setCell ⟨w.heap.size, 2, none⟩ (.slice a2 n2 c2)) (.slice a1 n1 c1) (sortR r).ins) :=
    RowA.keep (RowA.keep HL1_1.out (fr_below hb)) (fr_set (a := ⟨w.heap.size, 2, none⟩) (Av := fun b => b < w.heap.size + 2) (by show w.heap.size < w.heap.size + 2; omega) _)
  have HL2_2 : Hid (StrsA (fun b => b < w.heap.size + 2) (v2.setCell ⟨w.heap.size, 2, none⟩ (.slice a2 n2 c2)) (.slice a2 n2 c2) (sortR r).outs) :=
    RowA.keep (RowA.mono hA fun b _ e => by have := HS1.out; omega) (fr_set (a := ⟨w.heap.size, 2, none⟩) (Av := fun b => b < w.heap.size + 2) (by show w.heap.size < w.heap.size + 2; omega) _)
  clear hpost hA hx hz hb
  go_wp2_with fail
  refine (C3.out _ HN2.out).mono ?_
  intro e v3 hpost
  obtain ⟨a3, n3, c3, rfl, hA, hb⟩ := sorted_strs hpost
  clear e0 e1 e2 e3 e4 f0 f1 f2 f3 f4
  have hx := (hb.block _ (by have := HS2.out; omega)).trans HX2.out
  have hz := (hb.block _ (by have := HS2.out; omega)).trans HZ2.out
  obtain ⟨e0, e1, e2, e3, e4, f0, f1, f2, f3, f4⟩ := cells5 hx
  have HX3 : Hid ((v3.setCell ⟨w.heap.size, 3, none⟩ (.slice a3 n3 c3)).heap[w.heap.size]? = some (.cells #[.string r.name, .slice a1 n1 c1, .slice a2 n2 c2, .slice a3 n3 c3, .slice sa r.steps.length sc] 38)) := heap_set 3 (.slice a3 n3 c3) hx
  have HZ3 : Hid ((v3.setCell ⟨w.heap.size, 3, none⟩ (.slice a3 n3 c3)).heap[w.heap.size + 1]? = some (.cells #[.string ⟨#[]⟩, .slice none 0 0, .slice none 0 0, .slice none 0 0, .slice none 0 0] 38)) := (Below.heap_setCell _ _ _ _ (by simp)).trans hz
  have HN3 : Hid (Below w.heap.size w (v3.setCell ⟨w.heap.size, 3, none⟩ (.slice a3 n3 c3))) := (HN2.out.trans (hb.mono (by have := HS2.out; omega))).setCell (Nat.le_refl _) _
  have HS3 : Hid (w.heap.size + 2 ≤ (v3.setCell ⟨w.heap.size, 3, none⟩ (.slice a3 n3 c3)).heap.size) := by
    show _ ≤ _
    have h1 := HS2.out; have h2 := hb.size; simp [World.setCell]; omega
  have HL1_3 : Hid (StrsA (fun b => b < w.heap.size + 2) (v3.setCell ⟨w.heap.size, 3, none⟩ (.slice a3 n3 c3)) (.slice a1 n1 c1) (sortR r).ins) :=
    RowA.keep (RowA.keep HL1_2.out (fr_below hb)) (fr_set (a := ⟨w.heap.size, 3, none⟩) (Av := fun b => b < w.heap.size + 2) (by show w.heap.size < w.heap.size + 2; omega) _)
  have HL2_3 : Hid (StrsA (fun b => b < w.heap.size + 2) (v3.setCell ⟨w.heap.size, 3, none⟩ (.slice a3 n3 c3)) (.slice a2 n2 c2) (sortR r).outs) :=
    RowA.keep (RowA.keep HL2_2.out (fr_below hb)) (fr_set (a := ⟨w.heap.size, 3, none⟩) (Av := fun b => b < w.heap.size + 2) (by show w.heap.size < w.heap.size + 2; omega) _)
  have HL3_3 : Hid (StrsA (fun b => b < w.heap.size + 2) (v3.setCell ⟨w.heap.size, 3, none⟩ (.slice a3 n3 c3)) (.slice a3 n3 c3) (sortR r).after) :=
    RowA.keep (RowA.mono hA fun b _ e => by have := HS2.out; omega) (fr_set (a := ⟨w.heap.size, 3, none⟩) (Av := fun b => b < w.heap.size + 2) (by show w.heap.size < w.heap.size + 2; omega) _)
  clear hpost hA hx hz hb
  go_wp2_with fail
  refine (C4.out _ HN3.out).mono ?_
  intro e v4 hpost
  obtain ⟨a4, n4, c4, rfl, hA, hb⟩ := hpost
  clear e0 e1 e2 e3 e4 f0 f1 f2 f3 f4
  have hx := (hb.block _ (by have := HS3.out; omega)).trans HX3.out
  have hz := (hb.block _ (by have := HS3.out; omega)).trans HZ3.out
  obtain ⟨e0, e1, e2, e3, e4, f0, f1, f2, f3, f4⟩ := cells5 hx
  have HX4 : Hid ((v4.setCell ⟨w.heap.size, 4, none⟩ (.slice a4 n4 c4)).heap[w.heap.size]? = some (.cells #[.string r.name, .slice a1 n1 c1, .slice a2 n2 c2, .slice a3 n3 c3, .slice a4 n4 c4] 38)) := heap_set 4 (.slice a4 n4 c4) hx
  have HZ4 : Hid ((v4.setCell ⟨w.heap.size, 4, none⟩ (.slice a4 n4 c4)).heap[w.heap.size + 1]? = some (.cells #[.string ⟨#[]⟩, .slice none 0 0, .slice none 0 0, .slice none 0 0, .slice none 0 0] 38)) := (Below.heap_setCell _ _ _ _ (by simp)).trans hz
  have HN4 : Hid (Below w.heap.size w (v4.setCell ⟨w.heap.size, 4, none⟩ (.slice a4 n4 c4))) := (HN3.out.trans (hb.mono (by have := HS3.out; omega))).setCell (Nat.le_refl _) _
  have HS4 : Hid (w.heap.size + 2 ≤ (v4.setCell ⟨w.heap.size, 4, none⟩ (.slice a4 n4 c4)).heap.size) := by
    show _ ≤ _
    have h1 := HS3.out; have h2 := hb.size; simp [World.setCell]; omega
  have HL1_4 : Hid (StrsA (fun b => b < w.heap.size + 2) (v4.setCell ⟨w.heap.size, 4, none⟩ (.slice a4 n4 c4)) (.slice a1 n1 c1) (sortR r).ins) :=
    RowA.keep (RowA.keep HL1_3.out (fr_below hb)) (fr_set (a := ⟨w.heap.size, 4, none⟩) (Av := fun b => b < w.heap.size + 2) (by show w.heap.size < w.heap.size + 2; omega) _)
  have HL2_4 : Hid (StrsA (fun b => b < w.heap.size + 2) (v4.setCell ⟨w.heap.size, 4, none⟩ (.slice a4 n4 c4)) (.slice a2 n2 c2) (sortR r).outs) :=
    RowA.keep (RowA.keep HL2_3.out (fr_below hb)) (fr_set (a := ⟨w.heap.size, 4, none⟩) (Av := fun b => b < w.heap.size + 2) (by show w.heap.size < w.heap.size + 2; omega) _)
  have HL3_4 : Hid (StrsA (fun b => b < w.heap.size + 2) (v4.setCell ⟨w.heap.size, 4, none⟩ (.slice a4 n4 c4)) (.slice a3 n3 c3) (sortR r).after) :=
    RowA.keep (RowA.keep HL3_3.out (fr_below hb)) (fr_set (a := ⟨w.heap.size, 4, none⟩) (Av := fun b => b < w.heap.size + 2) (by show w.heap.size < w.heap.size + 2; omega) _)
  have HL4_4 : Hid (StepsA (fun b => b < w.heap.size + 2) (v4.setCell ⟨w.heap.size, 4, none⟩ (.slice a4 n4 c4)) (.slice a4 n4 c4) (sortR r).steps) :=
    StepsA.keep (StepsA.mono hA fun b _ e => by have := HS3.out; omega) (fr_set (a := ⟨w.heap.size, 4, none⟩) (Av := fun b => b < w.heap.size + 2) (by show w.heap.size < w.heap.size + 2; omega) _)
  clear hA hx hz hb
  obtain ⟨e0, e1, e2, e3, e4, f0, f1, f2, f3, f4⟩ := cells5 HX4.out
  obtain ⟨z0, z1, z2, z3, z4, g0, g1, g2, g3, g4⟩ := cells5 HZ4.out
  go_wp2
  have hfs : ∀ (W : World) (i : Nat) (u : Value), Fr (fun b => b < w.heap.size + 2) W (W.setCell ⟨w.heap.size + 1, i, none⟩ u) := fun W i u => fr_set (a := ⟨w.heap.size + 1, i, none⟩) (Av := fun b => b < w.heap.size + 2) (by show w.heap.size + 1 < w.heap.size + 2; omega) u
  have hf := ((((hfs _ 0 (.string r.name)).trans (hfs _ 1 (.slice a1 n1 c1))).trans (hfs _ 2 (.slice a2 n2 c2))).trans (hfs _ 3 (.slice a3 n3 c3))).trans (hfs (((((v4.setCell ⟨w.heap.size, 4, none⟩ (.slice a4 n4 c4)).setCell ⟨w.heap.size + 1, 0, none⟩ (.string r.name)).setCell ⟨w.heap.size + 1, 1, none⟩ (.slice a1 n1 c1)).setCell ⟨w.heap.size + 1, 2, none⟩ (.slice a2 n2 c2)).setCell ⟨w.heap.size + 1, 3, none⟩ (.slice a3 n3 c3)) 4 (.slice a4 n4 c4))
  have hcell := heap_set 4 (.slice a4 n4 c4) (heap_set 3 (.slice a3 n3 c3) (heap_set 2 (.slice a2 n2 c2) (heap_set 1 (.slice a1 n1 c1) (heap_set 0 (.string r.name) HZ4.out))))
  have hbs : ∀ (W : World) (i : Nat) (u : Value), Below w.heap.size w W → Below w.heap.size w (W.setCell ⟨w.heap.size + 1, i, none⟩ u) := fun W i u h => h.setCell (show w.heap.size ≤ w.heap.size + 1 by omega) u
  have hn := hbs _ 4 (.slice a4 n4 c4) (hbs _ 3 (.slice a3 n3 c3) (hbs _ 2 (.slice a2 n2 c2) (hbs _ 1 (.slice a1 n1 c1) (hbs _ 0 (.string r.name) HN4.out))))
  refine bodyPost_ret (results_c rfl _ _ (w.heap.size + 1) _ _ _ _ rfl hcell Tryz.underlying38 rfl (by kernel_rfl)) rfl ?_
  refine ⟨a1, n1, c1, a2, n2, c2, a3, n3, c3, a4, n4, c4, rfl, ⟨_, _, _, _, rfl, ?_, ?_, ?_, ?_⟩, hn⟩
  · exact RowA.mono (RowA.keep HL1_4.out hf) fun b _ e => by omega
  · exact RowA.mono (RowA.keep HL2_4.out hf) fun b _ e => by omega
  · exact RowA.mono (RowA.keep HL3_4.out hf) fun b _ e => by omega
  · exact StepsA.mono (StepsA.keep HL4_4.out hf) fun b _ e => by omega
end Go.Proofs.YtlmnabhhgplhnaaGreatDoor
namespace Go.Proofs.YtlmnabhhgplhnaaGreatDoor
open Go.RowKit Go.Shelf

/-! ### Rules -/
def OwnRules (B : Nat) (w : World) (v : Value) (xs : List RuleS) : Prop := ∃ rows, w.ownsRow B 38 5 v rows.length rows.flatten ∧ AllA (RuleA (AvOf B v) w) rows xs
theorem ownRules_none (B : Nat) (w : World) : OwnRules B w (.slice none 0 0) [] := ⟨[], ⟨rfl, .inl ⟨rfl, rfl⟩⟩, AllA.nil _⟩
theorem ownRules_made (B : Nat) (w : World) (cur : Array Value) (cap : Nat) (hb : B ≤ w.heap.size) (hm : cap ≤ maxLen) (hs : cur.size = cap * 5) : OwnRules B (w.alloc (.cells cur 38)) (.slice (some ⟨w.heap.size, 0, none⟩) 0 cap) [] :=
  ⟨[], World.ownsRow_made w cur cap hb hm hs, AllA.nil _⟩
theorem OwnRules.below {B : Nat} {w w' : World} {v : Value} {xs : List RuleS} (h : OwnRules B w v xs) (hb : Below w.heap.size w w') : OwnRules B w' v xs := by
  obtain ⟨rows, h1, h2⟩ := h
  exact ⟨rows, World.ownsRow.kept (row := none) h1 ⟨hb.os, hb.tape, hb.output, hb.size, fun k hk _ => hb.block k hk⟩ (by cases h : Value.ownBlock _ <;> simp), h2.imp fun r x h => h.keep (fr_below hb)⟩
theorem OwnRules.fr {B : Nat} {w w' : World} {v : Value} {xs : List RuleS} {Av : Nat → Prop} (h : OwnRules B w v xs) (hf : Fr Av w w') (h1 : ∀ b, Av b → AvOf B v b) (h2 : ∀ b, v.ownBlock = some b → ¬ Av b) : OwnRules B w' v xs := by
  obtain ⟨rows, hr, ha⟩ := h
  refine ⟨rows, ?_, ha.imp fun r x h => h.keep (hf.mono fun b _ e => h1 b e)⟩
  refine ⟨hr.1, ?_⟩
  rcases hr.2 with hn | ⟨g, cap, cur, rfl, hb, hg, rest⟩
  · exact .inl hn
  · exact .inr ⟨g, cap, cur, rfl, hb, (hf.block g (Array.getElem?_eq_some_iff.1 hg).1 (h2 g rfl)).trans hg, rest⟩
theorem OwnRules.len {B : Nat} {w : World} {v : Value} {xs : List RuleS} (h : OwnRules B w v xs) : ∃ a c, v = .slice a xs.length c := by
  obtain ⟨rows, h1, h2⟩ := h
  rcases h1.2 with ⟨rfl, h0⟩ | ⟨g, cap, cur, rfl, _⟩
  · exact ⟨none, 0, by rw [← h2.1, h0]⟩
  · exact ⟨_, cap, by rw [h2.1]⟩
theorem OwnRules.rulesA {B : Nat} {w : World} {v : Value} {xs : List RuleS} (h : OwnRules B w v xs) : RulesA (fun b => b < B) w v xs := by
  obtain ⟨rows, h1, h2⟩ := h
  exact ⟨rows, rowA_own h1 (h2.len fun r x h => h.len), h2.imp fun r x h => h.mono fun b _ e => .inl e⟩
theorem OwnRules.lt {B : Nat} {w : World} {v : Value} {xs : List RuleS} (h : OwnRules B w v xs) : ∀ b, v.ownBlock = some b → B ≤ b ∧ b < w.heap.size := by
  obtain ⟨rows, h1, _⟩ := h
  exact fun b e => h1.lt b e

/-- An append of one rule to a list of one's own. -/
theorem wpList_append_rule {w : World} {ops : Array Oper} {rest : List Oper} {o : Oper} {a : Act} {Q : Exit → Act → World → Prop} (hgd : o.guard = none) (s x : Operand)
    (ho : o.op = .call { callee := .builtin .append, args := #[s, x], argTypes := #[22, 22] })
    (B : Nat) (v : Value) (xs : List RuleS) (y : RuleS) (a1 a2 a3 a4 : Option Addr) (n1 c1 n2 c2 n3 c3 n4 c4 : Nat) (hs : a.eval s = v) (hown : OwnRules B w v xs) (hB : B ≤ w.heap.size) (hn : xs.length ≤ 1000000000)
    (hrl : RuleA (AvOf B v) w [.string y.name, .slice a1 n1 c1, .slice a2 n2 c2, .slice a3 n3 c3, .slice a4 n4 c4] y)
    (gx : Nat) (hx : a.eval x = .slice (some ⟨gx, 0, none⟩) 1 1) (hgx : gx = w.heap.size)
    (h : ∀ v' w', OwnRules B w' v' (xs ++ [y]) → Below B w w' → Fr (fun b => v.ownBlock = some b) w w' → (∀ b, v'.ownBlock = some b → v.ownBlock = some b ∨ w.heap.size ≤ b) → wpList Tryz.prog ops Q rest (a.put o.dst v') w') :
    wpList Tryz.prog ops Q (o :: rest) a (w.alloc (.cells #[.string y.name, .slice a1 n1 c1, .slice a2 n2 c2, .slice a3 n3 c3, .slice a4 n4 c4] 38)) := by
  subst hgx
  obtain ⟨i0, hi, hz0, hz1, hz2⟩ := info_of info_rule
  obtain ⟨rows, h1, h2⟩ := hown
  have hrl2 := h2.1
  have hfa := fr_alloc (AvOf B v) w (.cells #[.string y.name, .slice a1 n1 c1, .slice a2 n2 c2, .slice a3 n3 c3, .slice a4 n4 c4] 38)
  refine wpList_append_new _ hgd s x 22 ho B 38 i0 (.agg #[.string ByteArray.empty, .slice none 0 0, .slice none 0 0, .slice none 0 0, .slice none 0 0]) 5 112 Tryz.underlying22 hi hz0 hz1 hz2 rfl (by decide) v rows.length rows.flatten hs (h1.alloc _) ⟨w.heap.size, 0, none⟩ 1 1 [.string y.name, .slice a1 n1 c1, .slice a2 n2 c2, .slice a3 n3 c3, .slice a4 n4 c4] hx rfl ?_ ?_ (by decide) ?_ ?_ ?_ ?_
  · intro j u hj
    match j, hj with
    | 0, hj => simp at hj; subst hj; simp [Addr.add]
    | 1, hj => simp at hj; subst hj; simp [Addr.add]
    | 2, hj => simp at hj; subst hj; simp [Addr.add]
    | 3, hj => simp at hj; subst hj; simp [Addr.add]
    | 4, hj => simp at hj; subst hj; simp [Addr.add]
  · intro u hu; simp at hu; rcases hu with rfl | rfl | rfl | rfl | rfl <;> rfl
  · unfold maxLen; omega
  · omega
  · simp; omega
  · intro v' w' ho' hg hnew
    have h3 : AllA (RuleA (AvOf B v) w) (rows ++ [[.string y.name, .slice a1 n1 c1, .slice a2 n2 c2, .slice a3 n3 c3, .slice a4 n4 c4]]) (xs ++ [y]) := h2.snoc hrl
    have h4 := grow_rules (B := B) (v' := v') (h3.imp fun r x h => h.keep hfa) hg (fun b hb => (hnew b hb).imp id fun e => Nat.le_trans (by simp) e)
    refine h v' w' ⟨_, ?_, h4⟩ (((Below.refl B w).alloc hB _).grown hg (by simp; omega) (fun b hb => (h1.lt b hb).1)) ((fr_alloc _ w _).trans (fr_grown hg fun k e => e)) (fun b hb => (hnew b hb).imp id fun e => Nat.le_trans (by simp) e)
    rw [List.length_append, List.flatten_append]
    simpa using ho'

/-! ### Sorting none, or one -/
set_option maxHeartbeats 2000000 in
theorem insertion_tiny (v : Value) (n : Nat) (f : Value) (w : World) (hn : n ≤ 1) :
    Calls Tryz.prog 118 #[v, .int .i64 0, .int .i64 n, f] w fun e w' => e = .returned (.tuple #[]) ∧ w = w' := by
  have h1 : ¬ (1 : Int) < (n : Int) := by omega
  go_enter Tryz.func118, Tryz.ntmps118
  go_wp2
  go_loop [8] (fun i => i = .int .i64 1) (fun _ => 0)
  case atStart => rfl
  case round =>
    subst hrel
    go_wp2
    go_end0
    exact ⟨rfl, rfl⟩
set_option maxHeartbeats 2000000 in
theorem stable_tiny (v : Value) (n : Nat) (f : Value) (w : World) (hn : n ≤ 1) :
    Calls Tryz.prog 89 #[v, .int .i64 n, f] w fun e w' => e = .returned (.tuple #[]) ∧ w = w' := by
  have h1 : ¬ (20 : Int) ≤ (n : Int) := by omega
  have h2 : ¬ (20 : Int) < (n : Int) := by omega
  go_enter Tryz.func89, Tryz.ntmps89
  go_wp2
  go_loop [7, 8] (fun a b => a = .int .i64 0 ∧ b = .int .i64 20) (fun _ _ => 0)
  case atStart => exact ⟨rfl, rfl⟩
  case round =>
    obtain ⟨rfl, rfl⟩ := hrel
    go_wp2_with fail
    refine (insertion_tiny _ _ _ _ hn).mono ?_
    rintro e w2 ⟨rfl, rfl⟩
    go_wp2
    go_loop [6] (fun a => a = .int .i64 20) (fun _ => 0)
    case atStart => rfl
    case round =>
      subst hrel
      go_wp2
      go_end0
      exact ⟨rfl, rfl⟩
theorem sortStable_tiny (a : Option Addr) (n c : Nat) (f : Value) (w : World) (hn : n ≤ 1) :
    Calls Tryz.prog 46 #[.slice a n c, f] w fun e w' => e = .returned (.tuple #[]) ∧ w = w' := by
  go_enter Tryz.func46, Tryz.ntmps46
  go_wp2_with fail
  refine (stable_tiny _ _ _ _ hn).mono ?_
  rintro e w2 ⟨rfl, rfl⟩
  go_wp2
  go_end0
  exact ⟨rfl, rfl⟩

def SortPost (B : Nat) (W : World) (v : Value) (ys : List RuleS) (e : Ending) (W' : World) : Prop := e = .returned (.tuple #[]) ∧ OwnRules B W' v ys ∧ Below B W W'
/-- What Sorted asks of the sort. -/
def SortsTo (B : Nat) (xs ys : List RuleS) : Prop := ∀ a n c W, OwnRules B W (.slice a n c) xs → B ≤ W.heap.size → Calls Tryz.prog 46 #[.slice a n c, .func (.func 47) #[] #[]] W (SortPost B W (.slice a n c) ys)
theorem sorts_tiny (B : Nat) (xs : List RuleS) (h : xs.length ≤ 1) : SortsTo B xs xs := by
  intro a n c W hO _
  obtain ⟨a', c', e⟩ := hO.len
  cases e
  refine (sortStable_tiny _ _ _ _ _ h).mono ?_
  rintro e w' ⟨rfl, rfl⟩
  exact ⟨rfl, hO, Below.refl _ _⟩
theorem rules_at {Av : Nat → Prop} {w : World} {v : Value} {xs : List RuleS} (h : RulesA Av w v xs) {k : Nat} {x : RuleS} (hx : xs[k]? = some x) :
    ∃ g o cap a1 n1 c1 a2 n2 c2 a3 n3 c3 a4 n4 c4, v = .slice (some ⟨g, o, none⟩) xs.length cap ∧ g < w.heap.size ∧ RuleA Av w [.string x.name, .slice a1 n1 c1, .slice a2 n2 c2, .slice a3 n3 c3, .slice a4 n4 c4] x ∧ ∀ w', Below w.heap.size w w' →
      w'.cell? ⟨g, o + k * 5, none⟩ = some (.string x.name) ∧ w'.cell? ⟨g, o + k * 5 + 1, none⟩ = some (.slice a1 n1 c1) ∧ w'.cell? ⟨g, o + k * 5 + 2, none⟩ = some (.slice a2 n2 c2) ∧ w'.cell? ⟨g, o + k * 5 + 3, none⟩ = some (.slice a3 n3 c3) ∧ w'.cell? ⟨g, o + k * 5 + 4, none⟩ = some (.slice a4 n4 c4) := by
  obtain ⟨rows, hrow, hall⟩ := h
  have hk : k < rows.length := by rw [hall.1]; exact (List.getElem?_eq_some_iff.1 hx).1
  have hR := hall.2 k _ x (List.getElem?_eq_getElem hk) hx
  obtain ⟨vi, vo, vf, vs, e, h1, h2, h3, h4⟩ := id hR
  obtain ⟨g, o, cap, hv, hg', hc⟩ := row5_at hrow (k := k) (by rw [List.getElem?_eq_getElem hk, e])
  obtain ⟨a1, n1, c1, q1⟩ := rowA_shape h1
  obtain ⟨a2, n2, c2, q2⟩ := rowA_shape h2
  obtain ⟨a3, n3, c3, q3⟩ := rowA_shape h3
  obtain ⟨a4, c4, q4, _, _⟩ := stepsA_len h4
  rw [e] at hR
  subst q1 q2 q3 q4
  exact ⟨g, o, cap, a1, n1, c1, a2, n2, c2, a3, n3, c3, a4, _, c4, by rw [hv, hall.1], hg', hR, hc⟩
theorem rulesA_len {Av : Nat → Prop} {w : World} {v : Value} {xs : List RuleS} (h : RulesA Av w v xs) : ∃ a c, v = .slice a xs.length c ∧ xs.length ≤ c ∧ c ≤ maxLen := by
  obtain ⟨rows, hrow, hall⟩ := h
  rw [← hall.1]
  exact rowA_len hrow

def SortedRulesPost (w : World) (ys : List RuleS) (e : Ending) (w' : World) : Prop := ∃ a n c, e = .returned (.slice a n c) ∧ OwnRules w.heap.size w' (.slice a n c) ys ∧ Below w.heap.size w w'
set_option maxHeartbeats 8000000 in
set_option maxRecDepth 100000 in
theorem sorted_of (v : Value) (xs ys : List RuleS) (Av : Nat → Prop) (w : World) (h : RulesA Av w v xs) (hn : xs.length ≤ 1000000) (hfew : ∀ x ∈ xs, FewR x) (hsort : SortsTo w.heap.size (xs.map sortR) ys) :
    Calls Tryz.prog 21 #[v] w (SortedRulesPost w ys) := by
  obtain ⟨sa, sc, hv, hs1, hs2⟩ := rulesA_len h
  subst hv
  have hcs : ∀ (k : Nat) x, xs[k]? = some x → _ := fun k x hx => rules_at h hx
  have HCS := Lib.hid hcs
  have HFEW := Lib.hid hfew
  have HSO := Lib.hid hsort
  obtain ⟨i0, hi, hz0, hz1, hz2⟩ := info_of info_rule
  clear hcs h hfew hsort
  go_enter Tryz.func21, Tryz.ntmps21
  go_wp2_with (refine wpList_make_own _ rfl _ _ 22 rfl w.heap.size 38 i0 (.agg #[.string ByteArray.empty, .slice none 0 0, .slice none 0 0, .slice none 0 0, .slice none 0 0]) 5 Tryz.underlying22 hi hz0 hz1 .i64 .i64 (xs.length : Int) xs.length rfl rfl rfl (by rw [hz2]; omega) (by unfold maxLen; omega) (Nat.le_refl _) ?_)
  intro w1 hown1 hg1
  have hb1 : Below w.heap.size w w1 := ⟨hg1.os, hg1.tape, hg1.output, hg1.size, fun k hk => hg1.block k hk (by simp)⟩
  have HO1 : Hid (OwnRules w.heap.size w1 (.slice (some ⟨w.heap.size, 0, none⟩) 0 xs.length) []) := ⟨[], hown1, AllA.nil _⟩
  have HN1 := Lib.hid hb1
  clear hown1 hg1 hb1
  go_wp2
  go_loopw [3, 11] (fun vv i wr => ∃ k : Nat, k ≤ xs.length ∧ i = .int .i64 k ∧ OwnRules w.heap.size wr vv ((xs.take k).map sortR) ∧ Below w.heap.size w wr)
    (fun _ i _ => xs.length - (intOf i).toNat)
  case atStart => exact ⟨0, Nat.zero_le _, rfl, by simpa using HO1.out, HN1.out⟩
  case round =>
    obtain ⟨k, hk, rfl, hown, hnx⟩ := hrel
    have hsz := hnx.size
    have HO := Lib.hid hown
    have HNX := Lib.hid hnx
    clear hown hnx
    by_cases hlt : k < xs.length
    · obtain ⟨x, hx⟩ : ∃ x, xs[k]? = some x := ⟨xs[k], List.getElem?_eq_getElem hlt⟩
      obtain ⟨g, o, cap, a1, n1, c1, a2, n2, c2, a3, n3, c3, a4, n4, c4, hv, hg, hR, hc⟩ := HCS.out k x hx
      have hi1 : (k : Int) < (xs.length : Int) := by omega
      have hfx := HFEW.out x (List.mem_of_getElem? hx)
      have htk : (xs.take (k + 1)).map sortR = (xs.take k).map sortR ++ [sortR x] := by rw [List.take_add_one, hx, List.map_append]; rfl
      obtain ⟨d0, d1, d2, d3, d4⟩ := hc _ HNX.out
      have HTK := Lib.hid htk
      have HRX := Lib.hid hR
      have HFX := Lib.hid hfx
      cases hv
      clear hc hx htk hR hfx
      obtain ⟨ob, hob⟩ : ∃ ob : Obj, ob = .cells #[.string x.name, .slice a1 n1 c1, .slice a2 n2 c2, .slice a3 n3 c3, .slice a4 n4 c4] 38 := ⟨_, rfl⟩
      have hnA : Below wr.heap.size wr (wr.alloc ob) := (Below.refl _ _).alloc (Nat.le_refl _) _
      have hup : ∀ W, Below wr.heap.size wr W → Below w.heap.size w W := fun W h => HNX.out.trans (h.mono hsz)
      have cA := sortedRule_any x (.slice a1 n1 c1) (.slice a2 n2 c2) (.slice a3 n3 c3) (.slice a4 n4 c4) Av (wr.alloc ob) (HRX.out.keep (fr_below (hup _ hnA))) HFX.out
      have HNA := Lib.hid hnA
      have HUP := Lib.hid hup
      have CA := Lib.hid cA
      clear hnA cA hup
      subst hob
      go_wp2_with fail
      refine CA.out.mono ?_
      intro e w2 hpost
      obtain ⟨b1, m1, e1, b2, m2, e2, b3, m3, e3, b4, m4, e4, rfl, hra, hb2⟩ := hpost
      have hn2 : Below wr.heap.size wr w2 := HNA.out.trans (hb2.mono (by simp))
      have hO2 := HO.out.below hn2
      have hlow := fun b hb => (HO.out.lt b hb).2
      have hra2 := RuleA.mono (Av' := AvOf w.heap.size _) hra fun b _ e => by
        rcases e with e | e
        · simp; omega
        · have := hlow b e; simp; omega
      have HO2 := Lib.hid hO2
      have HR2 := Lib.hid hra2
      have HN2 := Lib.hid hn2
      have HTL : Hid (((xs.take k).map sortR).length ≤ 1000000000) := by show _ ≤ _; rw [List.length_map, List.length_take]; omega
      have HS2 := Lib.hid (Nat.le_trans hsz hn2.size)
      clear hra hb2 hn2 hO2 hlow hra2 d0 d1 d2 d3 d4
      go_wp2_with (at_builtin; refine wpList_append_rule (by rfl) _ _ (by rfl) w.heap.size _ ((xs.take k).map sortR) (sortR x) b1 b2 b3 b4 m1 e1 m2 e2 m3 e3 m4 e4 (by rfl) HO2.out HS2.out HTL.out HR2.out _ (by rfl) (by simp) ?_)
      intro v' w6 hown6 hb6 _ _
      have HO6 : Hid (OwnRules w.heap.size w6 v' ((xs.take (k + 1)).map sortR)) := by show OwnRules _ _ _ _; rw [HTK.out, List.map_take]; exact hown6
      have HN6 := Lib.hid ((HUP.out _ HN2.out).trans hb6)
      clear hown6 hb6
      go_wp2
      go_roundw
      case rel => exact ⟨k + 1, by omega, by go_num, HO6.out, HN6.out⟩
      case measure => simp [intOf]; omega
    · have hfull : xs.take k = xs := List.take_of_length_le (by omega)
      have hi1 : ¬ (k : Int) < (xs.length : Int) := by omega
      have hO := HO.out
      rw [hfull] at hO
      obtain ⟨ra, rc, hr⟩ := hO.len
      rw [List.length_map] at hr
      subst hr
      have HO := Lib.hid hO
      clear hfull hO
      go_wp2_with fail
      refine (HSO.out _ _ _ _ HO.out hsz).mono ?_
      rintro e w7 ⟨rfl, hO7, hb7⟩
      go_wp2
      go_ret
      exact ⟨_, _, _, rfl, hO7, HNX.out.trans hb7⟩
end Go.Proofs.YtlmnabhhgplhnaaGreatDoor
namespace Go.Proofs.YtlmnabhhgplhnaaGreatDoor
open Go.RowKit Go.Shelf

/-- The builder in block b; its bytes lie in blocks from B on. -/
def Bld (B b : Nat) (l : List UInt8) (w : World) : Prop :=
  b < B ∧ ∃ p v, (p = .pointer none ∨ p = .pointer (some ⟨b, 0, none⟩)) ∧ w.heap[b]? = some (.cells #[p, v] 60) ∧ w.ownsRow B 5 1 v l.length (Lib.byteCells l)
theorem Bld.is {B b : Nat} {l : List UInt8} {w : World} (h : Bld B b l w) : Lib.IsBuilder 60 5 b b (Lib.byteCells l) w := by
  obtain ⟨hb, p, v, hp, hbk, hown⟩ := h
  have ho := own_lower hown (Nat.le_of_lt hb)
  have hne : v.ownBlock ≠ some b := fun e => by have := (hown.lt b e).1; omega
  have hl : (Lib.byteCells l).length = l.length := by simp [Lib.byteCells]
  rw [← hl] at ho
  rcases hp with rfl | rfl
  · exact .inl ⟨Nat.le_refl _, v, hbk, ho, hne⟩
  · exact .inr ⟨Nat.le_refl _, v, hbk, ho, hne⟩
/-- What a builder's call may change: its own cell, its bytes, what is new. -/
abbrev BAv (B b : Nat) (k : Nat) : Prop := k = b ∨ B ≤ k
theorem Bld.below {B b : Nat} {l : List UInt8} {w w' : World} (h : Bld B b l w) (hb : Below w.heap.size w w') : Bld B b l w' := by
  obtain ⟨h1, p, v, hp, hbk, hown⟩ := h
  refine ⟨h1, p, v, hp, (hb.block _ (Array.getElem?_eq_some_iff.1 hbk).1).trans hbk, World.ownsRow.kept (row := none) hown ⟨hb.os, hb.tape, hb.output, hb.size, fun k hk _ => hb.block k hk⟩ (by cases h : Value.ownBlock _ <;> simp)⟩
theorem bld_fresh (w w1 : World) (hb : Below (w.heap.size + 1) (w.alloc (.cells #[.pointer none, .slice none 0 0] 60)) w1) (hs : w.heap.size + 1 ≤ w1.heap.size) : Bld w1.heap.size w.heap.size [] w1 := by
  refine ⟨by omega, _, _, .inl rfl, (hb.block _ (by omega)).trans (alloc_at w _), ⟨rfl, .inl ⟨rfl, rfl⟩⟩⟩
theorem info_byte : (Tryz.prog.info? 5).map (fun i => (i.zero, i.size, i.bytes)) = some (some (.int .u8 0), 1, 1) := by kernel_rfl

set_option maxHeartbeats 4000000 in
set_option maxRecDepth 100000 in
theorem bld_write (B b : Nat) (l t : List UInt8) (s : ByteArray) (hst : s = ⟨t.toArray⟩) (w : World) (h : Bld B b l w) (hlen : l.length + t.length ≤ 140737488351232) (hB : B ≤ w.heap.size) :
    Calls Tryz.prog 28 #[.pointer (some ⟨b, 0, none⟩), .string s] w fun e w' => (∃ x y, e = .returned (.tuple #[x, y])) ∧ Bld B b (l ++ t) w' ∧ Fr (BAv B b) w w' := by
  obtain ⟨i0, hi, hz0, hz1, hz2⟩ := info_of info_byte
  have hss : s.size = t.length := by rw [hst]; exact size_list t
  obtain ⟨hbB, p, v, hp, hbk, hown⟩ := h
  have hcc : Calls Tryz.prog 56 #[.pointer (some ⟨b, 0, none⟩)] w fun e w' => e = .returned (.tuple #[]) ∧ w'.heap[b]? = some (.cells #[.pointer (some ⟨b, 0, none⟩), v] 60) ∧ w'.ownsRow B 5 1 v l.length (Lib.byteCells l) ∧ Fr (BAv B b) w w' := by
    rcases hp with rfl | rfl
    · refine (Any.Builder_copyCheck_fresh { lLays_n166 with } { lExtra with } b w (by simp [World.cell?, hbk]) (by simp [World.shape?, hbk]; kernel_rfl) (by simp [World.frozen?, hbk])).mono ?_
      rintro e w' ⟨rfl, rfl⟩
      refine ⟨rfl, heap_set 0 _ hbk, ?_, fr_set (a := ⟨b, 0, none⟩) (Av := BAv B b) (.inl rfl) _⟩
      exact World.ownsRow.kept (row := some b) hown (fr_set (a := ⟨b, 0, none⟩) (Av := fun k => k = b) rfl _).grownBy (by
        cases hv : v.ownBlock with
        | none => exact .inl rfl
        | some k => exact .inr (by intro e; injection e with e; have := (hown.lt k hv).1; omega))
    · refine (Any.Builder_copyCheck_used { lLays_n166 with } { lExtra with } b w (by simp [World.cell?, hbk])).mono ?_
      rintro e w' ⟨rfl, rfl⟩
      exact ⟨rfl, hbk, hown, Fr.refl _ _⟩
  have hmax : l.length + s.size ≤ 140737488355328 := by omega
  have HSS := Lib.hid hss
  have HST := Lib.hid hst
  clear hbk hown hp hst hss hlen
  go_enter Tryz.func28, Tryz.ntmps28
  go_wp2_with fail
  refine hcc.mono ?_
  rintro e w1 ⟨rfl, hbk1, hown1, hf1⟩
  obtain ⟨e0, e1, f0, f1⟩ := cells2 hbk1
  have HBK1 := Lib.hid hbk1
  have HO1 := Lib.hid hown1
  have HF1 := Lib.hid hf1
  have hs1 : B ≤ w1.heap.size := Nat.le_trans hB hf1.size
  clear hcc hbk1 hown1 hf1
  go_wp2_with (at_builtin; refine Lib.wpList_append_own_string _ (by rfl) _ _ 58 9 (by rfl) B 5 i0 Tryz.underlying58 Tryz.underlying9 hi hz0 hz1 hz2 _ _ _ (by rfl) HO1.out s (by rfl) (by unfold maxLen; omega) hmax hs1 ?_)
  intro v' w2 hown2 hg2 _
  obtain ⟨va, vn, vc, hv'⟩ : ∃ a n c, v' = .slice a n c := by
    rcases hown2.2 with ⟨hv, _⟩ | ⟨g, cap, cur, hv, _⟩
    · exact ⟨_, _, _, hv⟩
    · exact ⟨_, _, _, hv⟩
  subst hv'
  have hne : v.ownBlock ≠ some b := fun e => by have := (HO1.out.lt b e).1; omega
  have hbk2 := (hg2.block b (Array.getElem?_eq_some_iff.1 HBK1.out).1 (fun e => hne e.symm)).trans HBK1.out
  obtain ⟨q0, q1, r0, r1⟩ := cells2 hbk2
  have hf2 : Fr (BAv B b) w1 w2 := fr_grown hg2 fun k e => .inr (HO1.out.lt k e).1
  have hown3 : w2.ownsRow B 5 1 (.slice va vn vc) (l ++ t).length (Lib.byteCells (l ++ t)) := by
    have e1 : (l ++ t).length = l.length + s.size := by rw [List.length_append, HSS.out]
    have e2 : Lib.byteCells (l ++ t) = Lib.byteCells l ++ Lib.strCells s := by rw [HST.out]; simp [Lib.byteCells, Lib.strCells]
    rw [e1, e2]; exact hown2
  have hset : (w2.setCell ⟨b, 1, none⟩ (.slice va vn vc)).heap[b]? = some (.cells #[.pointer (some ⟨b, 0, none⟩), .slice va vn vc] 60) := heap_set 1 (.slice va vn vc) hbk2
  have hown4 : (w2.setCell ⟨b, 1, none⟩ (.slice va vn vc)).ownsRow B 5 1 (.slice va vn vc) (l ++ t).length (Lib.byteCells (l ++ t)) :=
    World.ownsRow.kept (row := some b) hown3 (fr_set (a := ⟨b, 1, none⟩) (Av := fun k => k = b) rfl _).grownBy (by
      cases hv : (Value.slice va vn vc).ownBlock with
      | none => exact .inl rfl
      | some k => exact .inr (by intro e; injection e with e; have := (hown3.lt k hv).1; omega))
  have hf4 := (HF1.out.trans hf2).trans (fr_set (w := w2) (a := ⟨b, 1, none⟩) (Av := BAv B b) (.inl rfl) (.slice va vn vc))
  have HB4 : Hid (Bld B b (l ++ t) (w2.setCell ⟨b, 1, none⟩ (.slice va vn vc))) := ⟨hbB, _, _, .inr rfl, hset, hown4⟩
  have HF4 := Lib.hid hf4
  clear hown2 hg2 hne hbk2 hf2 hown3 hset hown4 hf4 e0 e1 f0 f1
  go_wp2
  go_ret2
  exact ⟨⟨_, _, rfl⟩, HB4.out, HF4.out⟩
theorem bld_string (B b : Nat) (l : List UInt8) (w : World) (h : Bld B b l w) (hB : B ≤ w.heap.size) :
    Calls Tryz.prog 30 #[.pointer (some ⟨b, 0, none⟩)] w fun e w' => e = .returned (.string ⟨l.toArray⟩) ∧ Below b w w' :=
  builderString_c b b l w h.is (by have := h.1; omega)
end Go.Proofs.YtlmnabhhgplhnaaGreatDoor
namespace Go.Proofs.YtlmnabhhgplhnaaGreatDoor
open Go.RowKit Go.Shelf

def rulesTx (ys : List RuleS) : List UInt8 := (ys.map ruleTx).flatten
theorem rulesTx_next (xs : List RuleS) (k : Nat) (x : RuleS) (h : xs[k]? = some x) : rulesTx (xs.take (k + 1)) = rulesTx (xs.take k) ++ ruleTx x := by
  unfold rulesTx
  rw [List.take_add_one, h, List.map_append, List.flatten_append]
  simp
theorem rulesTx_le (xs : List RuleS) (k : Nat) : (rulesTx (xs.take k)).length ≤ (rulesTx xs).length := by
  conv => rhs; rw [← List.take_append_drop k xs]
  unfold rulesTx
  rw [List.map_append, List.flatten_append, List.length_append]
  omega

set_option maxHeartbeats 8000000 in
set_option maxRecDepth 100000 in
theorem pfile_of (v : Value) (xs ys : List RuleS) (Av : Nat → Prop) (p : Nat) (w : World) (hg : GP p w) (hp : p ≤ w.heap.size) (h : RulesA Av w v xs) (hn : xs.length ≤ 1000000) (hny : ys.length ≤ 1000000) (hfew : ∀ x ∈ xs, FewR x) (hfit : ∀ y ∈ ys, RuleFit y) (hlen : (rulesTx ys).length ≤ 140737488351232)
    (hsort : SortsTo (w.heap.size + 1) (xs.map sortR) ys) :
    Calls Tryz.prog 8 #[v] w fun e w' => e = .returned (.string ⟨(rulesTx ys).toArray⟩) ∧ Below w.heap.size w w' := by
  obtain ⟨sa, sc, hv, hs1, hs2⟩ := rulesA_len h
  subst hv
  have hb0 : Below w.heap.size w (w.alloc (.cells #[.pointer none, .slice none 0 0] 60)) := (Below.refl _ _).alloc (Nat.le_refl _) _
  have hB0 := Lib.fresh_isBuilder 60 5 w
  have cS := sorted_of (.slice sa xs.length sc) xs ys Av (w.alloc (.cells #[.pointer none, .slice none 0 0] 60)) (h.keep (fr_below hb0)) hn hfew (by simpa using hsort)
  have HB0 := Lib.hid hB0
  have HN0 := Lib.hid hb0
  have CS := Lib.hid cS
  have HFIT := Lib.hid hfit
  have HLEN := Lib.hid hlen
  have HG := Lib.hid hg
  clear h hb0 hB0 cS hfit hlen hg hfew hsort
  go_enter Tryz.func8, Tryz.ntmps8
  go_wp2_with fail
  refine CS.out.mono ?_
  rintro e w1 ⟨ya, yn, yc, rfl, hO, hb1⟩
  obtain ⟨_, _, hl⟩ := hO.len
  cases hl
  have hn1 : Below w.heap.size w w1 := HN0.out.trans (hb1.mono (by simp))
  have hs1' : w.heap.size + 1 ≤ w1.heap.size := by have := hb1.size; simpa using this
  have hbld : Bld w1.heap.size w.heap.size [] w1 := bld_fresh w w1 (by simpa using hb1) hs1'
  have hrl : RulesA (BAv w1.heap.size w.heap.size) w1 _ ys := RulesA.mono hO.rulesA fun b hb e => by
    rcases e with e | e
    · simp; omega
    · omega
  have HB1 := Lib.hid hbld
  have HR1 := Lib.hid hrl
  have HN1 := Lib.hid hn1
  clear hO hb1 hn1 hrl hbld
  go_wp2
  go_loopw [9] (fun i wr => ∃ k : Nat, k ≤ ys.length ∧ i = .int .i64 k ∧ Bld w1.heap.size w.heap.size (rulesTx (ys.take k)) wr ∧ Below w.heap.size w wr ∧ Fr (BAv w1.heap.size w.heap.size) w1 wr)
    (fun i _ => ys.length - (intOf i).toNat)
  case atStart => exact ⟨0, Nat.zero_le _, rfl, HB1.out, HN1.out, Fr.refl _ _⟩
  case round =>
    obtain ⟨k, hk, rfl, hbu, hnx, hfr⟩ := hrel
    have hsz := hfr.size
    have hle := rulesTx_le ys k
    have hall := HLEN.out
    have hR := HR1.out.keep hfr
    have HBU := Lib.hid hbu
    have HNX := Lib.hid hnx
    have HFR := Lib.hid hfr
    clear hbu hnx hfr
    by_cases hlt : k < ys.length
    · obtain ⟨y, hy⟩ : ∃ y, ys[k]? = some y := ⟨ys[k], List.getElem?_eq_getElem hlt⟩
      obtain ⟨g, o, cap, a1, n1, c1, a2, n2, c2, a3, n3, c3, a4, n4, c4, hv, hg, hRu, hc⟩ := rules_at hR hy
      cases hv
      have hnext := rulesTx_next ys k y hy
      have hle2 := rulesTx_le ys (k + 1)
      rw [hnext, List.length_append] at hle2
      have hi1 : (k : Int) < (ys.length : Int) := by omega
      have hfy := HFIT.out y (List.mem_of_getElem? hy)
      obtain ⟨d0, d1, d2, d3, d4⟩ := hc _ (Below.refl _ _)
      obtain ⟨ob, hob⟩ : ∃ ob : Obj, ob = .cells #[.string y.name, .slice a1 n1 c1, .slice a2 n2 c2, .slice a3 n3 c3, .slice a4 n4 c4] 38 := ⟨_, rfl⟩
      have hnA : Below wr.heap.size wr (wr.alloc ob) := (Below.refl _ _).alloc (Nat.le_refl _) _
      have hgA : GP p (wr.alloc ob) := HG.out.below ((HNX.out.trans (hnA.mono HNX.out.size)).mono hp)
      obtain ⟨q1, q2, q3, q4, qe, h1, h2, h3, h4⟩ := hRu
      cases qe
      have cR := rule_any y (.slice a1 n1 c1) (.slice a2 n2 c2) (.slice a3 n3 c3) (.slice a4 n4 c4) (BAv w1.heap.size w.heap.size) p (wr.alloc ob) hgA (Nat.le_trans hp (Nat.le_trans HNX.out.size hnA.size)) (RowA.keep h1 (fr_below hnA)) (RowA.keep h2 (fr_below hnA)) (RowA.keep h3 (fr_below hnA)) (h4.keep (fr_below hnA)) hfy
      have HNEXT := Lib.hid hnext
      have CR := Lib.hid cR
      have HNA := Lib.hid hnA
      have HC := Lib.hid hc
      clear hnext hnA hgA cR hc hfy h1 h2 h3 h4 hR hy
      subst hob
      go_wp2_with fail
      refine CR.out.mono ?_
      rintro e w2 ⟨rfl, hb2⟩
      have hn2 : Below wr.heap.size wr w2 := HNA.out.trans (hb2.mono (by simp))
      have HB2 := Lib.hid (HBU.out.below hn2)
      have HN2 := Lib.hid (HNX.out.trans (hn2.mono HNX.out.size))
      have HF2 := Lib.hid (HFR.out.trans (fr_below hn2))
      have hs2 := hn2.size
      clear hb2 hn2 d0 d1 d2 d3 d4
      go_wp2_with fail
      refine (bld_write w1.heap.size w.heap.size (rulesTx (ys.take k)) (ruleTx y) _ rfl _ HB2.out (by omega) (by omega)).mono ?_
      rintro e w3 ⟨⟨x3, y3, rfl⟩, hbl3, hf3⟩
      have HB3 := Lib.hid hbl3
      have HF3 := Lib.hid (HF2.out.trans hf3)
      have HN3 := Lib.hid (HN2.out.trans (hf3.below HN2.out.size fun k hk e => by rcases e with e | e <;> omega))
      clear hbl3 hf3
      go_wp2
      go_roundw
      case rel => exact ⟨k + 1, by omega, by go_num, by rw [HNEXT.out]; exact HB3.out, HN3.out, HF3.out⟩
      case measure => simp [intOf]; omega
    · have hfull : ys.take k = ys := List.take_of_length_le (by omega)
      have hbu := HBU.out
      rw [hfull] at hbu
      have HBU := Lib.hid hbu
      have hi1 : ¬ (k : Int) < (ys.length : Int) := by omega
      clear hfull hbu hR
      go_wp2_with fail
      refine (bld_string w1.heap.size w.heap.size (rulesTx ys) wr HBU.out (by omega)).mono ?_
      rintro e w2 ⟨rfl, hb2⟩
      go_wp2
      go_ret
      exact ⟨rfl, HNX.out.trans hb2⟩
end Go.Proofs.YtlmnabhhgplhnaaGreatDoor
namespace Go.Proofs.YtlmnabhhgplhnaaGreatDoor
open Go.RowKit Go.Shelf

set_option maxHeartbeats 2000000 in
theorem equalS_same (v1 v2 : Value) (xs : List ByteArray) (w : World) (h1 : IsStrs w v1 xs) (h2 : IsStrs w v2 xs) :
    Calls Tryz.prog 84 #[v1, v2] w fun e w' => e = .returned (.bool true) ∧ Below w.heap.size w w' := by
  obtain ⟨a1, c1, rfl, _, hm1, hc1⟩ := h1
  obtain ⟨a2, c2, rfl, _, hm2, hc2⟩ := h2
  have hlm : xs.length ≤ maxLen := by omega
  unfold maxLen at hlm
  have HC1 := Lib.hid hc1
  have HC2 := Lib.hid hc2
  clear hc1 hc2
  go_enter Tryz.func84, Tryz.ntmps84
  go_wp2
  go_loopw [13] (fun i wr => ∃ k : Nat, k ≤ xs.length ∧ i = .int .i64 k ∧ Below w.heap.size w wr)
    (fun i _ => xs.length - (intOf i).toNat)
  case atStart => exact ⟨0, Nat.zero_le _, rfl, Below.refl _ _⟩
  case round =>
    obtain ⟨k, hk, rfl, hnx⟩ := hrel
    have HNX := Lib.hid hnx
    clear hnx
    by_cases hlt : k < xs.length
    · obtain ⟨x, hx⟩ : ∃ x, xs[k]? = some x := ⟨xs[k], List.getElem?_eq_getElem hlt⟩
      obtain ⟨b1, o1, q1, hb1, hk1⟩ := HC1.out (by rintro e; rw [e] at hlt; simp at hlt)
      obtain ⟨b2, o2, q2, hb2, hk2⟩ := HC2.out (by rintro e; rw [e] at hlt; simp at hlt)
      subst q1 q2
      have e1 : wr.cell? ⟨b1, o1 + k, none⟩ = some (.string x) := (HNX.out.cell (p := ⟨b1, o1 + k, none⟩) hb1).trans (hk1 k x hx)
      have e2 : wr.cell? ⟨b2, o2 + k, none⟩ = some (.string x) := (HNX.out.cell (p := ⟨b2, o2 + k, none⟩) hb2).trans (hk2 k x hx)
      have hi1 : (k : Int) < (xs.length : Int) := by omega
      have hi0 : (0 : Int) ≤ (k : Int) := by omega
      have hN : Hid (∀ n, Below w.heap.size w (wr.drewN n)) := by show ∀ n, _; exact fun n => below_drewN HNX.out n
      clear hk1 hk2 hx
      go_wp2_with fail
      go_quiet (fail)
      all_goals go_wp2
      all_goals go_roundw
      case rel => exact ⟨k + 1, by omega, by go_num, hN.out _⟩
      case measure => simp [intOf]; omega
    · have hi1 : ¬ (k : Int) < (xs.length : Int) := by omega
      go_wp2
      go_ret
      exact ⟨rfl, HNX.out⟩

set_option maxHeartbeats 4000000 in
set_option maxRecDepth 100000 in
theorem sameStep_same (x : StepS) (a1 a2 a3 a4 : Option Addr) (n1 c1 n2 c2 n3 c3 n4 c4 : Nat) (w : World) (h1 : IsStrs w (.slice a1 n1 c1) x.args) (h2 : IsStrs w (.slice a2 n2 c2) x.lits) (h3 : IsStrs w (.slice a3 n3 c3) x.args) (h4 : IsStrs w (.slice a4 n4 c4) x.lits) :
    Calls Tryz.prog 86 #[.agg #[.string x.out, .int .i64 x.op, .slice a1 n1 c1, .slice a2 n2 c2, .int .i64 x.n], .agg #[.string x.out, .int .i64 x.op, .slice a3 n3 c3, .slice a4 n4 c4, .int .i64 x.n]] w fun e w' => e = .returned (.bool true) ∧ Below w.heap.size w w' := by
  have cA := fun w' (hb : Below w.heap.size w w') => equalS_same (.slice a1 n1 c1) (.slice a3 n3 c3) x.args w' (h1.below hb) (h3.below hb)
  have cL := fun w' (hb : Below w.heap.size w w') => equalS_same (.slice a2 n2 c2) (.slice a4 n4 c4) x.lits w' (h2.below hb) (h4.below hb)
  obtain ⟨o1, ho1⟩ : ∃ o : Obj, o = .cells #[.string x.out, .int .i64 x.op, .slice a1 n1 c1, .slice a2 n2 c2, .int .i64 x.n] 50 := ⟨_, rfl⟩
  obtain ⟨o2, ho2⟩ : ∃ o : Obj, o = .cells #[.string x.out, .int .i64 x.op, .slice a3 n3 c3, .slice a4 n4 c4, .int .i64 x.n] 50 := ⟨_, rfl⟩
  have hb0 : Below w.heap.size w ((w.alloc o1).alloc o2) := ((Below.refl _ _).alloc (Nat.le_refl _) _).alloc (by simp) _
  have hs0 : ((w.alloc o1).alloc o2).heap.size = w.heap.size + 2 := by simp
  have hx1 : ((w.alloc o1).alloc o2).heap[w.heap.size]? = some o1 := by rw [Below.heap_alloc _ _ _ (by simp)]; exact alloc_at w o1
  have hx2 : ((w.alloc o1).alloc o2).heap[w.heap.size + 1]? = some o2 := by
    have := alloc_at (w.alloc o1) o2
    simpa using this
  have HX1 : Hid (∀ W, Below (w.heap.size + 2) ((w.alloc o1).alloc o2) W → W.heap[w.heap.size]? = some o1) := by show ∀ W, _; exact fun W h => (h.block _ (by omega)).trans hx1
  have HX2 : Hid (∀ W, Below (w.heap.size + 2) ((w.alloc o1).alloc o2) W → W.heap[w.heap.size + 1]? = some o2) := by show ∀ W, _; exact fun W h => (h.block _ (by omega)).trans hx2
  have HUP : Hid (∀ W, Below (w.heap.size + 2) ((w.alloc o1).alloc o2) W → Below w.heap.size w W) := by show ∀ W, _; exact fun W h => hb0.trans (h.mono (by omega))
  have HS0 := Lib.hid hs0
  have HB0 := Lib.hid hb0
  have CA := Lib.hid cA
  have CL := Lib.hid cL
  clear cA cL hb0 h1 h2 h3 h4 hx1 hx2 hs0
  subst ho1 ho2
  go_enter Tryz.func86, Tryz.ntmps86
  go_wp2_with fail
  refine (CA.out _ HB0.out).mono ?_
  rintro e w2 ⟨rfl, hb2⟩
  rw [HS0.out] at hb2
  obtain ⟨d0, d1, d2, d3, d4, _⟩ := cells5 (HX1.out _ hb2)
  obtain ⟨e0, e1, e2, e3, e4, _⟩ := cells5 (HX2.out _ hb2)
  have HB2 := Lib.hid (HUP.out _ hb2)
  clear hb2
  go_wp2_with fail
  refine (CL.out _ HB2.out).mono ?_
  rintro e w3 ⟨rfl, hb3⟩
  have HB3 := Lib.hid (HB2.out.trans (hb3.mono HB2.out.size))
  clear hb3
  go_wp2
  go_ret
  exact ⟨rfl, HB3.out⟩

set_option maxHeartbeats 4000000 in
set_option maxRecDepth 100000 in
theorem equalSteps_same (v1 v2 : Value) (xs : List StepS) (Av : Nat → Prop) (w : World) (h1 : StepsA Av w v1 xs) (h2 : StepsA Av w v2 xs) :
    Calls Tryz.prog 85 #[v1, v2, .func (.func 86) #[] #[]] w fun e w' => e = .returned (.bool true) ∧ Below w.heap.size w w' := by
  obtain ⟨a1, c1, q1, _, hm1⟩ := stepsA_len h1
  obtain ⟨a2, c2, q2, _, hm2⟩ := stepsA_len h2
  subst q1 q2
  have hlm : xs.length ≤ maxLen := by omega
  unfold maxLen at hlm
  have H1 := Lib.hid h1
  have H2 := Lib.hid h2
  clear h1 h2
  go_enter Tryz.func85, Tryz.ntmps85
  go_wp2
  go_loopw [17] (fun i wr => ∃ k : Nat, k ≤ xs.length ∧ i = .int .i64 k ∧ Below w.heap.size w wr)
    (fun i _ => xs.length - (intOf i).toNat)
  case atStart => exact ⟨0, Nat.zero_le _, rfl, Below.refl _ _⟩
  case round =>
    obtain ⟨k, hk, rfl, hnx⟩ := hrel
    have hsz := hnx.size
    have HNX := Lib.hid hnx
    clear hnx
    by_cases hlt : k < xs.length
    · obtain ⟨x, hx⟩ : ∃ x, xs[k]? = some x := ⟨xs[k], List.getElem?_eq_getElem hlt⟩
      obtain ⟨b1, o1, p1, a1, n1, c1, a2, n2, c2, q1, hb1, hA1, hL1, hk1⟩ := steps_at H1.out hx
      obtain ⟨b2, o2, p2, a3, n3, c3, a4, n4, c4, q2, hb2, hA2, hL2, hk2⟩ := steps_at H2.out hx
      cases q1
      cases q2
      obtain ⟨d0, d1, d2, d3, d4⟩ := hk1 _ HNX.out
      obtain ⟨e0, e1, e2, e3, e4⟩ := hk2 (wr.alloc (.cells #[.string x.out, .int .i64 x.op, .slice a1 n1 c1, .slice a2 n2 c2, .int .i64 x.n] 50)) (HNX.out.alloc hsz _)
      have HK2 := Lib.hid hk2
      have hi1 : (k : Int) < (xs.length : Int) := by omega
      have hi0 : (0 : Int) ≤ (k : Int) := by omega
      have HC : Hid (∀ w', Below w.heap.size w w' → Calls Tryz.prog 86 #[.agg #[.string x.out, .int .i64 x.op, .slice a1 n1 c1, .slice a2 n2 c2, .int .i64 x.n], .agg #[.string x.out, .int .i64 x.op, .slice a3 n3 c3, .slice a4 n4 c4, .int .i64 x.n]] w' fun e w'' => e = .returned (.bool true) ∧ Below w'.heap.size w' w'') := by
        show ∀ w', _
        exact fun w' hb => sameStep_same x a1 a2 a3 a4 n1 c1 n2 c2 n3 c3 n4 c4 w' (hA1.isStrs.below hb) (hL1.isStrs.below hb) (hA2.isStrs.below hb) (hL2.isStrs.below hb)
      have HN2 : Hid (∀ o1 o2, Below w.heap.size w ((wr.alloc o1).alloc o2)) := by show ∀ o1 o2, _; exact fun o1 o2 => (HNX.out.alloc hsz _).alloc (by simp; omega) _
      clear hk1 hk2 hx hA1 hL1 hA2 hL2
      go_wp2_with fail
      refine (HC.out _ (HN2.out _ _)).mono ?_
      rintro e w2 ⟨rfl, hb2⟩
      have HN3 := Lib.hid ((HN2.out _ _).trans (hb2.mono (by simp; omega)))
      clear hb2 d0 d1 d2 d3 d4 e0 e1 e2 e3 e4
      go_wp2
      go_roundw
      case rel => exact ⟨k + 1, by omega, by go_num, HN3.out⟩
      case measure => simp [intOf]; omega
    · have hi1 : ¬ (k : Int) < (xs.length : Int) := by omega
      go_wp2
      go_ret
      exact ⟨rfl, HNX.out⟩

set_option maxHeartbeats 4000000 in
set_option maxRecDepth 100000 in
theorem sameRule_same (x : RuleS) (a1 a2 a3 a4 d1 d2 d3 d4 : Option Addr) (n1 c1 n2 c2 n3 c3 n4 c4 m1 e1 m2 e2 m3 e3 m4 e4 : Nat) (Av : Nat → Prop) (w : World)
    (h1 : RuleA Av w [.string x.name, .slice a1 n1 c1, .slice a2 n2 c2, .slice a3 n3 c3, .slice a4 n4 c4] x) (h2 : RuleA Av w [.string x.name, .slice d1 m1 e1, .slice d2 m2 e2, .slice d3 m3 e3, .slice d4 m4 e4] x) :
    Calls Tryz.prog 44 #[.agg #[.string x.name, .slice a1 n1 c1, .slice a2 n2 c2, .slice a3 n3 c3, .slice a4 n4 c4], .agg #[.string x.name, .slice d1 m1 e1, .slice d2 m2 e2, .slice d3 m3 e3, .slice d4 m4 e4]] w fun e w' => e = .returned (.bool true) ∧ Below w.heap.size w w' := by
  obtain ⟨_, _, _, _, q1, i1, i2, i3, i4⟩ := h1
  obtain ⟨_, _, _, _, q2, j1, j2, j3, j4⟩ := h2
  cases q1
  cases q2
  have k1 := fun w' (hb : Below w.heap.size w w') => equalS_same (.slice a1 n1 c1) (.slice d1 m1 e1) x.ins w' (i1.isStrs.below hb) (j1.isStrs.below hb)
  have k2 := fun w' (hb : Below w.heap.size w w') => equalS_same (.slice a2 n2 c2) (.slice d2 m2 e2) x.outs w' (i2.isStrs.below hb) (j2.isStrs.below hb)
  have k3 := fun w' (hb : Below w.heap.size w w') => equalS_same (.slice a3 n3 c3) (.slice d3 m3 e3) x.after w' (i3.isStrs.below hb) (j3.isStrs.below hb)
  have k4 := fun w' (hb : Below w.heap.size w w') => equalSteps_same (.slice a4 n4 c4) (.slice d4 m4 e4) x.steps Av w' (i4.keep (fr_below hb)) (j4.keep (fr_below hb))
  obtain ⟨o1, ho1⟩ : ∃ o : Obj, o = .cells #[.string x.name, .slice a1 n1 c1, .slice a2 n2 c2, .slice a3 n3 c3, .slice a4 n4 c4] 38 := ⟨_, rfl⟩
  obtain ⟨o2, ho2⟩ : ∃ o : Obj, o = .cells #[.string x.name, .slice d1 m1 e1, .slice d2 m2 e2, .slice d3 m3 e3, .slice d4 m4 e4] 38 := ⟨_, rfl⟩
  have hb0 : Below w.heap.size w ((w.alloc o1).alloc o2) := ((Below.refl _ _).alloc (Nat.le_refl _) _).alloc (by simp) _
  have hs0 : ((w.alloc o1).alloc o2).heap.size = w.heap.size + 2 := by simp
  have hx1 : ((w.alloc o1).alloc o2).heap[w.heap.size]? = some o1 := by rw [Below.heap_alloc _ _ _ (by simp)]; exact alloc_at w o1
  have hx2 : ((w.alloc o1).alloc o2).heap[w.heap.size + 1]? = some o2 := by
    have := alloc_at (w.alloc o1) o2
    simpa using this
  have HX1 : Hid (∀ W, Below (w.heap.size + 2) ((w.alloc o1).alloc o2) W → W.heap[w.heap.size]? = some o1) := by show ∀ W, _; exact fun W h => (h.block _ (by omega)).trans hx1
  have HX2 : Hid (∀ W, Below (w.heap.size + 2) ((w.alloc o1).alloc o2) W → W.heap[w.heap.size + 1]? = some o2) := by show ∀ W, _; exact fun W h => (h.block _ (by omega)).trans hx2
  have HUP : Hid (∀ W, Below (w.heap.size + 2) ((w.alloc o1).alloc o2) W → Below w.heap.size w W) := by show ∀ W, _; exact fun W h => hb0.trans (h.mono (by omega))
  have HS0 := Lib.hid hs0
  have HB0 := Lib.hid hb0
  have K1 := Lib.hid k1; have K2 := Lib.hid k2; have K3 := Lib.hid k3; have K4 := Lib.hid k4
  clear k1 k2 k3 k4 hb0 i1 i2 i3 i4 j1 j2 j3 j4 hx1 hx2 hs0
  subst ho1 ho2
  go_enter Tryz.func44, Tryz.ntmps44
  go_wp2_with fail
  refine (K1.out _ HB0.out).mono ?_
  rintro e w2 ⟨rfl, hb2⟩
  rw [HS0.out] at hb2
  obtain ⟨d0, d1, d2, d3, d4, _⟩ := cells5 (HX1.out _ hb2)
  obtain ⟨e0, e1, e2, e3, e4, _⟩ := cells5 (HX2.out _ hb2)
  have HW2 := Lib.hid hb2
  have hs2 := hb2.size
  rw [HS0.out] at hs2
  clear hb2
  go_wp2_with fail
  refine (K2.out _ (HUP.out _ HW2.out)).mono ?_
  rintro e w3 ⟨rfl, hb3⟩
  replace hb3 := HW2.out.trans (hb3.mono hs2)
  clear d0 d1 d2 d3 d4 e0 e1 e2 e3 e4 hs2
  obtain ⟨d0, d1, d2, d3, d4, _⟩ := cells5 (HX1.out _ hb3)
  obtain ⟨e0, e1, e2, e3, e4, _⟩ := cells5 (HX2.out _ hb3)
  have HW3 := Lib.hid hb3
  have hs3 := hb3.size
  rw [HS0.out] at hs3
  clear hb3
  go_wp2_with fail
  refine (K3.out _ (HUP.out _ HW3.out)).mono ?_
  rintro e w4 ⟨rfl, hb4⟩
  replace hb4 := HW3.out.trans (hb4.mono hs3)
  clear d0 d1 d2 d3 d4 e0 e1 e2 e3 e4 hs3
  obtain ⟨d0, d1, d2, d3, d4, _⟩ := cells5 (HX1.out _ hb4)
  obtain ⟨e0, e1, e2, e3, e4, _⟩ := cells5 (HX2.out _ hb4)
  have HW4 := Lib.hid (HUP.out _ hb4)
  clear hb4
  go_wp2_with fail
  refine (K4.out _ HW4.out).mono ?_
  rintro e w5 ⟨rfl, hb5⟩
  have HW5 := Lib.hid (HW4.out.trans (hb5.mono HW4.out.size))
  clear hb5
  go_wp2
  go_ret
  exact ⟨rfl, HW5.out⟩

set_option maxHeartbeats 4000000 in
set_option maxRecDepth 100000 in
theorem equalRules_same (v1 v2 : Value) (xs : List RuleS) (Av : Nat → Prop) (w : World) (h1 : RulesA Av w v1 xs) (h2 : RulesA Av w v2 xs) :
    Calls Tryz.prog 43 #[v1, v2, .func (.func 44) #[] #[]] w fun e w' => e = .returned (.bool true) ∧ Below w.heap.size w w' := by
  obtain ⟨a1, c1, q1, _, hm1⟩ := rulesA_len h1
  obtain ⟨a2, c2, q2, _, hm2⟩ := rulesA_len h2
  subst q1 q2
  have hlm : xs.length ≤ maxLen := by omega
  unfold maxLen at hlm
  have H1 := Lib.hid h1
  have H2 := Lib.hid h2
  clear h1 h2
  go_enter Tryz.func43, Tryz.ntmps43
  go_wp2
  go_loopw [17] (fun i wr => ∃ k : Nat, k ≤ xs.length ∧ i = .int .i64 k ∧ Below w.heap.size w wr)
    (fun i _ => xs.length - (intOf i).toNat)
  case atStart => exact ⟨0, Nat.zero_le _, rfl, Below.refl _ _⟩
  case round =>
    obtain ⟨k, hk, rfl, hnx⟩ := hrel
    have hsz := hnx.size
    have HNX := Lib.hid hnx
    clear hnx
    by_cases hlt : k < xs.length
    · obtain ⟨x, hx⟩ : ∃ x, xs[k]? = some x := ⟨xs[k], List.getElem?_eq_getElem hlt⟩
      obtain ⟨b1, o1, p1, a1, n1, c1, a2, n2, c2, a3, n3, c3, a4, n4, c4, q1, hb1, hA1, hk1⟩ := rules_at H1.out hx
      obtain ⟨b2, o2, p2, g1, m1, r1, g2, m2, r2, g3, m3, r3, g4, m4, r4, q2, hb2, hA2, hk2⟩ := rules_at H2.out hx
      cases q1
      cases q2
      obtain ⟨d0, d1, d2, d3, d4⟩ := hk1 _ HNX.out
      obtain ⟨e0, e1, e2, e3, e4⟩ := hk2 (wr.alloc (.cells #[.string x.name, .slice a1 n1 c1, .slice a2 n2 c2, .slice a3 n3 c3, .slice a4 n4 c4] 38)) (HNX.out.alloc hsz _)
      have hi1 : (k : Int) < (xs.length : Int) := by omega
      have hi0 : (0 : Int) ≤ (k : Int) := by omega
      have HC : Hid (∀ w', Below w.heap.size w w' → Calls Tryz.prog 44 #[.agg #[.string x.name, .slice a1 n1 c1, .slice a2 n2 c2, .slice a3 n3 c3, .slice a4 n4 c4], .agg #[.string x.name, .slice g1 m1 r1, .slice g2 m2 r2, .slice g3 m3 r3, .slice g4 m4 r4]] w' fun e w'' => e = .returned (.bool true) ∧ Below w'.heap.size w' w'') := by
        show ∀ w', _
        exact fun w' hb => sameRule_same x a1 a2 a3 a4 g1 g2 g3 g4 n1 c1 n2 c2 n3 c3 n4 c4 m1 r1 m2 r2 m3 r3 m4 r4 Av w' (hA1.keep (fr_below hb)) (hA2.keep (fr_below hb))
      have HN2 : Hid (∀ o1 o2, Below w.heap.size w ((wr.alloc o1).alloc o2)) := by show ∀ o1 o2, _; exact fun o1 o2 => (HNX.out.alloc hsz _).alloc (by simp; omega) _
      clear hk1 hk2 hx hA1 hA2
      go_wp2_with fail
      refine (HC.out _ (HN2.out _ _)).mono ?_
      rintro e w2 ⟨rfl, hb2⟩
      have HN3 := Lib.hid ((HN2.out _ _).trans (hb2.mono (by simp; omega)))
      clear hb2 d0 d1 d2 d3 d4 e0 e1 e2 e3 e4
      go_wp2
      go_roundw
      case rel => exact ⟨k + 1, by omega, by go_num, HN3.out⟩
      case measure => simp [intOf]; omega
    · have hi1 : ¬ (k : Int) < (xs.length : Int) := by omega
      go_wp2
      go_ret
      exact ⟨rfl, HNX.out⟩

theorem eq_same (v1 v2 : Value) (xs : List RuleS) (Av : Nat → Prop) (w : World) (h1 : RulesA Av w v1 xs) (h2 : RulesA Av w v2 xs) :
    Calls Tryz.prog 20 #[v1, v2] w fun e w' => e = .returned (.bool true) ∧ Below w.heap.size w w' := by
  have c := equalRules_same v1 v2 xs Av w h1 h2
  clear h1 h2
  go_enter Tryz.func20, Tryz.ntmps20
  go_wp2_with fail
  refine c.mono ?_
  rintro e w2 ⟨rfl, hb2⟩
  go_wp2
  go_ret
  exact ⟨rfl, hb2⟩
end Go.Proofs.YtlmnabhhgplhnaaGreatDoor
