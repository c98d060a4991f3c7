/- The reference's clause, OpName: texts. The reference's Number (negative numbers too), OpName, Step: texts. The reference's Step: its text. -/
import Derived.Test.YtlmnabhhgplhnaaGreatDoorMrl
import Derived.Test.YtlmnabhhgplhnaaGreatDoorRqN
import Derived.Test.YtlmnabhhgplhnaaGreatDoorMpri
import Derived.Deep.RegionHeld3
import Derived.Test.YtlmnabhhgplhnaaGreatDoorMmb
import Derived.Test.YtlmnabhhgplhnaaGreatDoorOpenR
import Derived.Deep.DeepCutAuto
import Derived.Deep.CutBlock
import Derived.Test.YtlmnabhhgplhnaaGreatDoorMpar
namespace Go.Proofs.YtlmnabhhgplhnaaGreatDoor
open Go.RowKit Go.Shelf

def partQ (key x : List UInt8) (r : List (List UInt8)) (k : Nat) : List UInt8 := [32, 32] ++ key ++ [32] ++ x ++ Lib.joinTail [44, 32] (r.take k)
/-- A line of names, as the reference prints it. -/
def clauseQ (key : List UInt8) : List ByteArray → List UInt8
  | [] => []
  | x :: r => partQ key x.data.toList (r.map (·.data.toList)) r.length ++ [59, 10]
theorem partQ_next {key x : List UInt8} {r : List (List UInt8)} {k : Nat} {y : List UInt8} (h : r[k]? = some y) : partQ key x r (k + 1) = partQ key x r k ++ ([44, 32] ++ y) := by
  unfold partQ
  rw [Lib.joinTail_take_succ _ _ _ _ h]
  simp only [List.append_assoc]
theorem partQ_le (key x : List UInt8) (r : List (List UInt8)) (k : Nat) : (partQ key x r k).length ≤ (partQ key x r r.length).length := by
  unfold partQ
  have := Lib.joinTail_take_le [44, 32] r k
  rw [List.take_length]
  simp only [List.length_append]
  omega

set_option maxHeartbeats 4000000 in
set_option maxRecDepth 100000 in
theorem clauseQ_any (key : ByteArray) (v : Value) (xs : List ByteArray) (w : World) (h : IsStrs w v xs) (hlen : (clauseQ key.data.toList xs).length ≤ 1000000000000) :
    Calls Tryz.prog 38 #[.string key, v] w fun e w' => e = .returned (.string ⟨(clauseQ key.data.toList xs).toArray⟩) ∧ w = w' := by
  obtain ⟨a, c, rfl, h1, h1m, h2⟩ := h
  cases xs with
  | nil =>
    clear h2
    go_enter Tryz.func38, Tryz.ntmps38
    go_wp2
    go_ret
    exact ⟨rfl, rfl⟩
  | cons x r =>
    obtain ⟨b, o, rfl, hb, hc⟩ := h2 (by simp)
    have hx0 := hc 0 x rfl
    rw [Nat.add_zero] at hx0
    obtain ⟨n, hn⟩ : ∃ n, r.length = n := ⟨_, rfl⟩
    have hnl : (x :: r).length = n + 1 := by simp [hn]
    obtain ⟨KL, hKL⟩ : ∃ KL, key.data.toList = KL := ⟨_, rfl⟩
    obtain ⟨D, hD⟩ : ∃ D, r.map (·.data.toList) = D := ⟨_, rfl⟩
    have hDn : D.length = n := by rw [← hD, List.length_map, hn]
    have hall : (partQ KL x.data.toList D n).length ≤ 1000000000000 := by
      rw [hKL] at hlen
      simp only [clauseQ, hD, hn, List.length_append] at hlen
      omega
    have HP : Hid (∀ k, k ≤ n → (partQ KL x.data.toList D k).length ≤ 1000000000000) := by
      show ∀ k, _
      intro k hk
      have := partQ_le KL x.data.toList D k
      rw [hDn] at this
      omega
    have hks : key.size + x.size ≤ 1000000000000 := by
      have := HP.out 0 (Nat.zero_le _)
      unfold partQ at this
      simp only [List.take_zero, List.length_append] at this
      rw [← hKL, ← Lib.size_eq, ← Lib.size_eq] at this
      omega
    have HCE : Hid (∀ k y, r[k]? = some y → w.cell? ⟨b, o + (k + 1), none⟩ = some (.string y) ∧ D[k]? = some y.data.toList ∧ y.size ≤ 1000000000000) := by
      show ∀ k y, _
      intro k y hy
      have hd : D[k]? = some y.data.toList := by rw [← hD, List.getElem?_map, hy]; rfl
      refine ⟨hc (k + 1) y (by simpa using hy), hd, ?_⟩
      have hk : k < n := by rw [← hDn]; exact (List.getElem?_eq_some_iff.1 hd).1
      have := HP.out (k + 1) hk
      rw [partQ_next hd] at this
      simp only [List.length_append] at this
      rw [Lib.size_eq]
      omega
    have HRES : Hid (clauseQ KL (x :: r) = partQ KL x.data.toList D n ++ [59, 10]) := by show _ = _; simp only [clauseQ, hD, hn]
    have HT1 : Hid ((((⟨#[32, 32]⟩ ++ key) ++ ⟨#[32]⟩) ++ x : ByteArray).data.toList = partQ KL x.data.toList D 0) := by
      show _ = _
      rw [ByteArray.data_append, Array.toList_append, ByteArray.data_append, Array.toList_append, ByteArray.data_append, Array.toList_append, hKL]
      unfold partQ
      simp [Lib.joinTail]
    rw [hKL]
    rw [hnl] at h1
    have HNL := Lib.hid hnl
    have hnm : n + 1 ≤ maxLen := by omega
    unfold maxLen at hnm
    rw [hnl]
    have HN := Lib.hid hn
    clear hc hD hDn hall hlen hKL hnl hn
    go_enter Tryz.func38, Tryz.ntmps38
    go_wp2
    go_loop [5, 6] (fun t i => ∃ (k : Nat) (T : ByteArray), k ≤ n ∧ i = .int .i64 ((k : Int) + 1) ∧ t = .string T ∧ T.data.toList = partQ KL x.data.toList D k) (fun _ i => n + 1 - (intOf i).toNat)
    case atStart => exact ⟨0, _, Nat.zero_le _, rfl, rfl, HT1.out⟩
    case round =>
      obtain ⟨k, T, hk, rfl, rfl, hT⟩ := hrel
      have hTs : T.size ≤ 1000000000000 := by rw [Lib.size_eq, hT]; exact HP.out k hk
      have HT := Lib.hid hT
      clear hT
      by_cases hlt : k < n
      · obtain ⟨y, hy⟩ : ∃ y, r[k]? = some y := ⟨r[k]'(by rw [HN.out]; exact hlt), List.getElem?_eq_getElem _⟩
        obtain ⟨c1, hd, hys⟩ := HCE.out k y hy
        have hi1 : (k : Int) + 1 < (n : Int) + 1 := by omega
        have hi0 : (0 : Int) ≤ (k : Int) + 1 := by omega
        have hto : ((k : Int) + 1).toNat = k + 1 := by omega
        have hw : IntKind.i64.wrap ((k : Int) + 1 + 1) = (k : Int) + 1 + 1 := IntWalk.i64_in _ (by omega)
        have HNX : Hid ((T ++ (⟨#[44, 32]⟩ ++ y) : ByteArray).data.toList = partQ KL x.data.toList D (k + 1)) := by
          show _ = _
          rw [ByteArray.data_append, Array.toList_append, ByteArray.data_append, Array.toList_append, HT.out, partQ_next hd]
        clear hy hd
        go_wp2
        go_round
        case rel => exact ⟨k + 1, _, by omega, by go_num, rfl, HNX.out⟩
        case measure => simp [intOf]; omega
      · obtain rfl : k = n := by omega
        have hi1 : ¬ (k : Int) + 1 < (k : Int) + 1 := by omega
        have HF : Hid ((T ++ ⟨#[59, 10]⟩ : ByteArray) = ⟨(clauseQ KL (x :: r)).toArray⟩) := by
          show _ = _
          apply ByteArray.ext
          apply Array.ext'
          rw [ByteArray.data_append, Array.toList_append, HT.out, HRES.out]
        go_wp2
        go_ret
        exact ⟨ret_str HF.out, rfl⟩
end Go.Proofs.YtlmnabhhgplhnaaGreatDoor
namespace Go.Proofs.YtlmnabhhgplhnaaGreatDoor
open Go.RowKit Go.Shelf

theorem numR_neg (n : Int) (h : n < 0) (w : World) :
    Calls Tryz.prog 67 #[.int .i64 n] w fun e w' => e = .returned (.string (decB 0)) ∧ Below w.heap.size w w' := by
  have hd : decB 0 = ⟨#[48]⟩ := by rw [decB_small (by decide)]; rfl
  rw [hd]
  have hc := conv_one 48
  rw [show ((48 : UInt8).toNat : Int) = 48 from rfl] at hc
  have hcw := hc w
  have h10 : n < 10 := by omega
  have hmx : max n 0 = 0 := by omega
  clear hd hc
  go_enter Tryz.func67, Tryz.ntmps67
  go_wp2
  go_ret
  exact ⟨rfl, (Below.refl _ _).alloc (Nat.le_refl _) _⟩
/-- A number as the reference writes it. -/
def numQ (n : Int) : ByteArray := decB n.toNat
theorem numQ_any (n : Int) (h : Int64 n) (w : World) :
    Calls Tryz.prog 67 #[.int .i64 n] w fun e w' => e = .returned (.string (numQ n)) ∧ Below w.heap.size w w' := by
  by_cases hn : n < 0
  · have : n.toNat = 0 := by omega
    unfold numQ
    rw [this]
    exact numR_neg n hn w
  · obtain ⟨m, rfl⟩ : ∃ m : Nat, n = (m : Int) := ⟨n.toNat, by omega⟩
    exact numR_any' m (by have := h.2; omega) w
theorem numQ_size (n : Int) (h : Int64 n) : (numQ n).size ≤ 22 := decB_size _ (by have := h.2; omega)

set_option maxHeartbeats 1000000 in
set_option maxRecDepth 100000 in
theorem opNameQ_any (op : Int) (w : World) :
    Calls Tryz.prog 66 #[.int .i64 op] w fun e w' => e = .returned (.string ⟨(opTx op).toArray⟩) ∧ Below w.heap.size w w' := by
  by_cases h1 : 1 ≤ op ∧ op < 10
  · obtain ⟨k, rfl⟩ : ∃ k : Nat, op = (k : Int) := ⟨op.toNat, by omega⟩
    obtain ⟨x, hx⟩ : ∃ x, opTab[k]? = some x := ⟨opTab[k]'(by simp [opTab]; omega), List.getElem?_eq_getElem _⟩
    have htx : opTx (k : Int) = x := by
      unfold opTx
      rw [if_neg (by omega), Int.toNat_natCast, List.getD_eq_getElem?_getD, hx]; rfl
    rw [htx]
    have hk1 : (1 : Int) ≤ (k : Int) := h1.1
    have hk2 : (k : Int) < 10 := h1.2
    have hk0 : (0 : Int) ≤ (k : Int) := by omega
    go_enter Tryz.func66, Tryz.ntmps66
    go_wp2_with fail
    refine (q_names_any w).mono ?_
    rintro e w2 ⟨rfl, hw2⟩
    have hX : Below w.heap.size w w2 := by rw [hw2]; exact (Below.refl _ _).alloc (Nat.le_refl _) _
    have hc : w2.cell? ⟨w.heap.size, k, none⟩ = some (.string ⟨x.toArray⟩) := by
      rw [hw2, World.cell?_alloc_at _ _ _ _ rfl]
      unfold opCells
      simp [hx]
    have HX := Lib.hid hX
    clear hw2 hX htx hx h1
    go_wp2
    go_ret
    exact ⟨rfl, HX.out⟩
  · have htx : opTx op = [] := by
      unfold opTx
      split
      · rfl
      · have h0 : op = 0 := by omega
        subst h0; rfl
    rw [htx]
    have hcase : op < 1 ∨ (1 ≤ op ∧ 10 ≤ op) := by omega
    go_enter Tryz.func66, Tryz.ntmps66
    go_wp2_with fail
    refine (q_names_any w).mono ?_
    rintro e w2 ⟨rfl, hw2⟩
    have HX := Lib.hid (show Below w.heap.size w w2 by rw [hw2]; exact (Below.refl _ _).alloc (Nat.le_refl _) _)
    clear hw2 htx h1
    rcases hcase with hlt | ⟨hge, hge2⟩
    · go_wp2
      go_ret
      exact ⟨rfl, HX.out⟩
    · go_wp2
      go_ret
      exact ⟨rfl, HX.out⟩
theorem opTx_len (op : Int) : (opTx op).length ≤ 7 := by
  unfold opTx
  split
  · simp
  · rename_i h
    have : op.toNat < 10 := by omega
    match op.toNat, this with
    | 0, _ | 1, _ | 2, _ | 3, _ | 4, _ | 5, _ | 6, _ | 7, _ | 8, _ | 9, _ => decide
end Go.Proofs.YtlmnabhhgplhnaaGreatDoor
namespace Go.Proofs.YtlmnabhhgplhnaaGreatDoor
open Go.RowKit Go.Shelf

/-- A step as the reference prints it. -/
def headQ (x : StepS) : List UInt8 := x.out.data.toList ++ [32, 61, 32] ++ opTx x.op ++ (if x.op = 9 then 32 :: (numQ x.n).data.toList else [])
def litsQ (xs : List ByteArray) : List UInt8 := (xs.map fun l => 32 :: quoteS l.data.toList).flatten
def argsQ (xs : List ByteArray) : List UInt8 := (xs.map fun l => 32 :: l.data.toList).flatten
def stepQ (x : StepS) : List UInt8 := headQ x ++ litsQ x.lits ++ argsQ x.args ++ [59]
theorem litsQ_next {xs : List ByteArray} {k : Nat} {y : ByteArray} (h : xs[k]? = some y) : litsQ (xs.take (k + 1)) = litsQ (xs.take k) ++ (32 :: quoteS y.data.toList) := by
  have hk : k < xs.length := (List.getElem?_eq_some_iff.1 h).1
  have he : xs[k] = y := (List.getElem?_eq_some_iff.1 h).2
  unfold litsQ
  rw [List.take_succ_eq_append_getElem hk, List.map_append, List.flatten_append, he]
  simp
theorem argsQ_next {xs : List ByteArray} {k : Nat} {y : ByteArray} (h : xs[k]? = some y) : argsQ (xs.take (k + 1)) = argsQ (xs.take k) ++ (32 :: y.data.toList) := by
  have hk : k < xs.length := (List.getElem?_eq_some_iff.1 h).1
  have he : xs[k] = y := (List.getElem?_eq_some_iff.1 h).2
  unfold argsQ
  rw [List.take_succ_eq_append_getElem hk, List.map_append, List.flatten_append, he]
  simp

set_option maxHeartbeats 8000000 in
set_option maxRecDepth 100000 in
theorem stepQ_any (x : StepS) (va vl : Value) (w : World) (h1 : IsStrs w va x.args) (h2 : IsStrs w vl x.lits) (hs : SmallS x 1048576) :
    Calls Tryz.prog 39 #[.agg #[.string x.out, .int .i64 x.op, va, vl, .int .i64 x.n]] w fun e w' => e = .returned (.string ⟨(stepQ x).toArray⟩) ∧ Below w.heap.size w w' := by
  obtain ⟨a1, c1, rfl, _, hm1, hc1⟩ := h1
  obtain ⟨a2, c2, rfl, _, hm2, hc2⟩ := h2
  obtain ⟨W1, hW1⟩ : ∃ W1, w.alloc (.cells #[.string x.out, .int .i64 x.op, .slice a1 x.args.length c1, .slice a2 x.lits.length c2, .int .i64 x.n] 50) = W1 := ⟨_, rfl⟩
  have hb1 : Below w.heap.size w W1 := by rw [← hW1]; exact (Below.refl _ _).alloc (Nat.le_refl _) _
  have hs1 : W1.heap.size = w.heap.size + 1 := by rw [← hW1]; simp
  have hx : W1.heap[w.heap.size]? = some (.cells #[.string x.out, .int .i64 x.op, .slice a1 x.args.length c1, .slice a2 x.lits.length c2, .int .i64 x.n] 50) := by rw [← hW1]; exact alloc_at w _
  have HX : Hid (∀ W', Below W1.heap.size W1 W' → W'.heap[w.heap.size]? = some (.cells #[.string x.out, .int .i64 x.op, .slice a1 x.args.length c1, .slice a2 x.lits.length c2, .int .i64 x.n] 50)) := by
    show ∀ W', _
    exact fun W' hb => (hb.block _ (by omega)).trans hx
  have HL : Hid (∀ k y, x.lits[k]? = some y → ∃ b o, a2 = some ⟨b, o, none⟩ ∧ y.size ≤ 1048576 ∧ ∀ W', Below W1.heap.size W1 W' → W'.cell? ⟨b, o + k, none⟩ = some (.string y)) := by
    show ∀ k y, _
    intro k y hy
    obtain ⟨b, o, e, hb, hc⟩ := hc2 (by rintro e; rw [e] at hy; simp at hy)
    exact ⟨b, o, e, hs.lits.2 y (List.mem_of_getElem? hy), fun W' hw => ((hb1.trans (hw.mono hb1.size)).cell (p := ⟨b, o + k, none⟩) hb).trans (hc k y hy)⟩
  have HA : Hid (∀ k y, x.args[k]? = some y → ∃ b o, a1 = some ⟨b, o, none⟩ ∧ y.size ≤ 1048576 ∧ ∀ W', Below W1.heap.size W1 W' → W'.cell? ⟨b, o + k, none⟩ = some (.string y)) := by
    show ∀ k y, _
    intro k y hy
    obtain ⟨b, o, e, hb, hc⟩ := hc1 (by rintro e; rw [e] at hy; simp at hy)
    exact ⟨b, o, e, hs.args.2 y (List.mem_of_getElem? hy), fun W' hw => ((hb1.trans (hw.mono hb1.size)).cell (p := ⟨b, o + k, none⟩) hb).trans (hc k y hy)⟩
  have hln : x.lits.length ≤ 1048576 := hs.lits.1
  have han : x.args.length ≤ 1048576 := hs.args.1
  have hout := hs.out
  obtain ⟨O, hO⟩ : ∃ O : ByteArray, (⟨(opTx x.op).toArray⟩ : ByteArray) = O := ⟨_, rfl⟩
  have hOs : O.size ≤ 7 := by rw [← hO]; exact opTx_len _
  have hOl : O.data.toList = opTx x.op := by rw [← hO]
  have CN := Lib.hid (fun w' => opNameQ_any x.op w')
  have CU := Lib.hid (fun w' => numQ_any x.n hs.n w')
  have hnu := numQ_size x.n hs.n
  have HB1 := Lib.hid hb1
  have hc0 : ∀ w', Below W1.heap.size W1 w' → w'.cell? ⟨w.heap.size, 0, none⟩ = some (.string x.out) := fun w' hb => (cells5 (HX.out w' hb)).1
  have hcc : ∀ w', Below W1.heap.size W1 w' → w'.cell? ⟨w.heap.size, 1, none⟩ = some (.int .i64 x.op) := fun w' hb => (cells5 (HX.out w' hb)).2.1
  have HS0 : Hid (Below W1.heap.size W1 W1.drew) := by show Below _ _ _; exact (Below.refl _ _).drew
  have hov : ¬ 9223372036854775807 < x.out.size + 3 := by omega
  have hov2 : ¬ 9223372036854775807 < x.out.size + 3 + O.size := by omega
  have HW1 := Lib.hid hW1
  have HO := Lib.hid hO
  have HOL := Lib.hid hOl
  clear hb1 hx hc1 hc2 hW1 hs hO hOl hs1
  go_enter Tryz.func39, Tryz.ntmps39
  go_upto_region 1 with fail
  rw [HW1.out]
  go_region_held3 (fun w' => Below W1.heap.size W1 w') (first | assumption | exact HS0.out)
    (first
      | (go_at_call 66; refine (CN.out _).mono ?_; rintro e w2 ⟨rfl, hb2⟩; rw [HO.out]; have hSn := (show Below W1.heap.size W1 _ by assumption).trans (hb2.mono (show Below W1.heap.size W1 _ by assumption).size))
      | fail)
  have H2 := Lib.hid hSn
  obtain ⟨d0, d1, d2, d3, d4, _⟩ := cells5 (HX.out _ hSn)
  have HT1 : Hid (((x.out ++ ⟨#[32, 61, 32]⟩) ++ O : ByteArray).data.toList = x.out.data.toList ++ [32, 61, 32] ++ opTx x.op) := by
    show _ = _
    rw [ByteArray.data_append, Array.toList_append, ByteArray.data_append, Array.toList_append, HOL.out]
  clear hSn hb2 hc0 hcc hov hov2
  go_upto_if 15 with fail
  go_cut [3] (fun t wx => ∃ T : ByteArray, t = .string T ∧ T.data.toList = headQ x ∧ T.size ≤ 1048700 ∧ Below W1.heap.size W1 wx)
  case first =>
    by_cases h9 : x.op = 9
    · have h9b : (x.op == 9) = true := by simpa using h9
      have hH : headQ x = x.out.data.toList ++ [32, 61, 32] ++ opTx x.op ++ (32 :: (numQ x.n).data.toList) := by unfold headQ; rw [if_pos h9]
      obtain ⟨U, hU⟩ : ∃ U, numQ x.n = U := ⟨_, rfl⟩
      rw [hU] at hnu hH
      have HU := Lib.hid hU
      have HH := Lib.hid hH
      clear h9 hU hH
      go_wp2_with fail
      refine (CU.out _).mono ?_
      rintro e w3 ⟨rfl, hb3⟩
      rw [HU.out]
      have H3 := Lib.hid (H2.out.trans (hb3.mono H2.out.size))
      clear hb3 d0 d1 d2 d3 d4
      go_wp2_with fail
      go_meet
      refine ⟨_, rfl, ?_, ?_, H3.out⟩
      · rw [HH.out, ByteArray.data_append, Array.toList_append, HT1.out, ByteArray.data_append, Array.toList_append]; rfl
      · simp only [ByteArray.size_append, show (⟨#[32, 61, 32]⟩ : ByteArray).size = 3 from rfl, show (⟨#[32]⟩ : ByteArray).size = 1 from rfl]; omega
    · have h9b : (x.op == 9) = false := by simpa using h9
      have HH : Hid (headQ x = x.out.data.toList ++ [32, 61, 32] ++ opTx x.op) := by show _ = _; unfold headQ; rw [if_neg h9, List.append_nil]
      clear h9
      go_wp2_with fail
      go_meet
      refine ⟨_, rfl, ?_, ?_, H2.out⟩
      · rw [HH.out, HT1.out]
      · simp only [ByteArray.size_append, show (⟨#[32, 61, 32]⟩ : ByteArray).size = 3 from rfl]; omega
  case rest =>
    obtain ⟨T0, rfl, hT0, hTs0, hb0⟩ := hcut
    have HT0 := Lib.hid hT0
    have HB0 := Lib.hid hb0
    clear hT0 hb0 d0 d1 d2 d3 d4
    go_wp2
    go_loopw [3, 4] (fun t i wr => ∃ (k : Nat) (T : ByteArray), k ≤ x.lits.length ∧ i = .int .i64 (k : Int) ∧ t = .string T ∧ T.data.toList = headQ x ++ litsQ (x.lits.take k) ∧ T.size ≤ 1048700 + k * 4194320 ∧ Below W1.heap.size W1 wr)
      (fun _ i _ => x.lits.length - (intOf i).toNat)
    case atStart => exact ⟨0, T0, Nat.zero_le _, rfl, rfl, by rw [HT0.out]; simp [litsQ], by omega, HB0.out⟩
    case round =>
      obtain ⟨k, T, hk, rfl, rfl, hT, hTs, hnx⟩ := hrel
      have HT := Lib.hid hT
      have HNX := Lib.hid hnx
      obtain ⟨d0, d1, d2, d3, d4, _⟩ := cells5 (HX.out _ hnx)
      clear hT
      by_cases hlt : k < x.lits.length
      · obtain ⟨y, hy⟩ : ∃ y, x.lits[k]? = some y := ⟨x.lits[k], List.getElem?_eq_getElem hlt⟩
        obtain ⟨b, o, ha, hys, hcy⟩ := HL.out k y hy
        have hcy0 := hcy _ hnx
        have cQ := fun w' => quoteR_any y w' (by omega)
        obtain ⟨Q, hQ⟩ : ∃ Q : ByteArray, (⟨(quoteS y.data.toList).toArray⟩ : ByteArray) = Q := ⟨_, rfl⟩
        have hQl : Q.data.toList = quoteS y.data.toList := by rw [← hQ]
        have hQs : Q.size ≤ 4194306 := by
          have h1 := quote_len y.data.toList
          rw [← Lib.size_eq] at h1
          rw [Lib.size_eq, hQl]
          omega
        simp only [hQ] at cQ
        have CQ := Lib.hid cQ
        have HQL := Lib.hid hQl
        have hnx2 := litsQ_next hy
        have HN2 := Lib.hid hnx2
        have hi1 : (k : Int) < (x.lits.length : Int) := by omega
        have hi0 : (0 : Int) ≤ (k : Int) := by omega
        subst ha
        clear cQ hcy hnx hQ hQl hnx2 hy
        go_wp2_with fail
        refine (CQ.out _).mono ?_
        rintro e w3 ⟨rfl, hb3⟩
        have H3 := Lib.hid (HNX.out.trans (hb3.mono HNX.out.size))
        have HTN : Hid ((T ++ (⟨#[32]⟩ ++ Q) : ByteArray).data.toList = headQ x ++ litsQ (x.lits.take (k + 1))) := by
          show _ = _
          rw [ByteArray.data_append, Array.toList_append, HT.out, HN2.out, ByteArray.data_append, Array.toList_append, HQL.out, List.append_assoc]; rfl
        clear hb3 d0 d1 d2 d3 d4 hcy0
        go_wp2
        go_roundw
        case rel =>
          refine ⟨k + 1, _, by omega, by go_num, rfl, HTN.out, ?_, H3.out⟩
          simp only [ByteArray.size_append, show (⟨#[32]⟩ : ByteArray).size = 1 from rfl]; omega
        case measure => simp [intOf]; omega
      · obtain rfl : k = x.lits.length := by omega
        have HT2 : Hid (T.data.toList = headQ x ++ litsQ x.lits) := by show _ = _; rw [HT.out, List.take_length]
        have hi1 : ¬ (x.lits.length : Int) < (x.lits.length : Int) := by omega
        obtain ⟨M, hM⟩ : ∃ M, 1048700 + x.lits.length * 4194320 = M := ⟨_, rfl⟩
        rw [hM] at hTs
        have hMl : M ≤ 5000000000000 := by omega
        clear hnx hM
        go_wp2
        clear d0 d1 d2 d3 d4
        go_loopw [3, 5] (fun t i wq => ∃ (k : Nat) (T : ByteArray), k ≤ x.args.length ∧ i = .int .i64 (k : Int) ∧ t = .string T ∧ T.data.toList = headQ x ++ litsQ x.lits ++ argsQ (x.args.take k) ∧ T.size ≤ M + k * 1048580 ∧ Below W1.heap.size W1 wq)
          (fun _ i _ => x.args.length - (intOf i).toNat)
        case atStart => exact ⟨0, T, Nat.zero_le _, rfl, rfl, by rw [HT2.out]; simp [argsQ], by omega, HNX.out⟩
        case round =>
          obtain ⟨k, T, hk, rfl, rfl, hT, hTs, hnx⟩ := hrel
          have HT := Lib.hid hT
          have HNX2 := Lib.hid hnx
          obtain ⟨d0, d1, d2, d3, d4, _⟩ := cells5 (HX.out _ hnx)
          clear hT
          by_cases hlt : k < x.args.length
          · obtain ⟨y, hy⟩ : ∃ y, x.args[k]? = some y := ⟨x.args[k], List.getElem?_eq_getElem hlt⟩
            obtain ⟨b, o, ha, hys, hcy⟩ := HA.out k y hy
            have hcy0 := hcy _ hnx
            have hnx2 := argsQ_next hy
            have HTN : Hid ((T ++ (⟨#[32]⟩ ++ y) : ByteArray).data.toList = headQ x ++ litsQ x.lits ++ argsQ (x.args.take (k + 1))) := by
              show _ = _
              rw [ByteArray.data_append, Array.toList_append, HT.out, hnx2, ByteArray.data_append, Array.toList_append, List.append_assoc (headQ x ++ litsQ x.lits)]; rfl
            have hi1 : (k : Int) < (x.args.length : Int) := by omega
            have hi0 : (0 : Int) ≤ (k : Int) := by omega
            subst ha
            clear hcy hnx hnx2 hy
            go_wp2
            go_roundw
            case rel =>
              refine ⟨k + 1, _, by omega, by go_num, rfl, HTN.out, ?_, HNX2.out⟩
              simp only [ByteArray.size_append, show (⟨#[32]⟩ : ByteArray).size = 1 from rfl]; omega
            case measure => simp [intOf]; omega
          · obtain rfl : k = x.args.length := by omega
            have hi1 : ¬ (x.args.length : Int) < (x.args.length : Int) := by omega
            have HF : Hid ((T ++ ⟨#[59]⟩ : ByteArray) = ⟨(stepQ x).toArray⟩) := by
              show _ = _
              apply ByteArray.ext
              apply Array.ext'
              rw [ByteArray.data_append, Array.toList_append, HT.out, List.take_length]
              rfl
            clear hnx
            go_wp2
            go_ret
            exact ⟨ret_str HF.out, HB1.out.trans (HNX2.out.mono HB1.out.size)⟩
end Go.Proofs.YtlmnabhhgplhnaaGreatDoor
