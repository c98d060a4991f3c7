import Derived.Test.YtdhmeganlnpohaaGreatDoorMaa
import Derived.Shelf.Spec.SlicesInsert
import Derived.Lib.AppendZerosOnto
import Derived.Laws.CopyOwn
namespace Go.Proofs.YtdhmeganlnpohaaGreatDoor
open Go.RowKit
def partS (p : List UInt8) : List UInt8 := numS p.length ++ 58 :: p
def putS (ls : List (List UInt8)) : List UInt8 := (ls.map partS).flatten
theorem putS_append (a b : List (List UInt8)) : putS (a ++ b) = putS a ++ putS b := by simp [putS]
theorem builder_below {B b : Nat} {bs : List Value} {w w' : World} (h : Lib.IsBuilder 193 5 B b bs w) (hb : Below w.heap.size w w') : Lib.IsBuilder 193 5 B b bs w' := by
 have key : ∀ p, Lib.BuilderAt 193 5 B b p bs w → Lib.BuilderAt 193 5 B b p bs w' := by
  intro p hp
  have hlt := hp.lt
  obtain ⟨hB, v, hv, hown, hne⟩ := hp
  refine ⟨hB, v, (hb.block b hlt).trans hv, hown.kept (row := none) ⟨hb.os, hb.tape, hb.output, hb.size, fun k hk _ => hb.block k hk⟩ ?_, hne⟩
  cases h : v.ownBlock <;> simp
 exact h.imp (key _) (key _)
theorem writeString_c (B b : Nat) (l : List UInt8) (s : ByteArray) (w : World) (h : Lib.IsBuilder 193 5 B b (Lib.byteCells l) w) (hlen : l.length + s.size ≤ 140737488355328) (hBw : B ≤ w.heap.size) :
  Calls Tryz.prog 170 #[.pointer (some ⟨b, 0, none⟩), .string s] w fun e w' => e = .returned (.tuple #[.int .i64 s.size, .nilIface]) ∧ Lib.IsBuilder 193 5 B b (Lib.byteCells (l ++ s.data.toList)) w' ∧ Below B w w' := by
 refine (Any.Builder_WriteString lLays_n166 lExtra B b (Lib.byteCells l) s w h (by simpa [Lib.byteCells] using hlen) hBw).mono ?_
 rintro e w' ⟨rfl, h1, h2⟩
 refine ⟨rfl, .inr ?_, h2⟩
 rw [show Lib.byteCells (l ++ s.data.toList) = Lib.byteCells l ++ Lib.strCells s from by simp [Lib.byteCells, Lib.strCells]]
 exact h1
theorem writeByte_c (B b : Nat) (l : List UInt8) (c : UInt8) (n : Int) (hn : n = c.toNat) (w : World) (h : Lib.IsBuilder 193 5 B b (Lib.byteCells l) w) (hlen : l.length + 1 ≤ 140737488355328) (hBw : B ≤ w.heap.size) :
  Calls Tryz.prog 169 #[.pointer (some ⟨b, 0, none⟩), .int .u8 n] w fun e w' => e = .returned .nilIface ∧ Lib.IsBuilder 193 5 B b (Lib.byteCells (l ++ [c])) w' ∧ Below B w w' := by
 subst hn
 refine (Any.Builder_WriteByte lLays_n167 lExtra B b (Lib.byteCells l) c.toNat w h (by simpa [Lib.byteCells] using hlen) hBw).mono ?_
 rintro e w' ⟨rfl, h1, h2⟩
 refine ⟨rfl, .inr ?_, h2⟩
 rw [show Lib.byteCells (l ++ [c]) = Lib.byteCells l ++ [Value.int .u8 c.toNat] from by simp [Lib.byteCells]]
 exact h1
theorem builderString_c (B b : Nat) (l : List UInt8) (w : World) (h : Lib.IsBuilder 193 5 B b (Lib.byteCells l) w) (hBw : B ≤ w.heap.size) :
  Calls Tryz.prog 172 #[.pointer (some ⟨b, 0, none⟩)] w fun e w' => e = .returned (.string ⟨l.toArray⟩) ∧ Below B w w' :=
 Any.Builder_String_any lLays_n169 lExtra B b l w h hBw
theorem putS_next (xs : List ByteArray) (k : Nat) (x : ByteArray) (h : xs[k]? = some x) : putS ((xs.take (k + 1)).map (·.data.toList)) = putS ((xs.take k).map (·.data.toList)) ++ numS x.size ++ [58] ++ x.data.toList := by
 rw [List.take_add_one, h, List.map_append, putS_append]
 rw [Lib.size_eq x]
 simp [putS, partS]
theorem putS_take_le (xs : List ByteArray) (k : Nat) : (putS ((xs.take k).map (·.data.toList))).length ≤ (putS (xs.map (·.data.toList))).length := by
 conv => rhs; rw [← List.take_append_drop k xs, List.map_append, putS_append]
 simp
set_option maxHeartbeats 2000000 in
theorem put_any (v : Value) (xs : List ByteArray) (w : World) (h : IsStrs w v xs) (hN : xs.length ≤ 140737488355328) (hg : Glob w)
  (hlen : (putS (xs.map (·.data.toList))).length ≤ 140737488355328) :
  Calls Tryz.prog 222 #[v] w fun e w' => e = .returned (.string ⟨(putS (xs.map (·.data.toList))).toArray⟩) ∧ Below w.heap.size w w' := by
 obtain ⟨a, c, rfl, h1, h1m, h2⟩ := h
 have hcells : ∀ (k : Nat) x, xs[k]? = some x → ∃ b o, a = some ⟨b, o, none⟩ ∧ b < w.heap.size ∧ w.cell? ⟨b, o + k, none⟩ = some (.string x) := by
  intro k x hx
  obtain ⟨b, o, ha, hb, hc⟩ := h2 (by rintro rfl; simp at hx)
  exact ⟨b, o, ha, hb, hc k x hx⟩
 have HC := Lib.hid hcells
 have HG := Lib.hid hg
 have HLE := Lib.hid hlen
 clear hcells h2 hg hlen
 unfold maxLen at h1m
 obtain ⟨res, hres⟩ : ∃ res, res = putS (xs.map (·.data.toList)) := ⟨_, rfl⟩
 rw [← hres]
 have HRES := Lib.hid hres
 clear hres
 have hB0 := Lib.fresh_isBuilder 193 5 w
 go_enter Tryz.func222, Tryz.ntmps222
 go_wp2
 go_loopw [8] (fun i wr => ∃ k : Nat, k ≤ xs.length ∧ i = .int .i64 k ∧ Lib.IsBuilder 193 5 w.heap.size w.heap.size (Lib.byteCells (putS ((xs.take k).map (·.data.toList)))) wr ∧ Below w.heap.size w wr)
  (fun i _ => xs.length - (intOf i).toNat)
 case atStart => exact ⟨0, Nat.zero_le _, rfl, hB0, (Below.refl _ _).alloc (Nat.le_refl _) _⟩
 case round =>
  obtain ⟨k, hk, rfl, hbu, hnx⟩ := hrel
  obtain ⟨cur, hcur⟩ : ∃ cur, putS ((xs.take k).map (·.data.toList)) = cur := ⟨_, rfl⟩
  rw [hcur] at hbu
  have HCUR := Lib.hid hcur
  have HBU := Lib.hid hbu
  clear hcur hB0 hbu
  have hle := putS_take_le xs k
  rw [HCUR.out] at hle
  have hsz := hnx.size
  have hgr := HG.out.below hnx
  have HGR := Lib.hid hgr
  clear hgr
  by_cases hlt : k < xs.length
  ·obtain ⟨x, hx⟩ : ∃ x, xs[k]? = some x := ⟨xs[k], List.getElem?_eq_getElem hlt⟩
   obtain ⟨b, o, ha, hb, hc⟩ := HC.out k x hx
   subst ha
   have hcx : wr.cell? ⟨b, o + k, none⟩ = some (.string x) := (hnx.cell (by exact hb)).trans hc
   have hnext := putS_next xs k x hx
   have hle2 := putS_take_le xs (k + 1)
   rw [hnext, HCUR.out] at hle2
   have hall := HLE.out
   simp only [List.length_append, List.length_cons, List.length_nil, ← Lib.size_eq] at hle2
   have HNX := Lib.hid hnext
   have hxs : x.size ≤ 140737488355328 := by omega
   have HL := Lib.hid hle2
   have HA := Lib.hid hall
   clear hnext hle2 hall hc hx hle
   go_wp2_with fail
   refine (number_any x.size (by omega) (by omega) wr HGR.out).mono ?_
   rintro e w2 ⟨rfl, hb2⟩
   have h2 := builder_below HBU.out hb2
   have s2 := hb2.size
   obtain ⟨nb, hnb⟩ : ∃ nb, numS (x.size : Int) = nb := ⟨_, rfl⟩
   rw [hnb]
   have HNB := Lib.hid hnb
   have hl2 := HL.out
   rw [hnb] at hl2
   have HL2 := Lib.hid hl2
   clear hnb hl2
   have H2 := Lib.hid h2
   clear h2
   go_wp2_with fail
   refine (writeString_c w.heap.size w.heap.size cur ⟨nb.toArray⟩ w2 H2.out (by have := HL2.out; have := HA.out; simp only [ByteArray.size, List.size_toArray]; omega) (by omega)).mono ?_
   rintro e w3 ⟨rfl, h3, hb3⟩
   have s3 := hb3.size
   have H3 := Lib.hid h3
   clear h3
   go_wp2_with fail
   refine (writeByte_c w.heap.size w.heap.size (cur ++ nb) 58 58 rfl w3 H3.out (by have := HL2.out; have := HA.out; simp only [List.length_append]; omega) (by omega)).mono ?_
   rintro e w4 ⟨rfl, h4, hb4⟩
   have s4 := hb4.size
   have H4 := Lib.hid h4
   clear h4
   go_wp2_with fail
   refine (writeString_c w.heap.size w.heap.size (cur ++ nb ++ [58]) x w4 H4.out (by have := HL2.out; have := HA.out; simp only [List.length_append, List.length_cons, List.length_nil]; omega) (by omega)).mono ?_
   rintro e w5 ⟨rfl, h5, hb5⟩
   have hnx5 := ((hnx.trans (hb2.mono hsz)).trans hb3).trans (hb4.trans hb5)
   have H5 := Lib.hid h5
   clear h5
   go_wp2
   go_roundw
   case rel => exact ⟨k + 1, by omega, by go_num, by rw [HNX.out, HCUR.out, HNB.out]; exact H5.out, hnx5⟩
   case measure => simp [intOf]; omega
  ·have hfull : cur = res := by rw [← HCUR.out, List.take_of_length_le (by omega), HRES.out]
   have HF := Lib.hid hfull
   clear hfull
   go_wp2_with fail
   refine (builderString_c w.heap.size w.heap.size cur wr HBU.out hsz).mono ?_
   rintro e w2 ⟨rfl, hb2⟩
   go_wp2
   go_ret
   exact ⟨ret_str (by rw [HF.out]), hnx.trans hb2⟩
end Go.Proofs.YtdhmeganlnpohaaGreatDoor
namespace Go.Proofs.YtdhmeganlnpohaaGreatDoor
open Go.RowKit
abbrev F2 := ByteArray × ByteArray
def fileCells (fs : List F2) : List Value := (fs.map fun f => [Value.string f.1, Value.string f.2]).flatten
theorem fileCells_nil : fileCells [] = [] := rfl
theorem fileCells_cons (f : F2) (fs : List F2) : fileCells (f :: fs) = .string f.1 :: .string f.2 :: fileCells fs := by simp [fileCells]
theorem fileCells_append (a b : List F2) : fileCells (a ++ b) = fileCells a ++ fileCells b := by simp [fileCells]
theorem fileCells_length (fs : List F2) : (fileCells fs).length = fs.length * 2 := by
 induction fs with
 | nil => rfl
 | cons f fs ih => rw [fileCells_cons]; simp only [List.length_cons, ih]; omega
theorem fileCells_one (fs : List F2) : ∀ u ∈ fileCells fs, u.oneCell' = true := by
 induction fs with
 | nil => intro u hu; cases hu
 | cons f fs ih =>
  rw [fileCells_cons]
  intro u hu
  rcases List.mem_cons.1 hu with rfl | hu
  ·rfl
  ·rcases List.mem_cons.1 hu with rfl | hu
   ·rfl
   ·exact ih u hu
theorem fileCells_take (fs : List F2) : ∀ i, (fileCells fs).take (i * 2) = fileCells (fs.take i) := by
 induction fs with
 | nil => intro i; simp [fileCells]
 | cons f fs ih =>
  intro i
  cases i with
  | zero => simp [fileCells]
  | succ i => rw [fileCells_cons, Nat.add_mul, List.take_succ_cons, List.take_succ_cons, ih i, List.take_succ_cons, fileCells_cons]
theorem fileCells_drop (fs : List F2) : ∀ i, (fileCells fs).drop (i * 2) = fileCells (fs.drop i) := by
 induction fs with
 | nil => intro i; simp [fileCells]
 | cons f fs ih =>
  intro i
  cases i with
  | zero => simp [fileCells]
  | succ i => rw [fileCells_cons, Nat.add_mul, List.drop_succ_cons, List.drop_succ_cons, ih i, List.drop_succ_cons]
theorem run_copy_sized (P : Program) (w : World) (dT sT ty elem : TypeId) (g o dLen dCap : Nat) (a : Addr) (sLen sCap sz : Nat) (cur : Array Value) (t : TypeId) (cs : List Value)
  (hu : P.underlying dT = some (.slice elem)) (hs : (P.info? elem).map (·.size) = some sz)
  (hg : w.heap[g]? = some (.cells cur t (0, 0))) (hn : cs.length = Nat.min sLen dLen * sz)
  (hsrc : ∀ j v, cs[j]? = some v → w.cell? (a.add j) = some v) (hfit : o + cs.length ≤ cur.size) (h1 : ∀ v ∈ cs, v.oneCell' = true) :
  (Builtin.copy_ #[dT, sT] ty #[.slice (some ⟨g, o, none⟩) dLen dCap, .slice (some a) sLen sCap]).run P w =
   .ok (goInt (Nat.min sLen dLen)) (w.setRow g (cur.toList.take o ++ cs ++ cur.toList.drop (o + cs.length)).toArray) := by
 have hl := run_loadCells_list (P := P) w a cs hsrc
 have hst := run_storeCells_at P g o t cs 0 cur w hg (by simpa using hfit) h1
 cases hq : P.info? elem with
 | none => simp [hq] at hs
 | some i =>
  have hi : i.size = sz := by simpa [hq] using hs
  simp [Builtin.copy_, run_underlying hu, Builtin.lenOf, Builtin.firstCells, sizeOf, typeInfo, hq, hi, ← hn, hl, hst]
theorem info_file : (Tryz.prog.info? 81).map (fun i => (i.zero, i.size, i.bytes)) = some (some (.agg #[.string ByteArray.empty, .string ByteArray.empty]), 2, 32) := by kernel_rfl
theorem row_cell {w : World} {g : Nat} {cur : Array Value} {t : TypeId} {fr : Nat × Nat} (h : w.heap[g]? = some (.cells cur t fr)) (o j : Nat) (v : Value) (hv : cur.toList[o + j]? = some v) : w.cell? ((⟨g, o, none⟩ : Addr).add j) = some v := by
 rw [Addr.add_lit]
 simp only [World.cell?, h]
 simpa using hv
theorem shift_list (C D R : List Value) (x y : Value) (i k : Nat) (hi : (i + 1) * 2 ≤ C.length) (hD : D.length = k * 2) :
  ((C.take ((i + 1) * 2) ++ D ++ R).take (i * 2) ++ [x, y] ++ (C.take ((i + 1) * 2) ++ D ++ R).drop (i * 2 + 2)).take ((i + 1 + k) * 2) = C.take (i * 2) ++ [x, y] ++ D := by
 have h1 : (C.take ((i + 1) * 2)).length = i * 2 + 2 := by rw [List.length_take]; omega
 have e0 : C.take ((i + 1) * 2) ++ D ++ R = C.take ((i + 1) * 2) ++ (D ++ R) := List.append_assoc _ _ _
 have e1 : (C.take ((i + 1) * 2) ++ (D ++ R)).take (i * 2) = C.take (i * 2) := by
  rw [List.take_append_of_le_length (by omega), List.take_take, Nat.min_eq_left (by omega)]
 have e2 : (C.take ((i + 1) * 2) ++ (D ++ R)).drop (i * 2 + 2) = D ++ R := by rw [← h1, List.drop_left]
 have h2 : (C.take (i * 2)).length = i * 2 := by rw [List.length_take]; omega
 have h3 : (C.take (i * 2) ++ [x, y] ++ D).length = (i + 1 + k) * 2 := by simp only [List.length_append, h2, hD, List.length_cons, List.length_nil]; omega
 rw [e0, e1, e2, ← List.append_assoc _ D R, ← h3, List.take_left]
set_option maxHeartbeats 4000000 in
set_option maxRecDepth 100000 in
theorem insert_shift (g n c i vb : Nat) (fs : List F2) (f : F2) (cur : Array Value) (w : World) (hi : i < n) (hroom : n + 1 ≤ c) (hn : n ≤ 1000) (hc63 : c ≤ 9223372036854775807) (hvb : vb ≠ g)
  (hfs : fs.length = n) (hg : w.heap[g]? = some (.cells cur 81 (0, 0))) (hcs : cur.size = c * 2) (htk : cur.toList.take (n * 2) = fileCells fs)
  (hv : w.heap[vb]? = some (.cells #[.string f.1, .string f.2] 81 (0, 0))) :
  Calls Tryz.prog 116 #[.slice (some ⟨g, 0, none⟩) n c, .int .i64 i, .slice (some ⟨vb, 0, none⟩) 1 1] w fun e w' =>
   e = .returned (.slice (some ⟨g, 0, none⟩) (n + 1) c) ∧ ∃ cur' : Array Value, w'.heap[g]? = some (.cells cur' 81 (0, 0)) ∧ cur'.size = c * 2 ∧ cur'.toList.take ((n + 1) * 2) = fileCells (fs.take i ++ f :: fs.drop i) ∧
    w.grownBy w' (some g) := by
 obtain ⟨i0, hi0, hz0, hz1, hz2⟩ := info_parts info_file
 have hsz : (Tryz.prog.info? 81).map (·.size) = some 2 := by rw [hi0]; simp [hz1]
 have hov : ∀ lb cb, (callFunc 162 #[.slice (some ⟨vb, 0, none⟩) 1 1, .slice (some ⟨g, (i + 1) * 2, none⟩) lb cb]).run Tryz.prog w = .ok (.value (.bool false)) w := fun lb cb => by
  rw [run_callFunc_extern Tryz.func162 (by kernel_rfl) (by kernel_rfl) (by kernel_rfl) (e := Extern.SlicesOverlaps.overlaps #[108, 108] #[4]) (by kernel_rfl),
   Lib.run_overlaps_apart w 108 4 81 Tryz.underlying108 2 Tryz.sizeOf81 ⟨vb, 0, none⟩ ⟨g, (i + 1) * 2, none⟩ 1 1 lb cb hvb 81 81 2 (c * 2) (by simp [World.shape?, hv]) (by simp [World.shape?, hg, hcs]) (by omega) (by simp [World.frozen?, hv]) (by simp [World.frozen?, hv])]
  rfl
 have hcl : (fileCells (fs.drop i)).length = (n - i) * 2 := by rw [fileCells_length, List.length_drop, hfs]
 obtain ⟨L1, hL1⟩ : ∃ L1 : List Value, L1 = cur.toList.take ((i + 1) * 2) ++ fileCells (fs.drop i) ++ cur.toList.drop ((i + 1) * 2 + (n - i) * 2) := ⟨_, rfl⟩
 have hlen1 : L1.length = c * 2 := by
  rw [hL1]; simp only [List.length_append, List.length_take, List.length_drop, Array.length_toList, hcs, hcl]; omega
 have hcp1 : ∀ ty dc sc, (Builtin.copy_ #[108, 108] ty #[.slice (some ⟨g, (i + 1) * 2, none⟩) (n - i) dc, .slice (some ⟨g, i * 2, none⟩) (n + 1 - i) sc]).run Tryz.prog w.drew = .ok (goInt (n - i : Nat)) (w.drew.setRow g L1.toArray) := fun ty dc sc => by
  have h := run_copy_sized Tryz.prog w.drew 108 108 ty 81 g ((i + 1) * 2) (n - i) dc ⟨g, i * 2, none⟩ (n + 1 - i) sc 2 cur 81 (fileCells (fs.drop i)) Tryz.underlying108 hsz hg
   (by rw [hcl]; simp only [Nat.min_def]; split <;> omega)
   (fun j v hj => row_cell (w := w.drew) hg (i * 2) j v (by
    rw [← fileCells_drop, ← htk, List.getElem?_drop, List.getElem?_take] at hj
    split at hj
    ·exact hj
    ·cases hj))
   (by rw [hcl, hcs]; omega) (fileCells_one _)
  rw [hcl, ← hL1] at h
  have e : Nat.min (n + 1 - i) (n - i) = n - i := by simp only [Nat.min_def]; split <;> omega
  rw [e] at h
  exact h
 obtain ⟨W1, hW1⟩ : ∃ W1, W1 = w.drew.setRow g L1.toArray := ⟨_, rfl⟩
 have hg1 : W1.heap[g]? = some (.cells L1.toArray 81 (0, 0)) := by rw [hW1]; exact setRow_heap w.drew g cur _ _ _ hg
 have hv1 : W1.heap[vb]? = some (.cells #[.string f.1, .string f.2] 81 (0, 0)) := by rw [hW1, setRow_other w.drew g vb _ hvb]; exact hv
 obtain ⟨L2, hL2⟩ : ∃ L2 : List Value, L2 = L1.take (i * 2) ++ [.string f.1, .string f.2] ++ L1.drop (i * 2 + 2) := ⟨_, rfl⟩
 have hcp2 : ∀ ty dc, (Builtin.copy_ #[108, 108] ty #[.slice (some ⟨g, i * 2, none⟩) (n + 1 - i) dc, .slice (some ⟨vb, 0, none⟩) 1 1]).run Tryz.prog W1 = .ok (goInt (1 : Nat)) (W1.setRow g L2.toArray) := fun ty dc => by
  have h := run_copy_sized Tryz.prog W1 108 108 ty 81 g (i * 2) (n + 1 - i) dc ⟨vb, 0, none⟩ 1 1 2 L1.toArray 81 [.string f.1, .string f.2] Tryz.underlying108 hsz hg1
   (by simp only [Nat.min_def]; split <;> simp <;> omega)
   (fun j v hj => row_cell hv1 0 j v (by simpa using hj))
   (by simp [hlen1]; omega) (by intro u hu; simp at hu; rcases hu with rfl | rfl <;> rfl)
  simp only [List.length_cons, List.length_nil, Nat.zero_add] at h
  rw [← hL2] at h
  have e : Nat.min 1 (n + 1 - i) = 1 := by simp only [Nat.min_def]; split <;> omega
  rw [e] at h
  exact h
 have hfin : ∃ cur' : Array Value, (W1.setRow g L2.toArray).heap[g]? = some (.cells cur' 81 (0, 0)) ∧ cur'.size = c * 2 ∧ cur'.toList.take ((n + 1) * 2) = fileCells (fs.take i ++ f :: fs.drop i) ∧ w.grownBy (W1.setRow g L2.toArray) (some g) := by
  refine ⟨L2.toArray, setRow_heap W1 g _ _ _ _ hg1, ?_, ?_, ?_⟩
  ·rw [hL2]; simp only [List.size_toArray, List.length_append, List.length_take, List.length_drop, hlen1, List.length_cons, List.length_nil]; omega
  ·have h := shift_list cur.toList (fileCells (fs.drop i)) (cur.toList.drop ((i + 1) * 2 + (n - i) * 2)) (.string f.1) (.string f.2) i (n - i) (by rw [Array.length_toList, hcs]; omega) hcl
   rw [show i + 1 + (n - i) = n + 1 from by omega, ← hL1, ← hL2] at h
   show L2.take _ = _
   rw [h, fileCells_append, fileCells_cons, ← fileCells_take, ← htk, List.take_take, Nat.min_eq_left (by omega)]
   simp
  ·exact ⟨by rw [hW1]; rfl, by rw [hW1]; rfl, by rw [hW1]; rfl, by rw [hW1]; simp [World.setRow], fun k _ hk => by
    have hk' : k ≠ g := fun e => hk (by rw [e])
    rw [setRow_other _ g k _ hk', hW1, setRow_other _ g k _ hk']; rfl⟩
 rw [← hW1] at hcp1
 have HF := Lib.hid hfin
 clear hfin hL1 hL2 hg1 hv1 htk hlen1 hcl hcs hv hfs
 have HW1 := Lib.hid hW1
 clear hW1
 have b1 : ¬ ((i : Int) = (n : Int)) := by omega
 go_enter Tryz.func116, Tryz.ntmps116
 go_wp2_with (simp only [hov])
 have hw1 : IntKind.i64.wrap ((i : Int) + (1 : Int)) = (i : Int) + (1 : Int) := by rw [IntKind.wrap_i64]; omega
 have hb1 : (0 : Int) ≤ (i : Int) + (1 : Int) := by omega
 have hb0 : (0 : Int) ≤ (i : Int) := by omega
 have htn : ((i : Int) + (1 : Int)).toNat = i + 1 := by omega
 have hb2 : ¬ (c = i + 1) := by omega
 have hb3 : (i : Int) ≤ (n : Int) + (1 : Int) := by omega
 have hb4 : ¬ (c = i) := by omega
 have hb5 : (i : Int) + 1 ≤ (n : Int) + (1 : Int) := by omega
 have hb6 : n + 1 - (i + 1) = n - i := by omega
 go_region_law (refine step_copy_runI rfl _ _ 108 108 rfl _ _ (by simp [Act.eval, Act.put]) (by simp [Act.eval, Act.put]) (hcp1 _ _ _) ?_)
 go_wp2_with fail
 go_ret
 exact ⟨rfl, HF.out⟩
theorem grow_list (A Z D R : List Value) (x y : Value) (i k : Nat) (hA : A.length = i * 2) (hD : D.length = k * 2) :
  (((A ++ Z ++ R).take (i * 2) ++ [x, y] ++ (A ++ Z ++ R).drop (i * 2 + 2)).take ((i + 1) * 2) ++ D ++ ((A ++ Z ++ R).take (i * 2) ++ [x, y] ++ (A ++ Z ++ R).drop (i * 2 + 2)).drop ((i + 1) * 2 + k * 2)).take ((i + 1 + k) * 2) = A ++ [x, y] ++ D := by
 have e1 : (A ++ Z ++ R).take (i * 2) = A := by rw [List.append_assoc, ← hA, List.take_left]
 have h3 : (A ++ [x, y]).length = (i + 1) * 2 := by simp only [List.length_append, hA, List.length_cons, List.length_nil]; omega
 have e2 : (A ++ [x, y] ++ (A ++ Z ++ R).drop (i * 2 + 2)).take ((i + 1) * 2) = A ++ [x, y] := by rw [← h3, List.take_left]
 have h4 : (A ++ [x, y] ++ D).length = (i + 1 + k) * 2 := by rw [List.length_append, h3, hD]; omega
 rw [e1, e2, ← h4, List.take_left]
set_option maxHeartbeats 4000000 in
set_option maxRecDepth 100000 in
theorem insert_grow (g n c i vb : Nat) (fs : List F2) (f : F2) (cur : Array Value) (w : World) (hi : i < n) (hroom : c < n + 1) (hn : n ≤ 1000) (hnc : n ≤ c)
  (hfs : fs.length = n) (hg : w.heap[g]? = some (.cells cur 81 (0, 0))) (hcs : cur.size = c * 2) (htk : cur.toList.take (n * 2) = fileCells fs)
  (hv : w.heap[vb]? = some (.cells #[.string f.1, .string f.2] 81 (0, 0))) :
  Calls Tryz.prog 116 #[.slice (some ⟨g, 0, none⟩) n c, .int .i64 i, .slice (some ⟨vb, 0, none⟩) 1 1] w fun e w' => ∃ G,
   e = .returned (.slice (some ⟨w.heap.size, 0, none⟩) (n + 1) G) ∧ n + 1 ≤ G ∧ G ≤ maxLen ∧ ∃ cur' : Array Value, w'.heap[w.heap.size]? = some (.cells cur' 81 (0, 0)) ∧ cur'.size = G * 2 ∧ cur'.toList.take ((n + 1) * 2) = fileCells (fs.take i ++ f :: fs.drop i) ∧
    w.grownBy w' none := by
 obtain ⟨i0, hi0, hz0, hz1, hz2⟩ := info_parts info_file
 have hsz : (Tryz.prog.info? 81).map (·.size) = some 2 := by rw [hi0]; simp [hz1]
 obtain rfl : c = n := by omega
 have hgw : g < w.heap.size := by
  rcases Nat.lt_or_ge g w.heap.size with h | h
  ·exact h
  ·rw [Array.getElem?_eq_none h] at hg; cases hg
 have hvw : vb < w.heap.size := by
  rcases Nat.lt_or_ge vb w.heap.size with h | h
  ·exact h
  ·rw [Array.getElem?_eq_none h] at hv; cases hv
 have hA : (fileCells (fs.take i)).length = i * 2 := by rw [fileCells_length, List.length_take, hfs, Nat.min_eq_left (by omega)]
 have hD : (fileCells (fs.drop i)).length = (c - i) * 2 := by rw [fileCells_length, List.length_drop, hfs]
 have hold : (Builtin.firstCells i0.size i (.slice (some ⟨g, 0, none⟩) i c)).run Tryz.prog w.drew = .ok (fileCells (fs.take i)).toArray w.drew := by
  rw [hz1]
  exact run_firstCells_some w.drew 2 i ⟨g, 0, none⟩ i c (fileCells (fs.take i)) hA (fun j v hj => row_cell (w := w.drew) hg 0 j v (by
   rw [← fileCells_take, ← htk, List.take_take, List.getElem?_take] at hj
   split at hj
   ·simpa using hj
   ·cases hj))
 obtain ⟨G, hG⟩ : ∃ G, G = grownCap w (c + 1) c 81 := ⟨_, rfl⟩
 have hGn : c + 1 ≤ G := by rw [hG]; exact grownCap_ge w _ _ _
 have hGm : G ≤ maxLen := by rw [hG]; exact grownCap_le_maxLen w _ _ _ (by unfold maxLen; omega)
 obtain ⟨Z, hZ⟩ : ∃ Z : List Value, Z = (Builtin.zeroCells (Value.agg #[.string ByteArray.empty, .string ByteArray.empty]).cells (c + 1 - i)).toList := ⟨_, rfl⟩
 obtain ⟨R, hR⟩ : ∃ R : List Value, R = (Builtin.zeroCells (Value.agg #[.string ByteArray.empty, .string ByteArray.empty]).cells (G - (c + 1))).toList := ⟨_, rfl⟩
 have hZl : Z.length = (c - i + 1) * 2 := by rw [hZ]; simp [Builtin.zeroCells, Value.cells]; omega
 have hRl : R.length = (G - (c + 1)) * 2 := by rw [hR]; simp [Builtin.zeroCells, Value.cells]
 obtain ⟨L0, hL0⟩ : ∃ L0 : List Value, L0 = fileCells (fs.take i) ++ Z ++ R := ⟨_, rfl⟩
 have hlen0 : L0.length = G * 2 := by rw [hL0, List.length_append, List.length_append, hA, hZl, hRl]; omega
 obtain ⟨W1, hW1⟩ : ∃ W1, W1 = w.drew.alloc (.cells L0.toArray 81) := ⟨_, rfl⟩
 have hkk : (c : Int) + 1 - (i : Int) = ((c + 1 - i : Nat) : Int) := by omega
 have hik : i + (c + 1 - i) = c + 1 := by omega
 have hrz : ∀ ty, (Builtin.append_ #[108, 3] ty #[.slice (some ⟨g, 0, none⟩) i c, .int .i64 ((c : Int) + 1 - (i : Int))]).run Tryz.prog w = .ok (.slice (some ⟨w.heap.size, 0, none⟩) (c + 1) G) W1 := fun ty => by
  have h := Lib.run_append_grow_zeros w 108 3 ty 81 i0 _ .i64 .i64 Tryz.underlying108 Tryz.underlying3 hi0 hz0 (some ⟨g, 0, none⟩) i c (fileCells (fs.take i)) hold (c + 1 - i) (by omega) (by omega) (by omega) (by omega) (by rw [hz2]; omega) (by rw [hz2, hik]; exact growslice_fits (by omega) (by omega))
  have e : (fileCells (fs.take i)).toArray ++ Builtin.zeroCells (Value.agg #[.string ByteArray.empty, .string ByteArray.empty]).cells (c + 1 - i) ++ Builtin.zeroCells (Value.agg #[.string ByteArray.empty, .string ByteArray.empty]).cells (G - (c + 1)) = L0.toArray := by
   apply Array.toList_inj.1
   rw [hL0, hZ, hR]
   simp
  rw [hik, ← hG, e, ← hW1] at h
  rw [hkk]
  exact h
 have hg1 : W1.heap[g]? = some (.cells cur 81 (0, 0)) := by rw [hW1]; exact (Below.heap_alloc w.drew _ g hgw).trans hg
 have hv1 : W1.heap[vb]? = some (.cells #[.string f.1, .string f.2] 81 (0, 0)) := by rw [hW1]; exact (Below.heap_alloc w.drew _ vb hvw).trans hv
 have hN1 : W1.heap[w.heap.size]? = some (.cells L0.toArray 81 (0, 0)) := by rw [hW1]; exact heap_alloc_new w.drew _
 obtain ⟨L1, hL1⟩ : ∃ L1 : List Value, L1 = L0.take (i * 2) ++ [.string f.1, .string f.2] ++ L0.drop (i * 2 + 2) := ⟨_, rfl⟩
 have hlen1 : L1.length = G * 2 := by rw [hL1]; simp only [List.length_append, List.length_take, List.length_drop, hlen0, List.length_cons, List.length_nil]; omega
 obtain ⟨W2, hW2⟩ : ∃ W2, W2 = W1.setRow w.heap.size L1.toArray := ⟨_, rfl⟩
 have hcp1 : ∀ ty dc, (Builtin.copy_ #[108, 108] ty #[.slice (some ⟨w.heap.size, i * 2, none⟩) (c + 1 - i) dc, .slice (some ⟨vb, 0, none⟩) 1 1]).run Tryz.prog W1 = .ok (goInt (1 : Nat)) W2 := fun ty dc => by
  have h := run_copy_sized Tryz.prog W1 108 108 ty 81 w.heap.size (i * 2) (c + 1 - i) dc ⟨vb, 0, none⟩ 1 1 2 L0.toArray 81 [.string f.1, .string f.2] Tryz.underlying108 hsz hN1
   (by simp only [Nat.min_def]; split <;> simp <;> omega)
   (fun j v hj => row_cell hv1 0 j v (by simpa using hj))
   (by simp [hlen0]; omega) (by intro u hu; simp at hu; rcases hu with rfl | rfl <;> rfl)
  simp only [List.length_cons, List.length_nil, Nat.zero_add] at h
  rw [← hL1, ← hW2] at h
  have e : Nat.min 1 (c + 1 - i) = 1 := by simp only [Nat.min_def]; split <;> omega
  rw [e] at h
  exact h
 have hg2 : W2.heap[g]? = some (.cells cur 81 (0, 0)) := by rw [hW2, setRow_other _ _ g _ (by omega)]; exact hg1
 have hN2 : W2.heap[w.heap.size]? = some (.cells L1.toArray 81 (0, 0)) := by rw [hW2]; exact setRow_heap _ _ _ _ _ _ hN1
 obtain ⟨L2, hL2⟩ : ∃ L2 : List Value, L2 = L1.take ((i + 1) * 2) ++ fileCells (fs.drop i) ++ L1.drop ((i + 1) * 2 + (c - i) * 2) := ⟨_, rfl⟩
 obtain ⟨W3, hW3⟩ : ∃ W3, W3 = W2.drew.setRow w.heap.size L2.toArray := ⟨_, rfl⟩
 have hcp2 : ∀ ty dc sc, (Builtin.copy_ #[108, 108] ty #[.slice (some ⟨w.heap.size, (i + 1) * 2, none⟩) (c - i) dc, .slice (some ⟨g, i * 2, none⟩) (c - i) sc]).run Tryz.prog W2.drew = .ok (goInt (c - i : Nat)) W3 := fun ty dc sc => by
  have h := run_copy_sized Tryz.prog W2.drew 108 108 ty 81 w.heap.size ((i + 1) * 2) (c - i) dc ⟨g, i * 2, none⟩ (c - i) sc 2 L1.toArray 81 (fileCells (fs.drop i)) Tryz.underlying108 hsz hN2
   (by rw [hD]; simp only [Nat.min_def]; split <;> omega)
   (fun j v hj => row_cell (w := W2.drew) hg2 (i * 2) j v (by
    rw [← fileCells_drop, ← htk, List.getElem?_drop, List.getElem?_take] at hj
    split at hj
    ·exact hj
    ·cases hj))
   (by rw [hD, List.size_toArray, hlen1]; omega) (fileCells_one _)
  rw [hD, ← hL2, ← hW3] at h
  have e : Nat.min (c - i) (c - i) = c - i := Nat.min_self _
  rw [e] at h
  exact h
 have hfin : ∃ cur' : Array Value, W3.heap[w.heap.size]? = some (.cells cur' 81 (0, 0)) ∧ cur'.size = G * 2 ∧ cur'.toList.take ((c + 1) * 2) = fileCells (fs.take i ++ f :: fs.drop i) ∧ w.grownBy W3 none := by
  refine ⟨L2.toArray, by rw [hW3]; exact setRow_heap W2.drew _ _ _ _ _ hN2, ?_, ?_, ?_⟩
  ·rw [hL2]; simp only [List.size_toArray, List.length_append, List.length_take, List.length_drop, hlen1, hD]; omega
  ·have h := grow_list (fileCells (fs.take i)) Z (fileCells (fs.drop i)) R (.string f.1) (.string f.2) i (c - i) hA hD
   rw [show i + 1 + (c - i) = c + 1 from by omega, ← hL0, ← hL1, ← hL2] at h
   show L2.take _ = _
   rw [h, fileCells_append, fileCells_cons]
   simp
  ·refine ⟨by rw [hW3, hW2, hW1]; rfl, by rw [hW3, hW2, hW1]; rfl, by rw [hW3, hW2, hW1]; rfl, by rw [hW3, hW2, hW1]; simp [World.setRow], fun k hk _ => ?_⟩
   have hk' : k ≠ w.heap.size := by omega
   rw [hW3, setRow_other _ _ k _ hk']
   show W2.heap[k]? = _
   rw [hW2, setRow_other _ _ k _ hk', hW1]
   exact Below.heap_alloc w.drew _ k hk
 have HF := Lib.hid hfin
 clear hfin hold hL0 hL1 hL2 hW1 hW2 hW3 hg1 hv1 hN1 hg2 hN2 htk hlen0 hlen1 hA hD hZ hR hZl hRl hcs hg hv hfs hG hkk hik
 have b1 : ¬ ((i : Int) = (c : Int)) := by omega
 unfold maxLen at hGm
 go_enter Tryz.func116, Tryz.ntmps116
 have hGi : ¬ (G = i) := by omega
 have hGim : ¬ (G = i + 1) := by omega
 have hci : ¬ (c = i) := by omega
 have hw1 : IntKind.i64.wrap ((i : Int) + (1 : Int)) = (i : Int) + (1 : Int) := by rw [IntKind.wrap_i64]; omega
 have hb1 : (0 : Int) ≤ (i : Int) + (1 : Int) := by omega
 have htn : ((i : Int) + (1 : Int)).toNat = i + 1 := by omega
 have hb3 : (i : Int) ≤ (c : Int) := by omega
 have hb6 : c + 1 - (i + 1) = c - i := by omega
 go_wp2_with (at_builtin; refine Lib.wpList_append_run _ rfl _ _ _ _ rfl _ _ rfl rfl _ _ (hrz _) ?_)
 go_region_law (refine step_copy_runI rfl _ _ 108 108 rfl _ _ (by simp [Act.eval, Act.put]) (by simp [Act.eval, Act.put]) (hcp2 _ _ _) ?_)
 go_wp2_with fail
 go_ret
 exact ⟨G, rfl, hGn, by unfold maxLen; omega, HF.out⟩
end Go.Proofs.YtdhmeganlnpohaaGreatDoor
namespace Go.Proofs.YtdhmeganlnpohaaGreatDoor
open Go.Lib
def normGo (kept : List (List UInt8)) : List (List UInt8) → Option (List (List UInt8))
 | [] => some kept
 | p :: ps => if p = [] ∨ p = [46] then normGo kept ps else if p = [46, 46] then (if kept = [] then none else normGo kept.dropLast ps) else normGo (kept ++ [p]) ps
theorem normGo_skip (kept ps : List (List UInt8)) (p : List UInt8) (h : p = [] ∨ p = [46]) : normGo kept (p :: ps) = normGo kept ps := by rw [normGo, if_pos h]
theorem normGo_fall (ps : List (List UInt8)) : normGo [] ([46, 46] :: ps) = none := by rw [normGo, if_neg (by simp), if_pos rfl, if_pos rfl]
theorem normGo_up (kept ps : List (List UInt8)) (h : kept ≠ []) : normGo kept ([46, 46] :: ps) = normGo kept.dropLast ps := by rw [normGo, if_neg (by simp), if_pos rfl, if_neg h]
theorem normGo_keep (kept ps : List (List UInt8)) (p : List UInt8) (h1 : p ≠ []) (h2 : p ≠ [46]) (h3 : p ≠ [46, 46]) : normGo kept (p :: ps) = normGo (kept ++ [p]) ps := by rw [normGo, if_neg (by simp [h1, h2]), if_neg h3]
end Go.Proofs.YtdhmeganlnpohaaGreatDoor
