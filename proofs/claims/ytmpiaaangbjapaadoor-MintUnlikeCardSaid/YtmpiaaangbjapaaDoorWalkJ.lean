/- slices.Insert of one file into a row of files that the caller owns. -/
import Derived.Test.YtmpiaaangbjapaaDoorWalkF
import Derived.Shelf.Spec.SlicesInsert
import Derived.Lib.AppendZerosOnto
import Derived.Laws.CopyOwn
namespace Go.Proofs.YtmpiaaangbjapaaDoor
open Go.RowKit

/-- A file: its name and its bytes; a row's cells. -/
abbrev F2 := ByteArray × ByteArray
def fileCells (fs : List F2) : List Value := (fs.map fun f => [Value.string f.1, Value.string f.2]).flatten
theorem fileCells_nil : fileCells [] = [] := rfl
theorem fileCells_cons (f : F2) (fs : List F2) : fileCells (f :: fs) = .string f.1 :: .string f.2 :: fileCells fs := by simp [fileCells]
theorem fileCells_append (a b : List F2) : fileCells (a ++ b) = fileCells a ++ fileCells b := by simp [fileCells]
theorem fileCells_length (fs : List F2) : (fileCells fs).length = fs.length * 2 := by
  induction fs with
  | nil => rfl
  | cons f fs ih => rw [fileCells_cons]; simp only [List.length_cons, ih]; omega
theorem fileCells_one (fs : List F2) : ∀ u ∈ fileCells fs, u.oneCell' = true := by
  induction fs with
  | nil => intro u hu; cases hu
  | cons f fs ih =>
    rw [fileCells_cons]
    intro u hu
    rcases List.mem_cons.1 hu with rfl | hu
    · rfl
    · rcases List.mem_cons.1 hu with rfl | hu
      · rfl
      · exact ih u hu
theorem fileCells_take (fs : List F2) : ∀ i, (fileCells fs).take (i * 2) = fileCells (fs.take i) := by
  induction fs with
  | nil => intro i; simp [fileCells]
  | cons f fs ih =>
    intro i
    cases i with
    | zero => simp [fileCells]
    | succ i => rw [fileCells_cons, Nat.add_mul, List.take_succ_cons, List.take_succ_cons, ih i, List.take_succ_cons, fileCells_cons]
theorem fileCells_drop (fs : List F2) : ∀ i, (fileCells fs).drop (i * 2) = fileCells (fs.drop i) := by
  induction fs with
  | nil => intro i; simp [fileCells]
  | cons f fs ih =>
    intro i
    cases i with
    | zero => simp [fileCells]
    | succ i => rw [fileCells_cons, Nat.add_mul, List.drop_succ_cons, List.drop_succ_cons, ih i, List.drop_succ_cons]

/-- A slice's cells over a slice's cells, elements of whatever size: all is read before anything is written. -/
theorem run_copy_sized (P : Program) (w : World) (dT sT ty elem : TypeId) (g o dLen dCap : Nat) (a : Addr) (sLen sCap sz : Nat) (cur : Array Value) (t : TypeId) (cs : List Value)
    (hu : P.underlying dT = some (.slice elem)) (hs : (P.info? elem).map (·.size) = some sz)
    (hg : w.heap[g]? = some (.cells cur t (0, 0))) (hn : cs.length = Nat.min sLen dLen * sz)
    (hsrc : ∀ j v, cs[j]? = some v → w.cell? (a.add j) = some v) (hfit : o + cs.length ≤ cur.size) (h1 : ∀ v ∈ cs, v.oneCell' = true) :
    (Builtin.copy_ #[dT, sT] ty #[.slice (some ⟨g, o, none⟩) dLen dCap, .slice (some a) sLen sCap]).run P w =
      .ok (goInt (Nat.min sLen dLen)) (w.setRow g (cur.toList.take o ++ cs ++ cur.toList.drop (o + cs.length)).toArray) := by
  have hl := run_loadCells_list (P := P) w a cs hsrc
  have hst := run_storeCells_at P g o t cs 0 cur w hg (by simpa using hfit) h1
  cases hq : P.info? elem with
  | none => simp [hq] at hs
  | some i =>
    have hi : i.size = sz := by simpa [hq] using hs
    simp [Builtin.copy_, run_underlying hu, Builtin.lenOf, Builtin.firstCells, sizeOf, typeInfo, hq, hi, ← hn, hl, hst]

theorem info_file : (Tryd.prog.info? 36).map (fun i => (i.zero, i.size, i.bytes)) = some (some (.agg #[.string ByteArray.empty, .string ByteArray.empty]), 2, 32) := by kernel_rfl

theorem row_cell {w : World} {g : Nat} {cur : Array Value} {t : TypeId} {fr : Nat × Nat} (h : w.heap[g]? = some (.cells cur t fr)) (o j : Nat) (v : Value) (hv : cur.toList[o + j]? = some v) : w.cell? ((⟨g, o, none⟩ : Addr).add j) = some v := by
  rw [Addr.add_lit]
  simp only [World.cell?, h]
  simpa using hv

theorem shift_list (C D R : List Value) (x y : Value) (i k : Nat) (hi : (i + 1) * 2 ≤ C.length) (hD : D.length = k * 2) :
    ((C.take ((i + 1) * 2) ++ D ++ R).take (i * 2) ++ [x, y] ++ (C.take ((i + 1) * 2) ++ D ++ R).drop (i * 2 + 2)).take ((i + 1 + k) * 2) = C.take (i * 2) ++ [x, y] ++ D := by
  have h1 : (C.take ((i + 1) * 2)).length = i * 2 + 2 := by rw [List.length_take]; omega
  have e0 : C.take ((i + 1) * 2) ++ D ++ R = C.take ((i + 1) * 2) ++ (D ++ R) := List.append_assoc _ _ _
  have e1 : (C.take ((i + 1) * 2) ++ (D ++ R)).take (i * 2) = C.take (i * 2) := by
    rw [List.take_append_of_le_length (by omega), List.take_take, Nat.min_eq_left (by omega)]
  have e2 : (C.take ((i + 1) * 2) ++ (D ++ R)).drop (i * 2 + 2) = D ++ R := by rw [← h1, List.drop_left]
  have h2 : (C.take (i * 2)).length = i * 2 := by rw [List.length_take]; omega
  have h3 : (C.take (i * 2) ++ [x, y] ++ D).length = (i + 1 + k) * 2 := by simp only [List.length_append, h2, hD, List.length_cons, List.length_nil]; omega
  rw [e0, e1, e2, ← List.append_assoc _ D R, ← h3, List.take_left]

set_option maxHeartbeats 4000000 in
set_option maxRecDepth 100000 in
/-- There is room, the place is ahead of the end. -/
theorem insert_shift (g n c i vb : Nat) (fs : List F2) (f : F2) (cur : Array Value) (w : World) (hi : i < n) (hroom : n + 1 ≤ c) (hn : n ≤ 1000) (hc63 : c ≤ 9223372036854775807) (hvb : vb ≠ g)
    (hfs : fs.length = n) (hg : w.heap[g]? = some (.cells cur 36 (0, 0))) (hcs : cur.size = c * 2) (htk : cur.toList.take (n * 2) = fileCells fs)
    (hv : w.heap[vb]? = some (.cells #[.string f.1, .string f.2] 36 (0, 0))) :
    Calls Tryd.prog 40 #[.slice (some ⟨g, 0, none⟩) n c, .int .i64 i, .slice (some ⟨vb, 0, none⟩) 1 1] w fun e w' =>
      e = .returned (.slice (some ⟨g, 0, none⟩) (n + 1) c) ∧ ∃ cur' : Array Value, w'.heap[g]? = some (.cells cur' 36 (0, 0)) ∧ cur'.size = c * 2 ∧ cur'.toList.take ((n + 1) * 2) = fileCells (fs.take i ++ f :: fs.drop i) ∧
        w.grownBy w' (some g) := by
  obtain ⟨i0, hi0, hz0, hz1, hz2⟩ := info_parts info_file
  have hsz : (Tryd.prog.info? 36).map (·.size) = some 2 := by rw [hi0]; simp [hz1]
  have hov : ∀ lb cb, (callFunc 55 #[.slice (some ⟨vb, 0, none⟩) 1 1, .slice (some ⟨g, (i + 1) * 2, none⟩) lb cb]).run Tryd.prog w = .ok (.value (.bool false)) w := fun lb cb => by
    rw [run_callFunc_extern Tryd.func55 (by kernel_rfl) (by kernel_rfl) (by kernel_rfl) (e := Extern.SlicesOverlaps.overlaps #[59, 59] #[4]) (by kernel_rfl),
      Lib.run_overlaps_apart w 59 4 36 Tryd.underlying59 2 Tryd.sizeOf36 ⟨vb, 0, none⟩ ⟨g, (i + 1) * 2, none⟩ 1 1 lb cb hvb 36 36 2 (c * 2) (by simp [World.shape?, hv]) (by simp [World.shape?, hg, hcs]) (by omega) (by simp [World.frozen?, hv]) (by simp [World.frozen?, hv])]
    rfl
  have hcl : (fileCells (fs.drop i)).length = (n - i) * 2 := by rw [fileCells_length, List.length_drop, hfs]
  obtain ⟨L1, hL1⟩ : ∃ L1 : List Value, L1 = cur.toList.take ((i + 1) * 2) ++ fileCells (fs.drop i) ++ cur.toList.drop ((i + 1) * 2 + (n - i) * 2) := ⟨_, rfl⟩
  have hlen1 : L1.length = c * 2 := by
    rw [hL1]; simp only [List.length_append, List.length_take, List.length_drop, Array.length_toList, hcs, hcl]; omega
  have hcp1 : ∀ ty dc sc, (Builtin.copy_ #[59, 59] ty #[.slice (some ⟨g, (i + 1) * 2, none⟩) (n - i) dc, .slice (some ⟨g, i * 2, none⟩) (n + 1 - i) sc]).run Tryd.prog w.drew = .ok (goInt (n - i : Nat)) (w.drew.setRow g L1.toArray) := fun ty dc sc => by
    have h := run_copy_sized Tryd.prog w.drew 59 59 ty 36 g ((i + 1) * 2) (n - i) dc ⟨g, i * 2, none⟩ (n + 1 - i) sc 2 cur 36 (fileCells (fs.drop i)) Tryd.underlying59 hsz hg
      (by rw [hcl]; simp only [Nat.min_def]; split <;> omega)
      (fun j v hj => row_cell (w := w.drew) hg (i * 2) j v (by
        rw [← fileCells_drop, ← htk, List.getElem?_drop, List.getElem?_take] at hj
        split at hj
        · exact hj
        · cases hj))
      (by rw [hcl, hcs]; omega) (fileCells_one _)
    rw [hcl, ← hL1] at h
    have e : Nat.min (n + 1 - i) (n - i) = n - i := by simp only [Nat.min_def]; split <;> omega
    rw [e] at h
    exact h
  obtain ⟨W1, hW1⟩ : ∃ W1, W1 = w.drew.setRow g L1.toArray := ⟨_, rfl⟩
  have hg1 : W1.heap[g]? = some (.cells L1.toArray 36 (0, 0)) := by rw [hW1]; exact setRow_heap w.drew g cur _ _ _ hg
  have hv1 : W1.heap[vb]? = some (.cells #[.string f.1, .string f.2] 36 (0, 0)) := by rw [hW1, setRow_other w.drew g vb _ hvb]; exact hv
  obtain ⟨L2, hL2⟩ : ∃ L2 : List Value, L2 = L1.take (i * 2) ++ [.string f.1, .string f.2] ++ L1.drop (i * 2 + 2) := ⟨_, rfl⟩
  have hcp2 : ∀ ty dc, (Builtin.copy_ #[59, 59] ty #[.slice (some ⟨g, i * 2, none⟩) (n + 1 - i) dc, .slice (some ⟨vb, 0, none⟩) 1 1]).run Tryd.prog W1 = .ok (goInt (1 : Nat)) (W1.setRow g L2.toArray) := fun ty dc => by
    have h := run_copy_sized Tryd.prog W1 59 59 ty 36 g (i * 2) (n + 1 - i) dc ⟨vb, 0, none⟩ 1 1 2 L1.toArray 36 [.string f.1, .string f.2] Tryd.underlying59 hsz hg1
      (by simp only [Nat.min_def]; split <;> simp <;> omega)
      (fun j v hj => row_cell hv1 0 j v (by simpa using hj))
      (by simp [hlen1]; omega) (by intro u hu; simp at hu; rcases hu with rfl | rfl <;> rfl)
    simp only [List.length_cons, List.length_nil, Nat.zero_add] at h
    rw [← hL2] at h
    have e : Nat.min 1 (n + 1 - i) = 1 := by simp only [Nat.min_def]; split <;> omega
    rw [e] at h
    exact h
  have hfin : ∃ cur' : Array Value, (W1.setRow g L2.toArray).heap[g]? = some (.cells cur' 36 (0, 0)) ∧ cur'.size = c * 2 ∧ cur'.toList.take ((n + 1) * 2) = fileCells (fs.take i ++ f :: fs.drop i) ∧ w.grownBy (W1.setRow g L2.toArray) (some g) := by
    refine ⟨L2.toArray, setRow_heap W1 g _ _ _ _ hg1, ?_, ?_, ?_⟩
    · rw [hL2]; simp only [List.size_toArray, List.length_append, List.length_take, List.length_drop, hlen1, List.length_cons, List.length_nil]; omega
    · have h := shift_list cur.toList (fileCells (fs.drop i)) (cur.toList.drop ((i + 1) * 2 + (n - i) * 2)) (.string f.1) (.string f.2) i (n - i) (by rw [Array.length_toList, hcs]; omega) hcl
      rw [show i + 1 + (n - i) = n + 1 from by omega, ← hL1, ← hL2] at h
      show L2.take _ = _
      rw [h, fileCells_append, fileCells_cons, ← fileCells_take, ← htk, List.take_take, Nat.min_eq_left (by omega)]
      simp
    · exact ⟨by rw [hW1]; rfl, by rw [hW1]; rfl, by rw [hW1]; rfl, by rw [hW1]; simp [World.setRow], fun k _ hk => by
        have hk' : k ≠ g := fun e => hk (by rw [e])
        rw [setRow_other _ g k _ hk', hW1, setRow_other _ g k _ hk']; rfl⟩
  rw [← hW1] at hcp1
  have HF := Lib.hid hfin
  clear hfin hL1 hL2 hg1 hv1 htk hlen1 hcl hcs hv hfs
  have HW1 := Lib.hid hW1
  clear hW1
  have b1 : ¬ ((i : Int) = (n : Int)) := by omega
  go_enter Tryd.func40, Tryd.ntmps40
  go_wp2_with (simp only [hov])
  have hw1 : IntKind.i64.wrap ((i : Int) + (1 : Int)) = (i : Int) + (1 : Int) := by rw [IntKind.wrap_i64]; omega
  have hb1 : (0 : Int) ≤ (i : Int) + (1 : Int) := by omega
  have hb0 : (0 : Int) ≤ (i : Int) := by omega
  have htn : ((i : Int) + (1 : Int)).toNat = i + 1 := by omega
  have hb2 : ¬ (c = i + 1) := by omega
  have hb3 : (i : Int) ≤ (n : Int) + (1 : Int) := by omega
  have hb4 : ¬ (c = i) := by omega
  have hb5 : (i : Int) + 1 ≤ (n : Int) + (1 : Int) := by omega
  have hb6 : n + 1 - (i + 1) = n - i := by omega
  go_region_law (refine step_copy_runI rfl _ _ 59 59 rfl _ _ (by simp [Act.eval, Act.put]) (by simp [Act.eval, Act.put]) (hcp1 _ _ _) ?_)
  go_wp2_with fail
  go_ret
  exact ⟨rfl, HF.out⟩

theorem grow_list (A Z D R : List Value) (x y : Value) (i k : Nat) (hA : A.length = i * 2) (hD : D.length = k * 2) :
    (((A ++ Z ++ R).take (i * 2) ++ [x, y] ++ (A ++ Z ++ R).drop (i * 2 + 2)).take ((i + 1) * 2) ++ D ++ ((A ++ Z ++ R).take (i * 2) ++ [x, y] ++ (A ++ Z ++ R).drop (i * 2 + 2)).drop ((i + 1) * 2 + k * 2)).take ((i + 1 + k) * 2) = A ++ [x, y] ++ D := by
  have e1 : (A ++ Z ++ R).take (i * 2) = A := by rw [List.append_assoc, ← hA, List.take_left]
  have h3 : (A ++ [x, y]).length = (i + 1) * 2 := by simp only [List.length_append, hA, List.length_cons, List.length_nil]; omega
  have e2 : (A ++ [x, y] ++ (A ++ Z ++ R).drop (i * 2 + 2)).take ((i + 1) * 2) = A ++ [x, y] := by rw [← h3, List.take_left]
  have h4 : (A ++ [x, y] ++ D).length = (i + 1 + k) * 2 := by rw [List.length_append, h3, hD]; omega
  rw [e1, e2, ← h4, List.take_left]

set_option maxHeartbeats 4000000 in
set_option maxRecDepth 100000 in
/-- There is no room, the place is ahead of the end: a new row. -/
theorem insert_grow (g n c i vb : Nat) (fs : List F2) (f : F2) (cur : Array Value) (w : World) (hi : i < n) (hroom : c < n + 1) (hn : n ≤ 1000) (hnc : n ≤ c)
    (hfs : fs.length = n) (hg : w.heap[g]? = some (.cells cur 36 (0, 0))) (hcs : cur.size = c * 2) (htk : cur.toList.take (n * 2) = fileCells fs)
    (hv : w.heap[vb]? = some (.cells #[.string f.1, .string f.2] 36 (0, 0))) :
    Calls Tryd.prog 40 #[.slice (some ⟨g, 0, none⟩) n c, .int .i64 i, .slice (some ⟨vb, 0, none⟩) 1 1] w fun e w' => ∃ G,
      e = .returned (.slice (some ⟨w.heap.size, 0, none⟩) (n + 1) G) ∧ n + 1 ≤ G ∧ G ≤ maxLen ∧ ∃ cur' : Array Value, w'.heap[w.heap.size]? = some (.cells cur' 36 (0, 0)) ∧ cur'.size = G * 2 ∧ cur'.toList.take ((n + 1) * 2) = fileCells (fs.take i ++ f :: fs.drop i) ∧
        w.grownBy w' none := by
  obtain ⟨i0, hi0, hz0, hz1, hz2⟩ := info_parts info_file
  have hsz : (Tryd.prog.info? 36).map (·.size) = some 2 := by rw [hi0]; simp [hz1]
  obtain rfl : c = n := by omega
  have hgw : g < w.heap.size := by
    rcases Nat.lt_or_ge g w.heap.size with h | h
    · exact h
    · rw [Array.getElem?_eq_none h] at hg; cases hg
  have hvw : vb < w.heap.size := by
    rcases Nat.lt_or_ge vb w.heap.size with h | h
    · exact h
    · rw [Array.getElem?_eq_none h] at hv; cases hv
  have hA : (fileCells (fs.take i)).length = i * 2 := by rw [fileCells_length, List.length_take, hfs, Nat.min_eq_left (by omega)]
  have hD : (fileCells (fs.drop i)).length = (c - i) * 2 := by rw [fileCells_length, List.length_drop, hfs]
  have hold : (Builtin.firstCells i0.size i (.slice (some ⟨g, 0, none⟩) i c)).run Tryd.prog w.drew = .ok (fileCells (fs.take i)).toArray w.drew := by
    rw [hz1]
    exact run_firstCells_some w.drew 2 i ⟨g, 0, none⟩ i c (fileCells (fs.take i)) hA (fun j v hj => row_cell (w := w.drew) hg 0 j v (by
      rw [← fileCells_take, ← htk, List.take_take, List.getElem?_take] at hj
      split at hj
      · simpa using hj
      · cases hj))
  obtain ⟨G, hG⟩ : ∃ G, G = grownCap w (c + 1) c 36 := ⟨_, rfl⟩
  have hGn : c + 1 ≤ G := by rw [hG]; exact grownCap_ge w _ _ _
  have hGm : G ≤ maxLen := by rw [hG]; exact grownCap_le_maxLen w _ _ _ (by unfold maxLen; omega)
  obtain ⟨Z, hZ⟩ : ∃ Z : List Value, Z = (Builtin.zeroCells (Value.agg #[.string ByteArray.empty, .string ByteArray.empty]).cells (c + 1 - i)).toList := ⟨_, rfl⟩
  obtain ⟨R, hR⟩ : ∃ R : List Value, R = (Builtin.zeroCells (Value.agg #[.string ByteArray.empty, .string ByteArray.empty]).cells (G - (c + 1))).toList := ⟨_, rfl⟩
  have hZl : Z.length = (c - i + 1) * 2 := by rw [hZ]; simp [Builtin.zeroCells, Value.cells]; omega
  have hRl : R.length = (G - (c + 1)) * 2 := by rw [hR]; simp [Builtin.zeroCells, Value.cells]
  obtain ⟨L0, hL0⟩ : ∃ L0 : List Value, L0 = fileCells (fs.take i) ++ Z ++ R := ⟨_, rfl⟩
  have hlen0 : L0.length = G * 2 := by rw [hL0, List.length_append, List.length_append, hA, hZl, hRl]; omega
  obtain ⟨W1, hW1⟩ : ∃ W1, W1 = w.drew.alloc (.cells L0.toArray 36) := ⟨_, rfl⟩
  have hkk : (c : Int) + 1 - (i : Int) = ((c + 1 - i : Nat) : Int) := by omega
  have hik : i + (c + 1 - i) = c + 1 := by omega
  have hrz : ∀ ty, (Builtin.append_ #[59, 3] ty #[.slice (some ⟨g, 0, none⟩) i c, .int .i64 ((c : Int) + 1 - (i : Int))]).run Tryd.prog w = .ok (.slice (some ⟨w.heap.size, 0, none⟩) (c + 1) G) W1 := fun ty => by
    have h := Lib.run_append_grow_zeros w 59 3 ty 36 i0 _ .i64 .i64 Tryd.underlying59 Tryd.underlying3 hi0 hz0 (some ⟨g, 0, none⟩) i c (fileCells (fs.take i)) hold (c + 1 - i) (by omega) (by omega) (by omega) (by omega) (by rw [hz2]; omega) (by rw [hz2, hik]; exact growslice_fits (by omega) (by omega))
    have e : (fileCells (fs.take i)).toArray ++ Builtin.zeroCells (Value.agg #[.string ByteArray.empty, .string ByteArray.empty]).cells (c + 1 - i) ++ Builtin.zeroCells (Value.agg #[.string ByteArray.empty, .string ByteArray.empty]).cells (G - (c + 1)) = L0.toArray := by
      apply Array.toList_inj.1
      rw [hL0, hZ, hR]
      simp
    rw [hik, ← hG, e, ← hW1] at h
    rw [hkk]
    exact h
  have hg1 : W1.heap[g]? = some (.cells cur 36 (0, 0)) := by rw [hW1]; exact (Below.heap_alloc w.drew _ g hgw).trans hg
  have hv1 : W1.heap[vb]? = some (.cells #[.string f.1, .string f.2] 36 (0, 0)) := by rw [hW1]; exact (Below.heap_alloc w.drew _ vb hvw).trans hv
  have hN1 : W1.heap[w.heap.size]? = some (.cells L0.toArray 36 (0, 0)) := by rw [hW1]; exact heap_alloc_new w.drew _
  obtain ⟨L1, hL1⟩ : ∃ L1 : List Value, L1 = L0.take (i * 2) ++ [.string f.1, .string f.2] ++ L0.drop (i * 2 + 2) := ⟨_, rfl⟩
  have hlen1 : L1.length = G * 2 := by rw [hL1]; simp only [List.length_append, List.length_take, List.length_drop, hlen0, List.length_cons, List.length_nil]; omega
  obtain ⟨W2, hW2⟩ : ∃ W2, W2 = W1.setRow w.heap.size L1.toArray := ⟨_, rfl⟩
  have hcp1 : ∀ ty dc, (Builtin.copy_ #[59, 59] ty #[.slice (some ⟨w.heap.size, i * 2, none⟩) (c + 1 - i) dc, .slice (some ⟨vb, 0, none⟩) 1 1]).run Tryd.prog W1 = .ok (goInt (1 : Nat)) W2 := fun ty dc => by
    have h := run_copy_sized Tryd.prog W1 59 59 ty 36 w.heap.size (i * 2) (c + 1 - i) dc ⟨vb, 0, none⟩ 1 1 2 L0.toArray 36 [.string f.1, .string f.2] Tryd.underlying59 hsz hN1
      (by simp only [Nat.min_def]; split <;> simp <;> omega)
      (fun j v hj => row_cell hv1 0 j v (by simpa using hj))
      (by simp [hlen0]; omega) (by intro u hu; simp at hu; rcases hu with rfl | rfl <;> rfl)
    simp only [List.length_cons, List.length_nil, Nat.zero_add] at h
    rw [← hL1, ← hW2] at h
    have e : Nat.min 1 (c + 1 - i) = 1 := by simp only [Nat.min_def]; split <;> omega
    rw [e] at h
    exact h
  have hg2 : W2.heap[g]? = some (.cells cur 36 (0, 0)) := by rw [hW2, setRow_other _ _ g _ (by omega)]; exact hg1
  have hN2 : W2.heap[w.heap.size]? = some (.cells L1.toArray 36 (0, 0)) := by rw [hW2]; exact setRow_heap _ _ _ _ _ _ hN1
  obtain ⟨L2, hL2⟩ : ∃ L2 : List Value, L2 = L1.take ((i + 1) * 2) ++ fileCells (fs.drop i) ++ L1.drop ((i + 1) * 2 + (c - i) * 2) := ⟨_, rfl⟩
  obtain ⟨W3, hW3⟩ : ∃ W3, W3 = W2.drew.setRow w.heap.size L2.toArray := ⟨_, rfl⟩
  have hcp2 : ∀ ty dc sc, (Builtin.copy_ #[59, 59] ty #[.slice (some ⟨w.heap.size, (i + 1) * 2, none⟩) (c - i) dc, .slice (some ⟨g, i * 2, none⟩) (c - i) sc]).run Tryd.prog W2.drew = .ok (goInt (c - i : Nat)) W3 := fun ty dc sc => by
    have h := run_copy_sized Tryd.prog W2.drew 59 59 ty 36 w.heap.size ((i + 1) * 2) (c - i) dc ⟨g, i * 2, none⟩ (c - i) sc 2 L1.toArray 36 (fileCells (fs.drop i)) Tryd.underlying59 hsz hN2
      (by rw [hD]; simp only [Nat.min_def]; split <;> omega)
      (fun j v hj => row_cell (w := W2.drew) hg2 (i * 2) j v (by
        rw [← fileCells_drop, ← htk, List.getElem?_drop, List.getElem?_take] at hj
        split at hj
        · exact hj
        · cases hj))
      (by rw [hD, List.size_toArray, hlen1]; omega) (fileCells_one _)
    rw [hD, ← hL2, ← hW3] at h
    have e : Nat.min (c - i) (c - i) = c - i := Nat.min_self _
    rw [e] at h
    exact h
  have hfin : ∃ cur' : Array Value, W3.heap[w.heap.size]? = some (.cells cur' 36 (0, 0)) ∧ cur'.size = G * 2 ∧ cur'.toList.take ((c + 1) * 2) = fileCells (fs.take i ++ f :: fs.drop i) ∧ w.grownBy W3 none := by
    refine ⟨L2.toArray, by rw [hW3]; exact setRow_heap W2.drew _ _ _ _ _ hN2, ?_, ?_, ?_⟩
    · rw [hL2]; simp only [List.size_toArray, List.length_append, List.length_take, List.length_drop, hlen1, hD]; omega
    · have h := grow_list (fileCells (fs.take i)) Z (fileCells (fs.drop i)) R (.string f.1) (.string f.2) i (c - i) hA hD
      rw [show i + 1 + (c - i) = c + 1 from by omega, ← hL0, ← hL1, ← hL2] at h
      show L2.take _ = _
      rw [h, fileCells_append, fileCells_cons]
      simp
    · refine ⟨by rw [hW3, hW2, hW1]; rfl, by rw [hW3, hW2, hW1]; rfl, by rw [hW3, hW2, hW1]; rfl, by rw [hW3, hW2, hW1]; simp [World.setRow], fun k hk _ => ?_⟩
      have hk' : k ≠ w.heap.size := by omega
      rw [hW3, setRow_other _ _ k _ hk']
      show W2.heap[k]? = _
      rw [hW2, setRow_other _ _ k _ hk', hW1]
      exact Below.heap_alloc w.drew _ k hk
  have HF := Lib.hid hfin
  clear hfin hold hL0 hL1 hL2 hW1 hW2 hW3 hg1 hv1 hN1 hg2 hN2 htk hlen0 hlen1 hA hD hZ hR hZl hRl hcs hg hv hfs hG hkk hik
  have b1 : ¬ ((i : Int) = (c : Int)) := by omega
  unfold maxLen at hGm
  go_enter Tryd.func40, Tryd.ntmps40
  have hGi : ¬ (G = i) := by omega
  have hGim : ¬ (G = i + 1) := by omega
  have hci : ¬ (c = i) := by omega
  have hw1 : IntKind.i64.wrap ((i : Int) + (1 : Int)) = (i : Int) + (1 : Int) := by rw [IntKind.wrap_i64]; omega
  have hb1 : (0 : Int) ≤ (i : Int) + (1 : Int) := by omega
  have htn : ((i : Int) + (1 : Int)).toNat = i + 1 := by omega
  have hb3 : (i : Int) ≤ (c : Int) := by omega
  have hb6 : c + 1 - (i + 1) = c - i := by omega
  go_wp2_with (at_builtin; refine Lib.wpList_append_run _ rfl _ _ _ _ rfl _ _ rfl rfl _ _ (hrz _) ?_)
  go_region_law (refine step_copy_runI rfl _ _ 59 59 rfl _ _ (by simp [Act.eval, Act.put]) (by simp [Act.eval, Act.put]) (hcp2 _ _ _) ?_)
  go_wp2_with fail
  go_ret
  exact ⟨G, rfl, hGn, by unfold maxLen; omega, HF.out⟩
end Go.Proofs.YtmpiaaangbjapaaDoor
