/- Contract of slices.Delete at files: one file is taken out. -/
import Derived.Test.YtjaojfaedikkeaaGreatDoorWalkR
import Derived.Deep.RegionLaw
namespace Go.Proofs.YtjaojfaedikkeaaGreatDoor
open Go.RowKit Go.Lib

theorem setCells_row (P : Program) (w : World) (g o : Nat) (t : TypeId) (cs : List Value) (cur : Array Value) (hg : w.heap[g]? = some (.cells cur t (0, 0))) (hfit : o + cs.length ≤ cur.size) (h1 : ∀ v ∈ cs, v.oneCell' = true) :
    w.setCells g o cs = w.setRow g (cur.toList.take o ++ cs ++ cur.toList.drop (o + cs.length)).toArray := by
  have a := run_storeCells_at P g o t cs 0 cur w hg (by simpa using hfit) h1
  have b := run_storeCells_cells (P := P) g o cs 0 w (fun j hj => by simp only [World.cell?, hg]; simp; omega) (fun j hj => by simp [World.frozen?, hg]) h1
  simp only [Nat.add_zero] at a b
  rw [a] at b
  injection b with _ b
  exact b.symm

theorem zero_file (w : World) : (zeroValue 33).run Tryz.prog w = .ok (.agg #[.string ByteArray.empty, .string ByteArray.empty]) w := Tryz.zeroValue33 w

theorem clear_one (w : World) (g o c : Nat) (ty : TypeId) (cur : Array Value) (hg : w.heap[g]? = some (.cells cur 33 (0, 0))) (hfit : o + 2 ≤ cur.size) :
    (Builtin.clear_ #[22] ty #[.slice (some ⟨g, o, none⟩) 1 c]).run Tryz.prog w = .ok (.tuple #[]) (w.setRow g (cur.toList.take o ++ [Value.string ByteArray.empty, Value.string ByteArray.empty] ++ cur.toList.drop (o + 2)).toArray) := by
  have a := run_storeCells_at Tryz.prog g o 33 [.string ByteArray.empty, .string ByteArray.empty] 0 cur w hg (by simpa using hfit) (by intro v hv; simp at hv; subst hv; rfl)
  simp only [Nat.add_zero, List.length_cons, List.length_nil, Nat.zero_add] at a
  have hzf := fun w => zero_file w
  have hz : (Builtin.zeroCells (Value.cells (.agg #[.string ByteArray.empty, .string ByteArray.empty])) 1).toList = [.string ByteArray.empty, .string ByteArray.empty] := by kernel_rfl
  generalize ([Value.string ByteArray.empty, Value.string ByteArray.empty] : List Value) = Z at *
  generalize Value.agg #[Value.string ByteArray.empty, Value.string ByteArray.empty] = zv at *
  simp [Builtin.clear_, run_underlying Tryz.underlying22, hzf, hz, a]

set_option maxHeartbeats 4000000 in
set_option maxRecDepth 100000 in
theorem delete_c (g n c i : Nat) (fs : List F2) (cur : Array Value) (w : World) (hi : i < n) (hnc : n ≤ c) (hn : n ≤ 1000)
    (hfs : fs.length = n) (hg : w.heap[g]? = some (.cells cur 33 (0, 0))) (hcs : cur.size = c * 2) (htk : cur.toList.take (n * 2) = fileCells fs) :
    Calls Tryz.prog 31 #[.slice (some ⟨g, 0, none⟩) n c, .int .i64 i, .int .i64 (i + 1 : Nat)] w fun e w' =>
      e = .returned (.slice (some ⟨g, 0, none⟩) (n - 1) c) ∧ ∃ cur' : Array Value, w'.heap[g]? = some (.cells cur' 33 (0, 0)) ∧ cur'.size = c * 2 ∧ cur'.toList.take ((n - 1) * 2) = fileCells (fs.take i ++ fs.drop (i + 1)) ∧
        w.grownBy w' (some g) := by
  obtain ⟨i0, hi0, hz0, hz1, hz2⟩ := info_parts info_file
  have hcl : (fileCells (fs.drop (i + 1))).length = (n - (i + 1)) * 2 := by rw [fileCells_length, List.length_drop, hfs]
  obtain ⟨news, hnews⟩ : ∃ news, news = fileCells (fs.drop (i + 1)) := ⟨_, rfl⟩
  rw [← hnews] at hcl
  have hgd : w.drew.heap[g]? = some (.cells cur 33 (0, 0)) := hg
  obtain ⟨A, hA, hsrc⟩ : ∃ A : Addr, (if c = i + 1 then some (⟨g, 0, none⟩ : Addr) else some ⟨g, (i + 1) * 2, none⟩) = some A ∧ Hid (∀ t u, news[t]? = some u → w.drew.cell? (A.add t) = some u) := by
    by_cases h : c = i + 1
    · refine ⟨⟨g, 0, none⟩, by simp [h], fun t u hu => ?_⟩
      have h0 : news.length = 0 := by rw [hcl]; omega
      rw [List.length_eq_zero_iff.1 h0] at hu
      simp at hu
    · refine ⟨⟨g, (i + 1) * 2, none⟩, by simp [h], fun t u hu => ?_⟩
      refine row_cell (w := w.drew) hgd ((i + 1) * 2) t u ?_
      rw [hnews, ← fileCells_drop, ← htk, List.getElem?_drop, List.getElem?_take] at hu
      split at hu
      · exact hu
      · cases hu
  have s1 : Hid (news.length = (n - (i + 1)) * 2) := hcl
  have s2 : Hid (∀ u ∈ news, u.oneCell' = true) := by rw [hnews]; exact fileCells_one _
  have s3 : Hid (∀ t, t < news.length → (w.drew.cell? ⟨g, 0 + i * 2 + t, none⟩).isSome = true ∧ w.drew.frozen? ⟨g, 0 + i * 2 + t, none⟩ = false) := by
    intro t ht
    rw [hcl] at ht
    exact ⟨by simp only [World.cell?, hgd]; simp; omega, by simp [World.frozen?, hgd]⟩
  obtain ⟨L1, hL1⟩ : ∃ L1 : List Value, L1 = cur.toList.take (i * 2) ++ news ++ cur.toList.drop (i * 2 + news.length) := ⟨_, rfl⟩
  have hlen1 : L1.length = c * 2 := by
    rw [hL1]; simp only [List.length_append, List.length_take, List.length_drop, Array.length_toList, hcs, hcl]; omega
  obtain ⟨W1, hW1⟩ : ∃ W1, W1 = w.drew.setCells g (0 + i * 2) news := ⟨_, rfl⟩
  have hW1' : W1 = w.drew.setRow g L1.toArray := by
    rw [hW1, Nat.zero_add, setCells_row Tryz.prog w.drew g (i * 2) 33 news cur hgd (by rw [hcl, hcs]; omega) s2.out, ← hL1]
  have hg1 : W1.heap[g]? = some (.cells L1.toArray 33 (0, 0)) := by rw [hW1']; exact setRow_heap w.drew g cur _ _ _ hgd
  obtain ⟨L2, hL2⟩ : ∃ L2 : List Value, L2 = L1.take ((n - 1) * 2) ++ [.string ByteArray.empty, .string ByteArray.empty] ++ L1.drop ((n - 1) * 2 + 2) := ⟨_, rfl⟩
  have hcl1 : ∀ ty cc, (Builtin.clear_ #[22] ty #[.slice (some ⟨g, (n - 1) * 2, none⟩) 1 cc]).run Tryz.prog W1 = .ok (.tuple #[]) (W1.setRow g L2.toArray) := fun ty cc => by
    have h := clear_one W1 g ((n - 1) * 2) cc ty _ hg1 (by simp [hlen1]; omega)
    rw [← hL2] at h; exact h
  have hfin : ∃ cur' : Array Value, (W1.setRow g L2.toArray).heap[g]? = some (.cells cur' 33 (0, 0)) ∧ cur'.size = c * 2 ∧ cur'.toList.take ((n - 1) * 2) = fileCells (fs.take i ++ fs.drop (i + 1)) ∧ w.grownBy (W1.setRow g L2.toArray) (some g) := by
    refine ⟨L2.toArray, setRow_heap W1 g _ _ _ _ hg1, ?_, ?_, ?_⟩
    · rw [hL2]; simp only [List.size_toArray, List.length_append, List.length_take, List.length_drop, hlen1, List.length_cons, List.length_nil]; omega
    · show L2.take _ = _
      have e1 : L2.take ((n - 1) * 2) = L1.take ((n - 1) * 2) := by
        rw [hL2, List.append_assoc, List.take_append_of_le_length (by rw [List.length_take, hlen1]; omega), List.take_take, Nat.min_self]
      have e2 : L1.take ((n - 1) * 2) = cur.toList.take (i * 2) ++ news := by
        rw [hL1]
        have hl : (cur.toList.take (i * 2) ++ news).length = (n - 1) * 2 := by rw [List.length_append, List.length_take, Array.length_toList, hcs, hcl]; omega
        rw [← hl, List.take_left]
      rw [e1, e2, fileCells_append, ← fileCells_take, ← htk, List.take_take, Nat.min_eq_left (by omega), hnews]
    · exact ⟨by rw [hW1']; rfl, by rw [hW1']; rfl, by rw [hW1']; rfl, by rw [hW1']; simp [World.setRow], fun k _ hk => by
        have hk' : k ≠ g := fun e => hk (by rw [e])
        rw [setRow_other _ g k _ hk', hW1', setRow_other _ g k _ hk']; rfl⟩
  have HF := Lib.hid hfin
  have hW : Hid (W1 = w.drew.setCells g (0 + i * 2) news) := hW1
  clear hfin hL1 hL2 hg1 hgd htk hlen1 hcl hcs hfs hW1 hW1' hnews hg
  have hic : i ≤ c := by omega
  have hjc : i + 1 ≤ c := by omega
  go_enter Tryz.func31, Tryz.ntmps31
  go_wp2_with fail
  have mixed : Tryz.prog.follows Departure.mixedOrders = true := by kernel_rfl
  have hb1 : (0 : Int) ≤ (i : Int) + (1 : Int) := by omega
  have hb0 : (0 : Int) ≤ (i : Int) := by omega
  have htn : ((i : Int) + (1 : Int)).toNat = i + 1 := by omega
  have hb3 : (i : Int) + 1 ≤ (n : Int) := by omega
  have hb4 : (i : Int) ≤ (c : Int) := by omega
  have hb5 : (n : Int) ≤ (c : Int) := by omega
  go_region_law_o (refine step_append_room rfl (.tmp 22) (.tmp 25) 22 rfl 33 i0 2 Tryz.underlying22 hi0 hz1 g 0 i c (by simp [Act.eval, Act.put]) A (n - (i + 1)) (c - (i + 1)) news (by simp [Act.eval, Act.put]) s1.out hsrc.out s2.out (by omega) s3.out ?_; rw [← hW.out])
  have e1 : i + (n - (i + 1)) = n - 1 := by omega
  rw [e1]
  obtain ⟨m, rfl⟩ : ∃ m, n = m + 1 := ⟨n - 1, by omega⟩
  have hm1 : m + 1 - 1 = m := rfl
  rw [hm1] at hcl1 HF
  have hm2 : m + 1 - m = 1 := by omega
  have hm3 : ¬ (c = m) := by omega
  have hm4 : (m : Int) ≤ (c : Int) := by omega
  clear e1 hsrc s1 s2 s3 hA hi0 hz0 hz1 hz2 hW
  go_wp2_with fail
  go_ret
  exact ⟨rfl, HF.out⟩
end Go.Proofs.YtjaojfaedikkeaaGreatDoor
