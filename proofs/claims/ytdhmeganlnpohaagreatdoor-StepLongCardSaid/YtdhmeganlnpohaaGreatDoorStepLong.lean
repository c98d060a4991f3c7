import Derived.Test.YtdhmeganlnpohaaGreatDoorMbv
import Derived.Test.YtdhmeganlnpohaaGreatDoorMcd
namespace Go.Proofs.YtdhmeganlnpohaaGreatDoor.lawStepLong
open Go.RowKit Go.Shelf
theorem mod_pos (n : Int) (d : Int) (hd : 0 < d) (hd2 : d < 1000) : ∃ N : Nat, (wrap64 (n.tmod d + d)).tmod d = (N : Int) ∧ (N : Int) < d := by
 have h1 := Int.tmod_lt_of_pos n hd
 have h2 := Int.lt_tmod_of_pos n hd
 have h3 : wrap64 (n.tmod d + d) = n.tmod d + d := by unfold wrap64; omega
 rw [h3]
 have h4 := Int.tmod_lt_of_pos (n.tmod d + d) hd
 have h5 := Int.tmod_nonneg d (show 0 ≤ n.tmod d + d by omega)
 exact ⟨((n.tmod d + d).tmod d).toNat, by omega, by omega⟩
theorem bytes_ext {a b : ByteArray} (h : a.data.toList = b.data.toList) : a = b := by
 cases a; cases b; simp only at h; congr 1; exact Array.toList_inj.1 h
theorem rep_data (n : Nat) (c : UInt8) : (repB n c).data.toList = List.replicate n c := rfl
def sCat : StepS := ⟨⟨#[120]⟩, 5, [⟨#[97]⟩, ⟨#[98]⟩], [], 0⟩
def sRep (c : UInt8) : StepS := ⟨⟨#[120]⟩, 8, [⟨#[97]⟩], [repB 1 c, repB 2 c], 0⟩
theorem may_cat : mayB sCat = true := by kernel_rfl
theorem may_rep (c : UInt8) : mayB (sRep c) = true := by kernel_rfl
theorem do_cat (a b : ByteArray) : doV sCat [(true, a), (true, b)] = if a.size + b.size ≤ 2000 then (true, a ++ b) else noV := by
 have e : (mayB sCat && decide ([(true, a), (true, b)].length = sCat.args.length) && [(true, a), (true, b)].all (·.1)) = true := by rw [may_cat]; rfl
 unfold doV
 rw [if_pos e]
 show capV [a.data.toList, b.data.toList].flatten = _
 have hl : [a.data.toList, b.data.toList].flatten.length = a.size + b.size := by rw [Lib.size_eq a, Lib.size_eq b]; simp
 unfold capV
 rw [hl]
 split
 ·congr 1; exact bytes_ext (by simp)
 ·rfl
theorem repl_rep (c : UInt8) : ∀ k, replL [c] [c, c] (List.replicate k c) = List.replicate (k + k) c
 | 0 => rfl
 | k + 1 => by
  rw [List.replicate_succ, replL_cons _ _ (by simp), if_pos (by simp)]
  show [c, c] ++ replL [c] [c, c] (List.replicate k c) = _
  rw [repl_rep c k, show k + 1 + (k + 1) = k + k + 1 + 1 by omega, List.replicate_succ, List.replicate_succ]
  rfl
theorem do_rep (c : UInt8) (k : Nat) : doV (sRep c) [(true, repB k c)] = if k + k ≤ 2000 then (true, repB k c ++ repB k c) else noV := by
 have e : (mayB (sRep c) && decide ([(true, repB k c)].length = (sRep c).args.length) && [(true, repB k c)].all (·.1)) = true := by rw [may_rep]; rfl
 unfold doV
 rw [if_pos e]
 show capV (replL [c] [c, c] (List.replicate k c)) = _
 rw [repl_rep]
 unfold capV
 rw [List.length_replicate]
 split
 ·congr 1; exact bytes_ext (by rw [ByteArray.data_append, Array.toList_append, rep_data]; show List.replicate (k + k) c = _; exact List.replicate_append_replicate.symm)
 ·rfl
def oA (s : Nat) (x y : ByteArray) : List Obj := [.cells #[.string ⟨#[97]⟩, .string ⟨#[98]⟩] 9, .cells #[.string ⟨#[120]⟩, .int .i64 5, .slice (some ⟨s, 0, none⟩) 2 2, .slice none 0 0, .int .i64 0] 24, .cells #[.bool true, .string x, .bool true, .string y] 34]
def wA (w : World) (x y : ByteArray) : World := (oA w.heap.size x y).foldl World.alloc w
theorem wA_below (w : World) (x y : ByteArray) : Below w.heap.size w (wA w x y) := by
 unfold wA oA
 simp only [List.foldl_cons, List.foldl_nil]
 exact (((Below.refl _ _).alloc (Nat.le_refl _) _).alloc (by simp) _).alloc (by simp <;> omega) _
def oB (k s : Nat) (p q y : ByteArray) : List Obj := [.cells #[.string p, .string q] 9, .cells #[.string ⟨#[120]⟩, .int .i64 8, .slice (some ⟨k, 0, none⟩) 1 1, .slice (some ⟨s, 0, none⟩) 2 2, .int .i64 0] 24, .cells #[.bool true, .string y] 34]
def wB (w : World) (k : Nat) (p q y : ByteArray) : World := (oB k w.heap.size p q y).foldl World.alloc w
theorem wB_size (w : World) (k : Nat) (p q y : ByteArray) : (wB w k p q y).heap.size = w.heap.size + 3 := by unfold wB oB; simp
theorem wB_below (w : World) (k : Nat) (p q y : ByteArray) : Below w.heap.size w (wB w k p q y) := by
 unfold wB oB
 simp only [List.foldl_cons, List.foldl_nil]
 exact (((Below.refl _ _).alloc (Nat.le_refl _) _).alloc (by simp) _).alloc (by simp <;> omega) _
set_option maxHeartbeats 8000000
set_option maxRecDepth 100000
theorem law (n m : Int) (c : UInt8) (w : World) (hG : GP w.heap.size w) :
  Calls Tryz.prog 4 #[.int .i64 n, .int .i64 m, .int .u8 (c.toNat : Int)] w fun e w' => e = .returned (.bool true) ∧ Below w.heap.size w w' := by
 obtain ⟨N, hN, hN20⟩ := mod_pos n 20 (by decide) (by decide)
 obtain ⟨M, hM, hM30⟩ := mod_pos m 30 (by decide) (by decide)
 have hgl : ∀ W, Below w.heap.size w W → Glob W := fun W hW => (hG.below hW).glob
 have HGL := Lib.hid hgl
 have HCB := Lib.hid (begun7_any w hG)
 have cma := fun W => many_any (1990 + N) c W (by omega)
 rw [show ((1990 + N : Nat) : Int) = 1990 + (N : Int) by omega] at cma
 have cmb := fun W => many_any M c W (by omega)
 have cm1 := fun W => many_any 1 c W (by omega)
 have cm2 := fun W => many_any 2 c W (by omega)
 rw [show ((1 : Nat) : Int) = 1 from rfl] at cm1
 rw [show ((2 : Nat) : Int) = 2 from rfl] at cm2
 obtain ⟨x, hx⟩ : ∃ x, repB (1990 + N) c = x := ⟨_, rfl⟩
 obtain ⟨y, hy⟩ : ∃ x, repB M c = x := ⟨_, rfl⟩
 obtain ⟨p, hp⟩ : ∃ x, repB 1 c = x := ⟨_, rfl⟩
 obtain ⟨q, hq⟩ : ∃ x, repB 2 c = x := ⟨_, rfl⟩
 have hxs : x.size = 1990 + N := by rw [← hx, repB_size]
 have hys : y.size = M := by rw [← hy, repB_size]
 have hd1 := do_cat x y
 rw [hxs, hys] at hd1
 have hd2 := do_rep c M
 rw [if_pos (by omega), hy] at hd2
 have hd3 := do_rep c (1990 + N)
 rw [if_neg (by omega), hx] at hd3
 have hsr : sRep c = ⟨⟨#[120]⟩, 8, [⟨#[97]⟩], [p, q], 0⟩ := by unfold sRep; rw [hp, hq]
 rw [hsr] at hd2 hd3
 rw [hx] at cma; rw [hy] at cmb; rw [hp] at cm1; rw [hq] at cm2
 obtain ⟨k1, t1, e1⟩ : ∃ k t, doV sCat [(true, x), (true, y)] = (k, t) := ⟨_, _, rfl⟩
 rw [e1] at hd1
 have CMA := Lib.hid cma; have CMB := Lib.hid cmb; have CM1 := Lib.hid cm1; have CM2 := Lib.hid cm2
 have HD1 := Lib.hid hd1; have HD2 := Lib.hid hd2; have HD3 := Lib.hid hd3; have HE1 := Lib.hid e1
 have hyys : (y ++ y).size ≤ 100 := by rw [ByteArray.size_append]; omega
 clear hgl hx hy hp hq hd1 hd2 hd3 hsr hG cma cmb cm1 cm2 e1
 go_enter Tryz.func4, Tryz.ntmps4
 go_wp2_with fail
 refine HCB.out.mono ?_
 rintro e w1 ⟨rfl, hb1⟩
 have HB1 := Lib.hid hb1
 clear hb1
 go_wp2_with fail
 refine (CMA.out _).mono ?_
 rintro e w2 ⟨rfl, hb2⟩
 have HB2 := Lib.hid (HB1.out.trans (hb2.mono HB1.out.size))
 clear hb2
 go_wp2_with fail
 refine (CMB.out _).mono ?_
 rintro e w3 ⟨rfl, hb3⟩
 have HB3 := Lib.hid (HB2.out.trans (hb3.mono HB2.out.size))
 clear hb3
 have hA : ∀ V, Below (wA w3 x y).heap.size (wA w3 x y) V → True := fun _ _ => trivial
 have c1 : Calls Tryz.prog 24 #[.agg #[.string ⟨#[120]⟩, .int .i64 5, .slice (some ⟨w3.heap.size, 0, none⟩) 2 2, .slice none 0 0, .int .i64 0], .slice (some ⟨w3.heap.size + 1 + 1, 0, none⟩) 2 2] (wA w3 x y) fun e w' => e = .returned (.agg #[.bool k1, .string t1]) ∧ Below (wA w3 x y).heap.size (wA w3 x y) w' := by
  have g := fun i o h => allocs_get (oA w3.heap.size x y) w3 i o h
  have h0 : IsStrs (wA w3 x y) (.slice (some ⟨w3.heap.size, 0, none⟩) 2 2) [⟨#[97]⟩, ⟨#[98]⟩] := strsLit (xs := [⟨#[97]⟩, ⟨#[98]⟩]) (g 0 _ rfl) (by show 2 ≤ maxLen; decide)
  have h2 : IsVals (wA w3 x y) (.slice (some ⟨w3.heap.size + 1 + 1, 0, none⟩) 2 2) [(true, x), (true, y)] := valsLit (xs := [(true, x), (true, y)]) (g 2 _ rfl) (by show 2 ≤ maxLen; decide)
  have := do_any sCat (some ⟨w3.heap.size, 0, none⟩) none 2 0 (.slice (some ⟨w3.heap.size + 1 + 1, 0, none⟩) 2 2) [(true, x), (true, y)] (wA w3 x y) h0 (strsNil _) h2 (by show 2 ≤ 1000000000; decide) (by intro u hu; simp only [List.mem_cons, List.not_mem_nil, or_false] at hu; rcases hu with rfl | rfl <;> (simp only; omega)) (HGL.out _ (HB3.out.trans ((wA_below w3 x y).mono HB3.out.size)))
  unfold DoPost at this
  rw [HE1.out] at this
  exact this
 have HBA : Hid (Below w.heap.size w (wA w3 x y)) := Lib.hid (HB3.out.trans ((wA_below w3 x y).mono HB3.out.size))
 have C1 := Lib.hid c1
 clear c1 hA
 go_wp2_with fail
 refine C1.out.mono ?_
 rintro e w4 ⟨rfl, hb4⟩
 have HB4 := Lib.hid (HBA.out.trans (hb4.mono HBA.out.size))
 obtain ⟨m1, hm1⟩ : ∃ m, w4.heap.size = m := ⟨_, rfl⟩
 obtain ⟨w5, hw5⟩ : ∃ V, w4.alloc (.cells #[.bool k1, .string t1] 34) = V := ⟨_, rfl⟩
 have hs5 : w5.heap.size = m1 + 1 := by rw [← hw5]; simp [hm1]
 have HK1 : Hid (∀ V : World, Below w5.heap.size w5 V → V.heap[m1]? = some (.cells #[.bool k1, .string t1] 34)) := Lib.hid fun V hV => by
  rw [hV.block m1 (by omega), ← hw5, ← hm1]; exact alloc_at w4 _
 have HB5 : Hid (Below w.heap.size w w5) := Lib.hid (by rw [← hw5]; exact HB4.out.alloc HB4.out.size _)
 have HW5 := Lib.hid hw5; have HM1 := Lib.hid hm1; have HS5 := Lib.hid hs5
 clear hb4 hw5 hm1 hs5 C1
 go_upto_region 8 with fail
 rw [HW5.out, HM1.out]
 go_wp2_with fail
 refine (CM1.out _).mono ?_
 rintro e w6 ⟨rfl, hb6⟩
 have HB56 : Hid (Below (w5.heap.size + 1) (w5.alloc (.cells #[.string ⟨#[97]⟩] 9)) w6) := Lib.hid (by simpa using hb6)
 clear hb6
 go_wp2_with fail
 refine (CM2.out _).mono ?_
 rintro e w7 ⟨rfl, hb7⟩
 have h57 : Below (w5.heap.size + 1) (w5.alloc (.cells #[.string ⟨#[97]⟩] 9)) w7 := HB56.out.trans (hb7.mono (by have := HB56.out.size; simpa using this))
 have h57' : Below w5.heap.size w5 w7 := ((Below.refl _ _).alloc (Nat.le_refl _) _).trans (h57.mono (by omega))
 have hB7 : Below w.heap.size w w7 := HB5.out.trans (h57'.mono HB5.out.size)
 have hs7 : w5.heap.size + 1 ≤ w7.heap.size := by have := h57.size; simpa using this
 have hBB : Below w7.heap.size w7 (wB w7 w5.heap.size p q y) := wB_below _ _ _ _ _
 have HX : Hid (∀ V : World, Below (wB w7 w5.heap.size p q y).heap.size (wB w7 w5.heap.size p q y) V → IsStrs V (.slice (some ⟨w5.heap.size, 0, none⟩) 1 1) [⟨#[97]⟩] ∧ IsStrs V (.slice (some ⟨w7.heap.size, 0, none⟩) 2 2) [p, q] ∧ V.heap[w7.heap.size + 1]? = some (.cells #[.string ⟨#[120]⟩, .int .i64 8, .slice (some ⟨w5.heap.size, 0, none⟩) 1 1, .slice (some ⟨w7.heap.size, 0, none⟩) 2 2, .int .i64 0] 24) ∧ Below w.heap.size w V ∧ V.heap[m1]? = some (.cells #[.bool k1, .string t1] 34)) := by
  show ∀ V, _
  intro V hV
  have g := fun i o h => allocs_get (oB w5.heap.size w7.heap.size p q y) w7 i o h
  have hz := wB_size w7 w5.heap.size p q y
  have h7V : Below w7.heap.size w7 V := hBB.trans (hV.mono hBB.size)
  have e5 : V.heap[w5.heap.size]? = some (.cells #[.string ⟨#[97]⟩] 9) := by
   rw [h7V.block _ (by omega), h57.block _ (by omega)]; exact alloc_at w5 _
  refine ⟨strsLit (xs := [⟨#[97]⟩]) e5 (by show 1 ≤ maxLen; decide), strsLit (xs := [p, q]) ((hV.block _ (by omega)).trans (g 0 _ rfl)) (by show 2 ≤ maxLen; decide), (hV.block _ (by omega)).trans (g 1 _ rfl), hB7.trans (h7V.mono hB7.size), HK1.out V (h57'.trans (h7V.mono (by omega)))⟩
 have hv2 : IsVals (wB w7 w5.heap.size p q y) (.slice (some ⟨w7.heap.size + 1 + 1, 0, none⟩) 1 1) [(true, y)] := valsLit (xs := [(true, y)]) (allocs_get (oB w5.heap.size w7.heap.size p q y) w7 2 _ rfl) (by show 1 ≤ maxLen; decide)
 have CR : Hid (∀ V v z r, Below (wB w7 w5.heap.size p q y).heap.size (wB w7 w5.heap.size p q y) V → IsVals V v [(true, z)] → z.size ≤ 3000 → doV ⟨⟨#[120]⟩, 8, [⟨#[97]⟩], [p, q], 0⟩ [(true, z)] = r → Calls Tryz.prog 24 #[.agg #[.string ⟨#[120]⟩, .int .i64 8, .slice (some ⟨w5.heap.size, 0, none⟩) 1 1, .slice (some ⟨w7.heap.size, 0, none⟩) 2 2, .int .i64 0], v] V fun e w' => e = .returned (.agg #[.bool r.1, .string r.2]) ∧ Below V.heap.size V w') := by
  show ∀ V v z r, _
  intro V v z r hV hv hz hr
  obtain ⟨a1, a2, _, a4, _⟩ := HX.out V hV
  have := do_any ⟨⟨#[120]⟩, 8, [⟨#[97]⟩], [p, q], 0⟩ (some ⟨w5.heap.size, 0, none⟩) (some ⟨w7.heap.size, 0, none⟩) 1 2 v [(true, z)] V a1 a2 hv (by show 1 ≤ 1000000000; decide) (by intro u hu; simp only [List.mem_cons, List.not_mem_nil, or_false] at hu; subst hu; simp only; omega) (HGL.out _ a4)
  unfold DoPost at this
  rw [hr] at this
  exact this
 have HV2 := Lib.hid hv2
 have HR0 : Hid (Below (wB w7 w5.heap.size p q y).heap.size (wB w7 w5.heap.size p q y) (wB w7 w5.heap.size p q y)) := Lib.hid (Below.refl _ _)
 clear hb7 h57 h57' hB7 hs7 hBB hv2 HB56
 go_wp2_with fail
 refine (CR.out _ _ y _ HR0.out HV2.out (by omega) HD2.out).mono ?_
 rintro e w8 ⟨rfl, hb8⟩
 obtain ⟨m2, hm2⟩ : ∃ m, w8.heap.size = m := ⟨_, rfl⟩
 obtain ⟨w9, hw9⟩ : ∃ V, w8.alloc (.cells #[.bool true, .string (y ++ y)] 34) = V := ⟨_, rfl⟩
 have hs9 : w9.heap.size = m2 + 1 := by rw [← hw9]; simp [hm2]
 have hB9 : Below (wB w7 w5.heap.size p q y).heap.size (wB w7 w5.heap.size p q y) w9 := by rw [← hw9]; exact hb8.alloc hb8.size _
 have HK2 : Hid (∀ V : World, Below w9.heap.size w9 V → V.heap[m2]? = some (.cells #[.bool true, .string (y ++ y)] 34)) := Lib.hid fun V hV => by
  rw [hV.block m2 (by omega), ← hw9, ← hm2]; exact alloc_at w8 _
 obtain ⟨d0, d1, d2, d3, d4, _⟩ := cells5 (HX.out w9 hB9).2.2.1
 have HW9 := Lib.hid hw9; have HM2 := Lib.hid hm2; have HB9 := Lib.hid hB9; have HS9 := Lib.hid hs9
 clear hb8 hw9 hm2 hB9 hs9
 go_upto_region 10 with fail
 rw [HW9.out, HM2.out]
 go_wp2_with fail
 have hb9a : Below (wB w7 w5.heap.size p q y).heap.size (wB w7 w5.heap.size p q y) (w9.alloc (.cells #[.bool true, .string x] 34)) := HB9.out.alloc HB9.out.size _
 refine (CR.out _ _ x (false, ⟨#[]⟩) hb9a (valsLit (xs := [(true, x)]) (alloc_at w9 _) (by show 1 ≤ maxLen; decide)) (by omega) HD3.out).mono ?_
 rintro e w10 ⟨rfl, hb10⟩
 obtain ⟨m3, hm3⟩ : ∃ m, w10.heap.size = m := ⟨_, rfl⟩
 obtain ⟨w11, hw11⟩ : ∃ V, w10.alloc (.cells #[.bool false, .string ⟨#[]⟩] 34) = V := ⟨_, rfl⟩
 have h9_10 : Below w9.heap.size w9 w10 := ((Below.refl _ _).alloc (Nat.le_refl _) _).trans (hb10.mono (by simp))
 have h9_11 : Below w9.heap.size w9 w11 := by rw [← hw11]; exact h9_10.alloc h9_10.size _
 have hb11 := HB9.out.trans (h9_11.mono HB9.out.size)
 obtain ⟨f0, f1, _, _⟩ := cells2 (HX.out w11 hb11).2.2.2.2
 obtain ⟨g0, g1, _, _⟩ := cells2 (HK2.out w11 h9_11)
 have hk3 : w11.heap[m3]? = some (.cells #[.bool false, .string ⟨#[]⟩] 34) := by rw [← hw11, ← hm3]; exact alloc_at w10 _
 obtain ⟨i0, i1, _, _⟩ := cells2 hk3
 have HBE := Lib.hid (HX.out w11 hb11).2.2.2.1
 have HW11 := Lib.hid hw11; have HM3 := Lib.hid hm3
 clear d0 d1 d2 d3 d4 hb9a hb10 hm3 hw11 h9_10 h9_11 hb11 hk3
 go_upto_region 11 with fail
 rw [HW11.out, HM3.out]
 by_cases hle : 1990 + N + M ≤ 2000
 ·have hd := HD1.out
  rw [if_pos hle] at hd
  obtain ⟨rfl, rfl⟩ := Prod.mk.inj hd
  have hli : 1990 + (N : Int) + (M : Int) ≤ 2000 := by omega
  clear hd
  go_wp2
  go_ret
  exact ⟨rfl, HBE.out⟩
 ·have hd := HD1.out
  rw [if_neg hle] at hd
  obtain ⟨rfl, rfl⟩ := Prod.mk.inj hd
  have hli : ¬ 1990 + (N : Int) + (M : Int) ≤ 2000 := by omega
  clear hd
  go_wp2
  go_ret
  exact ⟨rfl, HBE.out⟩
end Go.Proofs.YtdhmeganlnpohaaGreatDoor.lawStepLong
