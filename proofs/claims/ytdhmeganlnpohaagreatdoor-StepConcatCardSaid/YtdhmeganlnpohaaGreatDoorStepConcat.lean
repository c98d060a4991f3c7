import Derived.Deep.RegionHeld3
import Derived.Test.YtdhmeganlnpohaaGreatDoorMbv
import Derived.Test.YtdhmeganlnpohaaGreatDoorMby
namespace Go.Proofs.YtdhmeganlnpohaaGreatDoor.lawStepConcat
open Go.RowKit Go.Shelf
theorem bytes_ext {a b : ByteArray} (h : a.data.toList = b.data.toList) : a = b := by
 cases a; cases b; simp only at h; congr 1; exact Array.toList_inj.1 h
def sTwo : StepS := ⟨⟨#[120]⟩, 5, [⟨#[112]⟩, ⟨#[113]⟩], [], 0⟩
def sThree : StepS := ⟨⟨#[120]⟩, 5, [⟨#[112]⟩, ⟨#[113]⟩, ⟨#[114]⟩], [], 0⟩
def sNone : StepS := ⟨⟨#[120]⟩, 5, [], [], 0⟩
theorem may_two : mayB sTwo = true := by kernel_rfl
theorem may_three : mayB sThree = true := by kernel_rfl
theorem do_none : doV sNone [] = (true, ⟨#[]⟩) := by kernel_rfl
theorem do_two (a b : ByteArray) (h : a.size + b.size ≤ 2000) : doV sTwo [(true, a), (true, b)] = (true, a ++ b) := by
 have e : (mayB sTwo && decide ([(true, a), (true, b)].length = sTwo.args.length) && [(true, a), (true, b)].all (·.1)) = true := by rw [may_two]; rfl
 unfold doV
 rw [if_pos e]
 show outV (some [a.data.toList, b.data.toList].flatten) = _
 have hl : [a.data.toList, b.data.toList].flatten.length ≤ 2000 := by
  rw [Lib.size_eq a, Lib.size_eq b] at h
  simpa using h
 show capV _ = _
 unfold capV
 rw [if_pos hl]
 congr 1
 exact bytes_ext (by simp)
theorem do_three (a b c : ByteArray) (h : a.size + b.size + c.size ≤ 2000) : doV sThree [(true, a), (true, b), (true, c)] = (true, a ++ b ++ c) := by
 have e : (mayB sThree && decide ([(true, a), (true, b), (true, c)].length = sThree.args.length) && [(true, a), (true, b), (true, c)].all (·.1)) = true := by rw [may_three]; rfl
 unfold doV
 rw [if_pos e]
 show outV (some [a.data.toList, b.data.toList, c.data.toList].flatten) = _
 have hl : [a.data.toList, b.data.toList, c.data.toList].flatten.length ≤ 2000 := by
  rw [Lib.size_eq a, Lib.size_eq b, Lib.size_eq c] at h
  simp only [List.flatten_cons, List.flatten_nil, List.append_nil, List.length_append]; omega
 show capV _ = _
 unfold capV
 rw [if_pos hl]
 congr 1
 exact bytes_ext (by simp)
def conO (n : Nat) (x y z : ByteArray) : List Obj := [.cells #[.string ⟨#[112]⟩, .string ⟨#[113]⟩] 9, .cells #[.string ⟨#[120]⟩, .int .i64 5, .slice (some ⟨n, 0, none⟩) 2 2, .slice none 0 0, .int .i64 0] 24,
 .cells #[.string ⟨#[112]⟩, .string ⟨#[113]⟩, .string ⟨#[114]⟩] 9, .cells #[.string ⟨#[120]⟩, .int .i64 5, .slice (some ⟨n + 1 + 1, 0, none⟩) 3 3, .slice none 0 0, .int .i64 0] 24,
 .cells #[.bool true, .string x] 34, .cells #[.bool true, .string y] 34, .cells #[.bool true, .string z] 34,
 .cells #[.bool true, .string x, .bool true, .string y, .bool true, .string z] 34]
def conW (w : World) (x y z : ByteArray) : World := (conO w.heap.size x y z).foldl World.alloc w
theorem conW_size (w : World) (x y z : ByteArray) : (conW w x y z).heap.size = w.heap.size + 8 := by unfold conW conO; simp
theorem conW_below (w : World) (x y z : ByteArray) : Below w.heap.size w (conW w x y z) := by
 unfold conW conO
 simp only [List.foldl_cons, List.foldl_nil]
 exact ((((((((Below.refl _ _).alloc (Nat.le_refl _) _).alloc (by simp) _).alloc (by simp <;> omega) _).alloc (by simp <;> omega) _).alloc (by simp <;> omega) _).alloc (by simp <;> omega) _).alloc (by simp <;> omega) _).alloc (by simp <;> omega) _
structure ConR (n : Nat) (x y z : ByteArray) (W : World) : Prop where
 two : IsStrs W (.slice (some ⟨n, 0, none⟩) 2 2) [⟨#[112]⟩, ⟨#[113]⟩]
 three : IsStrs W (.slice (some ⟨n + 1 + 1, 0, none⟩) 3 3) [⟨#[112]⟩, ⟨#[113]⟩, ⟨#[114]⟩]
 b1 : W.heap[n + 1]? = some (.cells #[.string ⟨#[120]⟩, .int .i64 5, .slice (some ⟨n, 0, none⟩) 2 2, .slice none 0 0, .int .i64 0] 24)
 bx : W.heap[n + 1 + 1 + 1 + 1]? = some (.cells #[.bool true, .string x] 34)
 byy : W.heap[n + 1 + 1 + 1 + 1 + 1]? = some (.cells #[.bool true, .string y] 34)
 bz : W.heap[n + 1 + 1 + 1 + 1 + 1 + 1]? = some (.cells #[.bool true, .string z] 34)
 vals : IsVals W (.slice (some ⟨n + 1 + 1 + 1 + 1 + 1 + 1 + 1, 0, none⟩) 3 3) [(true, x), (true, y), (true, z)]
theorem conR_of (w : World) (x y z : ByteArray) (W : World) (hW : Below (w.heap.size + 8) (conW w x y z) W) : ConR w.heap.size x y z W := by
 have hk : ∀ k, k < w.heap.size + 8 → W.heap[k]? = (conW w x y z).heap[k]? := fun k hk => hW.block k hk
 have g := fun i o h => allocs_get (conO w.heap.size x y z) w i o h
 exact ⟨strsLit (xs := [⟨#[112]⟩, ⟨#[113]⟩]) ((hk _ (by omega)).trans (g 0 _ rfl)) (by decide), strsLit (xs := [⟨#[112]⟩, ⟨#[113]⟩, ⟨#[114]⟩]) ((hk _ (by omega)).trans (g 2 _ rfl)) (by decide),
  (hk _ (by omega)).trans (g 1 _ rfl), (hk _ (by omega)).trans (g 4 _ rfl), (hk _ (by omega)).trans (g 5 _ rfl), (hk _ (by omega)).trans (g 6 _ rfl),
  valsLit (xs := [(true, x), (true, y), (true, z)]) ((hk _ (by omega)).trans (g 7 _ rfl)) (by show 3 ≤ maxLen; decide)⟩
set_option maxHeartbeats 8000000
set_option maxRecDepth 100000
theorem law (a b c : ByteArray) (w : World) (ha : a.size ≤ maxLen) (hb : b.size ≤ maxLen) (hc : c.size ≤ maxLen) (hG : GP w.heap.size w) :
  Calls Tryz.prog 10 #[.string a, .string b, .string c] w fun e w' => e = .returned (.bool true) ∧ Below w.heap.size w w' := by
 have mixed : Tryz.prog.follows .mixedOrders = true := by kernel_rfl
 have sha := fun w => short_any a 600 w ha (by decide) (by decide)
 have shb := fun w => short_any b 600 w hb (by decide) (by decide)
 have shc := fun w => short_any c 600 w hc (by decide) (by decide)
 obtain ⟨x, hx⟩ : ∃ t : ByteArray, t = a.extract 0 (min a.size (Int.toNat 600)) := ⟨_, rfl⟩
 obtain ⟨y, hy⟩ : ∃ t : ByteArray, t = b.extract 0 (min b.size (Int.toNat 600)) := ⟨_, rfl⟩
 obtain ⟨z, hz⟩ : ∃ t : ByteArray, t = c.extract 0 (min c.size (Int.toNat 600)) := ⟨_, rfl⟩
 rw [← hx] at sha; rw [← hy] at shb; rw [← hz] at shc
 have hxl : x.size ≤ 600 := by rw [hx]; simp; omega
 have hyl : y.size ≤ 600 := by rw [hy]; simp; omega
 have hzl : z.size ≤ 600 := by rw [hz]; simp; omega
 have SA := Lib.hid sha; have SB := Lib.hid shb; have SC := Lib.hid shc
 have HCB := Lib.hid (begun7_any w hG)
 have HGP := Lib.hid hG
 clear sha shb shc hx hy hz hG ha hb hc
 go_enter Tryz.func10, Tryz.ntmps10
 go_wp2_with fail
 refine HCB.out.mono ?_
 rintro e w1 ⟨rfl, hb1⟩
 have HB1 := Lib.hid hb1
 have hgl : ∀ W, Below w1.heap.size w1 W → Glob W := fun W hW => (HGP.out.below (hb1.trans (hW.mono hb1.size))).glob
 have HGL := Lib.hid hgl
 clear hb1 hgl
 have HR : Hid (∀ W, Below (w1.heap.size + 8) (conW w1 x y z) W → ConR w1.heap.size x y z W) := Lib.hid fun W hW => conR_of w1 x y z W hW
 have HW8 : Hid (Below w1.heap.size w1 (conW w1 x y z)) := Lib.hid (conW_below w1 x y z)
 have hz8 := conW_size w1 x y z
 have hd3 := do_three x y z (by omega)
 have hxyz : (x ++ y ++ z).size ≤ 2000 := by rw [ByteArray.size_append, ByteArray.size_append]; omega
 have hxy2 : (x ++ y).size ≤ 2000 := by rw [ByteArray.size_append]; omega
 have C8 : Hid (Calls Tryz.prog 24 #[.agg #[.string ⟨#[120]⟩, .int .i64 5, .slice (some ⟨w1.heap.size + 1 + 1, 0, none⟩) 3 3, .slice none 0 0, .int .i64 0], .slice (some ⟨w1.heap.size + 1 + 1 + 1 + 1 + 1 + 1 + 1, 0, none⟩) 3 3] (conW w1 x y z) fun e w' => e = .returned (.agg #[.bool true, .string (x ++ y ++ z)]) ∧ Below (w1.heap.size + 8) (conW w1 x y z) w') := by
  show Calls _ _ _ _ _
  have hr := HR.out _ (Below.refl _ _)
  have := do_any sThree (some ⟨w1.heap.size + 1 + 1, 0, none⟩) none 3 0 (.slice (some ⟨w1.heap.size + 1 + 1 + 1 + 1 + 1 + 1 + 1, 0, none⟩) 3 3) [(true, x), (true, y), (true, z)] (conW w1 x y z) hr.three (strsNil _) hr.vals (by show 3 ≤ 1000000000; decide) (by intro u hu; simp only [List.mem_cons, List.not_mem_nil, or_false] at hu; rcases hu with rfl | rfl | rfl <;> (simp only; omega)) (HGL.out _ HW8.out)
  unfold DoPost at this
  rw [hd3, hz8] at this
  exact this
 have CT : Hid (∀ W u p q, Below (w1.heap.size + 8) (conW w1 x y z) W → IsVals W u [(true, p), (true, q)] → p.size + q.size ≤ 2000 → Calls Tryz.prog 24 #[.agg #[.string ⟨#[120]⟩, .int .i64 5, .slice (some ⟨w1.heap.size, 0, none⟩) 2 2, .slice none 0 0, .int .i64 0], u] W fun e w' => e = .returned (.agg #[.bool true, .string (p ++ q)]) ∧ Below W.heap.size W w') := by
  show ∀ W u p q, _
  intro W u p q hW hu hpq
  have := do_any sTwo (some ⟨w1.heap.size, 0, none⟩) none 2 0 u [(true, p), (true, q)] W (HR.out W hW).two (strsNil _) hu (by show 2 ≤ 1000000000; decide) (by intro u hu; simp only [List.mem_cons, List.not_mem_nil, or_false] at hu; rcases hu with rfl | rfl <;> (simp only; omega)) (HGL.out _ (HW8.out.trans (hW.mono (by omega))))
  unfold DoPost at this
  rw [do_two p q hpq] at this
  exact this
 have CN : Hid (∀ W, Below (w1.heap.size + 8) (conW w1 x y z) W → Calls Tryz.prog 24 #[.agg #[.string ⟨#[120]⟩, .int .i64 5, .slice none 0 0, .slice none 0 0, .int .i64 0], .slice none 0 0] W fun e w' => e = .returned (.agg #[.bool true, .string ⟨#[]⟩]) ∧ Below W.heap.size W w') := by
  show ∀ W, _
  intro W hW
  have := do_any sNone none none 0 0 (.slice none 0 0) [] W (strsNil _) (strsNil _) ⟨none, 0, rfl, Nat.le_refl _, Nat.zero_le _, fun h => absurd rfl h⟩ (by decide) (by simp) (HGL.out _ (HW8.out.trans (hW.mono (by omega))))
  unfold DoPost at this
  rw [do_none] at this
  exact this
 have HZ8 := Lib.hid hz8
 clear hd3 hz8
 go_wp2_with fail
 refine (SA.out _).mono ?_
 rintro e _ ⟨rfl, rfl⟩
 go_wp2_with fail
 refine (SB.out _).mono ?_
 rintro e _ ⟨rfl, rfl⟩
 go_wp2_with fail
 refine (SC.out _).mono ?_
 rintro e _ ⟨rfl, rfl⟩
 go_wp2_with fail
 refine C8.out.mono ?_
 rintro e w2 ⟨rfl, hb2⟩
 obtain ⟨m, hm⟩ : ∃ m, w2.heap.size = m := ⟨_, rfl⟩
 obtain ⟨w3, hw3⟩ : ∃ V, w2.alloc (.cells #[.bool true, .string (x ++ y ++ z)] 34) = V := ⟨_, rfl⟩
 have hxa : w3.heap[m]? = some (.cells #[.bool true, .string (x ++ y ++ z)] 34) := by rw [← hw3, ← hm]; exact alloc_at w2 _
 have hs3 : w3.heap.size = m + 1 := by rw [← hw3]; simp [hm]
 have hb3 : Below (w1.heap.size + 8) (conW w1 x y z) w3 := by rw [← hw3]; exact hb2.alloc (by have := hb2.size; rw [HZ8.out] at this; exact this) _
 have HD : Hid (∀ V : World, Below w3.heap.size w3 V → Below (w1.heap.size + 8) (conW w1 x y z) V ∧ (V.cell? ⟨w1.heap.size + 1, 0, none⟩ = some (.string ⟨#[120]⟩) ∧ V.cell? ⟨w1.heap.size + 1, 1, none⟩ = some (.int .i64 5) ∧ V.cell? ⟨w1.heap.size + 1, 2, none⟩ = some (.slice (some ⟨w1.heap.size, 0, none⟩) 2 2) ∧ V.cell? ⟨w1.heap.size + 1, 3, none⟩ = some (.slice none 0 0) ∧ V.cell? ⟨w1.heap.size + 1, 4, none⟩ = some (.int .i64 0)) ∧
   (V.cell? ⟨w1.heap.size + 1 + 1 + 1 + 1, 0, none⟩ = some (.bool true) ∧ V.cell? ⟨w1.heap.size + 1 + 1 + 1 + 1, 1, none⟩ = some (.string x)) ∧ (V.cell? ⟨w1.heap.size + 1 + 1 + 1 + 1 + 1, 0, none⟩ = some (.bool true) ∧ V.cell? ⟨w1.heap.size + 1 + 1 + 1 + 1 + 1, 1, none⟩ = some (.string y)) ∧
   (V.cell? ⟨w1.heap.size + 1 + 1 + 1 + 1 + 1 + 1, 0, none⟩ = some (.bool true) ∧ V.cell? ⟨w1.heap.size + 1 + 1 + 1 + 1 + 1 + 1, 1, none⟩ = some (.string z)) ∧ V.cell? ⟨m, 0, none⟩ = some (.bool true) ∧ V.cell? ⟨m, 1, none⟩ = some (.string (x ++ y ++ z))) := by
  show ∀ V, _
  intro V hV
  have h8 := hb3.size
  rw [HZ8.out] at h8
  have hBV := hb3.trans (hV.mono h8)
  have hr := HR.out V hBV
  obtain ⟨p0, p1, p2, p3, p4, _⟩ := cells5 hr.b1
  obtain ⟨x0, x1, _, _⟩ := cells2 hr.bx
  obtain ⟨y0, y1, _, _⟩ := cells2 hr.byy
  obtain ⟨z0, z1, _, _⟩ := cells2 hr.bz
  obtain ⟨a0, a1, _, _⟩ := cells2 ((hV.block m (by omega)).trans hxa)
  exact ⟨hBV, ⟨p0, p1, p2, p3, p4⟩, ⟨x0, x1⟩, ⟨y0, y1⟩, ⟨z0, z1⟩, a0, a1⟩
 have HW3 := Lib.hid hw3; have HM := Lib.hid hm
 have HUP : Hid (∀ V, Below w3.heap.size w3 V → Below w.heap.size w V) := Lib.hid fun V hV => by
  have h8 := hb3.size
  rw [HZ8.out] at h8
  have h1 := HB1.out.trans (HW8.out.mono HB1.out.size)
  have h2 := h1.trans (hb3.mono (by have := HB1.out.size; omega))
  exact h2.trans (hV.mono h2.size)
 clear hb2 hw3 hxa hs3 hb3 hm
 go_upto_region 9 with fail
 rw [HW3.out, HM.out]
 refine wp_region_held_drew (S := fun V => Below w3.heap.size w3 V) (by kernel_rfl) ?_ (fun hHeld => ?_)
 ·exact below_drewN (Below.refl _ _) 1
 refine wpAnyH_take (i := 0) (oi := _) (v := ?_) (by simp only [List.getElem?_toArray, List.getElem?_cons_zero]; rfl) (by kernel_rfl) (by kernel_rfl) (by kernel_rfl) (by exact fun _ _ _ h => h) (Or.inl ⟨by rfl, ?_⟩) (by assumption) ?_
 rotate_left
 ·intro w hSw; obtain ⟨hBW, ⟨p0, p1, p2, p3, p4⟩, ⟨x0, x1⟩, ⟨y0, y1⟩, ⟨z0, z1⟩, a0, a1⟩ := HD.out _ hSw; go_simp; first | with_reducible rfl | (rw [if_neg (by first | omega | (simp only [ByteArray.size_append]; omega))])
 try simp only [Act.put, List.setIfInBounds_toArray, List.set_cons_zero, List.set_cons_succ]
 refine wpAnyH_take (i := 1) (oi := _) (v := ?_) (by simp only [List.getElem?_toArray, List.getElem?_cons_succ, List.getElem?_cons_zero]; rfl) (by kernel_rfl) (by kernel_rfl) (by kernel_rfl) (by exact fun _ _ _ h => h) (Or.inl ⟨by rfl, ?_⟩) (by assumption) ?_
 rotate_left
 ·intro w hSw; obtain ⟨hBW, ⟨p0, p1, p2, p3, p4⟩, ⟨x0, x1⟩, ⟨y0, y1⟩, ⟨z0, z1⟩, a0, a1⟩ := HD.out _ hSw; go_simp; first | with_reducible rfl | (rw [if_neg (by first | omega | (simp only [ByteArray.size_append]; omega))])
 try simp only [Act.put, List.setIfInBounds_toArray, List.set_cons_zero, List.set_cons_succ]
 refine wpAnyH_take (i := 2) (oi := _) (v := ?_) (by simp only [List.getElem?_toArray, List.getElem?_cons_succ, List.getElem?_cons_zero]; rfl) (by kernel_rfl) (by kernel_rfl) (by kernel_rfl) (by exact fun _ _ _ h => h) (Or.inl ⟨by rfl, ?_⟩) (by assumption) ?_
 rotate_left
 ·intro w hSw; obtain ⟨hBW, ⟨p0, p1, p2, p3, p4⟩, ⟨x0, x1⟩, ⟨y0, y1⟩, ⟨z0, z1⟩, a0, a1⟩ := HD.out _ hSw; go_simp; first | with_reducible rfl | (rw [if_neg (by first | omega | (simp only [ByteArray.size_append]; omega))])
 try simp only [Act.put, List.setIfInBounds_toArray, List.set_cons_zero, List.set_cons_succ]
 refine wpAnyH_take (i := 3) (oi := _) (v := ?_) (by simp only [List.getElem?_toArray, List.getElem?_cons_succ, List.getElem?_cons_zero]; rfl) (by kernel_rfl) (by kernel_rfl) (by kernel_rfl) (by exact fun _ _ _ h => h) (Or.inl ⟨by rfl, ?_⟩) (by assumption) ?_
 rotate_left
 ·intro w hSw; obtain ⟨hBW, ⟨p0, p1, p2, p3, p4⟩, ⟨x0, x1⟩, ⟨y0, y1⟩, ⟨z0, z1⟩, a0, a1⟩ := HD.out _ hSw; go_simp; first | with_reducible rfl | (rw [if_neg (by first | omega | (simp only [ByteArray.size_append]; omega))])
 try simp only [Act.put, List.setIfInBounds_toArray, List.set_cons_zero, List.set_cons_succ]
 refine wpAnyH_take (i := 4) (oi := _) (v := ?_) (by simp only [List.getElem?_toArray, List.getElem?_cons_succ, List.getElem?_cons_zero]; rfl) (by kernel_rfl) (by kernel_rfl) (by kernel_rfl) (by exact fun _ _ _ h => h) (Or.inl ⟨by rfl, ?_⟩) (by assumption) ?_
 rotate_left
 ·intro w hSw; obtain ⟨hBW, ⟨p0, p1, p2, p3, p4⟩, ⟨x0, x1⟩, ⟨y0, y1⟩, ⟨z0, z1⟩, a0, a1⟩ := HD.out _ hSw; go_simp; first | with_reducible rfl | (rw [if_neg (by first | omega | (simp only [ByteArray.size_append]; omega))])
 try simp only [Act.put, List.setIfInBounds_toArray, List.set_cons_zero, List.set_cons_succ]
 refine wpAnyH_take (i := 5) (oi := _) (v := ?_) (by simp only [List.getElem?_toArray, List.getElem?_cons_succ, List.getElem?_cons_zero]; rfl) (by kernel_rfl) (by kernel_rfl) (by kernel_rfl) (by exact fun _ _ _ h => h) (Or.inl ⟨by rfl, ?_⟩) (by assumption) ?_
 rotate_left
 ·intro w hSw; obtain ⟨hBW, ⟨p0, p1, p2, p3, p4⟩, ⟨x0, x1⟩, ⟨y0, y1⟩, ⟨z0, z1⟩, a0, a1⟩ := HD.out _ hSw; go_simp; first | with_reducible rfl | (rw [if_neg (by first | omega | (simp only [ByteArray.size_append]; omega))])
 try simp only [Act.put, List.setIfInBounds_toArray, List.set_cons_zero, List.set_cons_succ]
 refine wpAnyH_take (i := 6) (oi := _) (v := ?_) (by simp only [List.getElem?_toArray, List.getElem?_cons_succ, List.getElem?_cons_zero]; rfl) (by kernel_rfl) (by kernel_rfl) (by kernel_rfl) (by exact fun _ _ _ h => h) (Or.inl ⟨by rfl, ?_⟩) (by assumption) ?_
 rotate_left
 ·intro w hSw; obtain ⟨hBW, ⟨p0, p1, p2, p3, p4⟩, ⟨x0, x1⟩, ⟨y0, y1⟩, ⟨z0, z1⟩, a0, a1⟩ := HD.out _ hSw; go_simp; first | with_reducible rfl | (rw [if_neg (by first | omega | (simp only [ByteArray.size_append]; omega))])
 try simp only [Act.put, List.setIfInBounds_toArray, List.set_cons_zero, List.set_cons_succ]
 refine wpAnyH_take (i := 7) (oi := _) (v := ?_) (by simp only [List.getElem?_toArray, List.getElem?_cons_succ, List.getElem?_cons_zero]; rfl) (by kernel_rfl) (by kernel_rfl) (by kernel_rfl) (by exact fun _ _ _ h => h) (Or.inl ⟨by rfl, ?_⟩) (by assumption) ?_
 rotate_left
 ·intro w hSw; go_simp; try with_reducible rfl
 try simp only [Act.put, List.setIfInBounds_toArray, List.set_cons_zero, List.set_cons_succ]
 refine wpAnyH_take (i := 8) (oi := _) (v := ?_) (by simp only [List.getElem?_toArray, List.getElem?_cons_succ, List.getElem?_cons_zero]; rfl) (by kernel_rfl) (by kernel_rfl) (by kernel_rfl) (by exact fun _ _ _ h => h) (Or.inl ⟨by rfl, ?_⟩) (by assumption) ?_
 rotate_left
 ·intro w hSw; obtain ⟨hBW, ⟨p0, p1, p2, p3, p4⟩, ⟨x0, x1⟩, ⟨y0, y1⟩, ⟨z0, z1⟩, a0, a1⟩ := HD.out _ hSw; go_simp; first | with_reducible rfl | (rw [if_neg (by first | omega | (simp only [ByteArray.size_append]; omega))])
 try simp only [Act.put, List.setIfInBounds_toArray, List.set_cons_zero, List.set_cons_succ]
 refine wpAnyH_take (i := 9) (oi := _) (v := ?_) (by simp only [List.getElem?_toArray, List.getElem?_cons_succ, List.getElem?_cons_zero]; rfl) (by kernel_rfl) (by kernel_rfl) (by kernel_rfl) (by exact fun _ _ _ h => h) (Or.inl ⟨by rfl, ?_⟩) (by assumption) ?_
 rotate_left
 ·intro w hSw; obtain ⟨hBW, ⟨p0, p1, p2, p3, p4⟩, ⟨x0, x1⟩, ⟨y0, y1⟩, ⟨z0, z1⟩, a0, a1⟩ := HD.out _ hSw; go_simp; first | with_reducible rfl | (rw [if_neg (by first | omega | (simp only [ByteArray.size_append]; omega))])
 try simp only [Act.put, List.setIfInBounds_toArray, List.set_cons_zero, List.set_cons_succ]
 refine wpAnyH_take (i := 10) (oi := _) (v := ?_) (by simp only [List.getElem?_toArray, List.getElem?_cons_succ, List.getElem?_cons_zero]; rfl) (by kernel_rfl) (by kernel_rfl) (by kernel_rfl) (by exact fun _ _ _ h => h) (Or.inl ⟨by rfl, ?_⟩) (by assumption) ?_
 rotate_left
 ·intro w hSw; obtain ⟨hBW, ⟨p0, p1, p2, p3, p4⟩, ⟨x0, x1⟩, ⟨y0, y1⟩, ⟨z0, z1⟩, a0, a1⟩ := HD.out _ hSw; go_simp; first | with_reducible rfl | (rw [if_neg (by first | omega | (simp only [ByteArray.size_append]; omega))])
 try simp only [Act.put, List.setIfInBounds_toArray, List.set_cons_zero, List.set_cons_succ]
 refine wpAnyH_take (i := 11) (oi := _) (v := ?_) (by simp only [List.getElem?_toArray, List.getElem?_cons_succ, List.getElem?_cons_zero]; rfl) (by kernel_rfl) (by kernel_rfl) (by kernel_rfl) (by exact fun _ _ _ h => h) (Or.inl ⟨by rfl, ?_⟩) (by assumption) ?_
 rotate_left
 ·intro w hSw; obtain ⟨hBW, ⟨p0, p1, p2, p3, p4⟩, ⟨x0, x1⟩, ⟨y0, y1⟩, ⟨z0, z1⟩, a0, a1⟩ := HD.out _ hSw; go_simp; first | with_reducible rfl | (rw [if_neg (by first | omega | (simp only [ByteArray.size_append]; omega))])
 try simp only [Act.put, List.setIfInBounds_toArray, List.set_cons_zero, List.set_cons_succ]
 refine wpAnyH_take (i := 12) (oi := _) (v := ?_) (by simp only [List.getElem?_toArray, List.getElem?_cons_succ, List.getElem?_cons_zero]; rfl) (by kernel_rfl) (by kernel_rfl) (by kernel_rfl) (by exact fun _ _ _ h => h) (Or.inl ⟨by rfl, ?_⟩) (by assumption) ?_
 rotate_left
 ·intro w hSw; obtain ⟨hBW, ⟨p0, p1, p2, p3, p4⟩, ⟨x0, x1⟩, ⟨y0, y1⟩, ⟨z0, z1⟩, a0, a1⟩ := HD.out _ hSw; go_simp; first | with_reducible rfl | (rw [if_neg (by first | omega | (simp only [ByteArray.size_append]; omega))])
 try simp only [Act.put, List.setIfInBounds_toArray, List.set_cons_zero, List.set_cons_succ]
 refine wpAnyH_take (i := 15) (oi := _) (v := ?_) (by simp only [List.getElem?_toArray, List.getElem?_cons_succ, List.getElem?_cons_zero]; rfl) (by kernel_rfl) (by kernel_rfl) (by kernel_rfl) (by exact fun _ _ _ h => h) (Or.inl ⟨by rfl, ?_⟩) (by assumption) ?_
 rotate_left
 ·intro w hSw; obtain ⟨hBW, ⟨p0, p1, p2, p3, p4⟩, ⟨x0, x1⟩, ⟨y0, y1⟩, ⟨z0, z1⟩, a0, a1⟩ := HD.out _ hSw; go_simp; first | with_reducible rfl | (rw [if_neg (by first | omega | (simp only [ByteArray.size_append]; omega))])
 try simp only [Act.put, List.setIfInBounds_toArray, List.set_cons_zero, List.set_cons_succ]
 refine wpAnyH_take (i := 18) (oi := _) (v := ?_) (by simp only [List.getElem?_toArray, List.getElem?_cons_succ, List.getElem?_cons_zero]; rfl) (by kernel_rfl) (by kernel_rfl) (by kernel_rfl) (by exact fun _ _ _ h => h) (Or.inl ⟨by rfl, ?_⟩) (by assumption) ?_
 rotate_left
 ·intro w hSw; obtain ⟨hBW, ⟨p0, p1, p2, p3, p4⟩, ⟨x0, x1⟩, ⟨y0, y1⟩, ⟨z0, z1⟩, a0, a1⟩ := HD.out _ hSw; go_simp; first | with_reducible rfl | (rw [if_neg (by first | omega | (simp only [ByteArray.size_append]; omega))])
 try simp only [Act.put, List.setIfInBounds_toArray, List.set_cons_zero, List.set_cons_succ]
 refine wpAnyH_ready (rs := [13]) (by kernel_rfl) (by simp) ?_
 refine AllReadyH.cons (o := _) (by simp only [List.getElem?_toArray, List.getElem?_cons_succ, List.getElem?_cons_zero]; rfl) (fun K hK => ?_) ?_
 ·go_simp
  refine hK.out _ _ ?_ (fun hHeld => ?_)
  ·try dsimp only
   exact hHeld.alloc hHeld.size _
  clear hK K
  try simp only [Act.put, List.setIfInBounds_toArray, List.set_cons_zero, List.set_cons_succ]
  have HB3 := Lib.hid hHeld
  refine wpAnyH_ready (rs := [14]) (by kernel_rfl) (by simp) ?_
  refine AllReadyH.cons (o := _) (by simp only [List.getElem?_toArray, List.getElem?_cons_succ, List.getElem?_cons_zero]; rfl) (fun K hK => ?_) ?_
  ·go_simp; refine (CT.out _ _ x y (HD.out _ HB3.out).1 (valsLit (xs := [(true, x), (true, y)]) (alloc_at _ _) (by show 2 ≤ maxLen; decide)) (by omega)).mono ?_; rintro e w4 ⟨rfl, hb4⟩; have HB4 := Lib.hid (HB3.out.trans (hb4.mono HB3.out.size)); clear hb4; dsimp only
   refine hK.out _ _ ?_ (fun hHeld => ?_)
   ·try dsimp only
    exact HB4.out
   clear hK K
   try simp only [Act.put, List.setIfInBounds_toArray, List.set_cons_zero, List.set_cons_succ]
   refine wpAnyH_ready (rs := [16]) (by kernel_rfl) (by simp) ?_
   refine AllReadyH.cons (o := _) (by simp only [List.getElem?_toArray, List.getElem?_cons_succ, List.getElem?_cons_zero]; rfl) (fun K hK => ?_) ?_
   ·go_simp
    refine hK.out _ _ ?_ (fun hHeld => ?_)
    ·try dsimp only
     exact HB4.out.alloc HB4.out.size _
    clear hK K
    try simp only [Act.put, List.setIfInBounds_toArray, List.set_cons_zero, List.set_cons_succ]
    have HB5 := Lib.hid hHeld
    refine wpAnyH_ready (rs := [17]) (by kernel_rfl) (by simp) ?_
    refine AllReadyH.cons (o := _) (by simp only [List.getElem?_toArray, List.getElem?_cons_succ, List.getElem?_cons_zero]; rfl) (fun K hK => ?_) ?_
    ·go_simp; refine (CT.out _ _ (x ++ y) z (HD.out _ HB5.out).1 (valsLit (xs := [(true, x ++ y), (true, z)]) (alloc_at _ _) (by show 2 ≤ maxLen; decide)) (by rw [ByteArray.size_append]; omega)).mono ?_; rintro e w6 ⟨rfl, hb6⟩; have HB6 := Lib.hid (HB5.out.trans (hb6.mono HB5.out.size)); clear hb6; dsimp only
     refine hK.out _ _ ?_ (fun hHeld => ?_)
     ·try dsimp only
      exact HB6.out
     clear hK K
     try simp only [Act.put, List.setIfInBounds_toArray, List.set_cons_zero, List.set_cons_succ]
     refine wpAnyH_take (i := 19) (oi := _) (v := ?_) (by simp only [List.getElem?_toArray, List.getElem?_cons_succ, List.getElem?_cons_zero]; rfl) (by kernel_rfl) (by kernel_rfl) (by kernel_rfl) (by exact fun _ _ _ h => h) (Or.inl ⟨by rfl, ?_⟩) (by assumption) ?_
     rotate_left
     ·intro w hSw; go_simp; try with_reducible rfl
     try simp only [Act.put, List.setIfInBounds_toArray, List.set_cons_zero, List.set_cons_succ]
     refine wpAnyH_take (i := 20) (oi := _) (v := ?_) (by simp only [List.getElem?_toArray, List.getElem?_cons_succ, List.getElem?_cons_zero]; rfl) (by kernel_rfl) (by kernel_rfl) (by kernel_rfl) (by exact fun _ _ _ h => h) (Or.inl ⟨by rfl, ?_⟩) (by assumption) ?_
     rotate_left
     ·intro w hSw; obtain ⟨hBW, ⟨p0, p1, p2, p3, p4⟩, ⟨x0, x1⟩, ⟨y0, y1⟩, ⟨z0, z1⟩, a0, a1⟩ := HD.out _ hSw; go_simp; first | with_reducible rfl | (rw [if_neg (by first | omega | (simp only [ByteArray.size_append]; omega))])
     try simp only [Act.put, List.setIfInBounds_toArray, List.set_cons_zero, List.set_cons_succ]
     refine wpAnyH_take (i := 21) (oi := _) (v := ?_) (by simp only [List.getElem?_toArray, List.getElem?_cons_succ, List.getElem?_cons_zero]; rfl) (by kernel_rfl) (by kernel_rfl) (by kernel_rfl) (by exact fun _ _ _ h => h) (Or.inl ⟨by rfl, ?_⟩) (by assumption) ?_
     rotate_left
     ·intro w hSw; obtain ⟨hBW, ⟨p0, p1, p2, p3, p4⟩, ⟨x0, x1⟩, ⟨y0, y1⟩, ⟨z0, z1⟩, a0, a1⟩ := HD.out _ hSw; go_simp; first | with_reducible rfl | (rw [if_neg (by first | omega | (simp only [ByteArray.size_append]; omega))])
     try simp only [Act.put, List.setIfInBounds_toArray, List.set_cons_zero, List.set_cons_succ]
     refine wpAnyH_take (i := 22) (oi := _) (v := ?_) (by simp only [List.getElem?_toArray, List.getElem?_cons_succ, List.getElem?_cons_zero]; rfl) (by kernel_rfl) (by kernel_rfl) (by kernel_rfl) (by exact fun _ _ _ h => h) (Or.inl ⟨by rfl, ?_⟩) (by assumption) ?_
     rotate_left
     ·intro w hSw; obtain ⟨hBW, ⟨p0, p1, p2, p3, p4⟩, ⟨x0, x1⟩, ⟨y0, y1⟩, ⟨z0, z1⟩, a0, a1⟩ := HD.out _ hSw; go_simp; first | with_reducible rfl | (rw [if_neg (by first | omega | (simp only [ByteArray.size_append]; omega))])
     try simp only [Act.put, List.setIfInBounds_toArray, List.set_cons_zero, List.set_cons_succ]
     refine wpAnyH_take (i := 24) (oi := _) (v := ?_) (by simp only [List.getElem?_toArray, List.getElem?_cons_succ, List.getElem?_cons_zero]; rfl) (by kernel_rfl) (by kernel_rfl) (by kernel_rfl) (by exact fun _ _ _ h => h) (Or.inl ⟨by rfl, ?_⟩) (by assumption) ?_
     rotate_left
     ·intro w hSw; obtain ⟨hBW, ⟨p0, p1, p2, p3, p4⟩, ⟨x0, x1⟩, ⟨y0, y1⟩, ⟨z0, z1⟩, a0, a1⟩ := HD.out _ hSw; go_simp; first | with_reducible rfl | (rw [if_neg (by first | omega | (simp only [ByteArray.size_append]; omega))])
     try simp only [Act.put, List.setIfInBounds_toArray, List.set_cons_zero, List.set_cons_succ]
     refine wpAnyH_ready (rs := [23]) (by kernel_rfl) (by simp) ?_
     refine AllReadyH.cons (o := _) (by simp only [List.getElem?_toArray, List.getElem?_cons_succ, List.getElem?_cons_zero]; rfl) (fun K hK => ?_) ?_
     ·go_simp; refine (CN.out _ (HD.out _ HB6.out).1).mono ?_; rintro e w7 ⟨rfl, hb7⟩; have HB7 := Lib.hid (HB6.out.trans (hb7.mono HB6.out.size)); clear hb7; dsimp only
      refine hK.out _ _ ?_ (fun hHeld => ?_)
      ·try dsimp only
       exact HB7.out
      clear hK K
      try simp only [Act.put, List.setIfInBounds_toArray, List.set_cons_zero, List.set_cons_succ]
      refine wpAnyH_take (i := 25) (oi := _) (v := ?_) (by simp only [List.getElem?_toArray, List.getElem?_cons_succ, List.getElem?_cons_zero]; rfl) (by kernel_rfl) (by kernel_rfl) (by kernel_rfl) (by exact fun _ _ _ h => h) (Or.inl ⟨by rfl, ?_⟩) (by assumption) ?_
      rotate_left
      ·intro w hSw; go_simp; try with_reducible rfl
      try simp only [Act.put, List.setIfInBounds_toArray, List.set_cons_zero, List.set_cons_succ]
      refine wpAnyH_take (i := 26) (oi := _) (v := ?_) (by simp only [List.getElem?_toArray, List.getElem?_cons_succ, List.getElem?_cons_zero]; rfl) (by kernel_rfl) (by kernel_rfl) (by kernel_rfl) (by exact fun _ _ _ h => h) (Or.inl ⟨by rfl, ?_⟩) (by assumption) ?_
      rotate_left
      ·intro w hSw; obtain ⟨hBW, ⟨p0, p1, p2, p3, p4⟩, ⟨x0, x1⟩, ⟨y0, y1⟩, ⟨z0, z1⟩, a0, a1⟩ := HD.out _ hSw; go_simp; first | with_reducible rfl | (rw [if_neg (by first | omega | (simp only [ByteArray.size_append]; omega))])
      try simp only [Act.put, List.setIfInBounds_toArray, List.set_cons_zero, List.set_cons_succ]
      refine wpAnyH_ready (rs := [27]) (by kernel_rfl) (by simp) ?_
      refine AllReadyH.cons (o := _) (by simp only [List.getElem?_toArray, List.getElem?_cons_succ, List.getElem?_cons_zero]; rfl) (fun K hK => ?_) ?_
      ·go_simp
       refine hK.out _ _ ?_ (fun hHeld => ?_)
       ·try dsimp only
        exact HB7.out
       clear hK K
       try simp only [Act.put, List.setIfInBounds_toArray, List.set_cons_zero, List.set_cons_succ]
       refine wpAnyH_done (by kernel_rfl) ?_ _
       go_wp2
       go_ret
       exact ⟨rfl, HUP.out _ HB7.out⟩
      exact AllReadyH.nil
     exact AllReadyH.nil
    exact AllReadyH.nil
   exact AllReadyH.nil
  exact AllReadyH.nil
 exact AllReadyH.nil
end Go.Proofs.YtdhmeganlnpohaaGreatDoor.lawStepConcat
