/- The reference's check of rules: tables of who needs whom; Needs. The reference's check of rules: Closed. The reference's check of rules: Cycle: it ends, and tells names. The reference's check of rules: All. -/
import Derived.Deep.CutBlock
import Derived.Deep.DeepCutAuto
import Derived.Laws.MakeOwn
import Derived.Test.YtlmnabhhgplhnaaGreatDoorMcka
import Derived.Test.YtlmnabhhgplhnaaGreatDoorMprq
import Derived.Deep.RegionLaw
import Derived.Test.YtlmnabhhgplhnaaGreatDoorMrs
namespace Go.Proofs.YtlmnabhhgplhnaaGreatDoor
open Go.RowKit Go.Shelf

/-! ### Tables of truth values in memory -/
def BoolRow (w : World) (b n : Nat) : Prop := ∃ cur : Array Value, w.heap[b]? = some (.cells cur 4 (0, 0)) ∧ n ≤ cur.size ∧ ∀ k < n, ∃ x, cur[k]? = some (.bool x)
def Mat (B : Nat) (w : World) (g n i : Nat) : Prop := B ≤ g ∧ ∃ cur : Array Value, w.heap[g]? = some (.cells cur 92 (0, 0)) ∧ cur.size = n ∧ ∀ j < i, ∃ b c, cur[j]? = some (.slice (some ⟨b, 0, none⟩) n c) ∧ n ≤ c ∧ c ≤ maxLen ∧ B ≤ b ∧ BoolRow w b n
theorem BoolRow.lt {w : World} {b n : Nat} (h : BoolRow w b n) : b < w.heap.size := by
 obtain ⟨cur, h1, _⟩ := h
 exact block_lt' h1
theorem BoolRow.keep {w w' : World} {b n : Nat} (h : BoolRow w b n) (hk : w'.heap[b]? = w.heap[b]?) : BoolRow w' b n := by
 obtain ⟨cur, h1, h2⟩ := h
 exact ⟨cur, hk.trans h1, h2⟩
theorem BoolRow.set {w : World} {b n k : Nat} {x : Bool} (h : BoolRow w b n) : BoolRow (w.setCell ⟨b, k, none⟩ (.bool x)) b n := by
 obtain ⟨cur, h1, h2, h3⟩ := h
 refine ⟨_, heap_set k (.bool x) h1, by simpa using h2, fun j hj => ?_⟩
 obtain ⟨y, hy⟩ := h3 j hj
 rw [Array.getElem?_setIfInBounds]
 split
 ·rename_i e
  subst e
  rw [if_pos (by omega)]
  exact ⟨x, rfl⟩
 ·exact ⟨y, hy⟩
theorem BoolRow.setAny {w : World} {b b' n k : Nat} {x : Bool} (h : BoolRow w b n) : BoolRow (w.setCell ⟨b', k, none⟩ (.bool x)) b n := by
 by_cases e : b = b'
 ·subst e; exact h.set
 ·exact h.keep (Below.heap_setCell _ _ _ _ e)
theorem BoolRow.cell {w : World} {b n k : Nat} (h : BoolRow w b n) (hk : k < n) : ∃ x, w.cell? ⟨b, k, none⟩ = some (.bool x) ∧ w.frozen? ⟨b, k, none⟩ = false := by
 obtain ⟨cur, h1, h2, h3⟩ := h
 obtain ⟨x, hx⟩ := h3 k hk
 exact ⟨x, by simp [World.cell?, h1, hx], by simp [World.frozen?, h1]⟩
theorem Mat.lt {B : Nat} {w : World} {g n i : Nat} (h : Mat B w g n i) : g < w.heap.size := by
 obtain ⟨_, cur, h1, _⟩ := h
 exact block_lt' h1
theorem Mat.keep {B : Nat} {w w' : World} {g n i : Nat} (h : Mat B w g n i) (hk : ∀ k, k < w.heap.size → w'.heap[k]? = w.heap[k]?) : Mat B w' g n i := by
 have hg := h.lt
 obtain ⟨h0, cur, h1, h2, h3⟩ := h
 refine ⟨h0, cur, (hk g hg).trans h1, h2, fun j hj => ?_⟩
 obtain ⟨b, c, e, e1, e2, e3, e4⟩ := h3 j hj
 exact ⟨b, c, e, e1, e2, e3, e4.keep (hk b e4.lt)⟩
theorem Mat.below {B : Nat} {w w' : World} {g n i : Nat} (h : Mat B w g n i) (hb : Below w.heap.size w w') : Mat B w' g n i := h.keep fun k hk => hb.block k hk
theorem Mat.ne {B : Nat} {w : World} {g n i b m : Nat} (h : Mat B w g n i) (hb : BoolRow w b m) : g ≠ b := by
 rintro rfl
 obtain ⟨_, cur, h1, _⟩ := h
 obtain ⟨cur', h2, _⟩ := hb
 rw [h1] at h2
 injection h2 with h2
 injection h2 with _ h2 _
 exact absurd h2 (by decide)
theorem Mat.setBool {B : Nat} {w : World} {g n i b m k : Nat} {x : Bool} (h : Mat B w g n i) (hb : BoolRow w b m) : Mat B (w.setCell ⟨b, k, none⟩ (.bool x)) g n i := by
 have hne := h.ne hb
 obtain ⟨h0, cur, h1, h2, h3⟩ := h
 refine ⟨h0, cur, (Below.heap_setCell _ _ _ _ hne).trans h1, h2, fun j hj => ?_⟩
 obtain ⟨b, c, e, e1, e2, e3, e4⟩ := h3 j hj
 exact ⟨b, c, e, e1, e2, e3, e4.setAny⟩
theorem Mat.setRow {B : Nat} {w : World} {g n i b c : Nat} (h : Mat B w g n i) (hb : BoolRow w b n) (hB : B ≤ b) (hc : n ≤ c) (hm : c ≤ maxLen) (hi : i < n) : Mat B (w.setCell ⟨g, i, none⟩ (.slice (some ⟨b, 0, none⟩) n c)) g n (i + 1) := by
 have hgb : ∀ b' m, BoolRow w b' m → b' ≠ g := fun b' m h' => (h.ne h').symm
 obtain ⟨h0, cur, h1, h2, h3⟩ := h
 refine ⟨h0, _, heap_set i _ h1, by simpa using h2, fun j hj => ?_⟩
 rw [Array.getElem?_setIfInBounds]
 split
 ·rename_i e
  subst e
  rw [if_pos (by omega)]
  exact ⟨b, c, rfl, hc, hm, hB, hb.keep (Below.heap_setCell _ _ _ _ (hgb _ _ hb))⟩
 ·rename_i e
  obtain ⟨b', c', e0, e1, e2, e3, e4⟩ := h3 j (by omega)
  exact ⟨b', c', e0, e1, e2, e3, e4.keep (Below.heap_setCell _ _ _ _ (hgb _ _ e4))⟩
theorem Mat.cell {B : Nat} {w : World} {g n i j : Nat} (h : Mat B w g n i) (hj : j < i) : ∃ b c, w.cell? ⟨g, j, none⟩ = some (.slice (some ⟨b, 0, none⟩) n c) ∧ n ≤ c ∧ c ≤ maxLen ∧ B ≤ b ∧ BoolRow w b n := by
 obtain ⟨h0, cur, h1, h2, h3⟩ := h
 obtain ⟨b, c, e, e1⟩ := h3 j hj
 exact ⟨b, c, by simp [World.cell?, h1, e], e1⟩
theorem Mat.slot {B : Nat} {w : World} {g n i j : Nat} (h : Mat B w g n i) (hj : j < n) : ∃ u, w.cell? ⟨g, j, none⟩ = some u ∧ w.frozen? ⟨g, j, none⟩ = false := by
 obtain ⟨h0, cur, h1, h2, h3⟩ := h
 exact ⟨cur[j]'(by omega), by simp [World.cell?, h1, h2, hj], by simp [World.frozen?, h1]⟩
theorem Mat.begin {B : Nat} {w : World} {cur : Array Value} {n : Nat} (hB : B ≤ w.heap.size) (hc : cur.size = n) : Mat B (w.alloc (.cells cur 92)) w.heap.size n 0 := ⟨hB, cur, alloc_at w _, hc, fun j hj => absurd hj (by omega)⟩
theorem boolRow_new {w : World} {n : Nat} : BoolRow (w.alloc (.cells (madeCells #[.bool false] n) 4)) w.heap.size n := by
 refine ⟨_, alloc_at w _, by rw [size_madeCells]; exact Nat.le_refl _, fun k hk => ?_⟩
 refine ⟨false, ?_⟩
 have h1 : k % 1 = 0 := Nat.mod_one k
 simp [madeCells, hk, h1]
theorem info_bool : (Tryz.prog.info? 4).map (fun i => (i.zero, i.size, i.bytes)) = some (some (.bool false), 1, 1) := by kernel_rfl
theorem info_bools : (Tryz.prog.info? 92).map (fun i => (i.zero, i.size, i.bytes)) = some (some (.slice none 0 0), 1, 24) := by kernel_rfl
theorem make_bools (n : Nat) (hn : n ≤ 1000) (w : World) : (Instr.makeSlice 92 (.int .i64 (n : Int)) (.int .i64 (n : Int))).run Tryz.prog w = .ok (.slice (some ⟨w.heap.size, 0, none⟩) n n) (w.alloc (.cells (madeCells #[.bool false] n) 4)) := by
 obtain ⟨i0, hi, hz, hs, hb⟩ := info_of info_bool
 have := run_make (P := Tryz.prog) w 92 4 i0 (.bool false) Tryz.underlying92 hi hz .i64 .i64 n n (by omega) (Int.le_refl _) (by rw [hb]; omega) (by omega)
 rw [hs, show (Value.bool false).cells = #[.bool false] from rfl] at this
 simpa using this
theorem make_rows (n : Nat) (hn : n ≤ 1000) (w : World) : (Instr.makeSlice 89 (.int .i64 (n : Int)) (.int .i64 (n : Int))).run Tryz.prog w = .ok (.slice (some ⟨w.heap.size, 0, none⟩) n n) (w.alloc (.cells (madeCells #[.slice none 0 0] n) 92)) := by
 obtain ⟨i0, hi, hz, hs, hb⟩ := info_of info_bools
 have := run_make (P := Tryz.prog) w 89 92 i0 (.slice none 0 0) Tryz.underlying89 hi hz .i64 .i64 n n (by omega) (Int.le_refl _) (by rw [hb]; omega) (by omega)
 rw [hs, show (Value.slice none 0 0).cells = #[.slice none 0 0] from rfl] at this
 simpa using this

set_option maxHeartbeats 8000000 in
set_option maxRecDepth 100000 in
theorem cNeeds_any (v : Value) (xs : List RuleS) (w : World) (h : RulesI w v xs) (hn : xs.length ≤ 1000) :
  Calls Tryz.prog 54 #[v, .bool false] w fun e w' => (∃ g, e = .returned (.slice (some ⟨g, 0, none⟩) xs.length xs.length) ∧ Mat w.heap.size w' g xs.length xs.length) ∧ Below w.heap.size w w' := by
 have HI := Lib.hid h
 obtain ⟨a1, c1, rfl, _, hm1, hc1⟩ := rules_cells h
 have hmk1 := make_rows xs.length hn
 have hmk2 := make_bools xs.length hn
 have HRU : Hid (∀ (k : Nat) x, xs[k]? = some x → ∃ b o a1' c1' a3 c3, a1 = some ⟨b, o, none⟩ ∧ (∀ w', Below w.heap.size w w' → w'.cell? ⟨b, o + k * 5 + 1, none⟩ = some (.slice a1' x.ins.length c1') ∧ w'.cell? ⟨b, o + k * 5 + 3, none⟩ = some (.slice a3 x.after.length c3)) ∧
   x.ins.length ≤ maxLen ∧ x.after.length ≤ maxLen ∧ (∀ (j : Nat) s, x.ins[j]? = some s → ∃ b' o', a1' = some ⟨b', o', none⟩ ∧ ∀ w', Below w.heap.size w w' → w'.cell? ⟨b', o' + j, none⟩ = some (.string s)) ∧ (∀ (j : Nat) s, x.after[j]? = some s → ∃ b' o', a3 = some ⟨b', o', none⟩ ∧ ∀ w', Below w.heap.size w w' → w'.cell? ⟨b', o' + j, none⟩ = some (.string s))) := by
  show ∀ (k : Nat) x, _
  intro k x hx
  obtain ⟨b, o, p1, q1, p2, q2, p3, q3, p4, q4, ha, hr, hc⟩ := hc1 k x hx
  obtain ⟨vi, vo, vf, vs, q, h1, h2, h3, h4⟩ := hr
  simp only [List.cons.injEq, and_true] at q
  obtain ⟨_, rfl, rfl, rfl, rfl⟩ := q
  obtain ⟨_, _, e1, l1, m1, s1⟩ := isStrs_cells h1
  obtain ⟨_, _, e3, l3, m3, s3⟩ := isStrs_cells h3
  injection e1 with e1 _ e1'
  injection e3 with e3 _ e3'
  subst e1 e1' e3 e3'
  exact ⟨b, o, p1, q1, p3, q3, ha, fun w' hw => by obtain ⟨_, y1, _, y3, _⟩ := hc w' hw; exact ⟨y1, y3⟩, by omega, by omega, s1, s3⟩
 have CMK : Hid (∀ s w', Below w.heap.size w w' → Calls Tryz.prog 26 #[.slice a1 xs.length c1, .string s] w' fun e w'' => MakerE xs s e ∧ w' = w'') := by show ∀ s w', _; exact fun s w' hw => cMaker_any _ _ s w' (HI.out.below hw)
 have CAT : Hid (∀ s w', Below w.heap.size w w' → Calls Tryz.prog 25 #[.slice a1 xs.length c1, .string s] w' fun e w'' => FindE (xs.map (·.name)) s e ∧ w' = w'') := by show ∀ s w', _; exact fun s w' hw => cAt_any _ _ s w' (HI.out.below hw)
 have HM0 : Hid (∀ cur : Array Value, cur.size = xs.length → Mat w.heap.size (w.alloc (.cells cur 92)) w.heap.size xs.length 0) := by show ∀ cur : Array Value, _; exact fun cur hc => Mat.begin (Nat.le_refl _) hc
 have HB0 : Hid (∀ o, Below w.heap.size w (w.alloc o)) := by show ∀ o, _; exact fun o => (Below.refl _ _).alloc (Nat.le_refl _) o
 unfold maxLen at hm1
 clear h hc1
 go_enter Tryz.func54, Tryz.ntmps54
 go_wp2_with fail
 go_loopw [6] (fun iv wr => ∃ i : Nat, i ≤ xs.length ∧ iv = .int .i64 (i : Int) ∧ Mat w.heap.size wr w.heap.size xs.length i ∧ Below w.heap.size w wr) (fun iv _ => xs.length - (intOf iv).toNat)
 case atStart => exact ⟨0, Nat.zero_le _, rfl, HM0.out _ (size_madeCells _ _), HB0.out _⟩
 case round =>
  obtain ⟨i, hi, rfl, hmat, hbr⟩ := hrel
  obtain ⟨WR, hWR⟩ : ∃ V, wr = V := ⟨_, rfl⟩
  rw [hWR] at hmat hbr ⊢
  clear hWR
  have HMAT := Lib.hid hmat
  have HBR := Lib.hid hbr
  by_cases hlt : i < xs.length
  ·obtain ⟨x, hx⟩ : ∃ x, xs[i]? = some x := ⟨xs[i], List.getElem?_eq_getElem hlt⟩
   obtain ⟨b, o, p1, q1, p3, q3, hab, hc, hl1, hl3, s1, s3⟩ := HRU.out i x hx
   have HC := Lib.hid hc
   have HS1 := Lib.hid s1
   have HS3 := Lib.hid s3
   have hi1 : (i : Int) < (xs.length : Int) := by omega
   have hi0 : (0 : Int) ≤ (i : Int) := by omega
   -- the new row
   obtain ⟨u0, hu0, hf0⟩ := (hmat.below ((Below.refl _ _).alloc (Nat.le_refl _) (.cells (madeCells #[.bool false] xs.length) 4))).slot hlt
   subst hab
   unfold maxLen at hl1 hl3
   clear hmat hbr hx hc s1 s3
   go_upto_region 6 with fail
   obtain ⟨W3, hW3⟩ : ∃ V, (WR.alloc (.cells (madeCells #[.bool false] xs.length) 4)).setCell ⟨w.heap.size, i, none⟩ (.slice (some ⟨WR.heap.size, 0, none⟩) xs.length xs.length) = V := ⟨_, rfl⟩
   have hm3 : Mat w.heap.size W3 w.heap.size xs.length (i + 1) := by
    rw [← hW3]
    exact (HMAT.out.below ((Below.refl _ _).alloc (Nat.le_refl _) _)).setRow boolRow_new HBR.out.size (Nat.le_refl _) (by unfold maxLen; omega) hlt
   have hb3 : Below w.heap.size w W3 := by
    rw [← hW3]
    exact (HBR.out.alloc HBR.out.size _).setCell (Nat.le_refl _) _
   rw [hW3]
   have HM3 := Lib.hid hm3
   have HB3 := Lib.hid hb3
   obtain ⟨y1, _⟩ := HC.out _ hb3
   clear hW3 hm3 hb3 hu0 hf0
   go_wp2_with fail
   go_loopw [34] (fun jv wr => ∃ j : Nat, j ≤ x.ins.length ∧ jv = .int .i64 (j : Int) ∧ Mat w.heap.size wr w.heap.size xs.length (i + 1) ∧ Below w.heap.size w wr) (fun jv _ => x.ins.length - (intOf jv).toNat)
   case atStart => exact ⟨0, Nat.zero_le _, rfl, HM3.out, HB3.out⟩
   case round =>
    obtain ⟨j, hj, rfl, hmj, hbj⟩ := hrel
    obtain ⟨WJ, hWJ⟩ : ∃ V, wr = V := ⟨_, rfl⟩
    rw [hWJ] at hmj hbj ⊢
    clear hWJ
    have HMJ := Lib.hid hmj
    have HBJ := Lib.hid hbj
    by_cases hjl : j < x.ins.length
    ·obtain ⟨s, hs⟩ : ∃ s, x.ins[j]? = some s := ⟨x.ins[j], List.getElem?_eq_getElem hjl⟩
     obtain ⟨sb, so, hsb, hsc⟩ := HS1.out j s hs
     have z0 := hsc _ hbj
     subst hsb
     have hj1 : (j : Int) < (x.ins.length : Int) := by omega
     have hj0 : (0 : Int) ≤ (j : Int) := by omega
     have CM := Lib.hid (CMK.out s WJ hbj)
     clear hsc hs hmj hbj
     go_wp2_with fail
     refine CM.out.mono ?_
     rintro e w7 ⟨⟨r, rfl, hr, hr0, hr1⟩, rfl⟩
     clear hr
     by_cases hneg : 0 ≤ r
     ·obtain ⟨k, rfl⟩ : ∃ k : Nat, r = (k : Int) := ⟨r.toNat, by omega⟩
      obtain ⟨rb, rc, hrc, hrl, hrm, hrB, hrow⟩ := HMJ.out.cell (Nat.lt_succ_self i)
      obtain ⟨x0, hx0, hfx⟩ := hrow.cell (show k < xs.length by omega)
      have HROW := Lib.hid hrow
      have HRB := Lib.hid hrB
      unfold maxLen at hrm
      clear hrow hrB
      go_wp2
      go_roundw
      case rel => exact ⟨j + 1, by omega, by go_num, HMJ.out.setBool HROW.out, HBJ.out.setCell HRB.out _⟩
      case measure => simp [intOf]; omega
     ·go_wp2
      go_roundw
      case rel => exact ⟨j + 1, by omega, by go_num, HMJ.out, HBJ.out⟩
      case measure => simp [intOf]; omega
    ·have hj1 : ¬ (j : Int) < (x.ins.length : Int) := by omega
     have HM5 := Lib.hid hmj
     have HB5 := Lib.hid hbj
     obtain ⟨_, y3⟩ := HC.out _ hbj
     clear hmj hbj
     go_wp2_with fail
     go_loopw [56] (fun jv wr => ∃ j : Nat, j ≤ x.after.length ∧ jv = .int .i64 (j : Int) ∧ Mat w.heap.size wr w.heap.size xs.length (i + 1) ∧ Below w.heap.size w wr) (fun jv _ => x.after.length - (intOf jv).toNat)
     case atStart => exact ⟨0, Nat.zero_le _, rfl, HM5.out, HB5.out⟩
     case round =>
      obtain ⟨j, hj, rfl, hmj, hbj⟩ := hrel
      obtain ⟨WJ, hWJ⟩ : ∃ V, wr = V := ⟨_, rfl⟩
      rw [hWJ] at hmj hbj ⊢
      clear hWJ
      have HMJ := Lib.hid hmj
      have HBJ := Lib.hid hbj
      by_cases hjl : j < x.after.length
      ·obtain ⟨s, hs⟩ : ∃ s, x.after[j]? = some s := ⟨x.after[j], List.getElem?_eq_getElem hjl⟩
       obtain ⟨sb, so, hsb, hsc⟩ := HS3.out j s hs
       have z0 := hsc _ hbj
       subst hsb
       have hj1 : (j : Int) < (x.after.length : Int) := by omega
       have hj0 : (0 : Int) ≤ (j : Int) := by omega
       have CM := Lib.hid (CAT.out s WJ hbj)
       clear hsc hs hmj hbj
       go_wp2_with fail
       refine CM.out.mono ?_
       rintro e w7 ⟨⟨r, rfl, hr, hr0, hr1⟩, rfl⟩
       rw [List.length_map] at hr1
       clear hr
       by_cases hneg : 0 ≤ r
       ·obtain ⟨k, rfl⟩ : ∃ k : Nat, r = (k : Int) := ⟨r.toNat, by omega⟩
        obtain ⟨rb, rc, hrc, hrl, hrm, hrB, hrow⟩ := HMJ.out.cell (Nat.lt_succ_self i)
        obtain ⟨x0, hx0, hfx⟩ := hrow.cell (show k < xs.length by omega)
        have HROW := Lib.hid hrow
        have HRB := Lib.hid hrB
        unfold maxLen at hrm
        clear hrow hrB
        go_wp2
        go_roundw
        case rel => exact ⟨j + 1, by omega, by go_num, HMJ.out.setBool HROW.out, HBJ.out.setCell HRB.out _⟩
        case measure => simp [intOf]; omega
       ·go_wp2
        go_roundw
        case rel => exact ⟨j + 1, by omega, by go_num, HMJ.out, HBJ.out⟩
        case measure => simp [intOf]; omega
      ·have hj1 : ¬ (j : Int) < (x.after.length : Int) := by omega
       clear hmj hbj
       go_wp2
       go_roundw
       case rel => exact ⟨i + 1, by omega, by go_num, HMJ.out, HBJ.out⟩
       case measure => simp [intOf]; omega
  ·obtain rfl : i = xs.length := by omega
   have hi1 : ¬ (xs.length : Int) < (xs.length : Int) := by omega
   clear hmat hbr
   go_wp2
   go_ret
   exact ⟨⟨_, rfl, HMAT.out⟩, HBR.out⟩
end Go.Proofs.YtlmnabhhgplhnaaGreatDoor
namespace Go.Proofs.YtlmnabhhgplhnaaGreatDoor
open Go.RowKit Go.Shelf

set_option maxRecDepth 100000 in
theorem append_bools {w : World} {ty : TypeId} {b n c : Nat} (h : BoolRow w b n) (h0 : 0 < n) (hn : n ≤ 1000) :
  ∃ g2 cap w', (Builtin.append_ #[92, 92] ty #[.slice none 0 0, .slice (some ⟨b, 0, none⟩) n c]).run Tryz.prog w = .ok (.slice (some ⟨g2, 0, none⟩) n cap) w' ∧ BoolRow w' g2 n ∧ n ≤ cap ∧ cap ≤ maxLen ∧ w.heap.size ≤ g2 ∧ w.grownBy w' none := by
 obtain ⟨i0, hi, hz, hs, hb⟩ := info_of info_bool
 obtain ⟨cur, h1, h2, h3⟩ := h
 have hlen : (cur.toList.take n).length = n * 1 := by rw [List.length_take, Array.length_toList]; omega
 obtain ⟨v', w', hr, ho, hg, _⟩ := run_append_own (P := Tryz.prog) w w.heap.size 92 ty 4 i0 (.bool false) 1 1 Tryz.underlying92 hi hz hs hb rfl (by decide) (.slice none 0 0) 0 [] (World.ownsRow_nil w _ _ 1) ⟨b, 0, none⟩ n c (cur.toList.take n) hlen
  (fun j u hj => by
   rw [List.getElem?_take] at hj
   split at hj
   ·rw [Addr.add_lit]
    simp only [Nat.zero_add]
    rw [Array.getElem?_toList] at hj
    simp [World.cell?, h1, hj]
   ·cases hj)
  (fun u hu => by
   obtain ⟨k, hk⟩ := List.getElem?_of_mem hu
   rw [List.getElem?_take] at hk
   split at hk
   ·rename_i hkn
    obtain ⟨x, hx⟩ := h3 k hkn
    rw [Array.getElem?_toList, hx] at hk
    injection hk with hk
    rw [← hk]
    rfl
   ·cases hk)
  (by unfold maxLen; omega) (by omega) (Nat.le_refl _)
 rw [Nat.zero_add] at ho
 rcases ho.2 with ⟨_, hz⟩ | ⟨g2, cap, cur2, rfl, hB, hg2, hnc, hcm, hcs, htk⟩
 ·omega
 ·refine ⟨g2, cap, w', hr, ⟨cur2, hg2, by omega, fun k hk => ?_⟩, hnc, hcm, hB, hg⟩
  obtain ⟨x, hx⟩ := h3 k hk
  refine ⟨x, ?_⟩
  have e := congrArg (fun l : List Value => l[k]?) htk
  simp only [List.nil_append] at e
  rw [List.getElem?_take, if_pos (by omega), List.getElem?_take, if_pos hk, Array.getElem?_toList, Array.getElem?_toList, hx] at e
  exact e

set_option maxHeartbeats 8000000 in
set_option maxRecDepth 100000 in
theorem cClosed_any (g n B : Nat) (w : World) (h : Mat B w g n n) (hn : n ≤ 1000) :
  Calls Tryz.prog 55 #[.slice (some ⟨g, 0, none⟩) n n] w fun e w' => (∃ g', e = .returned (.slice (some ⟨g', 0, none⟩) n n) ∧ Mat w.heap.size w' g' n n) ∧ Below w.heap.size w w' := by
 have HM := Lib.hid h
 have hmk1 := make_rows n hn
 have HM0 : Hid (∀ cur : Array Value, cur.size = n → Mat w.heap.size (w.alloc (.cells cur 92)) w.heap.size n 0) := by show ∀ cur : Array Value, _; exact fun cur hc => Mat.begin (Nat.le_refl _) hc
 have HB0 : Hid (∀ o, Below w.heap.size w (w.alloc o)) := by show ∀ o, _; exact fun o => (Below.refl _ _).alloc (Nat.le_refl _) o
 clear h
 go_enter Tryz.func55, Tryz.ntmps55
 go_wp2_with fail
 go_loopw [5] (fun iv wr => ∃ i : Nat, i ≤ n ∧ iv = .int .i64 (i : Int) ∧ Mat w.heap.size wr w.heap.size n i ∧ Below w.heap.size w wr) (fun iv _ => n - (intOf iv).toNat)
 case atStart => exact ⟨0, Nat.zero_le _, rfl, HM0.out _ (size_madeCells _ _), HB0.out _⟩
 case round =>
  obtain ⟨i, hi, rfl, hmat, hbr⟩ := hrel
  obtain ⟨WR, hWR⟩ : ∃ V, wr = V := ⟨_, rfl⟩
  rw [hWR] at hmat hbr ⊢
  clear hWR
  have HMAT := Lib.hid hmat
  have HBR := Lib.hid hbr
  by_cases hlt : i < n
  ·obtain ⟨b, c, hc0, _, hcm, _, hrow⟩ := (HM.out.below hbr).cell hlt
   obtain ⟨g2, cap, W2, hrun, hrow2, hcap, hcapm, hg2, hgr⟩ := append_bools (ty := 92) (c := c) hrow (by omega) hn
   have hm2 : Mat w.heap.size W2 w.heap.size n i := hmat.keep fun k hk => hgr.block k hk (by simp)
   obtain ⟨u0, hu0, hf0⟩ := hm2.slot hlt
   have HR := Lib.hid hrun
   have HMN : Hid (Mat w.heap.size (W2.setCell ⟨w.heap.size, i, none⟩ (.slice (some ⟨g2, 0, none⟩) n cap)) w.heap.size n (i + 1)) := Lib.hid (hm2.setRow hrow2 (by have := hbr.size; omega) hcap hcapm hlt)
   have HBN : Hid (Below w.heap.size w (W2.setCell ⟨w.heap.size, i, none⟩ (.slice (some ⟨g2, 0, none⟩) n cap))) := Lib.hid ((below_grown0 hbr hgr hbr.size).setCell (Nat.le_refl _) _)
   have hi1 : (i : Int) < (n : Int) := by omega
   have hi0 : (0 : Int) ≤ (i : Int) := by omega
   clear hmat hbr hrow hrun hrow2 hgr hm2
   go_wp2_with (at_builtin; refine wpList_append_known (by rfl) _ _ 92 (by rfl) (by rfl) (by rfl) HR.out ?_)
   go_roundw
   case rel => exact ⟨i + 1, by omega, by go_num, HMN.out, HBN.out⟩
   case measure => simp [intOf]; omega
  ·obtain rfl : i = n := by omega
   have hi1 : ¬ (i : Int) < (i : Int) := by omega
   clear hmat hbr
   go_wp2_with fail
   go_loopw [6] (fun kv wr => ∃ k : Nat, k ≤ i ∧ kv = .int .i64 (k : Int) ∧ Mat w.heap.size wr w.heap.size i i ∧ Below w.heap.size w wr) (fun kv _ => i - (intOf kv).toNat)
   case atStart => exact ⟨0, Nat.zero_le _, rfl, HMAT.out, HBR.out⟩
   case round =>
    obtain ⟨k, hk, rfl, hmk, hbk⟩ := hrel
    have HMK := Lib.hid hmk
    have HBK := Lib.hid hbk
    clear hmk hbk
    by_cases hkl : k < i
    ·have hk1 : (k : Int) < (i : Int) := by omega
     have hk0 : (0 : Int) ≤ (k : Int) := by omega
     go_wp2_with fail
     go_loopw [7] (fun qv wr => ∃ q : Nat, q ≤ i ∧ qv = .int .i64 (q : Int) ∧ Mat w.heap.size wr w.heap.size i i ∧ Below w.heap.size w wr) (fun qv _ => i - (intOf qv).toNat)
     case atStart => exact ⟨0, Nat.zero_le _, rfl, HMK.out, HBK.out⟩
     case round =>
      obtain ⟨q, hq, rfl, hmq, hbq⟩ := hrel
      have HMQ := Lib.hid hmq
      have HBQ := Lib.hid hbq
      clear hmq hbq
      by_cases hql : q < i
      ·have hq1 : (q : Int) < (i : Int) := by omega
       have hq0 : (0 : Int) ≤ (q : Int) := by omega
       go_wp2_with fail
       go_loopw [8] (fun jv wr => ∃ j : Nat, j ≤ i ∧ jv = .int .i64 (j : Int) ∧ Mat w.heap.size wr w.heap.size i i ∧ Below w.heap.size w wr) (fun jv _ => i - (intOf jv).toNat)
       case atStart => exact ⟨0, Nat.zero_le _, rfl, HMQ.out, HBQ.out⟩
       case round =>
        obtain ⟨j, hj, rfl, hmj, hbj⟩ := hrel
        obtain ⟨WJ, hWJ⟩ : ∃ V, wr = V := ⟨_, rfl⟩
        rw [hWJ] at hmj hbj ⊢
        clear hWJ
        have HMJ := Lib.hid hmj
        have HBJ := Lib.hid hbj
        by_cases hjl : j < i
        ·have hj1 : (j : Int) < (i : Int) := by omega
         have hj0 : (0 : Int) ≤ (j : Int) := by omega
         have hd : decide ((j : Int) < (i : Int)) = true := decide_eq_true hj1
         have hd' : decide (j < i) = true := decide_eq_true hjl
         obtain ⟨b1, c1, e1, l1, m1, B1, r1⟩ := hmj.cell hql
         obtain ⟨b2, c2, e2, l2, m2, B2, r2⟩ := hmj.cell hkl
         obtain ⟨x1, z1, f1⟩ := r1.cell hkl
         obtain ⟨x2, z2, f2⟩ := r1.cell hjl
         obtain ⟨x3, z3, f3⟩ := r2.cell hjl
         have HR1 := Lib.hid r1
         have HB1 := Lib.hid B1
         unfold maxLen at m1 m2
         clear hmj hbj r1 r2 B1 B2
         cases x1
         ·go_wp2
          go_roundw
          case rel => exact ⟨q + 1, by omega, by go_num, HMJ.out, HBJ.out⟩
          case measure => simp [intOf]; omega
         ·have HST : Hid (∀ x, Mat w.heap.size (WJ.setCell ⟨b1, j, none⟩ (.bool x)).drew w.heap.size i i ∧ Below w.heap.size w (WJ.setCell ⟨b1, j, none⟩ (.bool x)).drew) := by
           show ∀ x, _
           intro x
           exact ⟨(HMJ.out.setBool HR1.out).below (Below.refl _ _).drew, (HBJ.out.setCell HB1.out _).drew⟩
          cases x2
          all_goals go_wp2_with fail
          all_goals go_region
          all_goals go_wp2
          all_goals go_roundw
          case rel => exact ⟨j + 1, by omega, by go_num, (HST.out _).1, (HST.out _).2⟩
          case measure => simp [intOf]; omega
          case rel => exact ⟨j + 1, by omega, by go_num, (HST.out _).1, (HST.out _).2⟩
          case measure => simp [intOf]; omega
        ·have hj1 : ¬ (j : Int) < (i : Int) := by omega
         have hd : decide ((j : Int) < (i : Int)) = false := decide_eq_false hj1
         have hd' : decide (j < i) = false := decide_eq_false hjl
         clear hmj hbj
         go_wp2
         go_roundw
         case rel => exact ⟨q + 1, by omega, by go_num, HMJ.out, HBJ.out⟩
         case measure => simp [intOf]; omega
      ·have hq1 : ¬ (q : Int) < (i : Int) := by omega
       go_wp2
       go_roundw
       case rel => exact ⟨k + 1, by omega, by go_num, HMQ.out, HBQ.out⟩
       case measure => simp [intOf]; omega
    ·have hk1 : ¬ (k : Int) < (i : Int) := by omega
     go_wp2
     go_ret
     exact ⟨⟨_, rfl, HMK.out⟩, HBK.out⟩
end Go.Proofs.YtlmnabhhgplhnaaGreatDoor
namespace Go.Proofs.YtlmnabhhgplhnaaGreatDoor
open Go.RowKit Go.Shelf

/-- A table that nothing changes any more. -/
def MatF (w : World) (g n : Nat) (rb rc : Nat → Nat) (M : Nat → Nat → Bool) : Prop := ∀ i < n, w.cell? ⟨g, i, none⟩ = some (.slice (some ⟨rb i, 0, none⟩) n (rc i)) ∧ n ≤ rc i ∧ rc i ≤ 9223372036854775807 ∧ ∀ k < n, w.cell? ⟨rb i, k, none⟩ = some (.bool (M i k))
theorem Mat.fix {B : Nat} {w : World} {g n : Nat} (h : Mat B w g n n) : ∃ rb rc M, ∀ w', Below w.heap.size w w' → MatF w' g n rb rc M := by
 have hg := h.lt
 have h1 : ∀ i : Nat, ∃ x : Nat × Nat × (Nat → Bool), i < n → w.cell? ⟨g, i, none⟩ = some (.slice (some ⟨x.1, 0, none⟩) n x.2.1) ∧ n ≤ x.2.1 ∧ x.2.1 ≤ 9223372036854775807 ∧ x.1 < w.heap.size ∧ ∀ k < n, w.cell? ⟨x.1, k, none⟩ = some (.bool (x.2.2 k)) := by
  intro i
  by_cases hi : i < n
  ·obtain ⟨b, c, e, e1, e2, _, hr⟩ := h.cell hi
   have h2 : ∀ k : Nat, ∃ x : Bool, k < n → w.cell? ⟨b, k, none⟩ = some (.bool x) := by
    intro k
    by_cases hk : k < n
    ·obtain ⟨x, hx, _⟩ := hr.cell hk
     exact ⟨x, fun _ => hx⟩
    ·exact ⟨true, fun h => absurd h hk⟩
   obtain ⟨f, hf⟩ := Classical.skolem.1 h2
   exact ⟨(b, c, f), fun _ => ⟨e, e1, by unfold maxLen at e2; omega, hr.lt, fun k hk => hf k hk⟩⟩
  ·exact ⟨(0, 0, fun _ => true), fun h => absurd h hi⟩
 obtain ⟨f, hf⟩ := Classical.skolem.1 h1
 refine ⟨fun i => (f i).1, fun i => (f i).2.1, fun i => (f i).2.2, fun w' hw i hi => ?_⟩
 obtain ⟨e, e1, e2, e3, e4⟩ := hf i hi
 exact ⟨(hw.cell (p := ⟨g, i, none⟩) hg).trans e, e1, e2, fun k hk => (hw.cell (p := ⟨(f i).1, k, none⟩) e3).trans (e4 k hk)⟩
/-- How far each one is. -/
def FarI (w : World) (g n : Nat) (F : Nat → Int) : Prop := ∃ cur : Array Value, w.heap[g]? = some (.cells cur 3 (0, 0)) ∧ cur.size = n ∧ ∀ k < n, cur[k]? = some (.int .i64 (F k))
theorem FarI.lt {w : World} {g n : Nat} {F : Nat → Int} (h : FarI w g n F) : g < w.heap.size := by
 obtain ⟨cur, h1, _⟩ := h
 exact block_lt' h1
theorem FarI.keep {w w' : World} {g n : Nat} {F : Nat → Int} (h : FarI w g n F) (hk : w'.heap[g]? = w.heap[g]?) : FarI w' g n F := by
 obtain ⟨cur, h1, h2⟩ := h
 exact ⟨cur, hk.trans h1, h2⟩
theorem FarI.below {w w' : World} {g n : Nat} {F : Nat → Int} (h : FarI w g n F) (hb : Below w.heap.size w w') : FarI w' g n F := h.keep (hb.block g h.lt)
theorem FarI.set {w : World} {g n k : Nat} {F : Nat → Int} (h : FarI w g n F) (v : Int) : FarI (w.setCell ⟨g, k, none⟩ (.int .i64 v)) g n (fun j => if j = k then v else F j) := by
 obtain ⟨cur, h1, h2, h3⟩ := h
 refine ⟨_, heap_set k _ h1, by simpa using h2, fun j hj => ?_⟩
 rw [Array.getElem?_setIfInBounds]
 by_cases e : j = k
 ·subst e
  rw [if_pos rfl, if_pos (by omega)]
  simp
 ·rw [if_neg (fun h => e h.symm)]
  simp only [if_neg e]
  exact h3 j hj
theorem FarI.cell {w : World} {g n k : Nat} {F : Nat → Int} (h : FarI w g n F) (hk : k < n) : w.cell? ⟨g, k, none⟩ = some (.int .i64 (F k)) ∧ w.frozen? ⟨g, k, none⟩ = false := by
 obtain ⟨cur, h1, h2, h3⟩ := h
 exact ⟨by simp [World.cell?, h1, h3 k hk], by simp [World.frozen?, h1]⟩
theorem farI_new {w : World} {n : Nat} : FarI (w.alloc (.cells (madeCells #[.int .i64 0] n) 3)) w.heap.size n (fun _ => 0) := by
 refine ⟨_, alloc_at w _, size_madeCells _ _, fun k hk => ?_⟩
 have h1 : k % 1 = 0 := Nat.mod_one k
 simp [madeCells, hk, h1]
theorem info_int : (Tryz.prog.info? 3).map (fun i => (i.zero, i.size, i.bytes)) = some (some (.int .i64 0), 1, 8) := by kernel_rfl
theorem make_ints (n : Nat) (hn : n ≤ 1000) (w : World) : (Instr.makeSlice 93 (.int .i64 (n : Int)) (.int .i64 (n : Int))).run Tryz.prog w = .ok (.slice (some ⟨w.heap.size, 0, none⟩) n n) (w.alloc (.cells (madeCells #[.int .i64 0] n) 3)) := by
 obtain ⟨i0, hi, hz, hs, hb⟩ := info_of info_int
 have := run_make (P := Tryz.prog) w 93 3 i0 (.int .i64 0) Tryz.underlying93 hi hz .i64 .i64 n n (by omega) (Int.le_refl _) (by rw [hb]; omega) (by omega)
 rw [hs, show (Value.int .i64 0).cells = #[.int .i64 0] from rfl] at this
 simpa using this
/-- Whoever is far away needs one that is nearer by one. -/
def FarOk (n : Nat) (M : Nat → Nat → Bool) (F : Nat → Int) : Prop := ∀ k < n, -1 ≤ F k ∧ F k ≤ n ∧ (0 < F k → ∃ l < n, M k l = true ∧ F l = F k - 1)
theorem FarOk.set {n : Nat} {M : Nat → Nat → Bool} {F : Nat → Int} (h : FarOk n M F) {i k : Nat} {d : Int} (hk : k < n) (hi : F i < 0) (hm : M i k = true) (hf : F k = d - 1) (h1 : 1 ≤ d) (hn : d ≤ n) : FarOk n M (fun j => if j = i then d else F j) := by
 intro j hj
 show -1 ≤ (if j = i then d else F j) ∧ (if j = i then d else F j) ≤ n ∧ (0 < (if j = i then d else F j) → ∃ l < n, M j l = true ∧ (if l = i then d else F l) = (if j = i then d else F j) - 1)
 by_cases e : j = i
 ·subst e
  rw [if_pos rfl]
  refine ⟨by omega, hn, fun _ => ⟨k, hk, hm, ?_⟩⟩
  rw [if_neg (by rintro rfl; omega)]
  exact hf
 ·rw [if_neg e]
  obtain ⟨a, b, c⟩ := h j hj
  refine ⟨a, b, fun hp => ?_⟩
  obtain ⟨l, hl, hml, hfl⟩ := c hp
  refine ⟨l, hl, hml, ?_⟩
  rw [if_neg (by rintro rfl; omega)]
  exact hfl
theorem own_ne_far {B : Nat} {w : World} {v : Value} {xs : List ByteArray} {g n : Nat} {F : Nat → Int} (h : OwnStrs B w v xs) (hf : FarI w g n F) : some g ≠ v.ownBlock := by
 intro e
 obtain ⟨cur, h1, _⟩ := hf
 rcases h.2 with ⟨rfl, _⟩ | ⟨g2, cap, cur2, rfl, _, h2, _⟩
 ·simp [Value.ownBlock] at e
 ·simp only [Value.ownBlock, Option.some.injEq] at e
  subst e
  rw [h1] at h2
  injection h2 with h2
  injection h2 with _ h2 _
  exact absurd h2 (by decide)
def CycE (w' : World) (e : Ending) : Prop := ∃ a n c names, e = .returned (.slice a n c) ∧ IsStrs w' (.slice a n c) names

set_option maxHeartbeats 16000000 in
set_option maxRecDepth 100000 in
theorem cCycle_any (v : Value) (xs : List RuleS) (w : World) (h : RulesI w v xs) (hn : xs.length ≤ 1000) :
  Calls Tryz.prog 27 #[v] w fun e w' => CycE w' e ∧ Below w.heap.size w w' := by
 have HI := Lib.hid h
 obtain ⟨a1, c1, rfl, _, hm1, hc1⟩ := rules_cells h
 obtain ⟨n, hnn⟩ : ∃ n, xs.length = n := ⟨_, rfl⟩
 have HNN := Lib.hid hnn
 have CN := Lib.hid (cNeeds_any _ xs w h hn)
 have CC : Hid (∀ g B w', Mat B w' g n n → Calls Tryz.prog 55 #[.slice (some ⟨g, 0, none⟩) n n] w' fun e w'' => (∃ g', e = .returned (.slice (some ⟨g', 0, none⟩) n n) ∧ Mat w'.heap.size w'' g' n n) ∧ Below w'.heap.size w' w'') := by
  show ∀ g B w', _
  exact fun g B w' hm => cClosed_any g n B w' hm (by omega)
 have HNA : Hid (∀ k, k < n → ∃ b o x, a1 = some ⟨b, o, none⟩ ∧ ∀ w', Below w.heap.size w w' → w'.cell? ⟨b, o + k * 5, none⟩ = some (.string x)) := by
  show ∀ k, _
  intro k hk
  obtain ⟨x, hx⟩ : ∃ x, xs[k]? = some x := ⟨xs[k]'(by omega), List.getElem?_eq_getElem _⟩
  obtain ⟨b, o, _, _, _, _, _, _, _, _, ha, _, hc⟩ := hc1 k x hx
  exact ⟨b, o, x.name, ha, fun w' hw => (hc w' hw).1⟩
 rw [hnn] at hn CN
 rw [hnn]
 have hmk := make_ints n hn
 unfold maxLen at hm1
 rw [hnn] at *
 clear h hc1 hnn HI HNN
 go_enter Tryz.func27, Tryz.ntmps27
 go_wp2_with fail
 refine CN.out.mono ?_
 rintro e w1 ⟨⟨gm, rfl, hmat1⟩, hb1⟩
 have HB1 := Lib.hid hb1
 have HM1 := Lib.hid hmat1
 clear hb1 hmat1
 go_wp2_with fail
 refine (CC.out _ _ _ HM1.out).mono ?_
 rintro e w2 ⟨⟨gc, rfl, hmat2⟩, hb2⟩
 have HB2 := Lib.hid (HB1.out.trans (hb2.mono HB1.out.size))
 obtain ⟨rm, sm, M, hM⟩ := (HM1.out.below hb2).fix
 obtain ⟨rc, sc, C, hC⟩ := hmat2.fix
 have HM := Lib.hid hM
 have HC := Lib.hid hC
 have HN : Hid (∀ k, k < n → ∃ b o x, a1 = some ⟨b, o, none⟩ ∧ ∀ w', Below w2.heap.size w2 w' → w'.cell? ⟨b, o + k * 5, none⟩ = some (.string x)) := by
  show ∀ k, _
  intro k hk
  obtain ⟨b, o, x, ha, hc⟩ := HNA.out k hk
  exact ⟨b, o, x, ha, fun w' hw => hc w' (HB2.out.trans (hw.mono HB2.out.size))⟩
 clear hb2 hmat2 hM hC HM1 CN CC HNA HB1
 go_wp2_with fail
 go_loopw [5, 6] (fun fv iv wr => ∃ (f : Int) (i : Nat), fv = .int .i64 f ∧ iv = .int .i64 (i : Int) ∧ i ≤ n ∧ -1 ≤ f ∧ f < (n : Int) ∧ Below w2.heap.size w2 wr) (fun _ iv _ => n - (intOf iv).toNat)
 case atStart => exact ⟨-1, 0, rfl, rfl, by omega, by omega, by omega, Below.refl _ _⟩
 case round =>
  obtain ⟨f, i, rfl, rfl, hi, hf0, hf1, hbr⟩ := hrel
  obtain ⟨WR, hWR⟩ : ∃ V, wr = V := ⟨_, rfl⟩
  rw [hWR] at hbr ⊢
  clear hWR
  have HBR := Lib.hid hbr
  by_cases hlt : i < n
  ·have hi1 : (i : Int) < (n : Int) := by omega
   have hi0 : (0 : Int) ≤ (i : Int) := by omega
   obtain ⟨e1, e2, e3, e4⟩ := HC.out _ hbr i hlt
   have e5 := e4 i hlt
   obtain ⟨x, hx⟩ : ∃ x, C i i = x := ⟨_, rfl⟩
   rw [hx] at e5
   obtain ⟨b, o, nm, hab, hnc⟩ := HN.out i hlt
   have e6 := hnc _ hbr
   subst hab
   have HDR : Hid (∀ k, Below w2.heap.size w2 (WR.drewN k)) := by show ∀ k, _; exact fun k => below_drewN HBR.out k
   clear hbr e4 hx hnc
   cases x
   ·go_wp2_with fail
    go_quiet (fail)
    all_goals go_wp2
    all_goals go_roundw
    case rel => exact ⟨f, i + 1, rfl, by go_num, by omega, by omega, by omega, HDR.out _⟩
    case measure => simp [intOf]; omega
   ·by_cases hneg : f < 0
    ·have hd : decide (f < 0) = true := decide_eq_true hneg
     go_wp2_with fail
     go_quiet (fail)
     all_goals go_wp2
     all_goals go_roundw
     case rel => exact ⟨i, i + 1, rfl, by go_num, by omega, by omega, by omega, HDR.out _⟩
     case measure => simp [intOf]; omega
    ·obtain ⟨f', rfl⟩ : ∃ f' : Nat, f = (f' : Int) := ⟨f.toNat, by omega⟩
     have hd : decide ((f' : Int) < 0) = false := decide_eq_false hneg
     obtain ⟨b', o', nf, hab, hnf⟩ := HN.out f' (by omega)
     injection hab with hab
     injection hab with q1 q2
     subst q1 q2
     have e7 := hnf _ HBR.out
     have hf2 : (0 : Int) ≤ (f' : Int) := by omega
     obtain ⟨q, hq⟩ : ∃ q, Op.bytesLess nm.toList nf.toList = q := ⟨_, rfl⟩
     clear hnf
     cases q
     ·go_wp2_with fail
      go_quiet (fail)
      all_goals go_wp2
      all_goals go_roundw
      case rel => exact ⟨f', i + 1, rfl, by go_num, by omega, by omega, by omega, HDR.out _⟩
      case measure => simp [intOf]; omega
     ·go_wp2_with fail
      go_quiet (fail)
      all_goals go_wp2
      all_goals go_roundw
      case rel => exact ⟨i, i + 1, rfl, by go_num, by omega, by omega, by omega, HDR.out _⟩
      case measure => simp [intOf]; omega
  ·have hi1 : ¬ (i : Int) < (n : Int) := by omega
   clear hbr
   by_cases hneg : f < 0
   ·go_wp2
    go_ret
    exact ⟨⟨none, 0, 0, [], rfl, (ownStrs_nil 0 _).strsA.isStrs⟩, HB2.out.trans (HBR.out.mono HB2.out.size)⟩
   ·obtain ⟨f', rfl⟩ : ∃ f' : Nat, f = (f' : Int) := ⟨f.toNat, by omega⟩
    have hf2 : (0 : Int) ≤ (f' : Int) := by omega
    have hfn : f' < n := by omega
    have hg1 : (1 : Int) ≤ (n : Int) := by omega
    have HG := Lib.hid HBR.out.size
    have HF0 : Hid (FarI (WR.alloc (.cells (madeCells #[.int .i64 0] n) 3)) WR.heap.size n (fun _ => 0)) := Lib.hid farI_new
    have HB3 : Hid (Below w2.heap.size w2 (WR.alloc (.cells (madeCells #[.int .i64 0] n) 3))) := Lib.hid (HBR.out.alloc HBR.out.size _)
    go_wp2_with fail
    go_loopw [61] (fun iv wr => ∃ (F : Nat → Int) (i : Nat), iv = .int .i64 (i : Int) ∧ i ≤ n ∧ FarI wr WR.heap.size n F ∧ (∀ k < i, F k = -1) ∧ Below w2.heap.size w2 wr) (fun iv _ => n - (intOf iv).toNat)
    case atStart => exact ⟨_, 0, rfl, by omega, HF0.out, fun k hk => absurd hk (by omega), HB3.out⟩
    case round =>
     obtain ⟨F, i, rfl, hi, hF, hz, hb⟩ := hrel
     have HF := Lib.hid hF
     have HZ := Lib.hid hz
     have HB := Lib.hid hb
     by_cases hlt : i < n
     ·obtain ⟨e1, e2⟩ := hF.cell hlt
      have hi1 : (i : Int) < (n : Int) := by omega
      have hi0 : (0 : Int) ≤ (i : Int) := by omega
      clear hF hz hb
      go_wp2
      go_roundw
      case rel => exact ⟨_, i + 1, by go_num, by omega, HF.out.set (-1), fun k hk => by
       show (if k = i then (-1 : Int) else F k) = -1
       by_cases e : k = i
       ·rw [if_pos e]
       ·rw [if_neg e]; exact HZ.out k (by omega), HB.out.setCell HG.out _⟩
      case measure => simp [intOf]; omega
     ·obtain rfl : i = n := by omega
      have hi1 : ¬ (i : Int) < (i : Int) := by omega
      obtain ⟨e1, e2⟩ := hF.cell hfn
      have HF4 : Hid (FarI (wr.setCell ⟨WR.heap.size, f', none⟩ (.int .i64 0)) WR.heap.size i (fun j => if j = f' then 0 else F j)) := Lib.hid (hF.set 0)
      have HB4 : Hid (Below w2.heap.size w2 (wr.setCell ⟨WR.heap.size, f', none⟩ (.int .i64 0))) := Lib.hid (hb.setCell HG.out _)
      have HK4 : Hid (FarOk i M (fun j => if j = f' then 0 else F j)) := by
       show FarOk _ _ _
       intro k hk
       show -1 ≤ (if k = f' then (0 : Int) else F k) ∧ (if k = f' then (0 : Int) else F k) ≤ i ∧ (0 < (if k = f' then (0 : Int) else F k) → _)
       by_cases e : k = f'
       ·rw [if_pos e]; exact ⟨by omega, by omega, fun h => absurd h (by omega)⟩
       ·rw [if_neg e, HZ.out k hk]; exact ⟨by omega, by omega, fun h => absurd h (by omega)⟩
      clear hF hz hb
      go_upto_region 18 with fail
      obtain ⟨W5, hW5⟩ : ∃ V, wr.setCell ⟨WR.heap.size, f', none⟩ (.int .i64 0) = V := ⟨_, rfl⟩
      rw [hW5] at HF4 HB4 ⊢
      clear hW5 e1 e2
      obtain ⟨F0, hF0⟩ : ∃ G : Nat → Int, (fun j => if j = f' then (0 : Int) else F j) = G := ⟨_, rfl⟩
      rw [hF0] at HF4 HK4
      clear hF0 HF HZ HB
      go_wp2_with fail
      go_loopw [9] (fun dv wr => ∃ (F : Nat → Int) (d : Nat), dv = .int .i64 (d : Int) ∧ 1 ≤ d ∧ d ≤ i + 1 ∧ FarI wr WR.heap.size i F ∧ FarOk i M F ∧ Below w2.heap.size w2 wr) (fun dv _ => i + 1 - (intOf dv).toNat)
      case atStart => exact ⟨_, 1, rfl, by omega, by omega, HF4.out, HK4.out, HB4.out⟩
      case round =>
       obtain ⟨F, d, rfl, hd1, hd2, hF, hK, hb⟩ := hrel
       have HF := Lib.hid hF
       have HK := Lib.hid hK
       have HB := Lib.hid hb
       by_cases hdl : d ≤ i
       ·have hdi : (d : Int) ≤ (i : Int) := by omega
        have HD := Lib.hid hd1
        clear hF hK hb
        go_wp2_with fail
        go_loopw [10] (fun pv wr => ∃ (F : Nat → Int) (p : Nat), pv = .int .i64 (p : Int) ∧ p ≤ i ∧ FarI wr WR.heap.size i F ∧ FarOk i M F ∧ Below w2.heap.size w2 wr) (fun pv _ => i - (intOf pv).toNat)
        case atStart => exact ⟨_, 0, rfl, by omega, HF.out, HK.out, HB.out⟩
        case round =>
         obtain ⟨F, p, rfl, hp, hF, hK, hb⟩ := hrel
         have HF := Lib.hid hF
         have HK := Lib.hid hK
         have HB := Lib.hid hb
         clear hF hK hb
         by_cases hpl : p < i
         ·have hp1 : (p : Int) < (i : Int) := by omega
          have hp0 : (0 : Int) ≤ (p : Int) := by omega
          go_wp2_with fail
          go_loopw [11] (fun qv wr => ∃ (F : Nat → Int) (q : Nat), qv = .int .i64 (q : Int) ∧ q ≤ i ∧ FarI wr WR.heap.size i F ∧ FarOk i M F ∧ Below w2.heap.size w2 wr) (fun qv _ => i - (intOf qv).toNat)
          case atStart => exact ⟨_, 0, rfl, by omega, HF.out, HK.out, HB.out⟩
          case round =>
           obtain ⟨F, q, rfl, hq, hF, hK, hb⟩ := hrel
           have HF := Lib.hid hF
           have HK := Lib.hid hK
           have HB := Lib.hid hb
           by_cases hql : q < i
           ·have hq1 : (q : Int) < (i : Int) := by omega
            have hq0 : (0 : Int) ≤ (q : Int) := by omega
            have hg2 : decide (q < i) = true := decide_eq_true hql
            obtain ⟨y1, y2⟩ := hF.cell hpl
            obtain ⟨y3, _⟩ := hF.cell hql
            obtain ⟨u, hu⟩ : ∃ u, F p = u := ⟨_, rfl⟩
            obtain ⟨t, ht⟩ : ∃ t, F q = t := ⟨_, rfl⟩
            rw [hu] at y1
            rw [ht] at y3
            obtain ⟨z1, z2, z3, z4⟩ := HM.out _ hb p hpl
            have z5 := z4 q hql
            obtain ⟨x, hx⟩ : ∃ x, M p q = x := ⟨_, rfl⟩
            rw [hx] at z5
            have HU := Lib.hid hu
            have HT := Lib.hid ht
            have HX := Lib.hid hx
            have hw1 : IntKind.i64.wrap ((d : Int) - 1) = (d : Int) - 1 := IntWalk.i64_in _ (by omega)
            clear hF hK hb z4 hu ht hx
            by_cases hu0 : u < 0
            ·have hg3 : decide (u < 0) = true := decide_eq_true hu0
             cases x
             ·go_wp2
              go_roundw
              case rel => exact ⟨F, q + 1, by go_num, by omega, HF.out, HK.out, HB.out⟩
              case measure => simp [intOf]; omega
             ·by_cases htd : t = (d : Int) - 1
              ·have HS : Hid (FarOk i M (fun j => if j = p then (d : Int) else F j)) := Lib.hid (HK.out.set hql (by rw [HU.out]; exact hu0) HX.out (by rw [HT.out]; exact htd) (by have := HD.out; omega) (by omega))
               have HTD := Lib.hid htd
               subst htd
               go_wp2
               go_roundw
               case rel => exact ⟨_, q + 1, by go_num, by omega, HF.out.set _, HS.out, HB.out.setCell HG.out _⟩
               case measure => simp [intOf]; omega
              ·go_wp2
               go_roundw
               case rel => exact ⟨F, q + 1, by go_num, by omega, HF.out, HK.out, HB.out⟩
               case measure => simp [intOf]; omega
            ·have hg3 : decide (u < 0) = false := decide_eq_false hu0
             go_wp2
             go_roundw
             case rel => exact ⟨F, p + 1, by go_num, by omega, HF.out, HK.out, HB.out⟩
             case measure => simp [intOf]; omega
           ·have hq1 : ¬ (q : Int) < (i : Int) := by omega
            have hg2 : decide (q < i) = false := decide_eq_false hql
            clear hF hK hb
            go_wp2
            go_roundw
            case rel => exact ⟨F, p + 1, by go_num, by omega, HF.out, HK.out, HB.out⟩
            case measure => simp [intOf]; omega
         ·have hp1 : ¬ (p : Int) < (i : Int) := by omega
          go_wp2
          go_roundw
          case rel => exact ⟨F, d + 1, by go_num, by omega, by omega, HF.out, HK.out, HB.out⟩
          case measure => simp [intOf]; omega
       ·have hdi : ¬ (d : Int) ≤ (i : Int) := by omega
        clear hF hK hb
        go_wp2_with fail
        go_loopw [12, 13] (fun bv kv wr => ∃ (be : Int) (k : Nat), bv = .int .i64 be ∧ kv = .int .i64 (k : Int) ∧ k ≤ i ∧ 0 ≤ be ∧ be ≤ (i : Int) + 1 ∧ (0 < be → ∃ l < i, M f' l = true ∧ F l = be - 1) ∧ FarI wr WR.heap.size i F ∧ Below w2.heap.size w2 wr) (fun _ kv _ => i - (intOf kv).toNat)
        case atStart => exact ⟨0, 0, rfl, rfl, by omega, by omega, by omega, fun h => absurd h (by omega), HF.out, HB.out⟩
        case round =>
         obtain ⟨be, k, rfl, rfl, hk, hb0, hb1, hbe, hF, hb⟩ := hrel
         have HF := Lib.hid hF
         have HB := Lib.hid hb
         have HBE := Lib.hid hbe
         by_cases hkl : k < i
         ·have hk1 : (k : Int) < (i : Int) := by omega
          have hk0 : (0 : Int) ≤ (k : Int) := by omega
          have hf1' : (f' : Int) < (i : Int) := by omega
          obtain ⟨y3, _⟩ := hF.cell hkl
          obtain ⟨t, ht⟩ : ∃ t, F k = t := ⟨_, rfl⟩
          rw [ht] at y3
          obtain ⟨z1, z2, z3, z4⟩ := HM.out _ hb f' hfn
          have z5 := z4 k hkl
          obtain ⟨x, hx⟩ : ∃ x, M f' k = x := ⟨_, rfl⟩
          rw [hx] at z5
          have HT := Lib.hid ht
          have HX := Lib.hid hx
          obtain ⟨ht1, ht2, _⟩ := HK.out k hkl
          rw [ht] at ht1 ht2
          have hw1 : IntKind.i64.wrap (t + 1) = t + 1 := IntWalk.i64_in _ (by omega)
          clear hF hb z4 ht hx hbe
          cases x
          ·go_wp2
           go_roundw
           case rel => exact ⟨be, k + 1, rfl, by go_num, by omega, by omega, by omega, HBE.out, HF.out, HB.out⟩
           case measure => simp [intOf]; omega
          ·by_cases ht0 : 0 ≤ t
           ·have hg3 : decide (0 ≤ t) = true := decide_eq_true ht0
            have HNEW : Hid (0 < t + 1 → ∃ l < i, M f' l = true ∧ F l = t + 1 - 1) := by show 0 < t + 1 → _; exact fun _ => ⟨k, hkl, HX.out, by rw [HT.out]; omega⟩
            by_cases hbz : be = 0
            ·have hg4 : (be == 0) = true := by rw [hbz]; rfl
             go_wp2
             go_roundw
             case rel => exact ⟨t + 1, k + 1, by go_num, by go_num, by omega, by omega, by omega, HNEW.out, HF.out, HB.out⟩
             case measure => simp [intOf]; omega
            ·have hg4 : (be == 0) = false := by simpa using hbz
             by_cases htb : t + 1 < be
             ·go_wp2
              go_roundw
              case rel => exact ⟨t + 1, k + 1, by go_num, by go_num, by omega, by omega, by omega, HNEW.out, HF.out, HB.out⟩
              case measure => simp [intOf]; omega
             ·go_wp2
              go_roundw
              case rel => exact ⟨be, k + 1, rfl, by go_num, by omega, by omega, by omega, HBE.out, HF.out, HB.out⟩
              case measure => simp [intOf]; omega
           ·have hg3 : decide (0 ≤ t) = false := decide_eq_false ht0
            go_wp2
            go_roundw
            case rel => exact ⟨be, k + 1, rfl, by go_num, by omega, by omega, by omega, HBE.out, HF.out, HB.out⟩
            case measure => simp [intOf]; omega
         ·have hk1 : ¬ (k : Int) < (i : Int) := by omega
          have hf1' : (f' : Int) < (i : Int) := by omega
          obtain ⟨b, o, nm, hab, hnc⟩ := HN.out f' hfn
          have e6 := hnc _ hb
          subst hab
          have hw1 : IntKind.i64.wrap (be - 1) = be - 1 := IntWalk.i64_in _ (by omega)
          have HF6 : Hid (FarI (wr.alloc (.cells #[.string nm] 9)) WR.heap.size i F) := Lib.hid (hF.below ((Below.refl _ _).alloc (Nat.le_refl _) _))
          have HB6 : Hid (Below w2.heap.size w2 (wr.alloc (.cells #[.string nm] 9))) := Lib.hid (hb.alloc hb.size _)
          have HO6 : Hid (OwnStrs w2.heap.size (wr.alloc (.cells #[.string nm] 9)) (.slice (some ⟨wr.heap.size, 0, none⟩) 1 1) [nm]) := Lib.hid (own_one (alloc_at wr _) hb.size)
          clear hF hb hbe hnc
          go_wp2_with fail
          go_loopw [14, 15, 16] (fun ov av lv wr => ∃ (names : List ByteArray) (p : Nat) (le : Int), av = .int .i64 (p : Int) ∧ lv = .int .i64 le ∧ p < i ∧ -1 ≤ le ∧ le ≤ (i : Int) ∧ (0 < le → ∃ l < i, M p l = true ∧ F l = le) ∧ OwnStrs w2.heap.size wr ov names ∧ (names.length : Int) + le ≤ (i : Int) + 5 ∧ FarI wr WR.heap.size i F ∧ Below w2.heap.size w2 wr) (fun _ _ lv _ => (intOf lv).toNat)
          case atStart => exact ⟨[nm], f', be - 1, rfl, by go_num, hfn, by omega, by omega, fun h => HBE.out (by omega), HO6.out, by simp only [List.length_cons, List.length_nil]; omega, HF6.out, HB6.out⟩
          case round =>
           obtain ⟨names, p, le, rfl, rfl, hp, hl0, hl1, hle, hown, hnl, hF, hb⟩ := hrel
           obtain ⟨WL, hWL⟩ : ∃ V, wr = V := ⟨_, rfl⟩
           rw [hWL] at hown hF hb ⊢
           clear hWL e6
           have HF := Lib.hid hF
           have HB := Lib.hid hb
           have HLE := Lib.hid hle
           have HOWN := Lib.hid hown
           have HNL := Lib.hid hnl
           obtain ⟨oa, oc, q, _, hoc, hocm⟩ := own_shape hown
           subst q
           unfold maxLen at hocm
           by_cases hlp : 0 < le
           ·have hp1 : (p : Int) < (i : Int) := by omega
            have hp0 : (0 : Int) ≤ (p : Int) := by omega
            clear hF hb hle hown hnl
            go_wp2_with fail
            go_loopw [17, 18] (fun nv kv wr => ∃ (nx : Int) (k : Nat), nv = .int .i64 nx ∧ kv = .int .i64 (k : Int) ∧ k ≤ i ∧ -1 ≤ nx ∧ nx < (i : Int) ∧ (0 ≤ nx → F nx.toNat = le) ∧ (nx < 0 → ∀ l < k, M p l = true → F l ≠ le) ∧ Below WL.heap.size WL wr) (fun _ kv _ => i - (intOf kv).toNat)
            case atStart => exact ⟨-1, 0, rfl, rfl, by omega, by omega, by omega, fun h => absurd h (by omega), fun _ l hl => absurd hl (by omega), Below.refl _ _⟩
            case round =>
             obtain ⟨nx, k, rfl, rfl, hk, hn0, hn1, hnf, hno, hbl⟩ := hrel
             have HNF := Lib.hid hnf
             have HNO := Lib.hid hno
             have HBL := Lib.hid hbl
             have hbw := HB.out.trans (hbl.mono HB.out.size)
             have HBW := Lib.hid hbw
             by_cases hkl : k < i
             ·have hk1 : (k : Int) < (i : Int) := by omega
              have hk0 : (0 : Int) ≤ (k : Int) := by omega
              obtain ⟨y3, _⟩ := (HF.out.below hbl).cell hkl
              obtain ⟨t, ht⟩ : ∃ t, F k = t := ⟨_, rfl⟩
              rw [ht] at y3
              obtain ⟨z1, z2, z3, z4⟩ := HM.out _ hbw p hp
              have z5 := z4 k hkl
              obtain ⟨x, hx⟩ : ∃ x, M p k = x := ⟨_, rfl⟩
              rw [hx] at z5
              have HT := Lib.hid ht
              have HX := Lib.hid hx
              obtain ⟨b', o', nk, hab, hnc⟩ := HN.out k hkl
              injection hab with hab
              injection hab with q1 q2
              subst q1 q2
              have e6 := hnc _ hbw
              have HDR : Hid (∀ n, Below WL.heap.size WL (wr.drewN n)) := by show ∀ n, _; exact fun n => below_drewN HBL.out n
              have HSTAY : Hid ((x = false ∨ ¬ t = le ∨ 0 ≤ nx) → nx < 0 → ∀ l < k + 1, M p l = true → F l ≠ le) := by
               show _ → _
               intro hor hneg l hl hml
               rcases Nat.lt_or_ge l k with h | h
               ·exact HNO.out hneg l h hml
               ·obtain rfl : l = k := by omega
                rcases hor with h | h | h
                ·rw [HX.out, h] at hml; cases hml
                ·rw [HT.out]; exact h
                ·omega
              have HNEW : Hid (t = le → (0 ≤ (k : Int) → F (k : Int).toNat = le) ∧ ((k : Int) < 0 → ∀ l < k + 1, M p l = true → F l ≠ le)) := by
               show t = le → _
               exact fun h => ⟨fun _ => by rw [Int.toNat_natCast, HT.out]; exact h, fun h => absurd h (by omega)⟩
              clear hnc z4 ht hx hbw hbl hnf hno
              cases x
              ·go_wp2_with fail
               go_quiet (fail)
               all_goals go_wp2
               all_goals go_roundw
               case rel => exact ⟨nx, k + 1, rfl, by go_num, by omega, by omega, by omega, HNF.out, HSTAY.out (.inl (by trivial)), HDR.out _⟩
               case measure => simp [intOf]; omega
              ·by_cases htl : t = le
               ·have hg5 : (t == le) = true := by rw [htl]; simp
                have HTL := Lib.hid htl
                by_cases hneg : nx < 0
                ·have hd : decide (nx < 0) = true := decide_eq_true hneg
                 go_wp2_with fail
                 go_quiet (fail)
                 all_goals go_wp2
                 all_goals go_roundw
                 case rel => exact ⟨k, k + 1, rfl, by go_num, by omega, by omega, by omega, (HNEW.out HTL.out).1, (HNEW.out HTL.out).2, HDR.out _⟩
                 case measure => simp [intOf]; omega
                ·obtain ⟨x', rfl⟩ : ∃ x' : Nat, nx = (x' : Int) := ⟨nx.toNat, by omega⟩
                 have hd : decide ((x' : Int) < 0) = false := decide_eq_false hneg
                 obtain ⟨b', o', nf, hab, hnf⟩ := HN.out x' (by omega)
                 injection hab with hab
                 injection hab with q1 q2
                 subst q1 q2
                 have e7 := hnf _ HBW.out
                 have hx2 : (0 : Int) ≤ (x' : Int) := by omega
                 obtain ⟨q, hq⟩ : ∃ q, Op.bytesLess nk.toList nf.toList = q := ⟨_, rfl⟩
                 clear hnf
                 cases q
                 ·go_wp2_with fail
                  go_quiet (fail)
                  all_goals go_wp2
                  all_goals go_roundw
                  case rel => exact ⟨x', k + 1, rfl, by go_num, by omega, by omega, by omega, HNF.out, HSTAY.out (.inr (.inr (by omega))), HDR.out _⟩
                  case measure => simp [intOf]; omega
                 ·go_wp2_with fail
                  go_quiet (fail)
                  all_goals go_wp2
                  all_goals go_roundw
                  case rel => exact ⟨k, k + 1, rfl, by go_num, by omega, by omega, by omega, (HNEW.out HTL.out).1, (HNEW.out HTL.out).2, HDR.out _⟩
                  case measure => simp [intOf]; omega
               ·have hg5 : (t == le) = false := by simpa using htl
                have HTL := Lib.hid htl
                go_wp2_with fail
                go_quiet (fail)
                all_goals go_wp2
                all_goals go_roundw
                case rel => exact ⟨nx, k + 1, rfl, by go_num, by omega, by omega, by omega, HNF.out, HSTAY.out (.inr (.inl HTL.out)), HDR.out _⟩
                case measure => simp [intOf]; omega
             ·have hk1 : ¬ (k : Int) < (i : Int) := by omega
              obtain rfl : k = i := by omega
              have hpos : 0 ≤ nx := by
               refine Int.not_lt.1 fun hneg => ?_
               obtain ⟨l, hl, h1, h2⟩ := HLE.out hlp
               exact hno hneg l hl h1 h2
              obtain ⟨x', rfl⟩ : ∃ x' : Nat, nx = (x' : Int) := ⟨nx.toNat, by omega⟩
              have hFx : F x' = le := by have := hnf hpos; rwa [Int.toNat_natCast] at this
              obtain ⟨b', o', nx2, hab, hnc⟩ := HN.out x' (by omega)
              injection hab with hab
              injection hab with q1 q2
              subst q1 q2
              have e6 := hnc _ hbw
              have hw2 : IntKind.i64.wrap (le - 1) = le - 1 := IntWalk.i64_in _ (by omega)
              have hox := HOWN.out.below hbl
              have hba := hbw.alloc hbw.size (.cells #[.string nx2] 9)
              obtain ⟨v9, w9, hr9, ho9, hg9⟩ := run_append_C (w := wr.alloc (.cells #[.string nx2] 9)) (ty := 35) (ys := [nx2]) (hox.below ((Below.refl _ _).alloc (Nat.le_refl _) _)) (row_str (alloc_at wr _)) (by have := HNL.out; simp only [List.length_cons, List.length_nil]; omega) hba.size
              have hF9 : FarI w9 WR.heap.size k F := by
               have h0 := (HF.out.below hbl).below ((Below.refl _ _).alloc (Nat.le_refl _) (.cells #[.string nx2] 9))
               exact h0.keep (hg9.block _ h0.lt (own_ne_far (hox.below ((Below.refl _ _).alloc (Nat.le_refl _) _)) h0))
              have HF9 := Lib.hid hF9
              have HB9 : Hid (Below w2.heap.size w2 w9) := Lib.hid (below_own hba hg9 hba.size (fun q hq => (World.ownsRow.lt hox q hq).1))
              have HR9 := Lib.hid hr9
              have HO9 := Lib.hid ho9
              have HNE : Hid (0 < le - 1 → ∃ l < k, M x' l = true ∧ F l = le - 1) := by
               show 0 < le - 1 → _
               intro h
               obtain ⟨_, _, h3⟩ := HK.out x' (by omega)
               obtain ⟨l, hl, h4, h5⟩ := h3 (by rw [hFx]; omega)
               exact ⟨l, hl, h4, by rw [h5, hFx]⟩
              clear hnc hbw hbl hnf hno hox hba hr9 ho9 hg9 hF9 hFx
              go_wp2_with (at_builtin; refine wpList_append_known (by rfl) _ _ 35 (by rfl) (by rfl) (by rfl) HR9.out ?_)
              go_roundw
              case rel => exact ⟨names ++ [nx2], x', le - 1, rfl, by go_num, by omega, by omega, by omega, HNE.out, HO9.out, by have := HNL.out; simp only [List.length_append, List.length_cons, List.length_nil]; omega, HF9.out, HB9.out⟩
              case measure => simp [intOf]; omega
           ·have hlp' : ¬ 0 < le := hlp
            clear hF hb hle hown hnl
            go_wp2
            go_ret
            exact ⟨⟨_, _, _, names, rfl, HOWN.out.strsA.isStrs⟩, HB2.out.trans (HB.out.mono HB2.out.size)⟩
end Go.Proofs.YtlmnabhhgplhnaaGreatDoor
namespace Go.Proofs.YtlmnabhhgplhnaaGreatDoor
open Go.RowKit Go.Shelf

/-- Each name stands once. -/
def OnceN (xs : List RuleS) (m : Nat) : Prop := ∀ (i : Nat) x, i < m → xs[i]? = some x → ∀ j < i, (xs.map (·.name))[j]? ≠ some x.name
def AllZ (xs : List RuleS) (e : Ending) : Prop := ∃ (c : Int) (s : ByteArray), e = .returned (.tuple #[.int .i64 c, .string s]) ∧ (c = 0 → (∀ y ∈ xs, OkRu y) ∧ OnceN xs xs.length)
theorem allZ_no {xs : List RuleS} (c : Int) (s : ByteArray) (h : c ≠ 0) : AllZ xs (.returned (.tuple #[.int .i64 c, .string s])) := ⟨c, s, rfl, fun e => absurd e h⟩

set_option maxHeartbeats 16000000 in
set_option maxRecDepth 100000 in
theorem cAll_any (v : Value) (xs : List RuleS) (w : World) (h : RulesI w v xs) (hn : xs.length ≤ 1000) (hs : ∀ x ∈ xs, SmallR x 1048576 ∧ ShortR x) :
  Calls Tryz.prog 7 #[v] w fun e w' => AllZ xs e ∧ Below w.heap.size w w' := by
 have HI := Lib.hid h
 obtain ⟨a1, c1, rfl, _, hm1, hc1⟩ := rules_cells h
 have HRU : Hid (∀ (k : Nat) x, xs[k]? = some x → ∃ b o p1 q1 p2 q2 p3 q3 p4 q4, a1 = some ⟨b, o, none⟩ ∧ (∀ w', Below w.heap.size w w' → Calls Tryz.prog 24 #[.agg #[.string x.name, .slice p1 x.ins.length q1, .slice p2 x.outs.length q2, .slice p3 x.after.length q3, .slice p4 x.steps.length q4]] w' fun e w'' => RuleZ x e ∧ Below w'.heap.size w' w'') ∧
   (∀ w', Below w.heap.size w w' → w'.cell? ⟨b, o + k * 5, none⟩ = some (.string x.name) ∧ w'.cell? ⟨b, o + k * 5 + 1, none⟩ = some (.slice p1 x.ins.length q1) ∧ w'.cell? ⟨b, o + k * 5 + 2, none⟩ = some (.slice p2 x.outs.length q2) ∧ w'.cell? ⟨b, o + k * 5 + 3, none⟩ = some (.slice p3 x.after.length q3) ∧ w'.cell? ⟨b, o + k * 5 + 4, none⟩ = some (.slice p4 x.steps.length q4)) ∧
   (∀ (j : Nat) s, x.outs[j]? = some s → ∃ b' o', p2 = some ⟨b', o', none⟩ ∧ ∀ w', Below w.heap.size w w' → w'.cell? ⟨b', o' + j, none⟩ = some (.string s)) ∧ (∀ (j : Nat) s, x.after[j]? = some s → ∃ b' o', p3 = some ⟨b', o', none⟩ ∧ ∀ w', Below w.heap.size w w' → w'.cell? ⟨b', o' + j, none⟩ = some (.string s))) := by
  show ∀ (k : Nat) x, _
  intro k x hx
  obtain ⟨b, o, p1, q1, p2, q2, p3, q3, p4, q4, ha, hr, hc⟩ := hc1 k x hx
  obtain ⟨hsm, hsh⟩ := hs x (List.mem_of_getElem? hx)
  have hr' := hr
  obtain ⟨vi, vo, vf, vs, q, h1, h2, h3, h4⟩ := hr
  simp only [List.cons.injEq, and_true] at q
  obtain ⟨_, rfl, rfl, rfl, rfl⟩ := q
  obtain ⟨_, _, e2, _, _, s2⟩ := isStrs_cells h2
  obtain ⟨_, _, e3, _, _, s3⟩ := isStrs_cells h3
  injection e2 with e2 _ e2'
  injection e3 with e3 _ e3'
  subst e2 e2' e3 e3'
  exact ⟨b, o, p1, q1, p2, q2, p3, q3, p4, q4, ha, fun w' hw => cRule_any x _ _ _ _ w' (hr'.below hw) hsm hsh, fun w' hw => hc w' hw, s2, s3⟩
 have CMK : Hid (∀ s w', Below w.heap.size w w' → Calls Tryz.prog 26 #[.slice a1 xs.length c1, .string s] w' fun e w'' => MakerE xs s e ∧ w' = w'') := by show ∀ s w', _; exact fun s w' hw => cMaker_any _ _ s w' (HI.out.below hw)
 have CAT : Hid (∀ s w', Below w.heap.size w w' → Calls Tryz.prog 25 #[.slice a1 xs.length c1, .string s] w' fun e w'' => FindE (xs.map (·.name)) s e ∧ w' = w'') := by show ∀ s w', _; exact fun s w' hw => cAt_any _ _ s w' (HI.out.below hw)
 have CCY : Hid (∀ w', Below w.heap.size w w' → Calls Tryz.prog 27 #[.slice a1 xs.length c1] w' fun e w'' => CycE w'' e ∧ Below w'.heap.size w' w'') := by show ∀ w', _; exact fun w' hw => cCycle_any _ xs w' (HI.out.below hw) hn
 have HSH : Hid (∀ (k : Nat) x, xs[k]? = some x → x.outs.length ≤ 6 ∧ x.after.length ≤ 10) := by show ∀ (k : Nat) x, _; exact fun k x hx => ⟨(hs x (List.mem_of_getElem? hx)).2.outs, (hs x (List.mem_of_getElem? hx)).2.after⟩
 unfold maxLen at hm1
 clear h hc1 hs
 go_enter Tryz.func7, Tryz.ntmps7
 go_wp2_with fail
 go_loopw [4] (fun iv wr => ∃ i : Nat, i ≤ xs.length ∧ iv = .int .i64 (i : Int) ∧ (∀ y ∈ xs.take i, OkRu y) ∧ Below w.heap.size w wr) (fun iv _ => xs.length - (intOf iv).toNat)
 case atStart => exact ⟨0, Nat.zero_le _, rfl, fun y hy => by simp at hy, Below.refl _ _⟩
 case round =>
  obtain ⟨i, hi, rfl, hok, hbr⟩ := hrel
  obtain ⟨WR, hWR⟩ : ∃ V, wr = V := ⟨_, rfl⟩
  rw [hWR] at hbr ⊢
  clear hWR
  have HOK := Lib.hid hok
  have HBR := Lib.hid hbr
  by_cases hlt : i < xs.length
  ·obtain ⟨x, hx⟩ : ∃ x, xs[i]? = some x := ⟨xs[i], List.getElem?_eq_getElem hlt⟩
   obtain ⟨b, o, p1, q1, p2, q2, p3, q3, p4, q4, hab, hcr, hcs, _, _⟩ := HRU.out i x hx
   have CR := Lib.hid (hcr _ hbr)
   obtain ⟨y0, y1, y2, y3, y4⟩ := hcs _ hbr
   have HCS := Lib.hid hcs
   have HX := Lib.hid hx
   have hi1 : (i : Int) < (xs.length : Int) := by omega
   have hi0 : (0 : Int) ≤ (i : Int) := by omega
   subst hab
   clear hok hbr hcr hcs hx
   go_wp2_with fail
   refine CR.out.mono ?_
   rintro e w5 ⟨⟨r, rfl, hr⟩, hb5⟩
   have HB5 := Lib.hid (HBR.out.trans (hb5.mono HBR.out.size))
   have HR := Lib.hid hr
   clear hb5 hr y0 y1 y2 y3 y4
   obtain ⟨y0, _⟩ := HCS.out _ HB5.out
   by_cases hr0 : r = 0
   ·have HNX : Hid (∀ y ∈ xs.take (i + 1), OkRu y) := by
     show ∀ y ∈ xs.take (i + 1), _
     intro y hy
     rw [List.take_add_one, HX.out] at hy
     rcases List.mem_append.1 hy with hy | hy
     ·exact HOK.out y hy
     ·have : y = x := by simpa using hy
      rw [this]
      exact HR.out hr0
    subst hr0
    go_wp2
    go_roundw
    case rel => exact ⟨i + 1, by omega, by go_num, HNX.out, HB5.out⟩
    case measure => simp [intOf]; omega
   ·have HR0 := Lib.hid hr0
    have HDR : Hid (∀ n, Below w.heap.size w (w5.drewN n)) := by show ∀ n, _; exact fun n => below_drewN HB5.out n
    go_wp2_with fail
    go_quiet (fail)
    all_goals go_wp2
    all_goals go_ret2
    all_goals exact ⟨allZ_no _ _ HR0.out, HDR.out _⟩
  ·have hi1 : ¬ (i : Int) < (xs.length : Int) := by omega
   have HALL : Hid (∀ y ∈ xs, OkRu y) := by show ∀ y ∈ xs, _; rw [List.take_of_length_le (by omega)] at hok; exact hok
   clear hok hbr
   by_cases h40 : (40 : Int) < (xs.length : Int)
   ·go_wp2
    go_ret2
    exact ⟨allZ_no 4 _ (by decide), HBR.out⟩
   go_wp2_with fail
   go_loopw [6] (fun iv wr => ∃ i : Nat, i ≤ xs.length ∧ iv = .int .i64 (i : Int) ∧ OnceN xs i ∧ Below w.heap.size w wr) (fun iv _ => xs.length - (intOf iv).toNat)
   case atStart => exact ⟨0, Nat.zero_le _, rfl, fun a x ha => absurd ha (by omega), HBR.out⟩
   case round =>
    obtain ⟨i, hi, rfl, hon, hbr⟩ := hrel
    obtain ⟨WR, hWR⟩ : ∃ V, wr = V := ⟨_, rfl⟩
    rw [hWR] at hbr ⊢
    clear hWR HBR
    have HON := Lib.hid hon
    have HBR := Lib.hid hbr
    by_cases hlt : i < xs.length
    ·obtain ⟨x, hx⟩ : ∃ x, xs[i]? = some x := ⟨xs[i], List.getElem?_eq_getElem hlt⟩
     obtain ⟨b, o, p1, q1, p2, q2, p3, q3, p4, q4, hab, _, hcs, hou, _⟩ := HRU.out i x hx
     obtain ⟨y0, y1, y2, y3, y4⟩ := hcs _ hbr
     have HCS := Lib.hid hcs
     have HOU := Lib.hid hou
     have HX := Lib.hid hx
     have hsl := (HSH.out i x hx).1
     have hi1 : (i : Int) < (xs.length : Int) := by omega
     have hi0 : (0 : Int) ≤ (i : Int) := by omega
     have CA := Lib.hid (CAT.out x.name WR hbr)
     subst hab
     clear hon hbr hcs hx hou
     go_wp2_with fail
     refine CA.out.mono ?_
     rintro e w5 ⟨⟨r, rfl, hr, hr0, hr1⟩, rfl⟩
     have HD : Hid (decide (r < (i : Int)) = false → OnceN xs (i + 1)) := by
      show _ = false → _
      intro hd
      have hge : (i : Int) ≤ r := by simpa using hd
      intro a y ha hy
      rcases Nat.lt_or_ge a i with h | h
      ·exact HON.out a y h hy
      ·obtain rfl : a = i := by omega
       rw [HX.out] at hy
       injection hy with hy
       subst hy
       rcases hr with ⟨h1, h2⟩ | ⟨k, h1, h2, h3⟩
       ·exact fun j _ => h2 j
       ·exact fun j hj => h3 j (by omega)
     obtain ⟨bd, hbd⟩ : ∃ bd, decide (r < (i : Int)) = bd := ⟨_, rfl⟩
     rw [hbd] at HD
     clear hr hr0 hr1
     go_wp2_with fail
     go_loopw [7, 57] (fun bv jv wr => ∃ (bb : Bool) (j : Nat), bv = .bool bb ∧ jv = .int .i64 (j : Int) ∧ j ≤ x.outs.length ∧ (bb = false → OnceN xs (i + 1)) ∧ Below w.heap.size w wr) (fun _ jv _ => x.outs.length - (intOf jv).toNat)
     case atStart => exact ⟨bd, 0, rfl, rfl, by omega, HD.out, HBR.out⟩
     case round =>
      obtain ⟨bb, j, rfl, rfl, hj, hbb, hbj⟩ := hrel
      obtain ⟨WJ, hWJ⟩ : ∃ V, wr = V := ⟨_, rfl⟩
      rw [hWJ] at hbj ⊢
      clear hWJ y0 y1 y2 y3 y4
      have HBJ := Lib.hid hbj
      have HBB := Lib.hid hbb
      obtain ⟨y0, y1, y2, y3, y4⟩ := HCS.out _ hbj
      clear hbb
      by_cases hjl : j < x.outs.length
      ·obtain ⟨s, hs⟩ : ∃ s, x.outs[j]? = some s := ⟨x.outs[j], List.getElem?_eq_getElem hjl⟩
       obtain ⟨sb, so, hsb, hsc⟩ := HOU.out j s hs
       have z0 := hsc _ hbj
       subst hsb
       have hj1 : (j : Int) < (x.outs.length : Int) := by omega
       have hj0 : (0 : Int) ≤ (j : Int) := by omega
       have CM := Lib.hid (CMK.out s WJ hbj)
       clear hsc hs hbj
       cases bb
       ·go_wp2_with fail
        refine CM.out.mono ?_
        rintro e w7 ⟨⟨r2, rfl, _, hr0, hr1⟩, rfl⟩
        go_wp2
        go_roundw
        case rel => exact ⟨_, j + 1, rfl, by go_num, by omega, fun _ => HBB.out (by trivial), HBJ.out⟩
        case measure => simp [intOf]; omega
       ·go_wp2
        go_roundw
        case rel => exact ⟨true, j + 1, rfl, by go_num, by omega, (fun h => by cases h), HBJ.out⟩
        case measure => simp [intOf]; omega
      ·have hj1 : ¬ (j : Int) < (x.outs.length : Int) := by omega
       have HDR : Hid (∀ n, Below w.heap.size w (WJ.drewN n)) := by show ∀ n, _; exact fun n => below_drewN HBJ.out n
       clear hbj
       cases bb
       ·go_wp2
        go_roundw
        case rel => exact ⟨i + 1, by omega, by go_num, HBB.out (by trivial), HBJ.out⟩
        case measure => simp [intOf]; omega
       ·go_wp2_with fail
        go_quiet (fail)
        all_goals go_wp2
        all_goals go_ret2
        all_goals exact ⟨allZ_no 2 _ (by decide), HDR.out _⟩
    ·have hi1 : ¬ (i : Int) < (xs.length : Int) := by omega
     have HONE : Hid (OnceN xs xs.length) := by show OnceN _ _; rw [show xs.length = i by omega]; exact hon
     clear hon hbr
     go_wp2_with fail
     go_loopw [10] (fun iv wr => ∃ i : Nat, i ≤ xs.length ∧ iv = .int .i64 (i : Int) ∧ Below w.heap.size w wr) (fun iv _ => xs.length - (intOf iv).toNat)
     case atStart => exact ⟨0, Nat.zero_le _, rfl, HBR.out⟩
     case round =>
      obtain ⟨i, hi, rfl, hbr⟩ := hrel
      obtain ⟨WR, hWR⟩ : ∃ V, wr = V := ⟨_, rfl⟩
      rw [hWR] at hbr ⊢
      clear hWR HBR
      have HBR := Lib.hid hbr
      by_cases hlt : i < xs.length
      ·obtain ⟨x, hx⟩ : ∃ x, xs[i]? = some x := ⟨xs[i], List.getElem?_eq_getElem hlt⟩
       obtain ⟨b, o, p1, q1, p2, q2, p3, q3, p4, q4, hab, _, hcs, _, haf⟩ := HRU.out i x hx
       obtain ⟨y0, y1, y2, y3, y4⟩ := hcs _ hbr
       have HCS := Lib.hid hcs
       have HAF := Lib.hid haf
       have hsl := (HSH.out i x hx).2
       have hi1 : (i : Int) < (xs.length : Int) := by omega
       have hi0 : (0 : Int) ≤ (i : Int) := by omega
       subst hab
       clear hbr hcs hx haf
       go_wp2_with fail
       go_loopw [88] (fun jv wr => ∃ j : Nat, jv = .int .i64 (j : Int) ∧ j ≤ x.after.length ∧ Below w.heap.size w wr) (fun jv _ => x.after.length - (intOf jv).toNat)
       case atStart => exact ⟨0, rfl, by omega, HBR.out⟩
       case round =>
        obtain ⟨j, rfl, hj, hbj⟩ := hrel
        obtain ⟨WJ, hWJ⟩ : ∃ V, wr = V := ⟨_, rfl⟩
        rw [hWJ] at hbj ⊢
        clear hWJ y0 y1 y2 y3 y4
        have HBJ := Lib.hid hbj
        obtain ⟨y0, y1, y2, y3, y4⟩ := HCS.out _ hbj
        by_cases hjl : j < x.after.length
        ·obtain ⟨s, hs⟩ : ∃ s, x.after[j]? = some s := ⟨x.after[j], List.getElem?_eq_getElem hjl⟩
         obtain ⟨sb, so, hsb, hsc⟩ := HAF.out j s hs
         have z0 := hsc _ hbj
         subst hsb
         have hj1 : (j : Int) < (x.after.length : Int) := by omega
         have hj0 : (0 : Int) ≤ (j : Int) := by omega
         have CA := Lib.hid (CAT.out s WJ hbj)
         have HDR : Hid (∀ n, Below w.heap.size w (WJ.drewN n)) := by show ∀ n, _; exact fun n => below_drewN HBJ.out n
         clear hsc hs hbj
         go_wp2_with fail
         refine CA.out.mono ?_
         rintro e w7 ⟨⟨r2, rfl, _, hr0, hr1⟩, rfl⟩
         clear hr1
         by_cases hneg : r2 < 0
         ·go_wp2_with fail
          go_quiet (fail)
          all_goals go_wp2
          all_goals go_ret2
          all_goals exact ⟨allZ_no 2 _ (by decide), HDR.out _⟩
         ·go_wp2
          go_roundw
          case rel => exact ⟨j + 1, by go_num, by omega, HBJ.out⟩
          case measure => simp [intOf]; omega
        ·have hj1 : ¬ (j : Int) < (x.after.length : Int) := by omega
         clear hbj
         go_wp2
         go_roundw
         case rel => exact ⟨i + 1, by omega, by go_num, HBJ.out⟩
         case measure => simp [intOf]; omega
      ·have hi1 : ¬ (i : Int) < (xs.length : Int) := by omega
       have CY := Lib.hid (CCY.out _ hbr)
       clear hbr
       go_wp2_with fail
       refine CY.out.mono ?_
       rintro e w8 ⟨⟨ca, cn, cc, nms, rfl, hnm⟩, hb8⟩
       obtain ⟨ca', cc', q, _, hcm, hcell⟩ := isStrs_cells hnm
       injection q with q1 q2 q3
       subst q1 q2 q3
       have HB8 := Lib.hid (HBR.out.trans (hb8.mono HBR.out.size))
       have HDR : Hid (∀ n, Below w.heap.size w (w8.drewN n)) := by show ∀ n, _; exact fun n => below_drewN HB8.out n
       unfold maxLen at hcm
       clear hnm hb8
       by_cases hpos : 0 < nms.length
       ·obtain ⟨s, hs⟩ : ∃ s, nms[0]? = some s := ⟨nms[0], List.getElem?_eq_getElem hpos⟩
        obtain ⟨sb, so, hsb, hsc⟩ := hcell 0 s hs
        have z0 := hsc _ (Below.refl _ _)
        rw [Nat.add_zero] at z0
        subst hsb
        have hp1 : (0 : Int) < (nms.length : Int) := by omega
        clear hsc hs hcell
        go_wp2_with fail
        go_quiet (fail)
        all_goals go_wp2
        all_goals go_ret2
        all_goals exact ⟨allZ_no 3 _ (by decide), HDR.out _⟩
       ·have hp1 : ¬ (0 : Int) < (nms.length : Int) := by omega
        clear hcell
        go_wp2
        go_ret2
        exact ⟨⟨0, _, rfl, fun _ => ⟨HALL.out, HONE.out⟩⟩, HB8.out⟩
end Go.Proofs.YtlmnabhhgplhnaaGreatDoor
