/- The library's stable sort of rules. Rules of one's own, sorted by the library's stable sort. Plain facts of sorted rules: sorted twice is sorted once; names and lists rise; how long the texts are. -/
import Derived.Test.YtlmnabhhgplhnaaGreatDoorSymB
import Derived.Test.YtlmnabhhgplhnaaGreatDoorMpri
import Derived.Lib.ItoaLen
import Derived.Test.YtlmnabhhgplhnaaGreatDoorMprq
namespace Go.Proofs.YtlmnabhhgplhnaaGreatDoor
open Go.RowKit Go.Shelf Go.Sort

def srRen : Go.Shelf.Ren := ⟨fun | 20 => 118 | n => n, fun | 0 => 0 | 3 => 3 | 4 => 4 | 22 => 22 | 24 => 38 | 25 => 84 | n => n, fun n => n⟩
theorem lSr : Go.Proofs.SlLaysF0.n20 Tryz.prog srRen := {
 mixed := by kernel_rfl
 f20 := ⟨"slices.insertionSortCmpFunc[shipwright/api.Rule]", by decide, Tryz.func118.trans (congrArg some (by kernel_rfl))⟩
 t0 := Tryz.underlying0
 a0 := Tryz.isAgg0
 z0 := Tryz.sizeOf0
 v0 := Tryz.zeroValue0
 t3 := Tryz.underlying3
 a3 := Tryz.isAgg3
 z3 := Tryz.sizeOf3
 v3 := Tryz.zeroValue3
 t4 := Tryz.underlying4
 a4 := Tryz.isAgg4
 z4 := Tryz.sizeOf4
 v4 := Tryz.zeroValue4
 t22 := Tryz.underlying22
 a22 := Tryz.isAgg22
 z22 := Tryz.sizeOf22
 v22 := Tryz.zeroValue22
 t25 := Tryz.underlying84
 a25 := Tryz.isAgg84
 z25 := Tryz.sizeOf84
 v25 := Tryz.zeroValue84 }

theorem cmp_lays (blk size : Nat) (w : World) : CmpLays Tryz.prog 47 #[] enc5 5 cf5 blk 0 size w := by
 intro m os dk _ x y
 have := cmp5_any x y (sortWorldK enc5 5 w blk 0 m dk os)
 rw [Array.append_empty]
 refine this.mono ?_
 rintro e w' ⟨rfl, rfl⟩
 exact ⟨rfl, 0, #[.cells (enc5 x).toArray 38] ++ #[.cells (enc5 y).toArray 38], by rw [alloc_eq_grow, alloc_eq_grow, grow_grow]; rfl⟩

/-- A block of the row, sorted by insertion. -/
theorem ins_c (w0 : World) (blk cap : Nat) (A M C : List E5) (W : World) (R : R5 w0 blk (A ++ (M ++ C)).length) (h : SWL w0 blk (A ++ (M ++ C)) W) (hn : (A ++ (M ++ C)).length ≤ 1048576) :
  ∃ T, St le5 M T ∧ T.length = M.length ∧ Calls Tryz.prog 118 #[.slice (some ⟨blk, 0, none⟩) (A ++ (M ++ C)).length cap, .int .i64 (A.length : Int), .int .i64 ((A.length + M.length : Nat) : Int), .func (.func 47) #[] #[]] W fun e w' => e = .returned (.tuple #[]) ∧ SWL w0 blk (A ++ (T ++ C)) w' := by
 obtain ⟨T, hT, hst⟩ := insertion_list (lt := ltOf cf5) (le := le5) lt_le pre5 A M C
 have hTl : T.length = M.length := by rw [St.unique pre5 hst (st_mergeSort pre5 M), List.length_mergeSort]
 refine ⟨T, hst, hTl, ?_⟩
 obtain ⟨d0, hd, R⟩ := R
 have hh := SWK.holds h R.hblk R.hH (by simpa using hd.symm)
 have key := AnyQ.insertionSortCmpFunc lSr 5 Tryz.isAgg38 Tryz.sizeOf38 enc5 R.hk R.h1 cf5 47 #[] blk 0 cap A.length (A.length + M.length) (A ++ (M ++ C)).toArray W (enters_of Tryz.func47 (by kernel_rfl) rfl) (cmp_lays blk _ W) hh (SWK.lt h R.hblk) (by omega) (by simp) (by simp only [List.size_toArray]; omega)
 rw [List.size_toArray] at key
 refine key.mono ?_
 rintro e w' ⟨rfl, n, os, rfl⟩
 refine ⟨rfl, ?_⟩
 simp only [List.append_assoc] at hT
 rw [hT]
 exact SWK.on h R.hblk n (A ++ (T ++ C)).toArray os (by simp; omega)

def Same (xs ys : List E5) : Prop := ∀ k, ys.filter (eqv le5 k) = xs.filter (eqv le5 k)
theorem Same.mid {l A M T C : List E5} (h : Same l (A ++ (M ++ C))) (hs : Same M T) : Same l (A ++ (T ++ C)) := fun k => by
 rw [← h k]
 simp only [List.filter_append, hs k]

set_option maxHeartbeats 4000000 in
set_option maxRecDepth 100000 in
theorem stable_c (w0 : World) (blk cap n : Nat) (l : List E5) (W : World) (R : R5 w0 blk n) (hl : l.length = n) (h : SWL w0 blk l W) (hn : n ≤ 1048576) :
  Calls Tryz.prog 89 #[.slice (some ⟨blk, 0, none⟩) n cap, .int .i64 (n : Int), .func (.func 47) #[] #[]] W fun e w' => e = .returned (.tuple #[]) ∧ ∃ ys, St le5 l ys ∧ SWL w0 blk ys w' := by
 have INS : Hid (∀ (A M C : List E5) (w' : World), (A ++ (M ++ C)).length = n → SWL w0 blk (A ++ (M ++ C)) w' → ∃ T, St le5 M T ∧ T.length = M.length ∧ Calls Tryz.prog 118 #[.slice (some ⟨blk, 0, none⟩) n cap, .int .i64 (A.length : Int), .int .i64 ((A.length + M.length : Nat) : Int), .func (.func 47) #[] #[]] w' fun e w'' => e = .returned (.tuple #[]) ∧ SWL w0 blk (A ++ (T ++ C)) w'') := by
  show ∀ (A M C : List E5) (w' : World), _
  intro A M C w' hln hs
  have := ins_c w0 blk cap A M C w' (by rw [hln]; exact R) hs (by omega)
  rw [hln] at this
  exact this
 have SYM : Hid (∀ A L R B : List E5, SymOf w0 blk cap n A L R B) := by
  show ∀ A L R B : List E5, _
  intro A L R' B
  exact sym_c w0 blk cap n R hn _ A L R' B (Nat.le_refl _)
 have H0 := Lib.hid h
 have HL := Lib.hid hl
 clear h hl R
 go_enter Tryz.func89, Tryz.ntmps89
 go_wp2_with fail
 go_loopw [7, 8] (fun av bv wr => ∃ c l2 : List E5, av = .int .i64 (c.length : Int) ∧ bv = .int .i64 ((c.length + 20 : Nat) : Int) ∧ Ful le5 20 c ∧ Same l (c ++ l2) ∧ c.length + l2.length = n ∧ SWL w0 blk (c ++ l2) wr) (fun a _ _ => n - (intOf a).toNat)
 case atStart => exact ⟨[], l, rfl, rfl, .nil, fun _ => rfl, by rw [HL.out]; simp, H0.out⟩
 case round =>
  clear H0
  obtain ⟨c, l2, rfl, rfl, hf, hsm, hcl, hw⟩ := hrel
  obtain ⟨p, hp⟩ : ∃ p, c.length = p := ⟨_, rfl⟩
  have HP := Lib.hid hp; have HF := Lib.hid hf; have HSM := Lib.hid hsm; have HW := Lib.hid hw
  have HCL := Lib.hid hcl
  rw [hp] at hcl ⊢
  by_cases hlt : p + 20 ≤ n
  ·obtain ⟨M, C, hM, hMl⟩ : ∃ M C, l2 = M ++ C ∧ M.length = 20 := ⟨l2.take 20, l2.drop 20, (List.take_append_drop _ _).symm, by rw [List.length_take]; omega⟩
   subst hM
   obtain ⟨T, hst, hTl, cI⟩ := INS.out c M C wr (by rw [← HCL.out, List.length_append]) hw
   rw [hp, hMl] at cI
   have CI := Lib.hid cI
   have HT := Lib.hid (show St le5 M T ∧ T.length = 20 from ⟨hst, by omega⟩)
   have i1 : ((p + 20 : Nat) : Int) ≤ (n : Int) := by omega
   obtain ⟨q, hq⟩ : ∃ q, p + 20 = q := ⟨_, rfl⟩
   have HQ := Lib.hid hq
   rw [hq] at i1 CI ⊢
   have i2 : IntKind.i64.wrap ((q : Int) + 20) = (q : Int) + 20 := IntWalk.i64_in _ (by omega)
   clear hp hf hsm hw hst hTl cI hcl hMl hq hlt
   go_wp2_with fail
   refine CI.out.mono ?_
   rintro e w2 ⟨rfl, hs2⟩
   have HS2 := Lib.hid hs2
   clear hs2 CI
   go_wp2
   go_roundw
   case rel =>
    have hq := HQ.out
    have ht := HT.out
    have hpp := HP.out
    have hcl := HCL.out
    have hMl := ht.2
    refine ⟨c ++ T, C, ?_, ?_, HF.out.snoc ht.2 ht.1.sorted, ?_, ?_, ?_⟩
    ·rw [List.length_append]; congr 1; omega
    ·rw [List.length_append]; congr 1; omega
    ·rw [List.append_assoc]; exact HSM.out.mid ht.1.same
    ·rw [List.length_append] at hcl ⊢
     have := congrArg List.length (St.unique pre5 ht.1 (st_mergeSort pre5 M))
     rw [List.length_mergeSort] at this
     omega
    ·rw [List.append_assoc]; exact HS2.out
   case measure => have hq := HQ.out; simp [intOf]; omega
  ·obtain ⟨WR, rfl⟩ : ∃ V, V = wr := ⟨_, rfl⟩
   obtain ⟨T, hst, hTl, cI⟩ := INS.out c l2 [] WR (by rw [List.append_nil, List.length_append]; exact HCL.out) (by rw [List.append_nil]; exact hw)
   rw [hp, hcl] at cI
   have hblk : Blk le5 20 (c ++ T) := hf.blk (.last T (by omega) hst.sorted)
   have hsame : Same l (c ++ T) := by have := Same.mid (C := []) (by simpa using hsm) hst.same; simpa using this
   have hlen : (c ++ T).length = n := by rw [List.length_append]; omega
   have i1 : ¬ ((p + 20 : Nat) : Int) ≤ (n : Int) := by omega
   obtain ⟨cur, hcur⟩ : ∃ cur, c ++ T = cur := ⟨_, rfl⟩
   rw [List.append_nil, hcur] at cI
   rw [hcur] at hblk hsame hlen
   obtain ⟨q, hq⟩ : ∃ q, p + 20 = q := ⟨_, rfl⟩
   rw [hq] at i1 ⊢
   have CI := Lib.hid cI; have HB := Lib.hid hblk; have HSA := Lib.hid hsame; have HLE := Lib.hid hlen
   clear HP HF HSM HW HCL hp hf hsm hw hst hTl cI hcl hq hlt hcur hblk hsame hlen T l2 INS
   go_wp2_with fail
   refine CI.out.mono ?_
   rintro e w2 ⟨rfl, hs2⟩
   have HS2 := Lib.hid hs2
   clear hs2 CI
   go_wp2_with fail
   go_loopw [6] (fun sv wr => ∃ (s : Nat) (cur : List E5), sv = .int .i64 (s : Int) ∧ 0 < s ∧ s ≤ 4194304 ∧ Blk le5 s cur ∧ Same l cur ∧ cur.length = n ∧ SWL w0 blk cur wr) (fun sv _ => n - (intOf sv).toNat)
   case atStart => exact ⟨20, cur, rfl, by omega, by omega, HB.out, HSA.out, HLE.out, HS2.out⟩
   case round =>
    clear HB HSA HLE HS2 cur
    obtain ⟨s, cur, rfl, hs0, hs1, hb, hsm, hcl, hw⟩ := hrel
    by_cases hlt2 : s < n
    ·have i1 : (s : Int) < (n : Int) := by omega
     have j1 : IntKind.i64.wrap (2 * (s : Int)) = 2 * (s : Int) := IntWalk.i64_in _ (by omega)
     have j2 : IntKind.i64.wrap ((s : Int) * 2) = (s : Int) * 2 := IntWalk.i64_in _ (by omega)
     have HB := Lib.hid hb; have HSM := Lib.hid hsm; have HCL := Lib.hid hcl; have HW := Lib.hid hw
     obtain ⟨WQ, rfl⟩ : ∃ V, V = wr := ⟨_, rfl⟩
     clear hb hsm hcl hw
     go_wp2_with fail
     go_loopw [7, 8] (fun av bv wr => ∃ c l2 : List E5, av = .int .i64 (c.length : Int) ∧ bv = .int .i64 ((c.length + 2 * s : Nat) : Int) ∧ Ful le5 (2 * s) c ∧ Blk le5 s l2 ∧ Same l (c ++ l2) ∧ c.length + l2.length = n ∧ SWL w0 blk (c ++ l2) wr) (fun a _ _ => n - (intOf a).toNat)
     case atStart => exact ⟨[], cur, rfl, by simp, .nil, HB.out, HSM.out, by rw [HCL.out]; simp, HW.out⟩
     case round =>
      clear HB HSM HCL HW cur
      obtain ⟨c, l2, rfl, rfl, hf, hb, hsm, hcl, hw⟩ := hrel
      obtain ⟨p, hp⟩ : ∃ p, c.length = p := ⟨_, rfl⟩
      have HP := Lib.hid hp; have HF := Lib.hid hf; have HSM := Lib.hid hsm
      have HCL := Lib.hid hcl
      rw [hp] at hcl ⊢
      by_cases hlt : p + 2 * s ≤ n
      ·obtain ⟨X, Y, Z, hM, hX, hY, sX, sY, hZ⟩ := hb.two hs0 (by omega)
       subst hM
       have hln : X.length + Y.length + Z.length + p = n := by rw [← hcl]; simp only [List.length_append]; omega
       have cS := SYM.out c X Y Z wr (by simp only [List.length_append]; omega) (by omega) (by omega) sX sY (by simpa using hw)
       rw [hp, hX, hY] at cS
       have CS := Lib.hid cS
       have HT := Lib.hid (show X.length = s ∧ Y.length = s ∧ Srt le5 X ∧ Srt le5 Y ∧ Blk le5 s Z from ⟨hX, hY, sX, sY, hZ⟩)
       have i2 : ((p + 2 * s : Nat) : Int) ≤ (n : Int) := by omega
       obtain ⟨q, hq⟩ : ∃ q, p + 2 * s = q := ⟨_, rfl⟩
       have hq2 : p + s + s = q := by omega
       have HQ := Lib.hid hq
       rw [hq2] at CS
       rw [hq] at i2 ⊢
       obtain ⟨m, hm⟩ : ∃ m, p + s = m := ⟨_, rfl⟩
       rw [hm] at CS
       have i3 : (p : Int) + (s : Int) = (m : Int) := by omega
       have i4 : IntKind.i64.wrap (m : Int) = (m : Int) := IntWalk.i64_in _ (by omega)
       have i5 : IntKind.i64.wrap ((q : Int) + 2 * (s : Int)) = (q : Int) + 2 * (s : Int) := IntWalk.i64_in _ (by omega)
       clear hp hf hb hsm hw hcl hX hY sX sY hZ cS hq hq2 hm hlt hln
       go_wp2_with fail
       refine CS.out.mono ?_
       rintro e w2 ⟨rfl, hs2⟩
       have HS2 := Lib.hid hs2
       clear hs2 CS
       go_wp2
       go_roundw
       case rel =>
        have hq := HQ.out
        have ht := HT.out
        have hpp := HP.out
        have hcl := HCL.out
        have hml : (List.merge X Y le5).length = 2 * s := by rw [List.length_merge]; omega
        refine ⟨c ++ List.merge X Y le5, Z, ?_, ?_, HF.out.snoc hml (merge_srt pre5 ht.2.2.1 ht.2.2.2.1), ht.2.2.2.2, ?_, ?_, ?_⟩
        ·rw [List.length_append]; congr 1; omega
        ·rw [List.length_append]; congr 1; omega
        ·rw [List.append_assoc]
         have h1 : Same l (c ++ ((X ++ Y) ++ Z)) := by have := HSM.out; simpa using this
         exact h1.mid (st_merge pre5 ht.2.2.1 ht.2.2.2.1).same
        ·simp only [List.length_append] at hcl ⊢; omega
        ·rw [List.append_assoc]; exact HS2.out
       case measure => have hq := HQ.out; simp [intOf]; omega
      ·have i2 : ¬ ((p + 2 * s : Nat) : Int) ≤ (n : Int) := by omega
       obtain ⟨m, hm⟩ : ∃ m, p + s = m := ⟨_, rfl⟩
       obtain ⟨q, hq⟩ : ∃ q, p + 2 * s = q := ⟨_, rfl⟩
       rw [hq] at i2 ⊢
       have i3 : (p : Int) + (s : Int) = (m : Int) := by omega
       have i4 : IntKind.i64.wrap (m : Int) = (m : Int) := IntWalk.i64_in _ (by omega)
       by_cases hmn : m < n
       ·obtain ⟨X, Z, hM, hX, sX, hZ⟩ := hb.front (by omega)
        subst hM
        have hzl : X.length + Z.length + p = n := by rw [← hcl]; simp only [List.length_append]; omega
        have sZ := hZ.one (by omega)
        have cS := SYM.out c X Z [] wr (by simp only [List.length_append, List.length_nil]; omega) (by omega) (by omega) sX sZ (by simpa using hw)
        rw [hp, hX, hm, show m + Z.length = n by omega, List.append_nil] at cS
        have CS := Lib.hid cS
        have i5 : (m : Int) < (n : Int) := by omega
        have hB2 : Blk le5 (2 * s) (c ++ List.merge X Z le5) := hf.blk (.last _ (by rw [List.length_merge]; omega) (merge_srt pre5 sX sZ))
        have hS2 : Same l (c ++ List.merge X Z le5) := by
         have h1 : Same l (c ++ ((X ++ Z) ++ [])) := by simpa using hsm
         have := h1.mid (st_merge pre5 sX sZ).same
         simpa using this
        have hL2 : (c ++ List.merge X Z le5).length = n := by rw [List.length_append, List.length_merge]; omega
        have FIN := Lib.hid (show Blk le5 (2 * s) (c ++ List.merge X Z le5) ∧ Same l (c ++ List.merge X Z le5) ∧ (c ++ List.merge X Z le5).length = n from ⟨hB2, hS2, hL2⟩)
        clear hp hf hb hsm hw hcl hX sX sZ hZ cS hq hm hlt hzl hB2 hS2 hL2 hmn HP HF HSM HCL
        go_wp2_with fail
        refine CS.out.mono ?_
        rintro e w2 ⟨rfl, hs2⟩
        have HS2 := Lib.hid hs2
        clear hs2 CS
        go_wp2
        go_roundw
        case rel => exact ⟨2 * s, _, by congr 1; omega, by omega, by omega, FIN.out.1, FIN.out.2.1, FIN.out.2.2, HS2.out⟩
        case measure => simp [intOf]; omega
       ·have i5 : ¬ (m : Int) < (n : Int) := by omega
        have s2 := hb.one (by omega)
        have FIN := Lib.hid (show Blk le5 (2 * s) (c ++ l2) ∧ Same l (c ++ l2) ∧ (c ++ l2).length = n ∧ SWL w0 blk (c ++ l2) wr from ⟨hf.blk (.last _ (by omega) s2), hsm, by rw [List.length_append]; omega, hw⟩)
        clear hp hf hb hsm hw hcl s2 hq hm hlt hmn HP HF HSM HCL
        go_wp2
        go_roundw
        case rel => exact ⟨2 * s, _, by congr 1; omega, by omega, by omega, FIN.out.1, FIN.out.2.1, FIN.out.2.2.1, FIN.out.2.2.2⟩
        case measure => simp [intOf]; omega
    ·have i1 : ¬ (s : Int) < (n : Int) := by omega
     have FIN := Lib.hid (show ∃ ys, St le5 l ys ∧ SWL w0 blk ys wr from ⟨cur, ⟨hb.one (by omega), hsm⟩, hw⟩)
     clear hb hsm hcl hw
     go_wp2
     go_end0
     exact ⟨rfl, FIN.out⟩

set_option maxRecDepth 100000 in
theorem sortStable_c (w0 : World) (blk cap n : Nat) (l : List E5) (W : World) (R : R5 w0 blk n) (hl : l.length = n) (h : SWL w0 blk l W) (hn : n ≤ 1048576) :
  Calls Tryz.prog 46 #[.slice (some ⟨blk, 0, none⟩) n cap, .func (.func 47) #[] #[]] W fun e w' => e = .returned (.tuple #[]) ∧ ∃ ys, St le5 l ys ∧ SWL w0 blk ys w' := by
 have C := Lib.hid (stable_c w0 blk cap n l W R hl h hn)
 clear R hl h
 go_enter Tryz.func46, Tryz.ntmps46
 go_wp2_with fail
 refine C.out.mono ?_
 rintro e w2 ⟨rfl, ys, h1, h2⟩
 have F := Lib.hid (show ∃ ys, St le5 l ys ∧ SWL w0 blk ys w2 from ⟨ys, h1, h2⟩)
 clear h1 h2
 go_wp2
 go_end0
 exact ⟨rfl, F.out⟩

end Go.Proofs.YtlmnabhhgplhnaaGreatDoor
namespace Go.Proofs.YtlmnabhhgplhnaaGreatDoor
open Go.RowKit Go.Shelf Go.Sort

theorem cmp_lt : ∀ a b : List UInt8, a < b ↔ Lib.compareBytes a b < 0
 | [], [] => by simp [Lib.compareBytes]
 | [], _ :: _ => by simp [Lib.compareBytes]
 | _ :: _, [] => by simp [Lib.compareBytes]
 | a :: xs, b :: ys => by
  rw [List.cons_lt_cons_iff, cmp_lt xs ys]
  have e : Lib.compareBytes (a :: xs) (b :: ys) = if a < b then -1 else if b < a then 1 else Lib.compareBytes xs ys := by rw [Lib.compareBytes]
  rw [e]
  by_cases h1 : a < b
  ·rw [if_pos h1]; simp [h1]
  ·by_cases h2 : b < a
   ·rw [if_neg h1, if_pos h2]
    have : a ≠ b := fun e => h1 (by subst e; exact h2)
    simp [h1, this]
   ·rw [if_neg h1, if_neg h2]
    have : a = b := UInt8.le_antisymm (UInt8.not_lt.1 h2) (UInt8.not_lt.1 h1)
    simp [this]
theorem name_le5 {p q : E5} {x y : RuleS} (hp : p.1 = x.name) (hq : q.1 = y.name) : le5 p q = nameLe x y := by
 unfold le5 cf5 nameLe
 rw [hp, hq, Bool.eq_iff_iff]
 simp only [decide_eq_true_eq]
 rw [← List.not_lt, cmp_lt, cmp_anti]
 omega
theorem flat5_at : ∀ (l : List E5) (t : Nat), t < l.length * 5 → ((l.map enc5).flatten)[t]? = some (enc5 l[t / 5]!)[t % 5]!
 | [], t, h => by simp at h
 | x :: l, t, h => by
  simp only [List.map_cons, List.flatten_cons]
  by_cases ht : t < 5
  ·rw [List.getElem?_append_left (by rw [enc5_len]; exact ht), Nat.div_eq_of_lt ht, Nat.mod_eq_of_lt ht]
   rw [List.getElem?_eq_getElem (by rw [enc5_len]; exact ht), getElem!_pos _ t (by show t < (enc5 ((x :: l)[0]!)).length; rw [enc5_len]; exact ht)]
   rfl
  ·rw [List.getElem?_append_right (by rw [enc5_len]; omega), enc5_len, flat5_at l (t - 5) (by simp at h; omega)]
   rw [show t / 5 = (t - 5) / 5 + 1 by omega, show t % 5 = (t - 5) % 5 by omega]
   simp
theorem flat5_len : ∀ l : List E5, ((l.map enc5).flatten).length = l.length * 5
 | [] => by simp
 | x :: l => by simp only [List.map_cons, List.flatten_cons, List.length_append, flat5_len l, enc5_len, List.length_cons]; omega
/-- Outside the row's block a sort changes nothing. -/
theorem SWL.fr {w0 W : World} {blk : Nat} {l : List E5} (h : SWL w0 blk l W) : Fr (fun b => b = blk) w0 W := by
 have hle := h.le
 obtain ⟨m, os, rfl⟩ := h
 refine ⟨rfl, rfl, rfl, hle, fun k hk hne => ?_⟩
 show ((w0.heap.modify blk (onCells (putCells id 0 (flatK enc5 5 l.toArray)))) ++ os)[k]? = w0.heap[k]?
 rw [Array.getElem?_append_left (by rw [Array.size_modify]; exact hk), Array.getElem?_modify, if_neg (fun e => hne e.symm)]
/-- The row's block behind a sort. -/
theorem SWL.block {w0 W : World} {blk : Nat} {l : List E5} {cur : Array Value} {T : TypeId} {fz : Nat × Nat} (h : SWL w0 blk l W) (hb : w0.heap[blk]? = some (.cells cur T fz)) : ∃ cur', W.heap[blk]? = some (.cells cur' T fz) ∧ cur'.size = cur.size := by
 obtain ⟨m, os, rfl⟩ := h
 have hlt := (Array.getElem?_eq_some_iff.1 hb).1
 refine ⟨putCells id 0 (flatK enc5 5 l.toArray) cur, ?_, by unfold putCells; simp⟩
 show ((w0.heap.modify blk (onCells (putCells id 0 (flatK enc5 5 l.toArray)))) ++ os)[blk]? = _
 rw [Array.getElem?_append_left (by rw [Array.size_modify]; exact hlt), Array.getElem?_modify, if_pos rfl, hb]
 rfl
/-- A list of rules as pairs: the cells and what they mean. -/
theorem pairs_of {Q : List Value → RuleS → Prop} (hQ : ∀ r x, Q r x → ∃ e : E5, r = enc5 e ∧ e.1 = x.name) : ∀ (rows : List (List Value)) (xs : List RuleS), AllA Q rows xs →
  ∃ L : List (E5 × RuleS), rows = L.map (fun p => enc5 p.1) ∧ xs = L.map Prod.snd ∧ ∀ p ∈ L, Q (enc5 p.1) p.2 ∧ p.1.1 = p.2.name
 | [], [], _ => ⟨[], rfl, rfl, by simp⟩
 | [], _ :: _, h => by have := h.1; simp at this
 | _ :: _, [], h => by have := h.1; simp at this
 | r :: rows, x :: xs, h => by
  obtain ⟨e, he, hn⟩ := hQ r x (h.2 0 r x rfl rfl)
  obtain ⟨L, h1, h2, h3⟩ := pairs_of hQ rows xs ⟨by have := h.1; simpa using this, fun j r' x' hr hx => h.2 (j + 1) r' x' (by simpa using hr) (by simpa using hx)⟩
  refine ⟨(e, x) :: L, by rw [h1, he]; rfl, by rw [h2]; rfl, fun p hp => ?_⟩
  rcases List.mem_cons.1 hp with rfl | hp
  ·exact ⟨he ▸ h.2 0 r x rfl rfl, hn⟩
  ·exact h3 p hp
theorem rule_enc {Av : Nat → Prop} {w : World} {r : List Value} {x : RuleS} (h : RuleA Av w r x) : ∃ e : E5, r = enc5 e ∧ e.1 = x.name := by
 obtain ⟨vi, vo, vf, vs, rfl, h1, h2, h3, h4⟩ := h
 obtain ⟨a1, n1, c1, rfl⟩ := rowA_shape h1
 obtain ⟨a2, n2, c2, rfl⟩ := rowA_shape h2
 obtain ⟨a3, n3, c3, rfl⟩ := rowA_shape h3
 obtain ⟨a4, c4, rfl, _, _⟩ := stepsA_len h4
 exact ⟨(x.name, (a1, n1, c1), (a2, n2, c2), (a3, n3, c3), (a4, x.steps.length, c4)), rfl, rfl⟩

set_option maxRecDepth 100000 in
theorem sorts_any (B : Nat) (xs : List RuleS) (hn : xs.length ≤ 1048576) : SortsTo B xs (xs.mergeSort nameLe) := by
 intro a n c W hO hB
 obtain ⟨rows, hrow, hall⟩ := hO
 obtain ⟨L, rfl, rfl, hL⟩ := pairs_of (fun r x h => rule_enc h) rows _ hall
 have hLl : (L.map (fun p => enc5 p.1)).length = L.length := by simp
 by_cases h1 : L.length ≤ 1
 ·have hms : (L.map Prod.snd).mergeSort nameLe = L.map Prod.snd := by
   match L, h1 with
   | [], _ => simp
   | [p], _ => simp
  rw [hms]
  exact sorts_tiny B _ (by simpa using h1) a n c W ⟨_, hrow, hall⟩ hB
 ·obtain ⟨hlen, hcase⟩ := id hrow
  rcases hcase with ⟨_, h0⟩ | ⟨g, cap, cur, hv, hBg, hg, hnc, hcm, hcs, hct⟩
  ·rw [hLl] at h0; omega
  ·injection hv with q1 q2 q3
   subst q1 q2 q3
   rw [hLl] at hrow hnc hct hall ⊢
   rw [List.length_map] at hn
   have hgl := (Array.getElem?_eq_some_iff.1 hg).1
   obtain ⟨es, hes⟩ : ∃ es, L.map Prod.fst = es := ⟨_, rfl⟩
   have hrows : L.map (fun p => enc5 p.1) = es.map enc5 := by rw [← hes, List.map_map]; rfl
   have hel : es.length = L.length := by rw [← hes, List.length_map]
   have hH : HoldsK enc5 5 W g 0 es.toArray := by
    intro j hj
    rw [size_flatK, List.size_toArray, hel] at hj
    rw [Nat.zero_add, get_flatK _ _ _ _ (by rw [List.size_toArray, hel]; exact hj)]
    refine ⟨?_, hrow.frozenAt j⟩
    rw [hrow.cellAt j hj, hrows, flat5_at es j (by rw [hel]; exact hj)]
    simp
   have R : R5 W g es.length := ⟨es.toArray, by simp, enc5_len, enc5_one, hH, hgl⟩
   have hS : SWL W g es W := SWK.start hH
   have key := sortStable_c W g c es.length es W R rfl hS (by omega)
   rw [hel] at key
   refine key.mono ?_
   rintro e w' ⟨rfl, ys, hst, hs⟩
   have hys : ys = es.mergeSort le5 := St.unique pre5 hst (st_mergeSort pre5 es)
   obtain ⟨P, hP⟩ : ∃ P, L.mergeSort (fun p q => le5 p.1 q.1) = P := ⟨_, rfl⟩
   have hperm : P.Perm L := by rw [← hP]; exact List.mergeSort_perm _ _
   have e1 : P.map Prod.fst = ys := by
    rw [hys, ← hes, ← hP]
    exact List.map_mergeSort (fun p _ q _ => rfl)
   have e2 : P.map Prod.snd = (L.map Prod.snd).mergeSort nameLe := by
    rw [← hP]
    refine List.map_mergeSort (fun p hp q hq => ?_)
    exact name_le5 (hL p hp).2 (hL q hq).2
   have hPl : P.length = L.length := hperm.length_eq
   have hyl : ys.length = L.length := by rw [← e1, List.length_map, hPl]
   obtain ⟨cur', hg', hcs'⟩ := hs.block hg
   have hfr := hs.fr
   have hhold := hs.holds (by rw [hyl, ← hel]; exact R)
   refine ⟨rfl, ⟨ys.map enc5, ⟨by rw [flat5_len, List.length_map], .inr ⟨g, c, cur', by rw [List.length_map, hyl], hBg, hg', by rw [List.length_map, hyl]; exact hnc, hcm, by rw [hcs']; exact hcs, ?_⟩⟩, ?_⟩, ⟨hfr.os, hfr.tape, hfr.output, hfr.size, fun k hk => hfr.block k (by omega) (by omega)⟩⟩
   ·rw [List.length_map]
    refine List.ext_getElem? fun j => ?_
    by_cases hj : j < ys.length * 5
    ·rw [List.getElem?_take_of_lt hj, flat5_at ys j hj]
     have := (hhold j (by rw [size_flatK, List.size_toArray]; exact hj)).1
     rw [Nat.zero_add, get_flatK _ _ _ _ (by rw [List.size_toArray]; exact hj)] at this
     unfold World.cell? at this
     rw [hg'] at this
     simpa using this
    ·rw [List.getElem?_eq_none (by rw [List.length_take]; omega), List.getElem?_eq_none (by rw [flat5_len]; omega)]
   ·rw [← e1, ← e2, List.map_map]
    refine ⟨by simp, fun j r x hr hx => ?_⟩
    rw [List.getElem?_map] at hr hx
    cases hpj : P[j]? with
    | none => rw [hpj] at hr; cases hr
    | some p =>
     rw [hpj] at hr hx
     simp only [Option.map_some, Option.some.injEq] at hr hx
     subst hr hx
     have hp := hL p (hperm.mem_iff.1 (List.mem_of_getElem? hpj))
     exact RuleA.keep hp.1 (hfr.mono fun b _ hb => .inr (by subst hb; rfl))
end Go.Proofs.YtlmnabhhgplhnaaGreatDoor
namespace Go.Proofs.YtlmnabhhgplhnaaGreatDoor
open Go.RowKit Go.Shelf

theorem bless_lt : ∀ a b : List UInt8, Op.bytesLess a b = decide (a < b)
 | a, [] => by cases a <;> simp [Op.bytesLess]
 | [], _ :: _ => by simp [Op.bytesLess]
 | x :: a, y :: b => by
  rw [Op.bytesLess, bless_lt a b, Bool.eq_iff_iff]
  simp only [Bool.or_eq_true, Bool.and_eq_true, decide_eq_true_eq, beq_iff_eq, List.cons_lt_cons_iff]
theorem bless_false {a b : List UInt8} (h : a ≤ b) : Op.bytesLess b a = false := by
 rw [bless_lt, decide_eq_false_iff_not]
 exact List.not_lt.2 h
theorem srtL_pw (l : List (List UInt8)) : (srtL l).Pairwise fun x y => decide (x ≤ y) = true := by
 unfold srtL
 refine List.pairwise_mergeSort (fun a b c h1 h2 => ?_) (fun a b => ?_) l
 ·simp only [decide_eq_true_eq] at h1 h2 ⊢; exact List.le_trans h1 h2
 ·simp only [Bool.or_eq_true, decide_eq_true_eq]; exact List.le_total a b
theorem srtL_idem (l : List (List UInt8)) : srtL (srtL l) = srtL l := by
 conv => lhs; unfold srtL
 exact List.mergeSort_of_pairwise (srtL_pw l)
theorem srtB_idem (xs : List ByteArray) : srtB (srtB xs) = srtB xs := by
 show (srtL ((srtB xs).map (·.data.toList))).map _ = _
 rw [srtB_data, srtL_idem]
 rfl
theorem sortR_idem (r : RuleS) : sortR (sortR r) = sortR r := by
 unfold sortR
 simp only [srtB_idem]
theorem nameLe_pw (l : List RuleS) : (l.mergeSort nameLe).Pairwise fun x y => nameLe x y = true := by
 refine List.pairwise_mergeSort (fun a b c h1 h2 => ?_) (fun a b => ?_) l
 ·unfold nameLe at *; simp only [decide_eq_true_eq] at h1 h2 ⊢; exact List.le_trans h1 h2
 ·unfold nameLe; simp only [Bool.or_eq_true, decide_eq_true_eq]; exact List.le_total _ _
theorem mem_sortRs {y : RuleS} {xs : List RuleS} (h : y ∈ sortRs xs) : ∃ x ∈ xs, sortR x = y := List.mem_map.1 ((List.mergeSort_perm _ _).mem_iff.1 h)
theorem sortRs_map (xs : List RuleS) : (sortRs xs).map sortR = sortRs xs := by
 have : ∀ y ∈ sortRs xs, sortR y = id y := fun y hy => by
  obtain ⟨x, _, rfl⟩ := mem_sortRs hy
  exact sortR_idem x
 rw [List.map_congr_left this, List.map_id]
theorem sortRs_idem (xs : List RuleS) : sortRs (sortRs xs) = sortRs xs := by
 show ((sortRs xs).map sortR).mergeSort nameLe = _
 rw [sortRs_map]
 exact List.mergeSort_of_pairwise (nameLe_pw _)
theorem sortRs_len (xs : List RuleS) : (sortRs xs).length = xs.length := by unfold sortRs; rw [List.length_mergeSort, List.length_map]
/-- Names rise. -/
theorem sortRs_rise {xs : List RuleS} {i : Nat} {x y : RuleS} (hx : (sortRs xs)[i]? = some x) (hy : (sortRs xs)[i + 1]? = some y) : Op.bytesLess y.name.data.toList x.name.data.toList = false := by
 obtain ⟨h1, rfl⟩ := List.getElem?_eq_some_iff.1 hx
 obtain ⟨h2, rfl⟩ := List.getElem?_eq_some_iff.1 hy
 have := List.pairwise_iff_getElem.1 (nameLe_pw (xs.map sortR)) i (i + 1) h1 h2 (by omega)
 exact bless_false (of_decide_eq_true this)
/-- A sorted rule's lists rise. -/
theorem srtB_rise {xs : List ByteArray} {i : Nat} {x y : ByteArray} (hx : (srtB xs)[i]? = some x) (hy : (srtB xs)[i + 1]? = some y) : Op.bytesLess y.data.toList x.data.toList = false := by
 have e1 : (srtL (xs.map (·.data.toList)))[i]? = some x.data.toList := by rw [← srtB_data, List.getElem?_map, hx]; rfl
 have e2 : (srtL (xs.map (·.data.toList)))[i + 1]? = some y.data.toList := by rw [← srtB_data, List.getElem?_map, hy]; rfl
 obtain ⟨h1, q1⟩ := List.getElem?_eq_some_iff.1 e1
 obtain ⟨h2, q2⟩ := List.getElem?_eq_some_iff.1 e2
 have := List.pairwise_iff_getElem.1 (srtL_pw (xs.map (·.data.toList))) i (i + 1) h1 h2 (by omega)
 rw [q1, q2] at this
 exact bless_false (by simpa using this)

/-! ### How long the texts are -/
theorem lens_le (m : Nat) : ∀ xs : List (List UInt8), (∀ x ∈ xs, x.length ≤ m) → Lib.lens xs ≤ xs.length * m
 | [], _ => by simp [Lib.lens]
 | x :: xs, h => by
  have h1 := lens_le m xs (fun y hy => h y (by simp [hy]))
  have h2 := h x (by simp)
  simp only [Lib.lens, List.map_cons, List.sum_cons, List.length_cons, Nat.succ_mul] at h1 ⊢
  omega
theorem clauseTx_len (key : List UInt8) (xs : List ByteArray) (n m : Nat) (h1 : xs.length ≤ n) (h2 : ∀ x ∈ xs, x.size ≤ m) : (clauseTx key xs).length ≤ key.length + 5 + n * (m + 2) := by
 unfold clauseTx
 split
 ·simp
 ·have j := join_len (srtL (xs.map (·.data.toList))) [44, 32]
  rw [lens_srt, srtL_len, List.length_map] at j
  have l := lens_le m (xs.map (·.data.toList)) (fun x hx => by
   obtain ⟨y, hy, rfl⟩ := List.mem_map.1 hx
   have := h2 y hy
   rw [Lib.size_eq] at this
   exact this)
  rw [List.length_map] at l
  have k : xs.length * (m + 2) ≤ n * (m + 2) := Nat.mul_le_mul_right _ h1
  rw [Nat.mul_add] at k
  simp only [List.length_append, List.length_cons, List.length_nil] at j ⊢
  omega
theorem stepTx_len {y : StepS} (h : SmallS y 1048576) (h1 : y.args.length ≤ 8) (h2 : y.lits.length ≤ 3) : (stepTx y).length ≤ 100000000 := by
 have h3 := h.n
 have hw : ∀ x ∈ (stepWs y).map (·.data.toList), x.length ≤ 5000000 := by
  intro x hx
  obtain ⟨z, hz, rfl⟩ := List.mem_map.1 hx
  unfold stepWs at hz
  simp only [List.mem_append, List.mem_cons, List.not_mem_nil, or_false] at hz
  rcases hz with (((rfl | rfl | rfl) | hz) | hz) | hz
  ·have := h.out; rw [Lib.size_eq] at this; omega
  ·simp
  ·have := opTx_len y.op; simp only at this ⊢; simp; omega
  ·split at hz
   ·simp only [List.mem_singleton] at hz
    subst hz
    have := Lib.itoa_length_le y.n h3.1 h3.2
    simp; omega
   ·simp at hz
  ·obtain ⟨l, hl, rfl⟩ := List.mem_map.1 hz
   have k1 := quote_len l.data.toList
   have k2 := h.lits.2 l hl
   rw [Lib.size_eq] at k2
   simp; omega
  ·have := h.args.2 z hz; rw [Lib.size_eq] at this; omega
 have j := join_len ((stepWs y).map (·.data.toList)) [32]
 have l := lens_le 5000000 _ hw
 rw [List.length_map] at j l
 have hlen : (stepWs y).length ≤ 15 := by
  unfold stepWs
  simp only [List.length_append, List.length_cons, List.length_nil, List.length_map]
  split
  ·simp only [List.length_cons, List.length_nil]; omega
  ·simp only [List.length_nil]; omega
 unfold stepTx
 simp only [List.length_append, List.length_cons, List.length_nil] at j ⊢
 omega
theorem ruleTx_len {x : RuleS} (h : SmallR x 1048576) (hs : ShortR x) : (ruleTx x).length ≤ 10000000000 := by
 have h1 := clauseTx_len [105, 110] x.ins 10 1048576 hs.ins h.ins.2
 have h2 := clauseTx_len [111, 117, 116] x.outs 6 1048576 hs.outs h.outs.2
 have h3 := clauseTx_len [97, 102, 116, 101, 114] x.after 10 1048576 hs.after h.after.2
 have h4 : ∀ l : List StepS, (∀ y ∈ l, SmallS y 1048576 ∧ y.args.length ≤ 8 ∧ y.lits.length ≤ 3) → ((l.map stepLn).flatten).length ≤ l.length * 100000003 := by
  intro l hl
  induction l with
  | nil => simp
  | cons y l ih =>
   have h5 := ih (fun z hz => hl z (by simp [hz]))
   obtain ⟨k1, k2, k3⟩ := hl y (by simp)
   have h6 := stepTx_len k1 k2 k3
   simp only [stepLn, List.map_cons, List.flatten_cons, List.length_append, List.length_cons, List.length_nil, Nat.succ_mul] at h5 ⊢
   omega
 have h5 := h4 x.steps (fun y hy => ⟨h.steps y hy, hs.each y hy⟩)
 have h6 := hs.steps
 have h7 := h.name
 rw [Lib.size_eq] at h7
 unfold ruleTx upTx headTx
 simp only [List.length_append, List.length_cons, List.length_nil] at h1 h2 h3 ⊢
 omega
theorem rulesTx_len : ∀ (l : List RuleS), (∀ x ∈ l, SmallR x 1048576 ∧ ShortR x) → (rulesTx l).length ≤ l.length * 10000000000
 | [], _ => by simp [rulesTx]
 | x :: l, h => by
  have h1 := rulesTx_len l (fun y hy => h y (by simp [hy]))
  have h2 := h x (by simp)
  have h3 := ruleTx_len h2.1 h2.2
  simp only [rulesTx, List.map_cons, List.flatten_cons, List.length_append, List.length_cons, Nat.succ_mul] at h1 ⊢
  omega
theorem mem_srtB {x : ByteArray} {xs : List ByteArray} (h : x ∈ srtB xs) : ∃ y ∈ xs, x.size = y.size := by
 unfold srtB at h
 obtain ⟨l, hl, rfl⟩ := List.mem_map.1 h
 obtain ⟨y, hy, rfl⟩ := List.mem_map.1 ((List.mergeSort_perm _ _).mem_iff.1 hl)
 exact ⟨y, hy, rfl⟩
theorem small_srtB {xs : List ByteArray} {m : Nat} (h : SmallL xs m) : SmallL (srtB xs) m := ⟨by rw [srtB_len]; exact h.1, fun x hx => by
 obtain ⟨y, hy, e⟩ := mem_srtB hx
 rw [e]; exact h.2 y hy⟩
theorem small_sortR {x : RuleS} {m : Nat} (h : SmallR x m) : SmallR (sortR x) m := ⟨h.name, small_srtB h.ins, small_srtB h.outs, small_srtB h.after, h.few, h.steps⟩
theorem short_sortR {x : RuleS} (h : ShortR x) : ShortR (sortR x) := ⟨by show (srtB x.ins).length ≤ 10; rw [srtB_len]; exact h.ins, by show (srtB x.outs).length ≤ 6; rw [srtB_len]; exact h.outs, by show (srtB x.after).length ≤ 10; rw [srtB_len]; exact h.after, h.steps, h.each⟩
theorem fit_of {x : RuleS} (h : SmallR x 1048576) (hs : ShortR x) : RuleFit x :=
 ⟨⟨by have := hs.ins; omega, by have := hs.outs; omega, by have := hs.after; omega, by have := hs.steps; omega⟩, fun y hy => ⟨by have := (hs.each y hy).1; have := (hs.each y hy).2; omega, fun l hl => by have := (h.steps y hy).lits.2 l hl; omega, (h.steps y hy).n, by have := stepTx_len (h.steps y hy) (hs.each y hy).1 (hs.each y hy).2; omega⟩, by have := ruleTx_len h hs; omega⟩
theorem few_short {x : RuleS} (hs : ShortR x) : FewR x :=
 ⟨by have := hs.ins; omega, by have := hs.outs; omega, by have := hs.after; omega, by have := hs.steps; omega, fun y hy => ⟨by have := (hs.each y hy).1; omega, by have := (hs.each y hy).2; omega⟩⟩
end Go.Proofs.YtlmnabhhgplhnaaGreatDoor
