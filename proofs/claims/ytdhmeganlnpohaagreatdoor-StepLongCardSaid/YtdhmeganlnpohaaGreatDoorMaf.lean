import Derived.Test.YtdhmeganlnpohaaGreatDoorMab
import Derived.Test.YtdhmeganlnpohaaGreatDoorMae
namespace Go.Proofs.YtdhmeganlnpohaaGreatDoor
open Go.RowKit
def markS (v : Bool × List UInt8) : List UInt8 := if v.1 then 43 :: v.2 else [45]
theorem markVal_any (ok : Bool) (s : ByteArray) (hs : s.size ≤ 140737488351232) (w : World) :
  Calls Tryz.prog 277 #[.agg #[.bool ok, .string s]] w fun e w' => e = .returned (.string ⟨(markS (ok, s.data.toList)).toArray⟩) ∧ Below w.heap.size w w' := by
 cases ok
 ·go_enter Tryz.func277, Tryz.ntmps277
  go_wp2
  go_ret
  exact ⟨rfl, (Below.refl _ _).alloc (Nat.le_refl _) _⟩
 ·go_enter Tryz.func277, Tryz.ntmps277
  go_wp2
  go_ret
  exact ⟨ret_str (by apply ByteArray.ext; simp [markS]), (Below.refl _ _).alloc (Nat.le_refl _) _⟩
def IsVals (w : World) (v : Value) (vs : List (Bool × ByteArray)) : Prop :=
 ∃ a c, v = .slice a vs.length c ∧ vs.length ≤ c ∧ c ≤ maxLen ∧ (vs ≠ [] → ∃ b o, a = some ⟨b, o, none⟩ ∧ b < w.heap.size ∧ ∀ (j : Nat) x, vs[j]? = some x → w.cell? ⟨b, o + j * 2, none⟩ = some (.bool x.1) ∧ w.cell? ⟨b, o + j * 2 + 1, none⟩ = some (.string x.2))
set_option maxHeartbeats 2000000 in
theorem vals_any (v : Value) (vs : List (Bool × ByteArray)) (w : World) (h : IsVals w v vs) (hN : vs.length ≤ 1048576) (hg : Glob w)
  (hsz : ∀ x ∈ vs, x.2.size ≤ 140737488351232)
  (hlen : (putS (vs.map fun x => markS (x.1, x.2.data.toList))).length ≤ 140737488355328) :
  Calls Tryz.prog 223 #[v] w fun e w' => e = .returned (.string ⟨(putS (vs.map fun x => markS (x.1, x.2.data.toList))).toArray⟩) ∧ Below w.heap.size w w' := by
 obtain ⟨a, c, rfl, h1, h1m, h2⟩ := h
 obtain ⟨i0, hi, hz0, hz1, hz2⟩ := info_parts info_str
 have hcells : ∀ (k : Nat) x, vs[k]? = some x → ∃ b o, a = some ⟨b, o, none⟩ ∧ b < w.heap.size ∧ w.cell? ⟨b, o + k * 2, none⟩ = some (.bool x.1) ∧ w.cell? ⟨b, o + k * 2 + 1, none⟩ = some (.string x.2) := by
  intro k x hx
  obtain ⟨b, o, ha, hb, hc⟩ := h2 (by rintro rfl; simp at hx)
  exact ⟨b, o, ha, hb, hc k x hx⟩
 have HC := Lib.hid hcells
 have HG := Lib.hid hg
 have HLE := Lib.hid hlen
 have HSZ := Lib.hid hsz
 clear hcells h2 hg hlen hsz
 obtain ⟨ms, hms⟩ : ∃ ms : List ByteArray, ms = vs.map fun x => ⟨(markS (x.1, x.2.data.toList)).toArray⟩ := ⟨_, rfl⟩
 have hmd : ms.map (·.data.toList) = vs.map fun x => markS (x.1, x.2.data.toList) := by rw [hms, List.map_map]; apply List.map_congr_left; intro x _; simp
 have HMS := Lib.hid hms
 have HMD := Lib.hid hmd
 have hml : ms.length = vs.length := by rw [hms]; simp
 have HML := Lib.hid hml
 obtain ⟨res, hres⟩ : ∃ res, res = putS (vs.map fun x => markS (x.1, x.2.data.toList)) := ⟨_, rfl⟩
 rw [← hres]
 have HRES := Lib.hid hres
 clear hres hms hmd hml
 unfold maxLen at h1m
 go_enter Tryz.func223, Tryz.ntmps223
 go_wp2_with (at_make; refine wpList_make_own _ rfl _ _ 22 rfl w.heap.size 9 i0 (.string ByteArray.empty) 1 Tryz.underlying22 hi hz0 hz1 _ _ _ vs.length rfl rfl rfl ?m1 ?m2 ?m3 ?_)
 case m1 => rw [hz2]; omega
 case m2 => unfold maxLen; omega
 case m3 => exact Nat.le_refl _
 intro w1 hown1 hgrow1
 have hnx1 : Below w.heap.size w w1 := (Below.refl _ _).grown hgrow1 (Nat.le_refl _) (by simp)
 clear hgrow1
 have hown0 : w1.ownsRow w.heap.size 9 1 (.slice (some ⟨w.heap.size, 0, none⟩) 0 vs.length) (ms.take 0).length ((ms.take 0).map Value.string) := by simpa using hown1
 clear hown1
 go_wp2
 go_loopw [3, 11] (fun v i wr => ∃ k : Nat, k ≤ vs.length ∧ i = .int .i64 k ∧ wr.ownsRow w.heap.size 9 1 v (ms.take k).length ((ms.take k).map Value.string) ∧ Below w.heap.size w wr)
  (fun _ i _ => vs.length - (intOf i).toNat)
 case atStart => exact ⟨0, Nat.zero_le _, rfl, hown0, hnx1⟩
 case round =>
  obtain ⟨k, hk, rfl, hown, hnx⟩ := hrel
  clear hown0
  by_cases hlt : k < vs.length
  ·obtain ⟨x, hx⟩ : ∃ x, vs[k]? = some x := ⟨vs[k], List.getElem?_eq_getElem hlt⟩
   obtain ⟨b, o, ha, hb, hc0, hc1⟩ := HC.out k x hx
   subst ha
   have hcx0 : wr.cell? ⟨b, o + k * 2, none⟩ = some (.bool x.1) := (hnx.cell (by exact hb)).trans hc0
   have hcx1 : wr.cell? ⟨b, o + k * 2 + 1, none⟩ = some (.string x.2) := (hnx.cell (by exact hb)).trans hc1
   have hxs := HSZ.out x (List.mem_of_getElem? hx)
   have hmk : ms[k]? = some ⟨(markS (x.1, x.2.data.toList)).toArray⟩ := by rw [HMS.out, List.getElem?_map, hx]; rfl
   have hms1 : (ms.take (k + 1)) = ms.take k ++ [⟨(markS (x.1, x.2.data.toList)).toArray⟩] := by rw [List.take_add_one, hmk]; rfl
   obtain ⟨mb, hmb⟩ : ∃ mb : ByteArray, mb = ⟨(markS (x.1, x.2.data.toList)).toArray⟩ := ⟨_, rfl⟩
   rw [← hmb] at hms1
   have cM := markVal_any x.1 x.2 hxs (wr.alloc (.cells #[.bool x.1, .string x.2] 34))
   rw [← hmb] at cM
   have HM1 := Lib.hid hms1
   have hkl : (ms.take k).length ≤ k := List.length_take_le _ _
   clear hmb hms1 hmk hc0 hc1 hx
   go_wp2_with fail
   refine cM.mono ?_
   rintro e w2 ⟨rfl, hb2⟩
   have hnx2 : Below w.heap.size w w2 := (hnx.alloc hnx.size _).trans (hb2.mono (by have := hnx.size; simp; omega))
   have hown2 : w2.ownsRow w.heap.size 9 1 _ (ms.take k).length ((ms.take k).map Value.string) := (hown.alloc (.cells #[.bool x.1, .string x.2] 34)).kept (row := none) ⟨hb2.os, hb2.tape, hb2.output, hb2.size, fun g hg _ => hb2.block g hg⟩ (by cases h : Value.ownBlock _ <;> simp)
   have hs2 := hnx2.size
   clear hb2 hown hcx0 hcx1 cM
   go_wp2_with (at_builtin; refine wpList_append_own _ rfl _ _ 22 rfl w.heap.size 9 i0 (.string ByteArray.empty) 1 16 Tryz.underlying22 hi hz0 hz1 hz2 rfl (by decide) _ _ _ rfl (hown2.alloc _) ⟨w2.heap.size, 0, none⟩ 1 1 [.string mb] rfl rfl ?c1 ?c2 ?c3 ?c4 ?c5 ?_)
   case c1 =>
    intro j u hj
    match j, hj with
    | 0, hj => simp at hj; subst hj; simp [Addr.add]
   case c2 => intro u hu; simp at hu; subst hu; rfl
   case c3 => unfold maxLen; omega
   case c4 => omega
   case c5 => simp; omega
   ·intro v' w3 hown' hgrow _
    have hnx' : Below w.heap.size w w3 := (hnx2.alloc hs2 _).grown hgrow (by simp; omega) (fun g hg => (hown2.lt g hg).1)
    have HO : Hid (w3.ownsRow w.heap.size 9 1 v' (ms.take (k + 1)).length ((ms.take (k + 1)).map Value.string)) := by
     show w3.ownsRow _ _ _ _ _ _
     rw [HM1.out, List.length_append, List.map_append]
     simpa using hown'
    clear hgrow hown2 hown'
    go_wp2
    go_roundw
    case rel => exact ⟨k + 1, by omega, by go_num, HO.out, hnx'⟩
    case measure => simp [intOf]; omega
  ·have hfull : ms.take k = ms := List.take_of_length_le (by have := HML.out; omega)
   rw [hfull] at hown
   have hS := strs_own hown
   have hpl : putS (ms.map (·.data.toList)) = res := by rw [HMD.out, HRES.out]
   have cP := put_any _ ms wr hS (by have := HML.out; omega) (HG.out.below hnx) (by rw [HMD.out]; exact HLE.out)
   rw [hpl] at cP
   clear hfull hown hpl hS
   go_wp2_with fail
   refine cP.mono ?_
   rintro e w2 ⟨rfl, hb2⟩
   go_wp2
   go_ret
   exact ⟨rfl, hnx.trans (hb2.mono hnx.size)⟩
end Go.Proofs.YtdhmeganlnpohaaGreatDoor
namespace Go.Proofs.YtdhmeganlnpohaaGreatDoor
open Go.RowKit
theorem erase_none (B b : Nat) (r : Option Nat) (fs : List F2) (x : ByteArray) (w : World) (h : IsTree w B b r fs) (hx : hasF fs x = false) :
  Calls Tryz.prog 227 #[.pointer (some ⟨b, 0, none⟩), .string x] w fun e w' => e = .returned (.int .i64 6) ∧ Below w.heap.size w w' := by
 have hF := find_any B b r fs x w h
 rw [hx] at hF
 generalize posOf fs x = p at *
 clear h hx
 go_enter Tryz.func227, Tryz.ntmps227
 go_wp2_with fail
 refine hF.mono ?_
 rintro e w' ⟨rfl, hb⟩
 go_wp2
 go_ret
 exact ⟨rfl, hb⟩
theorem numS_digit (n : Nat) (h : n < 10) : numS n = [UInt8.ofNat (48 + n)] := by
 unfold numS Lib.itoa
 rw [Int.max_eq_left (by omega), if_neg (by omega), Int.toNat_natCast, Lib.decDigits, dif_pos h]
theorem numS_two (n : Nat) (h1 : 10 ≤ n) (h : n < 100) : numS n = [UInt8.ofNat (48 + n / 10), UInt8.ofNat (48 + n % 10)] := by
 unfold numS Lib.itoa
 rw [Int.max_eq_left (by omega), if_neg (by omega), Int.toNat_natCast, Lib.decDigits, dif_neg (by omega), Lib.decDigits, dif_pos (by omega)]
 rfl
theorem b_norm1 : normS [97, 47, 47, 46, 47, 98, 47, 46, 46, 47, 99] = ([97, 47, 99], true) := by decide +kernel
theorem b_norm2 : normS [46, 46] = ([], false) := by decide +kernel
theorem b_num : getNum [49, 50] 20 = (12, true) := by
 have h : Lib.atoiAll [49, 50] = .ok 12 := by decide +kernel
 unfold getNum
 rw [h]
 have e : numS (12 : Int) = [49, 50] := numS_two 12 (by decide) (by decide)
 simp only [e]
 decide
theorem b_num0 : getNum [48] 0 = (0, true) := by
 have h : Lib.atoiAll [48] = .ok 0 := by decide +kernel
 unfold getNum
 rw [h]
 have e : numS (0 : Int) = [48] := numS_digit 0 (by decide)
 simp only [e]
 decide
theorem b_get : getS [49, 58, 97, 48, 58] = some [[97], []] := by
 have h1 : cutPartS [49, 58, 97, 48, 58] = some ([97], [48, 58]) := by
  have := cutPartS_hit (a := [49]) (b := [97, 48, 58]) (by decide)
  rw [show ([49] : List UInt8) ++ 58 :: [97, 48, 58] = [49, 58, 97, 48, 58] from rfl] at this
  rw [this]
  have e : getNum [49] (([97, 48, 58] : List UInt8).length : Nat) = (1, true) := by
   have h : Lib.atoiAll [49] = .ok 1 := by decide +kernel
   unfold getNum
   rw [h]
   have e : numS (1 : Int) = [49] := numS_digit 1 (by decide)
   simp only [e]
   decide
  rw [e]; rfl
 have h2 : cutPartS [48, 58] = some ([], []) := by
  have := cutPartS_hit (a := [48]) (b := []) (by decide)
  rw [show ([48] : List UInt8) ++ 58 :: [] = [48, 58] from rfl] at this
  rw [this]
  have e : getNum [48] (([] : List UInt8).length : Nat) = (0, true) := b_num0
  rw [e]; rfl
 rw [getS_some (by decide) h1, getS_some (by decide) h2, getS_nil]
 rfl
theorem b_put : putS [[97], []] = [49, 58, 97, 48, 58] := by
 have e1 : numS ((([97] : List UInt8).length : Nat) : Int) = [49] := numS_digit 1 (by decide)
 have e0 : numS ((([] : List UInt8).length : Nat) : Int) = [48] := numS_digit 0 (by decide)
 simp only [putS, partS, List.map_cons, List.map_nil, List.flatten_cons, List.flatten_nil, e1, e0]
 rfl
theorem b_vals : putS [[43, 122], [45]] = [50, 58, 43, 122, 49, 58, 45] := by
 have e1 : numS ((([43, 122] : List UInt8).length : Nat) : Int) = [50] := numS_digit 2 (by decide)
 have e0 : numS ((([45] : List UInt8).length : Nat) : Int) = [49] := numS_digit 1 (by decide)
 simp only [putS, partS, List.map_cons, List.map_nil, List.flatten_cons, List.flatten_nil, e1, e0]
 rfl
theorem b_key : putS [[97], [], [98], [120]] = [49, 58, 97, 48, 58, 49, 58, 98, 49, 58, 120] := by
 have e1 : ∀ c : UInt8, numS ((([c] : List UInt8).length : Nat) : Int) = [49] := fun _ => numS_digit 1 (by decide)
 have e0 : numS ((([] : List UInt8).length : Nat) : Int) = [48] := numS_digit 0 (by decide)
 simp only [putS, partS, List.map_cons, List.map_nil, List.flatten_cons, List.flatten_nil, e1, e0]
 rfl
def bFiles : List F2 := [(⟨#[98]⟩, ⟨#[120]⟩), (⟨#[97]⟩, ⟨#[]⟩), (⟨#[105, 110]⟩, ⟨#[]⟩)]
def bTree : List F2 := [(⟨#[97]⟩, ⟨#[]⟩), (⟨#[98]⟩, ⟨#[120]⟩)]
theorem b_new : newF bFiles = bTree := by kernel_rfl
theorem b_read : readF bTree ⟨#[98]⟩ = (⟨#[120]⟩, true) := by kernel_rfl
theorem b_has : hasF bTree ⟨#[99]⟩ = false := by kernel_rfl
theorem b_may1 : okName [97, 47, 98, 46, 99] = true := by decide +kernel
theorem b_may2 : okName [97, 47, 47, 98] = false := by decide +kernel
theorem b_may3 : okName [114, 117, 108, 101] = false := by decide +kernel
theorem b_join : joinS [[97], [], [98]] = [97, 47, 98] := by decide +kernel
theorem b_cut : cutAt 47 [47] = [[], []] := by decide +kernel
end Go.Proofs.YtdhmeganlnpohaaGreatDoor
namespace Go.Proofs.YtdhmeganlnpohaaGreatDoor
open Go.RowKit
theorem strs_of_alloc (w : World) (xs : List ByteArray) (cells : Array Value) (hc : cells = (xs.map Value.string).toArray) (hl : xs.length ≤ 1000) :
  IsStrs (w.alloc (.cells cells 9)) (.slice (some ⟨w.heap.size, 0, none⟩) xs.length xs.length) xs := by
 subst hc
 refine ⟨_, xs.length, rfl, Nat.le_refl _, by unfold maxLen; omega, fun _ => ⟨w.heap.size, 0, rfl, by simp, fun j x hx => ?_⟩⟩
 rw [Nat.zero_add]
 exact cell_strs w xs _ j x hx
theorem files_of_alloc (w : World) (fs : List F2) (cells : Array Value) (hc : cells = (fileCells fs).toArray) (hl : fs.length ≤ 1000) :
  IsFiles (w.alloc (.cells cells 81)) (.slice (some ⟨w.heap.size, 0, none⟩) fs.length fs.length) fs := by
 subst hc
 refine ⟨_, fs.length, rfl, Nat.le_refl _, by unfold maxLen; omega, fun _ => ⟨w.heap.size, 0, rfl, by simp, fun j x hx => ?_⟩⟩
 obtain ⟨h1, h2⟩ := fileCells_at fs j x hx
 rw [Nat.zero_add]
 exact ⟨by rw [World.cell?_alloc_at _ _ _ _ rfl]; simpa using h1, by rw [World.cell?_alloc_at _ _ _ _ rfl]; simpa using h2⟩
theorem vals_of_alloc (w : World) (vs : List (Bool × ByteArray)) (cells : Array Value) (hc : ∀ (j : Nat) x, vs[j]? = some x → cells[j * 2]? = some (.bool x.1) ∧ cells[j * 2 + 1]? = some (.string x.2)) (hl : vs.length ≤ 1000) :
  IsVals (w.alloc (.cells cells 34)) (.slice (some ⟨w.heap.size, 0, none⟩) vs.length vs.length) vs := by
 refine ⟨_, vs.length, rfl, Nat.le_refl _, by unfold maxLen; omega, fun _ => ⟨w.heap.size, 0, rfl, by simp, fun j x hx => ?_⟩⟩
 obtain ⟨h1, h2⟩ := hc j x hx
 rw [Nat.zero_add]
 exact ⟨by rw [World.cell?_alloc_at _ _ _ _ rfl]; exact h1, by rw [World.cell?_alloc_at _ _ _ _ rfl]; exact h2⟩
theorem chain {w a b : World} (h : Below w.heap.size w a) (h' : Below a.heap.size a b) : Below w.heap.size w b := h.trans (h'.mono h.size)
set_option maxHeartbeats 4000000 in
set_option maxRecDepth 100000 in
theorem begun_any (w : World) (hG : Glob w) : Calls Tryz.prog 168 #[] w fun e w' => e = .returned (.bool true) ∧ Below w.heap.size w w' := by
 have HG := Lib.hid hG
 clear hG
 have cN1 : ∀ w, Glob w → Calls Tryz.prog 218 #[.string ⟨#[97, 47, 47, 46, 47, 98, 47, 46, 46, 47, 99]⟩] w fun e w' => e = .returned (.tuple #[.string ⟨#[97, 47, 99]⟩, .bool true]) ∧ Below w.heap.size w w' := fun w hg => by
  obtain ⟨m, hm⟩ := hg.max
  have h := norm_any ⟨#[97, 47, 47, 46, 47, 98, 47, 46, 46, 47, 99]⟩ m w (by decide) (cell_lt hm) hm
  rw [show (⟨#[97, 47, 47, 46, 47, 98, 47, 46, 46, 47, 99]⟩ : ByteArray).data.toList = [97, 47, 47, 46, 47, 98, 47, 46, 46, 47, 99] from rfl, b_norm1] at h
  exact h
 have cN2 : ∀ w, Glob w → Calls Tryz.prog 218 #[.string ⟨#[46, 46]⟩] w fun e w' => e = .returned (.tuple #[.string ⟨#[]⟩, .bool false]) ∧ Below w.heap.size w w' := fun w hg => by
  obtain ⟨m, hm⟩ := hg.max
  have h := norm_any ⟨#[46, 46]⟩ m w (by decide) (cell_lt hm) hm
  rw [show (⟨#[46, 46]⟩ : ByteArray).data.toList = [46, 46] from rfl, b_norm2] at h
  exact h
 have cG : ∀ w, Glob w → Calls Tryz.prog 219 #[.string ⟨#[49, 58, 97, 48, 58]⟩] w fun e w' => (∃ a c, e = .returned (.tuple #[.slice a 2 c, .bool true])) ∧ Below w.heap.size w w' := fun w hg => by
  have h := get_any ⟨#[49, 58, 97, 48, 58]⟩ w (by decide) hg
  rw [show (⟨#[49, 58, 97, 48, 58]⟩ : ByteArray).data.toList = [49, 58, 97, 48, 58] from rfl, b_get] at h
  refine h.mono ?_
  rintro e w' ⟨hb, a, c, xs, hxs, rfl, _⟩
  have : xs.length = 2 := by rw [← List.length_map (·.data.toList), hxs]; rfl
  exact ⟨⟨a, c, by rw [this]⟩, hb⟩
 have cGN : ∀ w, Glob w → Calls Tryz.prog 220 #[.string ⟨#[49, 50]⟩, .int .i64 20] w fun e w' => e = .returned (.tuple #[.int .i64 12, .bool true]) ∧ Below w.heap.size w w' := fun w hg => by
  have h := getNumber_any ⟨#[49, 50]⟩ 20 (by decide) w hg
  rw [show (⟨#[49, 50]⟩ : ByteArray).data.toList = [49, 50] from rfl, b_num] at h
  exact h
 have cMay : ∀ (l : List UInt8) (r : Bool), l.length ≤ 40 → okName l = r → ∀ w, Glob w → Calls Tryz.prog 107 #[.string ⟨l.toArray⟩] w fun e w' => e = .returned (.bool r) ∧ Below w.heap.size w w' := fun l r hl hr w hg => by
  obtain ⟨m, hm⟩ := hg.max
  have h := may_any ⟨l.toArray⟩ m w (by unfold maxLen; simp only [ByteArray.size, List.size_toArray]; omega) hm
  rw [show (⟨l.toArray⟩ : ByteArray).data.toList = l from by simp, hr] at h
  exact h
 have cM1 := cMay [97, 47, 98, 46, 99] true (by decide) b_may1
 have cM2 := cMay [97, 47, 47, 98] false (by decide) b_may2
 have cM3 := cMay [114, 117, 108, 101] false (by decide) b_may3
 have cJ : ∀ w, Glob w → Calls Tryz.prog 221 #[.slice (some ⟨w.heap.size, 0, none⟩) 3 3] (w.alloc (.cells #[.string ⟨#[97]⟩, .string ⟨#[]⟩, .string ⟨#[98]⟩] 9)) fun e w' => e = .returned (.string ⟨#[97, 47, 98]⟩) ∧ Below w.heap.size w w' := fun w hg => by
  have h := join_any _ [⟨#[97]⟩, ⟨#[]⟩, ⟨#[98]⟩] _ (strs_of_alloc w [⟨#[97]⟩, ⟨#[]⟩, ⟨#[98]⟩] _ rfl (by decide)) (by decide) (by show (joinS [[97], [], [98]]).length ≤ _; rw [b_join]; decide)
  rw [show ([⟨#[97]⟩, ⟨#[]⟩, ⟨#[98]⟩] : List ByteArray).map (·.data.toList) = [[97], [], [98]] from rfl, b_join] at h
  exact h.mono fun e w' ⟨he, hb⟩ => ⟨he, chain ((Below.refl _ _).alloc (Nat.le_refl _) _) hb⟩
 have cP : ∀ w, Glob w → Calls Tryz.prog 154 #[.string ⟨#[47]⟩] w fun e w' => (∃ a c, e = .returned (.slice a 2 c)) ∧ Below w.heap.size w w' := fun w hg => by
  obtain ⟨m, hm⟩ := hg.max
  refine (parts_any ⟨#[47]⟩ m w (by decide) hm).mono ?_
  rintro e w' ⟨xs, hxs, rfl, rfl⟩
  have : xs.length = 2 := by
   rw [← List.length_map (·.data.toList), hxs]
   show (cutAt 47 [47]).length = 2
   rw [b_cut]; rfl
  exact ⟨⟨_, _, by rw [this]⟩, (Below.refl _ _).alloc (Nat.le_refl _) _⟩
 have cPut : ∀ w, Glob w → Calls Tryz.prog 222 #[.slice (some ⟨w.heap.size, 0, none⟩) 2 2] (w.alloc (.cells #[.string ⟨#[97]⟩, .string ⟨#[]⟩] 9)) fun e w' => e = .returned (.string ⟨#[49, 58, 97, 48, 58]⟩) ∧ Below w.heap.size w w' := fun w hg => by
  have hb0 : Below w.heap.size w (w.alloc (.cells #[.string ⟨#[97]⟩, .string ⟨#[]⟩] 9)) := (Below.refl _ _).alloc (Nat.le_refl _) _
  have h := put_any _ [⟨#[97]⟩, ⟨#[]⟩] _ (strs_of_alloc w [⟨#[97]⟩, ⟨#[]⟩] _ rfl (by decide)) (by decide) (hg.below hb0) (by show (putS [[97], []]).length ≤ _; rw [b_put]; decide)
  rw [show ([⟨#[97]⟩, ⟨#[]⟩] : List ByteArray).map (·.data.toList) = [[97], []] from rfl, b_put] at h
  exact h.mono fun e w' ⟨he, hb⟩ => ⟨he, chain hb0 hb⟩
 have cVals : ∀ w, Glob w → Calls Tryz.prog 223 #[.slice (some ⟨w.heap.size, 0, none⟩) 2 2] (w.alloc (.cells #[.bool true, .string ⟨#[122]⟩, .bool false, .string ⟨#[]⟩] 34)) fun e w' => e = .returned (.string ⟨#[50, 58, 43, 122, 49, 58, 45]⟩) ∧ Below w.heap.size w w' := fun w hg => by
  have hb0 : Below w.heap.size w (w.alloc (.cells #[.bool true, .string ⟨#[122]⟩, .bool false, .string ⟨#[]⟩] 34)) := (Below.refl _ _).alloc (Nat.le_refl _) _
  have h := vals_any _ [(true, ⟨#[122]⟩), (false, ⟨#[]⟩)] _ (vals_of_alloc w [(true, ⟨#[122]⟩), (false, ⟨#[]⟩)] _ (fun j x hx => by
    match j, hx with
    | 0, hx => simp at hx; subst hx; exact ⟨rfl, rfl⟩
    | 1, hx => simp at hx; subst hx; exact ⟨rfl, rfl⟩) (by decide)) (by decide) (hg.below hb0) (by intro x hx; simp at hx; rcases hx with rfl | rfl <;> decide) (by show (putS [[43, 122], [45]]).length ≤ _; rw [b_vals]; decide)
  rw [show ([(true, ⟨#[122]⟩), (false, ⟨#[]⟩)] : List (Bool × ByteArray)).map (fun x => markS (x.1, x.2.data.toList)) = [[43, 122], [45]] from rfl, b_vals] at h
  exact h.mono fun e w' ⟨he, hb⟩ => ⟨he, chain hb0 hb⟩
 have cNew : ∀ w, Glob w → Calls Tryz.prog 52 #[.slice (some ⟨w.heap.size, 0, none⟩) 3 3] (w.alloc (.cells #[.string ⟨#[98]⟩, .string ⟨#[120]⟩, .string ⟨#[97]⟩, .string ⟨#[]⟩, .string ⟨#[105, 110]⟩, .string ⟨#[]⟩] 81)) fun e w' => ∃ b B r, e = .returned (.pointer (some ⟨b, 0, none⟩)) ∧ Below w.heap.size w w' ∧ IsTree w' B b r bTree := fun w hg => by
  have hb0 : Below w.heap.size w (w.alloc (.cells #[.string ⟨#[98]⟩, .string ⟨#[120]⟩, .string ⟨#[97]⟩, .string ⟨#[]⟩, .string ⟨#[105, 110]⟩, .string ⟨#[]⟩] 81)) := (Below.refl _ _).alloc (Nat.le_refl _) _
  have h := new_any _ bFiles _ (files_of_alloc w bFiles _ rfl (by decide)) (hg.below hb0) (by intro x hx; simp [bFiles] at hx; rcases hx with rfl | rfl | rfl <;> exact ⟨by decide, by decide⟩)
  rw [b_new] at h
  refine h.mono ?_
  rintro e w' ⟨b, r, rfl, hT, hb⟩
  exact ⟨b, _, r, rfl, chain hb0 hb, hT⟩
 have HN1 := Lib.hid cN1; have HN2 := Lib.hid cN2; have HCG := Lib.hid cG; have HGN := Lib.hid cGN; have HM1 := Lib.hid cM1; have HM2 := Lib.hid cM2; have HM3 := Lib.hid cM3
 have HJ := Lib.hid cJ; have HP := Lib.hid cP; have HPut := Lib.hid cPut; have HVals := Lib.hid cVals; have HNew := Lib.hid cNew
 clear cN1 cN2 cG cGN cMay cM1 cM2 cM3 cJ cP cPut cVals cNew
 go_enter Tryz.func168, Tryz.ntmps168
 go_wp2_with fail
 refine (HN1.out _ HG.out).mono ?_
 rintro e w1 ⟨rfl, hb1⟩
 go_wp2_with fail
 refine (HN2.out _ (HG.out.below hb1)).mono ?_
 rintro e w2 ⟨rfl, hb2⟩
 replace hb2 := chain hb1 hb2
 clear hb1
 go_wp2_with fail
 refine (HCG.out _ (HG.out.below hb2)).mono ?_
 rintro e w3 ⟨⟨a3, c3, rfl⟩, hb3⟩
 replace hb3 := chain hb2 hb3
 clear hb2
 go_wp2_with fail
 refine (HGN.out _ (HG.out.below hb3)).mono ?_
 rintro e w4 ⟨rfl, hb4⟩
 replace hb4 := chain hb3 hb4
 clear hb3
 go_wp2_with fail
 refine (HNew.out _ (HG.out.below hb4)).mono ?_
 rintro e w5 ⟨b5, B5, r5, rfl, hb5, ht5⟩
 replace hb5 := chain hb4 hb5
 have HT5 := Lib.hid ht5
 clear hb4 ht5
 go_wp2_with fail
 refine (read_any B5 b5 r5 bTree ⟨#[98]⟩ _ HT5.out).mono ?_
 rw [b_read]
 rintro e w6 ⟨rfl, hb6⟩
 have HT6 := Lib.hid (HT5.out.below hb6)
 replace hb6 := chain hb5 hb6
 clear hb5 HT5
 go_wp2_with fail
 refine (HM1.out _ (HG.out.below hb6)).mono ?_
 rintro e w7 ⟨rfl, hb7⟩
 have HT7 := Lib.hid (HT6.out.below hb7)
 replace hb7 := chain hb6 hb7
 clear hb6 HT6
 go_wp2_with fail
 refine (HM2.out _ (HG.out.below hb7)).mono ?_
 rintro e w8 ⟨rfl, hb8⟩
 have HT8 := Lib.hid (HT7.out.below hb8)
 replace hb8 := chain hb7 hb8
 clear hb7 HT7
 go_wp2_with fail
 refine (HM3.out _ (HG.out.below hb8)).mono ?_
 rintro e w9 ⟨rfl, hb9⟩
 have HT9 := Lib.hid (HT8.out.below hb9)
 replace hb9 := chain hb8 hb9
 clear hb8 HT8
 go_wp2_with fail
 refine (HJ.out _ (HG.out.below hb9)).mono ?_
 rintro e w10 ⟨rfl, hb10⟩
 have HT10 := Lib.hid (HT9.out.below hb10)
 replace hb10 := chain hb9 hb10
 clear hb9 HT9
 go_wp2_with fail
 refine (HP.out _ (HG.out.below hb10)).mono ?_
 rintro e w11 ⟨⟨a11, c11, rfl⟩, hb11⟩
 have HT11 := Lib.hid (HT10.out.below hb11)
 replace hb11 := chain hb10 hb11
 clear hb10 HT10
 go_wp2_with fail
 refine (HPut.out _ (HG.out.below hb11)).mono ?_
 rintro e w12 ⟨rfl, hb12⟩
 have HT12 := Lib.hid (HT11.out.below hb12)
 replace hb12 := chain hb11 hb12
 clear hb11 HT11
 go_wp2_with fail
 refine (HVals.out _ (HG.out.below hb12)).mono ?_
 rintro e w13 ⟨rfl, hb13⟩
 have HT13 := Lib.hid (HT12.out.below hb13)
 replace hb13 := chain hb12 hb13
 clear hb12 HT12
 obtain ⟨a9, c9, hA, hF⟩ := HT13.out.all
 have HA := Lib.hid hA
 have HF := Lib.hid hF
 clear hA hF
 go_wp2_with fail
 refine (len_core _ a9 c9 bTree _ HA.out).mono ?_
 rintro e w14 ⟨rfl, rfl⟩
 go_wp2_with fail
 refine (names_core _ a9 c9 bTree _ HA.out HF.out (by decide)).mono ?_
 rintro e w15 ⟨a15, c15, rfl, hown15, hb15⟩
 have HT15 := Lib.hid (HT13.out.below hb15)
 replace hb15' := chain hb13 hb15
 have hn15 : ∃ g, a15 = some ⟨g, 0, none⟩ ∧ w15.cell? ⟨g, 0, none⟩ = some (.string ⟨#[97]⟩) := by
  have hS := strs_own (xs := [⟨#[97]⟩, ⟨#[98]⟩]) hown15
  obtain ⟨_, ⟨hv, h0⟩ | ⟨g, cap, cur, hv, _⟩⟩ := hown15
  ·cases h0
  ·cases hv
   obtain ⟨a', c', hv, _, _, hc⟩ := hS
   cases hv
   obtain ⟨b', o', h1, _, h2⟩ := hc (by simp)
   cases h1
   exact ⟨g, rfl, h2 0 _ rfl⟩
 obtain ⟨g15, rfl, hc15⟩ := hn15
 have HA15 := Lib.hid (HA.out.below hb15)
 have HF15 := Lib.hid (HF.out.below hb15)
 clear hown15 hb15 hb13 HT13 HA HF
 go_wp2_with fail
 refine (key_core _ a9 c9 bTree _ HA15.out HF15.out (by decide) (HG.out.below hb15') (by show (putS [[97], [], [98], [120]]).length ≤ _; rw [b_key]; decide)).mono ?_
 rw [show keyL bTree = [[97], [], [98], [120]] from rfl, b_key]
 rintro e w16 ⟨rfl, hb16⟩
 have HT16 := Lib.hid (HT15.out.below hb16)
 replace hb16 := chain hb15' hb16
 clear hb15' HT15 hc15
 go_wp2_with fail
 refine (erase_none B5 b5 r5 bTree ⟨#[99]⟩ _ HT16.out b_has).mono ?_
 rintro e w17 ⟨rfl, hb17⟩
 replace hb17 := chain hb16 hb17
 clear hb16
 go_wp2_with fail
 go_ret
 exact ⟨rfl, hb17⟩
end Go.Proofs.YtdhmeganlnpohaaGreatDoor
