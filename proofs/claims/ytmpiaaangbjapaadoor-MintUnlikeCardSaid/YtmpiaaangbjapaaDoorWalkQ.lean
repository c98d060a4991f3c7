/- What begun asks, at its own texts; a tree's Erase where there is no such file. -/
import Derived.Test.YtmpiaaangbjapaaDoorWalkP
import Derived.Test.YtmpiaaangbjapaaDoorWalkI
import Derived.Test.YtmpiaaangbjapaaDoorWalkG
namespace Go.Proofs.YtmpiaaangbjapaaDoor
open Go.RowKit

theorem erase_none (B b : Nat) (r : Option Nat) (fs : List F2) (x : ByteArray) (w : World) (h : IsTree w B b r fs) (hx : hasF fs x = false) :
    Calls Tryd.prog 19 #[.pointer (some ⟨b, 0, none⟩), .string x] w fun e w' => e = .returned (.int .i64 6) ∧ Below w.heap.size w w' := by
  have hF := find_any B b r fs x w h
  rw [hx] at hF
  generalize posOf fs x = p at *
  clear h hx
  go_enter Tryd.func19, Tryd.ntmps19
  go_wp2_with fail
  refine hF.mono ?_
  rintro e w' ⟨rfl, hb⟩
  go_wp2
  go_ret
  exact ⟨rfl, hb⟩

theorem numS_digit (n : Nat) (h : n < 10) : numS n = [UInt8.ofNat (48 + n)] := by
  unfold numS Lib.itoa
  rw [Int.max_eq_left (by omega), if_neg (by omega), Int.toNat_natCast, Lib.decDigits, dif_pos h]
theorem numS_two (n : Nat) (h1 : 10 ≤ n) (h : n < 100) : numS n = [UInt8.ofNat (48 + n / 10), UInt8.ofNat (48 + n % 10)] := by
  unfold numS Lib.itoa
  rw [Int.max_eq_left (by omega), if_neg (by omega), Int.toNat_natCast, Lib.decDigits, dif_neg (by omega), Lib.decDigits, dif_pos (by omega)]
  rfl

theorem b_norm1 : normS [97, 47, 47, 46, 47, 98, 47, 46, 46, 47, 99] = ([97, 47, 99], true) := by decide +kernel
theorem b_norm2 : normS [46, 46] = ([], false) := by decide +kernel
theorem b_num : getNum [49, 50] 20 = (12, true) := by
  have h : Lib.atoiAll [49, 50] = .ok 12 := by decide +kernel
  unfold getNum
  rw [h]
  have e : numS (12 : Int) = [49, 50] := numS_two 12 (by decide) (by decide)
  simp only [e]
  decide
theorem b_num1 : getNum [49] 4 = (1, true) := by
  have h : Lib.atoiAll [49] = .ok 1 := by decide +kernel
  unfold getNum
  rw [h]
  have e : numS (1 : Int) = [49] := numS_digit 1 (by decide)
  simp only [e]
  decide
theorem b_num0 : getNum [48] 0 = (0, true) := by
  have h : Lib.atoiAll [48] = .ok 0 := by decide +kernel
  unfold getNum
  rw [h]
  have e : numS (0 : Int) = [48] := numS_digit 0 (by decide)
  simp only [e]
  decide
theorem b_get : getS [49, 58, 97, 48, 58] = some [[97], []] := by
  have h1 : cutPartS [49, 58, 97, 48, 58] = some ([97], [48, 58]) := by
    have := cutPartS_hit (a := [49]) (b := [97, 48, 58]) (by decide)
    rw [show ([49] : List UInt8) ++ 58 :: [97, 48, 58] = [49, 58, 97, 48, 58] from rfl] at this
    rw [this]
    have e : getNum [49] (([97, 48, 58] : List UInt8).length : Nat) = (1, true) := by
      have h : Lib.atoiAll [49] = .ok 1 := by decide +kernel
      unfold getNum
      rw [h]
      have e : numS (1 : Int) = [49] := numS_digit 1 (by decide)
      simp only [e]
      decide
    rw [e]; rfl
  have h2 : cutPartS [48, 58] = some ([], []) := by
    have := cutPartS_hit (a := [48]) (b := []) (by decide)
    rw [show ([48] : List UInt8) ++ 58 :: [] = [48, 58] from rfl] at this
    rw [this]
    have e : getNum [48] (([] : List UInt8).length : Nat) = (0, true) := b_num0
    rw [e]; rfl
  rw [getS_some (by decide) h1, getS_some (by decide) h2, getS_nil]
  rfl
theorem b_put : putS [[97], []] = [49, 58, 97, 48, 58] := by
  have e1 : numS ((([97] : List UInt8).length : Nat) : Int) = [49] := numS_digit 1 (by decide)
  have e0 : numS ((([] : List UInt8).length : Nat) : Int) = [48] := numS_digit 0 (by decide)
  simp only [putS, partS, List.map_cons, List.map_nil, List.flatten_cons, List.flatten_nil, e1, e0]
  rfl
theorem b_vals : putS [[43, 122], [45]] = [50, 58, 43, 122, 49, 58, 45] := by
  have e1 : numS ((([43, 122] : List UInt8).length : Nat) : Int) = [50] := numS_digit 2 (by decide)
  have e0 : numS ((([45] : List UInt8).length : Nat) : Int) = [49] := numS_digit 1 (by decide)
  simp only [putS, partS, List.map_cons, List.map_nil, List.flatten_cons, List.flatten_nil, e1, e0]
  rfl
theorem b_key : putS [[97], [], [98], [120]] = [49, 58, 97, 48, 58, 49, 58, 98, 49, 58, 120] := by
  have e1 : ∀ c : UInt8, numS ((([c] : List UInt8).length : Nat) : Int) = [49] := fun _ => numS_digit 1 (by decide)
  have e0 : numS ((([] : List UInt8).length : Nat) : Int) = [48] := numS_digit 0 (by decide)
  simp only [putS, partS, List.map_cons, List.map_nil, List.flatten_cons, List.flatten_nil, e1, e0]
  rfl
def bFiles : List F2 := [(⟨#[98]⟩, ⟨#[120]⟩), (⟨#[97]⟩, ⟨#[]⟩), (⟨#[105, 110]⟩, ⟨#[]⟩)]
def bTree : List F2 := [(⟨#[97]⟩, ⟨#[]⟩), (⟨#[98]⟩, ⟨#[120]⟩)]
theorem b_new : newF bFiles = bTree := by kernel_rfl
theorem b_read : readF bTree ⟨#[98]⟩ = (⟨#[120]⟩, true) := by kernel_rfl
theorem b_has : hasF bTree ⟨#[99]⟩ = false := by kernel_rfl
theorem b_may1 : okName [97, 47, 98, 46, 99] = true := by decide +kernel
theorem b_may2 : okName [97, 47, 47, 98] = false := by decide +kernel
theorem b_may3 : okName [114, 117, 108, 101] = false := by decide +kernel
theorem b_join : joinS [[97], [], [98]] = [97, 47, 98] := by decide +kernel
theorem b_cut : cutAt 47 [47] = [[], []] := by decide +kernel
end Go.Proofs.YtmpiaaangbjapaaDoor
