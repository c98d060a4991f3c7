/- The bytes of a text, one of them turned. -/
import Derived.Lib.ConvBytes
import Derived.Lib.SlBytesRow
import Derived.Test.YtknpcbjjofdlmaaGreatDoorMwalk
namespace Go.Proofs.YtknpcbjjofdlmaaGreatDoor
open Go.RowKit

/-- The bytes of a text, one of them turned. -/
theorem bytes_set (w : World) (b : Nat) (S : ByteArray) (p : Nat) (y : UInt8) (hp : p < S.size) (hc : ∀ j, j < S.size → w.cell? ⟨b, j, none⟩ = some (.int .u8 ((S.data.toList.getD j 0).toNat : Nat))) :
    ∃ tb : ByteArray, tb.size = S.size ∧ Lib.Bytes (w.setCell ⟨b, p, none⟩ (.int .u8 (y.toNat : Nat))) b 0 tb := by
  refine ⟨⟨(S.data.toList.set p y).toArray⟩, by show (S.data.toList.set p y).length = _; rw [List.length_set]; rfl, fun i hi => ?_⟩
  have hi' : i < S.data.toList.length := by
    have h : i < (S.data.toList.set p y).length := hi
    rwa [List.length_set] at h
  have hs : S.data.toList.length = S.size := rfl
  have e : (⟨(S.data.toList.set p y).toArray⟩ : ByteArray)[i] = (S.data.toList.set p y)[i]'(by rw [List.length_set]; exact hi') := rfl
  rw [e, List.getElem_set, Nat.zero_add]
  by_cases h : p = i
  · subst h
    rw [if_pos rfl, World.cell?_setCell_same _ _ _ (hc p hp)]
  · rw [if_neg h, World.cell?_setCell_other (w := w) (a := ⟨b, p, none⟩) (b := ⟨b, i, none⟩) (h := fun e => h (congrArg Addr.off e)), hc i (by omega)]
    have : S.data.toList.getD i 0 = S.data.toList[i]'hi' := by simp only [List.getD, List.getElem?_eq_getElem hi', Option.getD_some]
    rw [this]

theorem xor_u8 (a b : Int) : ∃ y : UInt8, bits BinOp.xor IntKind.u8 a b = (y.toNat : Int) := by
  have h : ∀ n : Int, IntKind.u8.wrap n = n % 256 := fun n => IntKind.wrap_u8 n
  unfold bits
  simp only
  rw [h]
  refine ⟨UInt8.ofNat ((BitVec.ofInt IntKind.u8.bits a ^^^ BitVec.ofInt IntKind.u8.bits b).toNat % 256), ?_⟩
  rw [UInt8.toNat_ofNat']
  omega
theorem bytes_below {w w' : World} {b : Nat} {t : ByteArray} (h : Lib.Bytes w b 0 t) (hb : b < w.heap.size) (hw : Below w.heap.size w w') : Lib.Bytes w' b 0 t := fun i hi => (hw.cell (p := ⟨b, 0 + i, none⟩) hb).trans (h i hi)

end Go.Proofs.YtknpcbjjofdlmaaGreatDoor
