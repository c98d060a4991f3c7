/- Plain facts for the law LexGap: its gap's text, the words' places behind it. -/
import Derived.Test.YtknpcbjjofdlmaaGreatDoorMpln
import Derived.Test.YtknpcbjjofdlmaaGreatDoorMlex
namespace Go.Proofs.YtknpcbjjofdlmaaGreatDoor.lawLexGap
open Go.RowKit Go.Shelf

def gapT : List UInt8 := [32, 9, 35, 32, 97, 32, 114, 101, 109, 97, 114, 107, 32, 34, 10]
theorem gap_ok : Gap gapT := ⟨fun b => by cases b <;> simp [gapT, skipN, blankB], fun b => by cases b <;> simp [gapT, inRem, blankB], ⟨32, _, rfl, by decide⟩⟩
theorem places_le {L : List UInt8} : ∀ (ys : List WordT) (z : WordT) (e : Nat) (p : Option Nat), PlacesOK L e p (ys ++ [z]) → e ≤ z.2.1 ∧ ∀ x ∈ ys ++ [z], x.2.1 ≤ z.2.1
  | [], z, e, p, h => ⟨h.1, fun x hx => by simp only [List.nil_append, List.mem_singleton] at hx; subst hx; exact Nat.le_refl _⟩
  | y :: ys, z, e, p, h => by
    have ih := places_le ys z (endW y) (some y.2.1) h.2.2.2
    have he : y.2.1 ≤ endW y := by unfold endW; split <;> omega
    have h1 := h.1
    refine ⟨by omega, fun x hx => ?_⟩
    rcases List.mem_cons.1 hx with rfl | hx
    · omega
    · exact ih.2 x hx
theorem place_le {L : List UInt8} {ws : List WordT} (h : allS L = .ok ws) : 0 < ws.length ∧ ∀ x ∈ ws, x.2.1 ≤ L.length := by
  obtain ⟨h1, ys, rfl⟩ := places_S h
  exact ⟨by simp, (places_le ys _ 0 none h1).2⟩
theorem moved {S G : ByteArray} {ws : List WordT} {p : Nat} (h : allS S.data.toList = .ok ws) (hG : G.data.toList = gapT) (hp : ∃ x ∈ ws, x.2.1 = p) :
    allS ((S.extract 0 p ++ G) ++ S.extract p S.size).data.toList = .ok (ws.map (moveW p 15)) := by
  have h1 := gap_all gap_ok p S.data.toList.length 0 S.data.toList (Nat.le_refl _) ws (by rw [← allA_S]; exact h) hp
  rw [Nat.sub_zero] at h1
  have e : ((S.extract 0 p ++ G) ++ S.extract p S.size).data.toList = S.data.toList.take p ++ gapT ++ S.data.toList.drop p := by
    rw [ByteArray.data_append, Array.toList_append, ByteArray.data_append, Array.toList_append, hG, ext_drop]
    congr 2
    rw [ByteArray.data_extract, Array.toList_extract]
    simp [List.extract]
  rw [e, allA_S]
  exact h1
end Go.Proofs.YtknpcbjjofdlmaaGreatDoor.lawLexGap
