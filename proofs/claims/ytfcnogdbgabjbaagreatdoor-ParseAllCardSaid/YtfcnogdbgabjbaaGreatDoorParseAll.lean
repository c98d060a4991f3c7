/- The law ParseAll: the walk. -/
import Derived.Test.YtfcnogdbgabjbaaGreatDoorMbeg
import Derived.Test.YtfcnogdbgabjbaaGreatDoorRqI
import Derived.Test.YtfcnogdbgabjbaaGreatDoorMwalk
namespace Go.Proofs.YtfcnogdbgabjbaaGreatDoor.lawParseAll
open Go.RowKit Go.Shelf

set_option maxHeartbeats 2000000 in
set_option maxRecDepth 100000 in
theorem law (s : ByteArray) (w : World) (hs : s.size ≤ maxLen) (hG : GP w.heap.size w) :
    Calls Tryz.prog 5 #[.string s] w fun e w' => e = .returned (.bool true) ∧ Below w.heap.size w w' := by
  have c0 := begun4_any w hG
  have c1 := fun w' => short_any s 400 w' hs (by omega) (by omega)
  obtain ⟨S, hS⟩ : ∃ S : ByteArray, s.extract 0 (min s.size (400 : Int).toNat) = S := ⟨_, rfl⟩
  have hsz : S.size ≤ 400 := by rw [← hS, ByteArray.size_extract]; omega
  simp only [hS] at c1
  have CR : Hid (∀ w', Below w.heap.size w w' → Calls Tryz.prog 14 #[.string S] w' fun e w'' => e = .returned (.bool true) ∧ Below w'.heap.size w' w'') := by
    show ∀ w', _
    exact fun w' hb => reads_any S w' (by omega) ((hG.below hb).up hb.size)
  have C0 := Lib.hid c0; have C1 := Lib.hid c1
  clear c0 c1 hS hG
  go_enter Tryz.func5, Tryz.ntmps5
  go_wp2_with fail
  refine C0.out.mono ?_
  rintro e w1 ⟨rfl, hb1⟩
  have HB1 := Lib.hid hb1
  clear hb1
  go_wp2_with fail
  refine (C1.out _).mono ?_
  rintro e w2 ⟨rfl, rfl⟩
  go_wp2_with fail
  refine (CR.out _ HB1.out).mono ?_
  rintro e w3 ⟨rfl, hb3⟩
  go_wp2
  go_ret
  exact ⟨rfl, HB1.out.trans (hb3.mono HB1.out.size)⟩
end Go.Proofs.YtfcnogdbgabjbaaGreatDoor.lawParseAll
