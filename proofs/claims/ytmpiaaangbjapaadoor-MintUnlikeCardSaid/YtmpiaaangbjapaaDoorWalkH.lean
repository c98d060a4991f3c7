/- Contracts of package mint: cutPart, Get. -/
import Derived.Test.YtmpiaaangbjapaaDoorWalkF
namespace Go.Proofs.YtmpiaaangbjapaaDoor
open Go.RowKit

/-- The first part that Put wrote into a text, and what follows. -/
def cutPartS (s : List UInt8) : Option (List UInt8 × List UInt8) :=
  if (Lib.cut s [58]).2.2 then
    if (getNum (Lib.cut s [58]).1 (Lib.cut s [58]).2.1.length).2 then
      some ((Lib.cut s [58]).2.1.take (getNum (Lib.cut s [58]).1 (Lib.cut s [58]).2.1.length).1.toNat, (Lib.cut s [58]).2.1.drop (getNum (Lib.cut s [58]).1 (Lib.cut s [58]).2.1.length).1.toNat)
    else none
  else none

theorem getNum_range (s : List UInt8) (most : Int) (h : (getNum s most).2 = true) : 0 ≤ (getNum s most).1 ∧ (getNum s most).1 ≤ most := by
  unfold getNum at h ⊢
  rcases ha : Lib.atoiAll s with v | _ | _
  · simp only [ha] at h ⊢
    by_cases hc : v ≤ most ∧ numS v = s
    · rw [if_pos hc]
      refine ⟨?_, hc.1⟩
      rcases Int.lt_or_le v 0 with hneg | hpos
      · exfalso
        have h0 : numS v = Lib.itoa 0 := by unfold numS; rw [Int.max_eq_right (by omega)]
        rw [← hc.2, h0] at ha
        have : Lib.atoiAll (Lib.itoa 0) = .ok 0 := by
          have e : Lib.itoa 0 = [48] := by unfold Lib.itoa; rw [if_neg (by decide), Lib.decDigits]; rfl
          rw [e]; decide
        rw [this] at ha
        injection ha with ha
        omega
      · exact hpos
    · rw [if_neg hc] at h; cases h
  · simp [ha] at h
  · simp [ha] at h

theorem cut_c (s sep : ByteArray) (m : Int) (w : World) (hs : s.size < 4294967281) (hm : w.cell? ⟨2, 0, none⟩ = some (.int .i64 m)) :
    Calls Tryd.prog 37 #[.string s, .string sep] w fun e w' => e = .returned (.tuple #[.string ⟨(Lib.cut s.data.toList sep.data.toList).1.toArray⟩, .string ⟨(Lib.cut s.data.toList sep.data.toList).2.1.toArray⟩, .bool (Lib.cut s.data.toList sep.data.toList).2.2]) ∧ ∃ n, w' = w.drewN n :=
  Any.strings_Cut lLays_n145 s sep m w hs hm

theorem cut_len (s sep : List UInt8) : (Lib.cut s sep).1.length ≤ s.length ∧ (Lib.cut s sep).2.1.length ≤ s.length := by
  unfold Lib.cut
  split
  · exact ⟨List.length_take_le' _ _, by simp⟩
  · simp

theorem ret_three {a b c d : ByteArray} {x y : Bool} (h : a = b) (h' : c = d) (hx : x = y) : Ending.returned (.tuple #[.string a, .string c, .bool x]) = .returned (.tuple #[.string b, .string d, .bool y]) := by rw [h, h', hx]

theorem extract_pre (s : ByteArray) (n : Nat) : s.extract 0 n = ⟨(s.data.toList.take n).toArray⟩ := by
  rw [Lib.extract_eq]; simp
theorem extract_post (s : ByteArray) (n : Nat) : s.extract n s.size = ⟨(s.data.toList.drop n).toArray⟩ := by
  rw [Lib.extract_eq, List.take_of_length_le (by rw [List.length_drop, ← Lib.size_eq]; exact Nat.le_refl _)]

def CutPost (r : Option (List UInt8 × List UInt8)) (w : World) (e : Ending) (w' : World) : Prop :=
  (e = .returned (match r with | some (p, q) => .tuple #[.string ⟨p.toArray⟩, .string ⟨q.toArray⟩, .bool true] | none => .tuple #[.string ⟨#[]⟩, .string ⟨#[]⟩, .bool false])) ∧ Below w.heap.size w w'

set_option maxHeartbeats 1000000 in
theorem cutPart_any (s : ByteArray) (w : World) (hs : s.size < 4294967281) (hg : Glob w) :
    Calls Tryd.prog 24 #[.string s] w (CutPost (cutPartS s.data.toList) w) := by
  obtain ⟨m, hm⟩ := hg.max
  obtain ⟨r, hr⟩ : ∃ r, r = cutPartS s.data.toList := ⟨_, rfl⟩
  rw [← hr]
  have cC := cut_c s ⟨#[58]⟩ m w hs hm
  have hl := cut_len s.data.toList [58]
  unfold cutPartS at hr
  change Calls _ _ _ _ fun e w' => e = .returned (.tuple #[.string ⟨(Lib.cut s.data.toList [58]).1.toArray⟩, .string ⟨(Lib.cut s.data.toList [58]).2.1.toArray⟩, .bool (Lib.cut s.data.toList [58]).2.2]) ∧ ∃ n, w' = w.drewN n at cC
  generalize Lib.cut s.data.toList [58] = cc at *
  obtain ⟨a, b, ok⟩ := cc
  simp only at hr hl
  rw [← Lib.size_eq] at hl
  have HG := Lib.hid hg
  have HR := Lib.hid hr
  clear hg hr hm
  go_enter Tryd.func24, Tryd.ntmps24
  go_wp2_with fail
  refine cC.mono ?_
  rintro e w' ⟨rfl, nd, rfl⟩
  cases ok
  · go_wp2
    go_ret3
    have hrn : r = none := by rw [HR.out]; rfl
    exact ⟨by rw [hrn]; rfl, below_drewN (Below.refl _ _) nd⟩
  · have hb1 : Below w.heap.size w (w.drewN nd) := below_drewN (Below.refl _ _) nd
    have cN := getNumber_any ⟨a.toArray⟩ b.length (by simp only [ByteArray.size, List.size_toArray]; omega) (w.drewN nd) (HG.out.below hb1)
    have hgr := getNum_range a b.length
    rw [show (⟨a.toArray⟩ : ByteArray).data.toList = a from by simp] at cN
    have hrr : r = if (getNum a b.length).2 then some (b.take (getNum a b.length).1.toNat, b.drop (getNum a b.length).1.toNat) else none := by rw [HR.out]; rfl
    generalize getNum a b.length = g at *
    obtain ⟨n, ok2⟩ := g
    have HRR := Lib.hid hrr
    clear hrr HR
    obtain ⟨bb, hbb⟩ : ∃ bb : ByteArray, bb = ⟨b.toArray⟩ := ⟨_, rfl⟩
    have hbl : bb.size = b.length := by rw [hbb]; simp [ByteArray.size]
    have hbd : bb.data.toList = b := by rw [hbb]
    rw [← hbl] at cN hgr
    rw [← hbb]
    have HBD := Lib.hid hbd
    have hbs : bb.size ≤ s.size := by omega
    clear hbb hbd hbl hl
    cases ok2
    · go_wp2_with (go_at_call 9; refine cN.mono ?_; rintro e w2 ⟨rfl, hb2⟩)
      go_ret3
      have hrn : r = none := by rw [HRR.out]; rfl
      exact ⟨by rw [hrn]; rfl, hb1.trans hb2⟩
    · have hgr' := hgr rfl
      simp only at hgr'
      obtain ⟨hn0, hn1⟩ := hgr'
      clear hgr
      go_wp2_with (go_at_call 9; refine cN.mono ?_; rintro e w2 ⟨rfl, hb2⟩)
      go_quiet (fail)
      go_wp2
      go_ret3
      have hrn : r = some (b.take n.toNat, b.drop n.toNat) := by rw [HRR.out]; rfl
      exact ⟨by rw [hrn]; exact ret_three (by rw [extract_pre, HBD.out]) (by rw [extract_post, HBD.out]) rfl, hb1.trans (below_drewN hb2 _)⟩
end Go.Proofs.YtmpiaaangbjapaaDoor
