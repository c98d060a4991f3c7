/- Contracts of package mint: Put, markVal, Vals. -/
import Derived.Test.YtmpiaaangbjapaaDoorWalkE
namespace Go.Proofs.YtmpiaaangbjapaaDoor
open Go.RowKit

/-- One part as Put writes it. -/
def partS (p : List UInt8) : List UInt8 := numS p.length ++ 58 :: p
/-- What Put tells of parts. -/
def putS (ls : List (List UInt8)) : List UInt8 := (ls.map partS).flatten

theorem putS_cons (p : List UInt8) (ls : List (List UInt8)) : putS (p :: ls) = partS p ++ putS ls := by simp [putS]
theorem putS_append (a b : List (List UInt8)) : putS (a ++ b) = putS a ++ putS b := by simp [putS]

theorem builder_below {B b : Nat} {bs : List Value} {w w' : World} (h : Lib.IsBuilder 50 5 B b bs w) (hb : Below w.heap.size w w') : Lib.IsBuilder 50 5 B b bs w' := by
  have key : ∀ p, Lib.BuilderAt 50 5 B b p bs w → Lib.BuilderAt 50 5 B b p bs w' := by
    intro p hp
    have hlt := hp.lt
    obtain ⟨hB, v, hv, hown, hne⟩ := hp
    refine ⟨hB, v, (hb.block b hlt).trans hv, hown.kept (row := none) ⟨hb.os, hb.tape, hb.output, hb.size, fun k hk _ => hb.block k hk⟩ ?_, hne⟩
    cases h : v.ownBlock <;> simp
  exact h.imp (key _) (key _)

theorem writeString_c (B b : Nat) (l : List UInt8) (s : ByteArray) (w : World) (h : Lib.IsBuilder 50 5 B b (Lib.byteCells l) w) (hlen : l.length + s.size ≤ 140737488355328) (hBw : B ≤ w.heap.size) :
    Calls Tryd.prog 20 #[.pointer (some ⟨b, 0, none⟩), .string s] w fun e w' => e = .returned (.tuple #[.int .i64 s.size, .nilIface]) ∧ Lib.IsBuilder 50 5 B b (Lib.byteCells (l ++ s.data.toList)) w' ∧ Below B w w' := by
  refine (Any.Builder_WriteString lLays_n166 lExtra B b (Lib.byteCells l) s w h (by simpa [Lib.byteCells] using hlen) hBw).mono ?_
  rintro e w' ⟨rfl, h1, h2⟩
  refine ⟨rfl, .inr ?_, h2⟩
  rw [show Lib.byteCells (l ++ s.data.toList) = Lib.byteCells l ++ Lib.strCells s from by simp [Lib.byteCells, Lib.strCells]]
  exact h1

theorem writeByte_c (B b : Nat) (l : List UInt8) (c : UInt8) (n : Int) (hn : n = c.toNat) (w : World) (h : Lib.IsBuilder 50 5 B b (Lib.byteCells l) w) (hlen : l.length + 1 ≤ 140737488355328) (hBw : B ≤ w.heap.size) :
    Calls Tryd.prog 22 #[.pointer (some ⟨b, 0, none⟩), .int .u8 n] w fun e w' => e = .returned .nilIface ∧ Lib.IsBuilder 50 5 B b (Lib.byteCells (l ++ [c])) w' ∧ Below B w w' := by
  subst hn
  refine (Any.Builder_WriteByte lLays_n167 lExtra B b (Lib.byteCells l) c.toNat w h (by simpa [Lib.byteCells] using hlen) hBw).mono ?_
  rintro e w' ⟨rfl, h1, h2⟩
  refine ⟨rfl, .inr ?_, h2⟩
  rw [show Lib.byteCells (l ++ [c]) = Lib.byteCells l ++ [Value.int .u8 c.toNat] from by simp [Lib.byteCells]]
  exact h1

theorem builderString_c (B b : Nat) (l : List UInt8) (w : World) (h : Lib.IsBuilder 50 5 B b (Lib.byteCells l) w) (hBw : B ≤ w.heap.size) :
    Calls Tryd.prog 23 #[.pointer (some ⟨b, 0, none⟩)] w fun e w' => e = .returned (.string ⟨l.toArray⟩) ∧ Below B w w' :=
  Any.Builder_String_any lLays_n169 lExtra B b l w h hBw

theorem putS_next (xs : List ByteArray) (k : Nat) (x : ByteArray) (h : xs[k]? = some x) : putS ((xs.take (k + 1)).map (·.data.toList)) = putS ((xs.take k).map (·.data.toList)) ++ numS x.size ++ [58] ++ x.data.toList := by
  rw [List.take_add_one, h, List.map_append, putS_append]
  rw [Lib.size_eq x]
  simp [putS, partS]

theorem putS_take_le (xs : List ByteArray) (k : Nat) : (putS ((xs.take k).map (·.data.toList))).length ≤ (putS (xs.map (·.data.toList))).length := by
  conv => rhs; rw [← List.take_append_drop k xs, List.map_append, putS_append]
  simp

set_option maxHeartbeats 2000000 in
theorem put_any (v : Value) (xs : List ByteArray) (w : World) (h : IsStrs w v xs) (hN : xs.length ≤ 140737488355328) (hg : Glob w)
    (hlen : (putS (xs.map (·.data.toList))).length ≤ 140737488355328) :
    Calls Tryd.prog 6 #[v] w fun e w' => e = .returned (.string ⟨(putS (xs.map (·.data.toList))).toArray⟩) ∧ Below w.heap.size w w' := by
  obtain ⟨a, c, rfl, h1, h1m, h2⟩ := h
  have hcells : ∀ (k : Nat) x, xs[k]? = some x → ∃ b o, a = some ⟨b, o, none⟩ ∧ b < w.heap.size ∧ w.cell? ⟨b, o + k, none⟩ = some (.string x) := by
    intro k x hx
    obtain ⟨b, o, ha, hb, hc⟩ := h2 (by rintro rfl; simp at hx)
    exact ⟨b, o, ha, hb, hc k x hx⟩
  have HC := Lib.hid hcells
  have HG := Lib.hid hg
  have HLE := Lib.hid hlen
  clear hcells h2 hg hlen
  unfold maxLen at h1m
  obtain ⟨res, hres⟩ : ∃ res, res = putS (xs.map (·.data.toList)) := ⟨_, rfl⟩
  rw [← hres]
  have HRES := Lib.hid hres
  clear hres
  have hB0 := Lib.fresh_isBuilder 50 5 w
  go_enter Tryd.func6, Tryd.ntmps6
  go_wp2
  go_loopw [8] (fun i wr => ∃ k : Nat, k ≤ xs.length ∧ i = .int .i64 k ∧ Lib.IsBuilder 50 5 w.heap.size w.heap.size (Lib.byteCells (putS ((xs.take k).map (·.data.toList)))) wr ∧ Below w.heap.size w wr)
    (fun i _ => xs.length - (intOf i).toNat)
  case atStart => exact ⟨0, Nat.zero_le _, rfl, hB0, (Below.refl _ _).alloc (Nat.le_refl _) _⟩
  case round =>
    obtain ⟨k, hk, rfl, hbu, hnx⟩ := hrel
    obtain ⟨cur, hcur⟩ : ∃ cur, putS ((xs.take k).map (·.data.toList)) = cur := ⟨_, rfl⟩
    rw [hcur] at hbu
    have HCUR := Lib.hid hcur
    have HBU := Lib.hid hbu
    clear hcur hB0 hbu
    have hle := putS_take_le xs k
    rw [HCUR.out] at hle
    have hsz := hnx.size
    have hgr := HG.out.below hnx
    have HGR := Lib.hid hgr
    clear hgr
    by_cases hlt : k < xs.length
    · obtain ⟨x, hx⟩ : ∃ x, xs[k]? = some x := ⟨xs[k], List.getElem?_eq_getElem hlt⟩
      obtain ⟨b, o, ha, hb, hc⟩ := HC.out k x hx
      subst ha
      have hcx : wr.cell? ⟨b, o + k, none⟩ = some (.string x) := (hnx.cell (by exact hb)).trans hc
      have hnext := putS_next xs k x hx
      have hle2 := putS_take_le xs (k + 1)
      rw [hnext, HCUR.out] at hle2
      have hall := HLE.out
      simp only [List.length_append, List.length_cons, List.length_nil, ← Lib.size_eq] at hle2
      have HNX := Lib.hid hnext
      have hxs : x.size ≤ 140737488355328 := by omega
      have HL := Lib.hid hle2
      have HA := Lib.hid hall
      clear hnext hle2 hall hc hx hle
      go_wp2_with fail
      refine (number_any x.size (by omega) (by omega) wr HGR.out).mono ?_
      rintro e w2 ⟨rfl, hb2⟩
      have h2 := builder_below HBU.out hb2
      have s2 := hb2.size
      obtain ⟨nb, hnb⟩ : ∃ nb, numS (x.size : Int) = nb := ⟨_, rfl⟩
      rw [hnb]
      have HNB := Lib.hid hnb
      have hl2 := HL.out
      rw [hnb] at hl2
      have HL2 := Lib.hid hl2
      clear hnb hl2
      have H2 := Lib.hid h2
      clear h2
      go_wp2_with fail
      refine (writeString_c w.heap.size w.heap.size cur ⟨nb.toArray⟩ w2 H2.out (by have := HL2.out; have := HA.out; simp only [ByteArray.size, List.size_toArray]; omega) (by omega)).mono ?_
      rintro e w3 ⟨rfl, h3, hb3⟩
      have s3 := hb3.size
      have H3 := Lib.hid h3
      clear h3
      go_wp2_with fail
      refine (writeByte_c w.heap.size w.heap.size (cur ++ nb) 58 58 rfl w3 H3.out (by have := HL2.out; have := HA.out; simp only [List.length_append]; omega) (by omega)).mono ?_
      rintro e w4 ⟨rfl, h4, hb4⟩
      have s4 := hb4.size
      have H4 := Lib.hid h4
      clear h4
      go_wp2_with fail
      refine (writeString_c w.heap.size w.heap.size (cur ++ nb ++ [58]) x w4 H4.out (by have := HL2.out; have := HA.out; simp only [List.length_append, List.length_cons, List.length_nil]; omega) (by omega)).mono ?_
      rintro e w5 ⟨rfl, h5, hb5⟩
      have hnx5 := ((hnx.trans (hb2.mono hsz)).trans hb3).trans (hb4.trans hb5)
      have H5 := Lib.hid h5
      clear h5
      go_wp2
      go_roundw
      case rel => exact ⟨k + 1, by omega, by go_num, by rw [HNX.out, HCUR.out, HNB.out]; exact H5.out, hnx5⟩
      case measure => simp [intOf]; omega
    · have hfull : cur = res := by rw [← HCUR.out, List.take_of_length_le (by omega), HRES.out]
      have HF := Lib.hid hfull
      clear hfull
      go_wp2_with fail
      refine (builderString_c w.heap.size w.heap.size cur wr HBU.out hsz).mono ?_
      rintro e w2 ⟨rfl, hb2⟩
      go_wp2
      go_ret
      exact ⟨ret_str (by rw [HF.out]), hnx.trans hb2⟩
end Go.Proofs.YtmpiaaangbjapaaDoor
