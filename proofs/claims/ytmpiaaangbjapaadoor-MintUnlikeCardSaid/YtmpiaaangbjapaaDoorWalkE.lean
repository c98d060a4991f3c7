/- Contracts of package mint: Number, GetNumber, markVal. -/
import Derived.Test.YtmpiaaangbjapaaDoorWalkC
import Derived.WalkSmall
namespace Go.Proofs.YtmpiaaangbjapaaDoor
open Go.RowKit

def powName : String := "internal/strconv.uint64pow10"

/-- What a world holds in the package-level variables that the library reads. -/
structure Glob (w : World) : Prop where
  max : ∃ m, w.cell? ⟨2, 0, none⟩ = some (.int .i64 m)
  tab : Lib.TabIs Tryd.prog w powName .u64 Lib.pow10Tab
  top : 3 < w.heap.size
  es : ∃ tp p, w.cell? ⟨0, 0, none⟩ = some (.iface tp p)
  er : ∃ tp p, w.cell? ⟨1, 0, none⟩ = some (.iface tp p)

theorem Glob.below {w w' : World} (h : Glob w) (hb : Below w.heap.size w w') : Glob w' := by
  obtain ⟨⟨m, hm⟩, ht, htop, ⟨t1, p1, h1⟩, ⟨t2, p2, h2⟩⟩ := h
  exact ⟨⟨m, (hb.cell (cell_lt hm)).trans hm⟩, var?_below hb (by kernel_rfl) htop ht, Nat.lt_of_lt_of_le htop hb.size, ⟨t1, p1, (hb.cell (cell_lt h1)).trans h1⟩, ⟨t2, p2, (hb.cell (cell_lt h2)).trans h2⟩⟩

theorem below_grow (w : World) (k : Nat) (os : Array Obj) : Below w.heap.size w (Sort.grow (w.drewN k) os) := by
  refine (below_drewN (Below.refl w.heap.size w) k).trans ⟨rfl, rfl, rfl, by simp [Sort.grow], fun i hi => ?_⟩
  simp only [Sort.grow]
  rw [Array.getElem?_append_left (by simpa using hi)]

def numS (n : Int) : List UInt8 := Lib.itoa (max n 0)

theorem itoa_c (n : Int) (h0 : -9223372036854775808 ≤ n) (h1 : n ≤ 9223372036854775807) (w : World) (hg : Glob w) :
    Calls Tryd.prog 36 #[.int .i64 n] w fun e w' => e = .returned (.string ⟨(Lib.itoa n).toArray⟩) ∧ Below w.heap.size w w' := by
  refine (Any.strconv_Itoa lLaysM_n171 n h0 h1 w hg.tab).mono ?_
  rintro e w' ⟨rfl, k, os, rfl⟩
  exact ⟨rfl, below_grow w k os⟩

theorem number_any (n : Int) (h0 : -9223372036854775808 ≤ n) (h1 : n ≤ 9223372036854775807) (w : World) (hg : Glob w) :
    Calls Tryd.prog 21 #[.int .i64 n] w fun e w' => e = .returned (.string ⟨(numS n).toArray⟩) ∧ Below w.heap.size w w' := by
  have hc := itoa_c (max n 0) (by omega) (by omega) w hg
  go_enter Tryd.func21, Tryd.ntmps21
  go_wp2_with (go_at_call 36; refine hc.mono ?_; rintro e w' ⟨rfl, hb⟩)
  go_ret
  exact ⟨rfl, hb⟩

/-- What GetNumber tells. -/
def getNum (s : List UInt8) (most : Int) : Int × Bool :=
  match Lib.atoiAll s with
  | .ok v => if v ≤ most ∧ numS v = s then (v, true) else (0, false)
  | _ => (0, false)

theorem ret_num {a b : Int} {c d : Bool} (h : a = b) (h' : c = d) : Ending.returned (.tuple #[.int .i64 a, .bool c]) = .returned (.tuple #[.int .i64 b, .bool d]) := by rw [h, h']

theorem atoi_bounds {l : List UInt8} {v : Int} (h : Lib.atoiAll l = .ok v) : -9223372036854775808 ≤ v ∧ v ≤ 9223372036854775807 := by
  unfold Lib.atoiAll at h
  split at h
  · cases h
  · simp only at h
    split at h
    · cases h
    · cases h
    · split at h
      · cases h
      · split at h
        · cases h
        · simp only [Lib.NumEnd.ok.injEq] at h
          split at h <;> omega

theorem below_bytes {w w' : World} {e : TypeId} (h : w' = w ∨ ∃ t, w' = Lib.bytesWorld w e t) : Below w.heap.size w w' := by
  rcases h with rfl | ⟨t, rfl⟩
  · exact Below.refl _ _
  · exact ⟨rfl, rfl, rfl, by rw [Lib.bytesWorld_size]; omega, fun k hk => Lib.bytesWorld_at_old w e t k hk⟩

set_option maxHeartbeats 1000000 in
theorem getNumber_any (s : ByteArray) (most : Int) (hs : s.size ≤ 281474976710656) (w : World) (hg : Glob w) :
    Calls Tryd.prog 9 #[.string s, .int .i64 most] w fun e w' => e = .returned (.tuple #[.int .i64 (getNum s.data.toList most).1, .bool (getNum s.data.toList most).2]) ∧ Below w.heap.size w w' := by
  obtain ⟨r, hr⟩ : ∃ r, r = getNum s.data.toList most := ⟨_, rfl⟩
  rw [← hr]
  obtain ⟨r1, r2⟩ := r
  obtain ⟨⟨m, hm⟩, ht, htop, ⟨t1, p1, h1⟩, ⟨t2, p2, h2⟩⟩ := id hg
  rcases ha : Lib.atoiAll s.data.toList with v | _ | _
  rotate_left
  · have hc := Any.strconv_Atoi_syntax lLaysC_n172 s hs ha (.iface t1 p1) w h1 (.inr ⟨_, _, rfl⟩)
    have hrr : r1 = 0 ∧ r2 = false := by rw [getNum, ha] at hr; simpa using hr
    obtain ⟨rfl, rfl⟩ := hrr
    clear hr ha h1 h2 ht hm
    go_enter Tryd.func9, Tryd.ntmps9
    go_wp2_with fail
    refine hc.mono ?_
    rintro e w' ⟨N, rfl, hN, hNc, hb⟩
    go_wp2
    go_ret2
    exact ⟨rfl, hb⟩
  · have hc := Any.strconv_Atoi_range lLaysC_n172 s hs ha (.iface t2 p2) w h2 (.inr ⟨_, _, rfl⟩)
    have hrr : r1 = 0 ∧ r2 = false := by rw [getNum, ha] at hr; simpa using hr
    obtain ⟨rfl, rfl⟩ := hrr
    clear hr ha h1 h2 ht hm
    go_enter Tryd.func9, Tryd.ntmps9
    go_wp2_with fail
    refine hc.mono ?_
    rintro e w' ⟨N, rfl, hN, hNc, hb⟩
    go_wp2
    go_ret2
    exact ⟨rfl, hb⟩
  · have hc := Any.strconv_Atoi_ok lLaysC_n172 s (by omega) v ha w
    obtain ⟨hv0, hv1⟩ := atoi_bounds ha
    have hrr : (r1, r2) = if v ≤ most ∧ numS v = s.data.toList then (v, true) else (0, false) := by rw [hr, getNum, ha]
    clear hr ha
    by_cases h3 : v ≤ most
    · obtain ⟨nb, hnb⟩ : ∃ nb : ByteArray, nb = ⟨(numS v).toArray⟩ := ⟨_, rfl⟩
      have hnum := fun (w' : World) (hb : Below w.heap.size w w') => number_any v hv0 hv1 w' (hg.below hb)
      rw [← hnb] at hnum
      have HN := Lib.hid hnum
      clear hnum
      have hl : nb.toList = numS v := by rw [hnb, Lib.toList_data]
      by_cases h4 : nb.toList = s.toList
      · have h5 : numS v = s.data.toList := by rw [← hl, h4, Lib.toList_data]
        rw [if_pos ⟨h3, h5⟩] at hrr
        simp only [Prod.mk.injEq] at hrr
        obtain ⟨rfl, rfl⟩ := hrr
        have b1 : (nb.toList == s.toList) = true := by simpa using h4
        have b2 : (nb.toList != s.toList) = false := by simpa using h4
        clear h4 h5 hl hnb hm h1 h2 ht
        go_enter Tryd.func9, Tryd.ntmps9
        go_wp2_with fail
        refine hc.mono ?_
        rintro e w' ⟨rfl, hw⟩
        have hb := below_bytes hw
        have cN := HN.out w' hb
        clear hw
        go_wp2_with (go_at_call 21; refine cN.mono ?_; rintro e w2 ⟨rfl, hb2⟩)
        go_ret2
        exact ⟨rfl, hb.trans (hb2.mono hb.size)⟩
      · have h5 : ¬ numS v = s.data.toList := by rw [← hl, ← Lib.toList_data]; exact h4
        rw [if_neg (fun h => h5 h.2)] at hrr
        simp only [Prod.mk.injEq] at hrr
        obtain ⟨rfl, rfl⟩ := hrr
        have b1 : (nb.toList == s.toList) = false := by simpa using h4
        have b2 : (nb.toList != s.toList) = true := by simpa using h4
        clear h4 h5 hl hnb hm h1 h2 ht
        go_enter Tryd.func9, Tryd.ntmps9
        go_wp2_with fail
        refine hc.mono ?_
        rintro e w' ⟨rfl, hw⟩
        have hb := below_bytes hw
        have cN := HN.out w' hb
        clear hw
        go_wp2_with (go_at_call 21; refine cN.mono ?_; rintro e w2 ⟨rfl, hb2⟩)
        go_ret2
        exact ⟨rfl, hb.trans (hb2.mono hb.size)⟩
    · rw [if_neg (fun h => h3 h.1)] at hrr
      simp only [Prod.mk.injEq] at hrr
      obtain ⟨rfl, rfl⟩ := hrr
      have h3' : most < v := by omega
      clear hm h1 h2 ht h3
      go_enter Tryd.func9, Tryd.ntmps9
      go_wp2_with fail
      refine hc.mono ?_
      rintro e w' ⟨rfl, hw⟩
      have hb := below_bytes hw
      clear hw
      go_wp2
      go_ret2
      exact ⟨rfl, hb⟩
end Go.Proofs.YtmpiaaangbjapaaDoor
