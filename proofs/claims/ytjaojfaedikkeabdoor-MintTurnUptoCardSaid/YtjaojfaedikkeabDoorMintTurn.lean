/- The law on keys of which a byte was turned: for every list of texts of a bound bulk, every place and every byte the call returns true. -/
import Derived.Lib.ConvBytes
import Derived.Lib.SlBytesRow
import Derived.Deep.DeepCutAuto
import Derived.Deep.RegionHeld3
import Derived.Test.YtjaojfaedikkeabDoorMathE
import Derived.Test.YtjaojfaedikkeabDoorRefC
namespace Go.Proofs.YtjaojfaedikkeabDoor.lawMintTurn
open Go.RowKit

theorem puts_size : ∀ (xs : List ByteArray), (∀ x ∈ xs, x.size ≤ 1048576) → (putS (xs.map (·.data.toList))).length ≤ xs.length * 1048600
  | [], _ => by simp [putS]
  | x :: xs, h => by
    have ih := puts_size xs (fun y hy => h y (by simp [hy]))
    have hx := h x (by simp)
    rw [List.map_cons, putS_cons]
    have hp : (partS x.data.toList).length ≤ 1048599 := by
      unfold partS numS
      have := Lib.itoa_length_le (max (x.data.toList.length : Int) 0) (by omega) (by rw [← Lib.size_eq]; omega)
      rw [← Lib.size_eq] at this ⊢
      simp only [List.length_append, List.length_cons]
      rw [← Lib.size_eq]
      omega
    simp only [List.length_append, List.length_cons]
    omega

theorem puts_len : ∀ ls : List (List UInt8), ls.length ≤ (putS ls).length
  | [] => by simp
  | p :: ls => by
    have ih := puts_len ls
    have h : (partS p).length ≥ 1 := by
      have := partS_ne p []
      rw [List.append_nil] at this
      exact List.length_pos_iff.2 this
    rw [putS_cons, List.length_append, List.length_cons]
    omega

theorem puts_zero {ls : List (List UInt8)} (h : putS ls = []) : ls = [] := by
  cases ls with
  | nil => rfl
  | cons p ls => rw [putS_cons] at h; exact absurd h (partS_ne _ _)

/-- The bytes of a text, one of them turned. -/
theorem bytes_set (w : World) (b : Nat) (S : ByteArray) (p : Nat) (y : UInt8) (hp : p < S.size) (hc : ∀ j, j < S.size → w.cell? ⟨b, j, none⟩ = some (.int .u8 ((S.data.toList.getD j 0).toNat : Nat))) :
    ∃ tb : ByteArray, tb.size = S.size ∧ Lib.Bytes (w.setCell ⟨b, p, none⟩ (.int .u8 (y.toNat : Nat))) b 0 tb := by
  refine ⟨⟨(S.data.toList.set p y).toArray⟩, by show (S.data.toList.set p y).length = _; rw [List.length_set]; rfl, fun i hi => ?_⟩
  have hi' : i < S.data.toList.length := by
    have h : i < (S.data.toList.set p y).length := hi
    rwa [List.length_set] at h
  have hs : S.data.toList.length = S.size := rfl
  have e : (⟨(S.data.toList.set p y).toArray⟩ : ByteArray)[i] = (S.data.toList.set p y)[i]'(by rw [List.length_set]; exact hi') := rfl
  rw [e, List.getElem_set, Nat.zero_add]
  by_cases h : p = i
  · subst h
    rw [if_pos rfl, World.cell?_setCell_same _ _ _ (hc p hp)]
  · rw [if_neg h, World.cell?_setCell_other (w := w) (a := ⟨b, p, none⟩) (b := ⟨b, i, none⟩) (h := fun e => h (congrArg Addr.off e)), hc i (by omega)]
    have : S.data.toList.getD i 0 = S.data.toList[i]'hi' := by simp only [List.getD, List.getElem?_eq_getElem hi', Option.getD_some]
    rw [this]

theorem xor_u8 (a b : Int) : ∃ y : UInt8, bits BinOp.xor IntKind.u8 a b = (y.toNat : Int) := by
  have h : ∀ n : Int, IntKind.u8.wrap n = n % 256 := fun n => IntKind.wrap_u8 n
  unfold bits
  simp only
  rw [h]
  refine ⟨UInt8.ofNat ((BitVec.ofInt IntKind.u8.bits a ^^^ BitVec.ofInt IntKind.u8.bits b).toNat % 256), ?_⟩
  rw [UInt8.toNat_ofNat']
  omega
theorem bytes_below {w w' : World} {b : Nat} {t : ByteArray} (h : Lib.Bytes w b 0 t) (hb : b < w.heap.size) (hw : Below w.heap.size w w') : Lib.Bytes w' b 0 t := fun i hi => (hw.cell (p := ⟨b, 0 + i, none⟩) hb).trans (h i hi)

set_option maxHeartbeats 4000000 in
set_option maxRecDepth 100000 in
theorem law (v : Value) (us : List ByteArray) (n : Int) (c : UInt8) (w : World) (hV : IsStrs w v us) (hz : ∀ x ∈ us, x.size ≤ 1048576) (hG : Glob w) :
    Calls Tryd.prog 7 #[v, .int .i64 n, .int .u8 c.toNat] w fun e w' => e = .returned (.bool true) ∧ Below w.heap.size w w' := by
  obtain ⟨ad, cp, rfl, h1, h1m, h2⟩ := hV
  have hlen : (min (us.length : Int) 6).toNat = (us.take 6).length := by rw [List.length_take]; omega
  have hgs : IsStrs w (.slice ad (us.take 6).length cp) (us.take 6) := by
    refine ⟨ad, cp, rfl, by rw [List.length_take]; omega, h1m, fun hne => ?_⟩
    obtain ⟨b0, o0, ha0, hb0, hc0⟩ := h2 (by rintro rfl; simp at hne)
    refine ⟨b0, o0, ha0, hb0, fun j x hx => hc0 j x ?_⟩
    rw [List.getElem?_take] at hx
    split at hx
    · exact hx
    · cases hx
  have hzs : ∀ x ∈ us.take 6, x.size ≤ 1048576 := fun x hx => hz x (List.mem_of_mem_take hx)
  have hl6 : (us.take 6).length ≤ 6 := by rw [List.length_take]; omega
  obtain ⟨xs, hxs⟩ : ∃ xs, us.take 6 = xs := ⟨_, rfl⟩
  rw [hxs] at hlen hgs hzs hl6
  have hps := puts_size xs hzs
  obtain ⟨S, hS⟩ : ∃ S : ByteArray, (⟨(putS (xs.map (·.data.toList))).toArray⟩ : ByteArray) = S := ⟨_, rfl⟩
  have hS0 : S.size = 0 → xs.length = 0 := fun h => by
    rw [← hS] at h
    have : putS (xs.map (·.data.toList)) = [] := List.eq_nil_of_length_eq_zero (by simpa [ByteArray.size] using h)
    have := puts_zero this
    simpa using this
  have HG := Lib.hid hG
  have HGS := Lib.hid hgs
  have HS := Lib.hid hS
  have HS0 := Lib.hid hS0
  have HPS := Lib.hid hps
  unfold maxLen at h1m
  clear hG h2 hz hgs hzs hxs hS hS0 hps
  go_enter Tryd.func7, Tryd.ntmps7
  go_wp2_with fail
  refine (begun_any w HG.out).mono ?_
  rintro e w1 ⟨rfl, hb1⟩
  have HX1 := Lib.hid hb1
  clear hb1
  go_wp2_with fail
  refine (put_any _ xs w1 (HGS.out.below HX1.out) (by omega) (HG.out.below HX1.out) (by have := HPS.out; omega)).mono ?_
  rw [HS.out]
  rintro e w2 ⟨rfl, hb2⟩
  have HX2 := Lib.hid (chain HX1.out hb2)
  clear hb2 HX1
  by_cases hs0 : S.size = 0
  · have hx0 := HS0.out hs0
    go_wp2
    all_goals go_ret
    all_goals exact ⟨rfl, HX2.out⟩
  · by_cases hn : n < 0
    · go_wp2
      all_goals go_ret
      all_goals exact ⟨rfl, HX2.out⟩
    · by_cases h500 : 500 < S.size
      · go_wp2
        all_goals go_ret
        all_goals exact ⟨rfl, HX2.out⟩
      · obtain ⟨p, hp, hpl⟩ : ∃ p : Nat, n.tmod (S.size : Int) = (p : Int) ∧ p < S.size := by
          have q1 := Int.tmod_lt_of_pos n (show (0 : Int) < (S.size : Int) by omega)
          have q2 := Int.tmod_nonneg (S.size : Int) (show 0 ≤ n by omega)
          exact ⟨(n.tmod (S.size : Int)).toNat, by omega, by omega⟩
        have kc := Lib.run_convert_string_bytes (P := Tryd.prog) w2 9 42 5 S Tryd.underlying9 Tryd.underlying42 Tryd.underlying5
        have hcells := fun j hj => Lib.bytesWorld_cell w2 5 S j hj
        have hbw : Below w2.heap.size w2 (Lib.bytesWorld w2 5 S) := below_bytes (e := 5) (.inr ⟨S, rfl⟩)
        have hfz : (Lib.bytesWorld w2 5 S).frozen? ⟨w2.heap.size, p, none⟩ = false := by
          unfold World.frozen?
          rw [Lib.bytesWorld_at_new]
          have : p < (Lib.bytesCells w2 5 S).size := by
            simp only [Lib.bytesCells, Array.size_append, Array.size_map]
            have : S.data.size = S.size := rfl
            omega
          simp; omega
        obtain ⟨WB, hWB⟩ : ∃ WB, Lib.bytesWorld w2 5 S = WB := ⟨_, rfl⟩
        obtain ⟨G, hGc⟩ : ∃ G, grownCap w2 S.size 0 5 = G := ⟨_, rfl⟩
        rw [hWB] at kc hcells hbw hfz
        rw [hGc] at kc
        have hcp := hcells p hpl
        have HBW := Lib.hid hbw
        have HCE := Lib.hid hcells
        obtain ⟨c0, hc0⟩ : ∃ c0, S.data.toList.getD p 0 = c0 := ⟨_, rfl⟩
        rw [hc0] at hcp
        have hb0 : ((S.size : Int) == 0) = false := by rw [beq_eq_false_iff_ne]; omega
        have hn0 : decide (n < 0) = false := by simpa using hn
        have hl0 : decide ((500 : Int) < (S.size : Int)) = false := by simp; omega
        obtain ⟨y, hy⟩ := xor_u8 (c0.toNat : Int) (c.toNat : Int)
        obtain ⟨tb, htb, hby⟩ := bytes_set WB w2.heap.size S p y hpl HCE.out
        obtain ⟨W5, hW5⟩ : ∃ W5, WB.setCell ⟨w2.heap.size, p, none⟩ (.int .u8 (y.toNat : Nat)) = W5 := ⟨_, rfl⟩
        rw [hW5] at hby
        have hx5 : Below w2.heap.size w2 W5 := by rw [← hW5]; exact HBW.out.setCell (Nat.le_refl _) _
        have hbl : w2.heap.size < W5.heap.size := cell_lt (hby 0 (by rw [htb]; omega))
        have HY := Lib.hid hy
        have HW5 := Lib.hid hW5
        have HBY := Lib.hid hby
        have HX5 := Lib.hid (chain HX2.out hx5)
        have HTB := Lib.hid htb
        clear hbw hcells hWB hGc hc0 hy hW5 hby hx5 htb HCE HBW
        go_wp2_with fail
        rw [HY.out]
        rw [HW5.out]
        have hcv : ∀ w', Lib.Bytes w' w2.heap.size 0 tb → (Go.convert 42 9 (.slice (some ⟨w2.heap.size, 0, none⟩) S.size G)).run Tryd.prog w' = .ok (.string tb) w' := fun w' h => by
          have := Lib.run_convert_whole (P := Tryd.prog) w' 42 5 9 Tryd.underlying42 Tryd.underlying5 Tryd.underlying9 w2.heap.size 0 tb h G
          rw [HTB.out] at this
          exact this
        have HK0 : Hid (Lib.Bytes W5.drew w2.heap.size 0 tb) := by show Lib.Bytes _ _ _ _; exact bytes_below HBY.out hbl (Below.refl _ _).drew
        have HK : Hid (∀ o, Lib.Bytes (W5.alloc o).drew w2.heap.size 0 tb) := by show ∀ o, _; exact fun o => bytes_below HBY.out hbl ((Below.refl _ _).alloc (Nat.le_refl _) o).drew
        have hp0 : (0 : Int) ≤ (p : Int) := by omega
        have hp1 : (p : Int) ≤ (S.size : Int) := by omega
        go_region_held3 (fun w' => Lib.Bytes w' w2.heap.size 0 tb) (first | assumption | exact HK0.out | exact HK.out _) (fail)
        obtain ⟨o, ho⟩ : ∃ o, Obj.cells #[Value.string tb, Value.string (S.extract 0 p), Value.string (S.extract p S.size)] 9 = o := ⟨_, rfl⟩
        have hxa : Below w.heap.size w (W5.alloc o).drew := (HX5.out.alloc HX5.out.size _).drew
        have hca : ∀ k : Nat, k < 3 → ∃ t : ByteArray, (W5.alloc o).drew.cell? ⟨W5.heap.size, k, none⟩ = some (.string t) ∧ t.size ≤ 500 := by
          intro k hk
          have hcell : ∀ k, (W5.alloc o).drew.cell? ⟨W5.heap.size, k, none⟩ = (#[Value.string tb, Value.string (S.extract 0 p), Value.string (S.extract p S.size)] : Array Value)[k]? := fun k => by
            rw [← ho]
            show (W5.alloc _).cell? _ = _
            rw [World.cell?_alloc_at _ _ _ _ rfl]
          rw [hcell]
          match k, hk with
          | 0, _ => exact ⟨tb, rfl, by rw [HTB.out]; omega⟩
          | 1, _ => exact ⟨_, rfl, by rw [ByteArray.size_extract]; omega⟩
          | 2, _ => exact ⟨_, rfl, by rw [ByteArray.size_extract]; omega⟩
        have hbla : W5.heap.size < (W5.alloc o).drew.heap.size := by show _ < (W5.alloc o).heap.size; simp
        go_wp2_with fail
        rw [ho]
        obtain ⟨WA, hWA⟩ : ∃ WA, (W5.alloc o).drew = WA := ⟨_, rfl⟩
        rw [hWA] at hxa hca hbla
        rw [hWA]
        have HXA := Lib.hid hxa
        have HCA := Lib.hid hca
        clear hxa hca hWA ho hcv hp0 hp1 HK0 HK hb0 hn0 hl0
        go_loopw [78] (fun i wr => ∃ k : Nat, k ≤ 3 ∧ i = .int .i64 k ∧ Below WA.heap.size WA wr)
          (fun i _ => 3 - (intOf i).toNat)
        case atStart => exact ⟨0, by omega, rfl, Below.refl _ _⟩
        case round =>
          obtain ⟨k, hk, rfl, hnx⟩ := hrel
          have HNX := Lib.hid hnx
          have HXR := Lib.hid (chain HXA.out hnx)
          clear hnx
          by_cases hlt : k < 3
          · obtain ⟨t, hct, htz⟩ := HCA.out k hlt
            have hctr : wr.cell? ⟨W5.heap.size, k, none⟩ = some (.string t) := (HNX.out.cell (p := ⟨W5.heap.size, k, none⟩) hbla).trans hct
            clear hct
            have cG := get_any t wr (by omega) (HG.out.below HXR.out)
            have cR := fun wz => getR_any t wz (by omega)
            have hback := getS_back t.data.toList.length t.data.toList
            obtain ⟨r, hr⟩ : ∃ r, getS t.data.toList = r := ⟨_, rfl⟩
            rw [hr] at cG
            simp only [hr] at cR
            have HR := Lib.hid hr
            have HBK := Lib.hid hback
            have CR := Lib.hid cR
            clear hr hback cR
            go_wp2_with fail
            refine cG.mono ?_
            rintro e w6 ⟨hb6, hpost⟩
            have HX6 := Lib.hid (chain HXR.out hb6)
            have HN6 := Lib.hid (chain HNX.out hb6)
            clear hb6 cG
            cases r with
            | none =>
              obtain rfl := hpost
              go_wp2_with fail
              refine (CR.out w6).mono ?_
              rintro e w7 ⟨hb7, hpost⟩
              obtain rfl := hpost
              have HN7 := Lib.hid (chain HN6.out hb7)
              clear hb7
              go_wp2
              go_roundw
              case rel => exact ⟨k + 1, by omega, by go_num, HN7.out⟩
              case measure => simp [intOf]; omega
            | some ls =>
              obtain ⟨a1, c1, ys, hys, rfl, hown⟩ := hpost
              have HO := Lib.hid (strs_own hown)
              have hyl : ys.length = ls.length := by rw [← hys]; simp
              have HYS := Lib.hid hys
              have HYL := Lib.hid hyl
              clear hown hys hyl
              go_wp2_with fail
              refine (CR.out w6).mono ?_
              rintro e w7 ⟨hb7, hpost⟩
              obtain ⟨a2, c2, zs, hzs, rfl, _⟩ := hpost
              have hzl : zs.length = ys.length := by rw [HYL.out, ← hzs]; simp
              have HO7 := Lib.hid (HO.out.below hb7)
              have HX7 := Lib.hid (chain HX6.out hb7)
              have HN7 := Lib.hid (chain HN6.out hb7)
              have hput : putS (ys.map (·.data.toList)) = t.data.toList := by rw [HYS.out]; exact HBK.out ls (Nat.le_refl _) HR.out
              have cP := put_any _ ys w7 HO7.out (by
                have := puts_len (ys.map (·.data.toList))
                rw [hput, List.length_map, ← Lib.size_eq] at this
                omega) (HG.out.below HX7.out) (by rw [hput, ← Lib.size_eq]; omega)
              have htt : (⟨(putS (ys.map (·.data.toList))).toArray⟩ : ByteArray) = t := by rw [hput]
              rw [htt] at cP
              have hteq : (t.toList == t.toList) = true := by simp
              have hll : ((ys.length : Int) == (zs.length : Int)) = true := by rw [hzl]; simp
              clear hb7 hzs hput htt
              go_wp2_with fail
              refine cP.mono ?_
              rintro e w8 ⟨rfl, hb8⟩
              have HN8 := Lib.hid (chain HN7.out hb8)
              clear hb8 cP
              go_wp2
              go_roundw
              case rel => exact ⟨k + 1, by omega, by go_num, HN8.out⟩
              case measure => simp [intOf]; omega
          · go_wp2
            go_ret
            exact ⟨rfl, HXR.out⟩
end Go.Proofs.YtjaojfaedikkeabDoor.lawMintTurn
