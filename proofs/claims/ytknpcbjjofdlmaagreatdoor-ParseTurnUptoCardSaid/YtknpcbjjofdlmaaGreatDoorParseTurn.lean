/- The law ParseTurn: the walk. -/
import Derived.Test.YtknpcbjjofdlmaaGreatDoorMbeg
import Derived.Test.YtknpcbjjofdlmaaGreatDoorRqI
import Derived.Test.YtknpcbjjofdlmaaGreatDoorMprq
import Derived.Test.YtknpcbjjofdlmaaGreatDoorBytT
import Derived.Test.YtknpcbjjofdlmaaGreatDoorMwalk
namespace Go.Proofs.YtknpcbjjofdlmaaGreatDoor.lawParseTurn
open Go.RowKit Go.Shelf

set_option maxHeartbeats 8000000 in
set_option maxRecDepth 100000 in
theorem law (v : Value) (xs : List RuleS) (at' : Int) (c : UInt8) (more : ByteArray) (w : World) (hI : RulesI w v xs) (hu : xs.length ≤ 1048576 ∧ ∀ y ∈ xs, SmallR y 1048576) (hmore : more.size ≤ maxLen) (hG : GP w.heap.size w) :
    Calls Tryz.prog 3 #[v, .int .i64 at', .int .u8 c.toNat, .string more] w fun e w' => e = .returned (.bool true) ∧ Below w.heap.size w w' := by
  have C0 := Lib.hid (begun4_any w hG)
  have CL : Hid (∀ w', Below w.heap.size w w' → Calls Tryz.prog 9 #[v] w' (SortedRulesPost w' (cutRs 42 xs))) := by
    show ∀ w', _
    exact fun w' hb => lawRules_any v xs w' (hI.below hb) hu.2
  obtain ⟨ys, hys⟩ : ∃ ys, cutRs 42 xs = ys := ⟨_, rfl⟩
  have hyl : ys.length ≤ 42 := by rw [← hys, cutRs_len]; omega
  have HYS : Hid (∀ y ∈ ys, SmallR y 1048576 ∧ ShortR y) := by
    show ∀ y ∈ ys, _
    intro y hy
    rw [← hys] at hy
    obtain ⟨x, hx, rfl⟩ := List.mem_map.1 (show y ∈ (xs.take 42).map cutR from hy)
    exact ⟨small_cutR (hu.2 x (List.mem_of_mem_take hx)), short_cutR x⟩
  rw [hys] at CL
  obtain ⟨S, hS⟩ : ∃ S : ByteArray, (⟨(allQ (ys.take 4)).toArray⟩ : ByteArray) = S := ⟨_, rfl⟩
  have CA : Hid (∀ w' v', RulesI w' v' (ys.take 4) → Calls Tryz.prog 10 #[v'] w' fun e w'' => e = .returned (.string S) ∧ Below w'.heap.size w' w'') := by
    show ∀ w' v', _
    intro w' v' h
    have hl : (ys.take 4).length ≤ 4 := by rw [List.length_take]; omega
    have := allQ_any v' (ys.take 4) w' h (by omega) (fun x hx => (HYS.out x (List.mem_of_mem_take hx)).1) (allQ_len _ (by omega) fun x hx => HYS.out x (List.mem_of_mem_take hx))
    rw [hS] at this
    exact this
  have CR : Hid (∀ (x : ByteArray) w', x.size ≤ 20000 → Below w.heap.size w w' → Calls Tryz.prog 11 #[.string x] w' fun e w'' => e = .returned (.bool true) ∧ Below w'.heap.size w' w'') := by
    show ∀ (x : ByteArray) w', _
    exact fun x w' hx hb => reads_any x w' (by omega) ((hG.below hb).up hb.size)
  have hSl : S.size ≤ 1000000000000 := by
    rw [← hS, arr_len]
    exact allQ_len _ (by rw [List.length_take]; omega) fun x hx => HYS.out x (List.mem_of_mem_take hx)
  have CS := Lib.hid (fun w' => short_any more 20 w' hmore (by omega) (by omega))
  have CS2 : Hid (∀ w', Calls Tryz.prog 12 #[.string S, .int .i64 3000] w' fun e w'' => e = .returned (.string (S.extract 0 (min S.size (3000 : Int).toNat))) ∧ w' = w'') := by
    show ∀ w', _
    exact fun w' => short_any S 3000 w' (by unfold maxLen; omega) (by omega) (by omega)
  clear hI hu hG hys hS
  go_enter Tryz.func3, Tryz.ntmps3
  go_wp2_with fail
  refine C0.out.mono ?_
  rintro e w1 ⟨rfl, hb1⟩
  have HB1 := Lib.hid hb1
  clear hb1
  go_wp2_with fail
  refine (CL.out _ HB1.out).mono ?_
  rintro e w2 ⟨ra, rn, rc, rfl, hown, hb2⟩
  have hri := hown.rulesA.rulesI
  obtain ⟨a', c', q, hrc, hrm⟩ := rulesI_len hri
  injection q with q1 q2 q3
  subst q2 q3
  have hrt := rulesI_take hri 4
  have HRT := Lib.hid hrt
  have HB2 := Lib.hid (HB1.out.trans (hb2.mono HB1.out.size))
  have e1 := take_len ys.length 4 4 rfl
  have k1 : (0 : Int) ≤ min (ys.length : Int) 4 := by omega
  have m1 : min (ys.length : Int) 4 ≤ (rc : Int) := by omega
  unfold maxLen at hrm
  clear hown hri hrt hb2 q1
  go_wp2_with fail
  refine (CA.out _ _ HRT.out).mono ?_
  rintro e w3 ⟨rfl, hb3⟩
  have HB3 := Lib.hid (HB2.out.trans (hb3.mono HB2.out.size))
  clear hb3 e1 k1 m1
  by_cases h0 : S.size = 0
  · have h0b : ((S.size : Int) == 0) = true := by simp [h0]
    have h0c : (S.size == 0) = true := by simp [h0]
    clear h0
    go_wp2_with fail
    refine (CS2.out _).mono ?_
    rintro e w4 ⟨rfl, rfl⟩
    go_wp2_with fail
    refine (CR.out _ _ (by rw [ByteArray.size_extract]; omega) HB3.out).mono ?_
    rintro e w5 ⟨rfl, hb5⟩
    have HB5 := Lib.hid (HB3.out.trans (hb5.mono HB3.out.size))
    clear hb5
    go_wp2
    go_ret
    exact ⟨rfl, HB5.out⟩
  · have h0b : ((S.size : Int) == 0) = false := by simp [h0]
    have h0c : (S.size == 0) = false := by simp [h0]
    by_cases h3 : 3000 < S.size
    · have h3b : (3000 : Int) < (S.size : Int) := by omega
      clear h0
      go_wp2_with fail
      refine (CS2.out _).mono ?_
      rintro e w4 ⟨rfl, rfl⟩
      go_wp2_with fail
      refine (CR.out _ _ (by rw [ByteArray.size_extract]; omega) HB3.out).mono ?_
      rintro e w5 ⟨rfl, hb5⟩
      have HB5 := Lib.hid (HB3.out.trans (hb5.mono HB3.out.size))
      clear hb5
      go_wp2
      go_ret
      exact ⟨rfl, HB5.out⟩
    · have h3b : ¬ (3000 : Int) < (S.size : Int) := by omega
      by_cases hat : at' < 0
      · clear h0
        go_wp2_with fail
        refine (CS2.out _).mono ?_
        rintro e w4 ⟨rfl, rfl⟩
        go_wp2_with fail
        refine (CR.out _ _ (by rw [ByteArray.size_extract]; omega) HB3.out).mono ?_
        rintro e w5 ⟨rfl, hb5⟩
        have HB5 := Lib.hid (HB3.out.trans (hb5.mono HB3.out.size))
        clear hb5
        go_wp2
        go_ret
        exact ⟨rfl, HB5.out⟩
      · have hat0 : 0 ≤ at' := by omega
        obtain ⟨p, hp, hpl⟩ : ∃ p : Nat, at'.tmod (S.size : Int) = (p : Int) ∧ p < S.size := by
          have q1 := Int.tmod_lt_of_pos at' (show (0 : Int) < (S.size : Int) by omega)
          have q2 := Int.tmod_nonneg (S.size : Int) hat0
          exact ⟨(at'.tmod (S.size : Int)).toNat, by omega, by omega⟩
        have hem : at' % (S.size : Int) = (p : Int) := by rw [← Int.tmod_eq_emod_of_nonneg hat0]; exact hp
        have hnz : ¬ (S.size : Int) = 0 := by omega
        have kc := Lib.run_convert_string_bytes (P := Tryz.prog) w3 9 28 5 S Tryz.underlying9 Tryz.underlying28 Tryz.underlying5
        have hcells := fun j hj => Lib.bytesWorld_cell w3 5 S j hj
        have hbw : Below w3.heap.size w3 (Lib.bytesWorld w3 5 S) := below_bytes (e := 5) (.inr ⟨S, rfl⟩)
        have hfz : (Lib.bytesWorld w3 5 S).frozen? ⟨w3.heap.size, p, none⟩ = false := by
          unfold World.frozen?
          rw [Lib.bytesWorld_at_new]
          have : p < (Lib.bytesCells w3 5 S).size := by
            simp only [Lib.bytesCells, Array.size_append, Array.size_map]
            have : S.data.size = S.size := rfl
            omega
          simp; omega
        obtain ⟨WB, hWB⟩ : ∃ WB, Lib.bytesWorld w3 5 S = WB := ⟨_, rfl⟩
        obtain ⟨G, hGc⟩ : ∃ G, grownCap w3 S.size 0 5 = G := ⟨_, rfl⟩
        rw [hWB] at kc hcells hbw hfz
        rw [hGc] at kc
        have hcp := hcells p hpl
        have HBW := Lib.hid hbw
        have HCE := Lib.hid hcells
        obtain ⟨c0, hc0⟩ : ∃ c0, S.data.toList.getD p 0 = c0 := ⟨_, rfl⟩
        rw [hc0] at hcp
        obtain ⟨y, hy⟩ := xor_u8 (c0.toNat : Int) (c.toNat : Int)
        obtain ⟨tb, htb, hby⟩ := bytes_set WB w3.heap.size S p y hpl HCE.out
        obtain ⟨W5, hW5⟩ : ∃ W5, WB.setCell ⟨w3.heap.size, p, none⟩ (.int .u8 (y.toNat : Nat)) = W5 := ⟨_, rfl⟩
        rw [hW5] at hby
        have hx5 : Below w3.heap.size w3 W5 := by rw [← hW5]; exact HBW.out.setCell (Nat.le_refl _) _
        have hbl : w3.heap.size < W5.heap.size := cell_lt (hby 0 (by rw [htb]; omega))
        have HY := Lib.hid hy
        have HW5 := Lib.hid hW5
        have HBY := Lib.hid hby
        have HX5 := Lib.hid (HB3.out.trans (hx5.mono HB3.out.size))
        have HTB := Lib.hid htb
        have hp0 : (0 : Int) ≤ (p : Int) := by omega
        have hp1 : (p : Int) < (S.size : Int) := by omega
        clear hbw hcells hWB hGc hc0 hy hW5 hby hx5 htb HCE HBW h0 hat
        go_wp2_with fail
        rw [HY.out]
        rw [HW5.out]
        clear kc hcp hfz hp hem hnz
        have hp2 : (p : Int) ≤ (S.size : Int) := by omega
        have hcv : ∀ w', Below W5.heap.size W5 w' → (Go.convert 28 9 (.slice (some ⟨w3.heap.size, 0, none⟩) S.size G)).run Tryz.prog w' = .ok (.string tb) w' := fun w' hw => by
          have := Lib.run_convert_whole (P := Tryz.prog) w' 28 5 9 Tryz.underlying28 Tryz.underlying5 Tryz.underlying9 w3.heap.size 0 tb (bytes_below HBY.out hbl hw) G
          rw [HTB.out] at this
          exact this
        have HS0 : Hid (Below W5.heap.size W5 W5.drew) := by show Below _ _ _; exact (Below.refl _ _).drew
        have CRR : Hid (∀ (x : ByteArray) w', x.size ≤ 20000 → Below W5.heap.size W5 w' → Calls Tryz.prog 11 #[.string x] w' fun e w'' => e = .returned (.bool true) ∧ Below w'.heap.size w' w'') := by
          show ∀ (x : ByteArray) w', _
          exact fun x w' hx hb => CR.out x w' hx (HX5.out.trans (hb.mono HX5.out.size))
        have hT : (more.extract 0 (min more.size (20 : Int).toNat)).size ≤ 20 := by rw [ByteArray.size_extract]; omega
        obtain ⟨T, hTe⟩ : ∃ T, more.extract 0 (min more.size (20 : Int).toNat) = T := ⟨_, rfl⟩
        simp only [hTe] at CS hT
        have hs1 : (S.extract 0 p).size ≤ 3000 := by rw [ByteArray.size_extract]; omega
        have hs2 : (S.extract p S.size).size ≤ 3000 := by rw [ByteArray.size_extract]; omega
        obtain ⟨U1, hU1⟩ : ∃ U, S.extract 0 p = U := ⟨_, rfl⟩
        obtain ⟨U2, hU2⟩ : ∃ U, S.extract p S.size = U := ⟨_, rfl⟩
        rw [hU1] at hs1
        rw [hU2] at hs2
        have HU1 := Lib.hid hU1
        have HU2 := Lib.hid hU2
        have ov1 : ¬ 9223372036854775807 < U1.size + T.size := by omega
        have ov2 : ¬ 9223372036854775807 < U1.size + T.size + U2.size := by omega
        have htl : tb.size ≤ 3000 := by rw [HTB.out]; omega
        clear hTe hU1 hU2
        refine wp_region_held_drew (S := fun w' => Below W5.heap.size W5 w') (by kernel_rfl) ?_ (fun hHeld => ?_)
        · exact HS0.out
        refine wpAnyH_take (i := 0) (oi := _) (v := ?_) (by simp only [List.getElem?_toArray, List.getElem?_cons_zero]; rfl) (by kernel_rfl) (by kernel_rfl) (by kernel_rfl) (by exact fun _ _ _ h => h) (Or.inl ⟨by rfl, ?_⟩) (by assumption) ?_
        rotate_left
        · intro w hSw; go_simp; try with_reducible rfl
        try simp only [Act.put, List.setIfInBounds_toArray, List.set_cons_zero, List.set_cons_succ]
        refine wpAnyH_take (i := 1) (oi := _) (v := ?_) (by simp only [List.getElem?_toArray, List.getElem?_cons_succ, List.getElem?_cons_zero]; rfl) (by kernel_rfl) (by kernel_rfl) (by kernel_rfl) (by exact fun _ _ _ h => h) (Or.inl ⟨by rfl, ?_⟩) (by assumption) ?_
        rotate_left
        · intro w hSw; go_simp; try with_reducible rfl
        try simp only [Act.put, List.setIfInBounds_toArray, List.set_cons_zero, List.set_cons_succ]
        refine wpAnyH_ready (rs := [2]) (by kernel_rfl) (by simp) ?_
        refine AllReadyH.cons (o := _) (by simp only [List.getElem?_toArray, List.getElem?_cons_succ, List.getElem?_cons_zero]; rfl) (fun K hK => ?_) ?_
        · go_simp; go_at_call 11; refine (CRR.out tb _ (by omega) hHeld).mono ?_; rintro e q ⟨rfl, hbq⟩; have hSn := hHeld.trans (hbq.mono hHeld.size)
          refine hK.out _ _ ?_ (fun hHeld => ?_)
          · try dsimp only
            exact hSn
          clear hK K
          try simp only [Act.put, List.setIfInBounds_toArray, List.set_cons_zero, List.set_cons_succ]
          refine wpAnyH_take (i := 3) (oi := _) (v := ?_) (by simp only [List.getElem?_toArray, List.getElem?_cons_succ, List.getElem?_cons_zero]; rfl) (by kernel_rfl) (by kernel_rfl) (by kernel_rfl) (by exact fun _ _ _ h => h) (Or.inl ⟨by rfl, ?_⟩) (by assumption) ?_
          rotate_left
          · intro w hSw; go_simp; try with_reducible rfl
          try simp only [Act.put, List.setIfInBounds_toArray, List.set_cons_zero, List.set_cons_succ]
          refine wpAnyH_take (i := 4) (oi := _) (v := ?_) (by simp only [List.getElem?_toArray, List.getElem?_cons_succ, List.getElem?_cons_zero]; rfl) (by kernel_rfl) (by kernel_rfl) (by kernel_rfl) (by exact fun _ _ _ h => h) (Or.inl ⟨by rfl, ?_⟩) (by assumption) ?_
          rotate_left
          · intro w hSw; go_simp; try with_reducible rfl
          try simp only [Act.put, List.setIfInBounds_toArray, List.set_cons_zero, List.set_cons_succ]
          refine wpAnyH_take (i := 5) (oi := _) (v := ?_) (by simp only [List.getElem?_toArray, List.getElem?_cons_succ, List.getElem?_cons_zero]; rfl) (by kernel_rfl) (by kernel_rfl) (by kernel_rfl) (by exact fun _ _ _ h => h) (Or.inl ⟨by rfl, ?_⟩) (by assumption) ?_
          rotate_left
          · intro w hSw; go_simp; try with_reducible rfl
          try simp only [Act.put, List.setIfInBounds_toArray, List.set_cons_zero, List.set_cons_succ]
          refine wpAnyH_take (i := 6) (oi := _) (v := ?_) (by simp only [List.getElem?_toArray, List.getElem?_cons_succ, List.getElem?_cons_zero]; rfl) (by kernel_rfl) (by kernel_rfl) (by kernel_rfl) (by exact fun _ _ _ h => h) (Or.inl ⟨by rfl, ?_⟩) (by assumption) ?_
          rotate_left
          · intro w hSw; go_simp; rw [HU1.out]
          try simp only [Act.put, List.setIfInBounds_toArray, List.set_cons_zero, List.set_cons_succ]
          refine wpAnyH_ready (rs := [7]) (by kernel_rfl) (by simp) ?_
          refine AllReadyH.cons (o := _) (by simp only [List.getElem?_toArray, List.getElem?_cons_succ, List.getElem?_cons_zero]; rfl) (fun K hK => ?_) ?_
          · go_simp; go_at_call 11; refine (CRR.out U1 _ (by omega) hHeld).mono ?_; rintro e q ⟨rfl, hbq⟩; have hSn := hHeld.trans (hbq.mono hHeld.size)
            refine hK.out _ _ ?_ (fun hHeld => ?_)
            · try dsimp only
              exact hSn
            clear hK K
            try simp only [Act.put, List.setIfInBounds_toArray, List.set_cons_zero, List.set_cons_succ]
            refine wpAnyH_take (i := 8) (oi := _) (v := ?_) (by simp only [List.getElem?_toArray, List.getElem?_cons_succ, List.getElem?_cons_zero]; rfl) (by kernel_rfl) (by kernel_rfl) (by kernel_rfl) (by exact fun _ _ _ h => h) (Or.inl ⟨by rfl, ?_⟩) (by assumption) ?_
            rotate_left
            · intro w hSw; go_simp; try with_reducible rfl
            try simp only [Act.put, List.setIfInBounds_toArray, List.set_cons_zero, List.set_cons_succ]
            refine wpAnyH_take (i := 9) (oi := _) (v := ?_) (by simp only [List.getElem?_toArray, List.getElem?_cons_succ, List.getElem?_cons_zero]; rfl) (by kernel_rfl) (by kernel_rfl) (by kernel_rfl) (by exact fun _ _ _ h => h) (Or.inl ⟨by rfl, ?_⟩) (by assumption) ?_
            rotate_left
            · intro w hSw; go_simp; try with_reducible rfl
            try simp only [Act.put, List.setIfInBounds_toArray, List.set_cons_zero, List.set_cons_succ]
            refine wpAnyH_take (i := 10) (oi := _) (v := ?_) (by simp only [List.getElem?_toArray, List.getElem?_cons_succ, List.getElem?_cons_zero]; rfl) (by kernel_rfl) (by kernel_rfl) (by kernel_rfl) (by exact fun _ _ _ h => h) (Or.inl ⟨by rfl, ?_⟩) (by assumption) ?_
            rotate_left
            · intro w hSw; go_simp; try with_reducible rfl
            try simp only [Act.put, List.setIfInBounds_toArray, List.set_cons_zero, List.set_cons_succ]
            refine wpAnyH_take (i := 11) (oi := _) (v := ?_) (by simp only [List.getElem?_toArray, List.getElem?_cons_succ, List.getElem?_cons_zero]; rfl) (by kernel_rfl) (by kernel_rfl) (by kernel_rfl) (by exact fun _ _ _ h => h) (Or.inl ⟨by rfl, ?_⟩) (by assumption) ?_
            rotate_left
            · intro w hSw; go_simp; try with_reducible rfl
            try simp only [Act.put, List.setIfInBounds_toArray, List.set_cons_zero, List.set_cons_succ]
            refine wpAnyH_take (i := 12) (oi := _) (v := ?_) (by simp only [List.getElem?_toArray, List.getElem?_cons_succ, List.getElem?_cons_zero]; rfl) (by kernel_rfl) (by kernel_rfl) (by kernel_rfl) (by exact fun _ _ _ h => h) (Or.inl ⟨by rfl, ?_⟩) (by assumption) ?_
            rotate_left
            · intro w hSw; go_simp; rw [HU2.out]
            try simp only [Act.put, List.setIfInBounds_toArray, List.set_cons_zero, List.set_cons_succ]
            refine wpAnyH_ready (rs := [13]) (by kernel_rfl) (by simp) ?_
            refine AllReadyH.cons (o := _) (by simp only [List.getElem?_toArray, List.getElem?_cons_succ, List.getElem?_cons_zero]; rfl) (fun K hK => ?_) ?_
            · go_simp; go_at_call 11; refine (CRR.out U2 _ (by omega) hHeld).mono ?_; rintro e q ⟨rfl, hbq⟩; have hSn := hHeld.trans (hbq.mono hHeld.size)
              refine hK.out _ _ ?_ (fun hHeld => ?_)
              · try dsimp only
                exact hSn
              clear hK K
              try simp only [Act.put, List.setIfInBounds_toArray, List.set_cons_zero, List.set_cons_succ]
              refine wpAnyH_take (i := 14) (oi := _) (v := ?_) (by simp only [List.getElem?_toArray, List.getElem?_cons_succ, List.getElem?_cons_zero]; rfl) (by kernel_rfl) (by kernel_rfl) (by kernel_rfl) (by exact fun _ _ _ h => h) (Or.inl ⟨by rfl, ?_⟩) (by assumption) ?_
              rotate_left
              · intro w hSw; go_simp; try with_reducible rfl
              try simp only [Act.put, List.setIfInBounds_toArray, List.set_cons_zero, List.set_cons_succ]
              refine wpAnyH_take (i := 15) (oi := _) (v := ?_) (by simp only [List.getElem?_toArray, List.getElem?_cons_succ, List.getElem?_cons_zero]; rfl) (by kernel_rfl) (by kernel_rfl) (by kernel_rfl) (by exact fun _ _ _ h => h) (Or.inl ⟨by rfl, ?_⟩) (by assumption) ?_
              rotate_left
              · intro w hSw; go_simp; try with_reducible rfl
              try simp only [Act.put, List.setIfInBounds_toArray, List.set_cons_zero, List.set_cons_succ]
              refine wpAnyH_take (i := 16) (oi := _) (v := ?_) (by simp only [List.getElem?_toArray, List.getElem?_cons_succ, List.getElem?_cons_zero]; rfl) (by kernel_rfl) (by kernel_rfl) (by kernel_rfl) (by exact fun _ _ _ h => h) (Or.inl ⟨by rfl, ?_⟩) (by assumption) ?_
              rotate_left
              · intro w hSw; go_simp; try with_reducible rfl
              try simp only [Act.put, List.setIfInBounds_toArray, List.set_cons_zero, List.set_cons_succ]
              refine wpAnyH_take (i := 17) (oi := _) (v := ?_) (by simp only [List.getElem?_toArray, List.getElem?_cons_succ, List.getElem?_cons_zero]; rfl) (by kernel_rfl) (by kernel_rfl) (by kernel_rfl) (by exact fun _ _ _ h => h) (Or.inl ⟨by rfl, ?_⟩) (by assumption) ?_
              rotate_left
              · intro w hSw; go_simp; try with_reducible rfl
              try simp only [Act.put, List.setIfInBounds_toArray, List.set_cons_zero, List.set_cons_succ]
              refine wpAnyH_take (i := 18) (oi := _) (v := ?_) (by simp only [List.getElem?_toArray, List.getElem?_cons_succ, List.getElem?_cons_zero]; rfl) (by kernel_rfl) (by kernel_rfl) (by kernel_rfl) (by exact fun _ _ _ h => h) (Or.inl ⟨by rfl, ?_⟩) (by assumption) ?_
              rotate_left
              · intro w hSw; go_simp; rw [HU1.out]
              try simp only [Act.put, List.setIfInBounds_toArray, List.set_cons_zero, List.set_cons_succ]
              refine wpAnyH_take (i := 19) (oi := _) (v := ?_) (by simp only [List.getElem?_toArray, List.getElem?_cons_succ, List.getElem?_cons_zero]; rfl) (by kernel_rfl) (by kernel_rfl) (by kernel_rfl) (by exact fun _ _ _ h => h) (Or.inl ⟨by rfl, ?_⟩) (by assumption) ?_
              rotate_left
              · intro w hSw; go_simp; try with_reducible rfl
              try simp only [Act.put, List.setIfInBounds_toArray, List.set_cons_zero, List.set_cons_succ]
              refine wpAnyH_take (i := 22) (oi := _) (v := ?_) (by simp only [List.getElem?_toArray, List.getElem?_cons_succ, List.getElem?_cons_zero]; rfl) (by kernel_rfl) (by kernel_rfl) (by kernel_rfl) (by exact fun _ _ _ h => h) (Or.inl ⟨by rfl, ?_⟩) (by assumption) ?_
              rotate_left
              · intro w hSw; go_simp; try with_reducible rfl
              try simp only [Act.put, List.setIfInBounds_toArray, List.set_cons_zero, List.set_cons_succ]
              refine wpAnyH_take (i := 23) (oi := _) (v := ?_) (by simp only [List.getElem?_toArray, List.getElem?_cons_succ, List.getElem?_cons_zero]; rfl) (by kernel_rfl) (by kernel_rfl) (by kernel_rfl) (by exact fun _ _ _ h => h) (Or.inl ⟨by rfl, ?_⟩) (by assumption) ?_
              rotate_left
              · intro w hSw; go_simp; try with_reducible rfl
              try simp only [Act.put, List.setIfInBounds_toArray, List.set_cons_zero, List.set_cons_succ]
              refine wpAnyH_take (i := 24) (oi := _) (v := ?_) (by simp only [List.getElem?_toArray, List.getElem?_cons_succ, List.getElem?_cons_zero]; rfl) (by kernel_rfl) (by kernel_rfl) (by kernel_rfl) (by exact fun _ _ _ h => h) (Or.inl ⟨by rfl, ?_⟩) (by assumption) ?_
              rotate_left
              · intro w hSw; go_simp; rw [HU2.out]
              try simp only [Act.put, List.setIfInBounds_toArray, List.set_cons_zero, List.set_cons_succ]
              refine wpAnyH_ready (rs := [20]) (by kernel_rfl) (by simp) ?_
              refine AllReadyH.cons (o := _) (by simp only [List.getElem?_toArray, List.getElem?_cons_succ, List.getElem?_cons_zero]; rfl) (fun K hK => ?_) ?_
              · go_simp; go_at_call 12; refine (CS.out _).mono ?_; rintro e q ⟨rfl, rfl⟩
                refine hK.out _ _ ?_ (fun hHeld => ?_)
                · try dsimp only
                  assumption
                clear hK K
                try simp only [Act.put, List.setIfInBounds_toArray, List.set_cons_zero, List.set_cons_succ]
                refine wpAnyH_take (i := 21) (oi := _) (v := ?_) (by simp only [List.getElem?_toArray, List.getElem?_cons_succ, List.getElem?_cons_zero]; rfl) (by kernel_rfl) (by kernel_rfl) (by kernel_rfl) (by exact fun _ _ _ h => h) (Or.inl ⟨by rfl, ?_⟩) (by assumption) ?_
                rotate_left
                · intro w hSw; go_simp; try with_reducible rfl
                try simp only [Act.put, List.setIfInBounds_toArray, List.set_cons_zero, List.set_cons_succ]
                refine wpAnyH_take (i := 25) (oi := _) (v := ?_) (by simp only [List.getElem?_toArray, List.getElem?_cons_succ, List.getElem?_cons_zero]; rfl) (by kernel_rfl) (by kernel_rfl) (by kernel_rfl) (by exact fun _ _ _ h => h) (Or.inl ⟨by rfl, ?_⟩) (by assumption) ?_
                rotate_left
                · intro w hSw; go_simp; try with_reducible rfl
                try simp only [Act.put, List.setIfInBounds_toArray, List.set_cons_zero, List.set_cons_succ]
                refine wpAnyH_ready (rs := [26]) (by kernel_rfl) (by simp) ?_
                refine AllReadyH.cons (o := _) (by simp only [List.getElem?_toArray, List.getElem?_cons_succ, List.getElem?_cons_zero]; rfl) (fun K hK => ?_) ?_
                · go_simp; go_at_call 11; refine (CRR.out (U1 ++ T ++ U2) _ (by simp only [ByteArray.size_append]; omega) hHeld).mono ?_; rintro e q ⟨rfl, hbq⟩; have hSn := hHeld.trans (hbq.mono hHeld.size)
                  refine hK.out _ _ ?_ (fun hHeld => ?_)
                  · try dsimp only
                    exact hSn
                  clear hK K
                  try simp only [Act.put, List.setIfInBounds_toArray, List.set_cons_zero, List.set_cons_succ]
                  refine wpAnyH_take (i := 27) (oi := _) (v := ?_) (by simp only [List.getElem?_toArray, List.getElem?_cons_succ, List.getElem?_cons_zero]; rfl) (by kernel_rfl) (by kernel_rfl) (by kernel_rfl) (by exact fun _ _ _ h => h) (Or.inl ⟨by rfl, ?_⟩) (by assumption) ?_
                  rotate_left
                  · intro w hSw; go_simp; try with_reducible rfl
                  try simp only [Act.put, List.setIfInBounds_toArray, List.set_cons_zero, List.set_cons_succ]
                  refine wpAnyH_take (i := 28) (oi := _) (v := ?_) (by simp only [List.getElem?_toArray, List.getElem?_cons_succ, List.getElem?_cons_zero]; rfl) (by kernel_rfl) (by kernel_rfl) (by kernel_rfl) (by exact fun _ _ _ h => h) (Or.inl ⟨by rfl, ?_⟩) (by assumption) ?_
                  rotate_left
                  · intro w hSw; go_simp; try with_reducible rfl
                  try simp only [Act.put, List.setIfInBounds_toArray, List.set_cons_zero, List.set_cons_succ]
                  refine wpAnyH_done (by kernel_rfl) ?_ _
                  have HE := Lib.hid (HX5.out.trans (hHeld.mono HX5.out.size))
                  clear hHeld hSn
                  go_wp2_with fail
                  go_ret
                  exact ⟨rfl, HE.out⟩
                exact AllReadyH.nil
              exact AllReadyH.nil
            exact AllReadyH.nil
          exact AllReadyH.nil
        exact AllReadyH.nil
end Go.Proofs.YtknpcbjjofdlmaaGreatDoor.lawParseTurn
