/- The reference's reader: File. -/
import Derived.BigQuiet
import Derived.Test.YtknpcbjjofdlmaaGreatDoorMrl
import Derived.Test.YtknpcbjjofdlmaaGreatDoorMmb
import Derived.Test.YtknpcbjjofdlmaaGreatDoorMpar
import Derived.Test.YtknpcbjjofdlmaaGreatDoorMbeg
import Derived.Test.YtknpcbjjofdlmaaGreatDoorRqG
namespace Go.Proofs.YtknpcbjjofdlmaaGreatDoor
open Go.RowKit

/-- The calls below 'File', where no word is too long. -/
theorem qc_of (p : Nat) (v : Value) (ws : List WordT) (hsz : ∀ k, k < ws.length → (wTx ws k).size ≤ 1048576) : QC p v ws where
  name := fun s w' h => q_name_any p v ws s w' h hsz fun t w ht => mayR_any t w (by unfold maxLen; omega)
  text := fun s w' h => q_str_any p v ws s w' h
  ok := fun s w' h => q_ok_any p v ws s w' h
  want := fun key s w' h => q_want_any p v ws s 3 key w' h (by decide)
  fail := fun s w' h => q_fail_any p v ws s w' h
  number := fun k w' h => getNumberR_any (wTx ws k) 2000 (by have := hsz k h; unfold maxLen; omega) w'
theorem ql_of (p : Nat) (v : Value) (ws : List WordT) (hsz : ∀ k, k < ws.length → (wTx ws k).size ≤ 1048576) (hfew : ws.length ≤ 2097152) : QL p v ws where
  iskey := fun key s w' h => q_is_any p v ws s 1 key w' h
  ismark := fun key s w' h => q_is_any p v ws s 3 key w' h
  key := fun key s w' h => q_want_any p v ws s 1 key w' h (by decide)
  list := fun s w' h => q_list_any p v ws s w' h hsz hfew fun t w ht => mayR_any t w (by unfold maxLen; omega)
  step := fun s w' h => q_step_any p v ws s w' h (qc_of p v ws hsz) hfew

set_option maxHeartbeats 8000000 in
set_option maxRecDepth 100000 in
theorem fileQ_any (s : ByteArray) (w : World) (hs : s.size ≤ 1048575) :
    Calls Tryz.prog 30 #[.string s] w fun e w' => FileE s.data.toList w w' e ∧ Below w.heap.size w w' := by
  obtain ⟨L, hL⟩ : ∃ L, s.data.toList = L := ⟨_, rfl⟩
  have hsz : s.size = L.length := by rw [← hL]; exact Lib.size_eq s
  rw [hL]
  by_cases hm : 20000 < s.size
  · have hres : fileS L = .error (4, -1) := by unfold fileS; rw [if_pos (by omega)]
    have HRES := Lib.hid hres
    have hm' : (20000 : Int) < (s.size : Int) := by omega
    clear hres hL hsz
    go_enter Tryz.func30, Tryz.ntmps30
    go_wp2
    first
      | refine bodyPost_ret (results_tc rfl _ _ w.heap.size _ _ _ _ rfl (alloc_at w _) Tryz.underlying34 rfl (by kernel_rfl)) rfl ?_
      | refine bodyPost_ret (results_tc rfl _ _ w.heap.size _ _ _ _ rfl (heap_set _ _ (heap_set _ _ (alloc_at w _))) Tryz.underlying34 rfl (by kernel_rfl)) rfl ?_
    first
      | exact ⟨fileE_bad HRES.out rfl, (Below.refl _ _).alloc (Nat.le_refl _) _⟩
      | exact ⟨fileE_bad HRES.out rfl, (((Below.refl _ _).alloc (Nat.le_refl _) _).setCell (Nat.le_refl _) _).setCell (Nat.le_refl _) _⟩
  · have hm' : ¬ (20000 : Int) < (s.size : Int) := by omega
    have cA := fun w' => refAll_any s w' hs
    rw [hL] at cA
    have CA := Lib.hid cA
    have HSZ := Lib.hid hsz
    clear hL cA hsz
    cases hA : allS L with
    | error q =>
      have hres : fileS L = .error (1, (q : Int)) := by unfold fileS; rw [if_neg (by have := HSZ.out; omega), hA]
      have HRES := Lib.hid hres
      have HAE := Lib.hid hA
      clear hres hA
      go_enter Tryz.func30, Tryz.ntmps30
      go_wp2_with fail
      refine (CA.out _).mono ?_
      rintro e w2 ⟨he, hb2⟩
      unfold AllE at he
      rw [HAE.out] at he
      simp only at he
      subst he
      have hnx := below_new hb2
      have hbk := at_new hb2
      have hbk2 : (w2.alloc (.cells #[.int .i64 1, .int .i64 (q : Int)] 34)).heap[w.heap.size]? = some (.cells #[.int .i64 0, .int .i64 0] 34) := by
        rw [Below.heap_alloc _ _ _ (by have := hb2.size; simp at this; omega)]; exact hbk
      obtain ⟨e0, e1, f0, f1⟩ := cells2 hbk2
      have HBK := Lib.hid hbk2
      have HNX := Lib.hid hnx
      clear hbk hbk2 hb2 hnx
      go_wp2_with fail
      go_region
      all_goals go_wp2
      all_goals refine bodyPost_ret (results_tc rfl _ _ w.heap.size _ _ _ _ rfl (heap_set _ _ (heap_set _ _ HBK.out)) Tryz.underlying34 rfl (by kernel_rfl)) rfl ?_
      all_goals exact ⟨fileE_bad HRES.out rfl, (((HNX.out.alloc HNX.out.size _).setCell (Nat.le_refl _) _).setCell (Nat.le_refl _) _).drew⟩
    | ok ws =>
      obtain ⟨R, hR⟩ : ∃ x, rulesR ws (2 * ws.length + 2) [] (0, false) = x := ⟨_, rfl⟩
      have hres : fileS L = if R.2.2 then .error (1, ((wAt ws R.2.1).2.1 : Int)) else .ok R.1 := by rw [← file_same]; unfold fileR; rw [if_neg (by have := HSZ.out; omega), hA, ← hR]
      obtain ⟨a1, a2, a3, a4⟩ := allF_ok _ _ _ _ hA
      have hszw : ∀ k, k < ws.length → (wTx ws k).size ≤ 1048576 := fun k hk => by
        have := a4 _ (List.getElem_mem hk)
        unfold wTx wAt
        rw [List.getD_eq_getElem?_getD, List.getElem?_eq_getElem hk]
        simp only [Option.getD_some, ByteArray.size, List.size_toArray]
        have := HSZ.out
        omega
      have hfew : ws.length ≤ 20001 := by have := HSZ.out; omega
      have HRES := Lib.hid hres
      have HR := Lib.hid hR
      have HAE := Lib.hid hA
      have HSW := Lib.hid hszw
      have HEN := Lib.hid a1
      have HPOS := Lib.hid a2
      clear hres hA hR hszw a1 a2 a3 a4
      go_enter Tryz.func30, Tryz.ntmps30
      go_wp2_with fail
      refine (CA.out _).mono ?_
      rintro e w2 ⟨he, hb2⟩
      unfold AllE at he
      rw [HAE.out] at he
      simp only at he
      obtain ⟨v, rfl, hwd⟩ := he
      have hnx := below_new hb2
      have hbk := at_new hb2
      have hs2 := hb2.size
      simp at hs2
      have h1 := words_block hwd HPOS.out
      obtain ⟨va, vc, hvs, _, _⟩ := words_shape hwd
      subst hvs
      obtain ⟨W0, hW0⟩ : ∃ W0, (w2.alloc (.cells #[.int .i64 0, .int .i64 0] 34)).alloc (.cells #[.slice va ws.length vc, .int .i64 0, .int .i64 (-1)] 93) = W0 := ⟨_, rfl⟩
      have hB0 : Below w2.heap.size w2 W0 := by rw [← hW0]; exact ((Below.refl _ _).alloc (Nat.le_refl _) _).alloc (by simp) _
      have hz0 : W0.heap.size = w2.heap.size + 2 := by rw [← hW0]; simp
      have hq0 : QSt W0 (w2.heap.size + 1) (.slice va ws.length vc) ws (0, false) := by
        refine ⟨?_, ⟨hwd.below hB0, fun b e => ⟨by have := h1 b e; omega, fun e2 => by have := h1 b e; omega⟩⟩, HPOS.out, HEN.out⟩
        rw [← hW0]
        have := alloc_at (w2.alloc (.cells #[.int .i64 0, .int .i64 0] 34)) (.cells #[.slice va ws.length vc, .int .i64 0, .int .i64 (-1)] 93)
        simpa [badOf] using this
      have herr0 : W0.heap[w.heap.size]? = some (.cells #[.int .i64 0, .int .i64 0] 34) := (hB0.block _ (by omega)).trans hbk
      have hn0 : Below w.heap.size w W0 := hnx.trans (hB0.mono hnx.size)
      obtain ⟨i0, hi, hy0, hy1, hy2⟩ := info_of info_rule
      have HQ0 := Lib.hid hq0
      have HE0 := Lib.hid herr0
      have HN0 := Lib.hid hn0
      have HW0 := Lib.hid hW0
      have HZ0 := Lib.hid hz0
      have HC := Lib.hid (qc_of (w2.heap.size + 1) (.slice va ws.length vc) ws HSW.out)
      have CR : Hid (∀ s' w', QSt w' (w2.heap.size + 1) (.slice va ws.length vc) ws s' → Calls Tryz.prog 60 #[.pointer (some ⟨w2.heap.size + 1, 0, none⟩)] w' fun e w'' => RuleE w' w'' (ruleR ws s').1 e ∧ AfterQ w' w'' (w2.heap.size + 1) (.slice va ws.length vc) ws (ruleR ws s').2) := by
        show ∀ s' w', _
        exact fun s' w' hq => q_rule_any _ _ ws s' w' hq HC.out (ql_of _ _ ws HSW.out (by omega)) (by omega)
      clear hwd hnx hbk hb2 h1 hB0 hq0 herr0 hn0 hW0 hz0
      go_wp2
      go_loopw [7] (fun vv wr => ∃ (f : Nat) (acc : List RuleS) (rows : List (List Value)) (s' : PS), leftP ws s' < f ∧ rulesR ws f acc s' = R ∧ acc.length + f ≤ 2 * ws.length + 2 ∧ wr.ownsRow W0.heap.size 42 5 vv rows.length rows.flatten ∧ AllA (RuleA (AvOf W0.heap.size vv) wr) rows acc ∧ AfterQ W0 wr (w2.heap.size + 1) (.slice va ws.length vc) ws s')
        (fun _ wr => 2 * (ws.length - posPs wr (w2.heap.size + 1)) + failQ wr (w2.heap.size + 1))
      case atStart => exact ⟨2 * ws.length + 2, [], [], (0, false), by simp [leftP], HR.out, by simp, ⟨rfl, .inl ⟨rfl, rfl⟩⟩, AllA.nil _, by rw [HW0.out]; exact AfterQ.refl HQ0.out⟩
      case round =>
        obtain ⟨f, acc, rows, s', hf, hj, hal, hown, hall, ha⟩ := hrel
        obtain ⟨aa, ca, rfl, _, _, _⟩ := own_shape hown
        obtain ⟨f, rfl⟩ : ∃ g, f = g + 1 := ⟨f - 1, by omega⟩
        have HA := Lib.hid ha
        have HJ := Lib.hid hj
        have HO := Lib.hid hown
        have HL := Lib.hid hall
        have HF := Lib.hid hf
        have HAL := Lib.hid hal
        have HRL := Lib.hid hall.1
        have hlt := ha.1.lt
        obtain ⟨c0, c1, c2, f0, f1, f2⟩ := ha.1.cells
        obtain ⟨b', o', c', q', hl', hm'', hb', hbp', e0, e1, e2⟩ := ha.1.slice
        cases q'
        have HD : Hid (∀ n, AfterQ W0 (wr.drewN n) (w2.heap.size + 1) (.slice (some ⟨b', o', none⟩) ws.length vc) ws s') := by show ∀ n, _; exact fun n => ha.trans (AfterQ.of_below ha.1 (below_drewN (Below.refl _ _) n))
        have HDO : Hid (∀ n, (wr.drewN n).ownsRow W0.heap.size 42 5 (.slice aa rows.length ca) rows.length rows.flatten) := by
          show ∀ n, _
          intro n
          have hb := below_drewN (Below.refl wr.heap.size wr) n
          exact World.ownsRow.kept (row := none) hown ⟨hb.os, hb.tape, hb.output, hb.size, fun k hk _ => hb.block k hk⟩ (by cases Value.ownBlock _ <;> simp)
        have HDL : Hid (∀ n, AllA (RuleA (AvOf W0.heap.size (.slice aa rows.length ca)) (wr.drewN n)) rows acc) := by show ∀ n, _; exact fun n => hall.imp fun r x h => h.keep (fr_below (below_drewN (Below.refl _ _) n))
        obtain ⟨k, fl⟩ := s'
        have cO : Hid (∀ n, Calls Tryz.prog 59 #[.pointer (some ⟨w2.heap.size + 1, 0, none⟩)] (wr.drewN n) fun e w' => e = .returned (.bool (!fl)) ∧ w' = wr.drewN n) := by
          show ∀ n, _
          exact fun n => (HC.out.ok _ _ (HD.out n).1).mono fun _ _ h => ⟨h.1, h.2.symm⟩
        simp only at c1 e0 e1 e2 hlt
        have hi1 : (k : Int) < (ws.length : Int) := by omega
        have hi0 : (0 : Int) ≤ (k : Int) := by omega
        clear ha hj hown hall c2 hf
        cases fl
        case true =>
          replace cO : Hid (∀ n, Calls Tryz.prog 59 #[.pointer (some ⟨w2.heap.size + 1, 0, none⟩)] (wr.drewN n) fun e w' => e = .returned (.bool false) ∧ w' = wr.drewN n) := cO
          have hstop := HJ.out
          rw [show rulesR ws (f + 1) acc (k, true) = (acc, (k, true)) by simp [rulesR]] at hstop
          have hbad := HRES.out
          rw [← hstop] at hbad
          simp only [if_true] at hbad
          have HBAD := Lib.hid hbad
          clear hstop hbad
          go_wp2_with fail
          go_quiet ((go_at_call 59; refine Calls.quiet_of_same (cO.out _)))
          clear c0 c1 f0 f1 f2 e0 e1 e2
          have hd := HD.out nq
          have cO2 := cO.out nq
          obtain ⟨WR, hWR⟩ : ∃ WR, wr.drewN nq = WR := ⟨_, rfl⟩
          rw [hWR] at hd cO2 ⊢
          have herr : WR.heap[w.heap.size]? = some (.cells #[.int .i64 0, .int .i64 0] 34) := (hd.2.block _ (by have := HZ0.out; omega) (by omega)).trans HE0.out
          have hnn : Below w.heap.size w WR := HN0.out.trans (hd.2.below HN0.out.size fun b hb e => by omega)
          obtain ⟨c0, c1, c2, f0, f1, f2⟩ := hd.1.cells
          have hbo : badOf ws (k, true) = ((wAt ws k).2.1 : Int) := rfl
          rw [hbo] at c2
          obtain ⟨e0, e1, g0, g1⟩ := cells2 herr
          have HER := Lib.hid herr
          have HNN := Lib.hid hnn
          clear hd herr hnn hWR hbo c0 c1
          go_wp2_with fail
          refine cO2.mono ?_
          rintro e w5 ⟨rfl, rfl⟩
          go_wp2_with fail
          go_region
          all_goals go_wp2
          all_goals refine bodyPost_ret (results_tc rfl _ _ w.heap.size _ _ _ _ rfl (heap_set _ _ (heap_set _ _ HER.out)) Tryz.underlying34 rfl (by kernel_rfl)) rfl ?_
          all_goals exact ⟨fileE_bad HBAD.out rfl, ((HNN.out.setCell (Nat.le_refl _) _).setCell (Nat.le_refl _) _).drew⟩
        case false =>
          replace cO : Hid (∀ n, Calls Tryz.prog 59 #[.pointer (some ⟨w2.heap.size + 1, 0, none⟩)] (wr.drewN n) fun e w' => e = .returned (.bool true) ∧ w' = wr.drewN n) := cO
          obtain ⟨x, hx⟩ : ∃ x, (wAt ws k).1 = x := ⟨_, rfl⟩
          rw [hx] at e0
          by_cases hx4 : x = 4
          · subst hx4
            have hend : isEndP ws (k, false) = true := by unfold isEndP; simp [hx]
            have hstop := HJ.out
            rw [show rulesR ws (f + 1) acc (k, false) = (acc, (k, false)) by simp [rulesR, hend]] at hstop
            have hgood := HRES.out
            rw [← hstop] at hgood
            simp only [Bool.false_eq_true, if_false] at hgood
            have HGOOD := Lib.hid hgood
            clear hstop hgood hend hx
            go_wp2_with fail
            go_quiet ((go_at_call 59; refine Calls.quiet_of_same (cO.out _)))
            clear c0 c1 f0 f1 f2 e0 e1 e2
            have hd := HD.out nq
            have hdo := HDO.out nq
            have hdl := HDL.out nq
            have cO2 := cO.out nq
            obtain ⟨WR, hWR⟩ : ∃ WR, wr.drewN nq = WR := ⟨_, rfl⟩
            rw [hWR] at hd hdo hdl cO2 ⊢
            have herr : WR.heap[w.heap.size]? = some (.cells #[.int .i64 0, .int .i64 0] 34) := (hd.2.block _ (by have := HZ0.out; omega) (by omega)).trans HE0.out
            have hnn : Below w.heap.size w WR := HN0.out.trans (hd.2.below HN0.out.size fun b hb e => by omega)
            have hrr : RulesA (fun b => b < w.heap.size + 1) WR (.slice aa rows.length ca) acc :=
              ⟨rows, (rowA_own hdo (hdl.len fun r x h => h.len)).mono fun b _ hb => by have := HZ0.out; omega, hdl.imp fun r x h => h.mono fun b _ hb => .inl (by have := HZ0.out; omega)⟩
            obtain ⟨e0, e1, g0, g1⟩ := cells2 herr
            have HER := Lib.hid herr
            have HNN := Lib.hid hnn
            have HRR := Lib.hid hrr
            clear hd hdo hdl herr hnn hrr hWR
            go_wp2_with fail
            refine cO2.mono ?_
            rintro e w5 ⟨rfl, rfl⟩
            go_wp2
            refine bodyPost_ret (results_tc rfl _ _ w.heap.size _ _ _ _ rfl (heap_set _ _ (heap_set _ _ HER.out)) Tryz.underlying34 rfl (by kernel_rfl)) rfl ?_
            exact ⟨fileE_good HGOOD.out rfl (RulesA.mono (RulesA.keep HRR.out ((fr_set (by simp) _).trans (fr_set (by simp) _))) fun b _ e => by omega), (HNN.out.setCell (Nat.le_refl _) _).setCell (Nat.le_refl _) _⟩
          · have hxb : (x != 4) = true := by simpa using hx4
            have hend : isEndP ws (k, false) = false := by unfold isEndP; simp [hx, hx4]
            have hres := HJ.out
            rw [show rulesR ws (f + 1) acc (k, false) = rulesR ws f (acc ++ [(ruleR ws (k, false)).1]) (ruleR ws (k, false)).2 by simp [rulesR, hend]] at hres
            have hless := (rule_less ws (k, false) rfl hlt).1
            rw [← (rule_same ws (k, false)).1] at hless
            have cN := fun w' (hq : QSt w' (w2.heap.size + 1) (.slice (some ⟨b', o', none⟩) ws.length vc) ws (k, false)) => CR.out (k, false) w' hq
            obtain ⟨y, hy⟩ : ∃ y, ruleR ws (k, false) = y := ⟨_, rfl⟩
            rw [hy] at hres hless
            simp only [hy] at cN
            obtain ⟨x2, s2⟩ := y
            simp only at hres hless cN
            have HRES2 := Lib.hid hres
            have HLESS := Lib.hid hless
            have CN := Lib.hid cN
            clear hres hless cN hy hend hx hal
            go_wp2_with fail
            go_quiet ((go_at_call 59; refine Calls.quiet_of_same (cO.out _)))
            clear c0 c1 f0 f1 f2 e0 e1 e2
            have hd := HD.out nq
            have hdo := HDO.out nq
            have hdl := HDL.out nq
            have cR2 := CN.out _ hd.1
            obtain ⟨WR, hWR⟩ : ∃ WR, wr.drewN nq = WR := ⟨_, rfl⟩
            rw [hWR] at hd hdo hdl cR2 ⊢
            have HD2 := Lib.hid hd
            have HDO2 := Lib.hid hdo
            have HDL2 := Lib.hid hdl
            clear hd hdo hdl hWR
            go_wp2_with fail
            refine cR2.mono ?_
            rintro e w3 ⟨⟨vi, vo, vf, vs, rfl, hvi, hvo, hvf, hvs⟩, ha3⟩
            obtain ⟨a1, a2, a3, e1⟩ := rowA_shape hvi
            subst e1
            obtain ⟨b1, b2, b3, e1⟩ := rowA_shape hvo
            subst e1
            obtain ⟨d1, d2, d3, e1⟩ := rowA_shape hvf
            subst e1
            obtain ⟨l1, l2, l3, e1⟩ := stepsA_shape hvs
            subst e1
            have hpw : w2.heap.size + 1 < W0.heap.size := by have := HZ0.out; omega
            have hA3 := HD2.out.trans ha3
            have hO3 := own_fr HDO2.out ha3.2 hpw
            have hlt3 := fun b (hb : _ = some b) => (HDO2.out.lt b hb).2
            have hwr := HD2.out.2.size
            have hL3 := (HDL2.out.imp fun r' x' h => h.keep (ha3.2.mono fun b _ e => .inl (by rw [e]; exact hpw))).snoc (r := [.string x2.name, .slice a1 a2 a3, .slice b1 b2 b3, .slice d1 d2 d3, .slice l1 l2 l3]) (x := x2)
              (RuleA.mono (Av := fun b => b < WR.heap.size) ⟨_, _, _, _, rfl, hvi, hvo, hvf, hvs⟩ fun b _ e => by
                rcases e with e | e
                · omega
                · have := hlt3 b e; omega)
            have HO3 := Lib.hid hO3
            have HL3 := Lib.hid (hL3.imp fun r' x' h => h.keep (fr_alloc _ _ (.cells #[.string x2.name, .slice a1 a2 a3, .slice b1 b2 b3, .slice d1 d2 d3, .slice l1 l2 l3] 42)))
            have HA3 := Lib.hid hA3
            have hs3 := hA3.2.size
            have hbd : rows.length + 1 ≤ 2 * ws.length + 2 := by rw [HRL.out]; have := HAL.out; omega
            clear ha3 hA3 cR2 hvi hvo hvf hvs hO3 hL3 hlt3 hpw hwr
            go_wp2_with (at_builtin; refine wpList_append_new _ rfl _ _ 22 rfl W0.heap.size 42 i0 (.agg #[.string ByteArray.empty, .slice none 0 0, .slice none 0 0, .slice none 0 0, .slice none 0 0]) 5 112 Tryz.underlying22 hi hy0 hy1 hy2 rfl (by decide) _ _ _ rfl (HO3.out.alloc _) ⟨w3.heap.size, 0, none⟩ 1 1 [.string x2.name, .slice a1 a2 a3, .slice b1 b2 b3, .slice d1 d2 d3, .slice l1 l2 l3] rfl rfl ?c1 ?c2 (by decide) ?c3 ?c4 ?c5 ?_)
            case c1 =>
              intro j u hj
              match j, hj with
              | 0, hj => simp at hj; subst hj; simp [Addr.add]
              | 1, hj => simp at hj; subst hj; simp [Addr.add]
              | 2, hj => simp at hj; subst hj; simp [Addr.add]
              | 3, hj => simp at hj; subst hj; simp [Addr.add]
              | 4, hj => simp at hj; subst hj; simp [Addr.add]
            case c2 => intro u hu; simp at hu; rcases hu with rfl | rfl | rfl | rfl | rfl <;> rfl
            case c3 => unfold maxLen; omega
            case c4 => omega
            case c5 => simp; omega
            intro v' w4 hown' hgrow hnew
            have hA4 := (HA3.out.alloc (.cells #[.string x2.name, .slice a1 a2 a3, .slice b1 b2 b3, .slice d1 d2 d3, .slice l1 l2 l3] 42)).grown HQ0.out hgrow (fun b hb => (HO3.out.lt b hb).1)
            have hL4 := grow_rules (B := W0.heap.size) (v' := v') HL3.out hgrow (fun b hb => by simpa using hnew b hb)
            have HO4 : Hid (w4.ownsRow W0.heap.size 42 5 v' (rows ++ [([.string x2.name, .slice a1 a2 a3, .slice b1 b2 b3, .slice d1 d2 d3, .slice l1 l2 l3] : List Value)]).length (rows ++ [([.string x2.name, .slice a1 a2 a3, .slice b1 b2 b3, .slice d1 d2 d3, .slice l1 l2 l3] : List Value)]).flatten) := by
              show w4.ownsRow _ _ _ _ _ _
              rw [List.length_append, List.flatten_append]
              simpa using hown'
            have HA4 := Lib.hid hA4
            have HL4 := Lib.hid hL4
            clear hgrow hown' hA4 hL4 hnew
            go_wp2
            go_roundw
            case rel =>
              refine ⟨f, acc ++ [x2], _, s2, by have := HLESS.out; have := HF.out; omega, HRES2.out, ?_, HO4.out, HL4.out, HA4.out⟩
              have := HAL.out
              rw [List.length_append]
              simp only [List.length_cons, List.length_nil]
              omega
            case measure => rw [HA4.out.1.left, HA.out.1.left]; exact HLESS.out
end Go.Proofs.YtknpcbjjofdlmaaGreatDoor
