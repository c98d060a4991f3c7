/- The reference's reader: a rule. -/
import Derived.BigQuiet
import Derived.Deep.DeepCutAuto
import Derived.Deep.CutBlock
import Derived.Test.YtknpcbjjofdlmaaGreatDoorMrp
import Derived.Test.YtknpcbjjofdlmaaGreatDoorRqF
namespace Go.Proofs.YtknpcbjjofdlmaaGreatDoor
open Go.RowKit

/-- An append that tells whose the new row is, as a run and as a step of a region that draws. -/
theorem run_append_new {P : Program} (w : World) (base : Nat) (t ty e : TypeId) (i : TypeInfo) (z : Value) (size bytes : Nat) (h1 : P.underlying t = some (.slice e)) (h2 : P.info? e = some i) (h3 : i.zero = some z) (h4 : i.size = size) (h5 : i.bytes = bytes) (h6 : z.cells.size = size) (h7 : 0 < size)
    (v : Value) (n : Nat) (xs : List Value) (hown : w.ownsRow base e size v n xs)
    (ad : Addr) (m c : Nat) (news : List Value) (hn : news.length = m * size) (hc : ∀ j u, news[j]? = some u → w.cell? (ad.add j) = some u) (h1c : ∀ u ∈ news, u.oneCell' = true)
    (b1 : n + m ≤ maxLen) (b2 : (n + m) * bytes ≤ 140737488355328) (hbase : base ≤ w.heap.size) :
    ∃ v' w', (Builtin.append_ #[t, t] ty #[v, .slice (some ad) m c]).run P w = .ok v' w' ∧ w'.ownsRow base e size v' (n + m) (xs ++ news) ∧ w.grownBy w' v.ownBlock ∧ ∀ b, v'.ownBlock = some b → v.ownBlock = some b ∨ w.heap.size ≤ b := by
  obtain ⟨hl, ⟨rfl, h0⟩ | ⟨g, cap, cur, rfl, hgB, hgc, hnc, hcm, hcs, htk⟩⟩ := id hown
  · subst h0
    obtain rfl : xs = [] := List.eq_nil_of_length_eq_zero (by simpa using hl)
    obtain ⟨v', w', hr, r1, r2, _⟩ := run_append_own (P := P) w w.heap.size t ty e i z size bytes h1 h2 h3 h4 h5 h6 h7 (.slice none 0 0) 0 [] (World.ownsRow_nil w _ e size) ad m c news hn hc h1c b1 b2 (Nat.le_refl _)
    exact ⟨v', w', hr, own_lower r1 hbase, r2, fun b hb => .inr (r1.lt b hb).1⟩
  · by_cases hfit : n + m ≤ cap
    · obtain ⟨w', hr, r1, r2⟩ := run_append_fits (P := P) w base t ty e i size h1 h2 h4 g n cap xs hown ad m c news hn hc h1c hfit
      exact ⟨_, w', hr, r1, r2, fun b hb => .inl hb⟩
    · obtain ⟨v', w', hr, r1, r2⟩ := run_append_arg_grows (P := P) w t ty e i z size bytes h1 h2 h3 h4 h5 h6 h7 ⟨g, 0, none⟩ n cap xs hl (hown.cells rfl) ad m c news hn hc (by omega) b1 b2
      exact ⟨v', w', hr, own_lower r1 hbase, ⟨r2.os, r2.tape, r2.output, r2.size, fun k hk _ => r2.block k hk (by simp)⟩, fun b hb => .inr (r1.lt b hb).1⟩
theorem step_append_new {P : Program} {ops : Array Oper} {o : Oper} {a : Act} {w : World} {K : Act → World → Prop} {Q : Exit → Act → World → Prop} {E : Prop} (hgd : o.guard = none) (s x : Operand) (t : TypeId)
    (ho : o.op = .call { callee := .builtin .append, args := #[s, x], argTypes := #[t, t] })
    (base : Nat) (e : TypeId) (i : TypeInfo) (z : Value) (size bytes : Nat) (h1 : P.underlying t = some (.slice e)) (h2 : P.info? e = some i) (h3 : i.zero = some z) (h4 : i.size = size) (h5 : i.bytes = bytes) (h6 : z.cells.size = size) (h7 : 0 < size)
    (v : Value) (n : Nat) (xs : List Value) (hs : a.eval s = v) (hown : w.ownsRow base e size v n xs)
    (ad : Addr) (m c : Nat) (news : List Value) (hx : a.eval x = .slice (some ad) m c) (hn : news.length = m * size) (hc : ∀ j u, news[j]? = some u → w.cell? (ad.add j) = some u) (h1c : ∀ u ∈ news, u.oneCell' = true)
    (b1 : n + m ≤ maxLen) (b2 : (n + m) * bytes ≤ 140737488355328) (hbase : base ≤ w.heap.size)
    (h : ∀ v' w', w'.ownsRow base e size v' (n + m) (xs ++ news) → w.grownBy w' v.ownBlock → (∀ b, v'.ownBlock = some b → v.ownBlock = some b ∨ w.heap.size ≤ b) → K (a.put o.dst v') w') :
    if Region.wanted o (yielded ops a.tmps) = true then Oper.wp P o a w K Q else E := by
  have hw : Region.wanted o (yielded ops a.tmps) = true := by simp [Region.wanted, hgd]
  rw [if_pos hw]
  obtain ⟨v', w', hr, r1, r2, r3⟩ := run_append_new (P := P) w base t o.type e i z size bytes h1 h2 h3 h4 h5 h6 h7 v n xs hown ad m c news hn hc h1c b1 b2 hbase
  unfold Oper.wp execOp
  simp only [ho, resolve, invoke, builtin, Sem.run_bind, Sem.run_pure, Result.andThen_ok, List.map_toArray, List.map_cons, List.map_nil, hs, hx, hr]
  exact h v' w' r1 r2 r3
theorem fr_grown2 {Av : Nat → Prop} {w0 w w' : World} {r : Option Nat} (h : Fr Av w0 w) (hg : w.grownBy w' r) (hr : ∀ k, r = some k → w0.heap.size ≤ k) : Fr Av w0 w' :=
  ⟨hg.os.trans h.os, hg.tape.trans h.tape, hg.output.trans h.output, Nat.le_trans h.size hg.size, fun k hk hn => (hg.block k (Nat.lt_of_lt_of_le hk h.size) (fun e => by have := hr k e.symm; omega)).trans (h.block k hk hn)⟩
theorem stepsB_old {w wr : World} {B : Nat} {va : Value} {xs : List StepS} (h : StepsA (fun x => x ≤ B) wr va xs) (hB : w.heap.size ≤ B) : StepsA (fun b => b < w.heap.size) wr va xs := h.mono fun b _ hb => by omega

/-- What the reference's reader asks of the calls below 'rule'. -/
structure QL (p : Nat) (v : Value) (ws : List WordT) : Prop where
  iskey : ∀ key s w', QSt w' p v ws s → Calls Tryz.prog 107 #[.pointer (some ⟨p, 0, none⟩), .int .i64 1, .string key] w' fun e w'' => e = .returned (.bool (isKeyP ws key s)) ∧ Below w'.heap.size w' w''
  ismark : ∀ key s w', QSt w' p v ws s → Calls Tryz.prog 107 #[.pointer (some ⟨p, 0, none⟩), .int .i64 3, .string key] w' fun e w'' => e = .returned (.bool (isMarkP ws key s)) ∧ Below w'.heap.size w' w''
  key : ∀ key s w', QSt w' p v ws s → Calls Tryz.prog 105 #[.pointer (some ⟨p, 0, none⟩), .int .i64 1, .string key] w' fun e w'' => e = .returned (.tuple #[]) ∧ AfterQ w' w'' p v ws (keyP ws key s)
  list : ∀ s w', QSt w' p v ws s → Calls Tryz.prog 108 #[.pointer (some ⟨p, 0, none⟩)] w' fun e w'' => ∃ vv, e = .returned vv ∧ StrsA (fun b => b < w'.heap.size) w'' vv (listR ws s).1 ∧ AfterQ w' w'' p v ws (listR ws s).2
  step : ∀ s w', QSt w' p v ws s → Calls Tryz.prog 109 #[.pointer (some ⟨p, 0, none⟩)] w' fun e w'' => StepE w' w'' (stepR ws s).1 e ∧ AfterQ w' w'' p v ws (stepR ws s).2

theorem step_snoc {w w' : World} {p B : Nat} {rows : List (List Value)} {acc : List StepS} {vv : Value} {n : Nat} {xs : List Value} {y : StepS} {a1 a2 : Option Addr} {n1 c1 n2 c2 : Nat} (h : AllA (StepA (AvOf B vv) w) rows acc) (hf : Fr (fun b => b = p) w w') (hp : p < B) (ho : w.ownsRow B 56 5 vv n xs) (hB : B ≤ w.heap.size)
    (hya : StrsA (fun b => b < w.heap.size) w' (.slice a1 n1 c1) y.args) (hyl : StrsA (fun b => b < w.heap.size) w' (.slice a2 n2 c2) y.lits) : AllA (StepA (AvOf B vv) w') (rows ++ [[.string y.out, .int .i64 y.op, .slice a1 n1 c1, .slice a2 n2 c2, .int .i64 y.n]]) (acc ++ [y]) :=
  (h.imp fun r x hx => hx.keep (hf.mono fun b _ e => .inl (by rw [e]; exact hp))).snoc (StepA.mono (Av := fun b => b < w.heap.size) ⟨_, _, rfl, hya, hyl⟩ fun b _ e => by
    rcases e with e | e
    · omega
    · exact (ho.lt b e).2)
theorem stepR_adv (ws : List WordT) (s : PS) (h : s.2 = false) : s.1 + 1 ≤ (stepR ws s).2.1 ∨ (stepR ws s).2 = (s.1, true) := by
  rw [(step_same ws s).1]
  by_cases hn : isNameP ws s = true
  · have hge := step_ge ws s
    rw [name_go h hn] at hge
    exact .inl hge
  · have hn' : isNameP ws s = false := by simpa using hn
    have e2 : (nameP ws s).2 = (s.1, true) := by unfold nameP; rw [take_no (.inr hn')]
    have m1 : markP ws cEq (s.1, true) = (s.1, true) := mark_stay rfl
    refine .inr ?_
    rw [step_parts, e2, m1, op_stay rfl, tail_stay rfl, mark_stay rfl]

set_option maxHeartbeats 8000000 in
set_option maxRecDepth 100000 in
theorem q_rule_any (p : Nat) (v : Value) (ws : List WordT) (s : PS) (w : World) (h : QSt w p v ws s) (hc : QC p v ws) (hc2 : QL p v ws) (hfew : ws.length ≤ 2097152) :
    Calls Tryz.prog 60 #[.pointer (some ⟨p, 0, none⟩)] w fun e w' => RuleE w w' (ruleR ws s).1 e ∧ AfterQ w w' p v ws (ruleR ws s).2 := by
  have H := Lib.hid h
  have HC := Lib.hid hc
  have HL := Lib.hid hc2
  have hpl := h.p_lt
  obtain ⟨bw, ow, cw, rfl, hl, hm, _, _, _, _, _⟩ := h.slice
  obtain ⟨i0, hi, hz0, hz1, hz2⟩ := info_of info_step
  obtain ⟨R, hR⟩ : ∃ R, ruleR ws s = R := ⟨_, rfl⟩
  rw [hR]
  obtain ⟨s1, hs1⟩ : ∃ x, keyP ws kRule s = x := ⟨_, rfl⟩
  obtain ⟨x2, hx2⟩ : ∃ x, nameP ws s1 = x := ⟨_, rfl⟩
  obtain ⟨nm, s2⟩ := x2
  obtain ⟨s3, hs3⟩ : ∃ x, markP ws cOpen s2 = x := ⟨_, rfl⟩
  obtain ⟨x4, hx4⟩ : ∃ x, optR ws kIn s3 = x := ⟨_, rfl⟩
  obtain ⟨li, s4⟩ := x4
  obtain ⟨x5, hx5⟩ : ∃ x, outR ws s4 = x := ⟨_, rfl⟩
  obtain ⟨lo, s5⟩ := x5
  obtain ⟨x6, hx6⟩ : ∃ x, optR ws kAfter s5 = x := ⟨_, rfl⟩
  obtain ⟨lf, s6⟩ := x6
  obtain ⟨x7, hx7⟩ : ∃ x, stepsR ws (ws.length + 1) [] s6 = x := ⟨_, rfl⟩
  obtain ⟨ts, s7⟩ := x7
  have hres : R = (⟨nm, li, lo, lf, ts⟩, markP ws cClose s7) := by
    rw [← hR]; unfold ruleR; simp only [hs1, hx2, hs3, hx4, hx5, hx6, hx7]
  have HRES := Lib.hid hres
  have E2 := Lib.hid hx2
  have E3 := Lib.hid hs3
  have E4 := Lib.hid hx4
  have E5 := Lib.hid hx5
  have E6 := Lib.hid hx6
  have E7 := Lib.hid hx7
  have c1 := HL.out.key kRule s _ (h.alloc (.cells #[.string ⟨#[]⟩, .slice none 0 0, .slice none 0 0, .slice none 0 0, .slice none 0 0] 42))
  rw [hs1] at c1
  clear hres hR hs1 hx2 hs3 hx4 hx5 hx6 hx7 h hc hc2
  go_enter Tryz.func60, Tryz.ntmps60
  go_wp2_with fail
  refine c1.mono ?_
  rintro e w0 ⟨rfl, ha0⟩
  have HA0 := Lib.hid ha0
  have c2 := HC.out.name _ _ ha0.1
  rw [E2.out] at c2
  clear c1 ha0
  go_wp2_with fail
  refine c2.mono ?_
  rintro e w1 ⟨rfl, ha1⟩
  have h2 := SQ.begin H.out (HA0.out.trans ha1) #[.string nm, .slice none 0 0, .slice none 0 0, .slice none 0 0, .slice none 0 0]
  have H2 := Lib.hid h2
  have c3 := HC.out.want cOpen _ _ h2.af.1
  rw [E3.out] at c3
  clear ha1 h2 c2
  go_wp2_with fail
  refine c3.mono ?_
  rintro e w2 ⟨rfl, ha2⟩
  have H3 := Lib.hid (H2.out.step H.out ha2)
  clear ha2 c3
  go_upto_region 4 with fail
  go_cut [16] (fun t wx => t = .bool (!s3.2 && isKeyP ws kIn s3) ∧ SQ 42 #[.string ⟨#[]⟩, .slice none 0 0, .slice none 0 0, .slice none 0 0, .slice none 0 0] w wx p (.slice (some ⟨bw, ow, none⟩) ws.length cw) ws s3 w1.heap.size #[.string nm, .slice none 0 0, .slice none 0 0, .slice none 0 0, .slice none 0 0])
  case first =>
    have cO := HC.out.ok s3 _ H3.out.af.1
    have cI := HL.out.iskey kIn s3 _ H3.out.af.1
    cases hf : s3.2
    · rw [hf] at cO
      go_wp2_with fail
      refine cO.mono ?_
      rintro e w5 ⟨rfl, rfl⟩
      go_wp2_with fail
      refine cI.mono ?_
      rintro e w6 ⟨rfl, hb6⟩
      have HB6 := Lib.hid hb6
      clear hb6 cI cO
      go_wp2_with fail
      go_meet
      exact ⟨by simp [hf], H3.out.below H.out HB6.out⟩
    · rw [hf] at cO
      go_wp2_with fail
      refine cO.mono ?_
      rintro e w5 ⟨rfl, rfl⟩
      clear cI cO
      go_wp2_with fail
      go_meet
      exact ⟨by simp [hf], H3.out⟩
  case rest =>
    obtain ⟨rfl, hsq⟩ := hcut
    have H3q := Lib.hid hsq
    clear hsq
    go_upto_if 16 with fail
    go_cut [] (fun wx => ∃ va, SQ 42 #[.string ⟨#[]⟩, .slice none 0 0, .slice none 0 0, .slice none 0 0, .slice none 0 0] w wx p (.slice (some ⟨bw, ow, none⟩) ws.length cw) ws s4 w1.heap.size #[.string nm, va, .slice none 0 0, .slice none 0 0, .slice none 0 0] ∧ StrsA (fun x => x ≤ w1.heap.size) wx va li)
    case first =>
      obtain ⟨q, hq⟩ : ∃ q, (!s3.2 && isKeyP ws kIn s3) = q := ⟨_, rfl⟩
      have hopt := E4.out
      unfold optR at hopt
      rw [hq] at hopt
      rw [hq]
      cases q
      · simp only [Bool.false_eq_true, if_false] at hopt
        injection hopt with ho1 ho2
        have HO1 := Lib.hid ho1
        have HO2 := Lib.hid ho2
        clear ho1 ho2 hq
        go_wp2_with fail
        go_meet
        exact ⟨.slice none 0 0, by rw [← HO2.out]; exact H3q.out, by rw [← HO1.out]; exact strsA_nil _ _⟩
      · simp only [if_true] at hopt
        have HOPT := Lib.hid hopt
        simp only [Bool.and_eq_true, Bool.not_eq_true'] at hq
        obtain ⟨hf, hkey⟩ := hq
        have hlt := H3q.out.af.1.lt
        have hends := H3q.out.af.1.ends
        have hk1 := hends _ hlt (key_kind hkey)
        have hqs := H3q.out
        obtain ⟨kk, fl⟩ := s3
        simp only at hf hlt hk1
        subst hf
        have hn : IntKind.i64.wrap ((kk : Int) + 1) = ((kk + 1 : Nat) : Int) := by
          rw [show ((kk : Int) + 1) = ((kk + 1 : Nat) : Int) by omega]
          exact IntWalk.i64_in _ (by omega)
        obtain ⟨c0, c1, c2, f0, f1, f2⟩ := hqs.af.1.cells
        simp only at c1
        have HN := Lib.hid (hqs.next H.out hk1)
        clear hqs hopt hkey hends hk1 hlt c2
        go_wp2_with fail
        clear c0 c1 f0 f1 f2
        refine (HL.out.list _ _ HN.out.af.1).mono ?_
        rintro e w7 ⟨vi, rfl, hvi, ha7⟩
        obtain ⟨y1, y2, y3, hvs⟩ := rowA_shape hvi
        subst hvs
        have h8 := HN.out.step H.out ha7
        try clear d0 d1 d2 d3 d4 g0 g1 g2 g3 g4
        obtain ⟨d0, d1, d2, d3, d4, g0, g1, g2, g3, g4⟩ := cells5 h8.r1
        have H9 := Lib.hid (h8.set H.out 1 (.slice y1 y2 y3))
        have HV := Lib.hid (RowA.keep (strsB_new hvi HN.out.hi) (fr_set (a := ⟨w1.heap.size, 1, none⟩) (Av := fun x => x ≤ w1.heap.size) (Nat.le_refl _) (.slice y1 y2 y3)))
        clear ha7 hvi h8
        go_wp2_with fail
        go_meet
        exact ⟨.slice y1 y2 y3, by have h := H9.out; rw [HOPT.out] at h; exact h, by have h := HV.out; rw [HOPT.out] at h; exact h⟩
    case rest =>
      obtain ⟨va, hsq, hlv⟩ := hcut
      obtain ⟨va_a, va_n, va_c, hvs⟩ := rowA_shape hlv
      subst hvs
      have H4 := Lib.hid hsq
      have LI := Lib.hid hlv
      clear hsq hlv
      have c4 := HL.out.key kOut _ _ H4.out.af.1
      obtain ⟨s8, hs8⟩ : ∃ x, keyP ws kOut s4 = x := ⟨_, rfl⟩
      rw [hs8] at c4
      have hout := E5.out
      unfold outR at hout
      simp only [hs8] at hout
      have HOUT := Lib.hid hout
      clear hout hs8
      go_wp2_with fail
      refine c4.mono ?_
      rintro e w8 ⟨rfl, ha8⟩
      have H5 := Lib.hid (H4.out.step H.out ha8)
      have LI2 := Lib.hid (RowA.keep LI.out (H4.out.fr H.out ha8))
      have c5 := HC.out.ok _ _ H5.out.af.1
      clear ha8 c4
      go_wp2_with fail
      refine c5.mono ?_
      rintro e w9 ⟨rfl, rfl⟩
      clear c5
      go_upto_if 30 with fail
      go_cut [] (fun wx => ∃ vb, SQ 42 #[.string ⟨#[]⟩, .slice none 0 0, .slice none 0 0, .slice none 0 0, .slice none 0 0] w wx p (.slice (some ⟨bw, ow, none⟩) ws.length cw) ws s5 w1.heap.size #[.string nm, .slice va_a va_n va_c, vb, .slice none 0 0, .slice none 0 0] ∧ StrsA (fun x => x ≤ w1.heap.size) wx vb lo ∧ StrsA (fun x => x ≤ w1.heap.size) wx (.slice va_a va_n va_c) li)
      case first =>
        have hout := HOUT.out
        cases hf : s8.2
        · rw [hf] at hout
          simp only [Bool.false_eq_true, if_false] at hout
          have HO := Lib.hid hout
          clear hout hf
          go_wp2_with fail
          refine (HL.out.list _ _ H5.out.af.1).mono ?_
          rintro e w7 ⟨vi, rfl, hvi, ha7⟩
          obtain ⟨y1, y2, y3, hvs⟩ := rowA_shape hvi
          subst hvs
          have h8 := H5.out.step H.out ha7
          try clear d0 d1 d2 d3 d4 g0 g1 g2 g3 g4
          obtain ⟨d0, d1, d2, d3, d4, g0, g1, g2, g3, g4⟩ := cells5 h8.r1
          have H9 := Lib.hid (h8.set H.out 2 (.slice y1 y2 y3))
          have HV := Lib.hid (RowA.keep (strsB_new hvi H5.out.hi) (fr_set (a := ⟨w1.heap.size, 2, none⟩) (Av := fun x => x ≤ w1.heap.size) (Nat.le_refl _) (.slice y1 y2 y3)))
          have HK0 := Lib.hid (RowA.keep (RowA.keep LI2.out (H5.out.fr H.out ha7)) (fr_set (a := ⟨w1.heap.size, 2, none⟩) (Av := fun x => x ≤ w1.heap.size) (Nat.le_refl _) (.slice y1 y2 y3)))
          clear ha7 hvi h8
          go_wp2_with fail
          go_meet
          exact ⟨.slice y1 y2 y3, by have h := H9.out; rw [HO.out] at h; exact h, by have h := HV.out; rw [HO.out] at h; exact h, HK0.out⟩
        · rw [hf] at hout
          simp only [if_true] at hout
          injection hout with ho1 ho2
          have HO1 := Lib.hid ho1
          have HO2 := Lib.hid ho2
          clear ho1 ho2 hf
          go_wp2_with fail
          go_meet
          exact ⟨.slice none 0 0, by rw [← HO2.out]; exact H5.out, by rw [← HO1.out]; exact strsA_nil _ _, LI2.out⟩
      case rest =>
        obtain ⟨vb, hsq, hlv, hl0⟩ := hcut
        obtain ⟨vb_a, vb_n, vb_c, hvs⟩ := rowA_shape hlv
        subst hvs
        have H6 := Lib.hid hsq
        have LO := Lib.hid hlv
        have LI3 := Lib.hid hl0
        clear hsq hlv hl0
        go_upto_region 10 with fail
        go_cut [39] (fun t wx => t = .bool (!s5.2 && isKeyP ws kAfter s5) ∧ SQ 42 #[.string ⟨#[]⟩, .slice none 0 0, .slice none 0 0, .slice none 0 0, .slice none 0 0] w wx p (.slice (some ⟨bw, ow, none⟩) ws.length cw) ws s5 w1.heap.size #[.string nm, .slice va_a va_n va_c, .slice vb_a vb_n vb_c, .slice none 0 0, .slice none 0 0] ∧ StrsA (fun x => x ≤ w1.heap.size) wx (.slice va_a va_n va_c) li ∧ StrsA (fun x => x ≤ w1.heap.size) wx (.slice vb_a vb_n vb_c) lo)
        case first =>
          have cO := HC.out.ok s5 _ H6.out.af.1
          have cI := HL.out.iskey kAfter s5 _ H6.out.af.1
          cases hf : s5.2
          · rw [hf] at cO
            go_wp2_with fail
            refine cO.mono ?_
            rintro e w5 ⟨rfl, rfl⟩
            go_wp2_with fail
            refine cI.mono ?_
            rintro e w6 ⟨rfl, hb6⟩
            have HB6 := Lib.hid hb6
            clear hb6 cI cO
            go_wp2_with fail
            go_meet
            exact ⟨by simp [hf], H6.out.below H.out HB6.out, RowA.keep LI3.out (fr_below HB6.out), RowA.keep LO.out (fr_below HB6.out)⟩
          · rw [hf] at cO
            go_wp2_with fail
            refine cO.mono ?_
            rintro e w5 ⟨rfl, rfl⟩
            clear cI cO
            go_wp2_with fail
            go_meet
            exact ⟨by simp [hf], H6.out, LI3.out, LO.out⟩
        case rest =>
          obtain ⟨rfl, hsq, hl0, hl1⟩ := hcut
          have H6q := Lib.hid hsq
          have LI3q := Lib.hid hl0
          have LOq := Lib.hid hl1
          clear hsq hl0 hl1
          go_upto_if 39 with fail
          go_cut [] (fun wx => ∃ va, SQ 42 #[.string ⟨#[]⟩, .slice none 0 0, .slice none 0 0, .slice none 0 0, .slice none 0 0] w wx p (.slice (some ⟨bw, ow, none⟩) ws.length cw) ws s6 w1.heap.size #[.string nm, .slice va_a va_n va_c, .slice vb_a vb_n vb_c, va, .slice none 0 0] ∧ StrsA (fun x => x ≤ w1.heap.size) wx va lf ∧ StrsA (fun x => x ≤ w1.heap.size) wx (.slice va_a va_n va_c) li ∧ StrsA (fun x => x ≤ w1.heap.size) wx (.slice vb_a vb_n vb_c) lo)
          case first =>
            obtain ⟨q, hq⟩ : ∃ q, (!s5.2 && isKeyP ws kAfter s5) = q := ⟨_, rfl⟩
            have hopt := E6.out
            unfold optR at hopt
            rw [hq] at hopt
            rw [hq]
            cases q
            · simp only [Bool.false_eq_true, if_false] at hopt
              injection hopt with ho1 ho2
              have HO1 := Lib.hid ho1
              have HO2 := Lib.hid ho2
              clear ho1 ho2 hq
              go_wp2_with fail
              go_meet
              exact ⟨.slice none 0 0, by rw [← HO2.out]; exact H6q.out, by rw [← HO1.out]; exact strsA_nil _ _, LI3q.out, LOq.out⟩
            · simp only [if_true] at hopt
              have HOPT := Lib.hid hopt
              simp only [Bool.and_eq_true, Bool.not_eq_true'] at hq
              obtain ⟨hf, hkey⟩ := hq
              have hlt := H6q.out.af.1.lt
              have hends := H6q.out.af.1.ends
              have hk1 := hends _ hlt (key_kind hkey)
              have hqs := H6q.out
              obtain ⟨kk, fl⟩ := s5
              simp only at hf hlt hk1
              subst hf
              have hn : IntKind.i64.wrap ((kk : Int) + 1) = ((kk + 1 : Nat) : Int) := by
                rw [show ((kk : Int) + 1) = ((kk + 1 : Nat) : Int) by omega]
                exact IntWalk.i64_in _ (by omega)
              obtain ⟨c0, c1, c2, f0, f1, f2⟩ := hqs.af.1.cells
              simp only at c1
              have HN := Lib.hid (hqs.next H.out hk1)
              have HM0 := Lib.hid (RowA.keep LI3q.out (fr_set (a := ⟨p, 1, none⟩) (Av := fun x => x ≤ w1.heap.size) (by have := hqs.lo; show p ≤ _; omega) (.int .i64 ((kk + 1 : Nat) : Int))))
              have HM1 := Lib.hid (RowA.keep LOq.out (fr_set (a := ⟨p, 1, none⟩) (Av := fun x => x ≤ w1.heap.size) (by have := hqs.lo; show p ≤ _; omega) (.int .i64 ((kk + 1 : Nat) : Int))))
              clear hqs hopt hkey hends hk1 hlt c2
              go_wp2_with fail
              clear c0 c1 f0 f1 f2
              refine (HL.out.list _ _ HN.out.af.1).mono ?_
              rintro e w7 ⟨vi, rfl, hvi, ha7⟩
              obtain ⟨y1, y2, y3, hvs⟩ := rowA_shape hvi
              subst hvs
              have h8 := HN.out.step H.out ha7
              try clear d0 d1 d2 d3 d4 g0 g1 g2 g3 g4
              obtain ⟨d0, d1, d2, d3, d4, g0, g1, g2, g3, g4⟩ := cells5 h8.r1
              have H9 := Lib.hid (h8.set H.out 3 (.slice y1 y2 y3))
              have HV := Lib.hid (RowA.keep (strsB_new hvi HN.out.hi) (fr_set (a := ⟨w1.heap.size, 3, none⟩) (Av := fun x => x ≤ w1.heap.size) (Nat.le_refl _) (.slice y1 y2 y3)))
              have HK0 := Lib.hid (RowA.keep (RowA.keep HM0.out (HN.out.fr H.out ha7)) (fr_set (a := ⟨w1.heap.size, 3, none⟩) (Av := fun x => x ≤ w1.heap.size) (Nat.le_refl _) (.slice y1 y2 y3)))
              have HK1 := Lib.hid (RowA.keep (RowA.keep HM1.out (HN.out.fr H.out ha7)) (fr_set (a := ⟨w1.heap.size, 3, none⟩) (Av := fun x => x ≤ w1.heap.size) (Nat.le_refl _) (.slice y1 y2 y3)))
              clear ha7 hvi h8
              go_wp2_with fail
              go_meet
              exact ⟨.slice y1 y2 y3, by have h := H9.out; rw [HOPT.out] at h; exact h, by have h := HV.out; rw [HOPT.out] at h; exact h, HK0.out, HK1.out⟩
          case rest =>
            obtain ⟨vf, hsq, hlv, hl0, hl1⟩ := hcut
            obtain ⟨vf_a, vf_n, vf_c, hvs⟩ := rowA_shape hlv
            subst hvs
            have H7 := Lib.hid hsq
            have LF := Lib.hid hlv
            have LI3r := Lib.hid hl0
            have LOr := Lib.hid hl1
            clear hsq hlv hl0 hl1
            obtain ⟨WL, hWL⟩ : ∃ WL, wc = WL := ⟨_, rfl⟩
            rw [hWL] at H7 LI3r LOr LF ⊢
            clear hWL
            go_wp2
            go_loopw [] (fun wr => ∃ (f : Nat) (acc : List StepS) (rows : List (List Value)) (s' : PS) (vv : Value), (s'.2 = true ∨ ws.length - s'.1 < f) ∧ stepsR ws f acc s' = (ts, s7) ∧ acc.length ≤ s'.1 + (if s'.2 then 1 else 0) ∧ SQ 42 #[.string ⟨#[]⟩, .slice none 0 0, .slice none 0 0, .slice none 0 0, .slice none 0 0] w wr p (.slice (some ⟨bw, ow, none⟩) ws.length cw) ws s' w1.heap.size #[.string nm, .slice va_a va_n va_c, .slice vb_a vb_n vb_c, .slice vf_a vf_n vf_c, vv] ∧ wr.ownsRow WL.heap.size 56 5 vv rows.length rows.flatten ∧ AllA (StepA (AvOf WL.heap.size vv) wr) rows acc ∧ Fr (fun x => x ≤ w1.heap.size) WL wr)
              (fun wr => 2 * (ws.length - posPs wr p) + failQ wr p)
            case atStart => exact ⟨ws.length + 1, [], [], s6, .slice none 0 0, .inr (by omega), E7.out, by simp, H7.out, ⟨rfl, .inl ⟨rfl, rfl⟩⟩, AllA.nil _, Fr.refl _ _⟩
            case round =>
              obtain ⟨f, acc, rows, s', vv, hf, hj, hal, hsq, hown, hall, hfr⟩ := hrel
              obtain ⟨aa, ca, rfl, _, _, _⟩ := own_shape hown
              have HRL := Lib.hid hall.1
              have hlt := hsq.af.1.lt
              have HLEFT := Lib.hid hsq.af.1.left
              have HSQ := Lib.hid hsq
              have HOWN := Lib.hid hown
              have HALL := Lib.hid hall
              have HJ := Lib.hid hj
              have HFR := Lib.hid hfr
              have cO := HC.out.ok _ _ hsq.af.1
              have cI := HL.out.ismark cClose _ _ hsq.af.1
              obtain ⟨kk, fl⟩ := s'
              simp only at hlt
              clear hsq hj hown hall hfr
              cases fl
              case true =>
                have hstop := HJ.out
                rw [stepsR_failed ws f acc rfl] at hstop
                have HSTOP := Lib.hid hstop
                clear hstop cI
                go_wp2_with fail
                refine cO.mono ?_
                rintro e w5 ⟨rfl, rfl⟩
                clear cO
                have cE := HC.out.want cClose _ _ HSQ.out.af.1
                have HKB := Lib.hid (Below.refl wr.heap.size wr)
                go_wp2_with fail
                refine cE.mono ?_
                rintro e wE ⟨rfl, haE⟩
                have HE := Lib.hid (HSQ.out.step H.out haE)
                have HKE := Lib.hid (HSQ.out.fr H.out haE)
                have HFE := Lib.hid (((HFR.out.trans (fr_below HKB.out)).trans HKE.out))
                have hsteps : StepsA (fun x => x ≤ w1.heap.size) wE (.slice aa rows.length ca) acc := by
                  have h1 : StepsA (fun x => x ≤ w1.heap.size) wr (.slice aa rows.length ca) acc := ⟨rows, (rowA_own HOWN.out (HALL.out.len fun r x h => h.len)).mono fun b _ hb => by have := H7.out.hi; omega, HALL.out.imp fun r x h => h.mono fun b _ hb => .inl (by have := H7.out.hi; omega)⟩
                  exact (h1.keep (fr_below HKB.out)).keep HKE.out
                have HST := Lib.hid hsteps
                have hb0 := Lib.hid (Nat.le_of_lt HE.out.lo)
                clear haE cE hsteps
                try clear d0 d1 d2 d3 d4 g0 g1 g2 g3 g4
                obtain ⟨d0, d1, d2, d3, d4, g0, g1, g2, g3, g4⟩ := cells5 HE.out.r1
                obtain ⟨e0, e1, e2, e3, e4, i0', i1, i2, i3, i4⟩ := cells5 HE.out.r0
                go_wp2
                refine bodyPost_ret (results_c rfl _ _ w.heap.size _ _ _ _ rfl (heap_set _ _ (heap_set _ _ (heap_set _ _ (heap_set _ _ (heap_set _ _ HE.out.r0))))) Tryz.underlying42 rfl (by kernel_rfl)) rfl ?_
                have hst := HSTOP.out
                injection hst with hst1 hst2
                subst hst1 hst2
                rw [HRES.out]
                exact ⟨⟨_, _, _, _, rfl, strsB_old (RowA.keep (RowA.keep LI3r.out HFE.out) (fr_out hb0.out _ _ _ _ _)) hb0.out, strsB_old (RowA.keep (RowA.keep LOr.out HFE.out) (fr_out hb0.out _ _ _ _ _)) hb0.out, strsB_old (RowA.keep (RowA.keep LF.out HFE.out) (fr_out hb0.out _ _ _ _ _)) hb0.out, stepsB_old (HST.out.keep (fr_out hb0.out _ _ _ _ _)) hb0.out⟩, ((((HE.out.af.set H.out (Nat.le_refl _) _).set H.out (Nat.le_refl _) _).set H.out (Nat.le_refl _) _).set H.out (Nat.le_refl _) _).set H.out (Nat.le_refl _) _⟩
              case false =>
                have hf2 : ws.length - kk < f := by rcases hf with h | h
                                                    · cases h
                                                    · exact h
                obtain ⟨f, rfl⟩ : ∃ g, f = g + 1 := ⟨f - 1, by omega⟩
                obtain ⟨q, hq⟩ : ∃ q, isMarkP ws cClose (kk, false) = q := ⟨_, rfl⟩
                rw [hq] at cI
                cases q
                case true =>
                  have hstop := HJ.out
                  rw [show stepsR ws (f + 1) acc (kk, false) = (acc, (kk, false)) by simp [stepsR, hq]] at hstop
                  have HSTOP := Lib.hid hstop
                  clear hstop hq
                  go_wp2_with fail
                  refine cO.mono ?_
                  rintro e w5 ⟨rfl, rfl⟩
                  go_wp2_with fail
                  refine cI.mono ?_
                  rintro e w6 ⟨rfl, hb6⟩
                  have HB6 := Lib.hid hb6
                  have HS6 := Lib.hid (HSQ.out.below H.out hb6)
                  clear cO cI hb6
                  have cE := HC.out.want cClose _ _ HS6.out.af.1
                  have HKB := Lib.hid (HB6.out)
                  go_wp2_with fail
                  refine cE.mono ?_
                  rintro e wE ⟨rfl, haE⟩
                  have HE := Lib.hid (HS6.out.step H.out haE)
                  have HKE := Lib.hid (HS6.out.fr H.out haE)
                  have HFE := Lib.hid (((HFR.out.trans (fr_below HKB.out)).trans HKE.out))
                  have hsteps : StepsA (fun x => x ≤ w1.heap.size) wE (.slice aa rows.length ca) acc := by
                    have h1 : StepsA (fun x => x ≤ w1.heap.size) wr (.slice aa rows.length ca) acc := ⟨rows, (rowA_own HOWN.out (HALL.out.len fun r x h => h.len)).mono fun b _ hb => by have := H7.out.hi; omega, HALL.out.imp fun r x h => h.mono fun b _ hb => .inl (by have := H7.out.hi; omega)⟩
                    exact (h1.keep (fr_below HKB.out)).keep HKE.out
                  have HST := Lib.hid hsteps
                  have hb0 := Lib.hid (Nat.le_of_lt HE.out.lo)
                  clear haE cE hsteps
                  try clear d0 d1 d2 d3 d4 g0 g1 g2 g3 g4
                  obtain ⟨d0, d1, d2, d3, d4, g0, g1, g2, g3, g4⟩ := cells5 HE.out.r1
                  obtain ⟨e0, e1, e2, e3, e4, i0', i1, i2, i3, i4⟩ := cells5 HE.out.r0
                  go_wp2
                  refine bodyPost_ret (results_c rfl _ _ w.heap.size _ _ _ _ rfl (heap_set _ _ (heap_set _ _ (heap_set _ _ (heap_set _ _ (heap_set _ _ HE.out.r0))))) Tryz.underlying42 rfl (by kernel_rfl)) rfl ?_
                  have hst := HSTOP.out
                  injection hst with hst1 hst2
                  subst hst1 hst2
                  rw [HRES.out]
                  exact ⟨⟨_, _, _, _, rfl, strsB_old (RowA.keep (RowA.keep LI3r.out HFE.out) (fr_out hb0.out _ _ _ _ _)) hb0.out, strsB_old (RowA.keep (RowA.keep LOr.out HFE.out) (fr_out hb0.out _ _ _ _ _)) hb0.out, strsB_old (RowA.keep (RowA.keep LF.out HFE.out) (fr_out hb0.out _ _ _ _ _)) hb0.out, stepsB_old (HST.out.keep (fr_out hb0.out _ _ _ _ _)) hb0.out⟩, ((((HE.out.af.set H.out (Nat.le_refl _) _).set H.out (Nat.le_refl _) _).set H.out (Nat.le_refl _) _).set H.out (Nat.le_refl _) _).set H.out (Nat.le_refl _) _⟩
                case false =>
                  have hres := HJ.out
                  have hstep : stepsR ws (f + 1) acc (kk, false) = stepsR ws f (acc ++ [(stepR ws (kk, false)).1]) (stepR ws (kk, false)).2 := by simp [stepsR, hq]
                  rw [hstep] at hres
                  have hcnt := stepR_adv ws (kk, false) rfl
                  have cN := fun w' (hw : QSt w' p (.slice (some ⟨bw, ow, none⟩) ws.length cw) ws (kk, false)) => HL.out.step (kk, false) w' hw
                  obtain ⟨yy, hyy⟩ : ∃ y, stepR ws (kk, false) = y := ⟨_, rfl⟩
                  rw [hyy] at hres hcnt
                  simp only [hyy] at cN
                  obtain ⟨y, s8⟩ := yy
                  simp only at hres hcnt cN
                  have HRES6 := Lib.hid hres
                  have HCNT := Lib.hid hcnt
                  have hlow : acc.length ≤ kk := by simpa using hal
                  have HLOW := Lib.hid hlow
                  have HF2 := Lib.hid hf2
                  have HKL := Lib.hid hlt
                  go_wp2_with fail
                  refine cO.mono ?_
                  rintro e w5 ⟨rfl, rfl⟩
                  go_wp2_with fail
                  refine cI.mono ?_
                  rintro e w6 ⟨rfl, hb6⟩
                  have HB6 := Lib.hid hb6
                  have hs6 := HSQ.out.below H.out hb6
                  obtain ⟨d0, d1, d2, d3, d4, g0, g1, g2, g3, g4⟩ := cells5 hs6.r1
                  have H9 := Lib.hid (hs6.below H.out (Below.refl _ _).drew)
                  have HO9 : Hid (w6.drew.ownsRow WL.heap.size 56 5 (.slice aa rows.length ca) rows.length rows.flatten) := Lib.hid (World.ownsRow.kept (row := none) HOWN.out ⟨hb6.os, hb6.tape, hb6.output, hb6.size, fun k hk _ => hb6.block k hk⟩ (by cases Value.ownBlock _ <;> simp)).drew
                  have HA9 : Hid (AllA (StepA (AvOf WL.heap.size (.slice aa rows.length ca)) w6.drew) rows acc) := Lib.hid (HALL.out.imp fun r x h => h.keep (fr_below hb6.drew))
                  have HF9 : Hid (Fr (fun x => x ≤ w1.heap.size) WL w6.drew) := Lib.hid (HFR.out.trans (fr_below hb6.drew))
                  have CNM := Lib.hid (cN _ H9.out.af.1)
                  have HPB := Lib.hid (show p < WL.heap.size by have := H7.out.lo; have := H7.out.hi; omega)
                  have HB1 := Lib.hid (show rows.length + 1 ≤ maxLen by rw [HRL.out]; have := HLOW.out; have := HKL.out; unfold maxLen; omega)
                  have HB2 := Lib.hid (show (rows.length + 1) * 80 ≤ 140737488355328 by rw [HRL.out]; have := HLOW.out; have := HKL.out; omega)
                  clear hres hstep hcnt cN hyy hal hf hb6 hs6 hq cO cI
                  go_wp2_with fail
                  go_region_law (first
                    | (go_simp; go_at_call 109; refine CNM.out.mono ?_; rintro e w7 ⟨⟨ya, yl, rfl, hya, hyl⟩, ha7⟩; obtain ⟨l1, l2, l3, q1⟩ := rowA_shape hya; subst q1; obtain ⟨j1, j2, j3, q2⟩ := rowA_shape hyl; subst q2; have H10 := Lib.hid (H9.out.step H.out ha7); have HO10 := Lib.hid (own_fr HO9.out ha7.2 HPB.out); have HF10 := Lib.hid (HF9.out.trans (H9.out.fr H.out ha7)); have HA10 := Lib.hid (step_snoc HA9.out ha7.2 HPB.out HO9.out HF9.out.size hya hyl); obtain ⟨m0, m1, m2, m3, m4, o0, o1, o2, o3, o4⟩ := cells5 H10.out.r1; obtain ⟨z0, z1, z2, z3, z4, _⟩ := cells5 (H10.out.below H.out ((Below.refl _ _).alloc (Nat.le_refl _) (.cells #[.string y.out, .int .i64 y.op, .slice l1 l2 l3, .slice j1 j2 j3, .int .i64 y.n] 56))).r1; clear ha7 hya hyl)
                    | (refine step_append_new (by rfl) _ _ _ (by rfl) WL.heap.size 56 i0 (.agg #[.string ByteArray.empty, .int .i64 0, .slice none 0 0, .slice none 0 0, .int .i64 0]) 5 80 Tryz.underlying40 hi hz0 hz1 hz2 rfl (by decide) (.slice aa rows.length ca) rows.length rows.flatten (by rfl) (HO10.out.alloc _) ⟨w7.heap.size, 0, none⟩ 1 1 [.string y.out, .int .i64 y.op, .slice l1 l2 l3, .slice j1 j2 j3, .int .i64 y.n] (by rfl) rfl (World.news_of_block (cs := #[.string y.out, .int .i64 y.op, .slice l1 l2 l3, .slice j1 j2 j3, .int .i64 y.n]) (t := 56) (fr := (0, 0)) (heap_alloc_new w7 _)) (by simp [Value.oneCell']) HB1.out HB2.out (by have := HF10.out.size; simp; omega) ?_; intro v' w8 hA0 hgA hnew; obtain ⟨aB, cB, rfl, _⟩ := own_shape hA0; have H11 := Lib.hid ((H10.out.below H.out ((Below.refl _ _).alloc (Nat.le_refl _) (.cells #[.string y.out, .int .i64 y.op, .slice l1 l2 l3, .slice j1 j2 j3, .int .i64 y.n] 56))).grown H.out hgA (fun g hg => by have h1 := (World.ownsRow.lt HO10.out g hg).1; have h2 := H7.out.hi; omega)); have HA11 := Lib.hid (grow_steps (B := WL.heap.size) (v' := .slice aB (rows.length + 1) cB) (HA10.out.imp fun r x h => h.keep (fr_alloc _ _ (.cells #[.string y.out, .int .i64 y.op, .slice l1 l2 l3, .slice j1 j2 j3, .int .i64 y.n] 56))) hgA (fun b hb => by simpa using hnew b hb)); have HF11 := Lib.hid (fr_grown2 (HF10.out.trans (fr_alloc _ _ (.cells #[.string y.out, .int .i64 y.op, .slice l1 l2 l3, .slice j1 j2 j3, .int .i64 y.n] 56))) hgA (fun g hg => (World.ownsRow.lt HO10.out g hg).1)); obtain ⟨n0, n1, n2, n3, n4, q0, q1, q2, q3, q4⟩ := cells5 H11.out.r1; have HA := Lib.hid hA0; clear hA0 hgA hnew))
                  all_goals
                    have HG8 := Lib.hid (H11.out.set H.out 4 (.slice aB (rows.length + 1) cB))
                    have HFS : Hid (Fr (fun x => x ≤ w1.heap.size) w8 (w8.setCell ⟨w1.heap.size, 4, none⟩ (.slice aB (rows.length + 1) cB))) := Lib.hid (fr_set (a := ⟨w1.heap.size, 4, none⟩) (Av := fun x => x ≤ w1.heap.size) (Nat.le_refl _) _)
                    have HO8 : Hid ((w8.setCell ⟨w1.heap.size, 4, none⟩ (.slice aB (rows.length + 1) cB)).ownsRow WL.heap.size 56 5 (.slice aB (rows.length + 1) cB) (rows ++ [([.string y.out, .int .i64 y.op, .slice l1 l2 l3, .slice j1 j2 j3, .int .i64 y.n] : List Value)]).length (rows ++ [([.string y.out, .int .i64 y.op, .slice l1 l2 l3, .slice j1 j2 j3, .int .i64 y.n] : List Value)]).flatten) := by
                      show World.ownsRow _ _ _ _ _ _ _
                      have h1 := ownsRow_setCell_below (a := ⟨w1.heap.size, 4, none⟩) HA.out H7.out.hi (.slice aB (rows.length + 1) cB)
                      rw [List.length_append, List.flatten_append]
                      simpa using h1
                    have HA8 := Lib.hid (HA11.out.imp fun r x h => h.keep (HFS.out.mono fun b _ e => .inl (by have := H7.out.hi; omega)))
                    have HF8 := Lib.hid (HF11.out.trans HFS.out)
                    clear d0 d1 d2 d3 d4 g0 g1 g2 g3 g4 m0 m1 m2 m3 m4 o0 o1 o2 o3 o4 n0 n1 n2 n3 n4 q0 q1 q2 q3 q4 z0 z1 z2 z3 z4
                    go_wp2
                    go_roundw
                    case rel =>
                      refine ⟨f, acc ++ [y], rows ++ [[.string y.out, .int .i64 y.op, .slice l1 l2 l3, .slice j1 j2 j3, .int .i64 y.n]], s8, .slice aB (rows.length + 1) cB, ?_, HRES6.out, ?_, HG8.out, HO8.out, HA8.out, HF8.out⟩
                      · rcases HCNT.out with h | h
                        · exact .inr (by have := HF2.out; omega)
                        · exact .inl (by rw [h])
                      · have := HLOW.out
                        rw [List.length_append]
                        rcases HCNT.out with h | h
                        · simp only [List.length_cons, List.length_nil]; omega
                        · rw [h]; simp only [List.length_cons, List.length_nil, if_true]; omega
                    case measure =>
                      have := HKL.out
                      rw [HG8.out.af.1.left, HLEFT.out]
                      unfold leftP
                      rcases HCNT.out with h | h
                      · simp only [Bool.false_eq_true, if_false]
                        split <;> omega
                      · rw [h]; simp
end Go.Proofs.YtknpcbjjofdlmaaGreatDoor
