import Derived.Test.YtdhmeganlnpohaaGreatDoorMan
import Derived.Laws.AppendOwn
import Derived.OwnWalk
import Derived.Test.YtdhmeganlnpohaaGreatDoorMai
namespace Go.Proofs.YtdhmeganlnpohaaGreatDoor
open Go.RowKit
theorem take_fail (ws : List WordT) (b : Bool) {s : PS} (h : s.2 = true) : (takeP ws b s).2.2 = true := by rw [take_no (.inl h)]
theorem name_fail (ws : List WordT) {s : PS} (h : s.2 = true) : (nameP ws s).2.2 = true := take_fail ws _ h
theorem mark_fail (ws : List WordT) (c : ByteArray) {s : PS} (h : s.2 = true) : (markP ws c s).2 = true := take_fail ws _ h
theorem key_fail (ws : List WordT) (c : ByteArray) {s : PS} (h : s.2 = true) : (keyP ws c s).2 = true := take_fail ws _ h
theorem more_fail (ws : List WordT) : ∀ (f : Nat) (acc : List ByteArray) {s : PS}, s.2 = true → (moreF ws f acc s).2.2 = true
 | 0, _, _, h => h
 | f + 1, acc, s, h => by rw [moreF_stop (.inl h)]; exact h
theorem steps_fail (ws : List WordT) : ∀ (f : Nat) (acc : List StepS) {s : PS}, s.2 = true → (stepsF ws f acc s).2.2 = true
 | 0, _, _, h => h
 | f + 1, acc, s, h => by rw [stepsF_stop (.inl h)]; exact h
theorem clause_fail (ws : List WordT) (key : ByteArray) {s : PS} (h : s.2 = true) : (clauseP ws key s).2.2 = true :=
 mark_fail ws cSemi (more_fail ws _ _ (name_fail ws (key_fail ws key h)))
theorem opt_fail (ws : List WordT) (key : ByteArray) {s : PS} (h : s.2 = true) : (optP ws key s).2.2 = true := by
 unfold optP
 split
 ·exact clause_fail ws key h
 ·exact h
theorem rule_fail (ws : List WordT) {s : PS} (h : (keyP ws kRule s).2 = true) : (ruleP ws s).2.2 = true :=
 mark_fail ws cClose (steps_fail ws _ _ (opt_fail ws kAfter (clause_fail ws kOut (opt_fail ws kIn (mark_fail ws cOpen (name_fail ws h))))))
theorem more_ge (ws : List WordT) : ∀ (f : Nat) (acc : List ByteArray) (s : PS), s.1 ≤ (moreF ws f acc s).2.1
 | 0, _, _ => Nat.le_refl _
 | f + 1, acc, s => by
  unfold moreF
  split
  ·exact Nat.le_trans (mark_ge ws cComma s) (Nat.le_trans (name_ge ws _) (more_ge ws f _ _))
  ·exact Nat.le_refl _
theorem steps_ge (ws : List WordT) : ∀ (f : Nat) (acc : List StepS) (s : PS), s.1 ≤ (stepsF ws f acc s).2.1
 | 0, _, _ => Nat.le_refl _
 | f + 1, acc, s => by
  unfold stepsF
  split
  ·exact Nat.le_trans (Nat.le_trans (name_ge ws s) (step_ge ws s)) (steps_ge ws f _ _)
  ·exact Nat.le_refl _
theorem clause_ge (ws : List WordT) (key : ByteArray) (s : PS) : s.1 ≤ (clauseP ws key s).2.1 :=
 Nat.le_trans (key_ge ws key s) (Nat.le_trans (name_ge ws _) (Nat.le_trans (more_ge ws _ _ _) (mark_ge ws cSemi _)))
theorem opt_ge (ws : List WordT) (key : ByteArray) (s : PS) : s.1 ≤ (optP ws key s).2.1 := by
 unfold optP
 split
 ·exact clause_ge ws key s
 ·exact Nat.le_refl _
theorem rule_ge (ws : List WordT) (s : PS) : (keyP ws kRule s).1 ≤ (ruleP ws s).2.1 :=
 Nat.le_trans (name_ge ws _) (Nat.le_trans (mark_ge ws cOpen _) (Nat.le_trans (opt_ge ws kIn _) (Nat.le_trans (clause_ge ws kOut _) (Nat.le_trans (opt_ge ws kAfter _) (Nat.le_trans (steps_ge ws _ _ _) (mark_ge ws cClose _))))))
def leftP (ws : List WordT) (s : PS) : Nat := 2 * (ws.length - s.1) + (if s.2 then 0 else 1)
theorem rule_less (ws : List WordT) (s : PS) (h : s.2 = false) (hl : s.1 < ws.length) : leftP ws (ruleP ws s).2 < leftP ws s ∧ s.1 + 1 ≤ (ruleP ws s).2.1 + (if (ruleP ws s).2.2 then 1 else 0) := by
 have hge := rule_ge ws s
 cases hk : isKeyP ws kRule s with
 | true =>
  have : (keyP ws kRule s).1 = s.1 + 1 := by unfold keyP; rw [take_yes h hk]
  refine ⟨?_, by omega⟩
  unfold leftP
  rw [h]
  simp only [Bool.false_eq_true, if_false]
  split <;> omega
 | false =>
  have hf : (keyP ws kRule s).2 = true := by unfold keyP; rw [take_no (.inr hk)]
  have hg : s.1 ≤ (keyP ws kRule s).1 := key_ge ws kRule s
  have hr := rule_fail ws hf
  refine ⟨?_, by rw [hr, if_pos rfl]; omega⟩
  unfold leftP
  rw [h, hr]
  simp only [Bool.false_eq_true, if_false, if_true]
  omega
theorem rulesF_go {ws : List WordT} {f : Nat} {acc : List RuleS} {s : PS} (h0 : s.2 = false) (h1 : isEndP ws s = false) : rulesF ws (f + 1) acc s = rulesF ws f (acc ++ [(ruleP ws s).1]) (ruleP ws s).2 := by
 simp [rulesF, h0, h1]
theorem rulesF_stop {ws : List WordT} {f : Nat} {acc : List RuleS} {s : PS} (h : s.2 = true ∨ isEndP ws s = true) : rulesF ws (f + 1) acc s = (acc, s) := by
 rcases h with h | h <;> simp [rulesF, h]
def failOf (w : World) (p : Nat) : Nat := match w.cell? ⟨p, 2, none⟩ with
 | some (.bool true) => 0
 | _ => 1
theorem PSt.left {w : World} {p : Nat} {v : Value} {ws : List WordT} {s : PS} (h : PSt w p v ws s) : 2 * (ws.length - posPs w p) + failOf w p = leftP ws s := by
 rw [h.pos]
 unfold failOf leftP
 rw [h.cells.2.2.1]
 cases s.2 <;> rfl
theorem RuleA.len {Av : Nat → Prop} {w : World} {r : List Value} {x : RuleS} (h : RuleA Av w r x) : r.length = 5 := by obtain ⟨vi, vo, vf, vs, rfl, _⟩ := h; rfl
theorem RuleA.keep {Av : Nat → Prop} {w w' : World} {r : List Value} {x : RuleS} (h : RuleA Av w r x) (hf : Fr Av w w') : RuleA Av w' r x := by
 obtain ⟨vi, vo, vf, vs, rfl, h1, h2, h3, h4⟩ := h
 exact ⟨vi, vo, vf, vs, rfl, RowA.keep h1 hf, RowA.keep h2 hf, RowA.keep h3 hf, h4.keep hf⟩
theorem RuleA.mono {Av Av' : Nat → Prop} {w : World} {r : List Value} {x : RuleS} (h : RuleA Av w r x) (hm : ∀ b, b < w.heap.size → Av' b → Av b) : RuleA Av' w r x := by
 obtain ⟨vi, vo, vf, vs, rfl, h1, h2, h3, h4⟩ := h
 exact ⟨vi, vo, vf, vs, rfl, RowA.mono h1 hm, RowA.mono h2 hm, RowA.mono h3 hm, h4.mono hm⟩
def RulesA (Av : Nat → Prop) (w : World) (v : Value) (xs : List RuleS) : Prop := ∃ rows, RowA Av w v 5 rows ∧ AllA (RuleA Av w) rows xs
theorem RulesA.keep {Av : Nat → Prop} {w w' : World} {v : Value} {xs : List RuleS} (h : RulesA Av w v xs) (hf : Fr Av w w') : RulesA Av w' v xs := by
 obtain ⟨rows, h1, h2⟩ := h
 exact ⟨rows, h1.keep hf, h2.imp fun r x h => h.keep hf⟩
theorem RulesA.mono {Av Av' : Nat → Prop} {w : World} {v : Value} {xs : List RuleS} (h : RulesA Av w v xs) (hm : ∀ b, b < w.heap.size → Av' b → Av b) : RulesA Av' w v xs := by
 obtain ⟨rows, h1, h2⟩ := h
 exact ⟨rows, h1.mono hm, h2.imp fun r x h => h.mono hm⟩
theorem grow_rules {W w5 : World} {B : Nat} {vv v' : Value} {rows : List (List Value)} {xs : List RuleS} (h : AllA (fun r x => RuleA (AvOf B vv) W r x) rows xs) (hg : W.grownBy w5 vv.ownBlock) (hv : ∀ b, v'.ownBlock = some b → vv.ownBlock = some b ∨ W.heap.size ≤ b) :
  AllA (RuleA (AvOf B v') w5) rows xs := by
 refine h.imp fun r x hx => ?_
 have h1 : RuleA (fun b => AvOf B vv b ∨ W.heap.size ≤ b) W r x := hx.mono fun b hb e => by
  rcases e with e | e
  ·exact e
  ·omega
 refine (h1.keep (fr_grown hg fun k e => .inl (.inr e))).mono fun b _ e => ?_
 rcases e with e | e
 ·exact .inl (.inl e)
 ·rcases hv b e with e | e
  ·exact .inl (.inr e)
  ·exact .inr e
theorem info_rule : (Tryz.prog.info? 45).map (fun i => (i.zero, i.size, i.bytes)) = some (some (.agg #[.string ByteArray.empty, .slice none 0 0, .slice none 0 0, .slice none 0 0, .slice none 0 0]), 5, 112) := by kernel_rfl
theorem few_of {ws : List WordT} {s : PS} {n : Nat} (h : n ≤ s.1 + (if s.2 then 1 else 0)) (hl : s.1 < ws.length) : n ≤ ws.length := by
 split at h <;> omega
set_option maxHeartbeats 4000000 in
set_option maxRecDepth 100000 in
theorem p_rules_any (p : Nat) (v : Value) (ws : List WordT) (s : PS) (w : World) (h : RS w p v ws s) :
  Calls Tryz.prog 166 #[.pointer (some ⟨p, 0, none⟩)] w fun e w' => ∃ vv, e = .returned vv ∧ RulesA (fun b => b < w.heap.size) w' vv (rulesP ws s).1 ∧ After w w' p v ws (rulesP ws s).2 := by
 obtain ⟨i0, hi, hz0, hz1, hz2⟩ := info_of info_rule
 obtain ⟨R, hR⟩ : ∃ R, rulesP ws s = R := ⟨_, rfl⟩
 have H := Lib.hid h
 have HR := Lib.hid hR
 rw [hR]
 have hfew := h.few
 have hpl := h.st.p_lt
 clear hR h
 go_enter Tryz.func166, Tryz.ntmps166
 go_wp2
 go_loopw [3] (fun vv wr => ∃ (f : Nat) (acc : List RuleS) (rows : List (List Value)) (s' : PS), leftP ws s' < f ∧ rulesF ws f acc s' = R ∧ acc.length ≤ s'.1 + (if s'.2 then 1 else 0) ∧ wr.ownsRow w.heap.size 45 5 vv rows.length rows.flatten ∧ AllA (RuleA (AvOf w.heap.size vv) wr) rows acc ∧ After w wr p v ws s')
  (fun _ wr => 2 * (ws.length - posPs wr p) + failOf wr p)
 case atStart => exact ⟨2 * ws.length + 2, [], [], s, by unfold leftP; split <;> omega, HR.out, by simp, ⟨rfl, .inl ⟨rfl, rfl⟩⟩, AllA.nil _, After.refl H.out.st⟩
 case round =>
  obtain ⟨f, acc, rows, s', hf, hj, hal, hown, hall, ha⟩ := hrel
  obtain ⟨f, rfl⟩ : ∃ g, f = g + 1 := ⟨f - 1, by omega⟩
  have HA := Lib.hid ha
  have HJ := Lib.hid hj
  have HO := Lib.hid hown
  have HL := Lib.hid hall
  have HF := Lib.hid hf
  have hrl := hall.1
  have hacc := few_of hal ha.1.lt
  have HAL := Lib.hid hal
  have hrs := H.out.after ha
  obtain ⟨c0, c1, c2, f0, f1, f2⟩ := ha.1.cells
  have cI := p_isEnd_any p v ws s' wr hrs.st
  have CN : Hid (∀ w', Below wr.heap.size wr w' → Calls Tryz.prog 217 #[.pointer (some ⟨p, 0, none⟩)] w' fun e w'' => RuleE w' w'' (ruleP ws s').1 e ∧ After w' w'' p v ws (ruleP ws s').2) :=
   fun w' hb => p_rule_any p v ws s' w' (hrs.below hb)
  have hsz := ha.2.size
  have HLT := Lib.hid ha.1.lt
  obtain ⟨k, fl⟩ := s'
  clear ha hj hown hrs c0 f0 hall hf hal
  cases fl
  ·obtain ⟨q, hq⟩ : ∃ q, isEndP ws (k, false) = q := ⟨_, rfl⟩
   rw [hq] at cI
   have HQ := Lib.hid hq
   clear hq
   cases q
   ·have hres := HJ.out
    rw [rulesF_go rfl HQ.out] at hres
    obtain ⟨hless, hadv⟩ := rule_less ws (k, false) rfl HLT.out
    obtain ⟨y, hy⟩ : ∃ y, ruleP ws (k, false) = y := ⟨_, rfl⟩
    rw [hy] at hres hless hadv CN
    obtain ⟨x, s2⟩ := y
    have HRES := Lib.hid hres
    have HLESS := Lib.hid hless
    have HADV := Lib.hid hadv
    clear hres hadv hless hy
    simp only at CN HRES HLESS HADV
    go_wp2_with fail
    refine cI.mono ?_
    rintro e w2 ⟨rfl, hb2⟩
    have cN2 := CN.out w2 hb2
    have HB2 := Lib.hid hb2
    clear hb2 cI
    go_wp2_with fail
    refine cN2.mono ?_
    rintro e w3 ⟨⟨vi, vo, vf, vs, rfl, hvi, hvo, hvf, hvs⟩, ha3⟩
    obtain ⟨a1, a2, a3, e1⟩ := rowA_shape hvi
    subst e1
    obtain ⟨b1, b2, b3, e1⟩ := rowA_shape hvo
    subst e1
    obtain ⟨d1, d2, d3, e1⟩ := rowA_shape hvf
    subst e1
    obtain ⟨l1, l2, l3, e1⟩ := stepsA_shape hvs
    subst e1
    have hA3 := (HA.out.trans (After.of_below HA.out.1 HB2.out)).trans ha3
    have hO3 := own_fr (own_fr HO.out (fr_below HB2.out) hpl) ha3.2 hpl
    have hlt3 := fun b (hb : _ = some b) => (HO.out.lt b hb).2
    have hL3 := (HL.out.imp fun r' x' h => (h.keep (fr_below (Av := AvOf w.heap.size _) HB2.out)).keep (ha3.2.mono fun b _ e => .inl (by rw [e]; exact hpl))).snoc (r := [.string x.name, .slice a1 a2 a3, .slice b1 b2 b3, .slice d1 d2 d3, .slice l1 l2 l3]) (x := x)
     (RuleA.mono (Av := fun b => b < w2.heap.size) ⟨_, _, _, _, rfl, hvi, hvo, hvf, hvs⟩ fun b _ e => by
      have h2 := HB2.out.size
      rcases e with e | e
      ·omega
      ·have := hlt3 b e; omega)
    have HO3 := Lib.hid hO3
    have HL3 := Lib.hid (hL3.imp fun r' x' h => h.keep (fr_alloc _ _ (.cells #[.string x.name, .slice a1 a2 a3, .slice b1 b2 b3, .slice d1 d2 d3, .slice l1 l2 l3] 45)))
    have HA3 := Lib.hid hA3
    have hs3 := hA3.2.size
    clear ha3 hA3 cN2 hvi hvo hvf hvs hO3 hL3 hlt3
    go_wp2_with (at_builtin; refine wpList_append_new _ rfl _ _ 82 rfl w.heap.size 45 i0 (.agg #[.string ByteArray.empty, .slice none 0 0, .slice none 0 0, .slice none 0 0, .slice none 0 0]) 5 112 Tryz.underlying82 hi hz0 hz1 hz2 rfl (by decide) _ _ _ rfl (HO3.out.alloc _) ⟨w3.heap.size, 0, none⟩ 1 1 [.string x.name, .slice a1 a2 a3, .slice b1 b2 b3, .slice d1 d2 d3, .slice l1 l2 l3] rfl rfl ?c1 ?c2 (by decide) ?c3 ?c4 ?c5 ?_)
    case c1 =>
     intro j u hj
     match j, hj with
     | 0, hj => simp at hj; subst hj; simp [Addr.add]
     | 1, hj => simp at hj; subst hj; simp [Addr.add]
     | 2, hj => simp at hj; subst hj; simp [Addr.add]
     | 3, hj => simp at hj; subst hj; simp [Addr.add]
     | 4, hj => simp at hj; subst hj; simp [Addr.add]
    case c2 => intro u hu; simp at hu; rcases hu with rfl | rfl | rfl | rfl | rfl <;> rfl
    case c3 => unfold maxLen; omega
    case c4 => omega
    case c5 => simp; omega
    intro v' w4 hown' hgrow hnew
    have hA4 := (HA3.out.alloc (.cells #[.string x.name, .slice a1 a2 a3, .slice b1 b2 b3, .slice d1 d2 d3, .slice l1 l2 l3] 45)).grown H.out.st hgrow (fun b hb => (HO3.out.lt b hb).1)
    have hL4 := grow_rules (B := w.heap.size) (v' := v') HL3.out hgrow (fun b hb => by simpa using hnew b hb)
    have HO4 : Hid (w4.ownsRow w.heap.size 45 5 v' (rows ++ [([.string x.name, .slice a1 a2 a3, .slice b1 b2 b3, .slice d1 d2 d3, .slice l1 l2 l3] : List Value)]).length (rows ++ [([.string x.name, .slice a1 a2 a3, .slice b1 b2 b3, .slice d1 d2 d3, .slice l1 l2 l3] : List Value)]).flatten) := by
     show w4.ownsRow _ _ _ _ _ _
     rw [List.length_append, List.flatten_append]
     simpa [hrl] using hown'
    have HA4 := Lib.hid hA4
    have HL4 := Lib.hid hL4
    clear hgrow hown' hA4 hL4 hnew
    go_wp2
    go_roundw
    case rel =>
     refine ⟨f, acc ++ [x], _, s2, by have := HLESS.out; have := HF.out; omega, HRES.out, ?_, HO4.out, HL4.out, HA4.out⟩
     have h2 : acc.length ≤ k + 0 := HAL.out
     rw [List.length_append]
     simp only [List.length_cons, List.length_nil]
     have h3 : k + 1 ≤ s2.1 + (if s2.2 then 1 else 0) := HADV.out
     omega
    case measure => rw [HA4.out.1.left, HA.out.1.left]; exact HLESS.out
   ·have hres := HJ.out
    rw [rulesF_stop (.inr HQ.out)] at hres
    have HRES := Lib.hid hres
    clear hres
    go_wp2_with fail
    refine cI.mono ?_
    rintro e w2 ⟨rfl, hb2⟩
    go_wp2
    go_ret
    refine ⟨_, rfl, ?_, by rw [← HRES.out]; exact HA.out.trans (After.of_below HA.out.1 hb2)⟩
    rw [← HRES.out]
    have hl2 := HL.out.imp fun r x h => h.keep (fr_below (Av := AvOf w.heap.size _) hb2)
    exact ⟨rows, rowA_own (own_fr HO.out (p := p) (fr_below hb2) hpl) (HL.out.len fun r x h => h.len), hl2.imp fun r x h => h.mono fun b _ e => .inl e⟩
  ·have hres := HJ.out
   rw [rulesF_stop (.inl rfl)] at hres
   have HRES := Lib.hid hres
   clear hres cI
   go_wp2
   go_ret
   refine ⟨_, rfl, ?_, by rw [← HRES.out]; exact HA.out⟩
   rw [← HRES.out]
   exact ⟨rows, rowA_own HO.out (HL.out.len fun r x h => h.len), HL.out.imp fun r x h => h.mono fun b _ e => .inl e⟩
end Go.Proofs.YtdhmeganlnpohaaGreatDoor
namespace Go.Proofs.YtdhmeganlnpohaaGreatDoor
open Go.RowKit Go.Shelf
theorem cells2 {w : World} {b : Nat} {x y : Value} {T : TypeId} (h : w.heap[b]? = some (.cells #[x, y] T)) :
  w.cell? ⟨b, 0, none⟩ = some x ∧ w.cell? ⟨b, 1, none⟩ = some y ∧ w.frozen? ⟨b, 0, none⟩ = false ∧ w.frozen? ⟨b, 1, none⟩ = false := by
 simp [World.cell?, World.frozen?, h]
set_option maxHeartbeats 4000000 in
set_option maxRecDepth 100000 in
theorem lexAll_any (s : ByteArray) (w : World) (hs : s.size ≤ 1048576) :
  Calls Tryz.prog 117 #[.string s] w fun e w' => AllE s.data.toList e w' ∧ Below w.heap.size w w' := by
 obtain ⟨L, hL⟩ : ∃ L, s.data.toList = L := ⟨_, rfl⟩
 have hsz : s.size = L.length := by rw [← hL]; exact Lib.size_eq s
 rw [hL]
 obtain ⟨i0, hi, hz0, hz1, hz2⟩ := info_of info_word
 have CSK : Hid (∀ k : Nat, k ≤ s.size → ∀ w, Calls Tryz.prog 164 #[.string s, .int .i64 k] w fun e w' => e = .returned (.int .i64 (k + skipN false (L.drop k) : Nat)) ∧ w = w') := by
  show ∀ k : Nat, _
  intro k hk w
  have := skipBlanks_any s k w (by unfold maxLen; omega) hk
  rwa [hL] at this
 have CWO : Hid (∀ k : Nat, k < s.size → ∀ w, Calls Tryz.prog 165 #[.string s, .int .i64 k] w fun e w' => WordE L k e ∧ Below w.heap.size w w') := by
  show ∀ k : Nat, _
  intro k hk w
  have := wordAt_any s k w (by omega) hk
  rwa [hL] at this
 have HSZ := Lib.hid hsz
 have c0 := CSK.out 0 (by omega)
 obtain ⟨k0, hk0⟩ : ∃ k0, 0 + skipN false (L.drop 0) = k0 := ⟨_, rfl⟩
 simp only [hk0] at c0
 have C0 := Lib.hid c0
 have hk0' : skipN false L = k0 := by rw [← hk0]; simp
 have hle0 : k0 ≤ s.size := by have := skip_le L false; omega
 have hst : joinW [] (allF (L.length + 1) k0 (L.drop k0)) = allS L := by
  rw [joinW_nil]
  unfold allS
  rcases allF_skip (L.length + 1) 0 L with h | h
  ·rw [h, hk0', Nat.zero_add]
  ·omega
 have h00 : skipN false (L.drop k0) = 0 := by rw [← hk0']; exact skip_idem L false
 have HST := Lib.hid hst
 have H00 := Lib.hid h00
 clear hL hsz c0 hk0 hk0' hst h00
 go_enter Tryz.func117, Tryz.ntmps117
 go_wp2_with fail
 refine (C0.out _).mono ?_
 rintro e w2 ⟨rfl, rfl⟩
 go_wp2
 go_loopw [4, 5] (fun v i wr => ∃ (k f : Nat) (ws : List WordT), i = .int .i64 k ∧ k ≤ s.size ∧ ws.length ≤ k ∧ s.size - k < f ∧ skipN false (L.drop k) = 0 ∧ joinW ws (allF f k (L.drop k)) = allS L ∧
   wr.ownsRow (w.heap.size + 1) 152 3 v (wordRows ws).length (wordRows ws).flatten ∧ wr.heap[w.heap.size]? = some (.cells #[.int .i64 0, .int .i64 0] 146) ∧ Below w.heap.size w wr ∧ w.heap.size + 1 ≤ wr.heap.size)
  (fun _ i _ => s.size - (intOf i).toNat)
 case atStart => exact ⟨k0, L.length + 1, [], rfl, hle0, by simp, by have := HSZ.out; omega, H00.out, HST.out, ⟨by simp [wordRows], .inl ⟨rfl, rfl⟩⟩, alloc_at w _, (Below.refl _ _).alloc (Nat.le_refl _) _, by simp⟩
 case round =>
  obtain ⟨k, f, ws, rfl, hk, hwl, hf, hz, hj, hown, herr, hnx, hsz1⟩ := hrel
  obtain ⟨f, rfl⟩ : ∃ g, f = g + 1 := ⟨f - 1, by omega⟩
  have HJ := Lib.hid hj
  have HZ := Lib.hid hz
  have HERR := Lib.hid herr
  clear hj hz herr
  by_cases hlt : k < s.size
  ·have cW := CWO.out k hlt wr
   have hne : L.drop k ≠ [] := by
    intro e
    have := congrArg List.length e
    rw [List.length_drop, ← HSZ.out] at this
    simp at this; omega
   have HNE := Lib.hid hne
   clear hne
   unfold WordE at cW
   cases hW : wordS (L.drop k) with
   | none =>
    rw [hW] at cW
    simp only at cW
    have hbad := HJ.out
    rw [all_bad HNE.out HZ.out hW] at hbad
    have HBAD := Lib.hid hbad.symm
    clear hbad hW
    go_wp2_with fail
    refine cW.mono ?_
    rintro e w2 ⟨⟨a, b, c, n, rfl⟩, hb2⟩
    have herr2 : w2.heap[w.heap.size]? = some (.cells #[.int .i64 0, .int .i64 0] 146) := by rw [hb2.block _ (by omega)]; exact HERR.out
    have herr3 : (w2.alloc (.cells #[.int .i64 a, .int .i64 b, .string c] 152)).heap[w.heap.size]? = some (.cells #[.int .i64 0, .int .i64 0] 146) := by
     rw [Below.heap_alloc _ _ _ (by have := hb2.size; omega)]; exact herr2
    obtain ⟨e0, e1, f0, f1⟩ := cells2 herr3
    have hs2 := hb2.size
    have HE3 := Lib.hid herr3
    have HB2 := Lib.hid hb2
    clear herr2 herr3 hb2 cW hown
    go_wp2
    refine bodyPost_ret (results_tc rfl _ _ w.heap.size _ _ _ _ rfl (heap_set _ _ (heap_set _ _ HE3.out)) Tryz.underlying146 rfl (by kernel_rfl)) rfl ?_
    have h1 := hnx.trans (HB2.out.mono hnx.size)
    exact ⟨allE_bad HBAD.out rfl, ((h1.alloc h1.size _).setCell (Nat.le_refl _) _).setCell (Nat.le_refl _) _⟩
   | some x =>
    obtain ⟨kd, t, n⟩ := x
    rw [hW] at cW
    simp only at cW
    have hpos := word_pos hW
    rw [List.length_drop, ← HSZ.out] at hpos
    obtain ⟨g, rfl⟩ : ∃ g, f = g + 1 := ⟨f - 1, by omega⟩
    obtain ⟨k', hk'⟩ : ∃ k', k + n + skipN false (L.drop (k + n)) = k' := ⟨_, rfl⟩
    have hk'2 : k' ≤ s.size := by have := skip_le (L.drop (k + n)) false; rw [List.length_drop, ← HSZ.out] at this; omega
    have hj' : joinW (ws ++ [(kd, k, t)]) (allF (g + 1) k' (L.drop k')) = allS L := by
     rw [← HJ.out, all_word HNE.out HZ.out hW, joinW_join, List.drop_drop]
     rcases allF_skip (g + 1) (k + n) (L.drop (k + n)) with h | h
     ·rw [h, List.drop_drop, hk']
     ·omega
    have hz' : skipN false (L.drop k') = 0 := by rw [← hk', ← List.drop_drop]; exact skip_idem _ false
    have cS := CSK.out (k + n) (by omega)
    simp only [hk'] at cS
    have CS := Lib.hid cS
    have HJ2 := Lib.hid hj'
    have HZ2 := Lib.hid hz'
    have hkk : k + n ≤ k' := by omega
    clear hj' hz' cS hk' hW
    go_wp2_with fail
    refine cW.mono ?_
    rintro e w2 ⟨rfl, hb2⟩
    have hown2 : w2.ownsRow (w.heap.size + 1) 152 3 _ (wordRows ws).length (wordRows ws).flatten := hown.kept (row := none) ⟨hb2.os, hb2.tape, hb2.output, hb2.size, fun g hg _ => hb2.block g hg⟩ (by cases h : Value.ownBlock _ <;> simp)
    have herr2 : w2.heap[w.heap.size]? = some (.cells #[.int .i64 0, .int .i64 0] 146) := by rw [hb2.block _ (by omega)]; exact HERR.out
    have hnx2 := hnx.trans (hb2.mono hnx.size)
    have hs2 := hb2.size
    have HE2 := Lib.hid herr2
    have HO2 := Lib.hid hown2
    clear herr2 hown2 hown hb2 cW
    have hrl := wordRows_length ws
    go_wp2_with (at_builtin; refine wpList_append_own _ rfl _ _ 144 rfl (w.heap.size + 1) 152 i0 (.agg #[.int .i64 0, .int .i64 0, .string ByteArray.empty]) 3 32 Tryz.underlying144 hi hz0 hz1 hz2 rfl (by decide) _ _ _ rfl ((HO2.out.alloc _).alloc _) ⟨w2.heap.size + 1, 0, none⟩ 1 1 (wordRow (kd, k, t)) rfl rfl ?c1 ?c2 ?c3 ?c4 ?c5 ?_)
    case c1 =>
     intro j u hj
     match j, hj with
     | 0, hj => simp [wordRow] at hj; subst hj; simp [Addr.add]
     | 1, hj => simp [wordRow] at hj; subst hj; simp [Addr.add]
     | 2, hj => simp [wordRow] at hj; subst hj; simp [Addr.add]
    case c2 => intro u hu; simp [wordRow] at hu; rcases hu with rfl | rfl | rfl <;> rfl
    case c3 => unfold maxLen; omega
    case c4 => omega
    case c5 => simp; omega
    intro v' w3 hown' hgrow _
    have hlt2 := fun b hb => (HO2.out.lt b hb).1
    have hnx3 : Below w.heap.size w w3 := ((hnx2.alloc hnx2.size _).alloc (by simp; omega) _).grown hgrow (by simp; omega) (fun b hb => by have := hlt2 b hb; omega)
    have herr3 : w3.heap[w.heap.size]? = some (.cells #[.int .i64 0, .int .i64 0] 146) := by
     rw [hgrow.block _ (by simp; omega) (fun e => by have := hlt2 _ e.symm; omega), Below.heap_alloc _ _ _ (by simp; omega), Below.heap_alloc _ _ _ (by omega)]
     exact HE2.out
    have hs3 := hgrow.size
    simp at hs3
    have HO3 : Hid (w3.ownsRow (w.heap.size + 1) 152 3 v' (wordRows (ws ++ [(kd, k, t)])).length (wordRows (ws ++ [(kd, k, t)])).flatten) := by
     show w3.ownsRow _ _ _ _ _ _
     rw [wordRows_append, List.length_append, List.flatten_append]
     simpa [wordRows] using hown'
    have HE3 := Lib.hid herr3
    have HN3 := Lib.hid hnx3
    clear hgrow hown' herr3 hnx3 hlt2
    go_wp2_with fail
    refine (CS.out _).mono ?_
    rintro e w4 ⟨rfl, rfl⟩
    go_wp2
    go_roundw
    case rel => exact ⟨k', g + 1, ws ++ [(kd, k, t)], rfl, hk'2, by simp; omega, by omega, HZ2.out, HJ2.out, HO3.out, HE3.out, HN3.out, by omega⟩
    case measure => simp [intOf]; omega
  ·have hke : L.drop k = [] := List.drop_eq_nil_of_le (by have := HSZ.out; omega)
   have hgood := HJ.out
   rw [all_end hke] at hgood
   have HGOOD := Lib.hid hgood.symm
   have hkk : (s.size : Int) = (k : Int) := by omega
   have hkn : s.size = k := by omega
   have HO2 := Lib.hid hown
   have hrl := wordRows_length ws
   clear hke hgood hown
   go_wp2_with (at_builtin; refine wpList_append_own _ rfl _ _ 144 rfl (w.heap.size + 1) 152 i0 (.agg #[.int .i64 0, .int .i64 0, .string ByteArray.empty]) 3 32 Tryz.underlying144 hi hz0 hz1 hz2 rfl (by decide) _ _ _ rfl (HO2.out.alloc _) ⟨wr.heap.size, 0, none⟩ 1 1 (wordRow (4, k, [])) rfl rfl ?c1 ?c2 ?c3 ?c4 ?c5 ?_)
   case c1 =>
    intro j u hj
    match j, hj with
    | 0, hj => simp [wordRow] at hj; subst hj; simp [Addr.add]
    | 1, hj => simp [wordRow] at hj; subst hj; simp [Addr.add]
    | 2, hj => simp [wordRow] at hj; subst hj; simp [Addr.add]
   case c2 => intro u hu; simp [wordRow] at hu; rcases hu with rfl | rfl | rfl <;> rfl
   case c3 => unfold maxLen; omega
   case c4 => omega
   case c5 => simp; omega
   intro v' w3 hown' hgrow _
   have hlt2 := fun b hb => (HO2.out.lt b hb).1
   have hnx3 : Below w.heap.size w w3 := (hnx.alloc hnx.size _).grown hgrow (by simp; omega) (fun b hb => by have := hlt2 b hb; omega)
   have herr3 : w3.heap[w.heap.size]? = some (.cells #[.int .i64 0, .int .i64 0] 146) := by
    rw [hgrow.block _ (by simp; omega) (fun e => by have := hlt2 _ e.symm; omega), Below.heap_alloc _ _ _ (by omega)]
    exact HERR.out
   have HO3 : Hid (w3.ownsRow (w.heap.size + 1) 152 3 v' (wordRows (ws ++ [(4, k, [])])).length (wordRows (ws ++ [(4, k, [])])).flatten) := by
    show w3.ownsRow _ _ _ _ _ _
    rw [wordRows_append, List.length_append, List.flatten_append]
    simpa [wordRows] using hown'
   obtain ⟨e0, e1, f0, f1⟩ := cells2 herr3
   have HE3 := Lib.hid herr3
   have HN3 := Lib.hid hnx3
   clear hgrow hown' herr3 hnx3 hlt2
   go_wp2
   refine bodyPost_ret (results_tc rfl _ _ w.heap.size _ _ _ _ rfl (heap_set _ _ (heap_set _ _ HE3.out)) Tryz.underlying146 rfl (by kernel_rfl)) rfl ?_
   refine ⟨allE_good HGOOD.out rfl ?_, (HN3.out.setCell (Nat.le_refl _) _).setCell (Nat.le_refl _) _⟩
   exact row_own (ownsRow_setCell_below (ownsRow_setCell_below HO3.out (by simp) _) (by simp) _) (wordRows_len _)
end Go.Proofs.YtdhmeganlnpohaaGreatDoor
