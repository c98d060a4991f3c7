import Derived.ArgAppend
import Derived.Test.YtdhmeganlnpohaaGreatDoorMal
namespace Go.Proofs.YtdhmeganlnpohaaGreatDoor
open Go.RowKit
theorem own_lower {w : World} {B B' e size : Nat} {v : Value} {n : Nat} {xs : List Value} (h : w.ownsRow B e size v n xs) (hB : B' ≤ B) : w.ownsRow B' e size v n xs := by
 obtain ⟨h1, h2 | ⟨g, cap, cur, hv, hg, hr⟩⟩ := h
 ·exact ⟨h1, .inl h2⟩
 ·exact ⟨h1, .inr ⟨g, cap, cur, hv, Nat.le_trans hB hg, hr⟩⟩
theorem wpList_append_new {P : Program} (w : World) {ops : Array Oper} {rest : List Oper} {o : Oper} {a : Act} {Q : Exit → Act → World → Prop}
  (hg : o.guard = none) (s x : Operand) (t : TypeId) (hop : o.op = Op.call { callee := Callee.builtin Builtin.append, args := #[s, x], argTypes := #[t, t] })
  (base : Nat) (e : TypeId) (i : TypeInfo) (z : Value) (size bytes : Nat) (h1 : P.underlying t = some (.slice e)) (h2 : P.info? e = some i) (h3 : i.zero = some z) (h4 : i.size = size) (h5 : i.bytes = bytes) (h6 : z.cells.size = size) (h7 : 0 < size)
  (v : Value) (n : Nat) (xs : List Value) (hs : a.eval s = v) (hown : w.ownsRow base e size v n xs)
  (ad : Addr) (m c : Nat) (news : List Value) (hx : a.eval x = .slice (some ad) m c) (hn : news.length = m * size) (hc : ∀ j u, news[j]? = some u → w.cell? (ad.add j) = some u) (h1c : ∀ u ∈ news, u.oneCell' = true)
  (hm : 0 < m) (b1 : n + m ≤ maxLen) (b2 : (n + m) * bytes ≤ 140737488355328) (hbase : base ≤ w.heap.size)
  (hK : ∀ v' w', w'.ownsRow base e size v' (n + m) (xs ++ news) → w.grownBy w' v.ownBlock → (∀ b, v'.ownBlock = some b → v.ownBlock = some b ∨ w.heap.size ≤ b) → wpList P ops Q rest (a.put o.dst v') w') :
  wpList P ops Q (o :: rest) a w := by
 obtain ⟨hl, ⟨rfl, h0⟩ | ⟨g, cap, cur, rfl, hgB, hgc, hnc, hcm, hcs, htk⟩⟩ := id hown
 ·subst h0
  refine wpList_append_grows w hg s x t hop e i z size bytes h1 h2 h3 h4 h5 h6 h7 none 0 0 xs hs (fun _ => ⟨rfl, rfl⟩) hl (fun b hb => by cases hb) ad m c news hx hn hc h1c (by omega) b1 b2 ?_
  intro v' w' ho hgr
  exact hK v' w' (own_lower ho hbase) hgr fun b hb => .inr (ho.lt b hb).1
 ·by_cases hfit : n + m ≤ cap
  ·refine wpList_append_fits w hg s x t hop base e i size h1 h2 h4 g n cap xs hs hown ad m c news hx hn hc h1c hfit ?_
   intro w' ho hgr
   exact hK _ w' ho hgr fun b hb => .inl hb
  ·refine wpList_append_grows w hg s x t hop e i z size bytes h1 h2 h3 h4 h5 h6 h7 (some ⟨g, 0, none⟩) n cap xs hs (fun h => by cases h) hl (fun b hb => by cases hb; exact hown.cells rfl) ad m c news hx hn hc h1c (by omega) b1 b2 ?_
   intro v' w' ho hgr
   exact hK v' w' (own_lower ho hbase) ⟨hgr.os, hgr.tape, hgr.output, hgr.size, fun k hk _ => hgr.block k hk (by simp)⟩ fun b hb => .inr (ho.lt b hb).1
def AllA {α : Type} (P : List Value → α → Prop) (rows : List (List Value)) (xs : List α) : Prop := rows.length = xs.length ∧ ∀ (j : Nat) r x, rows[j]? = some r → xs[j]? = some x → P r x
theorem AllA.nil {α : Type} (P : List Value → α → Prop) : AllA P [] [] := ⟨rfl, fun j r x h => by simp at h⟩
theorem AllA.snoc {α : Type} {P : List Value → α → Prop} {rows : List (List Value)} {xs : List α} (h : AllA P rows xs) {r : List Value} {x : α} (hp : P r x) : AllA P (rows ++ [r]) (xs ++ [x]) := by
 refine ⟨by simp [h.1], fun j r' x' hr hx => ?_⟩
 rcases Nat.lt_trichotomy j rows.length with hj | hj | hj
 ·rw [List.getElem?_append_left hj] at hr
  rw [List.getElem?_append_left (by rw [← h.1]; exact hj)] at hx
  exact h.2 j r' x' hr hx
 ·subst hj
  rw [List.getElem?_append_right (Nat.le_refl _)] at hr
  rw [List.getElem?_append_right (by rw [h.1]; exact Nat.le_refl _)] at hx
  simp [h.1] at hr hx
  subst hr hx
  exact hp
 ·rw [List.getElem?_eq_none (by simp; omega)] at hr; cases hr
theorem AllA.imp {α : Type} {P Q : List Value → α → Prop} {rows : List (List Value)} {xs : List α} (h : AllA P rows xs) (hi : ∀ r x, P r x → Q r x) : AllA Q rows xs := ⟨h.1, fun j r x hr hx => hi r x (h.2 j r x hr hx)⟩
theorem AllA.len {α : Type} {P : List Value → α → Prop} {rows : List (List Value)} {xs : List α} (h : AllA P rows xs) {n : Nat} (hn : ∀ r x, P r x → r.length = n) : ∀ r ∈ rows, r.length = n := by
 intro r hr
 obtain ⟨j, hj⟩ := List.getElem?_of_mem hr
 have hlt : j < xs.length := by rw [← h.1]; exact (List.getElem?_eq_some_iff.1 hj).1
 exact hn r _ (h.2 j r _ hj (List.getElem?_eq_getElem hlt))
def StepA (Av : Nat → Prop) (w : World) (r : List Value) (x : StepS) : Prop := ∃ va vl, r = [.string x.out, .int .i64 x.op, va, vl, .int .i64 x.n] ∧ StrsA Av w va x.args ∧ StrsA Av w vl x.lits
theorem StepA.len {Av : Nat → Prop} {w : World} {r : List Value} {x : StepS} (h : StepA Av w r x) : r.length = 5 := by obtain ⟨va, vl, rfl, _⟩ := h; rfl
theorem StepA.keep {Av : Nat → Prop} {w w' : World} {r : List Value} {x : StepS} (h : StepA Av w r x) (hf : Fr Av w w') : StepA Av w' r x := by
 obtain ⟨va, vl, rfl, h1, h2⟩ := h
 exact ⟨va, vl, rfl, RowA.keep h1 hf, RowA.keep h2 hf⟩
theorem StepA.mono {Av Av' : Nat → Prop} {w : World} {r : List Value} {x : StepS} (h : StepA Av w r x) (hm : ∀ b, b < w.heap.size → Av' b → Av b) : StepA Av' w r x := by
 obtain ⟨va, vl, rfl, h1, h2⟩ := h
 exact ⟨va, vl, rfl, RowA.mono h1 hm, RowA.mono h2 hm⟩
def StepsA (Av : Nat → Prop) (w : World) (v : Value) (xs : List StepS) : Prop := ∃ rows, RowA Av w v 5 rows ∧ AllA (StepA Av w) rows xs
theorem StepsA.keep {Av : Nat → Prop} {w w' : World} {v : Value} {xs : List StepS} (h : StepsA Av w v xs) (hf : Fr Av w w') : StepsA Av w' v xs := by
 obtain ⟨rows, h1, h2⟩ := h
 exact ⟨rows, h1.keep hf, h2.imp fun r x h => h.keep hf⟩
theorem StepsA.mono {Av Av' : Nat → Prop} {w : World} {v : Value} {xs : List StepS} (h : StepsA Av w v xs) (hm : ∀ b, b < w.heap.size → Av' b → Av b) : StepsA Av' w v xs := by
 obtain ⟨rows, h1, h2⟩ := h
 exact ⟨rows, h1.mono hm, h2.imp fun r x h => h.mono hm⟩
def AvOf (B : Nat) (v : Value) (b : Nat) : Prop := b < B ∨ v.ownBlock = some b
theorem info_step : (Tryz.prog.info? 24).map (fun i => (i.zero, i.size, i.bytes)) = some (some (.agg #[.string ByteArray.empty, .int .i64 0, .slice none 0 0, .slice none 0 0, .int .i64 0]), 5, 80) := by kernel_rfl
end Go.Proofs.YtdhmeganlnpohaaGreatDoor
namespace Go.Proofs.YtdhmeganlnpohaaGreatDoor
open Go.RowKit
theorem names_ge (ws : List WordT) : ∀ (f : Nat) (acc : List ByteArray) (s : PS), s.1 ≤ (namesF ws f acc s).2.1
 | 0, _, _ => Nat.le_refl _
 | f + 1, acc, s => by
  unfold namesF
  split
  ·exact Nat.le_trans (name_ge ws s) (names_ge ws f _ _)
  ·exact Nat.le_refl _
theorem text_ge (ws : List WordT) (s : PS) : s.1 ≤ (textP ws s).2.1 := take_ge ws _ s
theorem number_ge (ws : List WordT) (s : PS) : s.1 ≤ (numberP ws s).2.1 := take_ge ws _ s
theorem op_ge (ws : List WordT) (s : PS) : s.1 ≤ (opP ws s).2.1 := take_ge ws _ s
theorem tail_ge (ws : List WordT) (op : Int) (s : PS) : s.1 ≤ (tailP ws op s).2.1 := by
 unfold tailP
 have t1 := text_ge ws s
 have t2 := text_ge ws (textP ws s).2
 have n1 := name_ge ws s
 have n2 := name_ge ws (textP ws s).2
 have n3 := name_ge ws (textP ws (textP ws s).2).2
 have n4 := name_ge ws (numberP ws s).2
 have u1 := number_ge ws s
 have l1 := names_ge ws (ws.length + 1) [] s
 split
 ·exact l1
 ·split
  ·exact t1
  ·split
   ·exact Nat.le_trans t1 n2
   ·split
    ·exact Nat.le_trans t1 (Nat.le_trans t2 n3)
    ·split
     ·exact Nat.le_trans u1 n4
     ·exact n1
theorem step_ge (ws : List WordT) (s : PS) : (nameP ws s).2.1 ≤ (stepP ws s).2.1 := by
 show (nameP ws s).2.1 ≤ (markP ws cSemi (tailP ws (opP ws (markP ws cEq (nameP ws s).2)).1 (opP ws (markP ws cEq (nameP ws s).2)).2).2).1
 exact Nat.le_trans (mark_ge ws cEq _) (Nat.le_trans (op_ge ws _) (Nat.le_trans (tail_ge ws _ _) (mark_ge ws cSemi _)))
theorem stepsF_go {ws : List WordT} {f : Nat} {acc : List StepS} {s : PS} (h0 : s.2 = false) (h1 : isNameP ws s = true) : stepsF ws (f + 1) acc s = stepsF ws f (acc ++ [(stepP ws s).1]) (stepP ws s).2 := by
 simp [stepsF, h0, h1]
theorem stepsF_stop {ws : List WordT} {f : Nat} {acc : List StepS} {s : PS} (h : s.2 = true ∨ isNameP ws s = false) : stepsF ws (f + 1) acc s = (acc, s) := by
 rcases h with h | h <;> simp [stepsF, h]
theorem grow_steps {W w5 : World} {B : Nat} {vv v' : Value} {rows : List (List Value)} {xs : List StepS} (h : AllA (fun r x => StepA (AvOf B vv) W r x) rows xs) (hg : W.grownBy w5 vv.ownBlock) (hv : ∀ b, v'.ownBlock = some b → vv.ownBlock = some b ∨ W.heap.size ≤ b) :
  AllA (StepA (AvOf B v') w5) rows xs := by
 refine h.imp fun r x hx => ?_
 have h1 : StepA (fun b => AvOf B vv b ∨ W.heap.size ≤ b) W r x := hx.mono fun b hb e => by
  rcases e with e | e
  ·exact e
  ·omega
 refine (h1.keep (fr_grown hg fun k e => .inl (.inr e))).mono fun b _ e => ?_
 rcases e with e | e
 ·exact .inl (.inl e)
 ·rcases hv b e with e | e
  ·exact .inl (.inr e)
  ·exact .inr e
set_option maxHeartbeats 4000000 in
set_option maxRecDepth 100000 in
theorem p_steps_any (p : Nat) (v : Value) (ws : List WordT) (s : PS) (w : World) (h : RS w p v ws s) :
  Calls Tryz.prog 274 #[.pointer (some ⟨p, 0, none⟩)] w fun e w' => ∃ vv, e = .returned vv ∧ StepsA (fun b => b < w.heap.size) w' vv (stepsP ws s).1 ∧ After w w' p v ws (stepsP ws s).2 := by
 obtain ⟨i0, hi, hz0, hz1, hz2⟩ := info_of info_step
 obtain ⟨R, hR⟩ : ∃ R, stepsP ws s = R := ⟨_, rfl⟩
 have H := Lib.hid h
 have HR := Lib.hid hR
 rw [hR]
 have hfew := h.few
 have hpl := h.st.p_lt
 clear hR h
 go_enter Tryz.func274, Tryz.ntmps274
 go_wp2
 go_loopw [3] (fun vv wr => ∃ (f : Nat) (acc : List StepS) (rows : List (List Value)) (s' : PS), ws.length - s'.1 < f ∧ stepsF ws f acc s' = R ∧ acc.length ≤ s'.1 ∧ wr.ownsRow w.heap.size 24 5 vv rows.length rows.flatten ∧ AllA (StepA (AvOf w.heap.size vv) wr) rows acc ∧ After w wr p v ws s')
  (fun _ wr => ws.length - posPs wr p)
 case atStart => exact ⟨ws.length + 1, [], [], s, by omega, HR.out, by simp, ⟨rfl, .inl ⟨rfl, rfl⟩⟩, AllA.nil _, After.refl H.out.st⟩
 case round =>
  obtain ⟨f, acc, rows, s', hf, hj, hal, hown, hall, ha⟩ := hrel
  obtain ⟨f, rfl⟩ : ∃ g, f = g + 1 := ⟨f - 1, by omega⟩
  have HA := Lib.hid ha
  have HJ := Lib.hid hj
  have HO := Lib.hid hown
  have HL := Lib.hid hall
  have hrl := hall.1
  have hlt := ha.1.lt
  have hrs := H.out.after ha
  obtain ⟨c0, c1, c2, f0, f1, f2⟩ := ha.1.cells
  have cI := p_isName_any p v ws s' wr hrs.st hrs.gp hrs.szM
  have CN : Hid (∀ w', Below wr.heap.size wr w' → Calls Tryz.prog 299 #[.pointer (some ⟨p, 0, none⟩)] w' fun e w'' => StepE w' w'' (stepP ws s').1 e ∧ After w' w'' p v ws (stepP ws s').2) :=
   fun w' hb => p_step_any p v ws s' w' (hrs.below hb)
  have hsz := ha.2.size
  obtain ⟨k, fl⟩ := s'
  clear ha hj hown hrs c0 f0 hall
  cases fl
  ·obtain ⟨q, hq⟩ : ∃ q, isNameP ws (k, false) = q := ⟨_, rfl⟩
   rw [hq] at cI
   have HQ := Lib.hid hq
   clear hq
   cases q
   ·have hres := HJ.out
    rw [stepsF_stop (.inr HQ.out)] at hres
    have HRES := Lib.hid hres
    clear hres
    go_wp2_with fail
    refine cI.mono ?_
    rintro e w2 ⟨rfl, hb2⟩
    go_wp2
    go_ret
    refine ⟨_, rfl, ?_, by rw [← HRES.out]; exact HA.out.trans (After.of_below HA.out.1 hb2)⟩
    rw [← HRES.out]
    have hl2 := HL.out.imp fun r x h => h.keep (fr_below (Av := AvOf w.heap.size _) hb2)
    exact ⟨rows, rowA_own (own_fr HO.out (p := p) (fr_below hb2) hpl) (HL.out.len fun r x h => h.len), hl2.imp fun r x h => h.mono fun b _ e => .inl e⟩
   ·have hres := HJ.out
    rw [stepsF_go rfl HQ.out] at hres
    have hadv := name_go (ws := ws) (s := (k, false)) rfl HQ.out
    have hge := step_ge ws (k, false)
    rw [hadv] at hge
    obtain ⟨y, hy⟩ : ∃ y, stepP ws (k, false) = y := ⟨_, rfl⟩
    rw [hy] at hres hge CN
    obtain ⟨x, s2⟩ := y
    have HRES := Lib.hid hres
    have hge2 : k + 1 ≤ s2.1 := hge
    clear hres hadv hge hy
    simp only at CN HRES
    go_wp2_with fail
    refine cI.mono ?_
    rintro e w2 ⟨rfl, hb2⟩
    have cN2 := CN.out w2 hb2
    have HB2 := Lib.hid hb2
    clear hb2 cI
    go_wp2_with fail
    refine cN2.mono ?_
    rintro e w3 ⟨⟨va, vl, rfl, hva, hvl⟩, ha3⟩
    obtain ⟨a1, a2, a3, hvs⟩ := rowA_shape hva
    subst hvs
    obtain ⟨l1, l2, l3, hvs⟩ := rowA_shape hvl
    subst hvs
    have hA3 := (HA.out.trans (After.of_below HA.out.1 HB2.out)).trans ha3
    have hO3 := own_fr (own_fr HO.out (fr_below HB2.out) hpl) ha3.2 hpl
    have hlt3 := fun b (hb : _ = some b) => (HO.out.lt b hb).2
    have hL3 := (HL.out.imp fun r x h => (h.keep (fr_below (Av := AvOf w.heap.size _) HB2.out)).keep (ha3.2.mono fun b _ e => .inl (by rw [e]; exact hpl))).snoc (r := [.string x.out, .int .i64 x.op, .slice a1 a2 a3, .slice l1 l2 l3, .int .i64 x.n]) (x := x)
     (StepA.mono (Av := fun b => b < w2.heap.size) ⟨_, _, rfl, hva, hvl⟩ fun b _ e => by
      have h2 := HB2.out.size
      rcases e with e | e
      ·omega
      ·have := hlt3 b e; omega)
    have HO3 := Lib.hid hO3
    have HL3 := Lib.hid (hL3.imp fun r' x' h => h.keep (fr_alloc _ _ (.cells #[.string x.out, .int .i64 x.op, .slice a1 a2 a3, .slice l1 l2 l3, .int .i64 x.n] 24)))
    have HA3 := Lib.hid hA3
    have hs3 := hA3.2.size
    clear ha3 hA3 cN2 hva hvl hO3 hL3 hlt3
    go_wp2_with (at_builtin; refine wpList_append_new _ rfl _ _ 43 rfl w.heap.size 24 i0 (.agg #[.string ByteArray.empty, .int .i64 0, .slice none 0 0, .slice none 0 0, .int .i64 0]) 5 80 Tryz.underlying43 hi hz0 hz1 hz2 rfl (by decide) _ _ _ rfl (HO3.out.alloc _) ⟨w3.heap.size, 0, none⟩ 1 1 [.string x.out, .int .i64 x.op, .slice a1 a2 a3, .slice l1 l2 l3, .int .i64 x.n] rfl rfl ?c1 ?c2 (by decide) ?c3 ?c4 ?c5 ?_)
    case c1 =>
     intro j u hj
     match j, hj with
     | 0, hj => simp at hj; subst hj; simp [Addr.add]
     | 1, hj => simp at hj; subst hj; simp [Addr.add]
     | 2, hj => simp at hj; subst hj; simp [Addr.add]
     | 3, hj => simp at hj; subst hj; simp [Addr.add]
     | 4, hj => simp at hj; subst hj; simp [Addr.add]
    case c2 => intro u hu; simp at hu; rcases hu with rfl | rfl | rfl | rfl | rfl <;> rfl
    case c3 => unfold maxLen; have h1 : k < ws.length := hlt; have h2 : acc.length ≤ k := hal; omega
    case c4 => have h1 : k < ws.length := hlt; have h2 : acc.length ≤ k := hal; omega
    case c5 => simp; omega
    intro v' w4 hown' hgrow hnew
    have hA4 := (HA3.out.alloc (.cells #[.string x.out, .int .i64 x.op, .slice a1 a2 a3, .slice l1 l2 l3, .int .i64 x.n] 24)).grown H.out.st hgrow (fun b hb => (HO3.out.lt b hb).1)
    have hL4 := grow_steps (B := w.heap.size) (v' := v') HL3.out hgrow (fun b hb => by simpa using hnew b hb)
    have HO4 : Hid (w4.ownsRow w.heap.size 24 5 v' (rows ++ [([.string x.out, .int .i64 x.op, .slice a1 a2 a3, .slice l1 l2 l3, .int .i64 x.n] : List Value)]).length (rows ++ [([.string x.out, .int .i64 x.op, .slice a1 a2 a3, .slice l1 l2 l3, .int .i64 x.n] : List Value)]).flatten) := by
     show w4.ownsRow _ _ _ _ _ _
     rw [List.length_append, List.flatten_append]
     simpa [hrl] using hown'
    have HA4 := Lib.hid hA4
    have HL4 := Lib.hid hL4
    clear hgrow hown' hA4 hL4 hnew
    go_wp2
    go_roundw
    case rel => exact ⟨f, acc ++ [x], _, s2, by have h1 : k < ws.length := hlt; have h2 : ws.length - k < f + 1 := hf; omega, HRES.out, by have h2 : acc.length ≤ k := hal; rw [List.length_append]; simp only [List.length_cons, List.length_nil]; omega, HO4.out, HL4.out, HA4.out⟩
    case measure => rw [HA4.out.1.pos, HA.out.1.pos]; have h1 : k < ws.length := hlt; show ws.length - s2.1 < ws.length - k; omega
  ·have hres := HJ.out
   rw [stepsF_stop (.inl rfl)] at hres
   have HRES := Lib.hid hres
   clear hres cI
   go_wp2
   go_ret
   refine ⟨_, rfl, ?_, by rw [← HRES.out]; exact HA.out⟩
   rw [← HRES.out]
   exact ⟨rows, rowA_own HO.out (HL.out.len fun r x h => h.len), HL.out.imp fun r x h => h.mono fun b _ e => .inl e⟩
end Go.Proofs.YtdhmeganlnpohaaGreatDoor
