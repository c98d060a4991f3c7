import Derived.Test.YtdhmeganlnpohaaGreatDoorMai
import Derived.Test.YtdhmeganlnpohaaGreatDoorMaa
import Derived.Laws.OwnMore
namespace Go.Proofs.YtdhmeganlnpohaaGreatDoor
abbrev PS := Nat × Bool
def wAt (ws : List WordT) (k : Nat) : WordT := ws.getD k (4, 0, [])
def wTx (ws : List WordT) (k : Nat) : ByteArray := ⟨(wAt ws k).2.2.toArray⟩
def takeP (ws : List WordT) (fits : Bool) (s : PS) : ByteArray × PS := if s.2 || !fits then (⟨#[]⟩, (s.1, true)) else (wTx ws s.1, (s.1 + 1, s.2))
def isKeyP (ws : List WordT) (key : ByteArray) (s : PS) : Bool := (wAt ws s.1).1 == 1 && (wTx ws s.1).toList == key.toList
def isNameP (ws : List WordT) (s : PS) : Bool := (wAt ws s.1).1 == 1 && okName (wTx ws s.1).data.toList
def isMarkP (ws : List WordT) (c : ByteArray) (s : PS) : Bool := (wAt ws s.1).1 == 3 && (wTx ws s.1).toList == c.toList
def isEndP (ws : List WordT) (s : PS) : Bool := (wAt ws s.1).1 == 4
def keyP (ws : List WordT) (key : ByteArray) (s : PS) : PS := (takeP ws (isKeyP ws key s) s).2
def markP (ws : List WordT) (c : ByteArray) (s : PS) : PS := (takeP ws (isMarkP ws c s) s).2
def nameP (ws : List WordT) (s : PS) : ByteArray × PS := takeP ws (isNameP ws s) s
def textP (ws : List WordT) (s : PS) : ByteArray × PS := takeP ws ((wAt ws s.1).1 == 2) s
def numP (ws : List WordT) (s : PS) : Int × Bool := getNum (wTx ws s.1).data.toList 2000
def numberP (ws : List WordT) (s : PS) : Int × PS := ((numP ws s).1, (takeP ws ((numP ws s).2 && (wAt ws s.1).1 == 1) s).2)
def opTab : List (List UInt8) := [[], [99, 111, 112, 121], [110, 101, 101, 100], [115, 111, 114, 116], [99, 111, 117, 110, 116], [99, 111, 110, 99, 97, 116], [108, 105, 116, 101, 114, 97, 108], [115, 101, 108, 101, 99, 116], [114, 101, 112, 108, 97, 99, 101], [112, 114, 101, 102, 105, 120]]
def opGo : List (List UInt8) → Nat → List UInt8 → Nat
 | [], _, _ => 0
 | x :: r, k, t => if x = t then k else opGo r (k + 1) t
def opNum (t : List UInt8) : Nat := opGo opTab 0 t
def opP (ws : List WordT) (s : PS) : Int × PS := ((opNum (wTx ws s.1).data.toList : Nat), (takeP ws (decide (opNum (wTx ws s.1).data.toList ≠ 0) && (wAt ws s.1).1 == 1) s).2)
def cComma : ByteArray := ⟨#[44]⟩
def cSemi : ByteArray := ⟨#[59]⟩
def cEq : ByteArray := ⟨#[61]⟩
def cOpen : ByteArray := ⟨#[123]⟩
def cClose : ByteArray := ⟨#[125]⟩
def kRule : ByteArray := ⟨#[114, 117, 108, 101]⟩
def kIn : ByteArray := ⟨#[105, 110]⟩
def kOut : ByteArray := ⟨#[111, 117, 116]⟩
def kAfter : ByteArray := ⟨#[97, 102, 116, 101, 114]⟩
def namesF (ws : List WordT) : Nat → List ByteArray → PS → List ByteArray × PS
 | 0, acc, s => (acc, s)
 | f + 1, acc, s => if !s.2 && isNameP ws s then namesF ws f (acc ++ [(nameP ws s).1]) (nameP ws s).2 else (acc, s)
def namesP (ws : List WordT) (s : PS) : List ByteArray × PS := namesF ws (ws.length + 1) [] s
def moreF (ws : List WordT) : Nat → List ByteArray → PS → List ByteArray × PS
 | 0, acc, s => (acc, s)
 | f + 1, acc, s => if !s.2 && isMarkP ws cComma s then moreF ws f (acc ++ [(nameP ws (markP ws cComma s)).1]) (nameP ws (markP ws cComma s)).2 else (acc, s)
def moreP (ws : List WordT) (x : ByteArray) (s : PS) : List ByteArray × PS := moreF ws (ws.length + 1) [x] s
def clauseP (ws : List WordT) (key : ByteArray) (s : PS) : List ByteArray × PS :=
 let a := nameP ws (keyP ws key s)
 let r := moreP ws a.1 a.2
 (r.1, markP ws cSemi r.2)
structure StepS where
 out : ByteArray
 op : Int
 args : List ByteArray
 lits : List ByteArray
 n : Int
structure RuleS where
 name : ByteArray
 ins : List ByteArray
 outs : List ByteArray
 after : List ByteArray
 steps : List StepS
def tailP (ws : List WordT) (op : Int) (s : PS) : (List ByteArray × List ByteArray × Int) × PS :=
 if op = 5 then let r := namesP ws s; ((r.1, [], 0), r.2)
 else if op = 6 then let r := textP ws s; (([], [r.1], 0), r.2)
 else if op = 7 then let r := textP ws s; let q := nameP ws r.2; (([q.1], [r.1], 0), q.2)
 else if op = 8 then let r := textP ws s; let t := textP ws r.2; let q := nameP ws t.2; (([q.1], [r.1, t.1], 0), q.2)
 else if op = 9 then let r := numberP ws s; let q := nameP ws r.2; (([q.1], [], r.1), q.2)
 else let q := nameP ws s; (([q.1], [], 0), q.2)
def stepP (ws : List WordT) (s : PS) : StepS × PS :=
 let a := nameP ws s
 let o := opP ws (markP ws cEq a.2)
 let t := tailP ws o.1 o.2
 (⟨a.1, o.1, t.1.1, t.1.2.1, t.1.2.2⟩, markP ws cSemi t.2)
def stepsF (ws : List WordT) : Nat → List StepS → PS → List StepS × PS
 | 0, acc, s => (acc, s)
 | f + 1, acc, s => if !s.2 && isNameP ws s then stepsF ws f (acc ++ [(stepP ws s).1]) (stepP ws s).2 else (acc, s)
def stepsP (ws : List WordT) (s : PS) : List StepS × PS := stepsF ws (ws.length + 1) [] s
def optP (ws : List WordT) (key : ByteArray) (s : PS) : List ByteArray × PS := if isKeyP ws key s then clauseP ws key s else ([], s)
def ruleP (ws : List WordT) (s : PS) : RuleS × PS :=
 let a := nameP ws (keyP ws kRule s)
 let i := optP ws kIn (markP ws cOpen a.2)
 let o := clauseP ws kOut i.2
 let f := optP ws kAfter o.2
 let t := stepsP ws f.2
 (⟨a.1, i.1, o.1, f.1, t.1⟩, markP ws cClose t.2)
def rulesF (ws : List WordT) : Nat → List RuleS → PS → List RuleS × PS
 | 0, acc, s => (acc, s)
 | f + 1, acc, s => if !s.2 && !isEndP ws s then rulesF ws f (acc ++ [(ruleP ws s).1]) (ruleP ws s).2 else (acc, s)
def rulesP (ws : List WordT) (s : PS) : List RuleS × PS := rulesF ws (2 * ws.length + 2) [] s
def fileS (l : List UInt8) : Except (Int × Int) (List RuleS) :=
 if 20000 < l.length then .error (4, -1) else
  match allS l with
  | .error p => .error (1, p)
  | .ok ws => let r := rulesP ws (0, false); if r.2.2 then .error (1, ((wAt ws r.2.1).2.1 : Int)) else .ok r.1
def EndsW (ws : List WordT) : Prop := ∀ k, k < ws.length → (wAt ws k).1 ≠ 4 → k + 1 < ws.length
theorem take_ge (ws : List WordT) (b : Bool) (s : PS) : s.1 ≤ (takeP ws b s).2.1 := by
 unfold takeP; split <;> simp
theorem take_yes {ws : List WordT} {b : Bool} {s : PS} (hs : s.2 = false) (hb : b = true) : takeP ws b s = (wTx ws s.1, (s.1 + 1, false)) := by
 unfold takeP; simp [hs, hb]
theorem take_no {ws : List WordT} {b : Bool} {s : PS} (h : s.2 = true ∨ b = false) : takeP ws b s = (⟨#[]⟩, (s.1, true)) := by
 unfold takeP; rw [if_pos (by rcases h with h | h <;> simp [h])]
theorem key_kind {ws : List WordT} {key : ByteArray} {s : PS} (h : isKeyP ws key s = true) : (wAt ws s.1).1 ≠ 4 := by
 unfold isKeyP at h; intro e; simp [e] at h
theorem name_kind {ws : List WordT} {s : PS} (h : isNameP ws s = true) : (wAt ws s.1).1 ≠ 4 := by
 unfold isNameP at h; intro e; simp [e] at h
theorem mark_kind {ws : List WordT} {c : ByteArray} {s : PS} (h : isMarkP ws c s = true) : (wAt ws s.1).1 ≠ 4 := by
 unfold isMarkP at h; intro e; simp [e] at h
end Go.Proofs.YtdhmeganlnpohaaGreatDoor
namespace Go.Proofs.YtdhmeganlnpohaaGreatDoor
open Go.RowKit
structure Fr (Av : Nat → Prop) (w w' : World) : Prop where
 os : w'.os = w.os
 tape : w'.tape = w.tape
 output : w'.output = w.output
 size : w.heap.size ≤ w'.heap.size
 block : ∀ k, k < w.heap.size → ¬ Av k → w'.heap[k]? = w.heap[k]?
theorem Fr.refl (Av : Nat → Prop) (w : World) : Fr Av w w := ⟨rfl, rfl, rfl, Nat.le_refl _, fun _ _ _ => rfl⟩
theorem Fr.trans {Av : Nat → Prop} {a b c : World} (h : Fr Av a b) (k : Fr Av b c) : Fr Av a c :=
 ⟨k.os.trans h.os, k.tape.trans h.tape, k.output.trans h.output, Nat.le_trans h.size k.size, fun i hi hn => (k.block i (Nat.lt_of_lt_of_le hi h.size) hn).trans (h.block i hi hn)⟩
theorem Fr.mono {Av Av' : Nat → Prop} {w w' : World} (h : Fr Av w w') (hm : ∀ k, k < w.heap.size → Av k → Av' k) : Fr Av' w w' :=
 ⟨h.os, h.tape, h.output, h.size, fun k hk hn => h.block k hk fun ha => hn (hm k hk ha)⟩
theorem fr_below {Av : Nat → Prop} {w w' : World} (h : Below w.heap.size w w') : Fr Av w w' := ⟨h.os, h.tape, h.output, h.size, fun k hk _ => h.block k hk⟩
theorem fr_alloc (Av : Nat → Prop) (w : World) (o : Obj) : Fr Av w (w.alloc o) := fr_below ((Below.refl _ _).alloc (Nat.le_refl _) _)
theorem fr_grown {Av : Nat → Prop} {w w' : World} {r : Option Nat} (h : w.grownBy w' r) (hr : ∀ k, r = some k → Av k) : Fr Av w w' :=
 ⟨h.os, h.tape, h.output, h.size, fun k hk hn => h.block k hk fun e => hn (hr k e.symm)⟩
theorem fr_set {Av : Nat → Prop} {w : World} {a : Addr} (ha : Av a.block) (u : Value) : Fr Av w (w.setCell a u) :=
 ⟨rfl, rfl, rfl, by simp [World.setCell], fun k _ hn => Below.heap_setCell _ _ _ _ fun e => hn (e ▸ ha)⟩
theorem fr_drew (Av : Nat → Prop) (w : World) : Fr Av w w.drew := ⟨rfl, rfl, rfl, Nat.le_refl _, fun _ _ _ => rfl⟩
theorem Fr.below {Av : Nat → Prop} {w w' : World} (h : Fr Av w w') {B : Nat} (hB : B ≤ w.heap.size) (hn : ∀ k, k < B → ¬ Av k) : Below B w w' :=
 ⟨h.os, h.tape, h.output, h.size, fun k hk => h.block k (by omega) (hn k hk)⟩
def RowA (Av : Nat → Prop) (w : World) (v : Value) (k : Nat) (rows : List (List Value)) : Prop :=
 IsRow w v k rows ∧ ∀ b, v.ownBlock = some b → b < w.heap.size ∧ ¬ Av b
theorem RowA.keep {Av : Nat → Prop} {w w' : World} {v : Value} {k : Nat} {rows : List (List Value)} (h : RowA Av w v k rows) (hf : Fr Av w w') : RowA Av w' v k rows := by
 obtain ⟨⟨a, c, rfl, h1, h1m, h2⟩, hb⟩ := h
 refine ⟨⟨a, c, rfl, h1, h1m, fun hne => ?_⟩, fun b e => ⟨Nat.lt_of_lt_of_le (hb b e).1 hf.size, (hb b e).2⟩⟩
 obtain ⟨b, o, rfl, h3, h4⟩ := h2 hne
 exact ⟨b, o, rfl, Nat.lt_of_lt_of_le h3 hf.size, fun j r hr i u hu => (World.cell?_of_block (w := w) (hf.block b h3 (hb b rfl).2)).trans (h4 j r hr i u hu)⟩
theorem RowA.mono {Av Av' : Nat → Prop} {w : World} {v : Value} {k : Nat} {rows : List (List Value)} (h : RowA Av w v k rows) (hm : ∀ b, b < w.heap.size → Av' b → Av b) : RowA Av' w v k rows :=
 ⟨h.1, fun b e => ⟨(h.2 b e).1, fun ha => (h.2 b e).2 (hm b (h.2 b e).1 ha)⟩⟩
theorem rowA_nil (Av : Nat → Prop) (w : World) (k : Nat) : RowA Av w (.slice none 0 0) k [] := ⟨⟨none, 0, rfl, by simp, by simp [maxLen], fun h => absurd rfl h⟩, fun b e => by cases e⟩
theorem rowA_own {w : World} {B k : Nat} {t : TypeId} {v : Value} {rows : List (List Value)} (h : w.ownsRow B t k v rows.length rows.flatten) (hk : ∀ r ∈ rows, r.length = k) : RowA (fun b => b < B) w v k rows :=
 ⟨row_own h hk, fun b e => ⟨(h.lt b e).2, by have := (h.lt b e).1; omega⟩⟩
def strRows (xs : List ByteArray) : List (List Value) := xs.map fun x => [.string x]
theorem strRows_flat (xs : List ByteArray) : (strRows xs).flatten = xs.map Value.string := by
 induction xs with
 | nil => rfl
 | cons x xs ih => simp [strRows] at ih ⊢; exact ih
theorem strRows_length (xs : List ByteArray) : (strRows xs).length = xs.length := by simp [strRows]
theorem strRows_len (xs : List ByteArray) : ∀ r ∈ strRows xs, r.length = 1 := by
 intro r hr
 obtain ⟨x, _, rfl⟩ := List.mem_map.1 hr
 rfl
def StrsA (Av : Nat → Prop) (w : World) (v : Value) (xs : List ByteArray) : Prop := RowA Av w v 1 (strRows xs)
theorem strsA_own {w : World} {B : Nat} {t : TypeId} {v : Value} {xs : List ByteArray} (h : w.ownsRow B t 1 v xs.length (xs.map Value.string)) : StrsA (fun b => b < B) w v xs := by
 refine rowA_own (t := t) ?_ (strRows_len xs)
 rw [strRows_flat, strRows_length]
 exact h
structure PSt (w : World) (p : Nat) (v : Value) (ws : List WordT) (s : PS) : Prop where
 blk : w.heap[p]? = some (.cells #[v, .int .i64 (s.1 : Int), .bool s.2] 188)
 row : RowA (fun b => b = p) w v 3 (wordRows ws)
 lt : s.1 < ws.length
 ends : EndsW ws
theorem PSt.p_lt {w : World} {p : Nat} {v : Value} {ws : List WordT} {s : PS} (h : PSt w p v ws s) : p < w.heap.size := by
 rcases Nat.lt_or_ge p w.heap.size with h' | h'
 ·exact h'
 ·have := h.blk; rw [Array.getElem?_eq_none h'] at this; cases this
theorem PSt.slice {w : World} {p : Nat} {v : Value} {ws : List WordT} {s : PS} (h : PSt w p v ws s) :
  ∃ b o c, v = .slice (some ⟨b, o, none⟩) ws.length c ∧ ws.length ≤ c ∧ c ≤ maxLen ∧ b < w.heap.size ∧ b ≠ p ∧
   w.cell? ⟨b, o + s.1 * 3, none⟩ = some (.int .i64 (wAt ws s.1).1) ∧ w.cell? ⟨b, o + s.1 * 3 + 1, none⟩ = some (.int .i64 ((wAt ws s.1).2.1 : Int)) ∧ w.cell? ⟨b, o + s.1 * 3 + 2, none⟩ = some (.string (wTx ws s.1)) := by
 obtain ⟨⟨⟨a, c, rfl, h1, h1m, h2⟩, h3⟩, hlt⟩ := And.intro h.row h.lt
 have hne : wordRows ws ≠ [] := by
  intro e
  have h0 : ws.length = 0 := by rw [← wordRows_length ws, e]; rfl
  omega
 obtain ⟨b, o, rfl, h4, h5⟩ := h2 hne
 rw [wordRows_length] at h1
 have hr : (wordRows ws)[s.1]? = some (wordRow (wAt ws s.1)) := by
  unfold wordRows wAt
  rw [List.getElem?_map, List.getD_eq_getElem?_getD, List.getElem?_eq_getElem hlt]
  rfl
 refine ⟨b, o, c, by rw [wordRows_length], h1, h1m, h4, (h3 b rfl).2, h5 _ _ hr 0 _ rfl, h5 _ _ hr 1 _ rfl, h5 _ _ hr 2 _ rfl⟩
theorem PSt.len {w : World} {p : Nat} {v : Value} {ws : List WordT} {s : PS} (h : PSt w p v ws s) : ws.length ≤ 9223372036854775807 := by
 obtain ⟨b, o, c, _, h1, h2, _⟩ := h.slice
 unfold maxLen at h2
 omega
theorem PSt.fr {w w' : World} {p : Nat} {v : Value} {ws : List WordT} {s : PS} {Av : Nat → Prop} (h : PSt w p v ws s) (hf : Fr Av w w') (hp : ¬ Av p) (hv : ∀ b, v.ownBlock = some b → ¬ Av b) : PSt w' p v ws s := by
 refine ⟨(hf.block p h.p_lt hp).trans h.blk, ?_, h.lt, h.ends⟩
 have h1 : RowA Av w v 3 (wordRows ws) := ⟨h.row.1, fun b e => ⟨(h.row.2 b e).1, hv b e⟩⟩
 have h2 := h1.keep hf
 exact ⟨h2.1, fun b e => ⟨(h2.2 b e).1, (h.row.2 b e).2⟩⟩
theorem PSt.below {w w' : World} {p : Nat} {v : Value} {ws : List WordT} {s : PS} (h : PSt w p v ws s) (hb : Below w.heap.size w w') : PSt w' p v ws s :=
 h.fr (Av := fun _ => False) (fr_below hb) (fun h => h) (fun _ _ h => h)
theorem PSt.alloc {w : World} {p : Nat} {v : Value} {ws : List WordT} {s : PS} (h : PSt w p v ws s) (o : Obj) : PSt (w.alloc o) p v ws s := h.below ((Below.refl _ _).alloc (Nat.le_refl _) _)
theorem PSt.cells {w : World} {p : Nat} {v : Value} {ws : List WordT} {s : PS} (h : PSt w p v ws s) :
  w.cell? ⟨p, 0, none⟩ = some v ∧ w.cell? ⟨p, 1, none⟩ = some (.int .i64 (s.1 : Int)) ∧ w.cell? ⟨p, 2, none⟩ = some (.bool s.2) ∧ w.frozen? ⟨p, 0, none⟩ = false ∧ w.frozen? ⟨p, 1, none⟩ = false ∧ w.frozen? ⟨p, 2, none⟩ = false := by
 simp [World.cell?, World.frozen?, h.blk]
end Go.Proofs.YtdhmeganlnpohaaGreatDoor
namespace Go.Proofs.YtdhmeganlnpohaaGreatDoor
open Go.RowKit
theorem results_c {P : Program} {fn : Func} {p : Tmp} {ty : TypeId} (h : fn.results = #[.cell p ty]) (tmps : Array Value) (w : World) (g : Nat) (t : TypeId) (cs : Array Value) (fr : Nat × Nat) (d : TypeDesc)
  (hp : tmps.getD p undef = .pointer (some ⟨g, 0, none⟩)) (hg : w.heap[g]? = some (.cells cs t fr))
  (hu : P.underlying ty = some d) (hd : (match d with | .struct _ | .array _ _ => true | _ => false) = true) (hi : (P.info? ty).map (·.size) = some cs.size) :
  (results fn tmps).run P w = .ok (.agg cs) w := results_cell_row h tmps w g t cs fr d hp hg hu hd hi
theorem fld0 (a b c : Value) (w : World) : Sem.run Tryz.prog (Instr.field 152 (.agg #[a, b, c]) 0) w = .ok a w := by
 unfold Instr.field; simp [go_sem, part, asAgg]
theorem fld1 (a b c : Value) (w : World) : Sem.run Tryz.prog (Instr.field 152 (.agg #[a, b, c]) 1) w = .ok b w := by
 unfold Instr.field; simp [go_sem, part, asAgg]
theorem fld2 (a b c : Value) (w : World) : Sem.run Tryz.prog (Instr.field 152 (.agg #[a, b, c]) 2) w = .ok c w := by
 unfold Instr.field; simp [go_sem, part, asAgg]
def wVal (ws : List WordT) (s : PS) : Value := .agg #[.int .i64 (wAt ws s.1).1, .int .i64 ((wAt ws s.1).2.1 : Int), .string (wTx ws s.1)]
set_option maxHeartbeats 1000000 in
set_option maxRecDepth 100000 in
theorem word_any (p : Nat) (v : Value) (ws : List WordT) (s : PS) (w : World) (h : PSt w p v ws s) :
  Calls Tryz.prog 167 #[.pointer (some ⟨p, 0, none⟩)] w fun e w' => e = .returned (wVal ws s) ∧ Below w.heap.size w w' := by
 obtain ⟨o0, ho0⟩ : ∃ o : Obj, o = .cells #[.int .i64 0, .int .i64 0, .string ⟨#[]⟩] 152 := ⟨_, rfl⟩
 have hA := h.alloc o0
 obtain ⟨c0, c1, c2, f0, f1, f2⟩ := hA.cells
 obtain ⟨b, o, c, rfl, hl, hm, hb, hbp, d0, d1, d2⟩ := hA.slice
 have hlt := h.lt
 have hi1 : (s.1 : Int) < (ws.length : Int) := by omega
 subst ho0
 unfold wVal
 clear hA h
 go_enter Tryz.func167, Tryz.ntmps167
 go_wp2_with fail
 go_region
 all_goals go_wp2
 all_goals refine bodyPost_ret (results_c rfl _ _ w.heap.size _ _ _ _ rfl (alloc_at w _) Tryz.underlying152 rfl (by kernel_rfl)) rfl ?_
 all_goals exact ⟨rfl, ((Below.refl _ _).alloc (Nat.le_refl _) _).drew⟩
theorem PSt.setFailed {w : World} {p : Nat} {v : Value} {ws : List WordT} {s : PS} (h : PSt w p v ws s) (b : Bool) : PSt (w.setCell ⟨p, 2, none⟩ (.bool b)) p v ws (s.1, b) :=
 ⟨heap_set 2 (.bool b) h.blk, h.row.keep (fr_set (a := ⟨p, 2, none⟩) (Av := fun b => b = p) rfl _), h.lt, h.ends⟩
theorem PSt.setNext {w : World} {p : Nat} {v : Value} {ws : List WordT} {s : PS} (h : PSt w p v ws s) {k : Nat} (hk : k < ws.length) (n : Int) (hn : n = (k : Int)) : PSt (w.setCell ⟨p, 1, none⟩ (.int .i64 n)) p v ws (k, s.2) := by
 subst hn
 exact ⟨heap_set 1 _ h.blk, h.row.keep (fr_set (a := ⟨p, 1, none⟩) (Av := fun b => b = p) rfl _), hk, h.ends⟩
def After (w w' : World) (p : Nat) (v : Value) (ws : List WordT) (s' : PS) : Prop := PSt w' p v ws s' ∧ Fr (fun b => b = p) w w'
theorem After.trans {a b c : World} {p : Nat} {v : Value} {ws : List WordT} {s s' : PS} (h : After a b p v ws s) (k : After b c p v ws s') : After a c p v ws s' := ⟨k.1, h.2.trans k.2⟩
theorem After.of_below {w w' : World} {p : Nat} {v : Value} {ws : List WordT} {s : PS} (h : PSt w p v ws s) (hb : Below w.heap.size w w') : After w w' p v ws s := ⟨h.below hb, fr_below hb⟩
set_option maxHeartbeats 1000000 in
set_option maxRecDepth 100000 in
theorem take_any (p : Nat) (v : Value) (ws : List WordT) (s : PS) (fits : Bool) (w : World) (h : PSt w p v ws s) (hf : fits = true → (wAt ws s.1).1 ≠ 4) :
  Calls Tryz.prog 296 #[.pointer (some ⟨p, 0, none⟩), .bool fits] w fun e w' => e = .returned (.string (takeP ws fits s).1) ∧ After w w' p v ws (takeP ws fits s).2 := by
 obtain ⟨c0, c1, c2, f0, f1, f2⟩ := h.cells
 have HP := Lib.hid h
 have hno := h.setFailed true
 have HNO := Lib.hid hno
 obtain ⟨k, fl⟩ := s
 cases fl
 ·cases fits
  ·rw [take_no (.inr rfl)]
   clear h hno
   go_enter Tryz.func296, Tryz.ntmps296
   go_wp2
   go_ret
   exact ⟨rfl, HNO.out, fr_set (a := ⟨p, 2, none⟩) (Av := fun b => b = p) rfl _⟩
  ·rw [take_yes rfl rfl]
   have hlt := h.ends _ h.lt (hf rfl)
   have hlen := h.len
   have hn : IntKind.i64.wrap ((k : Int) + 1) = ((k + 1 : Nat) : Int) := by
    rw [show ((k : Int) + 1) = ((k + 1 : Nat) : Int) by omega]
    exact IntWalk.i64_in _ (by simp only at hlt; omega)
   have cW := word_any p v ws (k, false) w h
   unfold wVal at cW
   clear hno h hf hlen
   go_enter Tryz.func296, Tryz.ntmps296
   go_wp2_with fail
   refine cW.mono ?_
   rintro e w2 ⟨rfl, hb2⟩
   have hP2 := HP.out.below hb2
   obtain ⟨d0, d1, d2, g0, g1, g2⟩ := hP2.cells
   have HP2 := Lib.hid hP2
   have HB2 := Lib.hid hb2
   clear hP2 hb2 c0 c1 c2 f0 f1 f2 cW
   have F2 := fld2
   go_wp2
   go_ret
   exact ⟨rfl, HP2.out.setNext hlt _ rfl, (fr_below HB2.out).trans (fr_set (a := ⟨p, 1, none⟩) (Av := fun b => b = p) rfl _)⟩
 ·rw [take_no (.inl rfl)]
  clear h hno
  go_enter Tryz.func296, Tryz.ntmps296
  go_wp2
  go_ret
  exact ⟨rfl, HNO.out, fr_set (a := ⟨p, 2, none⟩) (Av := fun b => b = p) rfl _⟩
end Go.Proofs.YtdhmeganlnpohaaGreatDoor
namespace Go.Proofs.YtdhmeganlnpohaaGreatDoor
open Go.RowKit
structure GP (p : Nat) (w : World) : Prop where
 glob : Glob w
 ops : ∀ (k : Nat) x, opTab[k]? = some x → w.cell? ⟨0, k, none⟩ = some (.string ⟨x.toArray⟩)
 l1 : 1 < p
 l2 : 2 < p
 l3 : 5 < p
 l4 : 6 < p
 l5 : 0 < p
theorem GP.below {p : Nat} {w w' : World} (h : GP p w) (hb : Below p w w') : GP p w' := by
 obtain ⟨⟨⟨m, hm⟩, ht, htop, ⟨t1, p1, h1⟩, ⟨t2, p2, h2⟩⟩, ho, l1, l2, l3, l4, l5⟩ := h
 exact ⟨⟨⟨m, (hb.cell l1).trans hm⟩, var?_below hb (by kernel_rfl) l2 ht, Nat.lt_of_lt_of_le htop hb.size, ⟨t1, p1, (hb.cell l3).trans h1⟩, ⟨t2, p2, (hb.cell l4).trans h2⟩⟩,
  fun k x hx => (hb.cell (p := ⟨0, k, none⟩) l5).trans (ho k x hx), l1, l2, l3, l4, l5⟩
theorem GP.fr {p : Nat} {w w' : World} (h : GP p w) (hp : p ≤ w.heap.size) (hf : Fr (fun b => b = p) w w') : GP p w' := h.below (hf.below hp fun k hk e => by omega)
theorem string_beq (a b : ByteArray) : (a.toList == b.toList) = decide (a.data.toList = b.data.toList) := by
 rw [Lib.toList_data, Lib.toList_data, Bool.eq_iff_iff]; simp
set_option maxHeartbeats 1000000 in
set_option maxRecDepth 100000 in
theorem op_any (t : ByteArray) (p : Nat) (w : World) (hg : GP p w) :
  Calls Tryz.prog 122 #[.string t] w fun e w' => e = .returned (.int .i64 (opNum t.data.toList : Nat)) ∧ w = w' := by
 have HO := Lib.hid hg.ops
 obtain ⟨E, hE⟩ : ∃ E, opNum t.data.toList = E := ⟨_, rfl⟩
 rw [hE]
 have HE := Lib.hid hE
 clear hE hg
 go_enter Tryz.func122, Tryz.ntmps122
 go_wp2
 go_loop [4] (fun i => ∃ k : Nat, i = .int .i64 k ∧ k ≤ 10 ∧ opGo (opTab.drop k) k t.data.toList = E) (fun i => 10 - (intOf i).toNat)
 case atStart => exact ⟨0, rfl, by omega, HE.out⟩
 case round =>
  obtain ⟨k, rfl, hk, hr⟩ := hrel
  have HR := Lib.hid hr
  clear hr
  by_cases hlt : k < 10
  ·obtain ⟨x, hx⟩ : ∃ x, opTab[k]? = some x := ⟨opTab[k]'(by simpa [opTab] using hlt), List.getElem?_eq_getElem _⟩
   have hc := HO.out k x hx
   have hd : opTab.drop k = x :: opTab.drop (k + 1) := by
    obtain ⟨hl, hg⟩ := List.getElem?_eq_some_iff.1 hx
    rw [List.drop_eq_getElem_cons hl, hg]
   have hstep := HR.out
   rw [hd] at hstep
   have hlt' : (k : Int) < 10 := by omega
   obtain ⟨X, hX⟩ : ∃ X : ByteArray, (⟨x.toArray⟩ : ByteArray) = X := ⟨_, rfl⟩
   have hXd : X.data.toList = x := by rw [← hX]
   rw [hX] at hc
   by_cases he : x = t.data.toList
   ·have hb : (X.toList == t.toList) = true := by rw [string_beq, hXd]; simp [he]
    have hE : k = E := by rw [← hstep]; simp [opGo, he]
    have HE2 := Lib.hid hE
    clear hE hstep hd hx he hX hXd
    go_wp2
    go_ret
    exact ⟨ret_int (by rw [HE2.out]), rfl⟩
   ·have hb : (X.toList == t.toList) = false := by rw [string_beq, hXd]; simp [he]
    have hE : opGo (opTab.drop (k + 1)) (k + 1) t.data.toList = E := by rw [← hstep]; simp [opGo, he]
    have HE2 := Lib.hid hE
    clear hE hstep hd hx he hX hXd
    go_wp2
    go_round
    case rel => exact ⟨k + 1, by go_num, by omega, HE2.out⟩
    case measure => simp [intOf]; omega
  ·have hk10 : k = 10 := by omega
   subst hk10
   have hE : 0 = E := HR.out
   have HE2 := Lib.hid hE
   clear hE
   go_wp2
   go_ret
   exact ⟨ret_int (by rw [← HE2.out]; rfl), rfl⟩
end Go.Proofs.YtdhmeganlnpohaaGreatDoor
namespace Go.Proofs.YtdhmeganlnpohaaGreatDoor
open Go.RowKit
theorem retx2_bool {a b : Bool} (h : a = b) : Ending.returned (.bool a) = .returned (.bool b) := by rw [h]
set_option maxHeartbeats 1000000 in
set_option maxRecDepth 100000 in
theorem p_isKey_any (p : Nat) (v : Value) (ws : List WordT) (s : PS) (key : ByteArray) (w : World) (h : PSt w p v ws s) :
  Calls Tryz.prog 272 #[.pointer (some ⟨p, 0, none⟩), .string key] w fun e w' => e = .returned (.bool (isKeyP ws key s)) ∧ Below w.heap.size w w' := by
 obtain ⟨r, hr⟩ : ∃ r, isKeyP ws key s = r := ⟨_, rfl⟩
 rw [hr]
 unfold isKeyP at hr
 have cW := fun w' (hb : Below w.heap.size w w') => word_any p v ws s w' (h.below hb)
 unfold wVal at cW
 obtain ⟨kd, hkd⟩ : ∃ kd, (wAt ws s.1).1 = kd := ⟨_, rfl⟩
 obtain ⟨tx, htx⟩ : ∃ tx, wTx ws s.1 = tx := ⟨_, rfl⟩
 rw [hkd, htx] at hr
 simp only [hkd, htx] at cW
 have CW := Lib.hid cW
 have F0 := fld0
 have F2 := fld2
 clear cW h hkd htx
 by_cases h1 : kd = 1
 ·subst h1
  have hr2 : (tx.toList == key.toList) = r := by rw [← hr]; simp
  clear hr
  go_enter Tryz.func272, Tryz.ntmps272
  go_wp2_with fail
  refine (CW.out _ (Below.refl _ _)).mono ?_
  rintro e w2 ⟨rfl, hb2⟩
  have HB2 := Lib.hid hb2
  clear hb2
  go_wp2_with fail
  refine (CW.out _ HB2.out).mono ?_
  rintro e w3 ⟨rfl, hb3⟩
  have HB3 := Lib.hid (HB2.out.trans (hb3.mono HB2.out.size))
  clear hb3
  go_wp2
  go_ret
  exact ⟨rfl, HB3.out⟩
 ·have hk : (kd == 1) = false := by simpa using h1
  have hr2 : false = r := by rw [← hr, hk]; rfl
  subst hr2
  clear hr
  go_enter Tryz.func272, Tryz.ntmps272
  go_wp2_with fail
  refine (CW.out _ (Below.refl _ _)).mono ?_
  rintro e w2 ⟨rfl, hb2⟩
  have HB2 := Lib.hid hb2
  clear hb2
  go_wp2
  go_ret
  exact ⟨rfl, HB2.out⟩
set_option maxHeartbeats 1000000 in
set_option maxRecDepth 100000 in
theorem p_isMark_any (p : Nat) (v : Value) (ws : List WordT) (s : PS) (key : ByteArray) (w : World) (h : PSt w p v ws s) :
  Calls Tryz.prog 298 #[.pointer (some ⟨p, 0, none⟩), .string key] w fun e w' => e = .returned (.bool (isMarkP ws key s)) ∧ Below w.heap.size w w' := by
 obtain ⟨r, hr⟩ : ∃ r, isMarkP ws key s = r := ⟨_, rfl⟩
 rw [hr]
 unfold isMarkP at hr
 have cW := fun w' (hb : Below w.heap.size w w') => word_any p v ws s w' (h.below hb)
 unfold wVal at cW
 obtain ⟨kd, hkd⟩ : ∃ kd, (wAt ws s.1).1 = kd := ⟨_, rfl⟩
 obtain ⟨tx, htx⟩ : ∃ tx, wTx ws s.1 = tx := ⟨_, rfl⟩
 rw [hkd, htx] at hr
 simp only [hkd, htx] at cW
 have CW := Lib.hid cW
 have F0 := fld0
 have F2 := fld2
 clear cW h hkd htx
 by_cases h1 : kd = 3
 ·subst h1
  have hr2 : (tx.toList == key.toList) = r := by rw [← hr]; simp
  clear hr
  go_enter Tryz.func298, Tryz.ntmps298
  go_wp2_with fail
  refine (CW.out _ (Below.refl _ _)).mono ?_
  rintro e w2 ⟨rfl, hb2⟩
  have HB2 := Lib.hid hb2
  clear hb2
  go_wp2_with fail
  refine (CW.out _ HB2.out).mono ?_
  rintro e w3 ⟨rfl, hb3⟩
  have HB3 := Lib.hid (HB2.out.trans (hb3.mono HB2.out.size))
  clear hb3
  go_wp2
  go_ret
  exact ⟨rfl, HB3.out⟩
 ·have hk : (kd == 3) = false := by simpa using h1
  have hr2 : false = r := by rw [← hr, hk]; rfl
  subst hr2
  clear hr
  go_enter Tryz.func298, Tryz.ntmps298
  go_wp2_with fail
  refine (CW.out _ (Below.refl _ _)).mono ?_
  rintro e w2 ⟨rfl, hb2⟩
  have HB2 := Lib.hid hb2
  clear hb2
  go_wp2
  go_ret
  exact ⟨rfl, HB2.out⟩
set_option maxHeartbeats 1000000 in
set_option maxRecDepth 100000 in
theorem p_isEnd_any (p : Nat) (v : Value) (ws : List WordT) (s : PS) (w : World) (h : PSt w p v ws s) :
  Calls Tryz.prog 216 #[.pointer (some ⟨p, 0, none⟩)] w fun e w' => e = .returned (.bool (isEndP ws s)) ∧ Below w.heap.size w w' := by
 have cW := word_any p v ws s w h
 unfold wVal at cW
 unfold isEndP
 have F0 := fld0
 clear h
 go_enter Tryz.func216, Tryz.ntmps216
 go_wp2_with fail
 refine cW.mono ?_
 rintro e w2 ⟨rfl, hb2⟩
 go_wp2
 go_ret
 exact ⟨rfl, hb2⟩
set_option maxHeartbeats 1000000 in
set_option maxRecDepth 100000 in
theorem p_isName_any (p : Nat) (v : Value) (ws : List WordT) (s : PS) (w : World) (h : PSt w p v ws s) (hg : GP p w) (hsz : ∀ k, k < ws.length → (wTx ws k).size ≤ maxLen) :
  Calls Tryz.prog 297 #[.pointer (some ⟨p, 0, none⟩)] w fun e w' => e = .returned (.bool (isNameP ws s)) ∧ Below w.heap.size w w' := by
 obtain ⟨r, hr⟩ : ∃ r, isNameP ws s = r := ⟨_, rfl⟩
 rw [hr]
 unfold isNameP at hr
 have cW := fun w' (hb : Below w.heap.size w w') => word_any p v ws s w' (h.below hb)
 have hs := hsz _ h.lt
 have hp := h.p_lt
 have cM := fun w' (hb : Below w.heap.size w w') => (hg.below (hb.mono (Nat.le_of_lt hp))).glob.max.elim fun m hm => may_any (wTx ws s.1) m w' hs hm
 unfold wVal at cW
 obtain ⟨kd, hkd⟩ : ∃ kd, (wAt ws s.1).1 = kd := ⟨_, rfl⟩
 obtain ⟨tx, htx⟩ : ∃ tx, wTx ws s.1 = tx := ⟨_, rfl⟩
 rw [hkd, htx] at hr
 simp only [hkd, htx] at cW cM
 have CW := Lib.hid cW
 have CM := Lib.hid cM
 have F0 := fld0
 have F2 := fld2
 clear cW h hkd htx cM hg hsz hs hp
 by_cases h1 : kd = 1
 ·subst h1
  have hr2 : okName tx.data.toList = r := by rw [← hr]; simp
  have HR := Lib.hid hr2
  clear hr hr2
  go_enter Tryz.func297, Tryz.ntmps297
  go_wp2_with fail
  refine (CW.out _ (Below.refl _ _)).mono ?_
  rintro e w2 ⟨rfl, hb2⟩
  have HB2 := Lib.hid hb2
  clear hb2
  go_wp2_with fail
  refine (CW.out _ HB2.out).mono ?_
  rintro e w3 ⟨rfl, hb3⟩
  have HB3 := Lib.hid (HB2.out.trans (hb3.mono HB2.out.size))
  clear hb3
  go_wp2_with fail
  refine (CM.out _ HB3.out).mono ?_
  rintro e w4 ⟨rfl, hb4⟩
  have HB4 := Lib.hid (HB3.out.trans (hb4.mono HB3.out.size))
  clear hb4
  go_wp2
  go_ret
  exact ⟨retx2_bool HR.out, HB4.out⟩
 ·have hk : (kd == 1) = false := by simpa using h1
  have hr2 : false = r := by rw [← hr, hk]; rfl
  subst hr2
  clear hr
  go_enter Tryz.func297, Tryz.ntmps297
  go_wp2_with fail
  refine (CW.out _ (Below.refl _ _)).mono ?_
  rintro e w2 ⟨rfl, hb2⟩
  have HB2 := Lib.hid hb2
  clear hb2
  go_wp2
  go_ret
  exact ⟨rfl, HB2.out⟩
end Go.Proofs.YtdhmeganlnpohaaGreatDoor
