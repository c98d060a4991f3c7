/- The rules of a rule file, as plain functions on a list of words; no program is spoken of. What a call leaves as it was, rows that stay readable, and the reader's own state in memory. Contracts of package parse: the reader's smallest steps. Contracts of package parse: what the reader asks of the word at hand, and what it takes. Contracts of package parse: what the reader asks of the word at hand, and what it takes. Contracts of package parse: key, mark, name, text, number, op. Contracts of package parse: names. Contracts of package parse: clause. Contracts of package parse: step. An append that tells whose the new row is; lists of records; the contract of the reader's steps. Contract of package parse: steps. Contracts of package parse: rule. Contract of package parse: rules. Contract of package parse: File. -/
import Derived.Test.YtlmnabhhgplhnaaGreatDoorMlex
import Derived.Test.YtlmnabhhgplhnaaGreatDoorMwalk
import Derived.Laws.OwnMore
import Derived.Laws.AppendOwn
import Derived.OwnWalk
import Derived.ArgAppend
namespace Go.Proofs.YtlmnabhhgplhnaaGreatDoor

/-- Where the reader stands, and whether it has failed. -/
abbrev PS := Nat × Bool
def wAt (ws : List WordT) (k : Nat) : WordT := ws.getD k (4, 0, [])
def wTx (ws : List WordT) (k : Nat) : ByteArray := ⟨(wAt ws k).2.2.toArray⟩
def takeP (ws : List WordT) (fits : Bool) (s : PS) : ByteArray × PS := if s.2 || !fits then (⟨#[]⟩, (s.1, true)) else (wTx ws s.1, (s.1 + 1, s.2))
def isKeyP (ws : List WordT) (key : ByteArray) (s : PS) : Bool := (wAt ws s.1).1 == 1 && (wTx ws s.1).toList == key.toList
def isNameP (ws : List WordT) (s : PS) : Bool := (wAt ws s.1).1 == 1 && okName (wTx ws s.1).data.toList
def isMarkP (ws : List WordT) (c : ByteArray) (s : PS) : Bool := (wAt ws s.1).1 == 3 && (wTx ws s.1).toList == c.toList
def isEndP (ws : List WordT) (s : PS) : Bool := (wAt ws s.1).1 == 4
def keyP (ws : List WordT) (key : ByteArray) (s : PS) : PS := (takeP ws (isKeyP ws key s) s).2
def markP (ws : List WordT) (c : ByteArray) (s : PS) : PS := (takeP ws (isMarkP ws c s) s).2
def nameP (ws : List WordT) (s : PS) : ByteArray × PS := takeP ws (isNameP ws s) s
def textP (ws : List WordT) (s : PS) : ByteArray × PS := takeP ws ((wAt ws s.1).1 == 2) s
def numP (ws : List WordT) (s : PS) : Int × Bool := getNum (wTx ws s.1).data.toList 2000
def numberP (ws : List WordT) (s : PS) : Int × PS := ((numP ws s).1, (takeP ws ((numP ws s).2 && (wAt ws s.1).1 == 1) s).2)

/-- The commands' names, by their numbers. -/
def opTab : List (List UInt8) := [[], [99, 111, 112, 121], [110, 101, 101, 100], [115, 111, 114, 116], [99, 111, 117, 110, 116], [99, 111, 110, 99, 97, 116], [108, 105, 116, 101, 114, 97, 108], [115, 101, 108, 101, 99, 116], [114, 101, 112, 108, 97, 99, 101], [112, 114, 101, 102, 105, 120]]
def opGo : List (List UInt8) → Nat → List UInt8 → Nat
  | [], _, _ => 0
  | x :: r, k, t => if x = t then k else opGo r (k + 1) t
def opNum (t : List UInt8) : Nat := opGo opTab 0 t
def opP (ws : List WordT) (s : PS) : Int × PS := ((opNum (wTx ws s.1).data.toList : Nat), (takeP ws (decide (opNum (wTx ws s.1).data.toList ≠ 0) && (wAt ws s.1).1 == 1) s).2)

def cComma : ByteArray := ⟨#[44]⟩
def cSemi : ByteArray := ⟨#[59]⟩
def cEq : ByteArray := ⟨#[61]⟩
def cOpen : ByteArray := ⟨#[123]⟩
def cClose : ByteArray := ⟨#[125]⟩
def kRule : ByteArray := ⟨#[114, 117, 108, 101]⟩
def kIn : ByteArray := ⟨#[105, 110]⟩
def kOut : ByteArray := ⟨#[111, 117, 116]⟩
def kAfter : ByteArray := ⟨#[97, 102, 116, 101, 114]⟩

def namesF (ws : List WordT) : Nat → List ByteArray → PS → List ByteArray × PS
  | 0, acc, s => (acc, s)
  | f + 1, acc, s => if !s.2 && isNameP ws s then namesF ws f (acc ++ [(nameP ws s).1]) (nameP ws s).2 else (acc, s)
def namesP (ws : List WordT) (s : PS) : List ByteArray × PS := namesF ws (ws.length + 1) [] s
def moreF (ws : List WordT) : Nat → List ByteArray → PS → List ByteArray × PS
  | 0, acc, s => (acc, s)
  | f + 1, acc, s => if !s.2 && isMarkP ws cComma s then moreF ws f (acc ++ [(nameP ws (markP ws cComma s)).1]) (nameP ws (markP ws cComma s)).2 else (acc, s)
def moreP (ws : List WordT) (x : ByteArray) (s : PS) : List ByteArray × PS := moreF ws (ws.length + 1) [x] s
def clauseP (ws : List WordT) (key : ByteArray) (s : PS) : List ByteArray × PS :=
  let a := nameP ws (keyP ws key s)
  let r := moreP ws a.1 a.2
  (r.1, markP ws cSemi r.2)

structure StepS where
  out : ByteArray
  op : Int
  args : List ByteArray
  lits : List ByteArray
  n : Int
structure RuleS where
  name : ByteArray
  ins : List ByteArray
  outs : List ByteArray
  after : List ByteArray
  steps : List StepS

/-- What stands behind a command's name: names, strings, a number. -/
def tailP (ws : List WordT) (op : Int) (s : PS) : (List ByteArray × List ByteArray × Int) × PS :=
  if op = 5 then let r := namesP ws s; ((r.1, [], 0), r.2)
  else if op = 6 then let r := textP ws s; (([], [r.1], 0), r.2)
  else if op = 7 then let r := textP ws s; let q := nameP ws r.2; (([q.1], [r.1], 0), q.2)
  else if op = 8 then let r := textP ws s; let t := textP ws r.2; let q := nameP ws t.2; (([q.1], [r.1, t.1], 0), q.2)
  else if op = 9 then let r := numberP ws s; let q := nameP ws r.2; (([q.1], [], r.1), q.2)
  else let q := nameP ws s; (([q.1], [], 0), q.2)
def stepP (ws : List WordT) (s : PS) : StepS × PS :=
  let a := nameP ws s
  let o := opP ws (markP ws cEq a.2)
  let t := tailP ws o.1 o.2
  (⟨a.1, o.1, t.1.1, t.1.2.1, t.1.2.2⟩, markP ws cSemi t.2)
def stepsF (ws : List WordT) : Nat → List StepS → PS → List StepS × PS
  | 0, acc, s => (acc, s)
  | f + 1, acc, s => if !s.2 && isNameP ws s then stepsF ws f (acc ++ [(stepP ws s).1]) (stepP ws s).2 else (acc, s)
def stepsP (ws : List WordT) (s : PS) : List StepS × PS := stepsF ws (ws.length + 1) [] s
def optP (ws : List WordT) (key : ByteArray) (s : PS) : List ByteArray × PS := if isKeyP ws key s then clauseP ws key s else ([], s)
def ruleP (ws : List WordT) (s : PS) : RuleS × PS :=
  let a := nameP ws (keyP ws kRule s)
  let i := optP ws kIn (markP ws cOpen a.2)
  let o := clauseP ws kOut i.2
  let f := optP ws kAfter o.2
  let t := stepsP ws f.2
  (⟨a.1, i.1, o.1, f.1, t.1⟩, markP ws cClose t.2)
def rulesF (ws : List WordT) : Nat → List RuleS → PS → List RuleS × PS
  | 0, acc, s => (acc, s)
  | f + 1, acc, s => if !s.2 && !isEndP ws s then rulesF ws f (acc ++ [(ruleP ws s).1]) (ruleP ws s).2 else (acc, s)
def rulesP (ws : List WordT) (s : PS) : List RuleS × PS := rulesF ws (2 * ws.length + 2) [] s

/-- A rule file's rules, or the error. -/
def fileS (l : List UInt8) : Except (Int × Int) (List RuleS) :=
  if 20000 < l.length then .error (4, -1) else
    match allS l with
    | .error p => .error (1, p)
    | .ok ws => let r := rulesP ws (0, false); if r.2.2 then .error (1, ((wAt ws r.2.1).2.1 : Int)) else .ok r.1

/-! ### Nothing goes back; an end is never taken -/
/-- The last word, and no other, is the end. -/
def EndsW (ws : List WordT) : Prop := ∀ k, k < ws.length → (wAt ws k).1 ≠ 4 → k + 1 < ws.length
theorem take_ge (ws : List WordT) (b : Bool) (s : PS) : s.1 ≤ (takeP ws b s).2.1 := by
  unfold takeP; split <;> simp
theorem take_yes {ws : List WordT} {b : Bool} {s : PS} (hs : s.2 = false) (hb : b = true) : takeP ws b s = (wTx ws s.1, (s.1 + 1, false)) := by
  unfold takeP; simp [hs, hb]
theorem take_no {ws : List WordT} {b : Bool} {s : PS} (h : s.2 = true ∨ b = false) : takeP ws b s = (⟨#[]⟩, (s.1, true)) := by
  unfold takeP; rw [if_pos (by rcases h with h | h <;> simp [h])]
theorem take_lt {ws : List WordT} {b : Bool} {s : PS} (hE : EndsW ws) (h : s.1 < ws.length) (hb : b = true → (wAt ws s.1).1 ≠ 4) : (takeP ws b s).2.1 < ws.length := by
  unfold takeP
  split
  · exact h
  · rename_i hc
    simp only [Bool.or_eq_true, Bool.not_eq_true', not_or, Bool.not_eq_true, Bool.not_eq_false] at hc
    exact hE _ h (hb hc.2)
theorem key_kind {ws : List WordT} {key : ByteArray} {s : PS} (h : isKeyP ws key s = true) : (wAt ws s.1).1 ≠ 4 := by
  unfold isKeyP at h; intro e; simp [e] at h
theorem name_kind {ws : List WordT} {s : PS} (h : isNameP ws s = true) : (wAt ws s.1).1 ≠ 4 := by
  unfold isNameP at h; intro e; simp [e] at h
theorem mark_kind {ws : List WordT} {c : ByteArray} {s : PS} (h : isMarkP ws c s = true) : (wAt ws s.1).1 ≠ 4 := by
  unfold isMarkP at h; intro e; simp [e] at h
end Go.Proofs.YtlmnabhhgplhnaaGreatDoor
namespace Go.Proofs.YtlmnabhhgplhnaaGreatDoor
open Go.RowKit

/-- Every block but those of Av is as it was. -/
structure Fr (Av : Nat → Prop) (w w' : World) : Prop where
  os : w'.os = w.os
  tape : w'.tape = w.tape
  output : w'.output = w.output
  size : w.heap.size ≤ w'.heap.size
  block : ∀ k, k < w.heap.size → ¬ Av k → w'.heap[k]? = w.heap[k]?
theorem Fr.refl (Av : Nat → Prop) (w : World) : Fr Av w w := ⟨rfl, rfl, rfl, Nat.le_refl _, fun _ _ _ => rfl⟩
theorem Fr.trans {Av : Nat → Prop} {a b c : World} (h : Fr Av a b) (k : Fr Av b c) : Fr Av a c :=
  ⟨k.os.trans h.os, k.tape.trans h.tape, k.output.trans h.output, Nat.le_trans h.size k.size, fun i hi hn => (k.block i (Nat.lt_of_lt_of_le hi h.size) hn).trans (h.block i hi hn)⟩
theorem Fr.mono {Av Av' : Nat → Prop} {w w' : World} (h : Fr Av w w') (hm : ∀ k, k < w.heap.size → Av k → Av' k) : Fr Av' w w' :=
  ⟨h.os, h.tape, h.output, h.size, fun k hk hn => h.block k hk fun ha => hn (hm k hk ha)⟩
theorem fr_below {Av : Nat → Prop} {w w' : World} (h : Below w.heap.size w w') : Fr Av w w' := ⟨h.os, h.tape, h.output, h.size, fun k hk _ => h.block k hk⟩
theorem fr_alloc (Av : Nat → Prop) (w : World) (o : Obj) : Fr Av w (w.alloc o) := fr_below ((Below.refl _ _).alloc (Nat.le_refl _) _)
theorem fr_grown {Av : Nat → Prop} {w w' : World} {r : Option Nat} (h : w.grownBy w' r) (hr : ∀ k, r = some k → Av k) : Fr Av w w' :=
  ⟨h.os, h.tape, h.output, h.size, fun k hk hn => h.block k hk fun e => hn (hr k e.symm)⟩
theorem fr_set {Av : Nat → Prop} {w : World} {a : Addr} (ha : Av a.block) (u : Value) : Fr Av w (w.setCell a u) :=
  ⟨rfl, rfl, rfl, by simp [World.setCell], fun k _ hn => Below.heap_setCell _ _ _ _ fun e => hn (e ▸ ha)⟩
theorem fr_drew (Av : Nat → Prop) (w : World) : Fr Av w w.drew := ⟨rfl, rfl, rfl, Nat.le_refl _, fun _ _ _ => rfl⟩
theorem Fr.below {Av : Nat → Prop} {w w' : World} (h : Fr Av w w') {B : Nat} (hB : B ≤ w.heap.size) (hn : ∀ k, k < B → ¬ Av k) : Below B w w' :=
  ⟨h.os, h.tape, h.output, h.size, fun k hk => h.block k (by omega) (hn k hk)⟩

/-- A row that can be read and lies in no block of Av. -/
def RowA (Av : Nat → Prop) (w : World) (v : Value) (k : Nat) (rows : List (List Value)) : Prop :=
  IsRow w v k rows ∧ ∀ b, v.ownBlock = some b → b < w.heap.size ∧ ¬ Av b
theorem RowA.keep {Av : Nat → Prop} {w w' : World} {v : Value} {k : Nat} {rows : List (List Value)} (h : RowA Av w v k rows) (hf : Fr Av w w') : RowA Av w' v k rows := by
  obtain ⟨⟨a, c, rfl, h1, h1m, h2⟩, hb⟩ := h
  refine ⟨⟨a, c, rfl, h1, h1m, fun hne => ?_⟩, fun b e => ⟨Nat.lt_of_lt_of_le (hb b e).1 hf.size, (hb b e).2⟩⟩
  obtain ⟨b, o, rfl, h3, h4⟩ := h2 hne
  exact ⟨b, o, rfl, Nat.lt_of_lt_of_le h3 hf.size, fun j r hr i u hu => (World.cell?_of_block (w := w) (hf.block b h3 (hb b rfl).2)).trans (h4 j r hr i u hu)⟩
theorem RowA.mono {Av Av' : Nat → Prop} {w : World} {v : Value} {k : Nat} {rows : List (List Value)} (h : RowA Av w v k rows) (hm : ∀ b, b < w.heap.size → Av' b → Av b) : RowA Av' w v k rows :=
  ⟨h.1, fun b e => ⟨(h.2 b e).1, fun ha => (h.2 b e).2 (hm b (h.2 b e).1 ha)⟩⟩
theorem rowA_nil (Av : Nat → Prop) (w : World) (k : Nat) : RowA Av w (.slice none 0 0) k [] := ⟨⟨none, 0, rfl, by simp, by simp [maxLen], fun h => absurd rfl h⟩, fun b e => by cases e⟩
theorem rowA_own {w : World} {B k : Nat} {t : TypeId} {v : Value} {rows : List (List Value)} (h : w.ownsRow B t k v rows.length rows.flatten) (hk : ∀ r ∈ rows, r.length = k) : RowA (fun b => b < B) w v k rows :=
  ⟨row_own h hk, fun b e => ⟨(h.lt b e).2, by have := (h.lt b e).1; omega⟩⟩

def strRows (xs : List ByteArray) : List (List Value) := xs.map fun x => [.string x]
theorem strRows_flat (xs : List ByteArray) : (strRows xs).flatten = xs.map Value.string := by
  induction xs with
  | nil => rfl
  | cons x xs ih => simp [strRows] at ih ⊢; exact ih
theorem strRows_length (xs : List ByteArray) : (strRows xs).length = xs.length := by simp [strRows]
theorem strRows_len (xs : List ByteArray) : ∀ r ∈ strRows xs, r.length = 1 := by
  intro r hr
  obtain ⟨x, _, rfl⟩ := List.mem_map.1 hr
  rfl
def StrsA (Av : Nat → Prop) (w : World) (v : Value) (xs : List ByteArray) : Prop := RowA Av w v 1 (strRows xs)
theorem strsA_own {w : World} {B : Nat} {t : TypeId} {v : Value} {xs : List ByteArray} (h : w.ownsRow B t 1 v xs.length (xs.map Value.string)) : StrsA (fun b => b < B) w v xs := by
  refine rowA_own (t := t) ?_ (strRows_len xs)
  rw [strRows_flat, strRows_length]
  exact h

/-- The reader: its block, its words, where it stands. -/
structure PSt (w : World) (p : Nat) (v : Value) (ws : List WordT) (s : PS) : Prop where
  blk : w.heap[p]? = some (.cells #[v, .int .i64 (s.1 : Int), .bool s.2] 67)
  row : RowA (fun b => b = p) w v 3 (wordRows ws)
  lt : s.1 < ws.length
  ends : EndsW ws
theorem PSt.p_lt {w : World} {p : Nat} {v : Value} {ws : List WordT} {s : PS} (h : PSt w p v ws s) : p < w.heap.size := by
  rcases Nat.lt_or_ge p w.heap.size with h' | h'
  · exact h'
  · have := h.blk; rw [Array.getElem?_eq_none h'] at this; cases this
/-- The words' slice, as the reader holds it. -/
theorem PSt.slice {w : World} {p : Nat} {v : Value} {ws : List WordT} {s : PS} (h : PSt w p v ws s) :
    ∃ b o c, v = .slice (some ⟨b, o, none⟩) ws.length c ∧ ws.length ≤ c ∧ c ≤ maxLen ∧ b < w.heap.size ∧ b ≠ p ∧
      w.cell? ⟨b, o + s.1 * 3, none⟩ = some (.int .i64 (wAt ws s.1).1) ∧ w.cell? ⟨b, o + s.1 * 3 + 1, none⟩ = some (.int .i64 ((wAt ws s.1).2.1 : Int)) ∧ w.cell? ⟨b, o + s.1 * 3 + 2, none⟩ = some (.string (wTx ws s.1)) := by
  obtain ⟨⟨⟨a, c, rfl, h1, h1m, h2⟩, h3⟩, hlt⟩ := And.intro h.row h.lt
  have hne : wordRows ws ≠ [] := by
    intro e
    have h0 : ws.length = 0 := by rw [← wordRows_length ws, e]; rfl
    omega
  obtain ⟨b, o, rfl, h4, h5⟩ := h2 hne
  rw [wordRows_length] at h1
  have hr : (wordRows ws)[s.1]? = some (wordRow (wAt ws s.1)) := by
    unfold wordRows wAt
    rw [List.getElem?_map, List.getD_eq_getElem?_getD, List.getElem?_eq_getElem hlt]
    rfl
  refine ⟨b, o, c, by rw [wordRows_length], h1, h1m, h4, (h3 b rfl).2, h5 _ _ hr 0 _ rfl, h5 _ _ hr 1 _ rfl, h5 _ _ hr 2 _ rfl⟩
theorem PSt.len {w : World} {p : Nat} {v : Value} {ws : List WordT} {s : PS} (h : PSt w p v ws s) : ws.length ≤ 9223372036854775807 := by
  obtain ⟨b, o, c, _, h1, h2, _⟩ := h.slice
  unfold maxLen at h2
  omega
theorem PSt.fr {w w' : World} {p : Nat} {v : Value} {ws : List WordT} {s : PS} {Av : Nat → Prop} (h : PSt w p v ws s) (hf : Fr Av w w') (hp : ¬ Av p) (hv : ∀ b, v.ownBlock = some b → ¬ Av b) : PSt w' p v ws s := by
  refine ⟨(hf.block p h.p_lt hp).trans h.blk, ?_, h.lt, h.ends⟩
  have h1 : RowA Av w v 3 (wordRows ws) := ⟨h.row.1, fun b e => ⟨(h.row.2 b e).1, hv b e⟩⟩
  have h2 := h1.keep hf
  exact ⟨h2.1, fun b e => ⟨(h2.2 b e).1, (h.row.2 b e).2⟩⟩
theorem PSt.below {w w' : World} {p : Nat} {v : Value} {ws : List WordT} {s : PS} (h : PSt w p v ws s) (hb : Below w.heap.size w w') : PSt w' p v ws s :=
  h.fr (Av := fun _ => False) (fr_below hb) (fun h => h) (fun _ _ h => h)
theorem PSt.alloc {w : World} {p : Nat} {v : Value} {ws : List WordT} {s : PS} (h : PSt w p v ws s) (o : Obj) : PSt (w.alloc o) p v ws s := h.below ((Below.refl _ _).alloc (Nat.le_refl _) _)
/-- The reader's cells. -/
theorem PSt.cells {w : World} {p : Nat} {v : Value} {ws : List WordT} {s : PS} (h : PSt w p v ws s) :
    w.cell? ⟨p, 0, none⟩ = some v ∧ w.cell? ⟨p, 1, none⟩ = some (.int .i64 (s.1 : Int)) ∧ w.cell? ⟨p, 2, none⟩ = some (.bool s.2) ∧ w.frozen? ⟨p, 0, none⟩ = false ∧ w.frozen? ⟨p, 1, none⟩ = false ∧ w.frozen? ⟨p, 2, none⟩ = false := by
  simp [World.cell?, World.frozen?, h.blk]
end Go.Proofs.YtlmnabhhgplhnaaGreatDoor
namespace Go.Proofs.YtlmnabhhgplhnaaGreatDoor
open Go.RowKit

theorem results_c {P : Program} {fn : Func} {p : Tmp} {ty : TypeId} (h : fn.results = #[.cell p ty]) (tmps : Array Value) (w : World) (g : Nat) (t : TypeId) (cs : Array Value) (fr : Nat × Nat) (d : TypeDesc)
    (hp : tmps.getD p undef = .pointer (some ⟨g, 0, none⟩)) (hg : w.heap[g]? = some (.cells cs t fr))
    (hu : P.underlying ty = some d) (hd : (match d with | .struct _ | .array _ _ => true | _ => false) = true) (hi : (P.info? ty).map (·.size) = some cs.size) :
    (results fn tmps).run P w = .ok (.agg cs) w := results_cell_row h tmps w g t cs fr d hp hg hu hd hi

/-- A word's fields. -/
theorem fld0 (a b c : Value) (w : World) : Sem.run Tryz.prog (Instr.field 46 (.agg #[a, b, c]) 0) w = .ok a w := by
  unfold Instr.field; simp [go_sem, part, asAgg]
theorem fld1 (a b c : Value) (w : World) : Sem.run Tryz.prog (Instr.field 46 (.agg #[a, b, c]) 1) w = .ok b w := by
  unfold Instr.field; simp [go_sem, part, asAgg]
theorem fld2 (a b c : Value) (w : World) : Sem.run Tryz.prog (Instr.field 46 (.agg #[a, b, c]) 2) w = .ok c w := by
  unfold Instr.field; simp [go_sem, part, asAgg]

/-- The word at hand, as a value. -/
def wVal (ws : List WordT) (s : PS) : Value := .agg #[.int .i64 (wAt ws s.1).1, .int .i64 ((wAt ws s.1).2.1 : Int), .string (wTx ws s.1)]

set_option maxHeartbeats 1000000 in
set_option maxRecDepth 100000 in
theorem word_any (p : Nat) (v : Value) (ws : List WordT) (s : PS) (w : World) (h : PSt w p v ws s) :
    Calls Tryz.prog 32 #[.pointer (some ⟨p, 0, none⟩)] w fun e w' => e = .returned (wVal ws s) ∧ Below w.heap.size w w' := by
  obtain ⟨o0, ho0⟩ : ∃ o : Obj, o = .cells #[.int .i64 0, .int .i64 0, .string ⟨#[]⟩] 46 := ⟨_, rfl⟩
  have hA := h.alloc o0
  obtain ⟨c0, c1, c2, f0, f1, f2⟩ := hA.cells
  obtain ⟨b, o, c, rfl, hl, hm, hb, hbp, d0, d1, d2⟩ := hA.slice
  have hlt := h.lt
  have hi1 : (s.1 : Int) < (ws.length : Int) := by omega
  subst ho0
  unfold wVal
  clear hA h
  go_enter Tryz.func32, Tryz.ntmps32
  go_wp2_with fail
  go_region
  all_goals go_wp2
  all_goals refine bodyPost_ret (results_c rfl _ _ w.heap.size _ _ _ _ rfl (alloc_at w _) Tryz.underlying46 rfl (by kernel_rfl)) rfl ?_
  all_goals exact ⟨rfl, ((Below.refl _ _).alloc (Nat.le_refl _) _).drew⟩

theorem PSt.setFailed {w : World} {p : Nat} {v : Value} {ws : List WordT} {s : PS} (h : PSt w p v ws s) (b : Bool) : PSt (w.setCell ⟨p, 2, none⟩ (.bool b)) p v ws (s.1, b) :=
  ⟨heap_set 2 (.bool b) h.blk, h.row.keep (fr_set (a := ⟨p, 2, none⟩) (Av := fun b => b = p) rfl _), h.lt, h.ends⟩
theorem PSt.setNext {w : World} {p : Nat} {v : Value} {ws : List WordT} {s : PS} (h : PSt w p v ws s) {k : Nat} (hk : k < ws.length) (n : Int) (hn : n = (k : Int)) : PSt (w.setCell ⟨p, 1, none⟩ (.int .i64 n)) p v ws (k, s.2) := by
  subst hn
  exact ⟨heap_set 1 _ h.blk, h.row.keep (fr_set (a := ⟨p, 1, none⟩) (Av := fun b => b = p) rfl _), hk, h.ends⟩

/-- What a step of the reader leaves: its new state, all other memory as it was. -/
def After (w w' : World) (p : Nat) (v : Value) (ws : List WordT) (s' : PS) : Prop := PSt w' p v ws s' ∧ Fr (fun b => b = p) w w'
theorem After.trans {a b c : World} {p : Nat} {v : Value} {ws : List WordT} {s s' : PS} (h : After a b p v ws s) (k : After b c p v ws s') : After a c p v ws s' := ⟨k.1, h.2.trans k.2⟩
theorem After.of_below {w w' : World} {p : Nat} {v : Value} {ws : List WordT} {s : PS} (h : PSt w p v ws s) (hb : Below w.heap.size w w') : After w w' p v ws s := ⟨h.below hb, fr_below hb⟩

set_option maxHeartbeats 1000000 in
set_option maxRecDepth 100000 in
theorem take_any (p : Nat) (v : Value) (ws : List WordT) (s : PS) (fits : Bool) (w : World) (h : PSt w p v ws s) (hf : fits = true → (wAt ws s.1).1 ≠ 4) :
    Calls Tryz.prog 125 #[.pointer (some ⟨p, 0, none⟩), .bool fits] w fun e w' => e = .returned (.string (takeP ws fits s).1) ∧ After w w' p v ws (takeP ws fits s).2 := by
  obtain ⟨c0, c1, c2, f0, f1, f2⟩ := h.cells
  have HP := Lib.hid h
  have hno := h.setFailed true
  have HNO := Lib.hid hno
  obtain ⟨k, fl⟩ := s
  cases fl
  · cases fits
    · rw [take_no (.inr rfl)]
      clear h hno
      go_enter Tryz.func125, Tryz.ntmps125
      go_wp2
      go_ret
      exact ⟨rfl, HNO.out, fr_set (a := ⟨p, 2, none⟩) (Av := fun b => b = p) rfl _⟩
    · rw [take_yes rfl rfl]
      have hlt := h.ends _ h.lt (hf rfl)
      have hlen := h.len
      have hn : IntKind.i64.wrap ((k : Int) + 1) = ((k + 1 : Nat) : Int) := by
        rw [show ((k : Int) + 1) = ((k + 1 : Nat) : Int) by omega]
        exact IntWalk.i64_in _ (by simp only at hlt; omega)
      have cW := word_any p v ws (k, false) w h
      unfold wVal at cW
      clear hno h hf hlen
      go_enter Tryz.func125, Tryz.ntmps125
      go_wp2_with fail
      refine cW.mono ?_
      rintro e w2 ⟨rfl, hb2⟩
      have hP2 := HP.out.below hb2
      obtain ⟨d0, d1, d2, g0, g1, g2⟩ := hP2.cells
      have HP2 := Lib.hid hP2
      have HB2 := Lib.hid hb2
      clear hP2 hb2 c0 c1 c2 f0 f1 f2 cW
      have F2 := fld2
      go_wp2
      go_ret
      exact ⟨rfl, HP2.out.setNext hlt _ rfl, (fr_below HB2.out).trans (fr_set (a := ⟨p, 1, none⟩) (Av := fun b => b = p) rfl _)⟩
  · rw [take_no (.inl rfl)]
    clear h hno
    go_enter Tryz.func125, Tryz.ntmps125
    go_wp2
    go_ret
    exact ⟨rfl, HNO.out, fr_set (a := ⟨p, 2, none⟩) (Av := fun b => b = p) rfl _⟩
end Go.Proofs.YtlmnabhhgplhnaaGreatDoor
namespace Go.Proofs.YtlmnabhhgplhnaaGreatDoor
open Go.RowKit

/-- The package-level variables that a reader in block p reads: they lie below p. -/
structure GP (p : Nat) (w : World) : Prop where
  glob : Glob w
  ops : ∀ (k : Nat) x, opTab[k]? = some x → w.cell? ⟨0, k, none⟩ = some (.string ⟨x.toArray⟩)
  l1 : 1 < p
  l2 : 2 < p
  l3 : 3 < p
  l4 : 4 < p
  l5 : 0 < p
theorem GP.below {p : Nat} {w w' : World} (h : GP p w) (hb : Below p w w') : GP p w' := by
  obtain ⟨⟨⟨m, hm⟩, ht, htop, ⟨t1, p1, h1⟩, ⟨t2, p2, h2⟩⟩, ho, l1, l2, l3, l4, l5⟩ := h
  exact ⟨⟨⟨m, (hb.cell l1).trans hm⟩, var?_below hb (by kernel_rfl) l2 ht, Nat.lt_of_lt_of_le htop hb.size, ⟨t1, p1, (hb.cell l3).trans h1⟩, ⟨t2, p2, (hb.cell l4).trans h2⟩⟩,
    fun k x hx => (hb.cell (p := ⟨0, k, none⟩) l5).trans (ho k x hx), l1, l2, l3, l4, l5⟩
theorem GP.fr {p : Nat} {w w' : World} (h : GP p w) (hp : p ≤ w.heap.size) (hf : Fr (fun b => b = p) w w') : GP p w' := h.below (hf.below hp fun k hk e => by omega)

theorem string_beq (a b : ByteArray) : (a.toList == b.toList) = decide (a.data.toList = b.data.toList) := by
  rw [Lib.toList_data, Lib.toList_data, Bool.eq_iff_iff]; simp

set_option maxHeartbeats 1000000 in
set_option maxRecDepth 100000 in
theorem op_any (t : ByteArray) (p : Nat) (w : World) (hg : GP p w) :
    Calls Tryz.prog 18 #[.string t] w fun e w' => e = .returned (.int .i64 (opNum t.data.toList : Nat)) ∧ w = w' := by
  have HO := Lib.hid hg.ops
  obtain ⟨E, hE⟩ : ∃ E, opNum t.data.toList = E := ⟨_, rfl⟩
  rw [hE]
  have HE := Lib.hid hE
  clear hE hg
  go_enter Tryz.func18, Tryz.ntmps18
  go_wp2
  go_loop [4] (fun i => ∃ k : Nat, i = .int .i64 k ∧ k ≤ 10 ∧ opGo (opTab.drop k) k t.data.toList = E) (fun i => 10 - (intOf i).toNat)
  case atStart => exact ⟨0, rfl, by omega, HE.out⟩
  case round =>
    obtain ⟨k, rfl, hk, hr⟩ := hrel
    have HR := Lib.hid hr
    clear hr
    by_cases hlt : k < 10
    · obtain ⟨x, hx⟩ : ∃ x, opTab[k]? = some x := ⟨opTab[k]'(by simpa [opTab] using hlt), List.getElem?_eq_getElem _⟩
      have hc := HO.out k x hx
      have hd : opTab.drop k = x :: opTab.drop (k + 1) := by
        obtain ⟨hl, hg⟩ := List.getElem?_eq_some_iff.1 hx
        rw [List.drop_eq_getElem_cons hl, hg]
      have hstep := HR.out
      rw [hd] at hstep
      have hlt' : (k : Int) < 10 := by omega
      obtain ⟨X, hX⟩ : ∃ X : ByteArray, (⟨x.toArray⟩ : ByteArray) = X := ⟨_, rfl⟩
      have hXd : X.data.toList = x := by rw [← hX]
      rw [hX] at hc
      by_cases he : x = t.data.toList
      · have hb : (X.toList == t.toList) = true := by rw [string_beq, hXd]; simp [he]
        have hE : k = E := by rw [← hstep]; simp [opGo, he]
        have HE2 := Lib.hid hE
        clear hE hstep hd hx he hX hXd
        go_wp2
        go_ret
        exact ⟨ret_int (by rw [HE2.out]), rfl⟩
      · have hb : (X.toList == t.toList) = false := by rw [string_beq, hXd]; simp [he]
        have hE : opGo (opTab.drop (k + 1)) (k + 1) t.data.toList = E := by rw [← hstep]; simp [opGo, he]
        have HE2 := Lib.hid hE
        clear hE hstep hd hx he hX hXd
        go_wp2
        go_round
        case rel => exact ⟨k + 1, by go_num, by omega, HE2.out⟩
        case measure => simp [intOf]; omega
    · have hk10 : k = 10 := by omega
      subst hk10
      have hE : 0 = E := HR.out
      have HE2 := Lib.hid hE
      clear hE
      go_wp2
      go_ret
      exact ⟨ret_int (by rw [← HE2.out]; rfl), rfl⟩
end Go.Proofs.YtlmnabhhgplhnaaGreatDoor
namespace Go.Proofs.YtlmnabhhgplhnaaGreatDoor
open Go.RowKit

theorem kind_eq (ws : List WordT) (s : PS) (k : Int) (h : (wAt ws s.1).1 = k) : ((wAt ws s.1).1 == k) = true := by simp [h]
theorem kind_ne (ws : List WordT) (s : PS) (k : Int) (h : (wAt ws s.1).1 ≠ k) : ((wAt ws s.1).1 == k) = false := by simp [h]
theorem retx2_bool {a b : Bool} (h : a = b) : Ending.returned (.bool a) = .returned (.bool b) := by rw [h]

set_option maxHeartbeats 1000000 in
set_option maxRecDepth 100000 in
theorem p_isKey_any (p : Nat) (v : Value) (ws : List WordT) (s : PS) (key : ByteArray) (w : World) (h : PSt w p v ws s) :
    Calls Tryz.prog 99 #[.pointer (some ⟨p, 0, none⟩), .string key] w fun e w' => e = .returned (.bool (isKeyP ws key s)) ∧ Below w.heap.size w w' := by
  obtain ⟨r, hr⟩ : ∃ r, isKeyP ws key s = r := ⟨_, rfl⟩
  rw [hr]
  unfold isKeyP at hr
  have cW := fun w' (hb : Below w.heap.size w w') => word_any p v ws s w' (h.below hb)
  unfold wVal at cW
  obtain ⟨kd, hkd⟩ : ∃ kd, (wAt ws s.1).1 = kd := ⟨_, rfl⟩
  obtain ⟨tx, htx⟩ : ∃ tx, wTx ws s.1 = tx := ⟨_, rfl⟩
  rw [hkd, htx] at hr
  simp only [hkd, htx] at cW
  have CW := Lib.hid cW
  have F0 := fld0
  have F2 := fld2
  clear cW h hkd htx
  by_cases h1 : kd = 1
  · subst h1
    have hr2 : (tx.toList == key.toList) = r := by rw [← hr]; simp
    clear hr
    go_enter Tryz.func99, Tryz.ntmps99
    go_wp2_with fail
    refine (CW.out _ (Below.refl _ _)).mono ?_
    rintro e w2 ⟨rfl, hb2⟩
    have HB2 := Lib.hid hb2
    clear hb2
    go_wp2_with fail
    refine (CW.out _ HB2.out).mono ?_
    rintro e w3 ⟨rfl, hb3⟩
    have HB3 := Lib.hid (HB2.out.trans (hb3.mono HB2.out.size))
    clear hb3
    go_wp2
    go_ret
    exact ⟨rfl, HB3.out⟩
  · have hk : (kd == 1) = false := by simpa using h1
    have hr2 : false = r := by rw [← hr, hk]; rfl
    subst hr2
    clear hr
    go_enter Tryz.func99, Tryz.ntmps99
    go_wp2_with fail
    refine (CW.out _ (Below.refl _ _)).mono ?_
    rintro e w2 ⟨rfl, hb2⟩
    have HB2 := Lib.hid hb2
    clear hb2
    go_wp2
    go_ret
    exact ⟨rfl, HB2.out⟩

set_option maxHeartbeats 1000000 in
set_option maxRecDepth 100000 in
theorem p_isMark_any (p : Nat) (v : Value) (ws : List WordT) (s : PS) (key : ByteArray) (w : World) (h : PSt w p v ws s) :
    Calls Tryz.prog 127 #[.pointer (some ⟨p, 0, none⟩), .string key] w fun e w' => e = .returned (.bool (isMarkP ws key s)) ∧ Below w.heap.size w w' := by
  obtain ⟨r, hr⟩ : ∃ r, isMarkP ws key s = r := ⟨_, rfl⟩
  rw [hr]
  unfold isMarkP at hr
  have cW := fun w' (hb : Below w.heap.size w w') => word_any p v ws s w' (h.below hb)
  unfold wVal at cW
  obtain ⟨kd, hkd⟩ : ∃ kd, (wAt ws s.1).1 = kd := ⟨_, rfl⟩
  obtain ⟨tx, htx⟩ : ∃ tx, wTx ws s.1 = tx := ⟨_, rfl⟩
  rw [hkd, htx] at hr
  simp only [hkd, htx] at cW
  have CW := Lib.hid cW
  have F0 := fld0
  have F2 := fld2
  clear cW h hkd htx
  by_cases h1 : kd = 3
  · subst h1
    have hr2 : (tx.toList == key.toList) = r := by rw [← hr]; simp
    clear hr
    go_enter Tryz.func127, Tryz.ntmps127
    go_wp2_with fail
    refine (CW.out _ (Below.refl _ _)).mono ?_
    rintro e w2 ⟨rfl, hb2⟩
    have HB2 := Lib.hid hb2
    clear hb2
    go_wp2_with fail
    refine (CW.out _ HB2.out).mono ?_
    rintro e w3 ⟨rfl, hb3⟩
    have HB3 := Lib.hid (HB2.out.trans (hb3.mono HB2.out.size))
    clear hb3
    go_wp2
    go_ret
    exact ⟨rfl, HB3.out⟩
  · have hk : (kd == 3) = false := by simpa using h1
    have hr2 : false = r := by rw [← hr, hk]; rfl
    subst hr2
    clear hr
    go_enter Tryz.func127, Tryz.ntmps127
    go_wp2_with fail
    refine (CW.out _ (Below.refl _ _)).mono ?_
    rintro e w2 ⟨rfl, hb2⟩
    have HB2 := Lib.hid hb2
    clear hb2
    go_wp2
    go_ret
    exact ⟨rfl, HB2.out⟩

set_option maxHeartbeats 1000000 in
set_option maxRecDepth 100000 in
theorem p_isEnd_any (p : Nat) (v : Value) (ws : List WordT) (s : PS) (w : World) (h : PSt w p v ws s) :
    Calls Tryz.prog 58 #[.pointer (some ⟨p, 0, none⟩)] w fun e w' => e = .returned (.bool (isEndP ws s)) ∧ Below w.heap.size w w' := by
  have cW := word_any p v ws s w h
  unfold wVal at cW
  unfold isEndP
  have F0 := fld0
  clear h
  go_enter Tryz.func58, Tryz.ntmps58
  go_wp2_with fail
  refine cW.mono ?_
  rintro e w2 ⟨rfl, hb2⟩
  go_wp2
  go_ret
  exact ⟨rfl, hb2⟩

set_option maxHeartbeats 1000000 in
set_option maxRecDepth 100000 in
theorem p_isName_any (p : Nat) (v : Value) (ws : List WordT) (s : PS) (w : World) (h : PSt w p v ws s) (hg : GP p w) (hsz : ∀ k, k < ws.length → (wTx ws k).size ≤ maxLen) :
    Calls Tryz.prog 126 #[.pointer (some ⟨p, 0, none⟩)] w fun e w' => e = .returned (.bool (isNameP ws s)) ∧ Below w.heap.size w w' := by
  obtain ⟨r, hr⟩ : ∃ r, isNameP ws s = r := ⟨_, rfl⟩
  rw [hr]
  unfold isNameP at hr
  have cW := fun w' (hb : Below w.heap.size w w') => word_any p v ws s w' (h.below hb)
  have hs := hsz _ h.lt
  have hp := h.p_lt
  have cM := fun w' (hb : Below w.heap.size w w') => (hg.below (hb.mono (Nat.le_of_lt hp))).glob.max.elim fun m hm => may_any (wTx ws s.1) m w' hs hm
  unfold wVal at cW
  obtain ⟨kd, hkd⟩ : ∃ kd, (wAt ws s.1).1 = kd := ⟨_, rfl⟩
  obtain ⟨tx, htx⟩ : ∃ tx, wTx ws s.1 = tx := ⟨_, rfl⟩
  rw [hkd, htx] at hr
  simp only [hkd, htx] at cW cM
  have CW := Lib.hid cW
  have CM := Lib.hid cM
  have F0 := fld0
  have F2 := fld2
  clear cW h hkd htx cM hg hsz hs hp
  by_cases h1 : kd = 1
  · subst h1
    have hr2 : okName tx.data.toList = r := by rw [← hr]; simp
    have HR := Lib.hid hr2
    clear hr hr2
    go_enter Tryz.func126, Tryz.ntmps126
    go_wp2_with fail
    refine (CW.out _ (Below.refl _ _)).mono ?_
    rintro e w2 ⟨rfl, hb2⟩
    have HB2 := Lib.hid hb2
    clear hb2
    go_wp2_with fail
    refine (CW.out _ HB2.out).mono ?_
    rintro e w3 ⟨rfl, hb3⟩
    have HB3 := Lib.hid (HB2.out.trans (hb3.mono HB2.out.size))
    clear hb3
    go_wp2_with fail
    refine (CM.out _ HB3.out).mono ?_
    rintro e w4 ⟨rfl, hb4⟩
    have HB4 := Lib.hid (HB3.out.trans (hb4.mono HB3.out.size))
    clear hb4
    go_wp2
    go_ret
    exact ⟨retx2_bool HR.out, HB4.out⟩
  · have hk : (kd == 1) = false := by simpa using h1
    have hr2 : false = r := by rw [← hr, hk]; rfl
    subst hr2
    clear hr
    go_enter Tryz.func126, Tryz.ntmps126
    go_wp2_with fail
    refine (CW.out _ (Below.refl _ _)).mono ?_
    rintro e w2 ⟨rfl, hb2⟩
    have HB2 := Lib.hid hb2
    clear hb2
    go_wp2
    go_ret
    exact ⟨rfl, HB2.out⟩
end Go.Proofs.YtlmnabhhgplhnaaGreatDoor
namespace Go.Proofs.YtlmnabhhgplhnaaGreatDoor
open Go.RowKit

/-- The reader, and all that it reads. -/
structure RS (w : World) (p : Nat) (v : Value) (ws : List WordT) (s : PS) : Prop where
  st : PSt w p v ws s
  gp : GP p w
  sz : ∀ k, k < ws.length → (wTx ws k).size ≤ 1048576
  few : ws.length ≤ 2097152
theorem RS.after {w w' : World} {p : Nat} {v : Value} {ws : List WordT} {s s' : PS} (h : RS w p v ws s) (ha : After w w' p v ws s') : RS w' p v ws s' :=
  ⟨ha.1, h.gp.fr (Nat.le_of_lt h.st.p_lt) ha.2, h.sz, h.few⟩
theorem RS.szM {w : World} {p : Nat} {v : Value} {ws : List WordT} {s : PS} (h : RS w p v ws s) : ∀ k, k < ws.length → (wTx ws k).size ≤ maxLen := fun k hk => by have := h.sz k hk; unfold maxLen; omega
theorem RS.below {w w' : World} {p : Nat} {v : Value} {ws : List WordT} {s : PS} (h : RS w p v ws s) (hb : Below w.heap.size w w') : RS w' p v ws s := h.after (After.of_below h.st hb)
theorem ret_string {a b : ByteArray} (h : a = b) : Ending.returned (.string a) = .returned (.string b) := by rw [h]

set_option maxHeartbeats 1000000 in
set_option maxRecDepth 100000 in
theorem p_key_any (p : Nat) (v : Value) (ws : List WordT) (s : PS) (key : ByteArray) (w : World) (h : RS w p v ws s) :
    Calls Tryz.prog 96 #[.pointer (some ⟨p, 0, none⟩), .string key] w fun e w' => e = .returned (.tuple #[]) ∧ After w w' p v ws (keyP ws key s) := by
  have cI := p_isKey_any p v ws s key w h.st
  have cT := fun w' (hb : Below w.heap.size w w') => take_any p v ws s (isKeyP ws key s) w' (h.st.below hb) (fun h => key_kind h)
  have HS := Lib.hid h.st
  unfold keyP
  clear h
  go_enter Tryz.func96, Tryz.ntmps96
  go_wp2_with fail
  refine cI.mono ?_
  rintro e w2 ⟨rfl, hb2⟩
  have cT2 := cT w2 hb2
  clear cT
  go_wp2_with fail
  refine cT2.mono ?_
  rintro e w3 ⟨rfl, ha3⟩
  go_wp2
  go_end0
  exact ⟨rfl, (After.of_below HS.out hb2).trans ha3⟩

set_option maxHeartbeats 1000000 in
set_option maxRecDepth 100000 in
theorem p_mark_any (p : Nat) (v : Value) (ws : List WordT) (s : PS) (key : ByteArray) (w : World) (h : RS w p v ws s) :
    Calls Tryz.prog 98 #[.pointer (some ⟨p, 0, none⟩), .string key] w fun e w' => e = .returned (.tuple #[]) ∧ After w w' p v ws (markP ws key s) := by
  have cI := p_isMark_any p v ws s key w h.st
  have cT := fun w' (hb : Below w.heap.size w w') => take_any p v ws s (isMarkP ws key s) w' (h.st.below hb) (fun h => mark_kind h)
  have HS := Lib.hid h.st
  unfold markP
  clear h
  go_enter Tryz.func98, Tryz.ntmps98
  go_wp2_with fail
  refine cI.mono ?_
  rintro e w2 ⟨rfl, hb2⟩
  have cT2 := cT w2 hb2
  clear cT
  go_wp2_with fail
  refine cT2.mono ?_
  rintro e w3 ⟨rfl, ha3⟩
  go_wp2
  go_end0
  exact ⟨rfl, (After.of_below HS.out hb2).trans ha3⟩

set_option maxHeartbeats 1000000 in
set_option maxRecDepth 100000 in
theorem p_name_any (p : Nat) (v : Value) (ws : List WordT) (s : PS) (w : World) (h : RS w p v ws s) :
    Calls Tryz.prog 97 #[.pointer (some ⟨p, 0, none⟩)] w fun e w' => e = .returned (.string (nameP ws s).1) ∧ After w w' p v ws (nameP ws s).2 := by
  have cI := p_isName_any p v ws s w h.st h.gp h.szM
  have cT := fun w' (hb : Below w.heap.size w w') => take_any p v ws s (isNameP ws s) w' (h.st.below hb) (fun h => name_kind h)
  have HS := Lib.hid h.st
  unfold nameP
  clear h
  go_enter Tryz.func97, Tryz.ntmps97
  go_wp2_with fail
  refine cI.mono ?_
  rintro e w2 ⟨rfl, hb2⟩
  have cT2 := cT w2 hb2
  clear cT
  go_wp2_with fail
  refine cT2.mono ?_
  rintro e w3 ⟨rfl, ha3⟩
  go_wp2
  go_ret
  exact ⟨rfl, (After.of_below HS.out hb2).trans ha3⟩

set_option maxHeartbeats 1000000 in
set_option maxRecDepth 100000 in
theorem p_text_any (p : Nat) (v : Value) (ws : List WordT) (s : PS) (w : World) (h : RS w p v ws s) :
    Calls Tryz.prog 149 #[.pointer (some ⟨p, 0, none⟩)] w fun e w' => e = .returned (.string (textP ws s).1) ∧ After w w' p v ws (textP ws s).2 := by
  have cW := word_any p v ws s w h.st
  have cT := fun w' (hb : Below w.heap.size w w') => take_any p v ws s ((wAt ws s.1).1 == 2) w' (h.st.below hb) (fun h e => by rw [e] at h; cases h)
  have HS := Lib.hid h.st
  unfold textP
  unfold wVal at cW
  obtain ⟨kd, hkd⟩ : ∃ kd, (wAt ws s.1).1 = kd := ⟨_, rfl⟩
  simp only [hkd] at cW cT
  rw [hkd]
  have F0 := fld0
  clear h hkd
  go_enter Tryz.func149, Tryz.ntmps149
  go_wp2_with fail
  refine cW.mono ?_
  rintro e w2 ⟨rfl, hb2⟩
  have cT2 := cT w2 hb2
  clear cT
  go_wp2_with fail
  refine cT2.mono ?_
  rintro e w3 ⟨rfl, ha3⟩
  go_wp2
  go_ret
  exact ⟨rfl, (After.of_below HS.out hb2).trans ha3⟩

set_option maxHeartbeats 1000000 in
set_option maxRecDepth 100000 in
theorem p_number_any (p : Nat) (v : Value) (ws : List WordT) (s : PS) (w : World) (h : RS w p v ws s) :
    Calls Tryz.prog 150 #[.pointer (some ⟨p, 0, none⟩)] w fun e w' => e = .returned (.int .i64 (numberP ws s).1) ∧ After w w' p v ws (numberP ws s).2 := by
  have cW := fun w' (hb : Below w.heap.size w w') => word_any p v ws s w' (h.st.below hb)
  have cG := fun w' (hb : Below w.heap.size w w') => getNumber_any (wTx ws s.1) 2000 (by have := h.sz _ h.st.lt; omega) w' (h.below hb).gp.glob
  have cT := fun w' (hb : Below w.heap.size w w') => take_any p v ws s ((numP ws s).2 && (wAt ws s.1).1 == 1) w' (h.st.below hb) (fun h e => by rw [e] at h; simp at h)
  have HS := Lib.hid h.st
  unfold numberP
  unfold wVal at cW
  change ∀ w', Below w.heap.size w w' → Calls Tryz.prog 72 #[.string (wTx ws s.1), .int .i64 2000] w' fun e w'' => e = .returned (.tuple #[.int .i64 (numP ws s).1, .bool (numP ws s).2]) ∧ Below w'.heap.size w' w'' at cG
  obtain ⟨kd, hkd⟩ : ∃ kd, (wAt ws s.1).1 = kd := ⟨_, rfl⟩
  obtain ⟨n, hn⟩ : ∃ n, numP ws s = n := ⟨_, rfl⟩
  obtain ⟨n, ok⟩ := n
  simp only [hkd, hn] at cW cT cG
  rw [hkd, hn]
  have CW := Lib.hid cW
  have CG := Lib.hid cG
  have CT := Lib.hid cT
  have F0 := fld0
  have F2 := fld2
  clear h hkd hn cW cG cT
  cases ok
  · have CT' : Hid (∀ w', Below w.heap.size w w' → Calls Tryz.prog 125 #[.pointer (some ⟨p, 0, none⟩), .bool false] w' fun e w'' => e = .returned (.string (takeP ws false s).1) ∧ After w' w'' p v ws (takeP ws false s).2) := CT.out
    go_enter Tryz.func150, Tryz.ntmps150
    go_wp2_with fail
    refine (CW.out _ (Below.refl _ _)).mono ?_
    rintro e w2 ⟨rfl, hb2⟩
    have HB2 := Lib.hid hb2
    clear hb2
    go_wp2_with fail
    refine (CG.out _ HB2.out).mono ?_
    rintro e w3 ⟨rfl, hb3⟩
    have HB3 := Lib.hid (HB2.out.trans (hb3.mono HB2.out.size))
    clear hb3
    go_wp2_with fail
    refine (CT'.out _ HB3.out).mono ?_
    rintro e w4 ⟨rfl, ha4⟩
    go_wp2
    go_ret
    exact ⟨rfl, (After.of_below HS.out HB3.out).trans ha4⟩
  · have CT' : Hid (∀ w', Below w.heap.size w w' → Calls Tryz.prog 125 #[.pointer (some ⟨p, 0, none⟩), .bool (kd == 1)] w' fun e w'' => e = .returned (.string (takeP ws (kd == 1) s).1) ∧ After w' w'' p v ws (takeP ws (kd == 1) s).2) := by
      have := CT.out
      simp only [Bool.true_and] at this
      exact this
    go_enter Tryz.func150, Tryz.ntmps150
    go_wp2_with fail
    refine (CW.out _ (Below.refl _ _)).mono ?_
    rintro e w2 ⟨rfl, hb2⟩
    have HB2 := Lib.hid hb2
    clear hb2
    go_wp2_with fail
    refine (CG.out _ HB2.out).mono ?_
    rintro e w3 ⟨rfl, hb3⟩
    have HB3 := Lib.hid (HB2.out.trans (hb3.mono HB2.out.size))
    clear hb3
    go_wp2_with fail
    refine (CW.out _ HB3.out).mono ?_
    rintro e w4 ⟨rfl, hb4⟩
    have HB4 := Lib.hid (HB3.out.trans (hb4.mono HB3.out.size))
    clear hb4
    go_wp2_with fail
    refine (CT'.out _ HB4.out).mono ?_
    rintro e w5 ⟨rfl, ha5⟩
    go_wp2
    go_ret
    exact ⟨rfl, by simpa using (After.of_below HS.out HB4.out).trans ha5⟩

set_option maxHeartbeats 1000000 in
set_option maxRecDepth 100000 in
theorem p_op_any (p : Nat) (v : Value) (ws : List WordT) (s : PS) (w : World) (h : RS w p v ws s) :
    Calls Tryz.prog 147 #[.pointer (some ⟨p, 0, none⟩)] w fun e w' => e = .returned (.int .i64 (opP ws s).1) ∧ After w w' p v ws (opP ws s).2 := by
  have cW := fun w' (hb : Below w.heap.size w w') => word_any p v ws s w' (h.st.below hb)
  have cG := fun w' (hb : Below w.heap.size w w') => op_any (wTx ws s.1) p w' (h.below hb).gp
  have cT := fun w' (hb : Below w.heap.size w w') => take_any p v ws s (decide (opNum (wTx ws s.1).data.toList ≠ 0) && (wAt ws s.1).1 == 1) w' (h.st.below hb) (fun h e => by rw [e] at h; simp at h)
  have HS := Lib.hid h.st
  unfold opP
  unfold wVal at cW
  obtain ⟨kd, hkd⟩ : ∃ kd, (wAt ws s.1).1 = kd := ⟨_, rfl⟩
  obtain ⟨n, hn⟩ : ∃ n, opNum (wTx ws s.1).data.toList = n := ⟨_, rfl⟩
  simp only [hkd, hn] at cW cT cG
  rw [hkd, hn]
  have CW := Lib.hid cW
  have CG := Lib.hid cG
  have CT := Lib.hid cT
  have F0 := fld0
  have F2 := fld2
  clear h hkd hn cW cG cT
  by_cases h0 : n = 0
  · subst h0
    have CT' : Hid (∀ w', Below w.heap.size w w' → Calls Tryz.prog 125 #[.pointer (some ⟨p, 0, none⟩), .bool false] w' fun e w'' => e = .returned (.string (takeP ws false s).1) ∧ After w' w'' p v ws (takeP ws false s).2) := CT.out
    go_enter Tryz.func147, Tryz.ntmps147
    go_wp2_with fail
    refine (CW.out _ (Below.refl _ _)).mono ?_
    rintro e w2 ⟨rfl, hb2⟩
    have HB2 := Lib.hid hb2
    clear hb2
    go_wp2_with fail
    refine (CG.out _ HB2.out).mono ?_
    rintro e w3 ⟨rfl, rfl⟩
    go_wp2_with fail
    refine (CT'.out _ HB2.out).mono ?_
    rintro e w4 ⟨rfl, ha4⟩
    go_wp2
    go_ret
    exact ⟨rfl, (After.of_below HS.out HB2.out).trans ha4⟩
  · have hn0 : ((n : Int) != 0) = true := by simpa using h0
    have hn1 : ¬ ((n : Int) = 0) := by omega
    have CT' : Hid (∀ w', Below w.heap.size w w' → Calls Tryz.prog 125 #[.pointer (some ⟨p, 0, none⟩), .bool (kd == 1)] w' fun e w'' => e = .returned (.string (takeP ws (kd == 1) s).1) ∧ After w' w'' p v ws (takeP ws (kd == 1) s).2) := by
      have := CT.out
      rw [show (decide (n ≠ 0) && kd == 1) = (kd == 1) by simp [h0]] at this
      exact this
    have HD := Lib.hid (show (decide (n ≠ 0) && kd == 1) = (kd == 1) by simp [h0])
    clear h0
    go_enter Tryz.func147, Tryz.ntmps147
    go_wp2_with fail
    refine (CW.out _ (Below.refl _ _)).mono ?_
    rintro e w2 ⟨rfl, hb2⟩
    have HB2 := Lib.hid hb2
    clear hb2
    go_wp2_with fail
    refine (CG.out _ HB2.out).mono ?_
    rintro e w3 ⟨rfl, rfl⟩
    go_wp2_with fail
    refine (CW.out _ HB2.out).mono ?_
    rintro e w4 ⟨rfl, hb4⟩
    have HB4 := Lib.hid (HB2.out.trans (hb4.mono HB2.out.size))
    clear hb4
    go_wp2_with fail
    refine (CT'.out _ HB4.out).mono ?_
    rintro e w5 ⟨rfl, ha5⟩
    go_wp2
    go_ret
    exact ⟨rfl, by rw [HD.out]; exact (After.of_below HS.out HB4.out).trans ha5⟩
end Go.Proofs.YtlmnabhhgplhnaaGreatDoor
namespace Go.Proofs.YtlmnabhhgplhnaaGreatDoor
open Go.RowKit

theorem Fr.grownBy {p : Nat} {w w' : World} (h : Fr (fun b => b = p) w w') : w.grownBy w' (some p) := ⟨h.os, h.tape, h.output, h.size, fun k hk hn => h.block k hk fun e => hn (by rw [e])⟩
theorem own_fr {w w' : World} {B p e size n : Nat} {v : Value} {xs : List Value} (h : w.ownsRow B e size v n xs) (hf : Fr (fun b => b = p) w w') (hp : p < B) : w'.ownsRow B e size v n xs :=
  h.kept (row := some p) hf.grownBy (by
    cases hv : v.ownBlock with
    | none => exact .inl rfl
    | some k => exact .inr (by intro e; injection e with e; have := (h.lt k hv).1; omega))
/-- A row of the call's own has grown. -/
theorem After.grown {w w1 w2 : World} {p : Nat} {v : Value} {ws : List WordT} {s0 s : PS} {r : Option Nat} (h0 : PSt w p v ws s0) (h : After w w1 p v ws s) (hg : w1.grownBy w2 r) (hr : ∀ k, r = some k → w.heap.size ≤ k) : After w w2 p v ws s := by
  refine ⟨h.1.fr (Av := fun b => some b = r) (fr_grown hg fun k e => e.symm) (fun e => ?_) (fun b hb e => ?_), ?_⟩
  · have := hr p e.symm; have := h0.p_lt; omega
  · have := hr b e.symm; have := (h0.row.2 b hb).1; omega
  · refine ⟨hg.os.trans h.2.os, hg.tape.trans h.2.tape, hg.output.trans h.2.output, Nat.le_trans h.2.size hg.size, fun k hk hn => ?_⟩
    rw [hg.block k (Nat.lt_of_lt_of_le hk h.2.size) (fun e => by have := hr k e.symm; omega)]
    exact h.2.block k hk hn
theorem After.alloc {w w1 : World} {p : Nat} {v : Value} {ws : List WordT} {s : PS} (h : After w w1 p v ws s) (o : Obj) : After w (w1.alloc o) p v ws s := ⟨h.1.alloc o, h.2.trans (fr_alloc _ _ _)⟩
theorem After.drew {w w1 : World} {p : Nat} {v : Value} {ws : List WordT} {s : PS} (h : After w w1 p v ws s) : After w w1.drew p v ws s := ⟨h.1.below (Below.refl _ _).drew, h.2.trans (fr_drew _ _)⟩
theorem After.refl {w : World} {p : Nat} {v : Value} {ws : List WordT} {s : PS} (h : PSt w p v ws s) : After w w p v ws s := ⟨h, Fr.refl _ _⟩

/-- Where the reader stands, read off memory. -/
def posPs (w : World) (p : Nat) : Nat := (intOf ((w.cell? ⟨p, 1, none⟩).getD (.int .i64 0))).toNat
theorem PSt.pos {w : World} {p : Nat} {v : Value} {ws : List WordT} {s : PS} (h : PSt w p v ws s) : posPs w p = s.1 := by
  unfold posPs
  rw [h.cells.2.1]
  simp [intOf]

theorem namesF_go {ws : List WordT} {f : Nat} {acc : List ByteArray} {s : PS} (h0 : s.2 = false) (h1 : isNameP ws s = true) : namesF ws (f + 1) acc s = namesF ws f (acc ++ [(nameP ws s).1]) (nameP ws s).2 := by
  simp [namesF, h0, h1]
theorem namesF_stop {ws : List WordT} {f : Nat} {acc : List ByteArray} {s : PS} (h : s.2 = true ∨ isNameP ws s = false) : namesF ws (f + 1) acc s = (acc, s) := by
  rcases h with h | h <;> simp [namesF, h]
theorem name_go {ws : List WordT} {s : PS} (h0 : s.2 = false) (h1 : isNameP ws s = true) : (nameP ws s).2.1 = s.1 + 1 := by
  unfold nameP; rw [take_yes h0 h1]

set_option maxHeartbeats 2000000 in
set_option maxRecDepth 100000 in
theorem p_names_any (p : Nat) (v : Value) (ws : List WordT) (s : PS) (w : World) (h : RS w p v ws s) :
    Calls Tryz.prog 148 #[.pointer (some ⟨p, 0, none⟩)] w fun e w' => ∃ vv, e = .returned vv ∧ StrsA (fun b => b < w.heap.size) w' vv (namesP ws s).1 ∧ After w w' p v ws (namesP ws s).2 := by
  obtain ⟨i0, hi, hz0, hz1, hz2⟩ := info_of info_str
  obtain ⟨R, hR⟩ : ∃ R, namesP ws s = R := ⟨_, rfl⟩
  have H := Lib.hid h
  have HR := Lib.hid hR
  rw [hR]
  have hfew := h.few
  have hpl := h.st.p_lt
  clear hR h
  go_enter Tryz.func148, Tryz.ntmps148
  go_wp2
  go_loopw [3] (fun vv wr => ∃ (f : Nat) (acc : List ByteArray) (s' : PS), ws.length - s'.1 < f ∧ namesF ws f acc s' = R ∧ acc.length ≤ s'.1 ∧ wr.ownsRow w.heap.size 9 1 vv acc.length (acc.map Value.string) ∧ After w wr p v ws s')
    (fun _ wr => ws.length - posPs wr p)
  case atStart => exact ⟨ws.length + 1, [], s, by omega, HR.out, by simp, ⟨rfl, .inl ⟨rfl, rfl⟩⟩, After.refl H.out.st⟩
  case round =>
    obtain ⟨f, acc, s', hf, hj, hal, hown, ha⟩ := hrel
    obtain ⟨f, rfl⟩ : ∃ g, f = g + 1 := ⟨f - 1, by omega⟩
    have HA := Lib.hid ha
    have HJ := Lib.hid hj
    have HO := Lib.hid hown
    have hlt := ha.1.lt
    have hrs := H.out.after ha
    obtain ⟨c0, c1, c2, f0, f1, f2⟩ := ha.1.cells
    have cI := p_isName_any p v ws s' wr hrs.st hrs.gp hrs.szM
    have cN := fun w' (hb : Below wr.heap.size wr w') => p_name_any p v ws s' w' (hrs.below hb)
    have CN := Lib.hid cN
    have hsz := ha.2.size
    obtain ⟨k, fl⟩ := s'
    clear ha hj hown hrs cN c0 f0
    cases fl
    · obtain ⟨q, hq⟩ : ∃ q, isNameP ws (k, false) = q := ⟨_, rfl⟩
      rw [hq] at cI
      have HQ := Lib.hid hq
      clear hq
      cases q
      · have hres := HJ.out
        rw [namesF_stop (.inr HQ.out)] at hres
        have HRES := Lib.hid hres
        clear hres
        go_wp2_with fail
        refine cI.mono ?_
        rintro e w2 ⟨rfl, hb2⟩
        go_wp2
        go_ret
        have := HA.out.trans (After.of_below HA.out.1 hb2)
        exact ⟨_, rfl, by rw [← HRES.out]; exact strsA_own (own_fr HO.out (p := p) (fr_below hb2) hpl), by rw [← HRES.out]; exact this⟩
      · have hres := HJ.out
        rw [namesF_go rfl HQ.out] at hres
        have hadv := name_go (ws := ws) (s := (k, false)) rfl HQ.out
        have HRES := Lib.hid hres
        have HADV := Lib.hid hadv
        clear hres hadv
        go_wp2_with fail
        refine cI.mono ?_
        rintro e w2 ⟨rfl, hb2⟩
        have cN2 := CN.out w2 hb2
        have HB2 := Lib.hid hb2
        clear hb2 cI
        go_wp2_with fail
        refine cN2.mono ?_
        rintro e w3 ⟨rfl, ha3⟩
        have hA3 := (HA.out.trans (After.of_below HA.out.1 HB2.out)).trans ha3
        have HO3 := Lib.hid (own_fr (own_fr HO.out (fr_below HB2.out) hpl) ha3.2 hpl)
        have HA3 := Lib.hid hA3
        have hs3 := hA3.2.size
        clear ha3 hA3 cN2
        go_wp2_with (at_builtin; refine wpList_append_own _ rfl _ _ 35 rfl w.heap.size 9 i0 (.string ByteArray.empty) 1 16 Tryz.underlying35 hi hz0 hz1 hz2 rfl (by decide) _ _ _ rfl (HO3.out.alloc _) ⟨w3.heap.size, 0, none⟩ 1 1 [.string (nameP ws (k, false)).1] rfl rfl ?c1 ?c2 ?c3 ?c4 ?c5 ?_)
        case c1 =>
          intro j u hj
          match j, hj with
          | 0, hj => simp at hj; subst hj; simp [Addr.add]
        case c2 => intro u hu; simp at hu; subst hu; rfl
        case c3 => unfold maxLen; have h1 : k < ws.length := hlt; have h2 : acc.length ≤ k := hal; omega
        case c4 => have h1 : k < ws.length := hlt; have h2 : acc.length ≤ k := hal; omega
        case c5 => simp; omega
        intro v' w4 hown' hgrow _
        have hA4 := (HA3.out.alloc (.cells #[.string (nameP ws (k, false)).1] 9)).grown H.out.st hgrow (fun b hb => (HO3.out.lt b hb).1)
        have HO4 : Hid (w4.ownsRow w.heap.size 9 1 v' (acc ++ [(nameP ws (k, false)).1]).length ((acc ++ [(nameP ws (k, false)).1]).map Value.string)) := by
          show w4.ownsRow _ _ _ _ _ _
          rw [List.length_append, List.map_append]
          simpa using hown'
        have HA4 := Lib.hid hA4
        clear hgrow hown' hA4
        go_wp2
        go_roundw
        case rel => exact ⟨f, acc ++ [(nameP ws (k, false)).1], (nameP ws (k, false)).2, by have h0 : _ = k + 1 := HADV.out; have h1 : k < ws.length := hlt; have h2 : ws.length - k < f + 1 := hf; omega, HRES.out, by have h0 : _ = k + 1 := HADV.out; have h2 : acc.length ≤ k := hal; rw [List.length_append]; simp only [List.length_cons, List.length_nil]; omega, HO4.out, HA4.out⟩
        case measure => rw [HA4.out.1.pos, HA.out.1.pos, HADV.out]; have h1 : k < ws.length := hlt; show ws.length - (k + 1) < ws.length - k; omega
    · have hres := HJ.out
      rw [namesF_stop (.inl rfl)] at hres
      have HRES := Lib.hid hres
      clear hres cI
      go_wp2
      go_ret
      exact ⟨_, rfl, by rw [← HRES.out]; exact strsA_own HO.out, by rw [← HRES.out]; exact HA.out⟩
end Go.Proofs.YtlmnabhhgplhnaaGreatDoor
namespace Go.Proofs.YtlmnabhhgplhnaaGreatDoor
open Go.RowKit

theorem moreF_go {ws : List WordT} {f : Nat} {acc : List ByteArray} {s : PS} (h0 : s.2 = false) (h1 : isMarkP ws cComma s = true) : moreF ws (f + 1) acc s = moreF ws f (acc ++ [(nameP ws (markP ws cComma s)).1]) (nameP ws (markP ws cComma s)).2 := by
  simp [moreF, h0, h1]
theorem moreF_stop {ws : List WordT} {f : Nat} {acc : List ByteArray} {s : PS} (h : s.2 = true ∨ isMarkP ws cComma s = false) : moreF ws (f + 1) acc s = (acc, s) := by
  rcases h with h | h <;> simp [moreF, h]
theorem mark_go {ws : List WordT} {c : ByteArray} {s : PS} (h0 : s.2 = false) (h1 : isMarkP ws c s = true) : (markP ws c s).1 = s.1 + 1 := by
  unfold markP; rw [take_yes h0 h1]
theorem name_ge (ws : List WordT) (s : PS) : s.1 ≤ (nameP ws s).2.1 := take_ge ws _ s
theorem mark_ge (ws : List WordT) (c : ByteArray) (s : PS) : s.1 ≤ (markP ws c s).1 := take_ge ws _ s
theorem key_ge (ws : List WordT) (c : ByteArray) (s : PS) : s.1 ≤ (keyP ws c s).1 := take_ge ws _ s

set_option maxHeartbeats 2000000 in
set_option maxRecDepth 100000 in
theorem p_clause_any (p : Nat) (v : Value) (ws : List WordT) (s : PS) (key : ByteArray) (w : World) (h : RS w p v ws s) :
    Calls Tryz.prog 100 #[.pointer (some ⟨p, 0, none⟩), .string key] w fun e w' => ∃ vv, e = .returned vv ∧ StrsA (fun b => b < w.heap.size) w' vv (clauseP ws key s).1 ∧ After w w' p v ws (clauseP ws key s).2 := by
  obtain ⟨i0, hi, hz0, hz1, hz2⟩ := info_of info_str
  have H := Lib.hid h
  have hfew := h.few
  have hpl := h.st.p_lt
  have cK := p_key_any p v ws s key w h
  have C2 : Hid (∀ w', After w w' p v ws (keyP ws key s) → Calls Tryz.prog 97 #[.pointer (some ⟨p, 0, none⟩)] w' fun e w'' => e = .returned (.string (nameP ws (keyP ws key s)).1) ∧ After w' w'' p v ws (nameP ws (keyP ws key s)).2) :=
    fun w' ha => p_name_any p v ws _ w' (h.after ha)
  obtain ⟨s1, hs1⟩ : ∃ s1, keyP ws key s = s1 := ⟨_, rfl⟩
  rw [hs1] at cK C2
  obtain ⟨x, hx⟩ : ∃ x, nameP ws s1 = x := ⟨_, rfl⟩
  rw [hx] at C2
  obtain ⟨R, hR⟩ : ∃ R, moreP ws x.1 x.2 = R := ⟨_, rfl⟩
  have HR := Lib.hid hR
  have hres : clauseP ws key s = (R.1, markP ws cSemi R.2) := by rw [← hR, ← hx, ← hs1]; rfl
  rw [hres]
  clear hR h hx hs1 hres
  obtain ⟨x, s2⟩ := x
  simp only at C2 HR
  go_enter Tryz.func100, Tryz.ntmps100
  go_wp2_with fail
  refine cK.mono ?_
  rintro e w2 ⟨rfl, ha2⟩
  have cN2 := C2.out w2 ha2
  have HA2 := Lib.hid ha2
  clear ha2 cK
  go_wp2_with fail
  refine cN2.mono ?_
  rintro e w3 ⟨rfl, ha3⟩
  have ha4 := (HA2.out.trans ha3).alloc (.cells #[.string x] 9)
  have hs3 := (HA2.out.trans ha3).2.size
  have hown0 := World.ownsRow_lit (base := w.heap.size) (e := 9) (size := 1) w3 #[.string x] 1 hs3 (by unfold maxLen; omega) rfl
  have HA4 := Lib.hid ha4
  have HO0 := Lib.hid hown0
  clear ha3 ha4 hown0 cN2
  go_wp2
  go_loopw [5] (fun vv wr => ∃ (f : Nat) (acc : List ByteArray) (s' : PS), ws.length - s'.1 < f ∧ moreF ws f acc s' = R ∧ acc.length ≤ s'.1 + 1 ∧ wr.ownsRow w.heap.size 9 1 vv acc.length (acc.map Value.string) ∧ After w wr p v ws s')
    (fun _ wr => ws.length - posPs wr p)
  case atStart => exact ⟨ws.length + 1, [x], s2, by omega, HR.out, by simp, HO0.out, HA4.out⟩
  case round =>
    obtain ⟨f, acc, s', hf, hj, hal, hown, ha⟩ := hrel
    obtain ⟨f, rfl⟩ : ∃ g, f = g + 1 := ⟨f - 1, by omega⟩
    have HA := Lib.hid ha
    have HJ := Lib.hid hj
    have HO := Lib.hid hown
    have hlt := ha.1.lt
    have hrs := H.out.after ha
    obtain ⟨c0, c1, c2, f0, f1, f2⟩ := ha.1.cells
    have cI := p_isMark_any p v ws s' cComma wr hrs.st
    have CMK : Hid (∀ w', Below wr.heap.size wr w' → Calls Tryz.prog 98 #[.pointer (some ⟨p, 0, none⟩), .string cComma] w' fun e w'' => e = .returned (.tuple #[]) ∧ After w' w'' p v ws (markP ws cComma s')) :=
      fun w' hb => p_mark_any p v ws s' cComma w' (hrs.below hb)
    have CN : Hid (∀ w', After wr w' p v ws (markP ws cComma s') → Calls Tryz.prog 97 #[.pointer (some ⟨p, 0, none⟩)] w' fun e w'' => e = .returned (.string (nameP ws (markP ws cComma s')).1) ∧ After w' w'' p v ws (nameP ws (markP ws cComma s')).2) :=
      fun w' ha => p_name_any p v ws _ w' (hrs.after ha)
    have CSE : Hid (∀ w', After wr w' p v ws s' → Calls Tryz.prog 98 #[.pointer (some ⟨p, 0, none⟩), .string cSemi] w' fun e w'' => e = .returned (.tuple #[]) ∧ After w' w'' p v ws (markP ws cSemi s')) :=
      fun w' ha => p_mark_any p v ws s' cSemi w' (hrs.after ha)
    have hsz := ha.2.size
    obtain ⟨k, fl⟩ := s'
    clear ha hj hown hrs c0 f0
    cases fl
    · obtain ⟨q, hq⟩ : ∃ q, isMarkP ws cComma (k, false) = q := ⟨_, rfl⟩
      rw [hq] at cI
      have HQ := Lib.hid hq
      clear hq
      cases q
      · have hres := HJ.out
        rw [moreF_stop (.inr HQ.out)] at hres
        subst hres
        go_wp2_with fail
        refine cI.mono ?_
        rintro e w5 ⟨rfl, hb5⟩
        have ha5 := After.of_below HA.out.1 hb5
        have cS := CSE.out _ ha5
        have HA5 := Lib.hid ha5
        have HO5 := Lib.hid (own_fr HO.out (p := p) (fr_below hb5) hpl)
        clear ha5 hb5 cI
        go_wp2_with fail
        refine cS.mono ?_
        rintro e w6 ⟨rfl, ha6⟩
        go_wp2
        go_ret
        exact ⟨_, rfl, strsA_own (own_fr HO5.out ha6.2 hpl), (HA.out.trans HA5.out).trans ha6⟩
      · have hres := HJ.out
        rw [moreF_go rfl HQ.out] at hres
        have hadv := mark_go (ws := ws) (s := (k, false)) rfl HQ.out
        obtain ⟨s5, hs5⟩ : ∃ s5, markP ws cComma (k, false) = s5 := ⟨_, rfl⟩
        have hge := name_ge ws s5
        rw [hs5] at hres hadv CMK CN
        obtain ⟨y, hy⟩ : ∃ y, nameP ws s5 = y := ⟨_, rfl⟩
        rw [hy] at hres CN hge
        obtain ⟨y, s6⟩ := y
        have HRES := Lib.hid hres
        have hadv2 : k + 1 ≤ s6.1 := by have h1 : s5.1 = k + 1 := hadv; have h2 : s5.1 ≤ s6.1 := hge; omega
        clear hres hadv hge hs5 hy
        simp only at CN HRES
        go_wp2_with fail
        refine cI.mono ?_
        rintro e w5 ⟨rfl, hb5⟩
        have cM := CMK.out _ hb5
        have HA5 := Lib.hid (After.of_below HA.out.1 hb5)
        have HO5 := Lib.hid (own_fr HO.out (p := p) (fr_below hb5) hpl)
        clear hb5 cI
        go_wp2_with fail
        refine cM.mono ?_
        rintro e w6 ⟨rfl, ha6⟩
        have cN := CN.out _ (HA5.out.trans ha6)
        have HA6 := Lib.hid (HA5.out.trans ha6)
        have HO6 := Lib.hid (own_fr HO5.out ha6.2 hpl)
        clear ha6 cM
        go_wp2_with fail
        refine cN.mono ?_
        rintro e w7 ⟨rfl, ha7⟩
        have hA7 := (HA.out.trans HA6.out).trans ha7
        have HO7 := Lib.hid (own_fr HO6.out ha7.2 hpl)
        have HA7 := Lib.hid hA7
        have hs7 := hA7.2.size
        clear ha7 hA7 cN
        go_wp2_with (at_builtin; refine wpList_append_own _ rfl _ _ 35 rfl w.heap.size 9 i0 (.string ByteArray.empty) 1 16 Tryz.underlying35 hi hz0 hz1 hz2 rfl (by decide) _ _ _ rfl (HO7.out.alloc _) ⟨w7.heap.size, 0, none⟩ 1 1 [.string y] rfl rfl ?c1 ?c2 ?c3 ?c4 ?c5 ?_)
        case c1 =>
          intro j u hj
          match j, hj with
          | 0, hj => simp at hj; subst hj; simp [Addr.add]
        case c2 => intro u hu; simp at hu; subst hu; rfl
        case c3 => unfold maxLen; have h1 : k < ws.length := hlt; have h2 : acc.length ≤ k + 1 := hal; omega
        case c4 => have h1 : k < ws.length := hlt; have h2 : acc.length ≤ k + 1 := hal; omega
        case c5 => simp; omega
        intro v' w8 hown' hgrow _
        have hA8 := (HA7.out.alloc (.cells #[.string y] 9)).grown H.out.st hgrow (fun b hb => (HO7.out.lt b hb).1)
        have HO8 : Hid (w8.ownsRow w.heap.size 9 1 v' (acc ++ [y]).length ((acc ++ [y]).map Value.string)) := by
          show w8.ownsRow _ _ _ _ _ _
          rw [List.length_append, List.map_append]
          simpa using hown'
        have HA8 := Lib.hid hA8
        clear hgrow hown' hA8
        go_wp2
        go_roundw
        case rel => exact ⟨f, acc ++ [y], s6, by have h1 : k < ws.length := hlt; have h2 : ws.length - k < f + 1 := hf; omega, HRES.out, by have h2 : acc.length ≤ k + 1 := hal; rw [List.length_append]; simp only [List.length_cons, List.length_nil]; omega, HO8.out, HA8.out⟩
        case measure => rw [HA8.out.1.pos, HA.out.1.pos]; have h1 : k < ws.length := hlt; show ws.length - s6.1 < ws.length - k; omega
    · have hres := HJ.out
      rw [moreF_stop (.inl rfl)] at hres
      subst hres
      have cS := CSE.out _ (After.refl HA.out.1)
      clear cI
      go_wp2_with fail
      refine cS.mono ?_
      rintro e w6 ⟨rfl, ha6⟩
      go_wp2
      go_ret
      exact ⟨_, rfl, strsA_own (own_fr HO.out ha6.2 hpl), HA.out.trans ha6⟩
end Go.Proofs.YtlmnabhhgplhnaaGreatDoor
namespace Go.Proofs.YtlmnabhhgplhnaaGreatDoor
open Go.RowKit

theorem cells5 {w : World} {b : Nat} {x0 x1 x2 x3 x4 : Value} {T : TypeId} (h : w.heap[b]? = some (.cells #[x0, x1, x2, x3, x4] T)) :
    w.cell? ⟨b, 0, none⟩ = some x0 ∧ w.cell? ⟨b, 1, none⟩ = some x1 ∧ w.cell? ⟨b, 2, none⟩ = some x2 ∧ w.cell? ⟨b, 3, none⟩ = some x3 ∧ w.cell? ⟨b, 4, none⟩ = some x4 ∧
    w.frozen? ⟨b, 0, none⟩ = false ∧ w.frozen? ⟨b, 1, none⟩ = false ∧ w.frozen? ⟨b, 2, none⟩ = false ∧ w.frozen? ⟨b, 3, none⟩ = false ∧ w.frozen? ⟨b, 4, none⟩ = false := by
  simp [World.cell?, World.frozen?, h]
/-- A store into a block of the call's own. -/
theorem After.set {w w1 : World} {p : Nat} {v : Value} {ws : List WordT} {s0 s : PS} (h0 : PSt w p v ws s0) (h : After w w1 p v ws s) {a : Addr} (ha : w.heap.size ≤ a.block) (u : Value) : After w (w1.setCell a u) p v ws s := by
  refine ⟨h.1.fr (Av := fun b => b = a.block) (fr_set (a := a) (Av := fun b => b = a.block) rfl u) (fun e => ?_) (fun b hb e => ?_), ?_⟩
  · have := h0.p_lt; omega
  · have := (h0.row.2 b hb).1; omega
  · refine ⟨h.2.os, h.2.tape, h.2.output, by simp [World.setCell]; exact h.2.size, fun k hk hn => ?_⟩
    rw [Below.heap_setCell _ _ _ _ (by omega)]
    exact h.2.block k hk hn

/-- A call that fills a record: the result's cell (untouched yet), the record, the reader. -/
structure SM (T : TypeId) (z : Array Value) (w wr : World) (p : Nat) (v : Value) (ws : List WordT) (s : PS) (cs : Array Value) : Prop where
  af : After w wr p v ws s
  r0 : wr.heap[w.heap.size]? = some (.cells z T)
  r1 : wr.heap[w.heap.size + 1]? = some (.cells cs T)
  big : w.heap.size + 2 ≤ wr.heap.size
theorem SM.begin {T : TypeId} {w : World} {p : Nat} {v : Value} {ws : List WordT} {s : PS} (h : PSt w p v ws s) (z cs : Array Value) : SM T z w ((w.alloc (.cells z T)).alloc (.cells cs T)) p v ws s cs := by
  refine ⟨((After.refl h).alloc _).alloc _, ?_, ?_, by simp⟩
  · rw [Below.heap_alloc _ _ _ (by simp)]; exact alloc_at w _
  · have := alloc_at (w.alloc (.cells z T)) (.cells cs T)
    simpa using this
theorem SM.step {T : TypeId} {z : Array Value} {w wr w' : World} {p : Nat} {v : Value} {ws : List WordT} {s0 s s' : PS} {cs : Array Value} (h0 : PSt w p v ws s0) (h : SM T z w wr p v ws s cs) (ha : After wr w' p v ws s') : SM T z w w' p v ws s' cs := by
  have hp := h0.p_lt
  have hb := h.big
  exact ⟨h.af.trans ha, (ha.2.block _ (by omega) (by omega)).trans h.r0, (ha.2.block _ (by omega) (by omega)).trans h.r1, Nat.le_trans hb ha.2.size⟩
theorem SM.alloc {T : TypeId} {z : Array Value} {w wr : World} {p : Nat} {v : Value} {ws : List WordT} {s0 s : PS} {cs : Array Value} (h0 : PSt w p v ws s0) (h : SM T z w wr p v ws s cs) (o : Obj) : SM T z w (wr.alloc o) p v ws s cs :=
  h.step h0 ((After.refl h.af.1).alloc o)
theorem SM.set {T : TypeId} {z : Array Value} {w wr : World} {p : Nat} {v : Value} {ws : List WordT} {s0 s : PS} {cs : Array Value} (h0 : PSt w p v ws s0) (h : SM T z w wr p v ws s cs) (i : Nat) (u : Value) : SM T z w (wr.setCell ⟨w.heap.size + 1, i, none⟩ u) p v ws s (cs.setIfInBounds i u) := by
  refine ⟨h.af.set h0 (by simp) u, ?_, heap_set i u h.r1, by simp [World.setCell]; exact h.big⟩
  rw [Below.heap_setCell _ _ _ _ (by simp)]
  exact h.r0
theorem SM.rs {T : TypeId} {z : Array Value} {w wr : World} {p : Nat} {v : Value} {ws : List WordT} {s0 s : PS} {cs : Array Value} (h : SM T z w wr p v ws s cs) (h0 : RS w p v ws s0) : RS wr p v ws s := h0.after h.af
/-- What lies in none of the call's first blocks is kept by all that the call does. -/
theorem keep_after {w wr w' : World} {p : Nat} {v : Value} {ws : List WordT} {s0 s' : PS} (h0 : PSt w p v ws s0) (ha : After wr w' p v ws s') : Fr (fun b => b < w.heap.size + 2) wr w' := ha.2.mono fun k _ e => by have := h0.p_lt; omega
theorem strsA_keep {w wr w' : World} {va : Value} {xs : List ByteArray} (h : StrsA (fun b => b < w.heap.size + 2) wr va xs) (hf : Fr (fun b => b < w.heap.size + 2) wr w') : StrsA (fun b => b < w.heap.size + 2) w' va xs := RowA.keep h hf
theorem strsA_fresh {w wr : World} {B : Nat} {va : Value} {xs : List ByteArray} (h : StrsA (fun b => b < B) wr va xs) (hB : w.heap.size + 2 ≤ B) : StrsA (fun b => b < w.heap.size + 2) wr va xs := RowA.mono h fun b _ hb => by omega
theorem strsA_old {w wr : World} {va : Value} {xs : List ByteArray} (h : StrsA (fun b => b < w.heap.size + 2) wr va xs) : StrsA (fun b => b < w.heap.size) wr va xs := RowA.mono h fun b _ hb => by omega
theorem strsA_lit {t : TypeId} (wr : World) (cs : Array Value) (n : Nat) (xs : List ByteArray) (hx : xs.map Value.string = cs.toList) (hn : xs.length = n) (hm : n ≤ maxLen) : StrsA (fun b => b < wr.heap.size) (wr.alloc (.cells cs t)) (.slice (some ⟨wr.heap.size, 0, none⟩) n n) xs := by
  subst hn
  have hcs : cs.size = xs.length * 1 := by rw [← Array.length_toList, ← hx]; simp
  have := World.ownsRow_lit (base := wr.heap.size) (e := t) (size := 1) wr cs xs.length (Nat.le_refl _) hm hcs
  rw [← hx] at this
  exact strsA_own this
theorem rowA_shape {Av : Nat → Prop} {w : World} {va : Value} {k : Nat} {rows : List (List Value)} (h : RowA Av w va k rows) : ∃ a n c, va = .slice a n c := by
  obtain ⟨⟨a, c, rfl, _⟩, _⟩ := h
  exact ⟨a, _, c, rfl⟩
theorem strsA_nil (Av : Nat → Prop) (w : World) : StrsA Av w (.slice none 0 0) [] := rowA_nil Av w 1

/-- What 'step' answers. -/
def StepE (w w' : World) (x : StepS) (e : Ending) : Prop :=
  ∃ va vl, e = .returned (.agg #[.string x.out, .int .i64 x.op, va, vl, .int .i64 x.n]) ∧ StrsA (fun b => b < w.heap.size) w' va x.args ∧ StrsA (fun b => b < w.heap.size) w' vl x.lits
def zStep : Array Value := #[.string ⟨#[]⟩, .int .i64 0, .slice none 0 0, .slice none 0 0, .int .i64 0]

set_option maxHeartbeats 4000000 in
set_option maxRecDepth 100000 in
theorem p_step_any (p : Nat) (v : Value) (ws : List WordT) (s : PS) (w : World) (h : RS w p v ws s) :
    Calls Tryz.prog 128 #[.pointer (some ⟨p, 0, none⟩)] w fun e w' => StepE w w' (stepP ws s).1 e ∧ After w w' p v ws (stepP ws s).2 := by
  have H := Lib.hid h
  have hpl := h.st.p_lt
  obtain ⟨R, hR⟩ : ∃ R, stepP ws s = R := ⟨_, rfl⟩
  rw [hR]
  have CN : Hid (∀ s w', RS w' p v ws s → Calls Tryz.prog 97 #[.pointer (some ⟨p, 0, none⟩)] w' fun e w'' => e = .returned (.string (nameP ws s).1) ∧ After w' w'' p v ws (nameP ws s).2) := fun s w' hr => p_name_any p v ws s w' hr
  have CT : Hid (∀ s w', RS w' p v ws s → Calls Tryz.prog 149 #[.pointer (some ⟨p, 0, none⟩)] w' fun e w'' => e = .returned (.string (textP ws s).1) ∧ After w' w'' p v ws (textP ws s).2) := fun s w' hr => p_text_any p v ws s w' hr
  have CU : Hid (∀ s w', RS w' p v ws s → Calls Tryz.prog 150 #[.pointer (some ⟨p, 0, none⟩)] w' fun e w'' => e = .returned (.int .i64 (numberP ws s).1) ∧ After w' w'' p v ws (numberP ws s).2) := fun s w' hr => p_number_any p v ws s w' hr
  have CO : Hid (∀ s w', RS w' p v ws s → Calls Tryz.prog 147 #[.pointer (some ⟨p, 0, none⟩)] w' fun e w'' => e = .returned (.int .i64 (opP ws s).1) ∧ After w' w'' p v ws (opP ws s).2) := fun s w' hr => p_op_any p v ws s w' hr
  have CM : Hid (∀ key s w', RS w' p v ws s → Calls Tryz.prog 98 #[.pointer (some ⟨p, 0, none⟩), .string key] w' fun e w'' => e = .returned (.tuple #[]) ∧ After w' w'' p v ws (markP ws key s)) := fun key s w' hr => p_mark_any p v ws s key w' hr
  have CL : Hid (∀ s w', RS w' p v ws s → Calls Tryz.prog 148 #[.pointer (some ⟨p, 0, none⟩)] w' fun e w'' => ∃ vv, e = .returned vv ∧ StrsA (fun b => b < w'.heap.size) w'' vv (namesP ws s).1 ∧ After w' w'' p v ws (namesP ws s).2) := fun s w' hr => p_names_any p v ws s w' hr
  have h0 := SM.begin (T := 50) h.st zStep zStep
  unfold zStep at h0
  have H0 := Lib.hid h0
  have c1 := CN.out _ _ (h0.rs h)
  obtain ⟨x1, hx1⟩ : ∃ x, nameP ws s = x := ⟨_, rfl⟩
  simp only [hx1] at c1
  obtain ⟨nm, s1⟩ := x1
  obtain ⟨s2, hs2⟩ : ∃ x, markP ws cEq s1 = x := ⟨_, rfl⟩
  obtain ⟨x3, hx3⟩ : ∃ x, opP ws s2 = x := ⟨_, rfl⟩
  obtain ⟨op, s3⟩ := x3
  have hres : R = (⟨nm, op, (tailP ws op s3).1.1, (tailP ws op s3).1.2.1, (tailP ws op s3).1.2.2⟩, markP ws cSemi (tailP ws op s3).2) := by
    rw [← hR]; unfold stepP; simp only [hx1, hs2, hx3]
  have HRES := Lib.hid hres
  have HS2 := Lib.hid hs2
  have HX3 := Lib.hid hx3
  clear hres hR hs2 hx3 hx1 h0 h
  go_enter Tryz.func128, Tryz.ntmps128
  go_wp2_with fail
  refine c1.mono ?_
  rintro e w1 ⟨rfl, ha1⟩
  have h1 := H0.out.step H.out.st ha1
  obtain ⟨d0, d1, d2, d3, d4, g0, g1, g2, g3, g4⟩ := cells5 h1.r1
  have h2 := h1.set H.out.st 0 (.string nm)
  have H2 := Lib.hid h2
  have c2 := CM.out cEq _ _ (h2.rs H.out)
  rw [HS2.out] at c2
  clear ha1 h1 h2 c1
  go_wp2_with fail
  refine c2.mono ?_
  rintro e w2 ⟨rfl, ha2⟩
  have h3 := H2.out.step H.out.st ha2
  have H3 := Lib.hid h3
  have c3 := CO.out _ _ (h3.rs H.out)
  rw [HX3.out] at c3
  clear ha2 h3 c2 d0 d1 d2 d3 d4 g0 g1 g2 g3 g4
  go_wp2_with fail
  refine c3.mono ?_
  rintro e w3 ⟨rfl, ha3⟩
  have h4 := H3.out.step H.out.st ha3
  obtain ⟨d0, d1, d2, d3, d4, g0, g1, g2, g3, g4⟩ := cells5 h4.r1
  have h5 : SM 50 #[.string ⟨#[]⟩, .int .i64 0, .slice none 0 0, .slice none 0 0, .int .i64 0] w _ p v ws s3 #[.string nm, .int .i64 op, .slice none 0 0, .slice none 0 0, .int .i64 0] := h4.set H.out.st 1 (.int .i64 op)
  have H5 := Lib.hid h5
  clear ha3 h4 h5 c3
  by_cases h5 : op = 5
  · subst h5
    have htl : tailP ws 5 s3 = (((namesP ws s3).1, [], 0), (namesP ws s3).2) := by simp [tailP]
    have cL := CL.out _ _ (H5.out.rs H.out)
    obtain ⟨y, hy⟩ : ∃ y, namesP ws s3 = y := ⟨_, rfl⟩
    simp only [hy] at cL htl
    obtain ⟨ls, s4⟩ := y
    have HTL := Lib.hid htl
    clear htl hy
    go_wp2_with fail
    refine cL.mono ?_
    rintro e w4 ⟨va, rfl, hva, ha4⟩
    obtain ⟨va1, va2, va3, hvs⟩ := rowA_shape hva
    subst hvs
    have h6 := H5.out.step H.out.st ha4
    have hva2 := strsA_fresh (w := w) hva H5.out.big
    clear d0 d1 d2 d3 d4 g0 g1 g2 g3 g4
    obtain ⟨d0, d1, d2, d3, d4, g0, g1, g2, g3, g4⟩ := cells5 h6.r1
    have h7 : SM 50 #[.string ⟨#[]⟩, .int .i64 0, .slice none 0 0, .slice none 0 0, .int .i64 0] w _ p v ws s4 #[.string nm, .int .i64 5, .slice va1 va2 va3, .slice none 0 0, .int .i64 0] := h6.set H.out.st 2 (.slice va1 va2 va3)
    have HVA := Lib.hid (strsA_keep hva2 (fr_set (a := ⟨w.heap.size + 1, 2, none⟩) (by simp) (.slice va1 va2 va3)))
    have H7 := Lib.hid h7
    clear h6 h7 ha4 cL hva hva2
    have cE := CM.out cSemi _ _ (H7.out.rs H.out)
    go_wp2_with fail
    refine cE.mono ?_
    rintro e wE ⟨rfl, haE⟩
    have hE := H7.out.step H.out.st haE
    have kE := keep_after H.out.st haE
    try clear d0 d1 d2 d3 d4 g0 g1 g2 g3 g4
    obtain ⟨d0, d1, d2, d3, d4, g0, g1, g2, g3, g4⟩ := cells5 hE.r1
    obtain ⟨e0, e1, e2, e3, e4, i0, i1, i2, i3, i4⟩ := cells5 hE.r0
    have HE := Lib.hid hE
    have HKE := Lib.hid kE
    clear hE haE kE cE
    go_wp2
    refine bodyPost_ret (results_c rfl _ _ w.heap.size _ _ _ _ rfl (heap_set _ _ (heap_set _ _ (heap_set _ _ (heap_set _ _ (heap_set _ _ HE.out.r0))))) Tryz.underlying50 rfl (by kernel_rfl)) rfl ?_
    have kF : ∀ (u0 u1 u2 u3 u4 : Value), Fr (fun b => b < w.heap.size + 2) wE (((((wE.setCell ⟨w.heap.size, 0, none⟩ u0).setCell ⟨w.heap.size, 1, none⟩ u1).setCell ⟨w.heap.size, 2, none⟩ u2).setCell ⟨w.heap.size, 3, none⟩ u3).setCell ⟨w.heap.size, 4, none⟩ u4) := fun _ _ _ _ _ => ((((fr_set (by simp) _).trans (fr_set (by simp) _)).trans (fr_set (by simp) _)).trans (fr_set (by simp) _)).trans (fr_set (by simp) _)
    rw [HRES.out, HTL.out]
    exact ⟨⟨_, _, rfl, strsA_old (strsA_keep (strsA_keep HVA.out HKE.out) (kF _ _ _ _ _)), strsA_old (strsA_keep (strsA_keep (strsA_nil _ _) HKE.out) (kF _ _ _ _ _))⟩, ((((HE.out.af.set H.out.st (Nat.le_refl _) _).set H.out.st (Nat.le_refl _) _).set H.out.st (Nat.le_refl _) _).set H.out.st (Nat.le_refl _) _).set H.out.st (Nat.le_refl _) _⟩
  · have n5 : ¬ op = 5 := h5
    clear h5
    by_cases h6 : op = 6
    · subst h6
      have htl : tailP ws 6 s3 = (([], [(textP ws s3).1], 0), (textP ws s3).2) := by simp [tailP]
      have HTL0 := Lib.hid htl
      clear htl
      have q1 := CT.out _ _ (H5.out.rs H.out)
      have hq1 := HTL0.out
      obtain ⟨y, hy⟩ : ∃ y, textP ws s3 = y := ⟨_, rfl⟩
      simp only [hy] at q1 hq1
      obtain ⟨t1, z1⟩ := y
      simp only at q1 hq1
      clear HTL0 hy
      have HTL0 := Lib.hid hq1
      clear hq1
      go_wp2_with fail
      refine q1.mono ?_
      rintro e v1 ⟨rfl, ha1⟩
      have m1 := H5.out.step H.out.st ha1
      have M1 := Lib.hid m1
      clear m1 ha1 q1
      have al := M1.out.alloc H.out.st (.cells #[.string t1] 9)
      have sl := strsA_fresh (w := w) (strsA_lit (t := 9) v1 #[.string t1] 1 [t1] rfl rfl (by unfold maxLen; omega)) M1.out.big
      have SL3 := Lib.hid (strsA_keep sl (fr_set (a := ⟨w.heap.size + 1, 3, none⟩) (by simp) (.slice (some ⟨v1.heap.size, 0, none⟩) 1 1)))
      try clear d0 d1 d2 d3 d4 g0 g1 g2 g3 g4
      obtain ⟨d0, d1, d2, d3, d4, g0, g1, g2, g3, g4⟩ := cells5 al.r1
      have m2 : SM 50 #[.string ⟨#[]⟩, .int .i64 0, .slice none 0 0, .slice none 0 0, .int .i64 0] w _ p v ws z1 #[.string nm, .int .i64 6, .slice none 0 0, .slice (some ⟨v1.heap.size, 0, none⟩) 1 1, .int .i64 0] := al.set H.out.st 3 (.slice (some ⟨v1.heap.size, 0, none⟩) 1 1)
      have M2 := Lib.hid m2
      clear al sl m2
      have HTL := Lib.hid HTL0.out
      clear HTL0
      have cE := CM.out cSemi _ _ (M2.out.rs H.out)
      go_wp2_with fail
      refine cE.mono ?_
      rintro e wE ⟨rfl, haE⟩
      have hE := M2.out.step H.out.st haE
      have kE := keep_after H.out.st haE
      try clear d0 d1 d2 d3 d4 g0 g1 g2 g3 g4
      obtain ⟨d0, d1, d2, d3, d4, g0, g1, g2, g3, g4⟩ := cells5 hE.r1
      obtain ⟨e0, e1, e2, e3, e4, i0, i1, i2, i3, i4⟩ := cells5 hE.r0
      have HE := Lib.hid hE
      have HKE := Lib.hid kE
      clear hE haE kE cE
      go_wp2
      refine bodyPost_ret (results_c rfl _ _ w.heap.size _ _ _ _ rfl (heap_set _ _ (heap_set _ _ (heap_set _ _ (heap_set _ _ (heap_set _ _ HE.out.r0))))) Tryz.underlying50 rfl (by kernel_rfl)) rfl ?_
      have kF : ∀ (u0 u1 u2 u3 u4 : Value), Fr (fun b => b < w.heap.size + 2) wE (((((wE.setCell ⟨w.heap.size, 0, none⟩ u0).setCell ⟨w.heap.size, 1, none⟩ u1).setCell ⟨w.heap.size, 2, none⟩ u2).setCell ⟨w.heap.size, 3, none⟩ u3).setCell ⟨w.heap.size, 4, none⟩ u4) := fun _ _ _ _ _ => ((((fr_set (by simp) _).trans (fr_set (by simp) _)).trans (fr_set (by simp) _)).trans (fr_set (by simp) _)).trans (fr_set (by simp) _)
      rw [HRES.out, HTL.out]
      exact ⟨⟨_, _, rfl, strsA_old (strsA_keep (strsA_keep (strsA_nil _ _) HKE.out) (kF _ _ _ _ _)), strsA_old (strsA_keep (strsA_keep SL3.out HKE.out) (kF _ _ _ _ _))⟩, ((((HE.out.af.set H.out.st (Nat.le_refl _) _).set H.out.st (Nat.le_refl _) _).set H.out.st (Nat.le_refl _) _).set H.out.st (Nat.le_refl _) _).set H.out.st (Nat.le_refl _) _⟩
    · have n6 : ¬ op = 6 := h6
      clear h6
      by_cases h7 : op = 7
      · subst h7
        have htl : tailP ws 7 s3 = (([(nameP ws (textP ws s3).2).1], [(textP ws s3).1], 0), (nameP ws (textP ws s3).2).2) := by simp [tailP]
        have HTL0 := Lib.hid htl
        clear htl
        have q1 := CT.out _ _ (H5.out.rs H.out)
        have hq1 := HTL0.out
        obtain ⟨y, hy⟩ : ∃ y, textP ws s3 = y := ⟨_, rfl⟩
        simp only [hy] at q1 hq1
        obtain ⟨t1, z1⟩ := y
        simp only at q1 hq1
        clear HTL0 hy
        have HTL0 := Lib.hid hq1
        clear hq1
        go_wp2_with fail
        refine q1.mono ?_
        rintro e v1 ⟨rfl, ha1⟩
        have m1 := H5.out.step H.out.st ha1
        have M1 := Lib.hid m1
        clear m1 ha1 q1
        have al := M1.out.alloc H.out.st (.cells #[.string t1] 9)
        have sl := strsA_fresh (w := w) (strsA_lit (t := 9) v1 #[.string t1] 1 [t1] rfl rfl (by unfold maxLen; omega)) M1.out.big
        have SL3 := Lib.hid (strsA_keep sl (fr_set (a := ⟨w.heap.size + 1, 3, none⟩) (by simp) (.slice (some ⟨v1.heap.size, 0, none⟩) 1 1)))
        try clear d0 d1 d2 d3 d4 g0 g1 g2 g3 g4
        obtain ⟨d0, d1, d2, d3, d4, g0, g1, g2, g3, g4⟩ := cells5 al.r1
        have m2 : SM 50 #[.string ⟨#[]⟩, .int .i64 0, .slice none 0 0, .slice none 0 0, .int .i64 0] w _ p v ws z1 #[.string nm, .int .i64 7, .slice none 0 0, .slice (some ⟨v1.heap.size, 0, none⟩) 1 1, .int .i64 0] := al.set H.out.st 3 (.slice (some ⟨v1.heap.size, 0, none⟩) 1 1)
        have M2 := Lib.hid m2
        clear al sl m2
        have q3 := CN.out _ _ (M2.out.rs H.out)
        have hq3 := HTL0.out
        obtain ⟨y, hy⟩ : ∃ y, nameP ws z1 = y := ⟨_, rfl⟩
        simp only [hy] at q3 hq3
        obtain ⟨t3, z3⟩ := y
        simp only at q3 hq3
        clear HTL0 hy
        have HTL0 := Lib.hid hq3
        clear hq3
        go_wp2_with fail
        refine q3.mono ?_
        rintro e v3 ⟨rfl, ha3⟩
        have m3 := M2.out.step H.out.st ha3
        have M3 := Lib.hid m3
        have SL3n3 := Lib.hid (strsA_keep SL3.out (keep_after H.out.st ha3))
        clear m3 ha3 q3
        have al := M3.out.alloc H.out.st (.cells #[.string t3] 9)
        have sl := strsA_fresh (w := w) (strsA_lit (t := 9) v3 #[.string t3] 1 [t3] rfl rfl (by unfold maxLen; omega)) M3.out.big
        have SL2 := Lib.hid (strsA_keep sl (fr_set (a := ⟨w.heap.size + 1, 2, none⟩) (by simp) (.slice (some ⟨v3.heap.size, 0, none⟩) 1 1)))
        have SL3n3m := Lib.hid (strsA_keep (strsA_keep SL3n3.out (fr_alloc _ _ (.cells #[.string t3] 9))) (fr_set (a := ⟨w.heap.size + 1, 2, none⟩) (by simp) (.slice (some ⟨v3.heap.size, 0, none⟩) 1 1)))
        try clear d0 d1 d2 d3 d4 g0 g1 g2 g3 g4
        obtain ⟨d0, d1, d2, d3, d4, g0, g1, g2, g3, g4⟩ := cells5 al.r1
        have m4 : SM 50 #[.string ⟨#[]⟩, .int .i64 0, .slice none 0 0, .slice none 0 0, .int .i64 0] w _ p v ws z3 #[.string nm, .int .i64 7, .slice (some ⟨v3.heap.size, 0, none⟩) 1 1, .slice (some ⟨v1.heap.size, 0, none⟩) 1 1, .int .i64 0] := al.set H.out.st 2 (.slice (some ⟨v3.heap.size, 0, none⟩) 1 1)
        have M4 := Lib.hid m4
        clear al sl m4
        have HTL := Lib.hid HTL0.out
        clear HTL0
        have cE := CM.out cSemi _ _ (M4.out.rs H.out)
        go_wp2_with fail
        refine cE.mono ?_
        rintro e wE ⟨rfl, haE⟩
        have hE := M4.out.step H.out.st haE
        have kE := keep_after H.out.st haE
        try clear d0 d1 d2 d3 d4 g0 g1 g2 g3 g4
        obtain ⟨d0, d1, d2, d3, d4, g0, g1, g2, g3, g4⟩ := cells5 hE.r1
        obtain ⟨e0, e1, e2, e3, e4, i0, i1, i2, i3, i4⟩ := cells5 hE.r0
        have HE := Lib.hid hE
        have HKE := Lib.hid kE
        clear hE haE kE cE
        go_wp2
        refine bodyPost_ret (results_c rfl _ _ w.heap.size _ _ _ _ rfl (heap_set _ _ (heap_set _ _ (heap_set _ _ (heap_set _ _ (heap_set _ _ HE.out.r0))))) Tryz.underlying50 rfl (by kernel_rfl)) rfl ?_
        have kF : ∀ (u0 u1 u2 u3 u4 : Value), Fr (fun b => b < w.heap.size + 2) wE (((((wE.setCell ⟨w.heap.size, 0, none⟩ u0).setCell ⟨w.heap.size, 1, none⟩ u1).setCell ⟨w.heap.size, 2, none⟩ u2).setCell ⟨w.heap.size, 3, none⟩ u3).setCell ⟨w.heap.size, 4, none⟩ u4) := fun _ _ _ _ _ => ((((fr_set (by simp) _).trans (fr_set (by simp) _)).trans (fr_set (by simp) _)).trans (fr_set (by simp) _)).trans (fr_set (by simp) _)
        rw [HRES.out, HTL.out]
        exact ⟨⟨_, _, rfl, strsA_old (strsA_keep (strsA_keep SL2.out HKE.out) (kF _ _ _ _ _)), strsA_old (strsA_keep (strsA_keep SL3n3m.out HKE.out) (kF _ _ _ _ _))⟩, ((((HE.out.af.set H.out.st (Nat.le_refl _) _).set H.out.st (Nat.le_refl _) _).set H.out.st (Nat.le_refl _) _).set H.out.st (Nat.le_refl _) _).set H.out.st (Nat.le_refl _) _⟩
      · have n7 : ¬ op = 7 := h7
        clear h7
        by_cases h8 : op = 8
        · subst h8
          have htl : tailP ws 8 s3 = (([(nameP ws (textP ws (textP ws s3).2).2).1], [(textP ws s3).1, (textP ws (textP ws s3).2).1], 0), (nameP ws (textP ws (textP ws s3).2).2).2) := by simp [tailP]
          have HTL0 := Lib.hid htl
          clear htl
          have q1 := CT.out _ _ (H5.out.rs H.out)
          have hq1 := HTL0.out
          obtain ⟨y, hy⟩ : ∃ y, textP ws s3 = y := ⟨_, rfl⟩
          simp only [hy] at q1 hq1
          obtain ⟨t1, z1⟩ := y
          simp only at q1 hq1
          clear HTL0 hy
          have HTL0 := Lib.hid hq1
          clear hq1
          go_wp2_with fail
          refine q1.mono ?_
          rintro e v1 ⟨rfl, ha1⟩
          have m1 := H5.out.step H.out.st ha1
          have M1 := Lib.hid m1
          clear m1 ha1 q1
          have q2 := CT.out _ _ (M1.out.rs H.out)
          have hq2 := HTL0.out
          obtain ⟨y, hy⟩ : ∃ y, textP ws z1 = y := ⟨_, rfl⟩
          simp only [hy] at q2 hq2
          obtain ⟨t2, z2⟩ := y
          simp only at q2 hq2
          clear HTL0 hy
          have HTL0 := Lib.hid hq2
          clear hq2
          go_wp2_with fail
          refine q2.mono ?_
          rintro e v2 ⟨rfl, ha2⟩
          have m2 := M1.out.step H.out.st ha2
          have M2 := Lib.hid m2
          clear m2 ha2 q2
          have al := M2.out.alloc H.out.st (.cells #[.string t1, .string t2] 9)
          have sl := strsA_fresh (w := w) (strsA_lit (t := 9) v2 #[.string t1, .string t2] 2 [t1, t2] rfl rfl (by unfold maxLen; omega)) M2.out.big
          have SL3 := Lib.hid (strsA_keep sl (fr_set (a := ⟨w.heap.size + 1, 3, none⟩) (by simp) (.slice (some ⟨v2.heap.size, 0, none⟩) 2 2)))
          try clear d0 d1 d2 d3 d4 g0 g1 g2 g3 g4
          obtain ⟨d0, d1, d2, d3, d4, g0, g1, g2, g3, g4⟩ := cells5 al.r1
          have m3 : SM 50 #[.string ⟨#[]⟩, .int .i64 0, .slice none 0 0, .slice none 0 0, .int .i64 0] w _ p v ws z2 #[.string nm, .int .i64 8, .slice none 0 0, .slice (some ⟨v2.heap.size, 0, none⟩) 2 2, .int .i64 0] := al.set H.out.st 3 (.slice (some ⟨v2.heap.size, 0, none⟩) 2 2)
          have M3 := Lib.hid m3
          clear al sl m3
          have q4 := CN.out _ _ (M3.out.rs H.out)
          have hq4 := HTL0.out
          obtain ⟨y, hy⟩ : ∃ y, nameP ws z2 = y := ⟨_, rfl⟩
          simp only [hy] at q4 hq4
          obtain ⟨t4, z4⟩ := y
          simp only at q4 hq4
          clear HTL0 hy
          have HTL0 := Lib.hid hq4
          clear hq4
          go_wp2_with fail
          refine q4.mono ?_
          rintro e v4 ⟨rfl, ha4⟩
          have m4 := M3.out.step H.out.st ha4
          have M4 := Lib.hid m4
          have SL3n4 := Lib.hid (strsA_keep SL3.out (keep_after H.out.st ha4))
          clear m4 ha4 q4
          have al := M4.out.alloc H.out.st (.cells #[.string t4] 9)
          have sl := strsA_fresh (w := w) (strsA_lit (t := 9) v4 #[.string t4] 1 [t4] rfl rfl (by unfold maxLen; omega)) M4.out.big
          have SL2 := Lib.hid (strsA_keep sl (fr_set (a := ⟨w.heap.size + 1, 2, none⟩) (by simp) (.slice (some ⟨v4.heap.size, 0, none⟩) 1 1)))
          have SL3n4m := Lib.hid (strsA_keep (strsA_keep SL3n4.out (fr_alloc _ _ (.cells #[.string t4] 9))) (fr_set (a := ⟨w.heap.size + 1, 2, none⟩) (by simp) (.slice (some ⟨v4.heap.size, 0, none⟩) 1 1)))
          try clear d0 d1 d2 d3 d4 g0 g1 g2 g3 g4
          obtain ⟨d0, d1, d2, d3, d4, g0, g1, g2, g3, g4⟩ := cells5 al.r1
          have m5 : SM 50 #[.string ⟨#[]⟩, .int .i64 0, .slice none 0 0, .slice none 0 0, .int .i64 0] w _ p v ws z4 #[.string nm, .int .i64 8, .slice (some ⟨v4.heap.size, 0, none⟩) 1 1, .slice (some ⟨v2.heap.size, 0, none⟩) 2 2, .int .i64 0] := al.set H.out.st 2 (.slice (some ⟨v4.heap.size, 0, none⟩) 1 1)
          have M5 := Lib.hid m5
          clear al sl m5
          have HTL := Lib.hid HTL0.out
          clear HTL0
          have cE := CM.out cSemi _ _ (M5.out.rs H.out)
          go_wp2_with fail
          refine cE.mono ?_
          rintro e wE ⟨rfl, haE⟩
          have hE := M5.out.step H.out.st haE
          have kE := keep_after H.out.st haE
          try clear d0 d1 d2 d3 d4 g0 g1 g2 g3 g4
          obtain ⟨d0, d1, d2, d3, d4, g0, g1, g2, g3, g4⟩ := cells5 hE.r1
          obtain ⟨e0, e1, e2, e3, e4, i0, i1, i2, i3, i4⟩ := cells5 hE.r0
          have HE := Lib.hid hE
          have HKE := Lib.hid kE
          clear hE haE kE cE
          go_wp2
          refine bodyPost_ret (results_c rfl _ _ w.heap.size _ _ _ _ rfl (heap_set _ _ (heap_set _ _ (heap_set _ _ (heap_set _ _ (heap_set _ _ HE.out.r0))))) Tryz.underlying50 rfl (by kernel_rfl)) rfl ?_
          have kF : ∀ (u0 u1 u2 u3 u4 : Value), Fr (fun b => b < w.heap.size + 2) wE (((((wE.setCell ⟨w.heap.size, 0, none⟩ u0).setCell ⟨w.heap.size, 1, none⟩ u1).setCell ⟨w.heap.size, 2, none⟩ u2).setCell ⟨w.heap.size, 3, none⟩ u3).setCell ⟨w.heap.size, 4, none⟩ u4) := fun _ _ _ _ _ => ((((fr_set (by simp) _).trans (fr_set (by simp) _)).trans (fr_set (by simp) _)).trans (fr_set (by simp) _)).trans (fr_set (by simp) _)
          rw [HRES.out, HTL.out]
          exact ⟨⟨_, _, rfl, strsA_old (strsA_keep (strsA_keep SL2.out HKE.out) (kF _ _ _ _ _)), strsA_old (strsA_keep (strsA_keep SL3n4m.out HKE.out) (kF _ _ _ _ _))⟩, ((((HE.out.af.set H.out.st (Nat.le_refl _) _).set H.out.st (Nat.le_refl _) _).set H.out.st (Nat.le_refl _) _).set H.out.st (Nat.le_refl _) _).set H.out.st (Nat.le_refl _) _⟩
        · have n8 : ¬ op = 8 := h8
          clear h8
          by_cases h9 : op = 9
          · subst h9
            have htl : tailP ws 9 s3 = (([(nameP ws (numberP ws s3).2).1], [], (numberP ws s3).1), (nameP ws (numberP ws s3).2).2) := by simp [tailP]
            have HTL0 := Lib.hid htl
            clear htl
            have q1 := CU.out _ _ (H5.out.rs H.out)
            have hq1 := HTL0.out
            obtain ⟨y, hy⟩ : ∃ y, numberP ws s3 = y := ⟨_, rfl⟩
            simp only [hy] at q1 hq1
            obtain ⟨t1, z1⟩ := y
            simp only at q1 hq1
            clear HTL0 hy
            have HTL0 := Lib.hid hq1
            clear hq1
            go_wp2_with fail
            refine q1.mono ?_
            rintro e v1 ⟨rfl, ha1⟩
            have al := H5.out.step H.out.st ha1
            try clear d0 d1 d2 d3 d4 g0 g1 g2 g3 g4
            obtain ⟨d0, d1, d2, d3, d4, g0, g1, g2, g3, g4⟩ := cells5 al.r1
            have m2 : SM 50 #[.string ⟨#[]⟩, .int .i64 0, .slice none 0 0, .slice none 0 0, .int .i64 0] w _ p v ws z1 #[.string nm, .int .i64 9, .slice none 0 0, .slice none 0 0, .int .i64 t1] := al.set H.out.st 4 (.int .i64 t1)
            have M2 := Lib.hid m2
            clear al m2 ha1 q1
            have q3 := CN.out _ _ (M2.out.rs H.out)
            have hq3 := HTL0.out
            obtain ⟨y, hy⟩ : ∃ y, nameP ws z1 = y := ⟨_, rfl⟩
            simp only [hy] at q3 hq3
            obtain ⟨t3, z3⟩ := y
            simp only at q3 hq3
            clear HTL0 hy
            have HTL0 := Lib.hid hq3
            clear hq3
            go_wp2_with fail
            refine q3.mono ?_
            rintro e v3 ⟨rfl, ha3⟩
            have m3 := M2.out.step H.out.st ha3
            have M3 := Lib.hid m3
            clear m3 ha3 q3
            have al := M3.out.alloc H.out.st (.cells #[.string t3] 9)
            have sl := strsA_fresh (w := w) (strsA_lit (t := 9) v3 #[.string t3] 1 [t3] rfl rfl (by unfold maxLen; omega)) M3.out.big
            have SL2 := Lib.hid (strsA_keep sl (fr_set (a := ⟨w.heap.size + 1, 2, none⟩) (by simp) (.slice (some ⟨v3.heap.size, 0, none⟩) 1 1)))
            try clear d0 d1 d2 d3 d4 g0 g1 g2 g3 g4
            obtain ⟨d0, d1, d2, d3, d4, g0, g1, g2, g3, g4⟩ := cells5 al.r1
            have m4 : SM 50 #[.string ⟨#[]⟩, .int .i64 0, .slice none 0 0, .slice none 0 0, .int .i64 0] w _ p v ws z3 #[.string nm, .int .i64 9, .slice (some ⟨v3.heap.size, 0, none⟩) 1 1, .slice none 0 0, .int .i64 t1] := al.set H.out.st 2 (.slice (some ⟨v3.heap.size, 0, none⟩) 1 1)
            have M4 := Lib.hid m4
            clear al sl m4
            have HTL := Lib.hid HTL0.out
            clear HTL0
            have cE := CM.out cSemi _ _ (M4.out.rs H.out)
            go_wp2_with fail
            refine cE.mono ?_
            rintro e wE ⟨rfl, haE⟩
            have hE := M4.out.step H.out.st haE
            have kE := keep_after H.out.st haE
            try clear d0 d1 d2 d3 d4 g0 g1 g2 g3 g4
            obtain ⟨d0, d1, d2, d3, d4, g0, g1, g2, g3, g4⟩ := cells5 hE.r1
            obtain ⟨e0, e1, e2, e3, e4, i0, i1, i2, i3, i4⟩ := cells5 hE.r0
            have HE := Lib.hid hE
            have HKE := Lib.hid kE
            clear hE haE kE cE
            go_wp2
            refine bodyPost_ret (results_c rfl _ _ w.heap.size _ _ _ _ rfl (heap_set _ _ (heap_set _ _ (heap_set _ _ (heap_set _ _ (heap_set _ _ HE.out.r0))))) Tryz.underlying50 rfl (by kernel_rfl)) rfl ?_
            have kF : ∀ (u0 u1 u2 u3 u4 : Value), Fr (fun b => b < w.heap.size + 2) wE (((((wE.setCell ⟨w.heap.size, 0, none⟩ u0).setCell ⟨w.heap.size, 1, none⟩ u1).setCell ⟨w.heap.size, 2, none⟩ u2).setCell ⟨w.heap.size, 3, none⟩ u3).setCell ⟨w.heap.size, 4, none⟩ u4) := fun _ _ _ _ _ => ((((fr_set (by simp) _).trans (fr_set (by simp) _)).trans (fr_set (by simp) _)).trans (fr_set (by simp) _)).trans (fr_set (by simp) _)
            rw [HRES.out, HTL.out]
            exact ⟨⟨_, _, rfl, strsA_old (strsA_keep (strsA_keep SL2.out HKE.out) (kF _ _ _ _ _)), strsA_old (strsA_keep (strsA_keep (strsA_nil _ _) HKE.out) (kF _ _ _ _ _))⟩, ((((HE.out.af.set H.out.st (Nat.le_refl _) _).set H.out.st (Nat.le_refl _) _).set H.out.st (Nat.le_refl _) _).set H.out.st (Nat.le_refl _) _).set H.out.st (Nat.le_refl _) _⟩
          · have n9 : ¬ op = 9 := h9
            clear h9
            have htl : tailP ws op s3 = (([(nameP ws s3).1], [], 0), (nameP ws s3).2) := by simp [tailP, n5, n6, n7, n8, n9]
            have HTL0 := Lib.hid htl
            clear htl
            have q1 := CN.out _ _ (H5.out.rs H.out)
            have hq1 := HTL0.out
            obtain ⟨y, hy⟩ : ∃ y, nameP ws s3 = y := ⟨_, rfl⟩
            simp only [hy] at q1 hq1
            obtain ⟨t1, z1⟩ := y
            simp only at q1 hq1
            clear HTL0 hy
            have HTL0 := Lib.hid hq1
            clear hq1
            go_wp2_with fail
            refine q1.mono ?_
            rintro e v1 ⟨rfl, ha1⟩
            have m1 := H5.out.step H.out.st ha1
            have M1 := Lib.hid m1
            clear m1 ha1 q1
            have al := M1.out.alloc H.out.st (.cells #[.string t1] 9)
            have sl := strsA_fresh (w := w) (strsA_lit (t := 9) v1 #[.string t1] 1 [t1] rfl rfl (by unfold maxLen; omega)) M1.out.big
            have SL2 := Lib.hid (strsA_keep sl (fr_set (a := ⟨w.heap.size + 1, 2, none⟩) (by simp) (.slice (some ⟨v1.heap.size, 0, none⟩) 1 1)))
            try clear d0 d1 d2 d3 d4 g0 g1 g2 g3 g4
            obtain ⟨d0, d1, d2, d3, d4, g0, g1, g2, g3, g4⟩ := cells5 al.r1
            have m2 : SM 50 #[.string ⟨#[]⟩, .int .i64 0, .slice none 0 0, .slice none 0 0, .int .i64 0] w _ p v ws z1 #[.string nm, .int .i64 op, .slice (some ⟨v1.heap.size, 0, none⟩) 1 1, .slice none 0 0, .int .i64 0] := al.set H.out.st 2 (.slice (some ⟨v1.heap.size, 0, none⟩) 1 1)
            have M2 := Lib.hid m2
            clear al sl m2
            have HTL := Lib.hid HTL0.out
            clear HTL0
            have cE := CM.out cSemi _ _ (M2.out.rs H.out)
            go_wp2_with fail
            refine cE.mono ?_
            rintro e wE ⟨rfl, haE⟩
            have hE := M2.out.step H.out.st haE
            have kE := keep_after H.out.st haE
            try clear d0 d1 d2 d3 d4 g0 g1 g2 g3 g4
            obtain ⟨d0, d1, d2, d3, d4, g0, g1, g2, g3, g4⟩ := cells5 hE.r1
            obtain ⟨e0, e1, e2, e3, e4, i0, i1, i2, i3, i4⟩ := cells5 hE.r0
            have HE := Lib.hid hE
            have HKE := Lib.hid kE
            clear hE haE kE cE
            go_wp2
            refine bodyPost_ret (results_c rfl _ _ w.heap.size _ _ _ _ rfl (heap_set _ _ (heap_set _ _ (heap_set _ _ (heap_set _ _ (heap_set _ _ HE.out.r0))))) Tryz.underlying50 rfl (by kernel_rfl)) rfl ?_
            have kF : ∀ (u0 u1 u2 u3 u4 : Value), Fr (fun b => b < w.heap.size + 2) wE (((((wE.setCell ⟨w.heap.size, 0, none⟩ u0).setCell ⟨w.heap.size, 1, none⟩ u1).setCell ⟨w.heap.size, 2, none⟩ u2).setCell ⟨w.heap.size, 3, none⟩ u3).setCell ⟨w.heap.size, 4, none⟩ u4) := fun _ _ _ _ _ => ((((fr_set (by simp) _).trans (fr_set (by simp) _)).trans (fr_set (by simp) _)).trans (fr_set (by simp) _)).trans (fr_set (by simp) _)
            rw [HRES.out, HTL.out]
            exact ⟨⟨_, _, rfl, strsA_old (strsA_keep (strsA_keep SL2.out HKE.out) (kF _ _ _ _ _)), strsA_old (strsA_keep (strsA_keep (strsA_nil _ _) HKE.out) (kF _ _ _ _ _))⟩, ((((HE.out.af.set H.out.st (Nat.le_refl _) _).set H.out.st (Nat.le_refl _) _).set H.out.st (Nat.le_refl _) _).set H.out.st (Nat.le_refl _) _).set H.out.st (Nat.le_refl _) _⟩
end Go.Proofs.YtlmnabhhgplhnaaGreatDoor
namespace Go.Proofs.YtlmnabhhgplhnaaGreatDoor
open Go.RowKit

theorem own_lower {w : World} {B B' e size : Nat} {v : Value} {n : Nat} {xs : List Value} (h : w.ownsRow B e size v n xs) (hB : B' ≤ B) : w.ownsRow B' e size v n xs := by
  obtain ⟨h1, h2 | ⟨g, cap, cur, hv, hg, hr⟩⟩ := h
  · exact ⟨h1, .inl h2⟩
  · exact ⟨h1, .inr ⟨g, cap, cur, hv, Nat.le_trans hB hg, hr⟩⟩
theorem wpList_append_new {P : Program} (w : World) {ops : Array Oper} {rest : List Oper} {o : Oper} {a : Act} {Q : Exit → Act → World → Prop}
    (hg : o.guard = none) (s x : Operand) (t : TypeId) (hop : o.op = Op.call { callee := Callee.builtin Builtin.append, args := #[s, x], argTypes := #[t, t] })
    (base : Nat) (e : TypeId) (i : TypeInfo) (z : Value) (size bytes : Nat) (h1 : P.underlying t = some (.slice e)) (h2 : P.info? e = some i) (h3 : i.zero = some z) (h4 : i.size = size) (h5 : i.bytes = bytes) (h6 : z.cells.size = size) (h7 : 0 < size)
    (v : Value) (n : Nat) (xs : List Value) (hs : a.eval s = v) (hown : w.ownsRow base e size v n xs)
    (ad : Addr) (m c : Nat) (news : List Value) (hx : a.eval x = .slice (some ad) m c) (hn : news.length = m * size) (hc : ∀ j u, news[j]? = some u → w.cell? (ad.add j) = some u) (h1c : ∀ u ∈ news, u.oneCell' = true)
    (hm : 0 < m) (b1 : n + m ≤ maxLen) (b2 : (n + m) * bytes ≤ 140737488355328) (hbase : base ≤ w.heap.size)
    (hK : ∀ v' w', w'.ownsRow base e size v' (n + m) (xs ++ news) → w.grownBy w' v.ownBlock → (∀ b, v'.ownBlock = some b → v.ownBlock = some b ∨ w.heap.size ≤ b) → wpList P ops Q rest (a.put o.dst v') w') :
    wpList P ops Q (o :: rest) a w := by
  obtain ⟨hl, ⟨rfl, h0⟩ | ⟨g, cap, cur, rfl, hgB, hgc, hnc, hcm, hcs, htk⟩⟩ := id hown
  · subst h0
    refine wpList_append_grows w hg s x t hop e i z size bytes h1 h2 h3 h4 h5 h6 h7 none 0 0 xs hs (fun _ => ⟨rfl, rfl⟩) hl (fun b hb => by cases hb) ad m c news hx hn hc h1c (by omega) b1 b2 ?_
    intro v' w' ho hgr
    exact hK v' w' (own_lower ho hbase) hgr fun b hb => .inr (ho.lt b hb).1
  · by_cases hfit : n + m ≤ cap
    · refine wpList_append_fits w hg s x t hop base e i size h1 h2 h4 g n cap xs hs hown ad m c news hx hn hc h1c hfit ?_
      intro w' ho hgr
      exact hK _ w' ho hgr fun b hb => .inl hb
    · refine wpList_append_grows w hg s x t hop e i z size bytes h1 h2 h3 h4 h5 h6 h7 (some ⟨g, 0, none⟩) n cap xs hs (fun h => by cases h) hl (fun b hb => by cases hb; exact hown.cells rfl) ad m c news hx hn hc h1c (by omega) b1 b2 ?_
      intro v' w' ho hgr
      exact hK v' w' (own_lower ho hbase) ⟨hgr.os, hgr.tape, hgr.output, hgr.size, fun k hk _ => hgr.block k hk (by simp)⟩ fun b hb => .inr (ho.lt b hb).1

/-- Records, one by one. -/
def AllA {α : Type} (P : List Value → α → Prop) (rows : List (List Value)) (xs : List α) : Prop := rows.length = xs.length ∧ ∀ (j : Nat) r x, rows[j]? = some r → xs[j]? = some x → P r x
theorem AllA.nil {α : Type} (P : List Value → α → Prop) : AllA P [] [] := ⟨rfl, fun j r x h => by simp at h⟩
theorem AllA.snoc {α : Type} {P : List Value → α → Prop} {rows : List (List Value)} {xs : List α} (h : AllA P rows xs) {r : List Value} {x : α} (hp : P r x) : AllA P (rows ++ [r]) (xs ++ [x]) := by
  refine ⟨by simp [h.1], fun j r' x' hr hx => ?_⟩
  rcases Nat.lt_trichotomy j rows.length with hj | hj | hj
  · rw [List.getElem?_append_left hj] at hr
    rw [List.getElem?_append_left (by rw [← h.1]; exact hj)] at hx
    exact h.2 j r' x' hr hx
  · subst hj
    rw [List.getElem?_append_right (Nat.le_refl _)] at hr
    rw [List.getElem?_append_right (by rw [h.1]; exact Nat.le_refl _)] at hx
    simp [h.1] at hr hx
    subst hr hx
    exact hp
  · rw [List.getElem?_eq_none (by simp; omega)] at hr; cases hr
theorem AllA.imp {α : Type} {P Q : List Value → α → Prop} {rows : List (List Value)} {xs : List α} (h : AllA P rows xs) (hi : ∀ r x, P r x → Q r x) : AllA Q rows xs := ⟨h.1, fun j r x hr hx => hi r x (h.2 j r x hr hx)⟩
theorem AllA.len {α : Type} {P : List Value → α → Prop} {rows : List (List Value)} {xs : List α} (h : AllA P rows xs) {n : Nat} (hn : ∀ r x, P r x → r.length = n) : ∀ r ∈ rows, r.length = n := by
  intro r hr
  obtain ⟨j, hj⟩ := List.getElem?_of_mem hr
  have hlt : j < xs.length := by rw [← h.1]; exact (List.getElem?_eq_some_iff.1 hj).1
  exact hn r _ (h.2 j r _ hj (List.getElem?_eq_getElem hlt))

def StepA (Av : Nat → Prop) (w : World) (r : List Value) (x : StepS) : Prop := ∃ va vl, r = [.string x.out, .int .i64 x.op, va, vl, .int .i64 x.n] ∧ StrsA Av w va x.args ∧ StrsA Av w vl x.lits
theorem StepA.len {Av : Nat → Prop} {w : World} {r : List Value} {x : StepS} (h : StepA Av w r x) : r.length = 5 := by obtain ⟨va, vl, rfl, _⟩ := h; rfl
theorem StepA.keep {Av : Nat → Prop} {w w' : World} {r : List Value} {x : StepS} (h : StepA Av w r x) (hf : Fr Av w w') : StepA Av w' r x := by
  obtain ⟨va, vl, rfl, h1, h2⟩ := h
  exact ⟨va, vl, rfl, RowA.keep h1 hf, RowA.keep h2 hf⟩
theorem StepA.mono {Av Av' : Nat → Prop} {w : World} {r : List Value} {x : StepS} (h : StepA Av w r x) (hm : ∀ b, b < w.heap.size → Av' b → Av b) : StepA Av' w r x := by
  obtain ⟨va, vl, rfl, h1, h2⟩ := h
  exact ⟨va, vl, rfl, RowA.mono h1 hm, RowA.mono h2 hm⟩
def StepsA (Av : Nat → Prop) (w : World) (v : Value) (xs : List StepS) : Prop := ∃ rows, RowA Av w v 5 rows ∧ AllA (StepA Av w) rows xs
theorem StepsA.keep {Av : Nat → Prop} {w w' : World} {v : Value} {xs : List StepS} (h : StepsA Av w v xs) (hf : Fr Av w w') : StepsA Av w' v xs := by
  obtain ⟨rows, h1, h2⟩ := h
  exact ⟨rows, h1.keep hf, h2.imp fun r x h => h.keep hf⟩
theorem StepsA.mono {Av Av' : Nat → Prop} {w : World} {v : Value} {xs : List StepS} (h : StepsA Av w v xs) (hm : ∀ b, b < w.heap.size → Av' b → Av b) : StepsA Av' w v xs := by
  obtain ⟨rows, h1, h2⟩ := h
  exact ⟨rows, h1.mono hm, h2.imp fun r x h => h.mono hm⟩

/-- The blocks that may change while a list grows: old ones, and the list's own. -/
def AvOf (B : Nat) (v : Value) (b : Nat) : Prop := b < B ∨ v.ownBlock = some b
theorem info_step : (Tryz.prog.info? 50).map (fun i => (i.zero, i.size, i.bytes)) = some (some (.agg #[.string ByteArray.empty, .int .i64 0, .slice none 0 0, .slice none 0 0, .int .i64 0]), 5, 80) := by kernel_rfl
end Go.Proofs.YtlmnabhhgplhnaaGreatDoor
namespace Go.Proofs.YtlmnabhhgplhnaaGreatDoor
open Go.RowKit

theorem names_ge (ws : List WordT) : ∀ (f : Nat) (acc : List ByteArray) (s : PS), s.1 ≤ (namesF ws f acc s).2.1
  | 0, _, _ => Nat.le_refl _
  | f + 1, acc, s => by
    unfold namesF
    split
    · exact Nat.le_trans (name_ge ws s) (names_ge ws f _ _)
    · exact Nat.le_refl _
theorem text_ge (ws : List WordT) (s : PS) : s.1 ≤ (textP ws s).2.1 := take_ge ws _ s
theorem number_ge (ws : List WordT) (s : PS) : s.1 ≤ (numberP ws s).2.1 := take_ge ws _ s
theorem op_ge (ws : List WordT) (s : PS) : s.1 ≤ (opP ws s).2.1 := take_ge ws _ s
theorem tail_ge (ws : List WordT) (op : Int) (s : PS) : s.1 ≤ (tailP ws op s).2.1 := by
  unfold tailP
  have t1 := text_ge ws s
  have t2 := text_ge ws (textP ws s).2
  have n1 := name_ge ws s
  have n2 := name_ge ws (textP ws s).2
  have n3 := name_ge ws (textP ws (textP ws s).2).2
  have n4 := name_ge ws (numberP ws s).2
  have u1 := number_ge ws s
  have l1 := names_ge ws (ws.length + 1) [] s
  split
  · exact l1
  · split
    · exact t1
    · split
      · exact Nat.le_trans t1 n2
      · split
        · exact Nat.le_trans t1 (Nat.le_trans t2 n3)
        · split
          · exact Nat.le_trans u1 n4
          · exact n1
theorem step_ge (ws : List WordT) (s : PS) : (nameP ws s).2.1 ≤ (stepP ws s).2.1 := by
  show (nameP ws s).2.1 ≤ (markP ws cSemi (tailP ws (opP ws (markP ws cEq (nameP ws s).2)).1 (opP ws (markP ws cEq (nameP ws s).2)).2).2).1
  exact Nat.le_trans (mark_ge ws cEq _) (Nat.le_trans (op_ge ws _) (Nat.le_trans (tail_ge ws _ _) (mark_ge ws cSemi _)))
theorem stepsF_go {ws : List WordT} {f : Nat} {acc : List StepS} {s : PS} (h0 : s.2 = false) (h1 : isNameP ws s = true) : stepsF ws (f + 1) acc s = stepsF ws f (acc ++ [(stepP ws s).1]) (stepP ws s).2 := by
  simp [stepsF, h0, h1]
theorem stepsF_stop {ws : List WordT} {f : Nat} {acc : List StepS} {s : PS} (h : s.2 = true ∨ isNameP ws s = false) : stepsF ws (f + 1) acc s = (acc, s) := by
  rcases h with h | h <;> simp [stepsF, h]

theorem grow_steps {W w5 : World} {B : Nat} {vv v' : Value} {rows : List (List Value)} {xs : List StepS} (h : AllA (fun r x => StepA (AvOf B vv) W r x) rows xs) (hg : W.grownBy w5 vv.ownBlock) (hv : ∀ b, v'.ownBlock = some b → vv.ownBlock = some b ∨ W.heap.size ≤ b) :
    AllA (StepA (AvOf B v') w5) rows xs := by
  refine h.imp fun r x hx => ?_
  have h1 : StepA (fun b => AvOf B vv b ∨ W.heap.size ≤ b) W r x := hx.mono fun b hb e => by
    rcases e with e | e
    · exact e
    · omega
  refine (h1.keep (fr_grown hg fun k e => .inl (.inr e))).mono fun b _ e => ?_
  rcases e with e | e
  · exact .inl (.inl e)
  · rcases hv b e with e | e
    · exact .inl (.inr e)
    · exact .inr e

set_option maxHeartbeats 4000000 in
set_option maxRecDepth 100000 in
theorem p_steps_any (p : Nat) (v : Value) (ws : List WordT) (s : PS) (w : World) (h : RS w p v ws s) :
    Calls Tryz.prog 101 #[.pointer (some ⟨p, 0, none⟩)] w fun e w' => ∃ vv, e = .returned vv ∧ StepsA (fun b => b < w.heap.size) w' vv (stepsP ws s).1 ∧ After w w' p v ws (stepsP ws s).2 := by
  obtain ⟨i0, hi, hz0, hz1, hz2⟩ := info_of info_step
  obtain ⟨R, hR⟩ : ∃ R, stepsP ws s = R := ⟨_, rfl⟩
  have H := Lib.hid h
  have HR := Lib.hid hR
  rw [hR]
  have hfew := h.few
  have hpl := h.st.p_lt
  clear hR h
  go_enter Tryz.func101, Tryz.ntmps101
  go_wp2
  go_loopw [3] (fun vv wr => ∃ (f : Nat) (acc : List StepS) (rows : List (List Value)) (s' : PS), ws.length - s'.1 < f ∧ stepsF ws f acc s' = R ∧ acc.length ≤ s'.1 ∧ wr.ownsRow w.heap.size 50 5 vv rows.length rows.flatten ∧ AllA (StepA (AvOf w.heap.size vv) wr) rows acc ∧ After w wr p v ws s')
    (fun _ wr => ws.length - posPs wr p)
  case atStart => exact ⟨ws.length + 1, [], [], s, by omega, HR.out, by simp, ⟨rfl, .inl ⟨rfl, rfl⟩⟩, AllA.nil _, After.refl H.out.st⟩
  case round =>
    obtain ⟨f, acc, rows, s', hf, hj, hal, hown, hall, ha⟩ := hrel
    obtain ⟨f, rfl⟩ : ∃ g, f = g + 1 := ⟨f - 1, by omega⟩
    have HA := Lib.hid ha
    have HJ := Lib.hid hj
    have HO := Lib.hid hown
    have HL := Lib.hid hall
    have hrl := hall.1
    have hlt := ha.1.lt
    have hrs := H.out.after ha
    obtain ⟨c0, c1, c2, f0, f1, f2⟩ := ha.1.cells
    have cI := p_isName_any p v ws s' wr hrs.st hrs.gp hrs.szM
    have CN : Hid (∀ w', Below wr.heap.size wr w' → Calls Tryz.prog 128 #[.pointer (some ⟨p, 0, none⟩)] w' fun e w'' => StepE w' w'' (stepP ws s').1 e ∧ After w' w'' p v ws (stepP ws s').2) :=
      fun w' hb => p_step_any p v ws s' w' (hrs.below hb)
    have hsz := ha.2.size
    obtain ⟨k, fl⟩ := s'
    clear ha hj hown hrs c0 f0 hall
    cases fl
    · obtain ⟨q, hq⟩ : ∃ q, isNameP ws (k, false) = q := ⟨_, rfl⟩
      rw [hq] at cI
      have HQ := Lib.hid hq
      clear hq
      cases q
      · have hres := HJ.out
        rw [stepsF_stop (.inr HQ.out)] at hres
        have HRES := Lib.hid hres
        clear hres
        go_wp2_with fail
        refine cI.mono ?_
        rintro e w2 ⟨rfl, hb2⟩
        go_wp2
        go_ret
        refine ⟨_, rfl, ?_, by rw [← HRES.out]; exact HA.out.trans (After.of_below HA.out.1 hb2)⟩
        rw [← HRES.out]
        have hl2 := HL.out.imp fun r x h => h.keep (fr_below (Av := AvOf w.heap.size _) hb2)
        exact ⟨rows, rowA_own (own_fr HO.out (p := p) (fr_below hb2) hpl) (HL.out.len fun r x h => h.len), hl2.imp fun r x h => h.mono fun b _ e => .inl e⟩
      · have hres := HJ.out
        rw [stepsF_go rfl HQ.out] at hres
        have hadv := name_go (ws := ws) (s := (k, false)) rfl HQ.out
        have hge := step_ge ws (k, false)
        rw [hadv] at hge
        obtain ⟨y, hy⟩ : ∃ y, stepP ws (k, false) = y := ⟨_, rfl⟩
        rw [hy] at hres hge CN
        obtain ⟨x, s2⟩ := y
        have HRES := Lib.hid hres
        have hge2 : k + 1 ≤ s2.1 := hge
        clear hres hadv hge hy
        simp only at CN HRES
        go_wp2_with fail
        refine cI.mono ?_
        rintro e w2 ⟨rfl, hb2⟩
        have cN2 := CN.out w2 hb2
        have HB2 := Lib.hid hb2
        clear hb2 cI
        go_wp2_with fail
        refine cN2.mono ?_
        rintro e w3 ⟨⟨va, vl, rfl, hva, hvl⟩, ha3⟩
        obtain ⟨a1, a2, a3, hvs⟩ := rowA_shape hva
        subst hvs
        obtain ⟨l1, l2, l3, hvs⟩ := rowA_shape hvl
        subst hvs
        have hA3 := (HA.out.trans (After.of_below HA.out.1 HB2.out)).trans ha3
        have hO3 := own_fr (own_fr HO.out (fr_below HB2.out) hpl) ha3.2 hpl
        have hlt3 := fun b (hb : _ = some b) => (HO.out.lt b hb).2
        have hL3 := (HL.out.imp fun r x h => (h.keep (fr_below (Av := AvOf w.heap.size _) HB2.out)).keep (ha3.2.mono fun b _ e => .inl (by rw [e]; exact hpl))).snoc (r := [.string x.out, .int .i64 x.op, .slice a1 a2 a3, .slice l1 l2 l3, .int .i64 x.n]) (x := x)
          (StepA.mono (Av := fun b => b < w2.heap.size) ⟨_, _, rfl, hva, hvl⟩ fun b _ e => by
            have h2 := HB2.out.size
            rcases e with e | e
            · omega
            · have := hlt3 b e; omega)
        have HO3 := Lib.hid hO3
        have HL3 := Lib.hid (hL3.imp fun r' x' h => h.keep (fr_alloc _ _ (.cells #[.string x.out, .int .i64 x.op, .slice a1 a2 a3, .slice l1 l2 l3, .int .i64 x.n] 50)))
        have HA3 := Lib.hid hA3
        have hs3 := hA3.2.size
        clear ha3 hA3 cN2 hva hvl hO3 hL3 hlt3
        go_wp2_with (at_builtin; refine wpList_append_new _ rfl _ _ 36 rfl w.heap.size 50 i0 (.agg #[.string ByteArray.empty, .int .i64 0, .slice none 0 0, .slice none 0 0, .int .i64 0]) 5 80 Tryz.underlying36 hi hz0 hz1 hz2 rfl (by decide) _ _ _ rfl (HO3.out.alloc _) ⟨w3.heap.size, 0, none⟩ 1 1 [.string x.out, .int .i64 x.op, .slice a1 a2 a3, .slice l1 l2 l3, .int .i64 x.n] rfl rfl ?c1 ?c2 (by decide) ?c3 ?c4 ?c5 ?_)
        case c1 =>
          intro j u hj
          match j, hj with
          | 0, hj => simp at hj; subst hj; simp [Addr.add]
          | 1, hj => simp at hj; subst hj; simp [Addr.add]
          | 2, hj => simp at hj; subst hj; simp [Addr.add]
          | 3, hj => simp at hj; subst hj; simp [Addr.add]
          | 4, hj => simp at hj; subst hj; simp [Addr.add]
        case c2 => intro u hu; simp at hu; rcases hu with rfl | rfl | rfl | rfl | rfl <;> rfl
        case c3 => unfold maxLen; have h1 : k < ws.length := hlt; have h2 : acc.length ≤ k := hal; omega
        case c4 => have h1 : k < ws.length := hlt; have h2 : acc.length ≤ k := hal; omega
        case c5 => simp; omega
        intro v' w4 hown' hgrow hnew
        have hA4 := (HA3.out.alloc (.cells #[.string x.out, .int .i64 x.op, .slice a1 a2 a3, .slice l1 l2 l3, .int .i64 x.n] 50)).grown H.out.st hgrow (fun b hb => (HO3.out.lt b hb).1)
        have hL4 := grow_steps (B := w.heap.size) (v' := v') HL3.out hgrow (fun b hb => by simpa using hnew b hb)
        have HO4 : Hid (w4.ownsRow w.heap.size 50 5 v' (rows ++ [([.string x.out, .int .i64 x.op, .slice a1 a2 a3, .slice l1 l2 l3, .int .i64 x.n] : List Value)]).length (rows ++ [([.string x.out, .int .i64 x.op, .slice a1 a2 a3, .slice l1 l2 l3, .int .i64 x.n] : List Value)]).flatten) := by
          show w4.ownsRow _ _ _ _ _ _
          rw [List.length_append, List.flatten_append]
          simpa [hrl] using hown'
        have HA4 := Lib.hid hA4
        have HL4 := Lib.hid hL4
        clear hgrow hown' hA4 hL4 hnew
        go_wp2
        go_roundw
        case rel => exact ⟨f, acc ++ [x], _, s2, by have h1 : k < ws.length := hlt; have h2 : ws.length - k < f + 1 := hf; omega, HRES.out, by have h2 : acc.length ≤ k := hal; rw [List.length_append]; simp only [List.length_cons, List.length_nil]; omega, HO4.out, HL4.out, HA4.out⟩
        case measure => rw [HA4.out.1.pos, HA.out.1.pos]; have h1 : k < ws.length := hlt; show ws.length - s2.1 < ws.length - k; omega
    · have hres := HJ.out
      rw [stepsF_stop (.inl rfl)] at hres
      have HRES := Lib.hid hres
      clear hres cI
      go_wp2
      go_ret
      refine ⟨_, rfl, ?_, by rw [← HRES.out]; exact HA.out⟩
      rw [← HRES.out]
      exact ⟨rows, rowA_own HO.out (HL.out.len fun r x h => h.len), HL.out.imp fun r x h => h.mono fun b _ e => .inl e⟩
end Go.Proofs.YtlmnabhhgplhnaaGreatDoor
namespace Go.Proofs.YtlmnabhhgplhnaaGreatDoor
open Go.RowKit

theorem stepsA_shape {Av : Nat → Prop} {w : World} {va : Value} {xs : List StepS} (h : StepsA Av w va xs) : ∃ a n c, va = .slice a n c := by
  obtain ⟨rows, h1, _⟩ := h
  exact rowA_shape h1
/-- What 'rule' answers. -/
def RuleA (Av : Nat → Prop) (w : World) (r : List Value) (x : RuleS) : Prop := ∃ vi vo vf vs, r = [.string x.name, vi, vo, vf, vs] ∧ StrsA Av w vi x.ins ∧ StrsA Av w vo x.outs ∧ StrsA Av w vf x.after ∧ StepsA Av w vs x.steps
def RuleE (w w' : World) (x : RuleS) (e : Ending) : Prop :=
  ∃ vi vo vf vs, e = .returned (.agg #[.string x.name, vi, vo, vf, vs]) ∧ StrsA (fun b => b < w.heap.size) w' vi x.ins ∧ StrsA (fun b => b < w.heap.size) w' vo x.outs ∧ StrsA (fun b => b < w.heap.size) w' vf x.after ∧ StepsA (fun b => b < w.heap.size) w' vs x.steps
def zRule : Array Value := #[.string ⟨#[]⟩, .slice none 0 0, .slice none 0 0, .slice none 0 0, .slice none 0 0]
theorem stepsA_fresh {w wr : World} {B : Nat} {va : Value} {xs : List StepS} (h : StepsA (fun b => b < B) wr va xs) (hB : w.heap.size + 2 ≤ B) : StepsA (fun b => b < w.heap.size + 2) wr va xs := h.mono fun b _ hb => by omega
theorem stepsA_old {w wr : World} {va : Value} {xs : List StepS} (h : StepsA (fun b => b < w.heap.size + 2) wr va xs) : StepsA (fun b => b < w.heap.size) wr va xs := h.mono fun b _ hb => by omega
theorem opt_yes {ws : List WordT} {key : ByteArray} {s : PS} (h : isKeyP ws key s = true) : optP ws key s = clauseP ws key s := by unfold optP; rw [if_pos h]
theorem opt_no {ws : List WordT} {key : ByteArray} {s : PS} (h : isKeyP ws key s = false) : optP ws key s = ([], s) := by unfold optP; rw [if_neg (by rw [h]; decide)]

set_option maxHeartbeats 4000000 in
set_option maxRecDepth 100000 in
theorem p_rule_any (p : Nat) (v : Value) (ws : List WordT) (s : PS) (w : World) (h : RS w p v ws s) :
    Calls Tryz.prog 59 #[.pointer (some ⟨p, 0, none⟩)] w fun e w' => RuleE w w' (ruleP ws s).1 e ∧ After w w' p v ws (ruleP ws s).2 := by
  have H := Lib.hid h
  have hpl := h.st.p_lt
  obtain ⟨R, hR⟩ : ∃ R, ruleP ws s = R := ⟨_, rfl⟩
  rw [hR]
  have CK : Hid (∀ key s w', RS w' p v ws s → Calls Tryz.prog 96 #[.pointer (some ⟨p, 0, none⟩), .string key] w' fun e w'' => e = .returned (.tuple #[]) ∧ After w' w'' p v ws (keyP ws key s)) := fun key s w' hr => p_key_any p v ws s key w' hr
  have CN : Hid (∀ s w', RS w' p v ws s → Calls Tryz.prog 97 #[.pointer (some ⟨p, 0, none⟩)] w' fun e w'' => e = .returned (.string (nameP ws s).1) ∧ After w' w'' p v ws (nameP ws s).2) := fun s w' hr => p_name_any p v ws s w' hr
  have CM : Hid (∀ key s w', RS w' p v ws s → Calls Tryz.prog 98 #[.pointer (some ⟨p, 0, none⟩), .string key] w' fun e w'' => e = .returned (.tuple #[]) ∧ After w' w'' p v ws (markP ws key s)) := fun key s w' hr => p_mark_any p v ws s key w' hr
  have CI : Hid (∀ key s w', RS w' p v ws s → Calls Tryz.prog 99 #[.pointer (some ⟨p, 0, none⟩), .string key] w' fun e w'' => e = .returned (.bool (isKeyP ws key s)) ∧ Below w'.heap.size w' w'') := fun key s w' hr => p_isKey_any p v ws s key w' hr.st
  have CC : Hid (∀ key s w', RS w' p v ws s → Calls Tryz.prog 100 #[.pointer (some ⟨p, 0, none⟩), .string key] w' fun e w'' => ∃ vv, e = .returned vv ∧ StrsA (fun b => b < w'.heap.size) w'' vv (clauseP ws key s).1 ∧ After w' w'' p v ws (clauseP ws key s).2) := fun key s w' hr => p_clause_any p v ws s key w' hr
  have CS : Hid (∀ s w', RS w' p v ws s → Calls Tryz.prog 101 #[.pointer (some ⟨p, 0, none⟩)] w' fun e w'' => ∃ vv, e = .returned vv ∧ StepsA (fun b => b < w'.heap.size) w'' vv (stepsP ws s).1 ∧ After w' w'' p v ws (stepsP ws s).2) := fun s w' hr => p_steps_any p v ws s w' hr
  have h0 := SM.begin (T := 38) h.st zRule zRule
  unfold zRule at h0
  have H0 := Lib.hid h0
  obtain ⟨s1, hs1⟩ : ∃ x, keyP ws kRule s = x := ⟨_, rfl⟩
  obtain ⟨x2, hx2⟩ : ∃ x, nameP ws s1 = x := ⟨_, rfl⟩
  obtain ⟨nm, s2⟩ := x2
  obtain ⟨s3, hs3⟩ : ∃ x, markP ws cOpen s2 = x := ⟨_, rfl⟩
  obtain ⟨x4, hx4⟩ : ∃ x, optP ws kIn s3 = x := ⟨_, rfl⟩
  obtain ⟨li, s4⟩ := x4
  obtain ⟨x5, hx5⟩ : ∃ x, clauseP ws kOut s4 = x := ⟨_, rfl⟩
  obtain ⟨lo, s5⟩ := x5
  obtain ⟨x6, hx6⟩ : ∃ x, optP ws kAfter s5 = x := ⟨_, rfl⟩
  obtain ⟨lf, s6⟩ := x6
  obtain ⟨x7, hx7⟩ : ∃ x, stepsP ws s6 = x := ⟨_, rfl⟩
  obtain ⟨ts, s7⟩ := x7
  have hres : R = (⟨nm, li, lo, lf, ts⟩, markP ws cClose s7) := by
    rw [← hR]; unfold ruleP; simp only [hs1, hx2, hs3, hx4, hx5, hx6, hx7]
  have HRES := Lib.hid hres
  have E1 := Lib.hid hs1
  have E2 := Lib.hid hx2
  have E3 := Lib.hid hs3
  have E4 := Lib.hid hx4
  have E5 := Lib.hid hx5
  have E6 := Lib.hid hx6
  have E7 := Lib.hid hx7
  clear hres hR hs1 hx2 hs3 hx4 hx5 hx6 hx7 h0 h
  go_enter Tryz.func59, Tryz.ntmps59
  have q1 := CK.out kRule _ _ (H0.out.rs H.out)
  rw [E1.out] at q1
  go_wp2_with fail
  refine q1.mono ?_
  rintro e w1 ⟨rfl, ha1⟩
  have m1 := H0.out.step H.out.st ha1
  have M1 := Lib.hid m1
  clear m1 ha1 q1
  have q2 := CN.out _ _ (M1.out.rs H.out)
  rw [E2.out] at q2
  go_wp2_with fail
  refine q2.mono ?_
  rintro e w2 ⟨rfl, ha2⟩
  have m2 := M1.out.step H.out.st ha2
  try clear d0 d1 d2 d3 d4 g0 g1 g2 g3 g4
  obtain ⟨d0, d1, d2, d3, d4, g0, g1, g2, g3, g4⟩ := cells5 m2.r1
  have m3 : SM 38 #[.string ⟨#[]⟩, .slice none 0 0, .slice none 0 0, .slice none 0 0, .slice none 0 0] w _ p v ws s2 #[.string nm, .slice none 0 0, .slice none 0 0, .slice none 0 0, .slice none 0 0] := m2.set H.out.st 0 (.string nm)
  have M3 := Lib.hid m3
  clear m2 m3 ha2 q2
  have q4 := CM.out cOpen _ _ (M3.out.rs H.out)
  rw [E3.out] at q4
  go_wp2_with fail
  refine q4.mono ?_
  rintro e w4 ⟨rfl, ha4⟩
  have m4 := M3.out.step H.out.st ha4
  have M4 := Lib.hid m4
  clear m4 ha4 q4
  obtain ⟨qi, hqi⟩ : ∃ x, isKeyP ws kIn s3 = x := ⟨_, rfl⟩
  have q5 := CI.out kIn _ _ (M4.out.rs H.out)
  rw [hqi] at q5
  have HKqi := Lib.hid hqi
  clear hqi
  cases qi
  · go_wp2_with fail
    refine q5.mono ?_
    rintro e w5 ⟨rfl, hb5⟩
    have ha5 := After.of_below M4.out.af.1 hb5
    have m5 := M4.out.step H.out.st ha5
    have M5 := Lib.hid m5
    clear m5 ha5 hb5 q5
    have e4 := E4.out
    rw [opt_no HKqi.out] at e4
    injection e4 with e4 e4'
    subst e4 e4'
    have q6 := CC.out kOut _ _ (M5.out.rs H.out)
    rw [E5.out] at q6
    go_wp2_with fail
    refine q6.mono ?_
    rintro e w6 ⟨vv, rfl, hv, ha6⟩
    obtain ⟨a2, b2, c2, hvs⟩ := rowA_shape hv
    subst hvs
    have m6 := M5.out.step H.out.st ha6
    try clear d0 d1 d2 d3 d4 g0 g1 g2 g3 g4
    obtain ⟨d0, d1, d2, d3, d4, g0, g1, g2, g3, g4⟩ := cells5 m6.r1
    have SOu := Lib.hid (strsA_keep (strsA_fresh (w := w) hv M5.out.big) (fr_set (Av := fun b => b < w.heap.size + 2) (a := ⟨w.heap.size + 1, 2, none⟩) (by simp) (.slice a2 b2 c2)))
    have m7 : SM 38 #[.string ⟨#[]⟩, .slice none 0 0, .slice none 0 0, .slice none 0 0, .slice none 0 0] w _ p v ws s5 #[.string nm, .slice none 0 0, .slice a2 b2 c2, .slice none 0 0, .slice none 0 0] := m6.set H.out.st 2 (.slice a2 b2 c2)
    have M7 := Lib.hid m7
    clear m6 m7 ha6 q6 hv
    obtain ⟨qa, hqa⟩ : ∃ x, isKeyP ws kAfter s5 = x := ⟨_, rfl⟩
    have q8 := CI.out kAfter _ _ (M7.out.rs H.out)
    rw [hqa] at q8
    have HKqa := Lib.hid hqa
    clear hqa
    cases qa
    · go_wp2_with fail
      refine q8.mono ?_
      rintro e w8 ⟨rfl, hb8⟩
      have ha8 := After.of_below M7.out.af.1 hb8
      have m8 := M7.out.step H.out.st ha8
      have M8 := Lib.hid m8
      have SOuk8 := Lib.hid (strsA_keep SOu.out (keep_after H.out.st ha8))
      clear m8 ha8 hb8 q8
      have e6 := E6.out
      rw [opt_no HKqa.out] at e6
      injection e6 with e6 e6'
      subst e6 e6'
      have q9 := CS.out _ _ (M8.out.rs H.out)
      rw [E7.out] at q9
      go_wp2_with fail
      refine q9.mono ?_
      rintro e w9 ⟨vv, rfl, hv, ha9⟩
      obtain ⟨a4, b4, c4, hvs⟩ := stepsA_shape hv
      subst hvs
      have m9 := M8.out.step H.out.st ha9
      have SOuk9 := Lib.hid (strsA_keep SOuk8.out (keep_after H.out.st ha9))
      try clear d0 d1 d2 d3 d4 g0 g1 g2 g3 g4
      obtain ⟨d0, d1, d2, d3, d4, g0, g1, g2, g3, g4⟩ := cells5 m9.r1
      have SOuk10 := Lib.hid (strsA_keep SOuk9.out (fr_set (Av := fun b => b < w.heap.size + 2) (a := ⟨w.heap.size + 1, 4, none⟩) (by simp) (.slice a4 b4 c4)))
      have STs := Lib.hid (StepsA.keep (stepsA_fresh (w := w) hv M8.out.big) (fr_set (Av := fun b => b < w.heap.size + 2) (a := ⟨w.heap.size + 1, 4, none⟩) (by simp) (.slice a4 b4 c4)))
      have m10 : SM 38 #[.string ⟨#[]⟩, .slice none 0 0, .slice none 0 0, .slice none 0 0, .slice none 0 0] w _ p v ws s7 #[.string nm, .slice none 0 0, .slice a2 b2 c2, .slice none 0 0, .slice a4 b4 c4] := m9.set H.out.st 4 (.slice a4 b4 c4)
      have M10 := Lib.hid m10
      clear m9 m10 ha9 q9 hv
      have q11 := CM.out cClose _ _ (M10.out.rs H.out)
      go_wp2_with fail
      refine q11.mono ?_
      rintro e w11 ⟨rfl, ha11⟩
      have m11 := M10.out.step H.out.st ha11
      have M11 := Lib.hid m11
      have SOuk11 := Lib.hid (strsA_keep SOuk10.out (keep_after H.out.st ha11))
      have STsk11 := Lib.hid (StepsA.keep STs.out (keep_after H.out.st ha11))
      clear m11 ha11 q11
      try clear d0 d1 d2 d3 d4 g0 g1 g2 g3 g4
      obtain ⟨d0, d1, d2, d3, d4, g0, g1, g2, g3, g4⟩ := cells5 M11.out.r1
      obtain ⟨e0, e1, e2, e3, e4, i0, i1, i2, i3, i4⟩ := cells5 M11.out.r0
      go_wp2
      refine bodyPost_ret (results_c rfl _ _ w.heap.size _ _ _ _ rfl (heap_set _ _ (heap_set _ _ (heap_set _ _ (heap_set _ _ (heap_set _ _ M11.out.r0))))) Tryz.underlying38 rfl (by kernel_rfl)) rfl ?_
      have kF : ∀ (u0 u1 u2 u3 u4 : Value), Fr (fun b => b < w.heap.size + 2) w11 (((((w11.setCell ⟨w.heap.size, 0, none⟩ u0).setCell ⟨w.heap.size, 1, none⟩ u1).setCell ⟨w.heap.size, 2, none⟩ u2).setCell ⟨w.heap.size, 3, none⟩ u3).setCell ⟨w.heap.size, 4, none⟩ u4) := fun _ _ _ _ _ => ((((fr_set (by simp) _).trans (fr_set (by simp) _)).trans (fr_set (by simp) _)).trans (fr_set (by simp) _)).trans (fr_set (by simp) _)
      rw [HRES.out]
      exact ⟨⟨_, _, _, _, rfl, strsA_nil _ _, strsA_old (strsA_keep SOuk11.out (kF _ _ _ _ _)), strsA_nil _ _, stepsA_old (StepsA.keep STsk11.out (kF _ _ _ _ _))⟩, ((((M11.out.af.set H.out.st (Nat.le_refl _) _).set H.out.st (Nat.le_refl _) _).set H.out.st (Nat.le_refl _) _).set H.out.st (Nat.le_refl _) _).set H.out.st (Nat.le_refl _) _⟩
    · go_wp2_with fail
      refine q8.mono ?_
      rintro e w8 ⟨rfl, hb8⟩
      have ha8 := After.of_below M7.out.af.1 hb8
      have m8 := M7.out.step H.out.st ha8
      have M8 := Lib.hid m8
      have SOuk8 := Lib.hid (strsA_keep SOu.out (keep_after H.out.st ha8))
      clear m8 ha8 hb8 q8
      have e6 := E6.out
      rw [opt_yes HKqa.out] at e6
      have E6' := Lib.hid e6
      clear e6
      have q9 := CC.out kAfter _ _ (M8.out.rs H.out)
      rw [E6'.out] at q9
      go_wp2_with fail
      refine q9.mono ?_
      rintro e w9 ⟨vv, rfl, hv, ha9⟩
      obtain ⟨a3, b3, c3, hvs⟩ := rowA_shape hv
      subst hvs
      have m9 := M8.out.step H.out.st ha9
      have SOuk9 := Lib.hid (strsA_keep SOuk8.out (keep_after H.out.st ha9))
      try clear d0 d1 d2 d3 d4 g0 g1 g2 g3 g4
      obtain ⟨d0, d1, d2, d3, d4, g0, g1, g2, g3, g4⟩ := cells5 m9.r1
      have SOuk10 := Lib.hid (strsA_keep SOuk9.out (fr_set (Av := fun b => b < w.heap.size + 2) (a := ⟨w.heap.size + 1, 3, none⟩) (by simp) (.slice a3 b3 c3)))
      have SFa := Lib.hid (strsA_keep (strsA_fresh (w := w) hv M8.out.big) (fr_set (Av := fun b => b < w.heap.size + 2) (a := ⟨w.heap.size + 1, 3, none⟩) (by simp) (.slice a3 b3 c3)))
      have m10 : SM 38 #[.string ⟨#[]⟩, .slice none 0 0, .slice none 0 0, .slice none 0 0, .slice none 0 0] w _ p v ws s6 #[.string nm, .slice none 0 0, .slice a2 b2 c2, .slice a3 b3 c3, .slice none 0 0] := m9.set H.out.st 3 (.slice a3 b3 c3)
      have M10 := Lib.hid m10
      clear m9 m10 ha9 q9 hv
      have q11 := CS.out _ _ (M10.out.rs H.out)
      rw [E7.out] at q11
      go_wp2_with fail
      refine q11.mono ?_
      rintro e w11 ⟨vv, rfl, hv, ha11⟩
      obtain ⟨a4, b4, c4, hvs⟩ := stepsA_shape hv
      subst hvs
      have m11 := M10.out.step H.out.st ha11
      have SOuk11 := Lib.hid (strsA_keep SOuk10.out (keep_after H.out.st ha11))
      have SFak11 := Lib.hid (strsA_keep SFa.out (keep_after H.out.st ha11))
      try clear d0 d1 d2 d3 d4 g0 g1 g2 g3 g4
      obtain ⟨d0, d1, d2, d3, d4, g0, g1, g2, g3, g4⟩ := cells5 m11.r1
      have SOuk12 := Lib.hid (strsA_keep SOuk11.out (fr_set (Av := fun b => b < w.heap.size + 2) (a := ⟨w.heap.size + 1, 4, none⟩) (by simp) (.slice a4 b4 c4)))
      have SFak12 := Lib.hid (strsA_keep SFak11.out (fr_set (Av := fun b => b < w.heap.size + 2) (a := ⟨w.heap.size + 1, 4, none⟩) (by simp) (.slice a4 b4 c4)))
      have STs := Lib.hid (StepsA.keep (stepsA_fresh (w := w) hv M10.out.big) (fr_set (Av := fun b => b < w.heap.size + 2) (a := ⟨w.heap.size + 1, 4, none⟩) (by simp) (.slice a4 b4 c4)))
      have m12 : SM 38 #[.string ⟨#[]⟩, .slice none 0 0, .slice none 0 0, .slice none 0 0, .slice none 0 0] w _ p v ws s7 #[.string nm, .slice none 0 0, .slice a2 b2 c2, .slice a3 b3 c3, .slice a4 b4 c4] := m11.set H.out.st 4 (.slice a4 b4 c4)
      have M12 := Lib.hid m12
      clear m11 m12 ha11 q11 hv
      have q13 := CM.out cClose _ _ (M12.out.rs H.out)
      go_wp2_with fail
      refine q13.mono ?_
      rintro e w13 ⟨rfl, ha13⟩
      have m13 := M12.out.step H.out.st ha13
      have M13 := Lib.hid m13
      have SOuk13 := Lib.hid (strsA_keep SOuk12.out (keep_after H.out.st ha13))
      have SFak13 := Lib.hid (strsA_keep SFak12.out (keep_after H.out.st ha13))
      have STsk13 := Lib.hid (StepsA.keep STs.out (keep_after H.out.st ha13))
      clear m13 ha13 q13
      try clear d0 d1 d2 d3 d4 g0 g1 g2 g3 g4
      obtain ⟨d0, d1, d2, d3, d4, g0, g1, g2, g3, g4⟩ := cells5 M13.out.r1
      obtain ⟨e0, e1, e2, e3, e4, i0, i1, i2, i3, i4⟩ := cells5 M13.out.r0
      go_wp2
      refine bodyPost_ret (results_c rfl _ _ w.heap.size _ _ _ _ rfl (heap_set _ _ (heap_set _ _ (heap_set _ _ (heap_set _ _ (heap_set _ _ M13.out.r0))))) Tryz.underlying38 rfl (by kernel_rfl)) rfl ?_
      have kF : ∀ (u0 u1 u2 u3 u4 : Value), Fr (fun b => b < w.heap.size + 2) w13 (((((w13.setCell ⟨w.heap.size, 0, none⟩ u0).setCell ⟨w.heap.size, 1, none⟩ u1).setCell ⟨w.heap.size, 2, none⟩ u2).setCell ⟨w.heap.size, 3, none⟩ u3).setCell ⟨w.heap.size, 4, none⟩ u4) := fun _ _ _ _ _ => ((((fr_set (by simp) _).trans (fr_set (by simp) _)).trans (fr_set (by simp) _)).trans (fr_set (by simp) _)).trans (fr_set (by simp) _)
      rw [HRES.out]
      exact ⟨⟨_, _, _, _, rfl, strsA_nil _ _, strsA_old (strsA_keep SOuk13.out (kF _ _ _ _ _)), strsA_old (strsA_keep SFak13.out (kF _ _ _ _ _)), stepsA_old (StepsA.keep STsk13.out (kF _ _ _ _ _))⟩, ((((M13.out.af.set H.out.st (Nat.le_refl _) _).set H.out.st (Nat.le_refl _) _).set H.out.st (Nat.le_refl _) _).set H.out.st (Nat.le_refl _) _).set H.out.st (Nat.le_refl _) _⟩
  · go_wp2_with fail
    refine q5.mono ?_
    rintro e w5 ⟨rfl, hb5⟩
    have ha5 := After.of_below M4.out.af.1 hb5
    have m5 := M4.out.step H.out.st ha5
    have M5 := Lib.hid m5
    clear m5 ha5 hb5 q5
    have e4 := E4.out
    rw [opt_yes HKqi.out] at e4
    have E4' := Lib.hid e4
    clear e4
    have q6 := CC.out kIn _ _ (M5.out.rs H.out)
    rw [E4'.out] at q6
    go_wp2_with fail
    refine q6.mono ?_
    rintro e w6 ⟨vv, rfl, hv, ha6⟩
    obtain ⟨a1, b1, c1, hvs⟩ := rowA_shape hv
    subst hvs
    have m6 := M5.out.step H.out.st ha6
    try clear d0 d1 d2 d3 d4 g0 g1 g2 g3 g4
    obtain ⟨d0, d1, d2, d3, d4, g0, g1, g2, g3, g4⟩ := cells5 m6.r1
    have SIn := Lib.hid (strsA_keep (strsA_fresh (w := w) hv M5.out.big) (fr_set (Av := fun b => b < w.heap.size + 2) (a := ⟨w.heap.size + 1, 1, none⟩) (by simp) (.slice a1 b1 c1)))
    have m7 : SM 38 #[.string ⟨#[]⟩, .slice none 0 0, .slice none 0 0, .slice none 0 0, .slice none 0 0] w _ p v ws s4 #[.string nm, .slice a1 b1 c1, .slice none 0 0, .slice none 0 0, .slice none 0 0] := m6.set H.out.st 1 (.slice a1 b1 c1)
    have M7 := Lib.hid m7
    clear m6 m7 ha6 q6 hv
    have q8 := CC.out kOut _ _ (M7.out.rs H.out)
    rw [E5.out] at q8
    go_wp2_with fail
    refine q8.mono ?_
    rintro e w8 ⟨vv, rfl, hv, ha8⟩
    obtain ⟨a2, b2, c2, hvs⟩ := rowA_shape hv
    subst hvs
    have m8 := M7.out.step H.out.st ha8
    have SInk8 := Lib.hid (strsA_keep SIn.out (keep_after H.out.st ha8))
    try clear d0 d1 d2 d3 d4 g0 g1 g2 g3 g4
    obtain ⟨d0, d1, d2, d3, d4, g0, g1, g2, g3, g4⟩ := cells5 m8.r1
    have SInk9 := Lib.hid (strsA_keep SInk8.out (fr_set (Av := fun b => b < w.heap.size + 2) (a := ⟨w.heap.size + 1, 2, none⟩) (by simp) (.slice a2 b2 c2)))
    have SOu := Lib.hid (strsA_keep (strsA_fresh (w := w) hv M7.out.big) (fr_set (Av := fun b => b < w.heap.size + 2) (a := ⟨w.heap.size + 1, 2, none⟩) (by simp) (.slice a2 b2 c2)))
    have m9 : SM 38 #[.string ⟨#[]⟩, .slice none 0 0, .slice none 0 0, .slice none 0 0, .slice none 0 0] w _ p v ws s5 #[.string nm, .slice a1 b1 c1, .slice a2 b2 c2, .slice none 0 0, .slice none 0 0] := m8.set H.out.st 2 (.slice a2 b2 c2)
    have M9 := Lib.hid m9
    clear m8 m9 ha8 q8 hv
    obtain ⟨qa, hqa⟩ : ∃ x, isKeyP ws kAfter s5 = x := ⟨_, rfl⟩
    have q10 := CI.out kAfter _ _ (M9.out.rs H.out)
    rw [hqa] at q10
    have HKqa := Lib.hid hqa
    clear hqa
    cases qa
    · go_wp2_with fail
      refine q10.mono ?_
      rintro e w10 ⟨rfl, hb10⟩
      have ha10 := After.of_below M9.out.af.1 hb10
      have m10 := M9.out.step H.out.st ha10
      have M10 := Lib.hid m10
      have SInk10 := Lib.hid (strsA_keep SInk9.out (keep_after H.out.st ha10))
      have SOuk10 := Lib.hid (strsA_keep SOu.out (keep_after H.out.st ha10))
      clear m10 ha10 hb10 q10
      have e6 := E6.out
      rw [opt_no HKqa.out] at e6
      injection e6 with e6 e6'
      subst e6 e6'
      have q11 := CS.out _ _ (M10.out.rs H.out)
      rw [E7.out] at q11
      go_wp2_with fail
      refine q11.mono ?_
      rintro e w11 ⟨vv, rfl, hv, ha11⟩
      obtain ⟨a4, b4, c4, hvs⟩ := stepsA_shape hv
      subst hvs
      have m11 := M10.out.step H.out.st ha11
      have SInk11 := Lib.hid (strsA_keep SInk10.out (keep_after H.out.st ha11))
      have SOuk11 := Lib.hid (strsA_keep SOuk10.out (keep_after H.out.st ha11))
      try clear d0 d1 d2 d3 d4 g0 g1 g2 g3 g4
      obtain ⟨d0, d1, d2, d3, d4, g0, g1, g2, g3, g4⟩ := cells5 m11.r1
      have SInk12 := Lib.hid (strsA_keep SInk11.out (fr_set (Av := fun b => b < w.heap.size + 2) (a := ⟨w.heap.size + 1, 4, none⟩) (by simp) (.slice a4 b4 c4)))
      have SOuk12 := Lib.hid (strsA_keep SOuk11.out (fr_set (Av := fun b => b < w.heap.size + 2) (a := ⟨w.heap.size + 1, 4, none⟩) (by simp) (.slice a4 b4 c4)))
      have STs := Lib.hid (StepsA.keep (stepsA_fresh (w := w) hv M10.out.big) (fr_set (Av := fun b => b < w.heap.size + 2) (a := ⟨w.heap.size + 1, 4, none⟩) (by simp) (.slice a4 b4 c4)))
      have m12 : SM 38 #[.string ⟨#[]⟩, .slice none 0 0, .slice none 0 0, .slice none 0 0, .slice none 0 0] w _ p v ws s7 #[.string nm, .slice a1 b1 c1, .slice a2 b2 c2, .slice none 0 0, .slice a4 b4 c4] := m11.set H.out.st 4 (.slice a4 b4 c4)
      have M12 := Lib.hid m12
      clear m11 m12 ha11 q11 hv
      have q13 := CM.out cClose _ _ (M12.out.rs H.out)
      go_wp2_with fail
      refine q13.mono ?_
      rintro e w13 ⟨rfl, ha13⟩
      have m13 := M12.out.step H.out.st ha13
      have M13 := Lib.hid m13
      have SInk13 := Lib.hid (strsA_keep SInk12.out (keep_after H.out.st ha13))
      have SOuk13 := Lib.hid (strsA_keep SOuk12.out (keep_after H.out.st ha13))
      have STsk13 := Lib.hid (StepsA.keep STs.out (keep_after H.out.st ha13))
      clear m13 ha13 q13
      try clear d0 d1 d2 d3 d4 g0 g1 g2 g3 g4
      obtain ⟨d0, d1, d2, d3, d4, g0, g1, g2, g3, g4⟩ := cells5 M13.out.r1
      obtain ⟨e0, e1, e2, e3, e4, i0, i1, i2, i3, i4⟩ := cells5 M13.out.r0
      go_wp2
      refine bodyPost_ret (results_c rfl _ _ w.heap.size _ _ _ _ rfl (heap_set _ _ (heap_set _ _ (heap_set _ _ (heap_set _ _ (heap_set _ _ M13.out.r0))))) Tryz.underlying38 rfl (by kernel_rfl)) rfl ?_
      have kF : ∀ (u0 u1 u2 u3 u4 : Value), Fr (fun b => b < w.heap.size + 2) w13 (((((w13.setCell ⟨w.heap.size, 0, none⟩ u0).setCell ⟨w.heap.size, 1, none⟩ u1).setCell ⟨w.heap.size, 2, none⟩ u2).setCell ⟨w.heap.size, 3, none⟩ u3).setCell ⟨w.heap.size, 4, none⟩ u4) := fun _ _ _ _ _ => ((((fr_set (by simp) _).trans (fr_set (by simp) _)).trans (fr_set (by simp) _)).trans (fr_set (by simp) _)).trans (fr_set (by simp) _)
      rw [HRES.out]
      exact ⟨⟨_, _, _, _, rfl, strsA_old (strsA_keep SInk13.out (kF _ _ _ _ _)), strsA_old (strsA_keep SOuk13.out (kF _ _ _ _ _)), strsA_nil _ _, stepsA_old (StepsA.keep STsk13.out (kF _ _ _ _ _))⟩, ((((M13.out.af.set H.out.st (Nat.le_refl _) _).set H.out.st (Nat.le_refl _) _).set H.out.st (Nat.le_refl _) _).set H.out.st (Nat.le_refl _) _).set H.out.st (Nat.le_refl _) _⟩
    · go_wp2_with fail
      refine q10.mono ?_
      rintro e w10 ⟨rfl, hb10⟩
      have ha10 := After.of_below M9.out.af.1 hb10
      have m10 := M9.out.step H.out.st ha10
      have M10 := Lib.hid m10
      have SInk10 := Lib.hid (strsA_keep SInk9.out (keep_after H.out.st ha10))
      have SOuk10 := Lib.hid (strsA_keep SOu.out (keep_after H.out.st ha10))
      clear m10 ha10 hb10 q10
      have e6 := E6.out
      rw [opt_yes HKqa.out] at e6
      have E6' := Lib.hid e6
      clear e6
      have q11 := CC.out kAfter _ _ (M10.out.rs H.out)
      rw [E6'.out] at q11
      go_wp2_with fail
      refine q11.mono ?_
      rintro e w11 ⟨vv, rfl, hv, ha11⟩
      obtain ⟨a3, b3, c3, hvs⟩ := rowA_shape hv
      subst hvs
      have m11 := M10.out.step H.out.st ha11
      have SInk11 := Lib.hid (strsA_keep SInk10.out (keep_after H.out.st ha11))
      have SOuk11 := Lib.hid (strsA_keep SOuk10.out (keep_after H.out.st ha11))
      try clear d0 d1 d2 d3 d4 g0 g1 g2 g3 g4
      obtain ⟨d0, d1, d2, d3, d4, g0, g1, g2, g3, g4⟩ := cells5 m11.r1
      have SInk12 := Lib.hid (strsA_keep SInk11.out (fr_set (Av := fun b => b < w.heap.size + 2) (a := ⟨w.heap.size + 1, 3, none⟩) (by simp) (.slice a3 b3 c3)))
      have SOuk12 := Lib.hid (strsA_keep SOuk11.out (fr_set (Av := fun b => b < w.heap.size + 2) (a := ⟨w.heap.size + 1, 3, none⟩) (by simp) (.slice a3 b3 c3)))
      have SFa := Lib.hid (strsA_keep (strsA_fresh (w := w) hv M10.out.big) (fr_set (Av := fun b => b < w.heap.size + 2) (a := ⟨w.heap.size + 1, 3, none⟩) (by simp) (.slice a3 b3 c3)))
      have m12 : SM 38 #[.string ⟨#[]⟩, .slice none 0 0, .slice none 0 0, .slice none 0 0, .slice none 0 0] w _ p v ws s6 #[.string nm, .slice a1 b1 c1, .slice a2 b2 c2, .slice a3 b3 c3, .slice none 0 0] := m11.set H.out.st 3 (.slice a3 b3 c3)
      have M12 := Lib.hid m12
      clear m11 m12 ha11 q11 hv
      have q13 := CS.out _ _ (M12.out.rs H.out)
      rw [E7.out] at q13
      go_wp2_with fail
      refine q13.mono ?_
      rintro e w13 ⟨vv, rfl, hv, ha13⟩
      obtain ⟨a4, b4, c4, hvs⟩ := stepsA_shape hv
      subst hvs
      have m13 := M12.out.step H.out.st ha13
      have SInk13 := Lib.hid (strsA_keep SInk12.out (keep_after H.out.st ha13))
      have SOuk13 := Lib.hid (strsA_keep SOuk12.out (keep_after H.out.st ha13))
      have SFak13 := Lib.hid (strsA_keep SFa.out (keep_after H.out.st ha13))
      try clear d0 d1 d2 d3 d4 g0 g1 g2 g3 g4
      obtain ⟨d0, d1, d2, d3, d4, g0, g1, g2, g3, g4⟩ := cells5 m13.r1
      have SInk14 := Lib.hid (strsA_keep SInk13.out (fr_set (Av := fun b => b < w.heap.size + 2) (a := ⟨w.heap.size + 1, 4, none⟩) (by simp) (.slice a4 b4 c4)))
      have SOuk14 := Lib.hid (strsA_keep SOuk13.out (fr_set (Av := fun b => b < w.heap.size + 2) (a := ⟨w.heap.size + 1, 4, none⟩) (by simp) (.slice a4 b4 c4)))
      have SFak14 := Lib.hid (strsA_keep SFak13.out (fr_set (Av := fun b => b < w.heap.size + 2) (a := ⟨w.heap.size + 1, 4, none⟩) (by simp) (.slice a4 b4 c4)))
      have STs := Lib.hid (StepsA.keep (stepsA_fresh (w := w) hv M12.out.big) (fr_set (Av := fun b => b < w.heap.size + 2) (a := ⟨w.heap.size + 1, 4, none⟩) (by simp) (.slice a4 b4 c4)))
      have m14 : SM 38 #[.string ⟨#[]⟩, .slice none 0 0, .slice none 0 0, .slice none 0 0, .slice none 0 0] w _ p v ws s7 #[.string nm, .slice a1 b1 c1, .slice a2 b2 c2, .slice a3 b3 c3, .slice a4 b4 c4] := m13.set H.out.st 4 (.slice a4 b4 c4)
      have M14 := Lib.hid m14
      clear m13 m14 ha13 q13 hv
      have q15 := CM.out cClose _ _ (M14.out.rs H.out)
      go_wp2_with fail
      refine q15.mono ?_
      rintro e w15 ⟨rfl, ha15⟩
      have m15 := M14.out.step H.out.st ha15
      have M15 := Lib.hid m15
      have SInk15 := Lib.hid (strsA_keep SInk14.out (keep_after H.out.st ha15))
      have SOuk15 := Lib.hid (strsA_keep SOuk14.out (keep_after H.out.st ha15))
      have SFak15 := Lib.hid (strsA_keep SFak14.out (keep_after H.out.st ha15))
      have STsk15 := Lib.hid (StepsA.keep STs.out (keep_after H.out.st ha15))
      clear m15 ha15 q15
      try clear d0 d1 d2 d3 d4 g0 g1 g2 g3 g4
      obtain ⟨d0, d1, d2, d3, d4, g0, g1, g2, g3, g4⟩ := cells5 M15.out.r1
      obtain ⟨e0, e1, e2, e3, e4, i0, i1, i2, i3, i4⟩ := cells5 M15.out.r0
      go_wp2
      refine bodyPost_ret (results_c rfl _ _ w.heap.size _ _ _ _ rfl (heap_set _ _ (heap_set _ _ (heap_set _ _ (heap_set _ _ (heap_set _ _ M15.out.r0))))) Tryz.underlying38 rfl (by kernel_rfl)) rfl ?_
      have kF : ∀ (u0 u1 u2 u3 u4 : Value), Fr (fun b => b < w.heap.size + 2) w15 (((((w15.setCell ⟨w.heap.size, 0, none⟩ u0).setCell ⟨w.heap.size, 1, none⟩ u1).setCell ⟨w.heap.size, 2, none⟩ u2).setCell ⟨w.heap.size, 3, none⟩ u3).setCell ⟨w.heap.size, 4, none⟩ u4) := fun _ _ _ _ _ => ((((fr_set (by simp) _).trans (fr_set (by simp) _)).trans (fr_set (by simp) _)).trans (fr_set (by simp) _)).trans (fr_set (by simp) _)
      rw [HRES.out]
      exact ⟨⟨_, _, _, _, rfl, strsA_old (strsA_keep SInk15.out (kF _ _ _ _ _)), strsA_old (strsA_keep SOuk15.out (kF _ _ _ _ _)), strsA_old (strsA_keep SFak15.out (kF _ _ _ _ _)), stepsA_old (StepsA.keep STsk15.out (kF _ _ _ _ _))⟩, ((((M15.out.af.set H.out.st (Nat.le_refl _) _).set H.out.st (Nat.le_refl _) _).set H.out.st (Nat.le_refl _) _).set H.out.st (Nat.le_refl _) _).set H.out.st (Nat.le_refl _) _⟩
end Go.Proofs.YtlmnabhhgplhnaaGreatDoor
namespace Go.Proofs.YtlmnabhhgplhnaaGreatDoor
open Go.RowKit

/-! ### What has failed stays so -/
theorem take_fail (ws : List WordT) (b : Bool) {s : PS} (h : s.2 = true) : (takeP ws b s).2.2 = true := by rw [take_no (.inl h)]
theorem name_fail (ws : List WordT) {s : PS} (h : s.2 = true) : (nameP ws s).2.2 = true := take_fail ws _ h
theorem text_fail (ws : List WordT) {s : PS} (h : s.2 = true) : (textP ws s).2.2 = true := take_fail ws _ h
theorem number_fail (ws : List WordT) {s : PS} (h : s.2 = true) : (numberP ws s).2.2 = true := take_fail ws _ h
theorem op_fail (ws : List WordT) {s : PS} (h : s.2 = true) : (opP ws s).2.2 = true := take_fail ws _ h
theorem mark_fail (ws : List WordT) (c : ByteArray) {s : PS} (h : s.2 = true) : (markP ws c s).2 = true := take_fail ws _ h
theorem key_fail (ws : List WordT) (c : ByteArray) {s : PS} (h : s.2 = true) : (keyP ws c s).2 = true := take_fail ws _ h
theorem more_fail (ws : List WordT) : ∀ (f : Nat) (acc : List ByteArray) {s : PS}, s.2 = true → (moreF ws f acc s).2.2 = true
  | 0, _, _, h => h
  | f + 1, acc, s, h => by rw [moreF_stop (.inl h)]; exact h
theorem names_fail (ws : List WordT) : ∀ (f : Nat) (acc : List ByteArray) {s : PS}, s.2 = true → (namesF ws f acc s).2.2 = true
  | 0, _, _, h => h
  | f + 1, acc, s, h => by rw [namesF_stop (.inl h)]; exact h
theorem steps_fail (ws : List WordT) : ∀ (f : Nat) (acc : List StepS) {s : PS}, s.2 = true → (stepsF ws f acc s).2.2 = true
  | 0, _, _, h => h
  | f + 1, acc, s, h => by rw [stepsF_stop (.inl h)]; exact h
theorem clause_fail (ws : List WordT) (key : ByteArray) {s : PS} (h : s.2 = true) : (clauseP ws key s).2.2 = true :=
  mark_fail ws cSemi (more_fail ws _ _ (name_fail ws (key_fail ws key h)))
theorem opt_fail (ws : List WordT) (key : ByteArray) {s : PS} (h : s.2 = true) : (optP ws key s).2.2 = true := by
  unfold optP
  split
  · exact clause_fail ws key h
  · exact h
theorem rule_fail (ws : List WordT) {s : PS} (h : (keyP ws kRule s).2 = true) : (ruleP ws s).2.2 = true :=
  mark_fail ws cClose (steps_fail ws _ _ (opt_fail ws kAfter (clause_fail ws kOut (opt_fail ws kIn (mark_fail ws cOpen (name_fail ws h))))))
theorem more_ge (ws : List WordT) : ∀ (f : Nat) (acc : List ByteArray) (s : PS), s.1 ≤ (moreF ws f acc s).2.1
  | 0, _, _ => Nat.le_refl _
  | f + 1, acc, s => by
    unfold moreF
    split
    · exact Nat.le_trans (mark_ge ws cComma s) (Nat.le_trans (name_ge ws _) (more_ge ws f _ _))
    · exact Nat.le_refl _
theorem steps_ge (ws : List WordT) : ∀ (f : Nat) (acc : List StepS) (s : PS), s.1 ≤ (stepsF ws f acc s).2.1
  | 0, _, _ => Nat.le_refl _
  | f + 1, acc, s => by
    unfold stepsF
    split
    · exact Nat.le_trans (Nat.le_trans (name_ge ws s) (step_ge ws s)) (steps_ge ws f _ _)
    · exact Nat.le_refl _
theorem clause_ge (ws : List WordT) (key : ByteArray) (s : PS) : s.1 ≤ (clauseP ws key s).2.1 :=
  Nat.le_trans (key_ge ws key s) (Nat.le_trans (name_ge ws _) (Nat.le_trans (more_ge ws _ _ _) (mark_ge ws cSemi _)))
theorem opt_ge (ws : List WordT) (key : ByteArray) (s : PS) : s.1 ≤ (optP ws key s).2.1 := by
  unfold optP
  split
  · exact clause_ge ws key s
  · exact Nat.le_refl _
theorem rule_ge (ws : List WordT) (s : PS) : (keyP ws kRule s).1 ≤ (ruleP ws s).2.1 :=
  Nat.le_trans (name_ge ws _) (Nat.le_trans (mark_ge ws cOpen _) (Nat.le_trans (opt_ge ws kIn _) (Nat.le_trans (clause_ge ws kOut _) (Nat.le_trans (opt_ge ws kAfter _) (Nat.le_trans (steps_ge ws _ _ _) (mark_ge ws cClose _))))))
/-- How much is left to do. -/
def leftP (ws : List WordT) (s : PS) : Nat := 2 * (ws.length - s.1) + (if s.2 then 0 else 1)
theorem rule_less (ws : List WordT) (s : PS) (h : s.2 = false) (hl : s.1 < ws.length) : leftP ws (ruleP ws s).2 < leftP ws s ∧ s.1 + 1 ≤ (ruleP ws s).2.1 + (if (ruleP ws s).2.2 then 1 else 0) := by
  have hge := rule_ge ws s
  cases hk : isKeyP ws kRule s with
  | true =>
    have : (keyP ws kRule s).1 = s.1 + 1 := by unfold keyP; rw [take_yes h hk]
    refine ⟨?_, by omega⟩
    unfold leftP
    rw [h]
    simp only [Bool.false_eq_true, if_false]
    split <;> omega
  | false =>
    have hf : (keyP ws kRule s).2 = true := by unfold keyP; rw [take_no (.inr hk)]
    have hg : s.1 ≤ (keyP ws kRule s).1 := key_ge ws kRule s
    have hr := rule_fail ws hf
    refine ⟨?_, by rw [hr, if_pos rfl]; omega⟩
    unfold leftP
    rw [h, hr]
    simp only [Bool.false_eq_true, if_false, if_true]
    omega
theorem rulesF_go {ws : List WordT} {f : Nat} {acc : List RuleS} {s : PS} (h0 : s.2 = false) (h1 : isEndP ws s = false) : rulesF ws (f + 1) acc s = rulesF ws f (acc ++ [(ruleP ws s).1]) (ruleP ws s).2 := by
  simp [rulesF, h0, h1]
theorem rulesF_stop {ws : List WordT} {f : Nat} {acc : List RuleS} {s : PS} (h : s.2 = true ∨ isEndP ws s = true) : rulesF ws (f + 1) acc s = (acc, s) := by
  rcases h with h | h <;> simp [rulesF, h]

/-- Whether the reader has failed, read off memory. -/
def failOf (w : World) (p : Nat) : Nat := match w.cell? ⟨p, 2, none⟩ with
  | some (.bool true) => 0
  | _ => 1
theorem PSt.left {w : World} {p : Nat} {v : Value} {ws : List WordT} {s : PS} (h : PSt w p v ws s) : 2 * (ws.length - posPs w p) + failOf w p = leftP ws s := by
  rw [h.pos]
  unfold failOf leftP
  rw [h.cells.2.2.1]
  cases s.2 <;> rfl

theorem RuleA.len {Av : Nat → Prop} {w : World} {r : List Value} {x : RuleS} (h : RuleA Av w r x) : r.length = 5 := by obtain ⟨vi, vo, vf, vs, rfl, _⟩ := h; rfl
theorem RuleA.keep {Av : Nat → Prop} {w w' : World} {r : List Value} {x : RuleS} (h : RuleA Av w r x) (hf : Fr Av w w') : RuleA Av w' r x := by
  obtain ⟨vi, vo, vf, vs, rfl, h1, h2, h3, h4⟩ := h
  exact ⟨vi, vo, vf, vs, rfl, RowA.keep h1 hf, RowA.keep h2 hf, RowA.keep h3 hf, h4.keep hf⟩
theorem RuleA.mono {Av Av' : Nat → Prop} {w : World} {r : List Value} {x : RuleS} (h : RuleA Av w r x) (hm : ∀ b, b < w.heap.size → Av' b → Av b) : RuleA Av' w r x := by
  obtain ⟨vi, vo, vf, vs, rfl, h1, h2, h3, h4⟩ := h
  exact ⟨vi, vo, vf, vs, rfl, RowA.mono h1 hm, RowA.mono h2 hm, RowA.mono h3 hm, h4.mono hm⟩
def RulesA (Av : Nat → Prop) (w : World) (v : Value) (xs : List RuleS) : Prop := ∃ rows, RowA Av w v 5 rows ∧ AllA (RuleA Av w) rows xs
theorem RulesA.keep {Av : Nat → Prop} {w w' : World} {v : Value} {xs : List RuleS} (h : RulesA Av w v xs) (hf : Fr Av w w') : RulesA Av w' v xs := by
  obtain ⟨rows, h1, h2⟩ := h
  exact ⟨rows, h1.keep hf, h2.imp fun r x h => h.keep hf⟩
theorem RulesA.mono {Av Av' : Nat → Prop} {w : World} {v : Value} {xs : List RuleS} (h : RulesA Av w v xs) (hm : ∀ b, b < w.heap.size → Av' b → Av b) : RulesA Av' w v xs := by
  obtain ⟨rows, h1, h2⟩ := h
  exact ⟨rows, h1.mono hm, h2.imp fun r x h => h.mono hm⟩
theorem grow_rules {W w5 : World} {B : Nat} {vv v' : Value} {rows : List (List Value)} {xs : List RuleS} (h : AllA (fun r x => RuleA (AvOf B vv) W r x) rows xs) (hg : W.grownBy w5 vv.ownBlock) (hv : ∀ b, v'.ownBlock = some b → vv.ownBlock = some b ∨ W.heap.size ≤ b) :
    AllA (RuleA (AvOf B v') w5) rows xs := by
  refine h.imp fun r x hx => ?_
  have h1 : RuleA (fun b => AvOf B vv b ∨ W.heap.size ≤ b) W r x := hx.mono fun b hb e => by
    rcases e with e | e
    · exact e
    · omega
  refine (h1.keep (fr_grown hg fun k e => .inl (.inr e))).mono fun b _ e => ?_
  rcases e with e | e
  · exact .inl (.inl e)
  · rcases hv b e with e | e
    · exact .inl (.inr e)
    · exact .inr e
theorem info_rule : (Tryz.prog.info? 38).map (fun i => (i.zero, i.size, i.bytes)) = some (some (.agg #[.string ByteArray.empty, .slice none 0 0, .slice none 0 0, .slice none 0 0, .slice none 0 0]), 5, 112) := by kernel_rfl
theorem few_of {ws : List WordT} {s : PS} {n : Nat} (h : n ≤ s.1 + (if s.2 then 1 else 0)) (hl : s.1 < ws.length) : n ≤ ws.length := by
  split at h <;> omega

set_option maxHeartbeats 4000000 in
set_option maxRecDepth 100000 in
theorem p_rules_any (p : Nat) (v : Value) (ws : List WordT) (s : PS) (w : World) (h : RS w p v ws s) :
    Calls Tryz.prog 31 #[.pointer (some ⟨p, 0, none⟩)] w fun e w' => ∃ vv, e = .returned vv ∧ RulesA (fun b => b < w.heap.size) w' vv (rulesP ws s).1 ∧ After w w' p v ws (rulesP ws s).2 := by
  obtain ⟨i0, hi, hz0, hz1, hz2⟩ := info_of info_rule
  obtain ⟨R, hR⟩ : ∃ R, rulesP ws s = R := ⟨_, rfl⟩
  have H := Lib.hid h
  have HR := Lib.hid hR
  rw [hR]
  have hfew := h.few
  have hpl := h.st.p_lt
  clear hR h
  go_enter Tryz.func31, Tryz.ntmps31
  go_wp2
  go_loopw [3] (fun vv wr => ∃ (f : Nat) (acc : List RuleS) (rows : List (List Value)) (s' : PS), leftP ws s' < f ∧ rulesF ws f acc s' = R ∧ acc.length ≤ s'.1 + (if s'.2 then 1 else 0) ∧ wr.ownsRow w.heap.size 38 5 vv rows.length rows.flatten ∧ AllA (RuleA (AvOf w.heap.size vv) wr) rows acc ∧ After w wr p v ws s')
    (fun _ wr => 2 * (ws.length - posPs wr p) + failOf wr p)
  case atStart => exact ⟨2 * ws.length + 2, [], [], s, by unfold leftP; split <;> omega, HR.out, by simp, ⟨rfl, .inl ⟨rfl, rfl⟩⟩, AllA.nil _, After.refl H.out.st⟩
  case round =>
    obtain ⟨f, acc, rows, s', hf, hj, hal, hown, hall, ha⟩ := hrel
    obtain ⟨f, rfl⟩ : ∃ g, f = g + 1 := ⟨f - 1, by omega⟩
    have HA := Lib.hid ha
    have HJ := Lib.hid hj
    have HO := Lib.hid hown
    have HL := Lib.hid hall
    have HF := Lib.hid hf
    have hrl := hall.1
    have hacc := few_of hal ha.1.lt
    have HAL := Lib.hid hal
    have hrs := H.out.after ha
    obtain ⟨c0, c1, c2, f0, f1, f2⟩ := ha.1.cells
    have cI := p_isEnd_any p v ws s' wr hrs.st
    have CN : Hid (∀ w', Below wr.heap.size wr w' → Calls Tryz.prog 59 #[.pointer (some ⟨p, 0, none⟩)] w' fun e w'' => RuleE w' w'' (ruleP ws s').1 e ∧ After w' w'' p v ws (ruleP ws s').2) :=
      fun w' hb => p_rule_any p v ws s' w' (hrs.below hb)
    have hsz := ha.2.size
    have HLT := Lib.hid ha.1.lt
    obtain ⟨k, fl⟩ := s'
    clear ha hj hown hrs c0 f0 hall hf hal
    cases fl
    · obtain ⟨q, hq⟩ : ∃ q, isEndP ws (k, false) = q := ⟨_, rfl⟩
      rw [hq] at cI
      have HQ := Lib.hid hq
      clear hq
      cases q
      · have hres := HJ.out
        rw [rulesF_go rfl HQ.out] at hres
        obtain ⟨hless, hadv⟩ := rule_less ws (k, false) rfl HLT.out
        obtain ⟨y, hy⟩ : ∃ y, ruleP ws (k, false) = y := ⟨_, rfl⟩
        rw [hy] at hres hless hadv CN
        obtain ⟨x, s2⟩ := y
        have HRES := Lib.hid hres
        have HLESS := Lib.hid hless
        have HADV := Lib.hid hadv
        clear hres hadv hless hy
        simp only at CN HRES HLESS HADV
        go_wp2_with fail
        refine cI.mono ?_
        rintro e w2 ⟨rfl, hb2⟩
        have cN2 := CN.out w2 hb2
        have HB2 := Lib.hid hb2
        clear hb2 cI
        go_wp2_with fail
        refine cN2.mono ?_
        rintro e w3 ⟨⟨vi, vo, vf, vs, rfl, hvi, hvo, hvf, hvs⟩, ha3⟩
        obtain ⟨a1, a2, a3, e1⟩ := rowA_shape hvi
        subst e1
        obtain ⟨b1, b2, b3, e1⟩ := rowA_shape hvo
        subst e1
        obtain ⟨d1, d2, d3, e1⟩ := rowA_shape hvf
        subst e1
        obtain ⟨l1, l2, l3, e1⟩ := stepsA_shape hvs
        subst e1
        have hA3 := (HA.out.trans (After.of_below HA.out.1 HB2.out)).trans ha3
        have hO3 := own_fr (own_fr HO.out (fr_below HB2.out) hpl) ha3.2 hpl
        have hlt3 := fun b (hb : _ = some b) => (HO.out.lt b hb).2
        have hL3 := (HL.out.imp fun r' x' h => (h.keep (fr_below (Av := AvOf w.heap.size _) HB2.out)).keep (ha3.2.mono fun b _ e => .inl (by rw [e]; exact hpl))).snoc (r := [.string x.name, .slice a1 a2 a3, .slice b1 b2 b3, .slice d1 d2 d3, .slice l1 l2 l3]) (x := x)
          (RuleA.mono (Av := fun b => b < w2.heap.size) ⟨_, _, _, _, rfl, hvi, hvo, hvf, hvs⟩ fun b _ e => by
            have h2 := HB2.out.size
            rcases e with e | e
            · omega
            · have := hlt3 b e; omega)
        have HO3 := Lib.hid hO3
        have HL3 := Lib.hid (hL3.imp fun r' x' h => h.keep (fr_alloc _ _ (.cells #[.string x.name, .slice a1 a2 a3, .slice b1 b2 b3, .slice d1 d2 d3, .slice l1 l2 l3] 38)))
        have HA3 := Lib.hid hA3
        have hs3 := hA3.2.size
        clear ha3 hA3 cN2 hvi hvo hvf hvs hO3 hL3 hlt3
        go_wp2_with (at_builtin; refine wpList_append_new _ rfl _ _ 22 rfl w.heap.size 38 i0 (.agg #[.string ByteArray.empty, .slice none 0 0, .slice none 0 0, .slice none 0 0, .slice none 0 0]) 5 112 Tryz.underlying22 hi hz0 hz1 hz2 rfl (by decide) _ _ _ rfl (HO3.out.alloc _) ⟨w3.heap.size, 0, none⟩ 1 1 [.string x.name, .slice a1 a2 a3, .slice b1 b2 b3, .slice d1 d2 d3, .slice l1 l2 l3] rfl rfl ?c1 ?c2 (by decide) ?c3 ?c4 ?c5 ?_)
        case c1 =>
          intro j u hj
          match j, hj with
          | 0, hj => simp at hj; subst hj; simp [Addr.add]
          | 1, hj => simp at hj; subst hj; simp [Addr.add]
          | 2, hj => simp at hj; subst hj; simp [Addr.add]
          | 3, hj => simp at hj; subst hj; simp [Addr.add]
          | 4, hj => simp at hj; subst hj; simp [Addr.add]
        case c2 => intro u hu; simp at hu; rcases hu with rfl | rfl | rfl | rfl | rfl <;> rfl
        case c3 => unfold maxLen; omega
        case c4 => omega
        case c5 => simp; omega
        intro v' w4 hown' hgrow hnew
        have hA4 := (HA3.out.alloc (.cells #[.string x.name, .slice a1 a2 a3, .slice b1 b2 b3, .slice d1 d2 d3, .slice l1 l2 l3] 38)).grown H.out.st hgrow (fun b hb => (HO3.out.lt b hb).1)
        have hL4 := grow_rules (B := w.heap.size) (v' := v') HL3.out hgrow (fun b hb => by simpa using hnew b hb)
        have HO4 : Hid (w4.ownsRow w.heap.size 38 5 v' (rows ++ [([.string x.name, .slice a1 a2 a3, .slice b1 b2 b3, .slice d1 d2 d3, .slice l1 l2 l3] : List Value)]).length (rows ++ [([.string x.name, .slice a1 a2 a3, .slice b1 b2 b3, .slice d1 d2 d3, .slice l1 l2 l3] : List Value)]).flatten) := by
          show w4.ownsRow _ _ _ _ _ _
          rw [List.length_append, List.flatten_append]
          simpa [hrl] using hown'
        have HA4 := Lib.hid hA4
        have HL4 := Lib.hid hL4
        clear hgrow hown' hA4 hL4 hnew
        go_wp2
        go_roundw
        case rel =>
          refine ⟨f, acc ++ [x], _, s2, by have := HLESS.out; have := HF.out; omega, HRES.out, ?_, HO4.out, HL4.out, HA4.out⟩
          have h2 : acc.length ≤ k + 0 := HAL.out
          rw [List.length_append]
          simp only [List.length_cons, List.length_nil]
          have h3 : k + 1 ≤ s2.1 + (if s2.2 then 1 else 0) := HADV.out
          omega
        case measure => rw [HA4.out.1.left, HA.out.1.left]; exact HLESS.out
      · have hres := HJ.out
        rw [rulesF_stop (.inr HQ.out)] at hres
        have HRES := Lib.hid hres
        clear hres
        go_wp2_with fail
        refine cI.mono ?_
        rintro e w2 ⟨rfl, hb2⟩
        go_wp2
        go_ret
        refine ⟨_, rfl, ?_, by rw [← HRES.out]; exact HA.out.trans (After.of_below HA.out.1 hb2)⟩
        rw [← HRES.out]
        have hl2 := HL.out.imp fun r x h => h.keep (fr_below (Av := AvOf w.heap.size _) hb2)
        exact ⟨rows, rowA_own (own_fr HO.out (p := p) (fr_below hb2) hpl) (HL.out.len fun r x h => h.len), hl2.imp fun r x h => h.mono fun b _ e => .inl e⟩
    · have hres := HJ.out
      rw [rulesF_stop (.inl rfl)] at hres
      have HRES := Lib.hid hres
      clear hres cI
      go_wp2
      go_ret
      refine ⟨_, rfl, ?_, by rw [← HRES.out]; exact HA.out⟩
      rw [← HRES.out]
      exact ⟨rows, rowA_own HO.out (HL.out.len fun r x h => h.len), HL.out.imp fun r x h => h.mono fun b _ e => .inl e⟩
end Go.Proofs.YtlmnabhhgplhnaaGreatDoor
namespace Go.Proofs.YtlmnabhhgplhnaaGreatDoor
open Go.RowKit

theorem str_text : ∀ (f : Nat) {l : List UInt8} {x : List UInt8 × Nat}, strF f l = some x → x.1.length ≤ x.2
  | 0, _, _, h => by simp [strF] at h
  | f + 1, [], _, h => by simp [strF] at h
  | f + 1, c :: r, x, h => by
    rw [strF_cons] at h
    split at h
    · injection h with h; subst h; simp
    · cases he : elemS (c :: r) with
      | none => rw [he] at h; cases h
      | some y =>
        obtain ⟨d, n⟩ := y
        have hp := elem_pos he
        rw [he] at h
        simp only [Option.map_eq_some_iff] at h
        obtain ⟨z, hz, rfl⟩ := h
        have := str_text f hz
        simp only [List.length_cons]
        omega
theorem word_text {l : List UInt8} {k : Int} {t : List UInt8} {n : Nat} (h : wordS l = some (k, t, n)) : t.length ≤ n := by
  cases l with
  | nil => simp [wordS] at h
  | cons c r =>
    rw [wordS_cons] at h
    split at h
    · obtain ⟨x, hx, h⟩ := Option.map_eq_some_iff.1 h
      injection h with _ h; injection h with h1 h2
      have := str_text _ hx
      subst h1 h2
      omega
    · split at h
      · injection h with h; injection h with _ h; injection h with h1 h2
        subst h1 h2; exact Nat.le_refl _
      · split at h
        · injection h with h; injection h with _ h; injection h with h1 h2
          subst h1 h2; simp
        · cases h
theorem ends_one (x : WordT) (h : x.1 = 4) : EndsW [x] := by
  intro k hk hn
  obtain rfl : k = 0 := by simpa using hk
  exact absurd h hn
theorem ends_cons (x : WordT) {ws : List WordT} (h : EndsW ws) (h0 : 0 < ws.length) : EndsW (x :: ws) := by
  intro k hk hn
  cases k with
  | zero => simp; omega
  | succ k =>
    have := h k (by simpa using hk) (by simpa [wAt] using hn)
    simp; omega
theorem allF_ok : ∀ (f a : Nat) (l : List UInt8) (ws : List WordT), allF f a l = .ok ws → EndsW ws ∧ 0 < ws.length ∧ ws.length ≤ l.length + 1 ∧ ∀ x ∈ ws, x.2.2.length ≤ l.length
  | 0, _, _, _, h => by cases h
  | f + 1, a, l, ws, h => by
    rw [allF_succ] at h
    split at h
    · injection h with h
      subst h
      exact ⟨ends_one _ rfl, by simp, by simp, by simp⟩
    · split at h
      · cases h
      · rename_i k t n hw
        split at h
        · cases h
        · rename_i ws' hr
          injection h with h
          subst h
          obtain ⟨h1, h2, h3, h4⟩ := allF_ok f _ _ ws' hr
          have hp := word_pos hw
          have ht := word_text hw
          have hs := skip_le l false
          rw [List.length_drop] at hp
          rw [List.length_drop, List.length_drop] at h3
          refine ⟨ends_cons _ h1 h2, by simp, by simp only [List.length_cons]; omega, fun x hx => ?_⟩
          rcases List.mem_cons.1 hx with rfl | hx
          · simp only; omega
          · have := h4 x hx
            rw [List.length_drop, List.length_drop] at this
            omega
theorem GP.up {p p' : Nat} {w : World} (h : GP p w) (hp : p ≤ p') : GP p' w := ⟨h.glob, h.ops, Nat.lt_of_lt_of_le h.l1 hp, Nat.lt_of_lt_of_le h.l2 hp, Nat.lt_of_lt_of_le h.l3 hp, Nat.lt_of_lt_of_le h.l4 hp, Nat.lt_of_lt_of_le h.l5 hp⟩

/-- What 'File' answers. -/
def FileE (L : List UInt8) (w w' : World) (e : Ending) : Prop :=
  match fileS L with
  | .error x => e = .returned (.tuple #[.slice none 0 0, .agg #[.int .i64 x.1, .int .i64 x.2]])
  | .ok rs => ∃ v, e = .returned (.tuple #[v, .agg #[.int .i64 0, .int .i64 0]]) ∧ RulesA (fun b => b < w.heap.size) w' v rs
theorem fileE_bad {L : List UInt8} {w w' : World} {e : Ending} {c a : Int} (h : fileS L = .error (c, a)) (he : e = .returned (.tuple #[.slice none 0 0, .agg #[.int .i64 c, .int .i64 a]])) : FileE L w w' e := by
  unfold FileE; rw [h]; exact he
theorem fileE_good {L : List UInt8} {w w' : World} {e : Ending} {rs : List RuleS} {v : Value} (h : fileS L = .ok rs) (he : e = .returned (.tuple #[v, .agg #[.int .i64 0, .int .i64 0]])) (hr : RulesA (fun b => b < w.heap.size) w' v rs) : FileE L w w' e := by
  unfold FileE; rw [h]; exact ⟨v, he, hr⟩
/-- The reader of a new file. -/
theorem rs_new {w W : World} {v : Value} {ws : List WordT} {L : List UInt8} (h : allS L = .ok ws) (hL : L.length ≤ 1048576) (hg : GP w.heap.size w) (hb : Below w.heap.size w W) (hw : IsWords W v ws) (hv : ∀ b, v.ownBlock = some b → b < W.heap.size) :
    RS (W.alloc (.cells #[v, .int .i64 0, .bool false] 67)) W.heap.size v ws (0, false) := by
  obtain ⟨h1, h2, h3, h4⟩ := allF_ok _ _ _ _ h
  have hA := (Below.refl W.heap.size W).alloc (Nat.le_refl _) (.cells #[v, .int .i64 0, .bool false] 67)
  refine ⟨⟨alloc_at W _, ⟨hw.below hA, fun b e => ⟨by have := hv b e; simp; omega, fun e2 => by have := hv b e; omega⟩⟩, h2, h1⟩, ?_, fun k hk => ?_, by omega⟩
  · exact ((hg.below hb).up hb.size).below (hA.mono (Nat.le_refl _))
  · have hm : ws[k]'hk ∈ ws := List.getElem_mem hk
    have := h4 _ hm
    unfold wTx wAt
    rw [List.getD_eq_getElem?_getD, List.getElem?_eq_getElem hk]
    simp only [Option.getD_some, ByteArray.size, List.size_toArray]
    omega
theorem words_block {w : World} {v : Value} {ws : List WordT} (h : IsWords w v ws) (h0 : 0 < ws.length) : ∀ b, v.ownBlock = some b → b < w.heap.size := by
  obtain ⟨a, c, rfl, _, _, h2⟩ := h
  have hne : wordRows ws ≠ [] := by
    intro e
    have : ws.length = 0 := by rw [← wordRows_length ws, e]; rfl
    omega
  obtain ⟨b, o, rfl, h3, _⟩ := h2 hne
  intro b' e
  cases e
  exact h3

set_option maxHeartbeats 4000000 in
set_option maxRecDepth 100000 in
theorem file_any (s : ByteArray) (w : World) (hs : s.size ≤ maxLen) (hg : GP w.heap.size w) :
    Calls Tryz.prog 9 #[.string s] w fun e w' => FileE s.data.toList w w' e ∧ Below w.heap.size w w' := by
  unfold maxLen at hs
  obtain ⟨L, hL⟩ : ∃ L, s.data.toList = L := ⟨_, rfl⟩
  have hsz : s.size = L.length := by rw [← hL]; exact Lib.size_eq s
  rw [hL]
  by_cases hm : 20000 < s.size
  · have hres : fileS L = .error (4, -1) := by unfold fileS; rw [if_pos (by omega)]
    have HRES := Lib.hid hres
    have hm' : (20000 : Int) < (s.size : Int) := by omega
    clear hres hL hsz hg
    go_enter Tryz.func9, Tryz.ntmps9
    go_wp2
    refine bodyPost_ret (results_tc rfl _ _ w.heap.size _ _ _ _ rfl (alloc_at w _) Tryz.underlying30 rfl (by kernel_rfl)) rfl ?_
    exact ⟨fileE_bad HRES.out rfl, (Below.refl _ _).alloc (Nat.le_refl _) _⟩
  · have hm' : ¬ (20000 : Int) < (s.size : Int) := by omega
    have cA := fun w' => lexAll_any s w' (by omega)
    rw [hL] at cA
    have CA := Lib.hid cA
    have HG := Lib.hid hg
    have HSZ := Lib.hid hsz
    clear hL cA hg hsz
    cases hA : allS L with
    | error q =>
      have hres : fileS L = .error (1, (q : Int)) := by unfold fileS; rw [if_neg (by have := HSZ.out; omega), hA]
      have HRES := Lib.hid hres
      have HAE := Lib.hid hA
      clear hres hA
      go_enter Tryz.func9, Tryz.ntmps9
      go_wp2_with fail
      refine (CA.out _).mono ?_
      rintro e w2 ⟨he, hb2⟩
      unfold AllE at he
      rw [HAE.out] at he
      simp only at he
      subst he
      have hnx := below_new hb2
      have hbk := at_new hb2
      have hbk2 : (w2.alloc (.cells #[.int .i64 1, .int .i64 (q : Int)] 30)).heap[w.heap.size]? = some (.cells #[.int .i64 0, .int .i64 0] 30) := by
        rw [Below.heap_alloc _ _ _ (by have := hb2.size; simp at this; omega)]; exact hbk
      obtain ⟨e0, e1, f0, f1⟩ := cells2 hbk2
      have HBK := Lib.hid hbk2
      have HNX := Lib.hid hnx
      clear hbk hbk2 hb2 hnx
      go_wp2_with fail
      go_region
      all_goals go_wp2
      all_goals refine bodyPost_ret (results_tc rfl _ _ w.heap.size _ _ _ _ rfl (heap_set _ _ (heap_set _ _ HBK.out)) Tryz.underlying30 rfl (by kernel_rfl)) rfl ?_
      all_goals exact ⟨fileE_bad HRES.out rfl, (((HNX.out.alloc HNX.out.size _).setCell (Nat.le_refl _) _).setCell (Nat.le_refl _) _).drew⟩
    | ok ws =>
      obtain ⟨x, hx⟩ : ∃ x, rulesP ws (0, false) = x := ⟨_, rfl⟩
      have hres : fileS L = if x.2.2 then .error (1, ((wAt ws x.2.1).2.1 : Int)) else .ok x.1 := by unfold fileS; rw [if_neg (by have := HSZ.out; omega), hA, ← hx]
      obtain ⟨rs, st⟩ := x
      obtain ⟨k, fl⟩ := st
      have HRES := Lib.hid hres
      have HX := Lib.hid hx
      have HAE := Lib.hid hA
      clear hres hA hx
      go_enter Tryz.func9, Tryz.ntmps9
      go_wp2_with fail
      refine (CA.out _).mono ?_
      rintro e w2 ⟨he, hb2⟩
      unfold AllE at he
      rw [HAE.out] at he
      simp only at he
      obtain ⟨v, rfl, hwd⟩ := he
      have hnx := below_new hb2
      have hbk := at_new hb2
      have hs2 := hb2.size
      simp at hs2
      have h1 := words_block hwd (allF_ok _ _ _ _ HAE.out).2.1
      obtain ⟨va, vn, vc, hvs⟩ : ∃ a n c, v = .slice a n c := by obtain ⟨a, c, rfl, _⟩ := hwd; exact ⟨_, _, _, rfl⟩
      subst hvs
      have hA2 := hnx.alloc hnx.size (.cells #[.int .i64 0, .int .i64 0] 30)
      have hrs := rs_new HAE.out (by have := HSZ.out; omega) HG.out hA2 (hwd.below ((Below.refl _ _).alloc (Nat.le_refl _) (.cells #[.int .i64 0, .int .i64 0] 30))) (fun b e => by have := h1 b e; simp; omega)
      have hp : (w2.alloc (.cells #[.int .i64 0, .int .i64 0] 30)).heap.size = w2.heap.size + 1 := by simp
      rw [hp] at hrs
      have cR := p_rules_any _ _ _ _ _ hrs
      rw [HX.out] at cR
      have HRS := Lib.hid hrs
      have HB := Lib.hid hbk
      have HN2 := Lib.hid hA2
      clear hbk hb2 hnx hwd h1 hA2 hp hrs
      go_wp2_with fail
      refine cR.mono ?_
      rintro e w3 ⟨vv, rfl, hrl, ha3⟩
      obtain ⟨ra, rn, rc, hvs⟩ : ∃ a n c, vv = .slice a n c := by obtain ⟨rows, h1, _⟩ := hrl; exact rowA_shape h1
      subst hvs
      obtain ⟨c0, c1, c2, f0, f1, f2⟩ := ha3.1.cells
      have herr3 : w3.heap[w.heap.size]? = some (.cells #[.int .i64 0, .int .i64 0] 30) := by
        rw [ha3.2.block _ (by simp; omega) (by omega), Below.heap_alloc _ _ _ (by simp; omega), Below.heap_alloc _ _ _ (by omega)]
        exact HB.out
      have hn3 : Below w.heap.size w w3 := (HN2.out.alloc HN2.out.size _).trans (ha3.2.below (by simp; omega) fun b hb e => by omega)
      have HR3 : Hid (RulesA (fun b => b < w.heap.size + 1) w3 (.slice ra rn rc) rs) := RulesA.mono hrl fun b _ e => by simp; omega
      have HA3 := Lib.hid ha3
      have HN3 := Lib.hid hn3
      have HE3 := Lib.hid herr3
      have hs3 := ha3.2.size
      simp at hs3
      cases fl
      · obtain ⟨e0, e1, g0, g1⟩ := cells2 herr3
        have hgood : fileS L = .ok rs := HRES.out
        have HGOOD := Lib.hid hgood
        clear ha3 herr3 hn3 hrl cR hgood
        go_wp2
        refine bodyPost_ret (results_tc rfl _ _ w.heap.size _ _ _ _ rfl (heap_set _ _ (heap_set _ _ HE3.out)) Tryz.underlying30 rfl (by kernel_rfl)) rfl ?_
        refine ⟨fileE_good HGOOD.out rfl (RulesA.mono (RulesA.keep HR3.out ((fr_set (by simp) _).trans (fr_set (by simp) _))) fun b _ e => by omega), (HN3.out.setCell (Nat.le_refl _) _).setCell (Nat.le_refl _) _⟩
      · have hbad : fileS L = .error (1, ((wAt ws k).2.1 : Int)) := HRES.out
        have HBAD := Lib.hid hbad
        have cW := word_any _ _ _ _ _ ha3.1
        unfold wVal at cW
        have F1 := fld1
        clear herr3 hn3 hrl cR hbad ha3
        go_wp2_with fail
        refine cW.mono ?_
        rintro e w4 ⟨rfl, hb4⟩
        have herr4 : w4.heap[w.heap.size]? = some (.cells #[.int .i64 0, .int .i64 0] 30) := by rw [hb4.block _ (by omega)]; exact HE3.out
        obtain ⟨e0, e1, g0, g1⟩ := cells2 herr4
        have HE4 := Lib.hid herr4
        have HN4 := Lib.hid (HN3.out.trans (hb4.mono HN3.out.size))
        clear herr4 hb4 cW
        go_wp2
        refine bodyPost_ret (results_tc rfl _ _ w.heap.size _ _ _ _ rfl (heap_set _ _ (heap_set _ _ HE4.out)) Tryz.underlying30 rfl (by kernel_rfl)) rfl ?_
        exact ⟨fileE_bad HBAD.out rfl, (HN4.out.setCell (Nat.le_refl _) _).setCell (Nat.le_refl _) _⟩
end Go.Proofs.YtlmnabhhgplhnaaGreatDoor
