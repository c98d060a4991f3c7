/- Rows of elements of k cells: parts of them, and appends of one row to another. The reference's rising: a list of texts in order. The reference's Sorted: rules in order. The reference's Print: a rule's text. How long the reference's texts are. -/
import Derived.Test.YtlmnabhhgplhnaaGreatDoorMapp
import Derived.Test.YtlmnabhhgplhnaaGreatDoorMcop
import Derived.Test.YtlmnabhhgplhnaaGreatDoorMpri
import Derived.Deep.CutBlock
import Derived.Deep.DeepCutAuto
import Derived.Test.YtlmnabhhgplhnaaGreatDoorMlaw
import Derived.Test.YtlmnabhhgplhnaaGreatDoorMrt
namespace Go.Proofs.YtlmnabhhgplhnaaGreatDoor
open Go.RowKit Go.Shelf

/-- x[k:], as the model writes it. -/
def dropV (size k : Nat) (a : Option Addr) (n c : Nat) : Value := .slice (if c = k then a else a.map (·.add (k * size))) (n - k) (c - k)
theorem IsRow.take {w : World} {a : Option Addr} {n c k : Nat} {rows : List (List Value)} (h : IsRow w (.slice a n c) k rows) {m : Nat} (hm : m ≤ n) : IsRow w (.slice a m c) k (rows.take m) := by
 obtain ⟨a', c', q, h1, h2, h3⟩ := h
 injection q with q1 q2 q3
 subst q1 q3
 refine ⟨a, c, by rw [List.length_take]; congr 1; omega, by rw [List.length_take]; omega, h2, fun hne => ?_⟩
 obtain ⟨b, o, ha, hb, hc⟩ := h3 (by rintro rfl; simp at hne)
 refine ⟨b, o, ha, hb, fun j x hx => hc j x ?_⟩
 rw [List.getElem?_take] at hx
 split at hx
 ·exact hx
 ·cases hx
theorem IsRow.drop {w : World} {a : Option Addr} {n c k : Nat} {rows : List (List Value)} (h : IsRow w (.slice a n c) k rows) {m : Nat} (hm : m ≤ n) : IsRow w (dropV k m a n c) k (rows.drop m) := by
 obtain ⟨a', c', q, h1, h2, h3⟩ := h
 injection q with q1 q2 q3
 subst q1 q3
 refine ⟨_, c - m, by unfold dropV; rw [List.length_drop, q2], by rw [List.length_drop]; omega, by omega, fun hne => ?_⟩
 have hlt : m < rows.length := by
  rcases Nat.lt_or_ge m rows.length with h | h
  ·exact h
  ·rw [List.drop_eq_nil_of_le h] at hne; exact absurd rfl hne
 obtain ⟨b, o, ha, hb, hc⟩ := h3 (by rintro rfl; simp at hlt)
 subst ha
 refine ⟨b, o + m * k, by rw [if_neg (by omega), Option.map_some, Addr.add_lit], hb, fun j r hr i u hu => ?_⟩
 rw [List.getElem?_drop] at hr
 have := hc (m + j) r hr i u hu
 rw [Nat.add_mul] at this
 rw [← this]
 congr 2
 omega
theorem row_cells {w : World} {b o c n k : Nat} {rows : List (List Value)} (h : IsRow w (.slice (some ⟨b, o, none⟩) n c) k rows) (hk : ∀ r ∈ rows, r.length = k) (h0 : 0 < k) : ∀ j u, rows.flatten[j]? = some u → w.cell? ((⟨b, o, none⟩ : Addr).add j) = some u := by
 intro j u hj
 obtain ⟨a', c', q, h1, h2, h3⟩ := h
 injection q with q1 q2 q3
 subst q1 q3
 have hl : rows.flatten.length = rows.length * k := by
  clear hj h1 h3 q2
  induction rows with
  | nil => simp
  | cons r rows ih => rw [List.flatten_cons, List.length_append, ih (fun r hr => hk r (by simp [hr])), hk r (by simp), List.length_cons, Nat.succ_mul]; omega
 have hjl := (List.getElem?_eq_some_iff.1 hj).1
 rw [hl] at hjl
 have hd : j / k < rows.length := (Nat.div_lt_iff_lt_mul h0).2 hjl
 have hm : j % k < k := Nat.mod_lt _ h0
 obtain ⟨b', o', e, hb, hc⟩ := h3 (by rintro rfl; simp at hd)
 cases e
 have hr : rows[j / k]? = some rows[j / k] := List.getElem?_eq_getElem hd
 have hrl : rows[j / k].length = k := hk _ (List.getElem_mem _)
 have hu : rows[j / k][j % k]? = some (rows[j / k][j % k]'(by rw [hrl]; exact hm)) := List.getElem?_eq_getElem _
 have h4 := hc _ _ hr _ _ hu
 have h5 := flat_at k rows hk _ _ hr _ _ hu
 rw [show j / k * k + j % k = j by rw [Nat.mul_comm]; exact Nat.div_add_mod j k] at h5
 rw [hj] at h5
 injection h5 with h5
 rw [Addr.add_lit, h5, ← h4]
 congr 2
 have := Nat.div_add_mod j k
 rw [Nat.mul_comm] at this
 omega
theorem exec_slice_from {ρ : Operand → Value} {o : Oper} {t e : TypeId} {x l : Operand} {a : Option Addr} {n c k : Nat} {i : TypeInfo} {size : Nat} {w : World} (ho : o.op = .slice t x (some l) none none) (ht : Tryz.prog.underlying t = some (.slice e)) (hi : Tryz.prog.info? e = some i) (hsz : i.size = size)
  (hx : ρ x = .slice a n c) (hl : ρ l = .int .i64 (k : Int)) (h1 : k ≤ n) : (execOp ρ o).run Tryz.prog w = .ok (.value (dropV size k a n c)) w := by
 subst hsz
 have e1 : (k : Int) ≤ (n : Int) := by omega
 unfold execOp dropV
 simp only [ho, hx, hl, Option.map_some, Option.map_none]
 simp [Instr.sliceAt, Instr.slice, run_underlying ht, sizeOf, typeInfo, hi, Instr.sliceBounds, go_sem, e1]

section
variable {w : World} {ops : Array Oper} {o : Oper} {a : Act} {K : Act → World → Prop} {Q : Exit → Act → World → Prop} {E : Prop}
theorem run_append_nothing {P : Program} (t ty e : TypeId) (i : TypeInfo) (ht : P.underlying t = some (.slice e)) (hi : P.info? e = some i) (ad : Option Addr) (n cap c : Nat) (hn : n ≤ cap) :
  (Builtin.append_ #[t, t] ty #[.slice ad n cap, .slice none 0 c]).run P w = .ok (.slice ad n cap) w := by
 cases ad with
 | none => simp [Builtin.append_, run_underlying ht, sizeOf, typeInfo, hi, Builtin.lenOf, Builtin.firstCells, hn]
 | some ad => simp [Builtin.append_, run_underlying ht, sizeOf, typeInfo, hi, Builtin.lenOf, Builtin.firstCells, hn, storeCells]
theorem run_append_rows {P : Program} (t ty e : TypeId) (i : TypeInfo) (z : Value) (size bytes : Nat) (h1 : P.underlying t = some (.slice e)) (h2 : P.info? e = some i) (h3 : i.zero = some z) (h4 : i.size = size) (h5 : i.bytes = bytes) (h6 : z.cells.size = size) (h7 : 0 < size)
  {B : Nat} {v v2 : Value} {rows rows2 : List (List Value)} (hown : w.ownsRow B e size v rows.length rows.flatten) (hrow : IsRow w v2 size rows2) (hlen : ∀ r ∈ rows2, r.length = size) (hone : ∀ r ∈ rows2, ∀ u ∈ r, u.oneCell' = true)
  (b1 : rows.length + rows2.length ≤ maxLen) (b2 : (rows.length + rows2.length) * bytes ≤ 140737488355328) (hB : B ≤ w.heap.size) :
  ∃ v' w', (Builtin.append_ #[t, t] ty #[v, v2]).run P w = .ok v' w' ∧ w'.ownsRow B e size v' (rows ++ rows2).length (rows ++ rows2).flatten ∧ w.grownBy w' v.ownBlock ∧ (∀ b, v'.ownBlock = some b → v.ownBlock = some b ∨ w.heap.size ≤ b) := by
 obtain ⟨a2, c2, rfl, g1, g2, g3⟩ := id hrow
 rw [List.length_append, List.flatten_append]
 have hfl : rows2.flatten.length = rows2.length * size := by
  clear hrow g1 g3 b1 b2 hone
  induction rows2 with
  | nil => simp
  | cons r rows ih => rw [List.flatten_cons, List.length_append, ih (fun r hr => hlen r (by simp [hr])), hlen r (by simp), List.length_cons, Nat.succ_mul]; omega
 cases a2 with
 | none =>
  have hr0 : rows2 = [] := by
   rcases rows2 with _ | ⟨r, rs⟩
   ·rfl
   ·obtain ⟨b, o, e, _⟩ := g3 (by simp); cases e
  subst hr0
  obtain ⟨av, cv, rfl, _, hc, _⟩ := own_shape hown
  refine ⟨_, w, run_append_nothing t ty e i h1 h2 av rows.length cv c2 hc, by simpa using hown, ⟨rfl, rfl, rfl, Nat.le_refl _, fun _ _ _ => rfl⟩, fun b hb => .inl hb⟩
 | some ad =>
  by_cases hne : rows2 = []
  ·subst hne
   exact run_append_new w B t ty e i z size bytes h1 h2 h3 h4 h5 h6 h7 v rows.length rows.flatten hown ad 0 c2 [] (by simp) (by simp) (by simp) (by simpa using b1) (by simpa using b2) hB
  ·obtain ⟨b, o, e', _, _⟩ := g3 hne
   injection e' with e'
   subst e'
   exact run_append_new w B t ty e i z size bytes h1 h2 h3 h4 h5 h6 h7 v rows.length rows.flatten hown ⟨b, o, none⟩ rows2.length c2 rows2.flatten hfl (row_cells hrow hlen h7) (fun u hu => by
    obtain ⟨r, hr, hu⟩ := List.mem_flatten.1 hu
    exact hone r hr u hu) b1 b2 hB
theorem step_append_rows (hgd : o.guard = none) (s x : Operand) (t : TypeId) (ho : o.op = .call { callee := .builtin .append, args := #[s, x], argTypes := #[t, t] })
  (e : TypeId) (i : TypeInfo) (z : Value) (size bytes : Nat) (h1 : Tryz.prog.underlying t = some (.slice e)) (h2 : Tryz.prog.info? e = some i) (h3 : i.zero = some z) (h4 : i.size = size) (h5 : i.bytes = bytes) (h6 : z.cells.size = size) (h7 : 0 < size)
  (B : Nat) (v v2 : Value) (rows rows2 : List (List Value)) (hs : a.eval s = v) (hx : a.eval x = v2) (hown : w.ownsRow B e size v rows.length rows.flatten) (hrow : IsRow w v2 size rows2) (hlen : ∀ r ∈ rows2, r.length = size) (hone : ∀ r ∈ rows2, ∀ u ∈ r, u.oneCell' = true)
  (b1 : rows.length + rows2.length ≤ 1000000000) (b3 : bytes ≤ 1000) (hB : B ≤ w.heap.size)
  (h : ∀ v' w', w'.ownsRow B e size v' (rows ++ rows2).length (rows ++ rows2).flatten → w.grownBy w' v.ownBlock → (∀ b, v'.ownBlock = some b → v.ownBlock = some b ∨ w.heap.size ≤ b) → K (a.put o.dst v') w') :
  if Region.wanted o (yielded ops a.tmps) = true then Oper.wp Tryz.prog o a w K Q else E := by
 have hw : Region.wanted o (yielded ops a.tmps) = true := by simp [Region.wanted, hgd]
 rw [if_pos hw]
 have hb2 : (rows.length + rows2.length) * bytes ≤ 140737488355328 := Nat.le_trans (Nat.mul_le_mul b1 b3) (by decide)
 obtain ⟨v', w', hr, r1, r2, r3⟩ := run_append_rows (P := Tryz.prog) t o.type e i z size bytes h1 h2 h3 h4 h5 h6 h7 hown hrow hlen hone (by unfold maxLen; omega) hb2 hB
 unfold Oper.wp execOp
 simp only [ho, resolve, invoke, builtin, Sem.run_bind, Sem.run_pure, Result.andThen_ok, List.map_toArray, List.map_cons, List.map_nil, hs, hx, hr]
 exact h v' w' r1 r2 r3
end
theorem strRows_one (xs : List ByteArray) : ∀ r ∈ strRows xs, ∀ u ∈ r, u.oneCell' = true := by
 intro r hr u hu
 obtain ⟨x, _, rfl⟩ := List.mem_map.1 hr
 simp at hu
 subst hu
 rfl
theorem strRows_take (xs : List ByteArray) (k : Nat) : (strRows xs).take k = strRows (xs.take k) := by unfold strRows; rw [List.map_take]
theorem strRows_drop (xs : List ByteArray) (k : Nat) : (strRows xs).drop k = strRows (xs.drop k) := by unfold strRows; rw [List.map_drop]
theorem strRows_append (xs ys : List ByteArray) : strRows xs ++ strRows ys = strRows (xs ++ ys) := by unfold strRows; rw [List.map_append]
/-- A slice of one element that lies in a block of its own. -/
theorem isRow_one {w : World} {g k : Nat} {r : List Value} (hg : g < w.heap.size) (hk : ∀ (i : Nat) u, r[i]? = some u → w.cell? ⟨g, i, none⟩ = some u) : IsRow w (.slice (some ⟨g, 0, none⟩) 1 1) k [r] :=
 ⟨_, 1, rfl, by simp, by unfold maxLen; omega, fun _ => ⟨g, 0, rfl, hg, fun j r' hr i u hu => by
  match j, hr with
  | 0, hr =>
   simp at hr
   subst hr
   have := hk i u hu
   simpa using this⟩⟩
theorem ownStrs_rows {B : Nat} {w : World} {v : Value} {xs : List ByteArray} : OwnStrs B w v xs ↔ w.ownsRow B 9 1 v (strRows xs).length (strRows xs).flatten := by
 unfold OwnStrs; rw [strRows_length, strRows_flat]
theorem step_append_S {w : World} {ops : Array Oper} {o : Oper} {a : Act} {K : Act → World → Prop} {Q : Exit → Act → World → Prop} {E : Prop} (hgd : o.guard = none) (s x : Operand) (ho : o.op = .call { callee := .builtin .append, args := #[s, x], argTypes := #[35, 35] })
  (B : Nat) (v v2 : Value) (xs ys : List ByteArray) (hs : a.eval s = v) (hx : a.eval x = v2) (hown : OwnStrs B w v xs) (hI : IsRow w v2 1 (strRows ys)) (b1 : xs.length + ys.length ≤ 1000000000) (hB : B ≤ w.heap.size)
  (h : ∀ v' w', OwnStrs B w' v' (xs ++ ys) → w.grownBy w' v.ownBlock → (∀ b, v'.ownBlock = some b → v.ownBlock = some b ∨ w.heap.size ≤ b) → K (a.put o.dst v') w') :
  if Region.wanted o (yielded ops a.tmps) = true then Oper.wp Tryz.prog o a w K Q else E := by
 obtain ⟨i0, hi, hz0, hz1, hz2⟩ := info_of info_str
 refine step_append_rows hgd s x 35 ho 9 i0 (.string ByteArray.empty) 1 16 Tryz.underlying35 hi hz0 hz1 hz2 rfl (by decide) B v v2 (strRows xs) (strRows ys) hs hx (ownStrs_rows.1 hown) hI (strRows_len ys) (strRows_one ys) (by rw [strRows_length, strRows_length]; exact b1) (by decide) hB ?_
 intro v' w' h1 h2 h3
 rw [strRows_append] at h1
 exact h v' w' (ownStrs_rows.2 h1) h2 h3
theorem ownStrs_nil (B : Nat) (w : World) : OwnStrs B w (.slice none 0 0) [] := World.ownsRow_nil _ _ _ _
theorem OwnStrs.strsA {B : Nat} {w : World} {v : Value} {xs : List ByteArray} (h : OwnStrs B w v xs) : StrsA (fun b => b < B) w v xs := strsA_own h
theorem OwnStrs.below {B : Nat} {w w' : World} {v : Value} {xs : List ByteArray} (h : OwnStrs B w v xs) (hb : Below w.heap.size w w') : OwnStrs B w' v xs := World.ownsRow.kept (row := none) h ⟨hb.os, hb.tape, hb.output, hb.size, fun k hk _ => hb.block k hk⟩ (by cases Value.ownBlock _ <;> simp)
theorem OwnStrs.lower {B B' : Nat} {w : World} {v : Value} {xs : List ByteArray} (h : OwnStrs B w v xs) (hB : B' ≤ B) : OwnStrs B' w v xs := own_lower h hB
theorem below_own {B : Nat} {w0 w w' : World} {v : Value} (h : Below B w0 w) (hg : w.grownBy w' v.ownBlock) (hB : B ≤ w.heap.size) (hv : ∀ k, v.ownBlock = some k → B ≤ k) : Below B w0 w' := h.grown hg hB hv

theorem block_lt' {w : World} {g : Nat} {o : Obj} (h : w.heap[g]? = some o) : g < w.heap.size := by
 rcases Nat.lt_or_ge g w.heap.size with h' | h'
 ·exact h'
 ·rw [Array.getElem?_eq_none h'] at h; cases h
theorem row_str {w : World} {g : Nat} {x : ByteArray} {t : TypeId} (h : w.heap[g]? = some (.cells #[.string x] t)) : IsRow w (.slice (some ⟨g, 0, none⟩) 1 1) 1 (strRows [x]) := by
 have hg : g < w.heap.size := by
  rcases Nat.lt_or_ge g w.heap.size with h' | h'
  ·exact h'
  ·rw [Array.getElem?_eq_none h'] at h; cases h
 refine isRow_one (r := [.string x]) hg fun i u hu => ?_
 match i, hu with
 | 0, hu => simp at hu; subst hu; simp [World.cell?, h]

/-! ### Texts in order -/
def leB (a b : ByteArray) : Bool := Op.bytesLess a.toList b.toList || a.toList == b.toList
def posB (x : ByteArray) (l : List ByteArray) : Nat := (l.takeWhile fun y => leB y x).length
def insB (x : ByteArray) (l : List ByteArray) : List ByteArray := l.take (posB x l) ++ [x] ++ l.drop (posB x l)
def risB (xs : List ByteArray) : List ByteArray := xs.foldl (fun l x => insB x l) []
theorem tw_le {α : Type} (p : α → Bool) : ∀ l : List α, (l.takeWhile p).length ≤ l.length
 | [] => Nat.le_refl _
 | a :: l => by
  rw [List.takeWhile_cons]
  split
  ·have := tw_le p l; simp only [List.length_cons]; omega
  ·simp
theorem tw_step {α : Type} (p : α → Bool) : ∀ (l : List α) (k : Nat) (y : α), k ≤ (l.takeWhile p).length → l[k]? = some y → p y = true → k + 1 ≤ (l.takeWhile p).length
 | [], k, y, _, h, _ => by simp at h
 | a :: l, 0, y, _, h, hp => by
  simp at h
  subst h
  rw [List.takeWhile_cons, if_pos hp]; simp
 | a :: l, k + 1, y, hk, h, hp => by
  rw [List.takeWhile_cons] at hk ⊢
  split
  ·rename_i ha
   rw [if_pos ha] at hk
   have := tw_step p l k y (by simpa using hk) (by simpa using h) hp
   simp only [List.length_cons]; omega
  ·rename_i ha
   rw [if_neg ha] at hk
   simp at hk
theorem tw_stop {α : Type} (p : α → Bool) : ∀ (l : List α) (k : Nat) (y : α), k ≤ (l.takeWhile p).length → l[k]? = some y → p y = false → (l.takeWhile p).length = k
 | [], k, y, _, h, _ => by simp at h
 | a :: l, 0, y, _, h, hp => by
  simp at h
  subst h
  rw [List.takeWhile_cons, if_neg (by rw [hp]; decide)]; rfl
 | a :: l, k + 1, y, hk, h, hp => by
  rw [List.takeWhile_cons] at hk ⊢
  split
  ·rename_i ha
   rw [if_pos ha] at hk
   have := tw_stop p l k y (by simpa using hk) (by simpa using h) hp
   simp only [List.length_cons]; omega
  ·rename_i ha
   rw [if_neg ha] at hk
   simp at hk
theorem posB_le (x : ByteArray) (l : List ByteArray) : posB x l ≤ l.length := tw_le _ l
theorem insB_len (x : ByteArray) (l : List ByteArray) : (insB x l).length = l.length + 1 := by
 have := posB_le x l
 unfold insB; simp only [List.length_append, List.length_take, List.length_drop, List.length_cons, List.length_nil]; omega
theorem risB_next {xs : List ByteArray} {k : Nat} {x : ByteArray} (h : xs[k]? = some x) : risB (xs.take (k + 1)) = insB x (risB (xs.take k)) := by
 unfold risB; rw [List.take_add_one, h, List.foldl_append]; rfl
theorem foldIns_len : ∀ (xs l : List ByteArray), (xs.foldl (fun l x => insB x l) l).length = l.length + xs.length
 | [], l => by simp
 | x :: xs, l => by rw [List.foldl_cons, foldIns_len xs, insB_len, List.length_cons]; omega
theorem risB_len (xs : List ByteArray) : (risB xs).length = xs.length := by unfold risB; rw [foldIns_len]; simp
end Go.Proofs.YtlmnabhhgplhnaaGreatDoor
namespace Go.Proofs.YtlmnabhhgplhnaaGreatDoor
open Go.RowKit Go.Shelf

def RisPost (w : World) (xs : List ByteArray) (e : Ending) (w' : World) : Prop := ∃ a n c, e = .returned (.slice a n c) ∧ OwnStrs w.heap.size w' (.slice a n c) (risB xs) ∧ Below w.heap.size w w'

set_option maxHeartbeats 8000000 in
set_option maxRecDepth 100000 in
theorem risingR_any (v : Value) (xs : List ByteArray) (w : World) (h : IsStrs w v xs) (hn : xs.length ≤ 1048576) :
  Calls Tryz.prog 35 #[v] w (RisPost w xs) := by
 obtain ⟨a, c, rfl, hlc, hcm, hcell⟩ := h
 have HCE : Hid (∀ (k : Nat) x, xs[k]? = some x → ∃ b o, a = some ⟨b, o, none⟩ ∧ ∀ w', Below w.heap.size w w' → w'.cell? ⟨b, o + k, none⟩ = some (.string x)) := by
  show ∀ (k : Nat) x, _
  intro k x hx
  obtain ⟨b, o, e, hb, hc⟩ := hcell (by rintro rfl; simp at hx)
  exact ⟨b, o, e, fun w' hw => (hw.cell (p := ⟨b, o + k, none⟩) hb).trans (hc k x hx)⟩
 have HO1 : Hid (OwnStrs w.heap.size w (.slice none 0 0) (risB [])) := ownStrs_nil _ _
 unfold maxLen at hcm
 obtain ⟨si, hsi, _, hsz, _⟩ := info_of info_str
 clear hcell
 go_enter Tryz.func35, Tryz.ntmps35
 go_wp2
 go_loopw [3, 4] (fun ov iv wr => ∃ k : Nat, k ≤ xs.length ∧ iv = .int .i64 k ∧ OwnStrs w.heap.size wr ov (risB (xs.take k)) ∧ Below w.heap.size w wr)
  (fun _ iv _ => xs.length - (intOf iv).toNat)
 case atStart => exact ⟨0, Nat.zero_le _, rfl, HO1.out, Below.refl _ _⟩
 case round =>
  obtain ⟨k, hk, rfl, hown, hnx⟩ := hrel
  obtain ⟨WR, rfl⟩ : ∃ V, V = wr := ⟨_, rfl⟩
  have hsz2 := hnx.size
  by_cases hlt : k < xs.length
  ·obtain ⟨x, hx⟩ : ∃ x, xs[k]? = some x := ⟨xs[k], List.getElem?_eq_getElem hlt⟩
   obtain ⟨l, hl⟩ : ∃ l, risB (xs.take k) = l := ⟨_, rfl⟩
   rw [hl] at hown
   have hll : l.length ≤ 1048576 := by rw [← hl, risB_len, List.length_take]; omega
   have hnext : risB (xs.take (k + 1)) = insB x l := by rw [risB_next hx, hl]
   obtain ⟨oa, oc, q, hog, hoc, hocm⟩ := own_shape hown
   subst q
   have HIR : Hid (IsRow WR (.slice oa l.length oc) 1 (strRows l)) := Lib.hid hown.strsA.1
   obtain ⟨p, hp⟩ : ∃ p, posB x l = p := ⟨_, rfl⟩
   have hpl : p ≤ l.length := by rw [← hp]; exact posB_le x l
   have hins : insB x l = l.take p ++ [x] ++ l.drop p := by unfold insB; rw [hp]
   obtain ⟨xb, xo, hxa, hxc⟩ := HCE.out k x hx
   have HL : Hid (∀ (j : Nat) y, l[j]? = some y → ∃ g o, oa = some ⟨g, o, none⟩ ∧ ∀ w', Below WR.heap.size WR w' → w'.cell? ⟨g, o + j, none⟩ = some (.string y)) := by
    show ∀ (j : Nat) y, _
    intro j y hy
    obtain ⟨a', c', q, _, _, h3⟩ := hown.strsA.isStrs
    injection q with q1 q2 q3
    subst q1
    obtain ⟨g, o, e, hg, hc⟩ := h3 (by rintro rfl; simp at hy)
    exact ⟨g, o, e, fun w' hw => (hw.cell (p := ⟨g, o + j, none⟩) hg).trans (hc j y hy)⟩
   have HX : Hid (∀ w', Below WR.heap.size WR w' → w'.cell? ⟨xb, xo + k, none⟩ = some (.string x)) := by
    show ∀ w', _
    exact fun w' hw => hxc w' (hnx.trans (hw.mono hnx.size))
   have HP := Lib.hid hp
   have HNE := Lib.hid hnext
   have HIN := Lib.hid hins
   have HNX := Lib.hid hnx
   have hi1 : (k : Int) < (xs.length : Int) := by omega
   have hi0 : (0 : Int) ≤ (k : Int) := by omega
   unfold maxLen at hocm
   subst hxa
   clear hown hnx hx hl hnext hp hins hxc hog
   go_upto_block 2 with fail
   go_cut [5] (fun t wx => t = .int .i64 (p : Int) ∧ Below WR.heap.size WR wx)
   case first =>
    go_wp2_with fail
    go_loopw [5] (fun t wq => ∃ j : Nat, j ≤ p ∧ t = .int .i64 (j : Int) ∧ Below WR.heap.size WR wq) (fun t _ => l.length - (intOf t).toNat)
    case atStart => exact ⟨0, Nat.zero_le _, rfl, Below.refl _ _⟩
    case round =>
     obtain ⟨j, hj, rfl, hnq⟩ := hrel
     have HNQ := Lib.hid hnq
     have hxq := HX.out _ hnq
     have hj0 : (0 : Int) ≤ (j : Int) := by omega
     clear hnq
     have HDR : Hid (∀ n, Below WR.heap.size WR (wr.drewN n)) := by show ∀ n, _; exact fun n => below_drewN HNQ.out n
     by_cases hjl : j < l.length
     ·have hj1 : (j : Int) < (l.length : Int) := by omega
      have hd : decide (j < l.length) = true := by simpa using hjl
      obtain ⟨y, hy⟩ : ∃ y, l[j]? = some y := ⟨l[j], List.getElem?_eq_getElem hjl⟩
      obtain ⟨g, o, hga, hgc⟩ := HL.out j y hy
      have hyq := hgc _ HNQ.out
      subst hga
      have hle : (Op.bytesLess y.toList x.toList || y.toList == x.toList) = leB y x := rfl
      obtain ⟨b, hb⟩ : ∃ b, leB y x = b := ⟨_, rfl⟩
      rw [hb] at hle
      have HY := Lib.hid hy
      have HB := Lib.hid hb
      clear hy hb hgc
      cases b
      ·have HE : Hid (j = p) := by
        show j = p
        have := tw_stop (fun y => leB y x) l j y (by show j ≤ posB x l; rw [HP.out]; exact hj) HY.out HB.out
        rw [← HP.out]; exact this.symm
       go_wp2_with fail
       go_quiet (fail)
       all_goals go_wp2_with fail
       all_goals go_meet
       all_goals exact ⟨by rw [HE.out], HDR.out _⟩
      ·have HE : Hid (j + 1 ≤ p) := by
        show j + 1 ≤ p
        have := tw_step (fun y => leB y x) l j y (by show j ≤ posB x l; rw [HP.out]; exact hj) HY.out HB.out
        rw [← HP.out]; exact this
       go_wp2_with fail
       go_quiet (fail)
       all_goals go_wp2
       all_goals go_roundw
       case rel => exact ⟨j + 1, HE.out, by go_num, HDR.out _⟩
       case measure => simp [intOf]; omega
     ·have hd : decide (j < l.length) = false := by simpa using hjl
      have HE : Hid (j = p) := by show j = p; omega
      go_wp2_with fail
      go_quiet (fail)
      all_goals go_wp2_with fail
      all_goals go_meet
      all_goals exact ⟨by rw [HE.out], HDR.out _⟩
   case rest =>
    obtain ⟨rfl, hbx⟩ := hcut
    obtain ⟨WX, hWX⟩ : ∃ V, wc = V := ⟨_, rfl⟩
    rw [hWX] at hbx ⊢
    clear hWX
    have hxq : ∀ w', Below WX.heap.size WX w' → w'.cell? ⟨xb, xo + k, none⟩ = some (.string x) := fun w' hw => HX.out w' (hbx.trans (hw.mono hbx.size))
    have HT : Hid (∀ w', Below WX.heap.size WX w' → IsRow w' (.slice oa p oc) 1 (strRows (l.take p))) := by
     show ∀ w', _
     intro w' hw
     have := (HIR.out.below (hbx.trans (hw.mono hbx.size))).take (m := p) hpl
     rwa [strRows_take] at this
    have HD : Hid (∀ w', Below WX.heap.size WX w' → IsRow w' (dropV 1 p oa l.length oc) 1 (strRows (l.drop p))) := by
     show ∀ w', _
     intro w' hw
     have := (HIR.out.below (hbx.trans (hw.mono hbx.size))).drop (m := p) hpl
     rwa [strRows_drop] at this
    have HBX := Lib.hid hbx
    have HS0 : Hid (Below WX.heap.size WX WX.drew) := by show Below _ _ _; exact (Below.refl _ _).drew
    have HU : Hid (∀ w' o, Below WX.heap.size WX w' → Below WX.heap.size WX (w'.alloc o)) := by show ∀ w' o, _; exact fun w' o h => h.alloc h.size o
    have HUD : Hid (∀ o, Below WX.heap.size WX (WX.alloc o).drew) := by show ∀ o, _; exact fun o => ((Below.refl _ _).alloc (Nat.le_refl _) o).drew
    have hp0 : (0 : Int) ≤ (p : Int) := by omega
    have hp1 : (p : Int) ≤ (oc : Int) := by omega
    have hpl' : (p : Int) ≤ (l.length : Int) := by omega
    have HPL := Lib.hid hpl
    have HLT : Hid ((l.take p).length ≤ 1048576 ∧ (l.drop p).length ≤ 1048576) := by show _ ∧ _; rw [List.length_take, List.length_drop]; omega
    clear hbx
    go_wp2_with fail
    refine wp_region_held_drew (S := fun w' => Below WX.heap.size WX w') (by kernel_rfl) ?_ (fun hHeld => ?_)
    ·exact HS0.out
    refine wpAnyH_take (i := 0) (oi := _) (v := ?_) (by simp only [List.getElem?_toArray, List.getElem?_cons_zero]; rfl) (by kernel_rfl) (by kernel_rfl) (by kernel_rfl) (by exact fun _ _ _ h => h) (Or.inl ⟨by rfl, ?_⟩) (by assumption) ?_
    rotate_left
    ·intro w hSw; go_simp; try with_reducible rfl
    try simp only [Act.put, List.setIfInBounds_toArray, List.set_cons_zero, List.set_cons_succ]
    refine wpAnyH_take (i := 1) (oi := _) (v := ?_) (by simp only [List.getElem?_toArray, List.getElem?_cons_succ, List.getElem?_cons_zero]; rfl) (by kernel_rfl) (by kernel_rfl) (by kernel_rfl) (by exact fun _ _ _ h => h) (Or.inl ⟨by rfl, ?_⟩) (by assumption) ?_
    rotate_left
    ·intro w hSw; go_simp; try with_reducible rfl
    try simp only [Act.put, List.setIfInBounds_toArray, List.set_cons_zero, List.set_cons_succ]
    refine wpAnyH_take (i := 2) (oi := _) (v := ?_) (by simp only [List.getElem?_toArray, List.getElem?_cons_succ, List.getElem?_cons_zero]; rfl) (by kernel_rfl) (by kernel_rfl) (by kernel_rfl) (by exact fun _ _ _ h => h) (Or.inl ⟨by rfl, ?_⟩) (by assumption) ?_
    rotate_left
    ·intro w hSw; go_simp; try with_reducible rfl
    try simp only [Act.put, List.setIfInBounds_toArray, List.set_cons_zero, List.set_cons_succ]
    refine wpAnyH_take (i := 4) (oi := _) (v := ?_) (by simp only [List.getElem?_toArray, List.getElem?_cons_succ, List.getElem?_cons_zero]; rfl) (by kernel_rfl) (by kernel_rfl) (by kernel_rfl) (by exact fun _ _ _ h => h) (Or.inl ⟨by rfl, ?_⟩) (by assumption) ?_
    rotate_left
    ·intro w hSw; go_simp; try with_reducible rfl
    try simp only [Act.put, List.setIfInBounds_toArray, List.set_cons_zero, List.set_cons_succ]
    refine wpAnyH_take (i := 5) (oi := _) (v := ?_) (by simp only [List.getElem?_toArray, List.getElem?_cons_succ, List.getElem?_cons_zero]; rfl) (by kernel_rfl) (by kernel_rfl) (by kernel_rfl) (by exact fun _ _ _ h => h) (Or.inl ⟨by rfl, ?_⟩) (by assumption) ?_
    rotate_left
    ·intro w hSw; go_simp; try with_reducible rfl
    try simp only [Act.put, List.setIfInBounds_toArray, List.set_cons_zero, List.set_cons_succ]
    refine wpAnyH_take (i := 6) (oi := _) (v := ?_) (by simp only [List.getElem?_toArray, List.getElem?_cons_succ, List.getElem?_cons_zero]; rfl) (by kernel_rfl) (by kernel_rfl) (by kernel_rfl) (by exact fun _ _ _ h => h) (Or.inl ⟨by rfl, ?_⟩) (by assumption) ?_
    rotate_left
    ·intro w hSw; go_simp; try with_reducible rfl
    try simp only [Act.put, List.setIfInBounds_toArray, List.set_cons_zero, List.set_cons_succ]
    refine wpAnyH_take (i := 7) (oi := _) (v := ?_) (by simp only [List.getElem?_toArray, List.getElem?_cons_succ, List.getElem?_cons_zero]; rfl) (by kernel_rfl) (by kernel_rfl) (by kernel_rfl) (by exact fun _ _ _ h => h) (Or.inl ⟨by rfl, ?_⟩) (by assumption) ?_
    rotate_left
    ·intro w hSw; go_simp; try with_reducible rfl
    try simp only [Act.put, List.setIfInBounds_toArray, List.set_cons_zero, List.set_cons_succ]
    refine wpAnyH_take (i := 10) (oi := _) (v := ?_) (by simp only [List.getElem?_toArray, List.getElem?_cons_succ, List.getElem?_cons_zero]; rfl) (by kernel_rfl) (by kernel_rfl) (by kernel_rfl) (by exact fun _ _ _ h => h) (Or.inl ⟨by rfl, ?_⟩) (by assumption) ?_
    rotate_left
    ·intro w hSw; go_simp; try with_reducible rfl
    try simp only [Act.put, List.setIfInBounds_toArray, List.set_cons_zero, List.set_cons_succ]
    refine wpAnyH_take (i := 11) (oi := _) (v := ?_) (by simp only [List.getElem?_toArray, List.getElem?_cons_succ, List.getElem?_cons_zero]; rfl) (by kernel_rfl) (by kernel_rfl) (by kernel_rfl) (by exact fun _ _ _ h => h) (Or.inl ⟨by rfl, ?_⟩) (by assumption) ?_
    rotate_left
    ·intro w hSw; go_simp; try with_reducible rfl
    try simp only [Act.put, List.setIfInBounds_toArray, List.set_cons_zero, List.set_cons_succ]
    refine wpAnyH_take (i := 12) (oi := _) (v := ?_) (by simp only [List.getElem?_toArray, List.getElem?_cons_succ, List.getElem?_cons_zero]; rfl) (by kernel_rfl) (by kernel_rfl) (by kernel_rfl) (by exact fun _ _ _ h => h) (Or.inl ⟨by rfl, ?_⟩) (by assumption) ?_
    rotate_left
    ·intro w hSw; refine (exec_slice_from (by rfl) Tryz.underlying35 hsi hsz (by rfl) (by rfl) HPL.out).trans ?_; rfl
    try simp only [Act.put, List.setIfInBounds_toArray, List.set_cons_zero, List.set_cons_succ]
    refine wpAnyH_ready (rs := [3, 8]) (by kernel_rfl) (by simp) ?_
    refine AllReadyH.cons (o := _) (by simp only [List.getElem?_toArray, List.getElem?_cons_succ, List.getElem?_cons_zero]; rfl) (fun K hK => ?_) ?_
    ·refine step_append_S (by rfl) _ _ (by rfl) WX.heap.size _ _ [] (l.take p) (by rfl) (by rfl) (ownStrs_nil _ _) (HT.out _ (by assumption)) (by have := HLT.out.1; simp only [List.length_nil]; omega) (Below.size (by assumption)) ?_; intro v1 w1 ho1 hg1 _; have hS1 := below_grown0 (show Below WX.heap.size WX _ by assumption) hg1 (Below.size (by assumption)); have HO1 := Lib.hid ho1; clear ho1
     refine hK.out _ _ ?_ (fun hHeld => ?_)
     ·try dsimp only
      assumption
     clear hK K
     try simp only [Act.put, List.setIfInBounds_toArray, List.set_cons_zero, List.set_cons_succ]
     refine wpAnyH_ready (rs := [8]) (by kernel_rfl) (by simp) ?_
     refine AllReadyH.cons (o := _) (by simp only [List.getElem?_toArray, List.getElem?_cons_succ, List.getElem?_cons_zero]; rfl) (fun K hK => ?_) ?_
     ·go_simp
      refine hK.out _ _ ?_ (fun hHeld => ?_)
      ·try dsimp only
       exact HU.out _ _ (by assumption)
      clear hK K
      try simp only [Act.put, List.setIfInBounds_toArray, List.set_cons_zero, List.set_cons_succ]
      refine wpAnyH_ready (rs := [9]) (by kernel_rfl) (by simp) ?_
      refine AllReadyH.cons (o := _) (by simp only [List.getElem?_toArray, List.getElem?_cons_succ, List.getElem?_cons_zero]; rfl) (fun K hK => ?_) ?_
      ·refine step_append_S (by rfl) _ _ (by rfl) WX.heap.size _ _ (([] : List ByteArray) ++ l.take p) [x] (by rfl) (by rfl) (HO1.out.below ((Below.refl _ _).alloc (Nat.le_refl _) _)) (row_str (alloc_at w1 _)) (by have := HLT.out.1; simp only [List.length_append, List.length_nil, List.length_cons]; omega) (Below.size (by assumption)) ?_; intro v2 w2 ho2 hg2 _; have hS2 := below_own (show Below WX.heap.size WX _ by assumption) hg2 (Below.size (by assumption)) (fun k hk => (World.ownsRow.lt HO1.out k hk).1); have HO2 := Lib.hid ho2; clear ho2
       refine hK.out _ _ ?_ (fun hHeld => ?_)
       ·try dsimp only
        assumption
       clear hK K
       try simp only [Act.put, List.setIfInBounds_toArray, List.set_cons_zero, List.set_cons_succ]
       refine wpAnyH_ready (rs := [13]) (by kernel_rfl) (by simp) ?_
       refine AllReadyH.cons (o := _) (by simp only [List.getElem?_toArray, List.getElem?_cons_succ, List.getElem?_cons_zero]; rfl) (fun K hK => ?_) ?_
       ·refine step_append_S (by rfl) _ _ (by rfl) WX.heap.size _ _ (([] : List ByteArray) ++ l.take p ++ [x]) (l.drop p) (by rfl) (by rfl) HO2.out (HD.out _ (by assumption)) (by have := HLT.out; simp only [List.length_append, List.length_nil, List.length_cons]; omega) (Below.size (by assumption)) ?_; intro v3 w3 ho3 hg3 _; have hS3 := below_own (show Below WX.heap.size WX _ by assumption) hg3 (Below.size (by assumption)) (fun k hk => (World.ownsRow.lt HO2.out k hk).1); have HO3 := Lib.hid ho3; clear ho3
        refine hK.out _ _ ?_ (fun hHeld => ?_)
        ·try dsimp only
         assumption
        clear hK K
        try simp only [Act.put, List.setIfInBounds_toArray, List.set_cons_zero, List.set_cons_succ]
        refine wpAnyH_take (i := 14) (oi := _) (v := ?_) (by simp only [List.getElem?_toArray, List.getElem?_cons_succ, List.getElem?_cons_zero]; rfl) (by kernel_rfl) (by kernel_rfl) (by kernel_rfl) (by exact fun _ _ _ h => h) (Or.inl ⟨by rfl, ?_⟩) (by assumption) ?_
        rotate_left
        ·intro w hSw; go_simp; try with_reducible rfl
        try simp only [Act.put, List.setIfInBounds_toArray, List.set_cons_zero, List.set_cons_succ]
        refine wpAnyH_done (by kernel_rfl) ?_ _
        have HN3 : Hid (Below w.heap.size w w3) := by show Below _ _ _; exact (HNX.out.trans (HBX.out.mono HNX.out.size)).trans (hS3.mono (HNX.out.trans (HBX.out.mono HNX.out.size)).size)
        have HR3 : Hid (OwnStrs w.heap.size w3 v3 (risB (xs.take (k + 1)))) := by
         show OwnStrs _ _ _ _
         rw [HNE.out, HIN.out]
         have h3 := HO3.out
         rw [List.nil_append] at h3
         exact h3.lower (HNX.out.trans (HBX.out.mono HNX.out.size)).size
        clear hS1 hS2 hS3 hHeld hxq
        go_wp2
        go_roundw
        case rel => exact ⟨k + 1, by omega, by go_num, HR3.out, HN3.out⟩
        case measure => simp [intOf]; omega
       exact AllReadyH.nil
      exact AllReadyH.nil
     exact AllReadyH.nil
    refine AllReadyH.cons (o := _) (by simp only [List.getElem?_toArray, List.getElem?_cons_succ, List.getElem?_cons_zero]; rfl) (fun K hK => ?_) ?_
    ·go_simp
     refine hK.out _ _ ?_ (fun hHeld => ?_)
     ·try dsimp only
      exact HUD.out _
     clear hK K
     try simp only [Act.put, List.setIfInBounds_toArray, List.set_cons_zero, List.set_cons_succ]
     refine wpAnyH_ready (rs := [3]) (by kernel_rfl) (by simp) ?_
     refine AllReadyH.cons (o := _) (by simp only [List.getElem?_toArray, List.getElem?_cons_succ, List.getElem?_cons_zero]; rfl) (fun K hK => ?_) ?_
     ·refine step_append_S (by rfl) _ _ (by rfl) WX.heap.size _ _ [] (l.take p) (by rfl) (by rfl) (ownStrs_nil _ _) (HT.out _ (by assumption)) (by have := HLT.out.1; simp only [List.length_nil]; omega) (Below.size (by assumption)) ?_; intro v1 w1 ho1 hg1 _; have hS1 := below_grown0 (show Below WX.heap.size WX _ by assumption) hg1 (Below.size (by assumption)); have HO1 := Lib.hid ho1; clear ho1; have HN1 := Lib.hid (grown_alloc_drew hg1)
      refine hK.out _ _ ?_ (fun hHeld => ?_)
      ·try dsimp only
       assumption
      clear hK K
      try simp only [Act.put, List.setIfInBounds_toArray, List.set_cons_zero, List.set_cons_succ]
      refine wpAnyH_ready (rs := [9]) (by kernel_rfl) (by simp) ?_
      refine AllReadyH.cons (o := _) (by simp only [List.getElem?_toArray, List.getElem?_cons_succ, List.getElem?_cons_zero]; rfl) (fun K hK => ?_) ?_
      ·refine step_append_S (by rfl) _ _ (by rfl) WX.heap.size _ _ (([] : List ByteArray) ++ l.take p) [x] (by rfl) (by rfl) HO1.out (row_str HN1.out) (by have := HLT.out.1; simp only [List.length_append, List.length_nil, List.length_cons]; omega) (Below.size (by assumption)) ?_; intro v2 w2 ho2 hg2 _; have hS2 := below_own (show Below WX.heap.size WX _ by assumption) hg2 (Below.size (by assumption)) (fun k hk => (World.ownsRow.lt HO1.out k hk).1); have HO2 := Lib.hid ho2; clear ho2
       refine hK.out _ _ ?_ (fun hHeld => ?_)
       ·try dsimp only
        assumption
       clear hK K
       try simp only [Act.put, List.setIfInBounds_toArray, List.set_cons_zero, List.set_cons_succ]
       refine wpAnyH_ready (rs := [13]) (by kernel_rfl) (by simp) ?_
       refine AllReadyH.cons (o := _) (by simp only [List.getElem?_toArray, List.getElem?_cons_succ, List.getElem?_cons_zero]; rfl) (fun K hK => ?_) ?_
       ·refine step_append_S (by rfl) _ _ (by rfl) WX.heap.size _ _ (([] : List ByteArray) ++ l.take p ++ [x]) (l.drop p) (by rfl) (by rfl) HO2.out (HD.out _ (by assumption)) (by have := HLT.out; simp only [List.length_append, List.length_nil, List.length_cons]; omega) (Below.size (by assumption)) ?_; intro v3 w3 ho3 hg3 _; have hS3 := below_own (show Below WX.heap.size WX _ by assumption) hg3 (Below.size (by assumption)) (fun k hk => (World.ownsRow.lt HO2.out k hk).1); have HO3 := Lib.hid ho3; clear ho3
        refine hK.out _ _ ?_ (fun hHeld => ?_)
        ·try dsimp only
         assumption
        clear hK K
        try simp only [Act.put, List.setIfInBounds_toArray, List.set_cons_zero, List.set_cons_succ]
        refine wpAnyH_take (i := 14) (oi := _) (v := ?_) (by simp only [List.getElem?_toArray, List.getElem?_cons_succ, List.getElem?_cons_zero]; rfl) (by kernel_rfl) (by kernel_rfl) (by kernel_rfl) (by exact fun _ _ _ h => h) (Or.inl ⟨by rfl, ?_⟩) (by assumption) ?_
        rotate_left
        ·intro w hSw; go_simp; try with_reducible rfl
        try simp only [Act.put, List.setIfInBounds_toArray, List.set_cons_zero, List.set_cons_succ]
        refine wpAnyH_done (by kernel_rfl) ?_ _
        have HN3 : Hid (Below w.heap.size w w3) := by show Below _ _ _; exact (HNX.out.trans (HBX.out.mono HNX.out.size)).trans (hS3.mono (HNX.out.trans (HBX.out.mono HNX.out.size)).size)
        have HR3 : Hid (OwnStrs w.heap.size w3 v3 (risB (xs.take (k + 1)))) := by
         show OwnStrs _ _ _ _
         rw [HNE.out, HIN.out]
         have h3 := HO3.out
         rw [List.nil_append] at h3
         exact h3.lower (HNX.out.trans (HBX.out.mono HNX.out.size)).size
        clear hS1 hS2 hS3 hHeld hxq
        go_wp2
        go_roundw
        case rel => exact ⟨k + 1, by omega, by go_num, HR3.out, HN3.out⟩
        case measure => simp [intOf]; omega
       exact AllReadyH.nil
      exact AllReadyH.nil
     exact AllReadyH.nil
    exact AllReadyH.nil
  ·obtain rfl : k = xs.length := by omega
   have hown2 := hown
   rw [List.take_length] at hown2
   obtain ⟨oa, oc, q, _⟩ := own_shape hown2
   subst q
   have HR := Lib.hid hown2
   have HNX := Lib.hid hnx
   have hi1 : ¬ (xs.length : Int) < (xs.length : Int) := by omega
   clear hown hown2 hnx
   go_wp2
   go_ret
   exact ⟨_, _, _, rfl, HR.out, HNX.out⟩
end Go.Proofs.YtlmnabhhgplhnaaGreatDoor
namespace Go.Proofs.YtlmnabhhgplhnaaGreatDoor
open Go.RowKit Go.Shelf

/-! ### Rules in order -/
def risR (x : RuleS) : RuleS := ⟨x.name, risB x.ins, risB x.outs, risB x.after, x.steps⟩
def posR (x : RuleS) (l : List RuleS) : Nat := (l.takeWhile fun y => leB y.name x.name).length
def insR (x : RuleS) (l : List RuleS) : List RuleS := l.take (posR x l) ++ [x] ++ l.drop (posR x l)
def sortQ (xs : List RuleS) : List RuleS := xs.foldl (fun l x => insR (risR x) l) []
theorem posR_le (x : RuleS) (l : List RuleS) : posR x l ≤ l.length := tw_le _ l
theorem insR_len (x : RuleS) (l : List RuleS) : (insR x l).length = l.length + 1 := by
 have := posR_le x l
 unfold insR; simp only [List.length_append, List.length_take, List.length_drop, List.length_cons, List.length_nil]; omega
theorem sortQ_next {xs : List RuleS} {k : Nat} {x : RuleS} (h : xs[k]? = some x) : sortQ (xs.take (k + 1)) = insR (risR x) (sortQ (xs.take k)) := by
 unfold sortQ; rw [List.take_add_one, h, List.foldl_append]; rfl
theorem foldInsR_len : ∀ (xs l : List RuleS), (xs.foldl (fun l x => insR (risR x) l) l).length = l.length + xs.length
 | [], l => by simp
 | x :: xs, l => by rw [List.foldl_cons, foldInsR_len xs, insR_len, List.length_cons]; omega
theorem sortQ_len (xs : List RuleS) : (sortQ xs).length = xs.length := by unfold sortQ; rw [foldInsR_len]; simp

/-- Rules in a row of one's own, their lists apart. -/
def OwnR (B : Nat) (w : World) (v : Value) (ys : List RuleS) : Prop := ∃ rows, w.ownsRow B 38 5 v rows.length rows.flatten ∧ AllA (RuleA (fun b => b < B) w) rows ys
theorem OwnR.below {B : Nat} {w w' : World} {v : Value} {ys : List RuleS} (h : OwnR B w v ys) (hb : Below w.heap.size w w') : OwnR B w' v ys := by
 obtain ⟨rows, h1, h2⟩ := h
 exact ⟨rows, World.ownsRow.kept (row := none) h1 ⟨hb.os, hb.tape, hb.output, hb.size, fun k hk _ => hb.block k hk⟩ (by cases Value.ownBlock _ <;> simp), h2.imp fun r x h => h.keep (fr_below hb)⟩
theorem OwnR.rulesA {B : Nat} {w : World} {v : Value} {xs : List RuleS} (h : OwnR B w v xs) : RulesA (fun b => b < B) w v xs := by
 obtain ⟨rows, h1, h2⟩ := h
 exact ⟨rows, rowA_own h1 (h2.len fun r x h => h.len), h2⟩
theorem OwnRules.ownR {B : Nat} {w : World} {v : Value} {xs : List RuleS} (h : OwnRules B w v xs) : OwnR B w v xs := by
 obtain ⟨rows, h1, h2⟩ := h
 exact ⟨rows, h1, h2.imp fun r x h => h.mono fun b _ e => .inl e⟩
theorem OwnR.len {B : Nat} {w : World} {v : Value} {xs : List RuleS} (h : OwnR B w v xs) : ∃ a c, v = .slice a xs.length c ∧ xs.length ≤ c ∧ c ≤ maxLen := rulesA_len h.rulesA
theorem AllA.take {α : Type} {P : List Value → α → Prop} {rows : List (List Value)} {xs : List α} (h : AllA P rows xs) (m : Nat) : AllA P (rows.take m) (xs.take m) :=
 ⟨by rw [List.length_take, List.length_take, h.1], fun j r x hr hx => by
  rw [List.getElem?_take] at hr hx
  split at hr
  ·rename_i hj; rw [if_pos hj] at hx; exact h.2 j r x hr hx
  ·cases hr⟩
theorem AllA.drop {α : Type} {P : List Value → α → Prop} {rows : List (List Value)} {xs : List α} (h : AllA P rows xs) (m : Nat) : AllA P (rows.drop m) (xs.drop m) :=
 ⟨by rw [List.length_drop, List.length_drop, h.1], fun j r x hr hx => by
  rw [List.getElem?_drop] at hr hx
  exact h.2 _ r x hr hx⟩
theorem AllA.append {α : Type} {P : List Value → α → Prop} {rows rows2 : List (List Value)} {xs ys : List α} (h : AllA P rows xs) (h2 : AllA P rows2 ys) : AllA P (rows ++ rows2) (xs ++ ys) :=
 ⟨by rw [List.length_append, List.length_append, h.1, h2.1], fun j r x hr hx => by
  rcases Nat.lt_or_ge j rows.length with hj | hj
  ·rw [List.getElem?_append_left hj] at hr
   rw [List.getElem?_append_left (by rw [← h.1]; exact hj)] at hx
   exact h.2 j r x hr hx
  ·rw [List.getElem?_append_right hj] at hr
   rw [List.getElem?_append_right (by rw [← h.1]; exact hj), ← h.1] at hx
   exact h2.2 _ r x hr hx⟩
theorem ruleA_one {Av : Nat → Prop} {w : World} {r : List Value} {x : RuleS} (h : RuleA Av w r x) : ∀ u ∈ r, u.oneCell' = true := by
 obtain ⟨vi, vo, vf, vs, rfl, h1, h2, h3, h4⟩ := h
 obtain ⟨a1, n1, c1, rfl⟩ := rowA_shape h1
 obtain ⟨a2, n2, c2, rfl⟩ := rowA_shape h2
 obtain ⟨a3, n3, c3, rfl⟩ := rowA_shape h3
 obtain ⟨a4, c4, rfl, _⟩ := stepsA_len h4
 intro u hu
 simp at hu
 rcases hu with rfl | rfl | rfl | rfl | rfl <;> rfl
theorem rows_one {Av : Nat → Prop} {w : World} {rows : List (List Value)} {xs : List RuleS} (h : AllA (RuleA Av w) rows xs) : ∀ r ∈ rows, ∀ u ∈ r, u.oneCell' = true := by
 intro r hr
 obtain ⟨j, hj⟩ := List.getElem?_of_mem hr
 have hlt : j < xs.length := by rw [← h.1]; exact (List.getElem?_eq_some_iff.1 hj).1
 exact ruleA_one (h.2 j r _ hj (List.getElem?_eq_getElem hlt))
theorem step_append_R {w : World} {ops : Array Oper} {o : Oper} {a : Act} {K : Act → World → Prop} {Q : Exit → Act → World → Prop} {E : Prop} (hgd : o.guard = none) (s x : Operand) (ho : o.op = .call { callee := .builtin .append, args := #[s, x], argTypes := #[22, 22] })
  (B : Nat) (v v2 : Value) (rows rows2 : List (List Value)) (hs : a.eval s = v) (hx : a.eval x = v2) (hown : w.ownsRow B 38 5 v rows.length rows.flatten) (hI : IsRow w v2 5 rows2) (hlen : ∀ r ∈ rows2, r.length = 5) (hone : ∀ r ∈ rows2, ∀ u ∈ r, u.oneCell' = true) (b1 : rows.length + rows2.length ≤ 1000000000) (hB : B ≤ w.heap.size)
  (h : ∀ v' w', w'.ownsRow B 38 5 v' (rows ++ rows2).length (rows ++ rows2).flatten → w.grownBy w' v.ownBlock → (∀ b, v'.ownBlock = some b → v.ownBlock = some b ∨ w.heap.size ≤ b) → K (a.put o.dst v') w') :
  if Region.wanted o (yielded ops a.tmps) = true then Oper.wp Tryz.prog o a w K Q else E := by
 obtain ⟨i0, hi, hz0, hz1, hz2⟩ := info_of info_rule
 exact step_append_rows hgd s x 22 ho 38 i0 (.agg #[.string ByteArray.empty, .slice none 0 0, .slice none 0 0, .slice none 0 0, .slice none 0 0]) 5 112 Tryz.underlying22 hi hz0 hz1 hz2 rfl (by decide) B v v2 rows rows2 hs hx hown hI hlen hone b1 (by decide) hB h
theorem row_rule {w : World} {g : Nat} {x0 x1 x2 x3 x4 : Value} {t : TypeId} (h : w.heap[g]? = some (.cells #[x0, x1, x2, x3, x4] t)) : IsRow w (.slice (some ⟨g, 0, none⟩) 1 1) 5 [[x0, x1, x2, x3, x4]] := by
 have hg : g < w.heap.size := by
  rcases Nat.lt_or_ge g w.heap.size with h' | h'
  ·exact h'
  ·rw [Array.getElem?_eq_none h'] at h; cases h
 refine isRow_one (r := [x0, x1, x2, x3, x4]) hg fun i u hu => ?_
 match i, hu with
 | 0, hu => simp at hu; subst hu; simp [World.cell?, h]
 | 1, hu => simp at hu; subst hu; simp [World.cell?, h]
 | 2, hu => simp at hu; subst hu; simp [World.cell?, h]
 | 3, hu => simp at hu; subst hu; simp [World.cell?, h]
 | 4, hu => simp at hu; subst hu; simp [World.cell?, h]
theorem heap_set3 {w : World} {g : Nat} {t : TypeId} {z0 z1 z2 z3 z4 : Value} (hz : w.heap[g]? = some (.cells #[z0, z1, z2, z3, z4] t)) (u1 u2 u3 : Value) :
  (((w.setCell ⟨g, 1, none⟩ u1).setCell ⟨g, 2, none⟩ u2).setCell ⟨g, 3, none⟩ u3).heap[g]? = some (.cells #[z0, u1, u2, u3, z4] t) :=
 heap_set 3 u3 (heap_set 2 u2 (heap_set 1 u1 hz))
theorem fr_set3 {Av : Nat → Prop} {w : World} {g : Nat} (hg : Av g) (u1 u2 u3 : Value) : Fr Av w (((w.setCell ⟨g, 1, none⟩ u1).setCell ⟨g, 2, none⟩ u2).setCell ⟨g, 3, none⟩ u3) :=
 ((fr_set (a := ⟨g, 1, none⟩) hg u1).trans (fr_set (a := ⟨g, 2, none⟩) hg u2)).trans (fr_set (a := ⟨g, 3, none⟩) hg u3)
def SorPost (w : World) (ys : List RuleS) (e : Ending) (w' : World) : Prop := ∃ a n c, e = .returned (.slice a n c) ∧ OwnR w.heap.size w' (.slice a n c) ys ∧ Below w.heap.size w w'
/-- The record of a rule that is being put in its place. -/
def CutI (W : World) (B g : Nat) (x : RuleS) (vi vo vf vs : Value) (W' : World) : Prop := Below W.heap.size W W' ∧ W'.heap[g]? = some (.cells #[.string x.name, vi, vo, vf, vs] 38) ∧ RuleA (fun b => b < B) W' [.string x.name, vi, vo, vf, vs] x

set_option maxHeartbeats 8000000 in
set_option maxRecDepth 100000 in
theorem sortQ_any (v : Value) (xs : List RuleS) (w : World) (h : RulesI w v xs) (hn : xs.length ≤ 1048576) (hs : ∀ x ∈ xs, SmallR x 1048576) :
  Calls Tryz.prog 11 #[v] w (SorPost w (sortQ xs)) := by
 obtain ⟨sa, sc, hv, hs1, hs2⟩ := rulesI_len h
 subst hv
 have HCS : Hid (∀ (k : Nat) x, xs[k]? = some x → _) := Lib.hid (fun k x hx => rulesI_at h (k := k) (x := x) hx)
 have HSM := Lib.hid hs
 unfold maxLen at hs2
 have HO1 : Hid (OwnR w.heap.size w (.slice none 0 0) (sortQ [])) := (ownRules_none _ _).ownR
 obtain ⟨si, hsi, _, hsz, _⟩ := info_of info_rule
 clear h hs
 go_enter Tryz.func11, Tryz.ntmps11
 go_wp2
 go_loopw [3, 4] (fun ov iv wr => ∃ k : Nat, k ≤ xs.length ∧ iv = .int .i64 k ∧ OwnR w.heap.size wr ov (sortQ (xs.take k)) ∧ Below w.heap.size w wr)
  (fun _ iv _ => xs.length - (intOf iv).toNat)
 case atStart => exact ⟨0, Nat.zero_le _, rfl, HO1.out, Below.refl _ _⟩
 case round =>
  obtain ⟨k, hk, rfl, hown, hnx⟩ := hrel
  obtain ⟨WR, rfl⟩ : ∃ V, V = wr := ⟨_, rfl⟩
  have hsz2 := hnx.size
  by_cases hlt : k < xs.length
  ·obtain ⟨x, hx⟩ : ∃ x, xs[k]? = some x := ⟨xs[k], List.getElem?_eq_getElem hlt⟩
   obtain ⟨l, hl⟩ : ∃ l, sortQ (xs.take k) = l := ⟨_, rfl⟩
   rw [hl] at hown
   have hll : l.length ≤ 1048576 := by rw [← hl, sortQ_len, List.length_take]; omega
   have hnext : sortQ (xs.take (k + 1)) = insR (risR x) l := by rw [sortQ_next hx, hl]
   obtain ⟨oa, oc, q, hoc, hocm⟩ := hown.len
   subst q
   obtain ⟨p, hp⟩ : ∃ p, posR (risR x) l = p := ⟨_, rfl⟩
   have hpl : p ≤ l.length := by rw [← hp]; exact posR_le _ l
   have hins : insR (risR x) l = l.take p ++ [risR x] ++ l.drop p := by unfold insR; rw [hp]
   obtain ⟨xb, xo, cap, a1, c1, a2, c2, a3, c3, a4, c4, hxv, hxb, hR, hc⟩ := HCS.out k x hx
   have hfx := HSM.out x (List.mem_of_getElem? hx)
   obtain ⟨d0, d1, d2, d3, d4⟩ := hc _ hnx
   cases hxv
   have cA := copyR_any x _ _ _ _ WR (hR.below hnx) hfx
   have CA := Lib.hid cA
   have HFX := Lib.hid hfx
   have HOWN := Lib.hid hown
   have HP := Lib.hid hp
   have HNE := Lib.hid hnext
   have HIN := Lib.hid hins
   have HNX := Lib.hid hnx
   have hi1 : (k : Int) < (xs.length : Int) := by omega
   have hi0 : (0 : Int) ≤ (k : Int) := by omega
   unfold maxLen at hocm
   clear hown hnx hx hl hnext hp hins hc hR hfx cA
   go_wp2_with fail
   refine CA.out.mono ?_
   rintro e w2 ⟨hpost, hb2⟩
   obtain ⟨vi, vo, vf, vs, rfl, hvi, hvo, hvf, hvs, _⟩ := hpost
   obtain ⟨i1, i3, q⟩ := isStrs_shape hvi.1.isStrs
   subst q
   obtain ⟨j1, j3, q⟩ := isStrs_shape hvo.1.isStrs
   subst q
   obtain ⟨l1, l3, q⟩ := isStrs_shape hvf.1.isStrs
   subst q
   obtain ⟨s1, s3, q, hsn, hsm⟩ := stepsA_len hvs
   subst q
   have HVI := Lib.hid hvi.1.isStrs; have HVO := Lib.hid hvo.1.isStrs; have HVF := Lib.hid hvf.1.isStrs; have HVS := Lib.hid hvs
   have HB0 := Lib.hid hb2
   clear hvi hvo hvf hvs hb2 d0 d1 d2 d3 d4 hsn hsm
   go_upto_region 6 with fail
   obtain ⟨WS, hWS⟩ : ∃ V, w2.alloc (.cells #[.string x.name, .slice i1 x.ins.length i3, .slice j1 x.outs.length j3, .slice l1 x.after.length l3, .slice s1 x.steps.length s3] 38) = V := ⟨_, rfl⟩
   rw [hWS]
   have hz := alloc_at w2 (.cells #[.string x.name, .slice i1 x.ins.length i3, .slice j1 x.outs.length j3, .slice l1 x.after.length l3, .slice s1 x.steps.length s3] 38)
   rw [hWS] at hz
   have hb2s : Below w2.heap.size w2 WS := by rw [← hWS]; exact (Below.refl _ _).alloc (Nat.le_refl _) _
   have hss : WS.heap.size = w2.heap.size + 1 := by rw [← hWS]; simp
   have HZ := Lib.hid hz
   have HBS := Lib.hid hb2s
   have HSS := Lib.hid hss
   have hcell : ∀ w', Below WS.heap.size WS w' → _ := fun w' (hb : Below WS.heap.size WS w') => cells5 ((hb.block w2.heap.size (by omega)).trans hz)
   have HCELL := Lib.hid hcell
   have hc1 := fun w' hb => (hcell w' hb).2.1
   have hc2 := fun w' hb => (hcell w' hb).2.2.1
   have hc3 := fun w' hb => (hcell w' hb).2.2.2.1
   have HS0 : Hid (Below WS.heap.size WS WS.drew) := by show Below _ _ _; exact (Below.refl _ _).drew
   have CR : Hid (∀ w' a n c (ys : List ByteArray), Below WS.heap.size WS w' → IsStrs w2 (.slice a n c) ys → ys.length ≤ 1048576 → Calls Tryz.prog 35 #[.slice a n c] w' (RisPost w' ys)) := by
    show ∀ w' a n c (ys : List ByteArray), _
    exact fun w' a n c ys hb hI hl => risingR_any _ ys w' (hI.below (hb2s.trans (hb.mono hb2s.size))) hl
   have N1 := Lib.hid HFX.out.ins.1; have N2 := Lib.hid HFX.out.outs.1; have N3 := Lib.hid HFX.out.after.1
   clear hcell hz hb2s hss hWS
   refine wp_region_S (S := fun b w' => b = false → Below WS.heap.size WS w') (st := 10) (by kernel_rfl) ?_ (fun hHeld => ?_)
   ·exact fun _ => HS0.out
   refine wpAnyS_take (i := 0) (oi := _) (v := ?_) (by simp only [List.getElem?_toArray, List.getElem?_cons_zero]; rfl) (by kernel_rfl) (by kernel_rfl) (f := 20) (by kernel_rfl) (by kernel_rfl) (by kernel_rfl) (by kernel_rfl) (by exact fun _ _ _ h => h) (by kernel_rfl) (Or.inl ⟨by rfl, ?_⟩) (by assumption) ?_
   rotate_left
   ·intro w hSw; replace hSw := hSw rfl; go_simp; try with_reducible rfl
   try simp only [Act.put, List.setIfInBounds_toArray, List.set_cons_zero, List.set_cons_succ]
   refine wpAnyS_take (i := 1) (oi := _) (v := ?_) (by simp only [List.getElem?_toArray, List.getElem?_cons_succ, List.getElem?_cons_zero]; rfl) (by kernel_rfl) (by kernel_rfl) (f := 20) (by kernel_rfl) (by kernel_rfl) (by kernel_rfl) (by kernel_rfl) (by exact fun _ _ _ h => h) (by kernel_rfl) (Or.inl ⟨by rfl, ?_⟩) (by assumption) ?_
   rotate_left
   ·intro w hSw; replace hSw := hSw rfl; go_simp; try with_reducible rfl
   try simp only [Act.put, List.setIfInBounds_toArray, List.set_cons_zero, List.set_cons_succ]
   refine wpAnyS_take (i := 3) (oi := _) (v := ?_) (by simp only [List.getElem?_toArray, List.getElem?_cons_succ, List.getElem?_cons_zero]; rfl) (by kernel_rfl) (by kernel_rfl) (f := 20) (by kernel_rfl) (by kernel_rfl) (by kernel_rfl) (by kernel_rfl) (by exact fun _ _ _ h => h) (by kernel_rfl) (Or.inl ⟨by rfl, ?_⟩) (by assumption) ?_
   rotate_left
   ·intro w hSw; replace hSw := hSw rfl; go_simp; try with_reducible rfl
   try simp only [Act.put, List.setIfInBounds_toArray, List.set_cons_zero, List.set_cons_succ]
   refine wpAnyS_take (i := 4) (oi := _) (v := ?_) (by simp only [List.getElem?_toArray, List.getElem?_cons_succ, List.getElem?_cons_zero]; rfl) (by kernel_rfl) (by kernel_rfl) (f := 20) (by kernel_rfl) (by kernel_rfl) (by kernel_rfl) (by kernel_rfl) (by exact fun _ _ _ h => h) (by kernel_rfl) (Or.inl ⟨by rfl, ?_⟩) (by assumption) ?_
   rotate_left
   ·intro w hSw; replace hSw := hSw rfl; go_simp; try with_reducible rfl
   try simp only [Act.put, List.setIfInBounds_toArray, List.set_cons_zero, List.set_cons_succ]
   refine wpAnyS_take (i := 6) (oi := _) (v := ?_) (by simp only [List.getElem?_toArray, List.getElem?_cons_succ, List.getElem?_cons_zero]; rfl) (by kernel_rfl) (by kernel_rfl) (f := 20) (by kernel_rfl) (by kernel_rfl) (by kernel_rfl) (by kernel_rfl) (by exact fun _ _ _ h => h) (by kernel_rfl) (Or.inl ⟨by rfl, ?_⟩) (by assumption) ?_
   rotate_left
   ·intro w hSw; replace hSw := hSw rfl; go_simp; try with_reducible rfl
   try simp only [Act.put, List.setIfInBounds_toArray, List.set_cons_zero, List.set_cons_succ]
   refine wpAnyS_take (i := 7) (oi := _) (v := ?_) (by simp only [List.getElem?_toArray, List.getElem?_cons_succ, List.getElem?_cons_zero]; rfl) (by kernel_rfl) (by kernel_rfl) (f := 20) (by kernel_rfl) (by kernel_rfl) (by kernel_rfl) (by kernel_rfl) (by exact fun _ _ _ h => h) (by kernel_rfl) (Or.inl ⟨by rfl, ?_⟩) (by assumption) ?_
   rotate_left
   ·intro w hSw; replace hSw := hSw rfl; go_simp; try with_reducible rfl
   try simp only [Act.put, List.setIfInBounds_toArray, List.set_cons_zero, List.set_cons_succ]
   refine wpAnyS_ready (rs := [2]) (by kernel_rfl) (by simp) ?_
   refine AllReadyS.cons (b := false) (o := _) (by simp only [List.getElem?_toArray, List.getElem?_cons_succ, List.getElem?_cons_zero]; rfl) (by kernel_rfl) (fun K hK => ?_) ?_
   ·go_simp; go_at_call 35; refine (CR.out _ _ _ _ _ (hHeld rfl) HVI.out N1.out).mono ?_; rintro e q1 ⟨b1, n1, e1, rfl, ho1, hb1⟩; have hSn := (hHeld rfl).trans (hb1.mono (hHeld rfl).size); have HO1 := Lib.hid ho1; have HB1 := Lib.hid hb1; clear ho1 hb1
    refine hK.out _ _ ?_ (fun hHeld => ?_)
    ·try dsimp only
     exact fun _ => hSn
    clear hK K
    try simp only [Act.put, List.setIfInBounds_toArray, List.set_cons_zero, List.set_cons_succ]
    have HSN1 := Lib.hid hSn; clear hSn
    refine wpAnyS_take (i := 9) (oi := _) (v := ?_) (by simp only [List.getElem?_toArray, List.getElem?_cons_succ, List.getElem?_cons_zero]; rfl) (by kernel_rfl) (by kernel_rfl) (f := 20) (by kernel_rfl) (by kernel_rfl) (by kernel_rfl) (by kernel_rfl) (by exact fun _ _ _ h => h) (by kernel_rfl) (Or.inl ⟨by rfl, ?_⟩) (by assumption) ?_
    rotate_left
    ·intro w hSw; go_simp; try with_reducible rfl
    try simp only [Act.put, List.setIfInBounds_toArray, List.set_cons_zero, List.set_cons_succ]
    refine wpAnyS_ready (rs := [5]) (by kernel_rfl) (by simp) ?_
    refine AllReadyS.cons (b := false) (o := _) (by simp only [List.getElem?_toArray, List.getElem?_cons_succ, List.getElem?_cons_zero]; rfl) (by kernel_rfl) (fun K hK => ?_) ?_
    ·go_simp; go_at_call 35; refine (CR.out _ _ _ _ _ (hHeld rfl) HVO.out N2.out).mono ?_; rintro e q2 ⟨b2, n2, e2, rfl, ho2, hb2⟩; have hSn := (hHeld rfl).trans (hb2.mono (hHeld rfl).size); have HO2 := Lib.hid ho2; have HB2 := Lib.hid hb2; clear ho2 hb2
     refine hK.out _ _ ?_ (fun hHeld => ?_)
     ·try dsimp only
      exact fun _ => hSn
     clear hK K
     try simp only [Act.put, List.setIfInBounds_toArray, List.set_cons_zero, List.set_cons_succ]
     have HSN2 := Lib.hid hSn; clear hSn
     refine wpAnyS_ready (rs := [8]) (by kernel_rfl) (by simp) ?_
     refine AllReadyS.cons (b := false) (o := _) (by simp only [List.getElem?_toArray, List.getElem?_cons_succ, List.getElem?_cons_zero]; rfl) (by kernel_rfl) (fun K hK => ?_) ?_
     ·go_simp; go_at_call 35; refine (CR.out _ _ _ _ _ (hHeld rfl) HVF.out N3.out).mono ?_; rintro e q3 ⟨b3, n3, e3, rfl, ho3, hb3⟩; have hSn := (hHeld rfl).trans (hb3.mono (hHeld rfl).size); have HO3 := Lib.hid ho3; have HB3 := Lib.hid hb3; clear ho3 hb3
      refine hK.out _ _ ?_ (fun hHeld => ?_)
      ·try dsimp only
       exact fun _ => hSn
      clear hK K
      try simp only [Act.put, List.setIfInBounds_toArray, List.set_cons_zero, List.set_cons_succ]
      have HSN3 := Lib.hid hSn
      obtain ⟨y0, y1, y2, y3, y4, z0, z1, z2, z3, z4⟩ := HCELL.out _ hSn
      refine wpAnyS_ready (rs := [10]) (by kernel_rfl) (by simp) ?_
      refine AllReadyS.cons (b := true) (o := _) (by simp only [List.getElem?_toArray, List.getElem?_cons_succ, List.getElem?_cons_zero]; rfl) (by kernel_rfl) (fun K hK => ?_) ?_
      ·go_simp
       refine hK.out _ _ ?_ (fun hHeld => ?_)
       ·try dsimp only
        exact fun e => by cases e
       clear hK K
       try simp only [Act.put, List.setIfInBounds_toArray, List.set_cons_zero, List.set_cons_succ]
       refine wpAnyS_take0 (i := 11) (oi := _) (v := ?_) (by simp only [List.getElem?_toArray, List.getElem?_cons_succ, List.getElem?_cons_zero]; rfl) (by kernel_rfl) (by kernel_rfl) (by kernel_rfl) (by kernel_rfl) (by exact fun _ _ _ h => h) (by kernel_rfl) (Or.inl ⟨by rfl, ?_⟩) (by assumption) ?_
       rotate_left
       ·intro w hSw; go_simp; try with_reducible rfl
       try simp only [Act.put, List.setIfInBounds_toArray, List.set_cons_zero, List.set_cons_succ]
       refine wpAnyS_ready (rs := [12]) (by kernel_rfl) (by simp) ?_
       refine AllReadyS.cons (b := true) (o := _) (by simp only [List.getElem?_toArray, List.getElem?_cons_succ, List.getElem?_cons_zero]; rfl) (by kernel_rfl) (fun K hK => ?_) ?_
       ·go_simp
        refine hK.out _ _ ?_ (fun hHeld => ?_)
        ·try dsimp only
         exact fun e => by cases e
        clear hK K
        try simp only [Act.put, List.setIfInBounds_toArray, List.set_cons_zero, List.set_cons_succ]
        refine wpAnyS_take0 (i := 13) (oi := _) (v := ?_) (by simp only [List.getElem?_toArray, List.getElem?_cons_succ, List.getElem?_cons_zero]; rfl) (by kernel_rfl) (by kernel_rfl) (by kernel_rfl) (by kernel_rfl) (by exact fun _ _ _ h => h) (by kernel_rfl) (Or.inl ⟨by rfl, ?_⟩) (by assumption) ?_
        rotate_left
        ·intro w hSw; go_simp; try with_reducible rfl
        try simp only [Act.put, List.setIfInBounds_toArray, List.set_cons_zero, List.set_cons_succ]
        refine wpAnyS_ready (rs := [14]) (by kernel_rfl) (by simp) ?_
        refine AllReadyS.cons (b := true) (o := _) (by simp only [List.getElem?_toArray, List.getElem?_cons_succ, List.getElem?_cons_zero]; rfl) (by kernel_rfl) (fun K hK => ?_) ?_
        ·go_simp
         refine hK.out _ _ ?_ (fun hHeld => ?_)
         ·try dsimp only
          exact fun e => by cases e
         clear hK K
         try simp only [Act.put, List.setIfInBounds_toArray, List.set_cons_zero, List.set_cons_succ]
         refine wpAnyS_done (by kernel_rfl) ?_ _
         obtain ⟨W6, hW6⟩ : ∃ V, ((q3.setCell ⟨w2.heap.size, 1, none⟩ (.slice b1 n1 e1)).setCell ⟨w2.heap.size, 2, none⟩ (.slice b2 n2 e2)).setCell ⟨w2.heap.size, 3, none⟩ (.slice b3 n3 e3) = V := ⟨_, rfl⟩
         have hS3 := HSN3.out
         have hsz1 : WS.heap.size ≤ q1.heap.size := HSN1.out.size
         have hsz2' : q1.heap.size ≤ q2.heap.size := HB2.out.size
         have h6 : CutI WR WR.heap.size w2.heap.size (risR x) (.slice b1 n1 e1) (.slice b2 n2 e2) (.slice b3 n3 e3) (.slice s1 x.steps.length s3) W6 := by
          rw [← hW6]
          have hss := HSS.out
          have hfr := fr_set3 (Av := fun b => b = w2.heap.size) (w := q3) (g := w2.heap.size) rfl (.slice b1 n1 e1) (.slice b2 n2 e2) (.slice b3 n3 e3)
          have hbw : Below WR.heap.size WR q3 := HB0.out.trans ((HBS.out.trans (hS3.mono HBS.out.size)).mono HB0.out.size)
          refine ⟨hbw.trans (hfr.below hbw.size fun b hb e => ?_), heap_set3 ((hS3.block _ (by omega)).trans HZ.out) _ _ _, ⟨_, _, _, _, rfl, ?_, ?_, ?_, ?_⟩⟩
          ·have := HB0.out.size; omega
          ·refine RowA.mono (Av := fun b => b < WS.heap.size) (RowA.keep (RowA.keep HO1.out.strsA (fr_below (HB2.out.trans (HB3.out.mono HB2.out.size)))) (hfr.mono fun b _ e => ?_)) fun b _ hb => ?_
           ·show b < WS.heap.size; omega
           ·have := HB0.out.size; omega
          ·refine RowA.mono (Av := fun b => b < q1.heap.size) (RowA.keep (RowA.keep HO2.out.strsA (fr_below HB3.out)) (hfr.mono fun b _ e => ?_)) fun b _ hb => ?_
           ·show b < q1.heap.size; omega
           ·have := HB0.out.size; omega
          ·refine RowA.mono (Av := fun b => b < q2.heap.size) (RowA.keep HO3.out.strsA (hfr.mono fun b _ e => ?_)) fun b _ hb => ?_
           ·show b < q2.heap.size; omega
           ·have := HB0.out.size; omega
          ·refine StepsA.mono (Av := fun b => b < WR.heap.size ∨ b = w2.heap.size) (StepsA.keep ((StepsA.mono HVS.out fun b hb e => ?_).keep (fr_below (HBS.out.trans (hS3.mono HBS.out.size)))) (hfr.mono fun b _ e => .inr e)) fun b _ hb => .inl hb
           rcases e with e | e
           ·exact e
           ·omega
         rw [hW6]
         have H6 := Lib.hid h6
         clear hW6 h6 hS3 y0 y1 y2 y3 y4 z0 z1 z2 z3 z4 hc1 hc2 hc3 hsz1 hsz2'
         have hbx6 := H6.out.1
         have hin6 : ∀ w', Below W6.heap.size W6 w' → _ := fun w' (hb : Below W6.heap.size W6 w') => cells5 ((hb.block w2.heap.size (block_lt' H6.out.2.1)).trans H6.out.2.1)
         have HC6 := Lib.hid hin6
         have HL : Hid (∀ (j : Nat) y, l[j]? = some y → ∃ g o, oa = some ⟨g, o, none⟩ ∧ ∀ w', Below WR.heap.size WR w' → w'.cell? ⟨g, o + j * 5, none⟩ = some (.string y.name)) := by
          show ∀ (j : Nat) y, _
          intro j y hy
          obtain ⟨g, o, cap, _, _, _, _, _, _, _, _, _, _, _, _, q, hg, _, hc⟩ := rules_at HOWN.out.rulesA hy
          injection q with q1 q2 q3
          exact ⟨g, o, q1, fun w' hw => (hc w' hw).1⟩
         clear hin6 hbx6
         go_upto_block 2 with fail
         go_cut [6] (fun t wx => t = .int .i64 (p : Int) ∧ Below W6.heap.size W6 wx)
         case first =>
          go_wp2_with fail
          go_loopw [6] (fun t wq => ∃ j : Nat, j ≤ p ∧ t = .int .i64 (j : Int) ∧ Below W6.heap.size W6 wq) (fun t _ => l.length - (intOf t).toNat)
          case atStart => exact ⟨0, Nat.zero_le _, rfl, Below.refl _ _⟩
          case round =>
           obtain ⟨j, hj, rfl, hnq⟩ := hrel
           have HNQ := Lib.hid hnq
           obtain ⟨y0, y1, y2, y3, y4, z0, z1, z2, z3, z4⟩ := HC6.out _ hnq
           have hj0 : (0 : Int) ≤ (j : Int) := by omega
           clear hnq
           have HDR : Hid (∀ n, Below W6.heap.size W6 (wr.drewN n)) := by show ∀ n, _; exact fun n => below_drewN HNQ.out n
           by_cases hjl : j < l.length
           ·have hj1 : (j : Int) < (l.length : Int) := by omega
            have hd : decide (j < l.length) = true := by simpa using hjl
            obtain ⟨y, hy⟩ : ∃ y, l[j]? = some y := ⟨l[j], List.getElem?_eq_getElem hjl⟩
            obtain ⟨g, o, hga, hgc⟩ := HL.out j y hy
            have hyq := hgc _ (H6.out.1.trans (HNQ.out.mono H6.out.1.size))
            subst hga
            have hle : (Op.bytesLess y.name.toList (risR x).name.toList || y.name.toList == (risR x).name.toList) = leB y.name (risR x).name := rfl
            obtain ⟨b, hb⟩ : ∃ b, leB y.name (risR x).name = b := ⟨_, rfl⟩
            rw [hb] at hle
            have HY := Lib.hid hy
            have HB := Lib.hid hb
            clear hy hb hgc
            cases b
            ·have HE : Hid (j = p) := by
              show j = p
              have := tw_stop (fun y => leB y.name (risR x).name) l j y (by show j ≤ posR (risR x) l; rw [HP.out]; exact hj) HY.out HB.out
              rw [← HP.out]; exact this.symm
             go_wp2_with fail
             go_quiet (fail)
             all_goals go_wp2_with fail
             all_goals go_meet
             all_goals exact ⟨by rw [HE.out], HDR.out _⟩
            ·have HE : Hid (j + 1 ≤ p) := by
              show j + 1 ≤ p
              have := tw_step (fun y => leB y.name (risR x).name) l j y (by show j ≤ posR (risR x) l; rw [HP.out]; exact hj) HY.out HB.out
              rw [← HP.out]; exact this
             go_wp2_with fail
             go_quiet (fail)
             all_goals go_wp2
             all_goals go_roundw
             case rel => exact ⟨j + 1, HE.out, by go_num, HDR.out _⟩
             case measure => simp [intOf]; omega
           ·have hd : decide (j < l.length) = false := by simpa using hjl
            have HE : Hid (j = p) := by show j = p; omega
            go_wp2_with fail
            go_quiet (fail)
            all_goals go_wp2_with fail
            all_goals go_meet
            all_goals exact ⟨by rw [HE.out], HDR.out _⟩
         case rest =>
          obtain ⟨rfl, hbx⟩ := hcut
          obtain ⟨WX, rfl⟩ : ∃ V, V = wc := ⟨_, rfl⟩
          have hbr : Below WR.heap.size WR WX := H6.out.1.trans (hbx.mono H6.out.1.size)
          have hz := (hbx.block w2.heap.size (block_lt' H6.out.2.1)).trans H6.out.2.1
          have hz0 : (risR x).name = x.name := rfl
          rw [hz0] at hz
          have hra := H6.out.2.2.keep (fr_below hbx)
          obtain ⟨rows, hro, hra0⟩ := HOWN.out.below hbr
          have hrl : rows.length = l.length := hra0.1
          have hcw : ∀ w', Below WX.heap.size WX w' → _ := fun w' (hb : Below WX.heap.size WX w') => cells5 ((hb.block w2.heap.size (block_lt' hz)).trans hz)
          have hc0 := fun w' hb => (hcw w' hb).1
          have hc1 := fun w' hb => (hcw w' hb).2.1
          have hc2 := fun w' hb => (hcw w' hb).2.2.1
          have hc3 := fun w' hb => (hcw w' hb).2.2.2.1
          have hc4 := fun w' hb => (hcw w' hb).2.2.2.2.1
          have hlen5 : ∀ r ∈ rows, r.length = 5 := hra0.len fun r x h => h.len
          have hone5 := rows_one hra0
          have HIR : Hid (IsRow WX (.slice oa l.length oc) 5 rows) := Lib.hid (row_own hro hlen5)
          have HT : Hid (∀ w', Below WX.heap.size WX w' → IsRow w' (.slice oa p oc) 5 (rows.take p)) := by
           show ∀ w', _
           exact fun w' hw => (HIR.out.below hw).take (m := p) hpl
          have HD : Hid (∀ w', Below WX.heap.size WX w' → IsRow w' (dropV 5 p oa l.length oc) 5 (rows.drop p)) := by
           show ∀ w', _
           exact fun w' hw => (HIR.out.below hw).drop (m := p) hpl
          have HTL : Hid ((∀ r ∈ rows.take p, r.length = 5) ∧ (∀ r ∈ rows.take p, ∀ u ∈ r, u.oneCell' = true) ∧ (∀ r ∈ rows.drop p, r.length = 5) ∧ (∀ r ∈ rows.drop p, ∀ u ∈ r, u.oneCell' = true)) := by
           show _ ∧ _ ∧ _ ∧ _
           exact ⟨fun r hr => hlen5 r (List.mem_of_mem_take hr), fun r hr => hone5 r (List.mem_of_mem_take hr), fun r hr => hlen5 r (List.mem_of_mem_drop hr), fun r hr => hone5 r (List.mem_of_mem_drop hr)⟩
          have HLT : Hid ((rows.take p).length ≤ 1048576 ∧ (rows.drop p).length ≤ 1048576) := by show _ ∧ _; rw [List.length_take, List.length_drop]; omega
          have HX : Hid (RuleA (fun b => b < w.heap.size) WX [.string x.name, .slice b1 n1 e1, .slice b2 n2 e2, .slice b3 n3 e3, .slice s1 x.steps.length s3] (risR x)) := by
           show RuleA _ _ _ _
           exact hra.mono fun b _ hb => by have := HNX.out.size; show b < WR.heap.size; omega
          have HR0 := Lib.hid hra0
          have HBR := Lib.hid hbr
          have HS0' : Hid (Below WX.heap.size WX WX.drew) := by show Below _ _ _; exact (Below.refl _ _).drew
          have HU : Hid (∀ w' o, Below WX.heap.size WX w' → Below WX.heap.size WX (w'.alloc o)) := by show ∀ w' o, _; exact fun w' o h => h.alloc h.size o
          have HUD : Hid (∀ o, Below WX.heap.size WX (WX.alloc o).drew) := by show ∀ o, _; exact fun o => ((Below.refl _ _).alloc (Nat.le_refl _) o).drew
          have hp0 : (0 : Int) ≤ (p : Int) := by omega
          have hp1 : (p : Int) ≤ (oc : Int) := by omega
          have HPL := Lib.hid hpl
          clear hbx hbr hz hra hro hra0 hcw hlen5 hone5 hz0 hrl
          go_wp2_with fail
          refine wp_region_held_drew (S := fun w' => Below WX.heap.size WX w') (by kernel_rfl) ?_ (fun hHeld => ?_)
          ·exact HS0'.out
          refine wpAnyH_take (i := 0) (oi := _) (v := ?_) (by simp only [List.getElem?_toArray, List.getElem?_cons_zero]; rfl) (by kernel_rfl) (by kernel_rfl) (by kernel_rfl) (by exact fun _ _ _ h => h) (Or.inl ⟨by rfl, ?_⟩) (by assumption) ?_
          rotate_left
          ·intro w hSw; go_simp; try with_reducible rfl
          try simp only [Act.put, List.setIfInBounds_toArray, List.set_cons_zero, List.set_cons_succ]
          refine wpAnyH_take (i := 1) (oi := _) (v := ?_) (by simp only [List.getElem?_toArray, List.getElem?_cons_succ, List.getElem?_cons_zero]; rfl) (by kernel_rfl) (by kernel_rfl) (by kernel_rfl) (by exact fun _ _ _ h => h) (Or.inl ⟨by rfl, ?_⟩) (by assumption) ?_
          rotate_left
          ·intro w hSw; go_simp; try with_reducible rfl
          try simp only [Act.put, List.setIfInBounds_toArray, List.set_cons_zero, List.set_cons_succ]
          refine wpAnyH_take (i := 2) (oi := _) (v := ?_) (by simp only [List.getElem?_toArray, List.getElem?_cons_succ, List.getElem?_cons_zero]; rfl) (by kernel_rfl) (by kernel_rfl) (by kernel_rfl) (by exact fun _ _ _ h => h) (Or.inl ⟨by rfl, ?_⟩) (by assumption) ?_
          rotate_left
          ·intro w hSw; go_simp; try with_reducible rfl
          try simp only [Act.put, List.setIfInBounds_toArray, List.set_cons_zero, List.set_cons_succ]
          refine wpAnyH_take (i := 4) (oi := _) (v := ?_) (by simp only [List.getElem?_toArray, List.getElem?_cons_succ, List.getElem?_cons_zero]; rfl) (by kernel_rfl) (by kernel_rfl) (by kernel_rfl) (by exact fun _ _ _ h => h) (Or.inl ⟨by rfl, ?_⟩) (by assumption) ?_
          rotate_left
          ·intro w hSw; go_simp; try with_reducible rfl
          try simp only [Act.put, List.setIfInBounds_toArray, List.set_cons_zero, List.set_cons_succ]
          refine wpAnyH_take (i := 7) (oi := _) (v := ?_) (by simp only [List.getElem?_toArray, List.getElem?_cons_succ, List.getElem?_cons_zero]; rfl) (by kernel_rfl) (by kernel_rfl) (by kernel_rfl) (by exact fun _ _ _ h => h) (Or.inl ⟨by rfl, ?_⟩) (by assumption) ?_
          rotate_left
          ·intro w hSw; go_simp; try with_reducible rfl
          try simp only [Act.put, List.setIfInBounds_toArray, List.set_cons_zero, List.set_cons_succ]
          refine wpAnyH_take (i := 8) (oi := _) (v := ?_) (by simp only [List.getElem?_toArray, List.getElem?_cons_succ, List.getElem?_cons_zero]; rfl) (by kernel_rfl) (by kernel_rfl) (by kernel_rfl) (by exact fun _ _ _ h => h) (Or.inl ⟨by rfl, ?_⟩) (by assumption) ?_
          rotate_left
          ·intro w hSw; go_simp; try with_reducible rfl
          try simp only [Act.put, List.setIfInBounds_toArray, List.set_cons_zero, List.set_cons_succ]
          refine wpAnyH_take (i := 9) (oi := _) (v := ?_) (by simp only [List.getElem?_toArray, List.getElem?_cons_succ, List.getElem?_cons_zero]; rfl) (by kernel_rfl) (by kernel_rfl) (by kernel_rfl) (by exact fun _ _ _ h => h) (Or.inl ⟨by rfl, ?_⟩) (by assumption) ?_
          rotate_left
          ·intro w hSw; refine (exec_slice_from (by rfl) Tryz.underlying22 hsi hsz (by rfl) (by rfl) HPL.out).trans ?_; rfl
          try simp only [Act.put, List.setIfInBounds_toArray, List.set_cons_zero, List.set_cons_succ]
          refine wpAnyH_ready (rs := [3, 5]) (by kernel_rfl) (by simp) ?_
          refine AllReadyH.cons (o := _) (by simp only [List.getElem?_toArray, List.getElem?_cons_succ, List.getElem?_cons_zero]; rfl) (fun K hK => ?_) ?_
          ·refine step_append_R (by rfl) _ _ (by rfl) WX.heap.size _ _ [] (rows.take p) (by rfl) (by rfl) (World.ownsRow_nil _ _ _ _) (HT.out _ (by assumption)) HTL.out.1 HTL.out.2.1 (by have := HLT.out.1; simp only [List.length_nil]; omega) (Below.size (by assumption)) ?_; intro v1 k1 ho1 hg1 _; have hS1 := below_grown0 (show Below WX.heap.size WX _ by assumption) hg1 (Below.size (by assumption)); have HO1 := Lib.hid ho1; clear ho1
           refine hK.out _ _ ?_ (fun hHeld => ?_)
           ·try dsimp only
            assumption
           clear hK K
           try simp only [Act.put, List.setIfInBounds_toArray, List.set_cons_zero, List.set_cons_succ]
           refine wpAnyH_ready (rs := [5]) (by kernel_rfl) (by simp) ?_
           refine AllReadyH.cons (o := _) (by simp only [List.getElem?_toArray, List.getElem?_cons_succ, List.getElem?_cons_zero]; rfl) (fun K hK => ?_) ?_
           ·go_simp
            refine hK.out _ _ ?_ (fun hHeld => ?_)
            ·try dsimp only
             exact HU.out _ _ (by assumption)
            clear hK K
            try simp only [Act.put, List.setIfInBounds_toArray, List.set_cons_zero, List.set_cons_succ]
            refine wpAnyH_ready (rs := [6]) (by kernel_rfl) (by simp) ?_
            refine AllReadyH.cons (o := _) (by simp only [List.getElem?_toArray, List.getElem?_cons_succ, List.getElem?_cons_zero]; rfl) (fun K hK => ?_) ?_
            ·refine step_append_R (by rfl) _ _ (by rfl) WX.heap.size _ _ (([] : List (List Value)) ++ rows.take p) [[.string x.name, .slice b1 n1 e1, .slice b2 n2 e2, .slice b3 n3 e3, .slice s1 x.steps.length s3]] (by rfl) (by rfl) (HO1.out.alloc _) (row_rule (alloc_at k1 _)) (by simp) (by simp [Value.oneCell']) (by have := HLT.out.1; simp only [List.length_append, List.length_nil, List.length_cons]; omega) (Below.size (by assumption)) ?_; intro v2 k2 ho2 hg2 _; have hS2 := below_own (show Below WX.heap.size WX _ by assumption) hg2 (Below.size (by assumption)) (fun k hk => (World.ownsRow.lt HO1.out k hk).1); have HO2 := Lib.hid ho2; clear ho2
             refine hK.out _ _ ?_ (fun hHeld => ?_)
             ·try dsimp only
              assumption
             clear hK K
             try simp only [Act.put, List.setIfInBounds_toArray, List.set_cons_zero, List.set_cons_succ]
             refine wpAnyH_ready (rs := [10]) (by kernel_rfl) (by simp) ?_
             refine AllReadyH.cons (o := _) (by simp only [List.getElem?_toArray, List.getElem?_cons_succ, List.getElem?_cons_zero]; rfl) (fun K hK => ?_) ?_
             ·refine step_append_R (by rfl) _ _ (by rfl) WX.heap.size _ _ (([] : List (List Value)) ++ rows.take p ++ [[.string x.name, .slice b1 n1 e1, .slice b2 n2 e2, .slice b3 n3 e3, .slice s1 x.steps.length s3]]) (rows.drop p) (by rfl) (by rfl) HO2.out (HD.out _ (by assumption)) HTL.out.2.2.1 HTL.out.2.2.2 (by have := HLT.out; simp only [List.length_append, List.length_nil, List.length_cons]; omega) (Below.size (by assumption)) ?_; intro v3 k3 ho3 hg3 _; have hS3 := below_own (show Below WX.heap.size WX _ by assumption) hg3 (Below.size (by assumption)) (fun k hk => (World.ownsRow.lt HO2.out k hk).1); have HO3 := Lib.hid ho3; clear ho3
              refine hK.out _ _ ?_ (fun hHeld => ?_)
              ·try dsimp only
               assumption
              clear hK K
              try simp only [Act.put, List.setIfInBounds_toArray, List.set_cons_zero, List.set_cons_succ]
              refine wpAnyH_take (i := 11) (oi := _) (v := ?_) (by simp only [List.getElem?_toArray, List.getElem?_cons_succ, List.getElem?_cons_zero]; rfl) (by kernel_rfl) (by kernel_rfl) (by kernel_rfl) (by exact fun _ _ _ h => h) (Or.inl ⟨by rfl, ?_⟩) (by assumption) ?_
              rotate_left
              ·intro w hSw; go_simp; try with_reducible rfl
              try simp only [Act.put, List.setIfInBounds_toArray, List.set_cons_zero, List.set_cons_succ]
              refine wpAnyH_done (by kernel_rfl) ?_ _
              have HN3 : Hid (Below w.heap.size w k3) := by show Below _ _ _; exact (HNX.out.trans (HBR.out.mono HNX.out.size)).trans (hS3.mono (HNX.out.trans (HBR.out.mono HNX.out.size)).size)
              have HR3 : Hid (OwnR w.heap.size k3 v3 (sortQ (xs.take (k + 1)))) := by
               show OwnR _ _ _ _
               rw [HNE.out, HIN.out]
               refine ⟨_, own_lower HO3.out (HNX.out.trans (HBR.out.mono HNX.out.size)).size, ?_⟩
               rw [List.nil_append]
               exact (((HR0.out.take p).append ⟨rfl, fun j r y hr hy => by
                match j, hr, hy with
                | 0, hr, hy => simp at hr hy; subst hr hy; exact HX.out⟩).append (HR0.out.drop p)).imp fun r y h => h.keep (fr_below hS3)
              clear hS1 hS2 hS3 hHeld
              go_wp2
              go_roundw
              case rel => exact ⟨k + 1, by omega, by go_num, HR3.out, HN3.out⟩
              case measure => simp [intOf]; omega
             exact AllReadyH.nil
            exact AllReadyH.nil
           exact AllReadyH.nil
          refine AllReadyH.cons (o := _) (by simp only [List.getElem?_toArray, List.getElem?_cons_succ, List.getElem?_cons_zero]; rfl) (fun K hK => ?_) ?_
          ·go_simp
           refine hK.out _ _ ?_ (fun hHeld => ?_)
           ·try dsimp only
            exact HUD.out _
           clear hK K
           try simp only [Act.put, List.setIfInBounds_toArray, List.set_cons_zero, List.set_cons_succ]
           refine wpAnyH_ready (rs := [3]) (by kernel_rfl) (by simp) ?_
           refine AllReadyH.cons (o := _) (by simp only [List.getElem?_toArray, List.getElem?_cons_succ, List.getElem?_cons_zero]; rfl) (fun K hK => ?_) ?_
           ·refine step_append_R (by rfl) _ _ (by rfl) WX.heap.size _ _ [] (rows.take p) (by rfl) (by rfl) (World.ownsRow_nil _ _ _ _) (HT.out _ (by assumption)) HTL.out.1 HTL.out.2.1 (by have := HLT.out.1; simp only [List.length_nil]; omega) (Below.size (by assumption)) ?_; intro v1 k1 ho1 hg1 _; have hS1 := below_grown0 (show Below WX.heap.size WX _ by assumption) hg1 (Below.size (by assumption)); have HO1 := Lib.hid ho1; clear ho1; have HN1 := Lib.hid (grown_alloc_drew hg1)
            refine hK.out _ _ ?_ (fun hHeld => ?_)
            ·try dsimp only
             assumption
            clear hK K
            try simp only [Act.put, List.setIfInBounds_toArray, List.set_cons_zero, List.set_cons_succ]
            refine wpAnyH_ready (rs := [6]) (by kernel_rfl) (by simp) ?_
            refine AllReadyH.cons (o := _) (by simp only [List.getElem?_toArray, List.getElem?_cons_succ, List.getElem?_cons_zero]; rfl) (fun K hK => ?_) ?_
            ·refine step_append_R (by rfl) _ _ (by rfl) WX.heap.size _ _ (([] : List (List Value)) ++ rows.take p) [[.string x.name, .slice b1 n1 e1, .slice b2 n2 e2, .slice b3 n3 e3, .slice s1 x.steps.length s3]] (by rfl) (by rfl) HO1.out (row_rule HN1.out) (by simp) (by simp [Value.oneCell']) (by have := HLT.out.1; simp only [List.length_append, List.length_nil, List.length_cons]; omega) (Below.size (by assumption)) ?_; intro v2 k2 ho2 hg2 _; have hS2 := below_own (show Below WX.heap.size WX _ by assumption) hg2 (Below.size (by assumption)) (fun k hk => (World.ownsRow.lt HO1.out k hk).1); have HO2 := Lib.hid ho2; clear ho2
             refine hK.out _ _ ?_ (fun hHeld => ?_)
             ·try dsimp only
              assumption
             clear hK K
             try simp only [Act.put, List.setIfInBounds_toArray, List.set_cons_zero, List.set_cons_succ]
             refine wpAnyH_ready (rs := [10]) (by kernel_rfl) (by simp) ?_
             refine AllReadyH.cons (o := _) (by simp only [List.getElem?_toArray, List.getElem?_cons_succ, List.getElem?_cons_zero]; rfl) (fun K hK => ?_) ?_
             ·refine step_append_R (by rfl) _ _ (by rfl) WX.heap.size _ _ (([] : List (List Value)) ++ rows.take p ++ [[.string x.name, .slice b1 n1 e1, .slice b2 n2 e2, .slice b3 n3 e3, .slice s1 x.steps.length s3]]) (rows.drop p) (by rfl) (by rfl) HO2.out (HD.out _ (by assumption)) HTL.out.2.2.1 HTL.out.2.2.2 (by have := HLT.out; simp only [List.length_append, List.length_nil, List.length_cons]; omega) (Below.size (by assumption)) ?_; intro v3 k3 ho3 hg3 _; have hS3 := below_own (show Below WX.heap.size WX _ by assumption) hg3 (Below.size (by assumption)) (fun k hk => (World.ownsRow.lt HO2.out k hk).1); have HO3 := Lib.hid ho3; clear ho3
              refine hK.out _ _ ?_ (fun hHeld => ?_)
              ·try dsimp only
               assumption
              clear hK K
              try simp only [Act.put, List.setIfInBounds_toArray, List.set_cons_zero, List.set_cons_succ]
              refine wpAnyH_take (i := 11) (oi := _) (v := ?_) (by simp only [List.getElem?_toArray, List.getElem?_cons_succ, List.getElem?_cons_zero]; rfl) (by kernel_rfl) (by kernel_rfl) (by kernel_rfl) (by exact fun _ _ _ h => h) (Or.inl ⟨by rfl, ?_⟩) (by assumption) ?_
              rotate_left
              ·intro w hSw; go_simp; try with_reducible rfl
              try simp only [Act.put, List.setIfInBounds_toArray, List.set_cons_zero, List.set_cons_succ]
              refine wpAnyH_done (by kernel_rfl) ?_ _
              have HN3 : Hid (Below w.heap.size w k3) := by show Below _ _ _; exact (HNX.out.trans (HBR.out.mono HNX.out.size)).trans (hS3.mono (HNX.out.trans (HBR.out.mono HNX.out.size)).size)
              have HR3 : Hid (OwnR w.heap.size k3 v3 (sortQ (xs.take (k + 1)))) := by
               show OwnR _ _ _ _
               rw [HNE.out, HIN.out]
               refine ⟨_, own_lower HO3.out (HNX.out.trans (HBR.out.mono HNX.out.size)).size, ?_⟩
               rw [List.nil_append]
               exact (((HR0.out.take p).append ⟨rfl, fun j r y hr hy => by
                match j, hr, hy with
                | 0, hr, hy => simp at hr hy; subst hr hy; exact HX.out⟩).append (HR0.out.drop p)).imp fun r y h => h.keep (fr_below hS3)
              clear hS1 hS2 hS3 hHeld
              go_wp2
              go_roundw
              case rel => exact ⟨k + 1, by omega, by go_num, HR3.out, HN3.out⟩
              case measure => simp [intOf]; omega
             exact AllReadyH.nil
            exact AllReadyH.nil
           exact AllReadyH.nil
          exact AllReadyH.nil
        exact AllReadyS.nil
       exact AllReadyS.nil
      exact AllReadyS.nil
     exact AllReadyS.nil
    exact AllReadyS.nil
   exact AllReadyS.nil
  ·obtain rfl : k = xs.length := by omega
   have hown2 := hown
   rw [List.take_length] at hown2
   obtain ⟨oa, oc, q, _⟩ := hown2.len
   subst q
   have HR := Lib.hid hown2
   have HNX := Lib.hid hnx
   have hi1 : ¬ (xs.length : Int) < (xs.length : Int) := by omega
   clear hown hown2 hnx
   go_wp2
   go_ret
   exact ⟨_, _, _, rfl, HR.out, HNX.out⟩
end Go.Proofs.YtlmnabhhgplhnaaGreatDoor
namespace Go.Proofs.YtlmnabhhgplhnaaGreatDoor
open Go.RowKit Go.Shelf

/-! ### A rule's text -/
def stepLnQ (s : StepS) : List UInt8 := [32, 32] ++ stepQ s ++ [10]
def stepsQ (l : List StepS) : List UInt8 := (l.map stepLnQ).flatten
def headQR (x : ByteArray) : List UInt8 := [114, 117, 108, 101, 32] ++ x.data.toList ++ [32, 123, 10]
def upQ (x : RuleS) : List UInt8 := headQR x.name ++ clauseQ [105, 110] x.ins ++ clauseQ [111, 117, 116] x.outs ++ clauseQ [97, 102, 116, 101, 114] x.after
def ruleQ (x : RuleS) : List UInt8 := upQ x ++ stepsQ x.steps ++ [125, 10]
theorem stepsQ_next {l : List StepS} {k : Nat} {y : StepS} (h : l[k]? = some y) : stepsQ (l.take (k + 1)) = stepsQ (l.take k) ++ stepLnQ y := by
 unfold stepsQ
 rw [List.take_add_one, h, List.map_append, List.flatten_append]
 simp
theorem stepsQ_le (l : List StepS) (k : Nat) : (stepsQ (l.take k)).length ≤ (stepsQ l).length := by
 conv => rhs; rw [← List.take_append_drop k l]
 unfold stepsQ
 rw [List.map_append, List.flatten_append, List.length_append]
 omega
theorem sortQ_one (x : RuleS) : sortQ [x] = [risR x] := by
 unfold sortQ insR posR; simp
theorem ba_len {b : ByteArray} {l : List UInt8} (h : b.data.toList = l) : b.size = l.length := by rw [Lib.size_eq, h]
theorem arr_len (l : List UInt8) : (⟨l.toArray⟩ : ByteArray).size = l.length := by simp [ByteArray.size]
/-- A step that can be read. -/
theorem stepsI_at5 {w : World} {v : Value} {xs : List StepS} (h : StepsI w v xs) {k : Nat} {y : StepS} (hy : xs[k]? = some y) :
  ∃ b o cap va vl, v = .slice (some ⟨b, o, none⟩) xs.length cap ∧ IsStrs w va y.args ∧ IsStrs w vl y.lits ∧
   ∀ w', Below w.heap.size w w' → w'.cell? ⟨b, o + k * 5, none⟩ = some (.string y.out) ∧ w'.cell? ⟨b, o + k * 5 + 1, none⟩ = some (.int .i64 y.op) ∧ w'.cell? ⟨b, o + k * 5 + 2, none⟩ = some va ∧ w'.cell? ⟨b, o + k * 5 + 3, none⟩ = some vl ∧ w'.cell? ⟨b, o + k * 5 + 4, none⟩ = some (.int .i64 y.n) := by
 obtain ⟨rows, ⟨a, c, rfl, _, _, h2⟩, hall⟩ := h
 have hk : k < rows.length := by rw [hall.1]; exact (List.getElem?_eq_some_iff.1 hy).1
 obtain ⟨va, vl, e, ha, hl⟩ := hall.2 k _ y (List.getElem?_eq_getElem hk) hy
 obtain ⟨b, o, rfl, hb, hc⟩ := h2 (by rintro rfl; simp at hk)
 refine ⟨b, o, c, va, vl, by rw [hall.1], ha, hl, fun w' hw => ?_⟩
 have key : ∀ (i : Nat) u, rows[k][i]? = some u → w'.cell? ⟨b, o + k * 5 + i, none⟩ = some u := fun i u hu => (hw.cell (p := ⟨b, o + k * 5 + i, none⟩) hb).trans (hc k _ (List.getElem?_eq_getElem hk) i u hu)
 rw [e] at key
 exact ⟨key 0 _ rfl, key 1 _ rfl, key 2 _ rfl, key 3 _ rfl, key 4 _ rfl⟩

set_option maxHeartbeats 8000000 in
set_option maxRecDepth 100000 in
theorem printQ_any (x : RuleS) (a1 a2 a3 a4 : Option Addr) (c1 c2 c3 c4 : Nat) (w : World) (h : RuleI w [.string x.name, .slice a1 x.ins.length c1, .slice a2 x.outs.length c2, .slice a3 x.after.length c3, .slice a4 x.steps.length c4] x) (hf : SmallR x 1048576) (hlen : (ruleQ (risR x)).length ≤ 1000000000000) :
  Calls Tryz.prog 15 #[.agg #[.string x.name, .slice a1 x.ins.length c1, .slice a2 x.outs.length c2, .slice a3 x.after.length c3, .slice a4 x.steps.length c4]] w fun e w' => e = .returned (.string ⟨(ruleQ (risR x)).toArray⟩) ∧ Below w.heap.size w w' := by
 obtain ⟨ob, hob⟩ : ∃ o : Obj, o = .cells #[.string x.name, .slice a1 x.ins.length c1, .slice a2 x.outs.length c2, .slice a3 x.after.length c3, .slice a4 x.steps.length c4] 38 := ⟨_, rfl⟩
 obtain ⟨W2, hW2⟩ : ∃ V, (w.alloc ob).alloc ob = V := ⟨_, rfl⟩
 have hz1 : W2.heap[w.heap.size]? = some ob := by rw [← hW2, Below.heap_alloc _ _ _ (by simp)]; exact alloc_at w ob
 have hz2 : W2.heap[w.heap.size + 1]? = some ob := by
  rw [← hW2]
  have := alloc_at (w.alloc ob) ob
  simpa using this
 have hb2 : Below w.heap.size w W2 := by rw [← hW2]; exact ((Below.refl _ _).alloc (Nat.le_refl _) _).alloc (by simp) _
 have hs2 : W2.heap.size = w.heap.size + 2 := by rw [← hW2]; simp
 have hri : RulesI W2 (.slice (some ⟨w.heap.size + 1, 0, none⟩) 1 1) [x] :=
  ⟨_, row_rule (by rw [hz2, hob]), ⟨rfl, fun j r y hr hy => by
   match j, hr, hy with
   | 0, hr, hy => simp at hr hy; subst hr hy; exact h.below hb2⟩⟩
 have cS := sortQ_any _ [x] W2 hri (by simp) (fun y hy => by simp at hy; subst hy; exact hf)
 rw [sortQ_one] at cS
 have CS := Lib.hid cS
 have HW2 := Lib.hid hW2; have HZ1 := Lib.hid hz1; have HB2 := Lib.hid hb2; have HS2 := Lib.hid hs2
 obtain ⟨r, hr⟩ : ∃ r, risR x = r := ⟨_, rfl⟩
 have hrn : r.name = x.name := by rw [← hr]; rfl
 have hrs : r.steps = x.steps := by rw [← hr]; rfl
 have HST : Hid (∀ y ∈ r.steps, SmallS y 1048576) := by show ∀ y ∈ _, _; rw [hrs]; exact hf.steps
 have hfew : r.steps.length ≤ 1048576 := by rw [hrs]; exact hf.few
 rw [hr] at CS hlen ⊢
 obtain ⟨T0, hT0⟩ : ∃ T0, headQR r.name = T0 := ⟨_, rfl⟩
 obtain ⟨T1, hT1⟩ : ∃ T1 : ByteArray, (⟨(clauseQ [105, 110] r.ins).toArray⟩ : ByteArray) = T1 := ⟨_, rfl⟩
 obtain ⟨T2, hT2⟩ : ∃ T2 : ByteArray, (⟨(clauseQ [111, 117, 116] r.outs).toArray⟩ : ByteArray) = T2 := ⟨_, rfl⟩
 obtain ⟨T3, hT3⟩ : ∃ T3 : ByteArray, (⟨(clauseQ [97, 102, 116, 101, 114] r.after).toArray⟩ : ByteArray) = T3 := ⟨_, rfl⟩
 have hL : (ruleQ r).length = T0.length + T1.size + T2.size + T3.size + (stepsQ r.steps).length + 2 := by
  rw [← hT0, ← hT1, ← hT2, ← hT3, arr_len, arr_len, arr_len]
  unfold ruleQ upQ
  simp only [List.length_append, List.length_cons, List.length_nil]
 have hN : T0.length = 5 + r.name.size + 3 := by rw [← hT0]; unfold headQR; simp only [List.length_append, List.length_cons, List.length_nil, ← Lib.size_eq]
 have hm1 : (clauseQ [105, 110] r.ins).length ≤ 1000000000000 := by have := arr_len (clauseQ [105, 110] r.ins); rw [hT1] at this; omega
 have hm2 : (clauseQ [111, 117, 116] r.outs).length ≤ 1000000000000 := by have := arr_len (clauseQ [111, 117, 116] r.outs); rw [hT2] at this; omega
 have hm3 : (clauseQ [97, 102, 116, 101, 114] r.after).length ≤ 1000000000000 := by have := arr_len (clauseQ [97, 102, 116, 101, 114] r.after); rw [hT3] at this; omega
 have hd1 : T1.data.toList = clauseQ [105, 110] r.ins := by rw [← hT1]
 have hd2 : T2.data.toList = clauseQ [111, 117, 116] r.outs := by rw [← hT2]
 have hd3 : T3.data.toList = clauseQ [97, 102, 116, 101, 114] r.after := by rw [← hT3]
 have CI : Hid (∀ w' v, IsStrs w' v r.ins → Calls Tryz.prog 38 #[.string ⟨#[105, 110]⟩, v] w' fun e w'' => e = .returned (.string T1) ∧ w' = w'') := by
  show ∀ w' v, _
  intro w' v hI
  have := clauseQ_any ⟨#[105, 110]⟩ v r.ins w' hI hm1
  rw [show clauseQ (⟨#[105, 110]⟩ : ByteArray).data.toList r.ins = clauseQ [105, 110] r.ins from rfl, hT1] at this
  exact this
 have CO : Hid (∀ w' v, IsStrs w' v r.outs → Calls Tryz.prog 38 #[.string ⟨#[111, 117, 116]⟩, v] w' fun e w'' => e = .returned (.string T2) ∧ w' = w'') := by
  show ∀ w' v, _
  intro w' v hI
  have := clauseQ_any ⟨#[111, 117, 116]⟩ v r.outs w' hI hm2
  rw [show clauseQ (⟨#[111, 117, 116]⟩ : ByteArray).data.toList r.outs = clauseQ [111, 117, 116] r.outs from rfl, hT2] at this
  exact this
 have CF : Hid (∀ w' v, IsStrs w' v r.after → Calls Tryz.prog 38 #[.string ⟨#[97, 102, 116, 101, 114]⟩, v] w' fun e w'' => e = .returned (.string T3) ∧ w' = w'') := by
  show ∀ w' v, _
  intro w' v hI
  have := clauseQ_any ⟨#[97, 102, 116, 101, 114]⟩ v r.after w' hI hm3
  rw [show clauseQ (⟨#[97, 102, 116, 101, 114]⟩ : ByteArray).data.toList r.after = clauseQ [97, 102, 116, 101, 114] r.after from rfl, hT3] at this
  exact this
 have HUP : Hid ((((⟨#[114, 117, 108, 101, 32]⟩ ++ x.name ++ ⟨#[32, 123, 10]⟩ ++ T1) ++ T2) ++ T3 : ByteArray).data.toList = upQ r) := by
  show _ = _
  unfold upQ headQR
  simp only [ByteArray.data_append, Array.toList_append, hd1, hd2, hd3, hrn]
 have hup : (upQ r).length = T0.length + T1.size + T2.size + T3.size := by
  unfold upQ; rw [List.length_append, List.length_append, List.length_append, hT0, ← hd1, ← hd2, ← hd3, Lib.size_eq, Lib.size_eq, Lib.size_eq]
 have HHL := Lib.hid hup
 have HLL := Lib.hid hL
 rw [hrn] at hN
 have HRN := Lib.hid hrn
 clear h hf hW2 hz1 hz2 hb2 hs2 hri cS hr hrs hT0 hT1 hT2 hT3 hm1 hm2 hm3 hd1 hd2 hd3 hup hrn
 have hns : 5 + x.name.size + 3 + T1.size + T2.size + T3.size ≤ 1000000000000 := by omega
 have ov1 : ¬ 9223372036854775807 < 5 + x.name.size := by omega
 have ov2 : ¬ 9223372036854775807 < 5 + x.name.size + 3 := by omega
 have ov3 : ¬ 9223372036854775807 < 5 + x.name.size + 3 + T1.size := by omega
 have ov4 : ¬ 9223372036854775807 < 5 + x.name.size + 3 + T1.size + T2.size := by omega
 have ov5 : ¬ 9223372036854775807 < 5 + x.name.size + 3 + T1.size + T2.size + T3.size := by omega
 have HLE := Lib.hid hlen
 have HNN := Lib.hid hN
 clear hL hN hlen
 subst hob
 go_enter Tryz.func15, Tryz.ntmps15
 go_wp2_with fail
 rw [HW2.out]
 refine CS.out.mono ?_
 rintro e w3 ⟨sa, sn, sc, rfl, hown, hb3⟩
 obtain ⟨g, o, cap, b1, n1, e1, b2, n2, e2, b3, n3, e3, b4, n4, e4, q, hg, hRA, hc⟩ := rules_at hown.rulesA (k := 0) (x := r) rfl
 cases q
 obtain ⟨vi, vo, vf, vs, q, hri, hro, hrf, hrs⟩ := id hRA
 cases q
 obtain ⟨q1, q2, q, hsl, hsm⟩ := stepsA_len hrs
 cases q
 obtain ⟨d0, d1, d2, d3, d4⟩ := hc _ (Below.refl _ _)
 simp only [Nat.zero_mul, Nat.add_zero] at d0 d1 d2 d3 d4
 have hz := (hb3.block w.heap.size (by have := HS2.out; omega)).trans HZ1.out
 obtain ⟨y0, y1, y2, y3, y4, z0, z1, z2, z3, z4⟩ := cells5 hz
 have hz4 := heap_set5 hz (.string x.name) (.slice b1 n1 e1) (.slice b2 n2 e2) (.slice b3 n3 e3) (.slice b4 r.steps.length e4)
 rw [HRN.out] at d0
 obtain ⟨W4, hW4⟩ : ∃ V, ((((w3.setCell ⟨w.heap.size, 0, none⟩ (.string x.name)).setCell ⟨w.heap.size, 1, none⟩ (.slice b1 n1 e1)).setCell ⟨w.heap.size, 2, none⟩ (.slice b2 n2 e2)).setCell ⟨w.heap.size, 3, none⟩ (.slice b3 n3 e3)).setCell ⟨w.heap.size, 4, none⟩ (.slice b4 r.steps.length e4) = V := ⟨_, rfl⟩
 rw [hW4] at hz4
 have hfr : Fr (fun b => b = w.heap.size) w3 W4 := by
  rw [← hW4]
  exact fr_set5 (Av := fun b => b = w.heap.size) (w := w3) rfl _ _ _ _ _
 have hs2' := HS2.out
 have hm : ∀ b, b < w3.heap.size → b = w.heap.size → b < W2.heap.size := fun b _ e => by omega
 have hIi : IsStrs W4 (.slice b1 n1 e1) r.ins := StrsA.isStrs (Av := fun b => b = w.heap.size) (RowA.keep (RowA.mono hri hm) hfr)
 have hIo : IsStrs W4 (.slice b2 n2 e2) r.outs := StrsA.isStrs (Av := fun b => b = w.heap.size) (RowA.keep (RowA.mono hro hm) hfr)
 have hIf : IsStrs W4 (.slice b3 n3 e3) r.after := StrsA.isStrs (Av := fun b => b = w.heap.size) (RowA.keep (RowA.mono hrf hm) hfr)
 have hIs : StepsI W4 (.slice b4 r.steps.length e4) r.steps := by
  obtain ⟨rows, k1, k2⟩ := (hrs.mono hm).keep hfr
  exact ⟨rows, k1.1, k2.imp fun r x h => by obtain ⟨va, vl, rfl, ha, hl⟩ := h; exact ⟨va, vl, rfl, ha.isStrs, hl.isStrs⟩⟩
 have hb4 : Below w.heap.size w W4 := by
  rw [← hW4]
  exact below_set5 (HB2.out.trans (hb3.mono (by omega))) (Nat.le_refl _) _ _ _ _ _
 have HW4 := Lib.hid hW4; have HZ4 := Lib.hid hz4; have HB4 := Lib.hid hb4
 have HII := Lib.hid hIi; have HIO := Lib.hid hIo; have HIF := Lib.hid hIf; have HIS := Lib.hid hIs
 have hs4 : w.heap.size < W4.heap.size := block_lt' hz4
 have HS4 := Lib.hid hs4
 unfold maxLen at hsm
 clear hown hb3 hg hRA hc hri hro hrf hrs hz hz4 hW4 hfr hs2' hm hIi hIo hIf hIs hb4 hs4
 go_upto_region 2 with fail
 rw [HW4.out]
 clear d0 d1 d2 d3 d4 y0 y1 y2 y3 y4 z0 z1 z2 z3 z4
 have hcell : ∀ w', Below W4.heap.size W4 w' → _ := fun w' (hb : Below W4.heap.size W4 w') => cells5 ((hb.block w.heap.size HS4.out).trans HZ4.out)
 have HCELL := Lib.hid hcell
 have hc0 := fun w' hb => (hcell w' hb).1
 have hc1 := fun w' hb => (hcell w' hb).2.1
 have hc2 := fun w' hb => (hcell w' hb).2.2.1
 have hc3 := fun w' hb => (hcell w' hb).2.2.2.1
 have HS0 : Hid (Below W4.heap.size W4 W4.drew) := by show Below _ _ _; exact (Below.refl _ _).drew
 clear hcell
 refine wp_region_held_drew (S := fun w' => Below W4.heap.size W4 w') (by kernel_rfl) ?_ (fun hHeld => ?_)
 ·exact HS0.out
 refine wpAnyH_take (i := 0) (oi := _) (v := ?_) (by simp only [List.getElem?_toArray, List.getElem?_cons_zero]; rfl) (by kernel_rfl) (by kernel_rfl) (by kernel_rfl) (by exact fun _ _ _ h => h) (Or.inl ⟨by rfl, ?_⟩) (by assumption) ?_
 rotate_left
 ·intro w hSw; go_simp; try with_reducible rfl
 try simp only [Act.put, List.setIfInBounds_toArray, List.set_cons_zero, List.set_cons_succ]
 refine wpAnyH_take (i := 1) (oi := _) (v := ?_) (by simp only [List.getElem?_toArray, List.getElem?_cons_succ, List.getElem?_cons_zero]; rfl) (by kernel_rfl) (by kernel_rfl) (by kernel_rfl) (by exact fun _ _ _ h => h) (Or.inl ⟨by rfl, ?_⟩) (by assumption) ?_
 rotate_left
 ·intro w hSw; go_simp; try with_reducible rfl
 try simp only [Act.put, List.setIfInBounds_toArray, List.set_cons_zero, List.set_cons_succ]
 refine wpAnyH_take (i := 2) (oi := _) (v := ?_) (by simp only [List.getElem?_toArray, List.getElem?_cons_succ, List.getElem?_cons_zero]; rfl) (by kernel_rfl) (by kernel_rfl) (by kernel_rfl) (by exact fun _ _ _ h => h) (Or.inl ⟨by rfl, ?_⟩) (by assumption) ?_
 rotate_left
 ·intro w hSw; go_simp; try with_reducible rfl
 try simp only [Act.put, List.setIfInBounds_toArray, List.set_cons_zero, List.set_cons_succ]
 refine wpAnyH_take (i := 3) (oi := _) (v := ?_) (by simp only [List.getElem?_toArray, List.getElem?_cons_succ, List.getElem?_cons_zero]; rfl) (by kernel_rfl) (by kernel_rfl) (by kernel_rfl) (by exact fun _ _ _ h => h) (Or.inl ⟨by rfl, ?_⟩) (by assumption) ?_
 rotate_left
 ·intro w hSw; go_simp; try with_reducible rfl
 try simp only [Act.put, List.setIfInBounds_toArray, List.set_cons_zero, List.set_cons_succ]
 refine wpAnyH_take (i := 4) (oi := _) (v := ?_) (by simp only [List.getElem?_toArray, List.getElem?_cons_succ, List.getElem?_cons_zero]; rfl) (by kernel_rfl) (by kernel_rfl) (by kernel_rfl) (by exact fun _ _ _ h => h) (Or.inl ⟨by rfl, ?_⟩) (by assumption) ?_
 rotate_left
 ·intro w hSw; go_simp; try with_reducible rfl
 try simp only [Act.put, List.setIfInBounds_toArray, List.set_cons_zero, List.set_cons_succ]
 refine wpAnyH_take (i := 5) (oi := _) (v := ?_) (by simp only [List.getElem?_toArray, List.getElem?_cons_succ, List.getElem?_cons_zero]; rfl) (by kernel_rfl) (by kernel_rfl) (by kernel_rfl) (by exact fun _ _ _ h => h) (Or.inl ⟨by rfl, ?_⟩) (by assumption) ?_
 rotate_left
 ·intro w hSw; go_simp; try with_reducible rfl
 try simp only [Act.put, List.setIfInBounds_toArray, List.set_cons_zero, List.set_cons_succ]
 refine wpAnyH_take (i := 8) (oi := _) (v := ?_) (by simp only [List.getElem?_toArray, List.getElem?_cons_succ, List.getElem?_cons_zero]; rfl) (by kernel_rfl) (by kernel_rfl) (by kernel_rfl) (by exact fun _ _ _ h => h) (Or.inl ⟨by rfl, ?_⟩) (by assumption) ?_
 rotate_left
 ·intro w hSw; go_simp; try with_reducible rfl
 try simp only [Act.put, List.setIfInBounds_toArray, List.set_cons_zero, List.set_cons_succ]
 refine wpAnyH_take (i := 9) (oi := _) (v := ?_) (by simp only [List.getElem?_toArray, List.getElem?_cons_succ, List.getElem?_cons_zero]; rfl) (by kernel_rfl) (by kernel_rfl) (by kernel_rfl) (by exact fun _ _ _ h => h) (Or.inl ⟨by rfl, ?_⟩) (by assumption) ?_
 rotate_left
 ·intro w hSw; go_simp; try with_reducible rfl
 try simp only [Act.put, List.setIfInBounds_toArray, List.set_cons_zero, List.set_cons_succ]
 refine wpAnyH_take (i := 12) (oi := _) (v := ?_) (by simp only [List.getElem?_toArray, List.getElem?_cons_succ, List.getElem?_cons_zero]; rfl) (by kernel_rfl) (by kernel_rfl) (by kernel_rfl) (by exact fun _ _ _ h => h) (Or.inl ⟨by rfl, ?_⟩) (by assumption) ?_
 rotate_left
 ·intro w hSw; go_simp; try with_reducible rfl
 try simp only [Act.put, List.setIfInBounds_toArray, List.set_cons_zero, List.set_cons_succ]
 refine wpAnyH_take (i := 13) (oi := _) (v := ?_) (by simp only [List.getElem?_toArray, List.getElem?_cons_succ, List.getElem?_cons_zero]; rfl) (by kernel_rfl) (by kernel_rfl) (by kernel_rfl) (by exact fun _ _ _ h => h) (Or.inl ⟨by rfl, ?_⟩) (by assumption) ?_
 rotate_left
 ·intro w hSw; go_simp; try with_reducible rfl
 try simp only [Act.put, List.setIfInBounds_toArray, List.set_cons_zero, List.set_cons_succ]
 refine wpAnyH_ready (rs := [6]) (by kernel_rfl) (by simp) ?_
 refine AllReadyH.cons (o := _) (by simp only [List.getElem?_toArray, List.getElem?_cons_succ, List.getElem?_cons_zero]; rfl) (fun K hK => ?_) ?_
 ·go_simp; go_at_call 38; refine (CI.out _ _ (HII.out.below hHeld)).mono ?_; rintro e q ⟨rfl, rfl⟩
  refine hK.out _ _ ?_ (fun hHeld => ?_)
  ·try dsimp only
   assumption
  clear hK K
  try simp only [Act.put, List.setIfInBounds_toArray, List.set_cons_zero, List.set_cons_succ]
  refine wpAnyH_take (i := 7) (oi := _) (v := ?_) (by simp only [List.getElem?_toArray, List.getElem?_cons_succ, List.getElem?_cons_zero]; rfl) (by kernel_rfl) (by kernel_rfl) (by kernel_rfl) (by exact fun _ _ _ h => h) (Or.inl ⟨by rfl, ?_⟩) (by assumption) ?_
  rotate_left
  ·intro w hSw; go_simp; try with_reducible rfl
  try simp only [Act.put, List.setIfInBounds_toArray, List.set_cons_zero, List.set_cons_succ]
  refine wpAnyH_ready (rs := [10]) (by kernel_rfl) (by simp) ?_
  refine AllReadyH.cons (o := _) (by simp only [List.getElem?_toArray, List.getElem?_cons_succ, List.getElem?_cons_zero]; rfl) (fun K hK => ?_) ?_
  ·go_simp; go_at_call 38; refine (CO.out _ _ (HIO.out.below hHeld)).mono ?_; rintro e q ⟨rfl, rfl⟩
   refine hK.out _ _ ?_ (fun hHeld => ?_)
   ·try dsimp only
    assumption
   clear hK K
   try simp only [Act.put, List.setIfInBounds_toArray, List.set_cons_zero, List.set_cons_succ]
   refine wpAnyH_take (i := 11) (oi := _) (v := ?_) (by simp only [List.getElem?_toArray, List.getElem?_cons_succ, List.getElem?_cons_zero]; rfl) (by kernel_rfl) (by kernel_rfl) (by kernel_rfl) (by exact fun _ _ _ h => h) (Or.inl ⟨by rfl, ?_⟩) (by assumption) ?_
   rotate_left
   ·intro w hSw; go_simp; try with_reducible rfl
   try simp only [Act.put, List.setIfInBounds_toArray, List.set_cons_zero, List.set_cons_succ]
   refine wpAnyH_ready (rs := [14]) (by kernel_rfl) (by simp) ?_
   refine AllReadyH.cons (o := _) (by simp only [List.getElem?_toArray, List.getElem?_cons_succ, List.getElem?_cons_zero]; rfl) (fun K hK => ?_) ?_
   ·go_simp; go_at_call 38; refine (CF.out _ _ (HIF.out.below hHeld)).mono ?_; rintro e q ⟨rfl, rfl⟩
    refine hK.out _ _ ?_ (fun hHeld => ?_)
    ·try dsimp only
     assumption
    clear hK K
    try simp only [Act.put, List.setIfInBounds_toArray, List.set_cons_zero, List.set_cons_succ]
    refine wpAnyH_take (i := 15) (oi := _) (v := ?_) (by simp only [List.getElem?_toArray, List.getElem?_cons_succ, List.getElem?_cons_zero]; rfl) (by kernel_rfl) (by kernel_rfl) (by kernel_rfl) (by exact fun _ _ _ h => h) (Or.inl ⟨by rfl, ?_⟩) (by assumption) ?_
    rotate_left
    ·intro w hSw; go_simp; try with_reducible rfl
    try simp only [Act.put, List.setIfInBounds_toArray, List.set_cons_zero, List.set_cons_succ]
    refine wpAnyH_take (i := 16) (oi := _) (v := ?_) (by simp only [List.getElem?_toArray, List.getElem?_cons_succ, List.getElem?_cons_zero]; rfl) (by kernel_rfl) (by kernel_rfl) (by kernel_rfl) (by exact fun _ _ _ h => h) (Or.inl ⟨by rfl, ?_⟩) (by assumption) ?_
    rotate_left
    ·intro w hSw; go_simp; try with_reducible rfl
    try simp only [Act.put, List.setIfInBounds_toArray, List.set_cons_zero, List.set_cons_succ]
    refine wpAnyH_done (by kernel_rfl) ?_ _
    obtain ⟨T, hT⟩ : ∃ T : ByteArray, (⟨#[114, 117, 108, 101, 32]⟩ ++ x.name ++ ⟨#[32, 123, 10]⟩ ++ T1) ++ T2 ++ T3 = T := ⟨_, rfl⟩
    rw [hT]
    have HT : Hid (T.data.toList = upQ r) := by show _ = _; rw [← hT]; exact HUP.out
    clear hT hc0 hc1 hc2 hc3
    obtain ⟨W5, rfl⟩ : ∃ V, V = W4.drew := ⟨_, rfl⟩
    have HB5 := Lib.hid hHeld
    obtain ⟨y0, y1, y2, y3, y4, z0, z1, z2, z3, z4⟩ := HCELL.out _ hHeld
    have hTs : T.size = (upQ r).length := ba_len HT.out
    have hul := HHL.out
    have hall := HLL.out
    have hle := HLE.out
    have hnn := HNN.out
    have hTl : T.size + (stepsQ r.steps).length + 2 ≤ 1000000000000 := by omega
    have HTL := Lib.hid hTl
    clear hTs hul hall hle hnn hHeld hTl
    go_wp2_with fail
    go_loopw [3, 4] (fun t i wr => ∃ (k : Nat) (U : ByteArray), k ≤ r.steps.length ∧ i = .int .i64 (k : Int) ∧ t = .string U ∧ U.data.toList = upQ r ++ stepsQ (r.steps.take k) ∧ Below W4.heap.size W4 wr) (fun _ i _ => r.steps.length - (intOf i).toNat)
    case atStart => exact ⟨0, T, Nat.zero_le _, rfl, rfl, by rw [HT.out]; simp [stepsQ], HB5.out⟩
    case round =>
     clear y0 y1 y2 y3 y4 z0 z1 z2 z3 z4
     obtain ⟨k, U, hk, rfl, rfl, hU, hnx⟩ := hrel
     have HNX := Lib.hid hnx
     have HU := Lib.hid hU
     obtain ⟨y0, y1, y2, y3, y4, z0, z1, z2, z3, z4⟩ := HCELL.out _ hnx
     have hUs : U.size ≤ T.size + (stepsQ r.steps).length := by
      rw [ba_len hU, List.length_append, ba_len HT.out]
      have := stepsQ_le r.steps k
      omega
     have hTl := HTL.out
     by_cases hlt : k < r.steps.length
     ·obtain ⟨y, hy⟩ : ∃ y, r.steps[k]? = some y := ⟨r.steps[k], List.getElem?_eq_getElem hlt⟩
      obtain ⟨sb, so, cap, va, vl, q, hva, hvl, hcs⟩ := stepsI_at5 HIS.out hy
      injection q with q1' q2' q3'
      subst q1'
      obtain ⟨f1, g1, qa⟩ := isStrs_shape hva
      subst qa
      obtain ⟨f2, g2, qa⟩ := isStrs_shape hvl
      subst qa
      obtain ⟨d0, d1, d2, d3, d4⟩ := hcs _ hnx
      have hnext := stepsQ_next hy
      have hle2 := stepsQ_le r.steps (k + 1)
      rw [hnext, List.length_append] at hle2
      have hln : (stepLnQ y).length = 2 + (stepQ y).length + 1 := by unfold stepLnQ; simp only [List.length_append, List.length_cons, List.length_nil]
      have cX := stepQ_any y _ _ wr (hva.below hnx) (hvl.below hnx) (HST.out y (List.mem_of_getElem? hy))
      obtain ⟨Q, hQ⟩ : ∃ Q : ByteArray, (⟨(stepQ y).toArray⟩ : ByteArray) = Q := ⟨_, rfl⟩
      have hQl : Q.data.toList = stepQ y := by rw [← hQ]
      have hQs : Q.size = (stepQ y).length := ba_len hQl
      rw [hQ] at cX
      have CX := Lib.hid cX
      have HNEXT := Lib.hid hnext
      have HQL := Lib.hid hQl
      have hq1 : 2 + Q.size + 1 ≤ 1000000000000 := by omega
      have hq2 : U.size + (2 + Q.size + 1) ≤ 1000000000000 := by
       have h1 := ba_len hU
       rw [List.length_append] at h1
       have h2 := ba_len HT.out
       omega
      have hi1 : (k : Int) < (r.steps.length : Int) := by omega
      have hi0 : (0 : Int) ≤ (k : Int) := by omega
      have HK1 : Hid ((U ++ (⟨#[32, 32]⟩ ++ Q ++ ⟨#[10]⟩) : ByteArray).data.toList = upQ r ++ stepsQ (r.steps.take (k + 1))) := by
       show _ = _
       rw [HNEXT.out]
       unfold stepLnQ
       simp only [ByteArray.data_append, Array.toList_append, HU.out, HQL.out, List.append_assoc]
      clear hnx hU hy hcs hva hvl hnext hle2 hln cX hQ hQl hQs hTl hUs q2' q3'
      go_wp2_with fail
      refine CX.out.mono ?_
      rintro e w6 ⟨rfl, hb6⟩
      have HN6 := Lib.hid (HNX.out.trans (hb6.mono HNX.out.size))
      clear hb6 d0 d1 d2 d3 d4
      go_wp2
      go_roundw
      case rel => exact ⟨k + 1, _, by omega, by go_num, rfl, HK1.out, HN6.out⟩
      case measure => simp [intOf]; omega
     ·obtain rfl : k = r.steps.length := by omega
      have hi1 : ¬ (r.steps.length : Int) < (r.steps.length : Int) := by omega
      have HF : Hid ((U ++ ⟨#[125, 10]⟩ : ByteArray) = ⟨(ruleQ r).toArray⟩) := by
       show _ = _
       apply ByteArray.ext
       apply Array.ext'
       rw [ByteArray.data_append, Array.toList_append, HU.out, List.take_length]
       rfl
      have hq2 : U.size + 2 ≤ 1000000000000 := by omega
      clear hnx hU hTl hUs
      go_wp2
      go_ret
      exact ⟨ret_str HF.out, HB4.out.trans (HNX.out.mono HB4.out.size)⟩
   exact AllReadyH.nil
  exact AllReadyH.nil
 exact AllReadyH.nil
end Go.Proofs.YtlmnabhhgplhnaaGreatDoor
namespace Go.Proofs.YtlmnabhhgplhnaaGreatDoor
open Go.RowKit Go.Shelf

theorem mem_insB {x y : ByteArray} {l : List ByteArray} (h : y ∈ insB x l) : y = x ∨ y ∈ l := by
 unfold insB at h
 rcases List.mem_append.1 h with h | h
 ·rcases List.mem_append.1 h with h | h
  ·exact .inr (List.mem_of_mem_take h)
  ·exact .inl (by simpa using h)
 ·exact .inr (List.mem_of_mem_drop h)
theorem mem_foldB {y : ByteArray} : ∀ (xs l : List ByteArray), y ∈ xs.foldl (fun l x => insB x l) l → y ∈ xs ∨ y ∈ l
 | [], l, h => .inr h
 | x :: xs, l, h => by
  rcases mem_foldB xs _ h with h | h
  ·exact .inl (by simp [h])
  ·rcases mem_insB h with rfl | h
   ·exact .inl (by simp)
   ·exact .inr h
theorem mem_risB {y : ByteArray} {xs : List ByteArray} (h : y ∈ risB xs) : y ∈ xs := by
 rcases mem_foldB xs [] h with h | h
 ·exact h
 ·simp at h
theorem small_risB {xs : List ByteArray} {m : Nat} (h : SmallL xs m) : SmallL (risB xs) m := ⟨by rw [risB_len]; exact h.1, fun y hy => h.2 y (mem_risB hy)⟩
theorem small_risR {x : RuleS} {m : Nat} (h : SmallR x m) : SmallR (risR x) m := ⟨h.name, small_risB h.ins, small_risB h.outs, small_risB h.after, h.few, h.steps⟩
theorem mem_insR {x y : RuleS} {l : List RuleS} (h : y ∈ insR x l) : y = x ∨ y ∈ l := by
 unfold insR at h
 rcases List.mem_append.1 h with h | h
 ·rcases List.mem_append.1 h with h | h
  ·exact .inr (List.mem_of_mem_take h)
  ·exact .inl (by simpa using h)
 ·exact .inr (List.mem_of_mem_drop h)
theorem mem_foldR {y : RuleS} : ∀ (xs l : List RuleS), y ∈ xs.foldl (fun l x => insR (risR x) l) l → (∃ x ∈ xs, y = risR x) ∨ y ∈ l
 | [], l, h => .inr h
 | x :: xs, l, h => by
  rcases mem_foldR xs _ h with ⟨z, hz, e⟩ | h
  ·exact .inl ⟨z, by simp [hz], e⟩
  ·rcases mem_insR h with rfl | h
   ·exact .inl ⟨x, by simp, rfl⟩
   ·exact .inr h
theorem mem_sortQ {y : RuleS} {xs : List RuleS} (h : y ∈ sortQ xs) : ∃ x ∈ xs, y = risR x := by
 rcases mem_foldR xs [] h with h | h
 ·exact h
 ·simp at h

/-! ### A rule file's text -/
def filesQ (l : List RuleS) : List UInt8 := (l.map fun x => ruleQ (risR x)).flatten
def allQ (xs : List RuleS) : List UInt8 := filesQ (sortQ xs)
theorem filesQ_next {l : List RuleS} {k : Nat} {y : RuleS} (h : l[k]? = some y) : filesQ (l.take (k + 1)) = filesQ (l.take k) ++ ruleQ (risR y) := by
 unfold filesQ
 rw [List.take_add_one, h, List.map_append, List.flatten_append]
 simp
theorem filesQ_le (l : List RuleS) (k : Nat) : (filesQ (l.take k)).length ≤ (filesQ l).length := by
 conv => rhs; rw [← List.take_append_drop k l]
 unfold filesQ
 rw [List.map_append, List.flatten_append, List.length_append]
 omega

/-! ### How long it is -/
theorem clauseQ_len (key : List UInt8) (xs : List ByteArray) (n m : Nat) (h1 : xs.length ≤ n) (h2 : ∀ x ∈ xs, x.size ≤ m) : (clauseQ key xs).length ≤ key.length + 5 + n * (m + 2) := by
 have key2 : ∀ r : List ByteArray, (∀ x ∈ r, x.size ≤ m) → (Lib.joinTail [44, 32] (r.map (·.data.toList))).length ≤ r.length * (m + 2) := by
  intro r hr
  induction r with
  | nil => simp [Lib.joinTail]
  | cons x r ih =>
   have h3 := ih (fun y hy => hr y (by simp [hy]))
   have h4 := hr x (by simp)
   rw [Lib.size_eq] at h4
   simp only [Lib.joinTail, List.map_cons, List.flatten_cons, List.length_append, List.length_cons, List.length_nil, Nat.succ_mul] at h3 ⊢
   omega
 cases xs with
 | nil => simp [clauseQ]
 | cons x r =>
  have h3 := key2 r (fun y hy => h2 y (by simp [hy]))
  have h4 := h2 x (by simp)
  rw [Lib.size_eq] at h4
  have h5 : (r.length + 1) * (m + 2) ≤ n * (m + 2) := Nat.mul_le_mul_right _ (by simpa using h1)
  rw [Nat.succ_mul] at h5
  have h6 : clauseQ key (x :: r) = [32, 32] ++ key ++ [32] ++ x.data.toList ++ Lib.joinTail [44, 32] (r.map (·.data.toList)) ++ [59, 10] := by
   show partQ key x.data.toList (r.map (·.data.toList)) r.length ++ [59, 10] = _
   unfold partQ
   rw [List.take_of_length_le (by rw [List.length_map]; exact Nat.le_refl _)]
  rw [h6]
  simp only [List.length_append, List.length_cons, List.length_nil]
  omega
theorem argsQ_len (xs : List ByteArray) (n m : Nat) (h1 : xs.length ≤ n) (h2 : ∀ x ∈ xs, x.size ≤ m) : (argsQ xs).length ≤ n * (m + 1) := by
 have : (argsQ xs).length ≤ xs.length * (m + 1) := by
  clear h1
  induction xs with
  | nil => simp [argsQ]
  | cons x r ih =>
   have h3 := ih (fun y hy => h2 y (by simp [hy]))
   have h4 := h2 x (by simp)
   rw [Lib.size_eq] at h4
   simp only [argsQ, List.map_cons, List.flatten_cons, List.length_append, List.length_cons, Nat.succ_mul] at h3 ⊢
   omega
 exact Nat.le_trans this (Nat.mul_le_mul_right _ h1)
theorem litsQ_len (xs : List ByteArray) (n m : Nat) (h1 : xs.length ≤ n) (h2 : ∀ x ∈ xs, x.size ≤ m) : (litsQ xs).length ≤ n * (4 * m + 3) := by
 have : (litsQ xs).length ≤ xs.length * (4 * m + 3) := by
  clear h1
  induction xs with
  | nil => simp [litsQ]
  | cons x r ih =>
   have h3 := ih (fun y hy => h2 y (by simp [hy]))
   have h4 := h2 x (by simp)
   rw [Lib.size_eq] at h4
   have h5 := quote_len x.data.toList
   simp only [litsQ, List.map_cons, List.flatten_cons, List.length_append, List.length_cons, Nat.succ_mul] at h3 ⊢
   omega
 exact Nat.le_trans this (Nat.mul_le_mul_right _ h1)
/-- Lists that are short enough. -/
structure ShortR (x : RuleS) : Prop where
 ins : x.ins.length ≤ 10
 outs : x.outs.length ≤ 6
 after : x.after.length ≤ 10
 steps : x.steps.length ≤ 14
 each : ∀ y ∈ x.steps, y.args.length ≤ 8 ∧ y.lits.length ≤ 3
theorem short_cutR (x : RuleS) : ShortR (cutR x) :=
 ⟨by show (x.ins.take 10).length ≤ 10; rw [List.length_take]; omega, by show (x.outs.take 6).length ≤ 6; rw [List.length_take]; omega, by show (x.after.take 10).length ≤ 10; rw [List.length_take]; omega,
  by show ((x.steps.take 14).map cutS).length ≤ 14; rw [List.length_map, List.length_take]; omega, fun y hy => by
   obtain ⟨z, hz, rfl⟩ := List.mem_map.1 (show y ∈ (x.steps.take 14).map cutS from hy)
   exact ⟨by show (z.args.take 8).length ≤ 8; rw [List.length_take]; omega, by show (z.lits.take 3).length ≤ 3; rw [List.length_take]; omega⟩⟩
theorem small_cutR {x : RuleS} {m : Nat} (h : SmallR x m) : SmallR (cutR x) m := by
 have tk : ∀ {l : List ByteArray} (k : Nat), SmallL l m → SmallL (l.take k) m := fun k h => ⟨by rw [List.length_take]; have := h.1; omega, fun z hz => h.2 z (List.mem_of_mem_take hz)⟩
 exact ⟨h.name, tk 10 h.ins, tk 6 h.outs, tk 10 h.after, by show ((x.steps.take 14).map cutS).length ≤ m; rw [List.length_map, List.length_take]; have := h.few; omega, fun y hy => by
  obtain ⟨z, hz, rfl⟩ := List.mem_map.1 (show y ∈ (x.steps.take 14).map cutS from hy)
  have := h.steps z (List.mem_of_mem_take hz)
  exact ⟨this.out, tk 8 this.args, tk 3 this.lits, this.op, this.n⟩⟩
theorem short_risR {x : RuleS} (h : ShortR x) : ShortR (risR x) := ⟨by show (risB x.ins).length ≤ 10; rw [risB_len]; exact h.ins, by show (risB x.outs).length ≤ 6; rw [risB_len]; exact h.outs, by show (risB x.after).length ≤ 10; rw [risB_len]; exact h.after, h.steps, h.each⟩
theorem stepQ_len {y : StepS} (h : SmallS y 1048576) (h1 : y.args.length ≤ 8) (h2 : y.lits.length ≤ 3) : (stepQ y).length ≤ 30000000 := by
 have h3 := argsQ_len y.args 8 1048576 h1 h.args.2
 have h4 := litsQ_len y.lits 3 1048576 h2 h.lits.2
 have h5 := opTx_len y.op
 have h6 := h.out
 have h7 := numQ_size y.n h.n
 rw [Lib.size_eq] at h6 h7
 unfold stepQ headQ
 simp only [List.length_append, List.length_cons, List.length_nil]
 split
 ·simp only [List.length_cons]; omega
 ·simp only [List.length_nil]; omega
theorem ruleQ_len {x : RuleS} (h : SmallR x 1048576) (hs : ShortR x) : (ruleQ x).length ≤ 1000000000 := by
 have h1 := clauseQ_len [105, 110] x.ins 10 1048576 hs.ins h.ins.2
 have h2 := clauseQ_len [111, 117, 116] x.outs 6 1048576 hs.outs h.outs.2
 have h3 := clauseQ_len [97, 102, 116, 101, 114] x.after 10 1048576 hs.after h.after.2
 have h4 : ∀ l : List StepS, (∀ y ∈ l, SmallS y 1048576 ∧ y.args.length ≤ 8 ∧ y.lits.length ≤ 3) → (stepsQ l).length ≤ l.length * 30000003 := by
  intro l hl
  induction l with
  | nil => simp [stepsQ]
  | cons y l ih =>
   have h5 := ih (fun z hz => hl z (by simp [hz]))
   obtain ⟨k1, k2, k3⟩ := hl y (by simp)
   have h6 := stepQ_len k1 k2 k3
   simp only [stepsQ, stepLnQ, List.map_cons, List.flatten_cons, List.length_append, List.length_cons, List.length_nil, Nat.succ_mul] at h5 ⊢
   omega
 have h5 := h4 x.steps (fun y hy => ⟨h.steps y hy, hs.each y hy⟩)
 have h6 := hs.steps
 have h7 := h.name
 rw [Lib.size_eq] at h7
 unfold ruleQ upQ headQR
 simp only [List.length_append, List.length_cons, List.length_nil] at h1 h2 h3 ⊢
 omega
theorem filesQ_len : ∀ (l : List RuleS), (∀ x ∈ l, SmallR x 1048576 ∧ ShortR x) → (filesQ l).length ≤ l.length * 1000000000
 | [], _ => by simp [filesQ]
 | x :: l, h => by
  have h1 := filesQ_len l (fun y hy => h y (by simp [hy]))
  have h2 := h x (by simp)
  have h3 := ruleQ_len (small_risR h2.1) (short_risR h2.2)
  simp only [filesQ, List.map_cons, List.flatten_cons, List.length_append, List.length_cons, Nat.succ_mul] at h1 ⊢
  omega
theorem allQ_len (xs : List RuleS) (hn : xs.length ≤ 100) (h : ∀ x ∈ xs, SmallR x 1048576 ∧ ShortR x) : (allQ xs).length ≤ 1000000000000 := by
 have h1 := filesQ_len (sortQ xs) (fun y hy => by
  obtain ⟨x, hx, rfl⟩ := mem_sortQ hy
  exact ⟨small_risR (h x hx).1, short_risR (h x hx).2⟩)
 rw [sortQ_len] at h1
 unfold allQ
 omega
end Go.Proofs.YtlmnabhhgplhnaaGreatDoor
