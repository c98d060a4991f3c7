import Derived.RangeFuncWrites
import Derived.RangeFuncLeaves
import Derived.RangeFuncBox
import Derived.OwnWalkIn
import Derived.OrdersIn
import Derived.RangeFuncNested
import Derived.RangeFuncBound
import Derived.RangeFuncCalls
import Derived.Shelf.Abstract
import Derived.Shelf.RegionOpen
import Derived.WalkKit
import Derived.TacticsInMore
import Derived.LoopNIn
import Derived.LoopIn
import Derived.Maps.AppendAt
import Derived.Shelf.Small.Strs
import Derived.Test.YtdhmeganlnpohaaGreatDoorLays
import Derived.Test.YtdhmeganlnpohaaGreatDoorMav
namespace Go.Proofs.YtdhmeganlnpohaaGreatDoor
open Go.RowKit
variable {F : Fence} {n : Nat} {P : Program}
def SeqAll {α : Type} (F : Fence) (n : Nat) (P : Program) (g : Nat) (lb : Array Value) (encs : α → Array Value) (R Kp : World → World → Prop) (xs : List α) (w : World) : Prop :=
 ∀ (l : Nat) (J : List α → World → Prop) (W : World), Below w.heap.size w W → (∀ s A B, J s A → R A B → J s B) →
  (∀ (pre : List α) (x : α) (post : List α) (W1 : World), xs = pre ++ x :: post → J pre W1 → YieldAt F (n - 1) P l (encs x) W1 fun e W' => e = .returned (.bool true) ∧ J (pre ++ [x]) W' ∧ Kp W1 W') →
  J [] W → CallsIn F n P g (#[.func (.yield l) #[] #[]] ++ lb) W fun e W' => (∃ v, e = .returned v) ∧ J xs W'
def goesOn (B : Nat) (Kp : World → World → Prop) (I : World → Prop) (W : World) : Exit → Act → World → Prop
 | .normal, _, W' => KeepsFrom B W W' ∧ Kp W W' ∧ I W'
 | _, _, _ => False
theorem KeepsFrom.at {B l : Nat} {o : Obj} {W W' : World} (h : KeepsFrom B W W') (hB : B ≤ l) (hl : W.heap[l]? = some o) (ho : o.isCells = false) : W'.heap[l]? = some o := h.same l o hB hl ho
theorem wpIn_rangeAllX {α : Type} {g : Operand} {ps : Array Tmp} {assign body : Code} {Q : Exit → Act → World → Prop} {a : Act} {w : World}
  (hro : F.round = none) (h1 : 1 ≤ n) {gf : Nat} {lb : Array Value} (hg : a.eval g = .func (.func gf) #[] lb) (hFg : F.fn gf) (eg : ∀ args w, (callFunc gf args).run P w = .ok (.enter gf args) w)
  {encs : α → Array Value} {R Kp : World → World → Prop} {xs : List α} {w0 : World} (hseq : SeqAll F (n - 1) P gf lb encs R Kp xs w0) (hb0 : Below w0.heap.size w0 w) (hps : ∀ x, (encs x).size = ps.size)
  (hR : ∀ A B, R A B → KeepsOthers A B) (hKt : ∀ A B C, Kp A B → Kp B C → Kp A C)
  (hKb : ∀ (W : World) (l : Nat) (o o' : Obj), w.heap.size ≤ l → W.heap[l]? = some o → o.isCells = false → o.isWalk = false → Kp W (W.putObj l o'))
  (I : List α → World → Prop) (hIR : ∀ s A B, I s A → R A B → I s B) (hI : OwnFrom w.heap.size I) (h0 : I [] w) (Ax : α → Act → World → Prop)
  (hAx : ∀ (x : α) (a' : Act) (W : World) (l : Nat) (o o' : Obj), Ax x a' W → w.heap.size ≤ l → W.heap[l]? = some o → o.isCells = false → Ax x a' (W.putObj l o'))
  (hassign : ∀ (l : Nat) (pre : List α) (x : α) (post : List α) (W : World) (K : Act → World → Prop), xs = pre ++ x :: post → I pre W → (∀ (a' : Act) (W' : World), KeepsFrom w.heap.size W W' → Kp W W' → I pre W' → Ax x a' W' → K a' W') →
   assign.wpIn (F.inRound l) (n - 1 - 1) P (Exit.then K (fun _ _ _ => False)) { tmps := (ps.zip (encs x)).foldl (fun t (p, v) => t.setIfInBounds p v) a.tmps, defers := [] } W)
  (hbody : ∀ (l : Nat) (pre : List α) (x : α) (post : List α) (a' : Act) (W : World), xs = pre ++ x :: post → I pre W → Ax x a' W → body.wpIn (F.inRound l) (n - 1 - 1) P (goesOn w.heap.size Kp (I (pre ++ [x])) W) a' W)
  (hdone : ∀ (D : Nat) (W : World), w.heap.size ≤ D → I xs W → W.heap[D]? = some (.deferred (some [])) → Q .normal { a with defers := { target := .collected D, args := #[] } :: a.defers } W) :
  (Code.rangeFunc g ps assign body).wpIn F n P Q a w := by
 refine wpIn_rangeFunc fun fn hfn => ?_
 rw [hro]
 let D := w.heap.size
 let L := w.heap.size + 1
 let rec' : LoopState → Loop := fun st => { state := st, pending := none, fn, tmps := a.tmps, params := ps, assign, body, defers := D }
 obtain ⟨V, hV⟩ : ∃ V, (w.alloc (.deferred (some []))).alloc (.loop (rec' .ready)) = V := ⟨_, rfl⟩
 have hVL : V.heap[L]? = some (.loop (rec' .ready)) := by
  have := World.alloc_heap_new (w.alloc (.deferred (some []))) (.loop (rec' .ready))
  rw [World.size_alloc] at this
  rw [← hV]; exact this
 have hVD : V.heap[D]? = some (.deferred (some [])) := by
  rw [← hV]; exact (Below.heap_alloc _ _ _ (by simp [D])).trans (World.alloc_heap_new w _)
 have hVI : I [] V := by rw [← hV]; exact hI.alloc _ (hI.alloc _ h0)
 have hVb : Below w0.heap.size w0 V := by
  rw [← hV]; exact hb0.trans ((((Below.refl _ w).alloc (Nat.le_refl _) _).alloc (by simp) _).mono hb0.size)
 have hput : ∀ {s : List α} {W : World} {o o' : Obj}, I s W → W.heap[L]? = some o → o.isCells = false → I s (W.putObj L o') := fun hi hl ho => hI.putObj _ hi (by simp [L]) hl ho
 refine ⟨L, [{ target := .collected D, args := #[] }], V, { target := .fn (.func gf) lb, args := #[.func (.yield L) #[] #[]] }, V, gf, #[.func (.yield L) #[] #[]] ++ lb, V, ?_, ?_, ?_, ?_, fun _ => h1, ?_⟩
 ·rw [← hV]; exact run_enterLoop_outer _ _ _ _ _
 ·simp only [resolve, hg]
  simp [go_sem]
 ·intro f' hf'; simp [Target.leads] at hf'; subst hf'; exact hFg
 ·simp [invoke, go_sem, eg]
 refine (hseq L (fun s W => I s W ∧ W.heap[L]? = some (.loop (rec' .ready)) ∧ W.heap[D]? = some (.deferred (some []))) V hVb ?_ ?_ ⟨hVI, hVL, hVD⟩).mono ?_
 ·rintro s A B ⟨hi, hl, hd⟩ hr
  exact ⟨hIR s A B hi hr, (hR A B hr).same _ _ hl rfl, (hR A B hr).same _ _ hd rfl⟩
 ·rintro pre x post W0 hx ⟨hi0, hl0, hd0⟩
  refine ⟨fn, _, assign, body, run_yield hl0 (hps x), roundIn_of_wpIn hfn (hassign L pre x post W0 _ hx hi0 fun a' W hkA hkpA hi hax => ?_)⟩
  have hl := KeepsFrom.at hkA (by simp [L]) hl0 rfl
  have hd := KeepsFrom.at hkA (by simp [D]) hd0 rfl
  have hlt : L < W.heap.size := (Array.getElem?_eq_some_iff.1 hl).1
  obtain ⟨U, hU⟩ : ∃ U, W.putObj L (.loop (rec' .busy)) = U := ⟨_, rfl⟩
  have hUL : U.heap[L]? = some (.loop (rec' .busy)) := by rw [← hU]; exact World.putObj_heap_same hlt
  have hUD : U.heap[D]? = some (.deferred (some [])) := by rw [← hU]; exact (World.putObj_heap_other (by simp [L, D])).trans hd
  have hUI : I pre U := by rw [← hU]; exact hput hi hl rfl
  have hUA : Ax x a' U := by rw [← hU]; exact hAx _ _ _ _ _ _ hax (by simp [L]) hl rfl
  have hUK : Kp W0 U := by rw [← hU]; exact hKt _ _ _ hkpA (hKb _ _ _ _ (by simp [L]) hl rfl rfl)
  refine ⟨U, by rw [← hU]; exact run_beginRound hl rfl, wpIn_mono (hbody L pre x post a' U hx hUI hUA) ?_⟩
  rintro e a3 W3 hp
  cases e with
  | normal =>
   obtain ⟨hk, hkp, hi3⟩ := hp
   have h3L := KeepsFrom.at hk (by simp [L]) hUL rfl
   have h3D := KeepsFrom.at hk (by simp [D]) hUD rfl
   exact ⟨_, _, run_endRound none h3L, rfl, ⟨hput hi3 h3L rfl, World.putObj_heap_same (Array.getElem?_eq_some_iff.1 h3L).1, (World.putObj_heap_other (by simp [L, D])).trans h3D⟩, hKt _ _ _ (hKt _ _ _ hUK hkp) (hKb _ _ _ _ (by simp [L]) h3L rfl rfl)⟩
  | ret => exact hp.elim
  | exit id => exact hp.elim
  | goto t => exact hp.elim
  | panic ch => exact hp.elim
  | outgrown => exact hp.elim
 ·rintro e W2 ⟨⟨v, rfl⟩, hi, hl, hd⟩
  exact ⟨none, _, run_endLoop hl (by simp [rec']), hdone D _ (Nat.le_refl _) (hput hi hl rfl) ((World.putObj_heap_other (by simp [L, D])).trans hd)⟩
theorem wpIn_rangeAll {α : Type} {g : Operand} {ps : Array Tmp} {assign body : Code} {Q : Exit → Act → World → Prop} {a : Act} {w : World}
  (hro : F.round = none) (h1 : 1 ≤ n) {gf : Nat} {lb : Array Value} (hg : a.eval g = .func (.func gf) #[] lb) (hFg : F.fn gf) (eg : ∀ args w, (callFunc gf args).run P w = .ok (.enter gf args) w)
  {encs : α → Array Value} {R Kp : World → World → Prop} {xs : List α} {w0 : World} (hseq : SeqAll F (n - 1) P gf lb encs R Kp xs w0) (hb0 : Below w0.heap.size w0 w) (hps : ∀ x, (encs x).size = ps.size)
  (hR : ∀ A B, R A B → KeepsOthers A B) (hKr : ∀ A, Kp A A) (hKt : ∀ A B C, Kp A B → Kp B C → Kp A C)
  (hKb : ∀ (W : World) (l : Nat) (o o' : Obj), w.heap.size ≤ l → W.heap[l]? = some o → o.isCells = false → o.isWalk = false → Kp W (W.putObj l o'))
  (I : List α → World → Prop) (hIR : ∀ s A B, I s A → R A B → I s B) (hI : OwnFrom w.heap.size I) (h0 : I [] w) (a₁ : α → Act)
  (hassign : ∀ (l : Nat) (x : α) (W : World) (K : Act → World → Prop), K (a₁ x) W →
   assign.wpIn (F.inRound l) (n - 1 - 1) P (Exit.then K (fun _ _ _ => False)) { tmps := (ps.zip (encs x)).foldl (fun t (p, v) => t.setIfInBounds p v) a.tmps, defers := [] } W)
  (hbody : ∀ (l : Nat) (pre : List α) (x : α) (post : List α) (W : World), xs = pre ++ x :: post → I pre W → body.wpIn (F.inRound l) (n - 1 - 1) P (goesOn w.heap.size Kp (I (pre ++ [x])) W) (a₁ x) W)
  (hdone : ∀ (D : Nat) (W : World), w.heap.size ≤ D → I xs W → W.heap[D]? = some (.deferred (some [])) → Q .normal { a with defers := { target := .collected D, args := #[] } :: a.defers } W) :
  (Code.rangeFunc g ps assign body).wpIn F n P Q a w :=
 wpIn_rangeAllX hro h1 hg hFg eg hseq hb0 hps hR hKt hKb I hIR hI h0 (fun x a' _ => a' = a₁ x) (fun _ _ _ _ _ _ h _ _ _ => h)
  (fun l _ x _ W K _ hi hk => hassign l x W K (hk _ _ (KeepsFrom.refl _ _) (hKr W) hi rfl))
  (fun l pre x post a' W hx hi ha => by subst ha; exact hbody l pre x post W hx hi) hdone
theorem boxed_app {W w1 : World} {n₀ B : Nat} {t e : TypeId} {size : Nat} {v v' : Value} {k m : Nat} {xs ys : List Value} {tmp : Obj}
  (hv : Boxed W B t v) (hrow : W.ownsRow n₀ e size v k xs) (hB : B < n₀) (hn : n₀ ≤ W.heap.size) (hown : w1.ownsRow n₀ e size v' m ys) (hg : (W.alloc tmp).grownBy w1 v.ownBlock) :
  Boxed w1 B t v ∧ Boxed (w1.setCell ⟨B, 0, none⟩ v') B t v' ∧ (w1.setCell ⟨B, 0, none⟩ v').ownsRow n₀ e size v' m ys ∧ KeepsOthers W (w1.setCell ⟨B, 0, none⟩ v') ∧ Below B W (w1.setCell ⟨B, 0, none⟩ v') ∧
   ∀ j, j < n₀ → j ≠ B → (w1.setCell ⟨B, 0, none⟩ v').heap[j]? = W.heap[j]? := by
 have far : ∀ {X : World} {u : Value} {i : Nat} {zs : List Value}, X.ownsRow n₀ e size u i zs → ∀ j, u.ownBlock = some j → n₀ ≤ j := by
  intro X u i zs h j hj
  rcases h.2 with ⟨rfl, _⟩ | ⟨g, cap, cur, rfl, hb, _⟩
  ·simp [Value.ownBlock] at hj
  ·obtain rfl : g = j := by simpa [Value.ownBlock] using hj
   exact hb
 have hv1 : Boxed w1 B t v := (hv.alloc tmp).kept hg fun e' => by have := far hrow B e'.symm; omega
 have hsame : ∀ j, j < n₀ → w1.heap[j]? = W.heap[j]? := fun j hj => (hg.block j (by simp; omega) fun e' => by have := far hrow j e'.symm; omega).trans (Below.heap_alloc W tmp j (by omega))
 refine ⟨hv1, hv1.set v', hown.kept (grownBy_setCell' w1 B v') ?_, ?_, ?_, fun j hj hjB => (Below.heap_setCell w1 _ _ j hjB).trans (hsame j hj)⟩
 ·cases ho : v'.ownBlock with
  | none => exact .inl rfl
  | some j => exact .inr fun e' => by have := far hown j ho; simp at e'; omega
 ·refine ((KeepsOthers.alloc W tmp).trans (KeepsOthers.of_grownBy hg fun j o ej hj => ?_)).trans (KeepsOthers.setCell _ _ _)
  rcases (hrow.alloc tmp).2 with ⟨rfl, _⟩ | ⟨g, cap, cur, rfl, _, hgb, _⟩
  ·simp [Value.ownBlock] at ej
  ·obtain rfl : g = j := by simpa [Value.ownBlock] using ej
   rw [hgb] at hj; cases hj; rfl
 ·exact (((Below.refl B W).alloc (by omega) tmp).grown hg (by simp; omega) fun j ej => by have := far hrow j ej; omega).setCell (p := ⟨B, 0, none⟩) (Nat.le_refl _) v'
theorem stepIn_append_own {ops : Array Oper} {o : Oper} {a : Act} {w : World} {K : Act → World → Prop} {Q : Exit → Act → World → Prop} {E : Prop} (hgd : o.guard = none) (s x : Operand) (t : TypeId)
  (ho : o.op = .call { callee := .builtin .append, args := #[s, x], argTypes := #[t, t] })
  (base : Nat) (e : TypeId) (i : TypeInfo) (z : Value) (size bytes : Nat) (ht : P.underlying t = some (.slice e)) (hi : P.info? e = some i) (hz : i.zero = some z)
  (hsize : i.size = size) (hby : i.bytes = bytes) (hzs : z.cells.size = size) (hsz : 0 < size)
  (v : Value) (k : Nat) (xs : List Value) (hs : a.eval s = v) (hown : w.ownsRow base e size v k xs)
  (ad : Addr) (m c : Nat) (news : List Value) (hx : a.eval x = .slice (some ad) m c) (hl : news.length = m * size) (hnews : ∀ j u, news[j]? = some u → w.cell? (ad.add j) = some u) (h1 : ∀ u ∈ news, u.oneCell' = true)
  (h63 : k + m ≤ maxLen) (hbytes : (k + m) * bytes ≤ 140737488355328) (hbase : base ≤ w.heap.size)
  (h : ∀ v' w', w'.ownsRow base e size v' (k + m) (xs ++ news) → w.grownBy w' v.ownBlock → (v' = .slice none 0 0 ↔ v = .slice none 0 0 ∧ m = 0) → K (a.put o.dst v') w') :
  if Region.wanted o (yielded ops a.tmps) = true then Oper.wpIn F n P o a w K Q else E := by
 rw [if_pos (by simp [Region.wanted, hgd])]
 obtain ⟨v', w', hr, r1, r2, r3⟩ := run_append_own (P := P) w base t o.type e i z size bytes ht hi hz hsize hby hzs hsz v k xs hown ad m c news hl hnews h1 h63 hbytes hbase
 unfold Oper.wpIn
 refine ⟨by simp [Oper.about, ho, resolve, Target.leads, Sem.run_pure], ?_⟩
 rw [Oper.semAt_plain F _ _ (by rw [ho]; intro c hc; cases hc)]
 simp [execOp, ho, resolve, invoke, builtin, hs, hx, hr, Result.andThen]
 exact h v' w' r1 r2 r3
end Go.Proofs.YtdhmeganlnpohaaGreatDoor
namespace Go.Proofs.YtdhmeganlnpohaaGreatDoor
open Go.RowKit Go.Shelf
def rawA : List UInt8 → List UInt8 → List (List UInt8)
 | acc, [] => if acc = [] then [] else [acc]
 | acc, c :: r => if c = 10 then (acc ++ [10]) :: rawA [] r else rawA (acc ++ [c]) r
def rawL (s : List UInt8) : List (List UInt8) := rawA [] s
theorem rawA_hit : ∀ (a acc b : List UInt8), (10 : UInt8) ∉ a → rawA acc (a ++ 10 :: b) = (acc ++ a ++ [10]) :: rawL b
 | [], acc, b, _ => by simp [rawA, rawL]
 | c :: a, acc, b, h => by
  have hc : c ≠ 10 := fun e => h (by simp [e])
  have ha : (10 : UInt8) ∉ a := fun e => h (by simp [e])
  rw [List.cons_append, rawA, if_neg hc, rawA_hit a (acc ++ [c]) b ha]
  simp
theorem rawA_miss : ∀ (s acc : List UInt8), (10 : UInt8) ∉ s → rawA acc s = if acc ++ s = [] then [] else [acc ++ s]
 | [], acc, _ => by simp [rawA]
 | c :: a, acc, h => by
  have hc : c ≠ 10 := fun e => h (by simp [e])
  have ha : (10 : UInt8) ∉ a := fun e => h (by simp [e])
  rw [rawA, if_neg hc, rawA_miss a (acc ++ [c]) ha]
  simp
theorem rawL_hit {a b : List UInt8} (h : (10 : UInt8) ∉ a) : rawL (a ++ 10 :: b) = (a ++ [10]) :: rawL b := by
 unfold rawL; rw [rawA_hit a [] b h]; simp [rawL]
theorem rawL_miss {s : List UInt8} (h : (10 : UInt8) ∉ s) (hn : s ≠ []) : rawL s = [s] := by
 unfold rawL; rw [rawA_miss s [] h]; simp [hn]
theorem raw_lines (s : List UInt8) : (rawL s).map (fun x => Lib.trimSuffix x [10]) = linesL s := by
 induction s using lines_ind with
 | h0 => rfl
 | h1 s h hn =>
  rw [rawL_miss h hn, linesL_miss h hn]
  have : Lib.hasSuffix s [10] = false := by
   rw [Bool.eq_false_iff]
   intro e
   unfold Lib.hasSuffix at e
   obtain ⟨t, ht⟩ := List.isSuffixOf_iff_suffix.1 e
   exact h (by rw [← ht]; simp)
  simp [Lib.trimSuffix, this]
 | h2 a b h ih =>
  rw [rawL_hit h, linesL_hit h, List.map_cons, ih]
  have : Lib.hasSuffix (a ++ [10]) [10] = true := by
   unfold Lib.hasSuffix
   exact List.isSuffixOf_iff_suffix.2 ⟨a, rfl⟩
  simp [Lib.trimSuffix, this]
structure Rs (sb : Nat) (A B : World) : Prop where
 os : B.os = A.os
 tape : B.tape = A.tape
 output : B.output = A.output
 size : B.heap.size = A.heap.size
 same : ∀ k, k ≠ sb → B.heap[k]? = A.heap[k]?
 kind : ∀ o, A.heap[sb]? = some o → o.isCells = false → B.heap[sb]? = some o
theorem Rs.keeps {sb : Nat} {A B : World} (h : Rs sb A B) : KeepsOthers A B := ⟨Nat.le_of_eq h.size.symm, fun k o hk ho => by
 by_cases e : k = sb
 ·subst e; exact h.kind o hk ho
 ·exact (h.same k e).trans hk⟩
theorem Rs.below {n₀ sb : Nat} {W A B : World} (h : Rs sb A B) (hb : Below n₀ W A) (hs : n₀ ≤ sb) : Below n₀ W B :=
 ⟨h.os.trans hb.os, h.tape.trans hb.tape, h.output.trans hb.output, by rw [h.size]; exact hb.size, fun k hk => (h.same k (by omega)).trans (hb.block k hk)⟩
theorem ixb_hit (a b : List UInt8) (h : (10 : UInt8) ∉ a) : Lib.indexByte (a ++ 10 :: b) 10 = (a.length : Int) := by
 induction a with
 | nil => rfl
 | cons c a ih =>
  have hc : (c == 10) = false := by simpa using fun e : c = 10 => h (by simp [e])
  have ha : (10 : UInt8) ∉ a := fun e => h (by simp [e])
  have := ih ha
  show (if c == 10 then (0 : Int) else if Lib.indexByte (a ++ 10 :: b) 10 == -1 then -1 else Lib.indexByte (a ++ 10 :: b) 10 + 1) = _
  rw [hc, this]
  simp
theorem ixb_miss (a : List UInt8) (h : (10 : UInt8) ∉ a) : Lib.indexByte a 10 = -1 := by
 induction a with
 | nil => rfl
 | cons c a ih =>
  have hc : (c == 10) = false := by simpa using fun e : c = 10 => h (by simp [e])
  have ha : (10 : UInt8) ∉ a := fun e => h (by simp [e])
  show (if c == 10 then (0 : Int) else if Lib.indexByte a 10 == -1 then -1 else Lib.indexByte a 10 + 1) = _
  rw [hc, ih ha]
  rfl
def rawB (s : ByteArray) : List ByteArray := (rawL s.data.toList).map fun x => ⟨x.toArray⟩
def boxText (W : World) (b : Nat) : Nat := match W.cell? ⟨b, 0, none⟩ with | some (.string s) => s.size | _ => 0
theorem boxText_eq {W : World} {b : Nat} {t : TypeId} {s : ByteArray} (h : Boxed W b t (.string s)) : boxText W b = s.size := by unfold boxText; rw [h.cell]
theorem rawB_nil {s : ByteArray} (h : s.size = 0) : rawB s = [] := by
 have : s.data.toList = [] := List.eq_nil_of_length_eq_zero h
 unfold rawB; rw [this]; rfl
theorem rawB_next (s : ByteArray) (h : s.size ≠ 0) : (Lib.indexByte s.data.toList 10 = -1 ∧ rawB s = [s]) ∨ ∃ k : Nat, Lib.indexByte s.data.toList 10 = (k : Int) ∧ k < s.size ∧ rawB s = s.extract 0 (k + 1) :: rawB (s.extract (k + 1) s.size) := by
 have hl : s.data.toList ≠ [] := fun e => h (by show s.data.size = 0; rw [← Array.length_toList, e]; rfl)
 rcases first_of 10 s.data.toList with hm | ⟨a, b, e, ha⟩
 ·left
  refine ⟨ixb_miss _ hm, ?_⟩
  unfold rawB
  rw [rawL_miss hm hl]
  simp
 ·right
  have hsz : s.size = a.length + 1 + b.length := by show s.data.size = _; rw [← Array.length_toList, e]; simp; omega
  refine ⟨a.length, by rw [e]; exact ixb_hit a b ha, by omega, ?_⟩
  have e1 : (s.extract 0 (a.length + 1)).data.toList = a ++ [10] := by
   rw [ByteArray.data_extract, Array.toList_extract, List.extract_eq_take_drop, e, List.drop_zero, Nat.sub_zero, show a ++ 10 :: b = (a ++ [10]) ++ b by simp]
   exact List.take_left' (by simp)
  have e2 : (s.extract (a.length + 1) s.size).data.toList = b := by
   rw [ByteArray.data_extract, Array.toList_extract, List.extract_eq_take_drop, e, hsz, show a ++ 10 :: b = (a ++ [10]) ++ b by simp, List.drop_left' (by simp)]
   exact List.take_of_length_le (by omega)
  unfold rawB
  rw [e2, e, rawL_hit ha, List.map_cons]
  congr 1
  refine ByteArray.ext ?_
  refine Array.ext' ?_
  rw [e1]
def KeepAt (b : Nat) (A B : World) : Prop := B.heap[b]? = A.heap[b]?
theorem keepAt_put {b : Nat} {w : World} (h : b < w.heap.size) (W : World) (l : Nat) (o o' : Obj) (hl : w.heap.size ≤ l) (_ : W.heap[l]? = some o) (_ : o.isCells = false) (_ : o.isWalk = false) : KeepAt b W (W.putObj l o') := World.putObj_heap_other (by omega)
theorem rs_set {W : World} {sb : Nat} {t : TypeId} {u : Value} (h : Boxed W sb t u) (n : Nat) (v : Value) : Rs sb W ((W.drewN n).setCell ⟨sb, 0, none⟩ v) :=
 ⟨rfl, rfl, rfl, by simp [World.setCell, World.drewN], fun k hk => Below.heap_setCell (W.drewN n) _ _ _ hk, fun o ho hc => by
  have : some o = some (Obj.cells #[u] t (0, 0)) := ho.symm.trans h
  cases this
  cases hc⟩
section
attribute [local go_sem] Oper.semAt_some
set_option maxRecDepth 100000
set_option maxHeartbeats 4000000
theorem lines_all (n : Nat) (hn : 1 ≤ n) (sb : Nat) (s0 : ByteArray) (w : World) (hb : Boxed w sb 9 (.string s0)) (hs0 : s0.size ≤ 1000000000) :
  SeqAll Fence.wide n Tryz.prog 84 #[.pointer (some ⟨sb, 0, none⟩)] (fun x : ByteArray => #[.string x]) (Rs sb) (KeepAt sb) (rawB s0) w := by
 intro l J W hW hJ hY h0
 have hbW : Boxed W sb 9 (.string s0) := (hW.block sb hb.lt).trans hb
 clear hb hW
 show CallsIn Fence.wide n Tryz.prog 84 #[.func (.yield l) #[] #[], .pointer (some ⟨sb, 0, none⟩)] W _
 refine callsIn_of_wp Tryz.func84 rfl trivial ?_ rfl
 simp only [Tryz.ntmps84, List.size_toArray, List.length_cons, List.length_nil, Nat.reduceAdd, Nat.reduceSub, Array.replicate_succ, Array.replicate_zero, List.push_toArray, List.append_toArray, List.nil_append, List.cons_append]
 gi_wp2
 gi_loopw [] (fun wr => ∃ (pre : List ByteArray) (s : ByteArray), rawB s0 = pre ++ rawB s ∧ Boxed wr sb 9 (.string s) ∧ s.size ≤ 1000000000 ∧ J pre wr) (fun wr => boxText wr sb)
 case atStart => exact ⟨[], s0, rfl, hbW, hs0, h0⟩
 case round =>
  obtain ⟨pre, s, hx, hbx, hsm, hJs⟩ := hrel
  have hc := hbx.cell
  have hf := hbx.frozen
  by_cases hz : s.size = 0
  ·have hx' : rawB s0 = pre := by rw [hx, rawB_nil hz, List.append_nil]
   have hpos : ¬ (0 : Int) < (s.size : Int) := by omega
   have HX := Lib.hid hx'
   have HJ := Lib.hid hJs
   clear hx hx' hJ hY h0 hJs
   gi_wp2
   go_end0
   exact ⟨⟨_, rfl⟩, by rw [HX.out]; exact HJ.out⟩
  ·have hpos : (0 : Int) < (s.size : Int) := by omega
   have hI : ∀ F', CallsIn Fence.wide F' Tryz.prog 85 #[.string s, .int .u8 10] wr fun e w' => e = .returned (.int .i64 (Lib.indexByte s.data.toList 10)) ∧ w' = wr := fun F' => (callsIn_wide (n := F')).2 (Any.strings_IndexByte lLays_n137 s 10 wr)
   rcases rawB_next s hz with ⟨e1, e2⟩ | ⟨k, e1, hk, e2⟩
   ·rw [e1] at hI
    have hb1 : Boxed (wr.setCell ⟨sb, 0, none⟩ (.string ⟨#[]⟩)) sb 9 (.string ⟨#[]⟩) := hbx.set _
    obtain ⟨fn, tmps, assign, body, hy, hR⟩ := hY pre s [] (wr.setCell ⟨sb, 0, none⟩ (.string ⟨#[]⟩)) (by rw [hx, e2]) (hJ _ _ _ hJs (rs_set hbx 0 _))
    have HX := Lib.hid (show rawB s0 = (pre ++ [s]) ++ rawB ⟨#[]⟩ by rw [hx, e2, rawB_nil rfl, List.append_nil])
    clear hx e1 e2 hJ hY h0 hJs
    gi_wp2_with (refine ⟨trivial, ?_⟩; gi_at_call 85; refine (hI _).mono ?_; rintro e w' ⟨rfl, rfl⟩)
    refine hR.mono ?_
    rintro e W3 ⟨rfl, hJ3, hk3⟩
    have hb3 : Boxed W3 sb 9 (.string ⟨#[]⟩) := hk3.trans hb1
    gi_wp2
    go_roundw
    case rel => exact ⟨pre ++ [s], ⟨#[]⟩, HX.out, hb3, by decide, hJ3⟩
    case measure => rw [boxText_eq hb3, boxText_eq hbx]; show 0 < s.size; omega
   ·rw [e1] at hI
    obtain ⟨S, hS⟩ : ∃ S, s.extract (k + 1) s.size = S := ⟨_, rfl⟩
    obtain ⟨X, hXs⟩ : ∃ X, s.extract 0 (k + 1) = X := ⟨_, rfl⟩
    have hlen : S.size < s.size := by rw [← hS, ByteArray.size_extract]; omega
    rw [hS, hXs] at e2
    have hb1 : Boxed (wr.setCell ⟨sb, 0, none⟩ (.string S)).drew sb 9 (.string S) := Boxed.set _ hbx
    obtain ⟨fn, tmps, assign, body, hy, hR⟩ := hY pre X (rawB S) ((wr.setCell ⟨sb, 0, none⟩ (.string S)).drew) (by rw [hx, e2]) (hJ _ _ _ hJs (rs_set hbx 1 _))
    have HX := Lib.hid (show rawB s0 = (pre ++ [X]) ++ rawB S by rw [hx, e2]; simp)
    have HL := Lib.hid hlen
    have hk0 : (0 : Int) ≤ (k : Int) := by omega
    have hk1 : (k : Int) + 1 ≤ (s.size : Int) := by omega
    have hk2 : ((k : Int) + 1).toNat = k + 1 := by omega
    clear hx e1 e2 hJ hY h0 hJs hlen
    gi_wp2_with (refine ⟨trivial, ?_⟩; gi_at_call 85; refine (hI _).mono ?_; rintro e w' ⟨rfl, rfl⟩)
    gi_region
    gi_wp2
    refine hR.mono ?_
    rintro e W3 ⟨rfl, hJ3, hk3⟩
    have hb3 : Boxed W3 sb 9 (.string S) := hk3.trans hb1
    gi_wp2
    go_roundw
    case rel => exact ⟨pre ++ [X], S, HX.out, hb3, by have := HL.out; omega, hJ3⟩
    case measure => rw [boxText_eq hb3, boxText_eq hbx]; exact HL.out
end
end Go.Proofs.YtdhmeganlnpohaaGreatDoor
