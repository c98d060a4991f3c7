import Derived.Below
import Derived.Lib.Split
import Derived.Lib.Join
import Derived.WalkKit
import Derived.WalkSpells
import Derived.WalkLawsBesides
import Derived.Deep.DeepFit
import Derived.Deep.DeepMust
import Derived.Deep.QuietTactic
import Derived.BigQuiet
import Derived.Lib.Hide
import Derived.Test.YtdkainiiinjgmaaGreatDoorProg
import Derived.Test.YtdkainiiinjgmaaGreatDoorLays
import Derived.Room.Shelf.Join48
import Derived.Test.YtdkainiiinjgmaaGreatDoorTie
import Derived.Test.YtdkainiiinjgmaaGreatDoorCards
import Derived.ProofKit
import Derived.OpenShut
import Derived.Deep.DeepHandedRow
import Derived.Lib.LaidTab
import Derived.Lib.LaidU8
import Derived.Stop.LaidErr
import Derived.Stop.Joined
import Derived.Lay
import Derived.Shelf.Vars
import Derived.Laws.IdiomCopy
import Derived.Laws.Cells
import Derived.Laws.World
import Derived.Laws.Entries
import Derived.ChangeKeysEq
import Derived.Orders
namespace Go.Proofs.YtdkainiiinjgmaaGreatDoor.Exe
open Go Go.RowKit
def nameCells (ns : List (List UInt8)) : List Value := ns.map fun b => .string ⟨⟨b⟩⟩
structure GX (G : Nat) (T : TypeId) (ns : List (List UInt8)) (w : World) : Prop where
 size : G ≤ w.heap.size
 row : ∃ cur f, w.heap[0]? = some (.cells cur T f) ∧ cur.toList = nameCells ns
theorem GX.below {G p : Nat} {T : TypeId} {ns : List (List UInt8)} {w w' : World} (h : GX G T ns w) (hp : 0 < p) (hb : Below p w w') : GX G T ns w' := by
 obtain ⟨h1, cur, f, h2, h3⟩ := h
 exact ⟨Nat.le_trans h1 hb.size, cur, f, by rw [hb.block 0 hp]; exact h2, h3⟩
def opNames : List (List UInt8) := [[], [99, 111, 112, 121], [110, 101, 101, 100], [115, 111, 114, 116], [99, 111, 117, 110, 116], [99, 111, 110, 99, 97, 116], [108, 105, 116, 101, 114, 97, 108], [115, 101, 108, 101, 99, 116], [114, 101, 112, 108, 97, 99, 101], [112, 114, 101, 102, 105, 120]]
end Go.Proofs.YtdkainiiinjgmaaGreatDoor.Exe
namespace Go.Proofs.YtdkainiiinjgmaaGreatDoor
open Go.Lib
def cutAt (d : UInt8) : List UInt8 → List (List UInt8)
 | [] => [[]]
 | c :: r => if c = d then [] :: cutAt d r else
  match cutAt d r with
  | [] => [[c]]
  | p :: ps => (c :: p) :: ps
theorem first_of (d : UInt8) : ∀ s : List UInt8, d ∉ s ∨ ∃ a b, s = a ++ d :: b ∧ d ∉ a
 | [] => .inl (by simp)
 | c :: r => by
  by_cases hc : c = d
  ·exact .inr ⟨[], r, by simp [hc], by simp⟩
  ·rcases first_of d r with h | ⟨a, b, h, h'⟩
   ·exact .inl (by simp [h, Ne.symm hc])
   ·exact .inr ⟨c :: a, b, by simp [h], by simp [h', Ne.symm hc]⟩
theorem occAt_one (s : List UInt8) (d : UInt8) (j : Nat) : occAt s [d] j = decide (s[j]? = some d) := by
 unfold occAt
 rw [Bool.eq_iff_iff, decide_eq_true_iff]
 cases h : s.drop j with
 | nil =>
  have : s[j]? = none := by rw [List.getElem?_eq_none_iff]; simpa using h
  simp [this]
 | cons x l =>
  have : s[j]? = some x := by
   have := congrArg List.head? h
   simpa using this
  rw [this]
  simp [List.isPrefixOf]
  exact eq_comm
theorem index_miss {s : List UInt8} {d : UInt8} (h : d ∉ s) : index s [d] = -1 := by
 refine index_none fun j _ => ?_
 rw [occAt_one, decide_eq_false_iff_not]
 intro e
 exact h (List.mem_of_getElem? e)
theorem index_hit {a b : List UInt8} {d : UInt8} (h : d ∉ a) : index (a ++ d :: b) [d] = (a.length : Int) := by
 refine index_first (by simp) ?_ ?_
 ·rw [occAt_one]; simp
 ·intro j hj
  rw [occAt_one, decide_eq_false_iff_not, List.getElem?_append_left hj]
  intro e
  exact h (List.mem_of_getElem? e)
theorem drop_hit (a b : List UInt8) (d : UInt8) : (a ++ d :: b).drop (a.length + 1) = b := by
 rw [← List.drop_drop]; simp
theorem join_length (d : UInt8) : ∀ (ps : List (List UInt8)), ps ≠ [] → (join ps [d]).length + 1 = (ps.map List.length).sum + ps.length
 | [], h => absurd rfl h
 | [p], _ => by rw [join_one]; simp
 | p :: q :: r, _ => by
  have ih := join_length d (q :: r) (by simp)
  have e : join (p :: q :: r) [d] = p ++ d :: join (q :: r) [d] := by
   rw [join_cons, join_cons]
   simp [joinTail]
  rw [e]
  simp only [List.length_append, List.length_cons, List.map_cons, List.sum_cons] at ih ⊢
  omega
end Go.Proofs.YtdkainiiinjgmaaGreatDoor
namespace Go.Proofs.YtdkainiiinjgmaaGreatDoor
open Go.RowKit
def okByte (c : UInt8) : Bool := decide ((97 ≤ c.toNat ∧ c.toNat ≤ 122) ∨ (65 ≤ c.toNat ∧ c.toNat ≤ 90) ∨ (48 ≤ c.toNat ∧ c.toNat ≤ 57) ∨ c.toNat = 46 ∨ c.toNat = 95 ∨ c.toNat = 45)
def isCl (l : List UInt8) : Bool := l == [114, 117, 108, 101] || l == [105, 110] || l == [111, 117, 116] || l == [97, 102, 116, 101, 114]
def okPart (l : List UInt8) : Bool := l != [] && l != [46] && l != [46, 46] && l.all okByte
end Go.Proofs.YtdkainiiinjgmaaGreatDoor
namespace Go.Proofs.YtdkainiiinjgmaaGreatDoor
open Go.RowKit
def okName (l : List UInt8) : Bool := decide (l.length ≤ 40) && !isCl l && (cutAt 47 l).all okPart
end Go.Proofs.YtdkainiiinjgmaaGreatDoor
namespace Go.Proofs.YtdkainiiinjgmaaGreatDoor
open Go.RowKit
def IsStrs (w : World) (v : Value) (xs : List ByteArray) : Prop :=
 ∃ a c, v = .slice a xs.length c ∧ xs.length ≤ c ∧ c ≤ maxLen ∧ (xs ≠ [] → ∃ b o, a = some ⟨b, o, none⟩ ∧ b < w.heap.size ∧ ∀ (j : Nat) x, xs[j]? = some x → w.cell? ⟨b, o + j, none⟩ = some (.string x))
theorem cell_lt {w : World} {a : Addr} {v : Value} (h : w.cell? a = some v) : a.block < w.heap.size := by
 rcases Nat.lt_or_ge a.block w.heap.size with h' | h'
 ·exact h'
 ·simp [World.cell?, Array.getElem?_eq_none h'] at h
theorem IsStrs.below {w w' : World} {v : Value} {xs : List ByteArray} (h : IsStrs w v xs) (hb : Below w.heap.size w w') : IsStrs w' v xs := by
 obtain ⟨a, c, rfl, h1, h1m, h2⟩ := h
 refine ⟨a, c, rfl, h1, h1m, fun hne => ?_⟩
 obtain ⟨b, o, rfl, h3, h4⟩ := h2 hne
 exact ⟨b, o, rfl, Nat.lt_of_lt_of_le h3 hb.size, fun j x hx => (hb.cell h3).trans (h4 j x hx)⟩
def nonE (ls : List (List UInt8)) : List (List UInt8) := ls.filter fun l => !l.isEmpty
def joinS (ls : List (List UInt8)) : List UInt8 := Lib.join (nonE ls) [47]
end Go.Proofs.YtdkainiiinjgmaaGreatDoor
namespace Go.Proofs.YtdkainiiinjgmaaGreatDoor
open Go.ChangeShapes Go.WideShapes Go.ChangeAt Go.RowKit
theorem own : ownKnob Tryz.prog.godebug = none := by kernel_rfl
abbrev laidL : List (String × DataW Unit) := Rows.labelsLawsRow.laid
theorem cells_of_names {H : Type} {enc : TypeId × Value → H} {P : Program} {w : World} {base : Nat} {sp : Nat → Bool} {held : Bool} {fuel : Nat} {t e : TypeId} {n : Nat} {cs : List Value} {zs : List (List UInt8)} {p : List MemPlace}
  (ht : P.underlying t = some (.array n e)) (he : P.underlying e = some .string) (hce : P.cellsOf e = 1) (hct : P.cellsOf t = n)
  (h : DataW.trod enc P w base sp held fuel t cs = some (.agg (zs.map fun z => .lit (.string z)), p)) : ∀ (i : Nat) z, zs[i]? = some z → cs[i]? = some (.string ⟨z.toArray⟩) := by
 cases fuel with
 | zero => simp [DataW.trod] at h
 | succ fuel =>
  simp only [DataW.trod, ht, hce, hct, Nat.mul_one] at h
  split at h
  ·rename_i hl
   obtain ⟨xs, hm, hx⟩ := Option.map_eq_some_iff.1 h
   have hxs : xs.map (·.1) = zs.map fun z => (DataW.lit (.string z) : DataW H) := by
    have := congrArg Prod.fst hx
    simpa using this
   have hxl : xs.length = n := by simpa using Lib.mapM_length hm
   have hzl : zs.length = n := by
    have := congrArg List.length hxs
    simp at this
    omega
   intro i z hz
   have hi : i < n := by rw [← hzl]; exact (List.getElem?_eq_some_iff.1 hz).1
   obtain ⟨b, hb, hf⟩ := Lib.mapM_at hm i i (by simp [hi])
   obtain ⟨s, hc, rfl, _⟩ := DataW.trod_string he hf
   have h1 : cs[i]? = some (.string s) := by
    have := congrArg (·[0]?) hc
    simpa [List.getElem?_take, List.getElem?_drop] using this
   have h2 : (xs.map (·.1))[i]? = some (DataW.lit (.string s.data.toList) : DataW H) := by simp [hb]
   rw [hxs] at h2
   simp only [List.getElem?_map, hz, Option.map_some, Option.some.injEq, DataW.lit.injEq, Lit.string.injEq] at h2
   rw [h1, h2]
  ·cases h
theorem gx_of {W : World} (hL : laidMetH Tryz.prog laidL W) (hS : W.ShapedOpen Tryz.prog) : Exe.GX 5 285 Exe.opNames W := by
 rw [MakeChecks.laidMetH_plain _ _ _ (by kernel_rfl)] at hL
 have hmem : ("shipwright/parse.opNames", (Rows.laid_shipwright_parse_opNames : DataW Unit)) ∈ laidL := by
  repeat (first | exact List.Mem.head _ | refine List.Mem.tail _ ?_)
 obtain ⟨g', t', cs, fuel, p, hg', ht', hv, hd⟩ := Lib.laidMet.reads hL hmem
 obtain rfl : 0 = g' := Option.some.inj ((show _ = some 0 by kernel_rfl : Tryz.prog.globalNamed _ = some 0).symm.trans hg')
 obtain rfl := Option.some.inj ((show (Tryz.prog.globals[0]?).map (·.type) = some 285 by kernel_rfl).symm.trans ht')
 have hc := cells_of_names Tryz.underlying285 Tryz.underlying9 (by kernel_rfl) (by kernel_rfl) (zs := Exe.opNames) hd
 have ho : ∀ (k : Nat) x, Exe.opNames[k]? = some x → W.cell? ⟨0, k, none⟩ = some (.string ⟨x.toArray⟩) := by
  intro k x hx
  have := World.var?_cell hg' hv k
  rw [this]
  have := hc k x hx
  simpa using this
 obtain ⟨c0, hc0, hs0, _⟩ := hS.1 0 _ _ (of_decide_eq_true (by kernel_rfl)) (show _ = some ((⟨[.string ByteArray.empty, .string ByteArray.empty, .string ByteArray.empty, .string ByteArray.empty, .string ByteArray.empty, .string ByteArray.empty, .string ByteArray.empty, .string ByteArray.empty, .string ByteArray.empty, .string ByteArray.empty]⟩ : Array Value), 285) by kernel_rfl)
 have hsz : 5 ≤ W.heap.size := by
  have h4 : (((begin Tryz.prog (fun _ _ => 0) default).world.heap[4]?).bind Obj.row?).isSome = true := by kernel_rfl
  obtain ⟨⟨z4, t4⟩, e4⟩ := Option.isSome_iff_exists.1 h4
  obtain ⟨c4, hc4, _⟩ := hS.1 4 z4 t4 (of_decide_eq_true (by kernel_rfl)) e4
  have := (Array.getElem?_eq_some_iff.1 hc4).1
  omega
 refine ⟨hsz, c0, _, hc0, ?_⟩
 have hlen : c0.size = 10 := hs0
 apply List.ext_getElem?
 intro i
 rcases Nat.lt_or_ge i 10 with hi | hi
 ·have key : ∀ x, Exe.opNames[i]? = some x → c0.toList[i]? = some (.string ⟨x.toArray⟩) := by
   intro x hx
   have := ho i x hx
   simp only [World.cell?, hc0] at this
   simpa using this
  have hl : Exe.opNames.length = 10 := by decide
  have hb : i < Exe.opNames.length := by omega
  obtain ⟨x, hx⟩ : ∃ x, Exe.opNames[i]? = some x := ⟨_, List.getElem?_eq_getElem hb⟩
  rw [key x hx]
  unfold Exe.nameCells
  rw [List.getElem?_map, hx]
  rfl
 ·rw [List.getElem?_eq_none (by simp; omega), List.getElem?_eq_none (by simp [Exe.nameCells, Exe.opNames]; omega)]
theorem laid_met (os : Os) (args : Array Value) : laidMetH Tryz.prog laidL ((World.laidAll Tryz.prog os laidL).forCall (fun _ _ => 0) ⟨#[], args, []⟩).memory := by
 rw [MakeChecks.laidMetH_plain _ _ _ (by kernel_rfl)]
 exact laidMet_laidAll _ (by kernel_rfl) (by kernel_rfl)
theorem laidOut : laidOutB Tryz.prog = true := by kernel_rfl
theorem trodAll_below {H : Type} {enc : TypeId × Value → H} {W W' : World} (hb : Below W.heap.size W W') : ∀ {ts : List TypeId} {vs : List Value} {ds : List (DataW H)} {ps : List MemPlace},
  DataW.TrodAll enc Tryz.prog W 0 (fun _ => true) true ts vs ds ps → (∀ x ∈ ps, x.block < W.heap.size) → (ts.all fun t => Tryz.prog.readableRec t && decide (t < Tryz.prog.types.size)) = true →
  DataW.TrodAll enc Tryz.prog W' 0 (fun b => decide (b < W.heap.size)) true ts vs ds ps := by
 intro ts
 induction ts with
 | nil =>
  intro vs ds ps h _ _
  cases vs <;> cases ds <;> simp_all [DataW.TrodAll]
 | cons t ts ih =>
  intro vs ds ps h hlt hr
  obtain ⟨v, vs', d, ds', p, q, rfl, rfl, rfl, h0, h1⟩ := trodAll_cons h
  rw [List.all_cons, Bool.and_eq_true, Bool.and_eq_true] at hr
  exact ⟨p, q, Below.trod laidOut hr.1.1 (of_decide_eq_true hr.1.2) h0 hb (fun x hx => hlt x (List.mem_append_left _ hx)), ih h1 (fun x hx => hlt x (List.mem_append_right _ hx)) hr.2, rfl⟩
theorem law_post {H : Type} {enc : TypeId × Value → H} {fn : Func} {spec : ChangeSpec} {W W' : World} {args : Array Value} {ds gs : List (DataW H)} {before : List MemPlace}
  (hvars : spec.vars = []) (hres : fn.resultTypes = #[4]) (n : Nat) (hn : fn.params.size = n) (hfn : ∀ H (xs : List (DataW H)), xs.length = n → spec.fn H xs = { results := [.lit (.bool true)], args := xs })
  (hW : DataW.Whole enc Tryz.prog fn.params.toList spec.vars false W args.toList ds gs before) (hb : Below W.heap.size W W')
  (hr : (fn.params.toList.all fun t => Tryz.prog.readableRec t && decide (t < Tryz.prog.types.size)) = true) :
  spec.post enc Tryz.prog fn false true false false W args (.bool true) W' := by
 have hW' := hW
 have hlt := hW.lt
 obtain ⟨p, q, hA, hV, rfl, hfz, hnd⟩ := hW
 rw [hvars] at hV
 obtain ⟨rfl, rfl⟩ := trodVars_none hV
 have hl : ∀ {ts : List TypeId} {vs : List Value} {ds : List (DataW H)} {ps : List MemPlace}, DataW.TrodAll enc Tryz.prog W 0 (fun _ => true) true ts vs ds ps → ds.length = ts.length := by
  intro ts
  induction ts with
  | nil => intro vs ds ps h; cases vs <;> cases ds <;> simp_all [DataW.TrodAll]
  | cons t ts ih =>
   intro vs ds ps h
   obtain ⟨v, vs', d, ds', p, q, rfl, rfl, rfl, _, h'⟩ := trodAll_cons h
   simp [ih h']
 have hdl := hl hA
 have e : spec.fn H (ds ++ []) = { results := [.lit (.bool true)], args := ds } := by
  rw [List.append_nil]; exact hfn H ds (by rw [hdl, ← hn]; simp)
 refine ⟨ds, [], _, [], p, [], hW', ?_, ?_, ?_, hb.frame _, fun h => by cases h⟩
 ·rw [e, hres]; exact trodAll_mk1 (shut_bool Tryz.underlying4 _)
 ·rw [e]; exact trodAll_below hb hA (fun x hx => hlt x (by simpa using hx)) hr
 ·rw [e, hvars]; exact rfl
theorem wit_shaped (os : Os) (args : Array Value) : ((World.laidAll Tryz.prog os laidL).forCall (fun _ _ => 0) ⟨#[], args, []⟩).Shaped Tryz.prog := World.shaped_of_ZipB (by kernel_rfl) (by kernel_rfl)
theorem wit_of {H : Type} {enc : TypeId × Value → H} {os : Os} {f : FuncId} {fn : Func} {s : OpenSpec} {conds : List PathCond} {apart : Bool} (args : Array Value)
  (hok : Input.okWideB Tryz.prog ((World.laidAll Tryz.prog os laidL).forCall (fun _ _ => 0) ⟨#[], args, []⟩) f ⟨#[], args, []⟩ = true)
  (hrow : s.preRow enc Tryz.prog fn conds apart laidL ((World.laidAll Tryz.prog os laidL).forCall (fun _ _ => 0) ⟨#[], args, []⟩).memory args) :
  ∃ (w : World) (tape : Tape) (i : Input), w.os = os ∧ (w.forCall tape i).Shaped Tryz.prog ∧ i.vars = [] ∧ Input.okWide Tryz.prog (w.forCall tape i) .any w.heap.size f i ∧
   s.preRow enc Tryz.prog fn conds apart laidL (w.forCall tape i).memory i.args ∧ ({} : Assume).holds Tryz.prog (lone (Frame.enter Tryz.prog f i.args .normal) [] (w.forCall tape i)) :=
 ⟨World.laidAll Tryz.prog os laidL, fun _ _ => 0, ⟨#[], args, []⟩, World.laidAll_os _ _ _, wit_shaped os args, (Input.okWide_of_okWideB (base := 0) hok).1, (Input.okWide_of_okWideB hok).2, hrow, by
  simp only [Assume.holds]
  exact ⟨by simp, by simp, fun h => by simp at h, by simp, by simp⟩⟩
end Go.Proofs.YtdkainiiinjgmaaGreatDoor
namespace Go.Proofs.YtdkainiiinjgmaaGreatDoor.Exe
open Go
structure Ent where
 b : Nat
 sh : Nat
 S : Nat
 t : TypeId
abbrev Ren := Nat → Option Ent
def exN (n : Nat) : Bool := Nat.beq (n % 2) 0
def atom : Value → Bool
 | .bool _ => true
 | .int _ _ => true
 | .float _ _ => true
 | .complex _ _ _ => true
 | .string _ => true
 | .pointer none => true
 | .slice none _ _ => true
 | .map none => true
 | .chan none => true
 | .nilFunc => true
 | .nilIface => true
 | _ => false
def CapR (p c S z : Nat) : Prop := p ≤ S ∧ (z = 2 → 0 < c → p = S) ∧ c ≤ 9223372036854775807
inductive ValR (Z : TypeId → Nat) (r : Ren) : Value → Value → Prop
 | same {v : Value} (h : atom v = true) : ValR Z r v v
 | ptr {n o : Nat} {e : Ent} (h : r n = some e) : ValR Z r (.pointer (some ⟨n, o, none⟩)) (.pointer (some ⟨e.b, o + e.sh, none⟩))
 | slice {n o l c c' : Nat} {e : Ent} (h : r n = some e) (hc : c ≤ c') (he : exN n = true → c' = c) (hr : exN n = false → CapR (o + e.sh + c' * Z e.t) c' e.S (Z e.t)) :
   ValR Z r (.slice (some ⟨n, o, none⟩) l c) (.slice (some ⟨e.b, o + e.sh, none⟩) l c')
 | void {n o o' c' : Nat} {e : Ent} (h : r n = some e) (hx : exN n = false) (hv : c' = 0 ∨ (o' = o + e.sh ∧ CapR (o + e.sh + c' * Z e.t) c' e.S (Z e.t))) :
   ValR Z r (.slice (some ⟨n, o, some 0⟩) 0 0) (.slice (some ⟨e.b, o', none⟩) 0 c')
 | map {n : Nat} {e : Ent} (h : r n = some e) : ValR Z r (.map (some n)) (.map (some e.b))
 | func {f : FuncId} {xs ys us vs : Array Value} (h1 : xs.size = ys.size) (h2 : ∀ (i : Nat) x y, xs[i]? = some x → ys[i]? = some y → ValR Z r x y)
   (h3 : us.size = vs.size) (h4 : ∀ (i : Nat) x y, us[i]? = some x → vs[i]? = some y → ValR Z r x y) : ValR Z r (.func (.func f) xs us) (.func (.func f) ys vs)
 | yield {n : Nat} {e : Ent} (h : r n = some e) : ValR Z r (.func (.yield n) #[] #[]) (.func (.yield e.b) #[] #[])
 | iface {t : TypeId} {x y : Value} (h : ValR Z r x y) : ValR Z r (.iface t x) (.iface t y)
 | agg {xs ys : Array Value} (h1 : xs.size = ys.size) (h2 : ∀ (i : Nat) x y, xs[i]? = some x → ys[i]? = some y → ValR Z r x y) : ValR Z r (.agg xs) (.agg ys)
 | tuple {xs ys : Array Value} (h1 : xs.size = ys.size) (h2 : ∀ (i : Nat) x y, xs[i]? = some x → ys[i]? = some y → ValR Z r x y) : ValR Z r (.tuple xs) (.tuple ys)
def Ext (r s : Ren) : Prop := ∀ n e, r n = some e → s n = some e
theorem Ext.refl (r : Ren) : Ext r r := fun _ _ h => h
theorem Ext.trans {r s t : Ren} (h : Ext r s) (k : Ext s t) : Ext r t := fun n e x => k n e (h n e x)
variable {Z : TypeId → Nat} {r s : Ren}
theorem ValR.mono {x y : Value} (h : ValR Z r x y) (hx : Ext r s) : ValR Z s x y := by
 induction h with
 | same h => exact .same h
 | ptr h => exact .ptr (hx _ _ h)
 | slice h hc he hr => exact .slice (hx _ _ h) hc he hr
 | void h hy hv => exact .void (hx _ _ h) hy hv
 | map h => exact .map (hx _ _ h)
 | func h1 _ h3 _ i2 i4 => exact .func h1 i2 h3 i4
 | yield h => exact .yield (hx _ _ h)
 | iface _ ih => exact .iface ih
 | agg h1 _ ih => exact .agg h1 ih
 | tuple h1 _ ih => exact .tuple h1 ih
def ValsR (Z : TypeId → Nat) (r : Ren) (xs ys : List Value) : Prop := xs.length = ys.length ∧ ∀ (i : Nat) x y, xs[i]? = some x → ys[i]? = some y → ValR Z r x y
theorem ValsR.nil : ValsR Z r [] [] := ⟨rfl, fun i x y h => by simp at h⟩
theorem ValsR.cons {x y : Value} {xs ys : List Value} (h : ValR Z r x y) (hs : ValsR Z r xs ys) : ValsR Z r (x :: xs) (y :: ys) := by
 refine ⟨by simp [hs.1], fun i a b ha hb => ?_⟩
 cases i with
 | zero => simp at ha hb; subst ha; subst hb; exact h
 | succ i => exact hs.2 i a b (by simpa using ha) (by simpa using hb)
theorem ValsR.head {x : Value} {xs ys : List Value} (h : ValsR Z r (x :: xs) ys) : ∃ y zs, ys = y :: zs ∧ ValR Z r x y ∧ ValsR Z r xs zs := by
 cases ys with
 | nil => have := h.1; simp at this
 | cons y zs => exact ⟨y, zs, rfl, h.2 0 _ _ rfl rfl, by have := h.1; simpa using this, fun i a b ha hb => h.2 (i + 1) a b (by simpa using ha) (by simpa using hb)⟩
theorem ValsR.mono {xs ys : List Value} (h : ValsR Z r xs ys) (hx : Ext r s) : ValsR Z s xs ys := ⟨h.1, fun i x y a b => (h.2 i x y a b).mono hx⟩
theorem ValsR.append {xs ys us vs : List Value} (h : ValsR Z r xs ys) (k : ValsR Z r us vs) : ValsR Z r (xs ++ us) (ys ++ vs) := by
 induction xs generalizing ys with
 | nil => have := h.1; cases ys <;> simp_all
 | cons x xs ih => obtain ⟨y, zs, rfl, h1, h2⟩ := h.head; exact (ih h2).cons h1
theorem ValsR.drop {xs ys : List Value} (h : ValsR Z r xs ys) (n : Nat) : ValsR Z r (xs.drop n) (ys.drop n) :=
 ⟨by simp [h.1], fun i x y a b => h.2 (n + i) x y (by simpa using a) (by simpa using b)⟩
theorem ValsR.take {xs ys : List Value} (h : ValsR Z r xs ys) (n : Nat) : ValsR Z r (xs.take n) (ys.take n) := by
 refine ⟨by simp [h.1], fun i x y a b => ?_⟩
 rw [List.getElem?_take] at a b
 split at a
 ·rw [if_pos (by assumption)] at b; exact h.2 i x y a b
 ·cases a
theorem ValR.aggL {xs ys : List Value} (h : ValsR Z r xs ys) : ValR Z r (.agg xs.toArray) (.agg ys.toArray) := .agg (by simpa using h.1) (fun i x y a b => h.2 i x y (by simpa using a) (by simpa using b))
theorem ValR.tupleL {xs ys : List Value} (h : ValsR Z r xs ys) : ValR Z r (.tuple xs.toArray) (.tuple ys.toArray) := .tuple (by simpa using h.1) (fun i x y a b => h.2 i x y (by simpa using a) (by simpa using b))
theorem ValR.undef : ValR Z r undef undef := .tuple rfl (fun i x y h => by simp at h)
def flat : Nat → Value → Bool
 | 0, _ => false
 | n + 1, v => match v with
  | .agg xs => xs.toList.all (flat n)
  | .tuple xs => xs.toList.all (flat n)
  | .iface _ x => flat n x
  | .func (.func _) xs ys => xs.toList.all (flat n) && ys.toList.all (flat n)
  | v => atom v
theorem flat_eq : ∀ (n : Nat) {x y : Value}, flat n x = true → ValR Z r x y → y = x
 | 0, _, _, h, _ => by simp [flat] at h
 | n + 1, x, y, h, hv => by
  have arr : ∀ {xs ys : Array Value}, xs.toList.all (flat n) = true → xs.size = ys.size → (∀ (i : Nat) x y, xs[i]? = some x → ys[i]? = some y → ValR Z r x y) → ys = xs := by
   intro xs ys ha hs hr
   apply Array.ext hs.symm
   intro i h1 h2
   exact flat_eq n (List.all_eq_true.1 ha _ (by simp)) (hr i xs[i] ys[i] (by simp) (by simp))
  cases hv with
  | same _ => rfl
  | ptr _ => simp [flat, atom] at h
  | slice _ _ _ _ => simp [flat, atom] at h
  | void _ _ _ => simp [flat, atom] at h
  | map _ => simp [flat, atom] at h
  | yield _ => simp [flat, atom] at h
  | iface hx => simp only [flat] at h; rw [flat_eq n h hx]
  | agg h1 h2 => simp only [flat] at h; rw [arr h h1 h2]
  | tuple h1 h2 => simp only [flat] at h; rw [arr h h1 h2]
  | func h1 h2 h3 h4 => simp only [flat, Bool.and_eq_true] at h; rw [arr h.1 h1 h2, arr h.2 h3 h4]
theorem flat_refl : ∀ (n : Nat) {x : Value}, flat n x = true → ValR Z r x x
 | 0, _, h => by simp [flat] at h
 | n + 1, x, h => by
  have arr : ∀ {xs : Array Value}, xs.toList.all (flat n) = true → ∀ (i : Nat) x y, xs[i]? = some x → xs[i]? = some y → ValR Z r x y := by
   intro xs ha i x y hx hy
   obtain rfl := Option.some.inj (hx.symm.trans hy)
   exact flat_refl n (List.all_eq_true.1 ha _ (by simpa using Array.mem_of_getElem? hx))
  cases x with
  | agg xs => exact .agg rfl (arr h)
  | tuple xs => exact .tuple rfl (arr h)
  | iface t v => exact .iface (flat_refl n h)
  | func fn xs ys =>
   cases fn with
   | func f => simp only [flat, Bool.and_eq_true] at h; exact .func rfl (arr h.1) rfl (arr h.2)
   | _ => simp [flat, atom] at h
  | _ => exact .same h
theorem atom_eq {x y : Value} (h : atom x = true) (hv : ValR Z r x y) : y = x := by
 cases hv <;> first | rfl | simp [atom] at h
inductive Tr where
 | lf
 | nd (v : Value) (a b : Tr)
def Tr.get : Tr → Nat → Value
 | .lf, _ => undef
 | .nd v a b, k => match k with
  | 0 => v
  | k + 1 => bif Nat.beq (k % 2) 0 then a.get (k / 2) else b.get (k / 2)
def Tr.put : Nat → Tr → Nat → Value → Tr
 | 0, t, _, _ => t
 | f + 1, t, k, v => match t with
  | .lf => match k with
   | 0 => .nd v .lf .lf
   | k + 1 => bif Nat.beq (k % 2) 0 then .nd undef (Tr.put f .lf (k / 2) v) .lf else .nd undef .lf (Tr.put f .lf (k / 2) v)
  | .nd u a b => match k with
   | 0 => .nd v a b
   | k + 1 => bif Nat.beq (k % 2) 0 then .nd u (Tr.put f a (k / 2) v) b else .nd u a (Tr.put f b (k / 2) v)
structure Env where
 t : Tr
 n : Nat
def Env.put (e : Env) : Option Tmp → Value → Env
 | none, _ => e
 | some d, v => bif Nat.blt d e.n then { e with t := Tr.put 24 e.t d v } else e
inductive CO where
 | cells (cs : List Value) (t : TypeId) (hi : Nat) (ro : Bool)
 | map (es : List (Value × Value × Nat)) (clock : Nat) (ro : Bool)
 | loop (st : LoopState) (pend : Option Code) (e : Env) (ps : Array Tmp) (asg body : Code) (ro : Bool)
def CO.ro : CO → Bool
 | .cells _ _ _ b => b
 | .map _ _ b => b
 | .loop _ _ _ _ _ _ b => b
abbrev Hp := List (Nat × CO)
def look : Hp → Nat → Option CO
 | [], _ => none
 | (k, o) :: h, n => bif Nat.beq k n then some o else look h n
def upd : Hp → Nat → CO → Hp
 | [], _, _ => []
 | (k, o') :: h, n, o => bif Nat.beq k n then (k, o) :: h else (k, o') :: upd h n o
def del : Hp → Nat → Hp
 | [], _ => []
 | (k, o') :: h, n => bif Nat.beq k n then del h n else (k, o') :: del h n
theorem beq_eq {a b : Nat} : Nat.beq a b = true ↔ a = b := ⟨Nat.eq_of_beq_eq_true, fun h => by subst h; exact Nat.beq_refl a⟩
theorem beq_ne {a b : Nat} : Nat.beq a b = false ↔ a ≠ b := by rw [← Bool.not_eq_true, beq_eq]
theorem look_upd (h : Hp) (n : Nat) (o : CO) (m : Nat) : look (upd h n o) m = if m = n then (look h n).map (fun _ => o) else look h m := by
 induction h with
 | nil => simp [upd, look]
 | cons p h ih =>
  obtain ⟨k, o'⟩ := p
  simp only [upd]
  cases hk : Nat.beq k n with
  | true =>
   obtain rfl := beq_eq.1 hk
   simp only [cond_true, look]
   by_cases hm : m = k
   ·subst hm; simp [Nat.beq_refl]
   ·have : Nat.beq k m = false := beq_ne.2 (fun e => hm e.symm)
    simp [this, hm]
  | false =>
   simp only [cond_false, look]
   cases hm : Nat.beq k m with
   | true =>
    obtain rfl := beq_eq.1 hm
    have : k ≠ n := beq_ne.1 hk
    simp [this]
   | false => simp only [cond_false]; rw [ih, hk]; simp
theorem look_del (h : Hp) (n m : Nat) : look (del h n) m = if m = n then none else look h m := by
 induction h with
 | nil => simp [del, look]
 | cons p h ih =>
  obtain ⟨k, o'⟩ := p
  simp only [del]
  cases hk : Nat.beq k n with
  | true =>
   obtain rfl := beq_eq.1 hk
   simp only [cond_true, look, ih]
   by_cases hm : m = k
   ·simp [hm]
   ·have : Nat.beq k m = false := beq_ne.2 (fun e => hm e.symm)
    simp [this, hm]
  | false =>
   simp only [cond_false, look, ih]
   cases hm : Nat.beq k m with
   | true => obtain rfl := beq_eq.1 hm; have : k ≠ n := beq_ne.1 hk; simp [this]
   | false => simp
theorem look_cons (h : Hp) (n : Nat) (o : CO) (m : Nat) : look ((n, o) :: h) m = if m = n then some o else look h m := by
 simp only [look]
 cases hm : Nat.beq n m with
 | true => obtain rfl := beq_eq.1 hm; simp
 | false => have := beq_ne.1 hm; simp [Ne.symm this]
def FzR (f : Nat × Nat) (hi sh : Nat) : Prop := (f.2 ≤ hi + sh ∨ 9223372036854775808 ≤ hi) ∧ (hi + sh = 0 → f = (0, 0))
theorem FzR.zero {hi sh : Nat} : FzR (0, 0) hi sh := ⟨.inl (Nat.zero_le _), fun _ => rfl⟩
def headS : List Value → Bool
 | .slice _ _ _ :: _ => true
 | _ => false
def FzS (f : Nat × Nat) (hi : Nat) (cs : List Value) (sh : Nat) : Prop := FzR f hi sh ∧ (sh = 0 ∨ headS cs = true)
theorem FzS.zero {k : Nat} {cs : List Value} : FzS (0, 0) k cs 0 := ⟨FzR.zero, .inl rfl⟩
def ObjR (Z : TypeId → Nat) (r : Ren) (n : Nat) (e : Ent) : CO → Obj → Prop
 | .cells cs t hi _, .cells cs' t' f => t' = t ∧ e.t = t ∧ cs'.size = e.S ∧ cs.length + e.sh ≤ e.S ∧ (exN n = true → e.sh = 0 ∧ cs.length = e.S) ∧
   (∀ i v, cs[i]? = some v → ∃ v', cs'[i + e.sh]? = some v' ∧ ValR Z r v v') ∧ FzS f hi cs e.sh
 | .map es k _, .map es' k' => k' = k ∧ es.length = es'.size ∧ ∀ (i : Nat) (x : Value × Value × Nat) (y : MapEntry), es[i]? = some x → es'[i]? = some y → (y.key = x.1 ∧ flat 3 x.1 = true) ∧ ValR Z r x.2.1 y.val ∧ y.born = x.2.2
 | .loop st pend en ps asg body _, .loop L => (L.state = st ∧ L.pending = pend ∧ L.params = ps ∧ L.assign = asg ∧ L.body = body) ∧ L.tmps.size = en.n ∧ en.n < 16000000 ∧ ∀ k, ValR Z r (en.t.get k) (L.tmps.getD k undef)
 | _, _ => False
structure Rep (N : Nat → Prop) (Z : TypeId → Nat) (G : Nat) (r : Ren) (h : Hp) (w : World) : Prop where
 obj : ∀ n o, look h n = some o → ∃ e, r n = some e ∧ ∃ o', w.heap[e.b]? = some o' ∧ ObjR Z r n e o o'
 inj : ∀ n m o p en em, look h n = some o → look h m = some p → r n = some en → r m = some em → en.b = em.b → n = m
 low : ∀ n e, r n = some e → e.b < w.heap.size
 new : ∀ n, N n → r n = none
 glo : ∀ g, g < G → ∃ e, r g = some e ∧ e.b = g ∧ e.sh = 0
def Own (r : Ren) (h : Hp) (b : Nat) : Prop := ∃ n o e, look h n = some o ∧ o.ro = false ∧ r n = some e ∧ e.b = b
def Live (r : Ren) (h : Hp) (b : Nat) : Prop := ∃ n o e, look h n = some o ∧ r n = some e ∧ e.b = b
theorem Own.live {r : Ren} {h : Hp} {b : Nat} (k : Own r h b) : Live r h b := let ⟨n, o, e, a, _, c, d⟩ := k; ⟨n, o, e, a, c, d⟩
structure Nx (r : Ren) (h : Hp) (w : World) (r1 : Ren) (h1 : Hp) (w1 : World) : Prop where
 ext : Ext r r1
 size : w.heap.size ≤ w1.heap.size
 frame : ∀ b, b < w.heap.size → ¬ Own r h b → w1.heap[b]? = w.heap[b]?
 own : ∀ b, b < w.heap.size → Own r1 h1 b → Own r h b
 live : ∀ b, b < w.heap.size → Live r1 h1 b → Live r h b
 os : w1.os = w.os
 tape : w1.tape = w.tape
 output : w1.output = w.output
theorem Nx.refl (r : Ren) (h : Hp) (w : World) : Nx r h w r h w := ⟨Ext.refl r, Nat.le_refl _, fun _ _ _ => rfl, fun _ _ k => k, fun _ _ k => k, rfl, rfl, rfl⟩
theorem Nx.trans {r h w r1 h1 w1 r2 h2 w2} (a : Nx r h w r1 h1 w1) (b : Nx r1 h1 w1 r2 h2 w2) : Nx r h w r2 h2 w2 :=
 ⟨a.ext.trans b.ext, Nat.le_trans a.size b.size, fun x hx hn => by rw [b.frame x (Nat.lt_of_lt_of_le hx a.size) (fun k => hn (a.own x hx k)), a.frame x hx hn],
  fun x hx k => a.own x hx (b.own x (Nat.lt_of_lt_of_le hx a.size) k), fun x hx k => a.live x hx (b.live x (Nat.lt_of_lt_of_le hx a.size) k), b.os.trans a.os, b.tape.trans a.tape, b.output.trans a.output⟩
theorem ObjR.mono {n : Nat} {e : Ent} {o : CO} {o' : Obj} (h : ObjR Z r n e o o') (hx : Ext r s) : ObjR Z s n e o o' := by
 cases o <;> cases o' <;> simp only [ObjR] at h ⊢
 ·obtain ⟨h1, h2, h3, h4, h5, h6, h7⟩ := h
  exact ⟨h1, h2, h3, h4, h5, fun i v hv => let ⟨v', a, b⟩ := h6 i v hv; ⟨v', a, b.mono hx⟩, h7⟩
 ·obtain ⟨h1, h2, h3⟩ := h
  exact ⟨h1, h2, fun i x y a b => let ⟨p, q, t⟩ := h3 i x y a b; ⟨p, q.mono hx, t⟩⟩
 ·exact ⟨h.1, h.2.1, h.2.2.1, fun k => (h.2.2.2 k).mono hx⟩
end Go.Proofs.YtdkainiiinjgmaaGreatDoor.Exe
namespace Go.Proofs.YtdkainiiinjgmaaGreatDoor.Exe
open Go
theorem Tr.get_lf (k : Nat) : Tr.get .lf k = undef := by cases k <;> rfl
theorem half {a b : Nat} (h : a % 2 = b % 2) : a / 2 = b / 2 ↔ a = b := by omega
theorem Tr.get_put : ∀ (f : Nat) (t : Tr) (k : Nat) (v : Value) (j : Nat), k + 1 < 2 ^ f → (Tr.put f t k v).get j = if j = k then v else t.get j := by
  intro f
  induction f with
  | zero => intro t k v j h; simp at h
  | succ f ih =>
    intro t k v j h
    have hk : ∀ m, k = m + 1 → m / 2 + 1 < 2 ^ f := by intro m hm; subst hm; rw [Nat.pow_succ] at h; omega
    cases t with
    | lf =>
      cases k with
      | zero => cases j <;> simp [Tr.put, Tr.get]
      | succ k =>
        have := hk k rfl
        simp only [Tr.put]
        cases hp : Nat.beq (k % 2) 0 with
        | true =>
          have hp' := beq_eq.1 hp
          simp only [cond_true]
          cases j with
          | zero => simp [Tr.get]
          | succ j =>
            simp only [Tr.get]
            cases hq : Nat.beq (j % 2) 0 with
            | true => simp only [cond_true]; rw [ih _ _ _ _ this]; simp only [half ((beq_eq.1 hq).trans hp'.symm), Nat.add_right_cancel_iff, Tr.get_lf]
            | false => have : j ≠ k := fun e => by subst e; rw [hp] at hq; cases hq
                       simp [this]
        | false =>
          have hp' := beq_ne.1 hp
          simp only [cond_false]
          cases j with
          | zero => simp [Tr.get]
          | succ j =>
            simp only [Tr.get]
            cases hq : Nat.beq (j % 2) 0 with
            | false => have hq' := beq_ne.1 hq
                       simp only [cond_false]; rw [ih _ _ _ _ this]; simp only [half (a := j) (b := k) (by omega), Nat.add_right_cancel_iff, Tr.get_lf]
            | true => have : j ≠ k := fun e => by subst e; rw [hp] at hq; cases hq
                      simp [this]
    | nd u a b =>
      cases k with
      | zero => cases j <;> simp [Tr.put, Tr.get]
      | succ k =>
        have := hk k rfl
        simp only [Tr.put]
        cases hp : Nat.beq (k % 2) 0 with
        | true =>
          have hp' := beq_eq.1 hp
          simp only [cond_true]
          cases j with
          | zero => simp [Tr.get]
          | succ j =>
            simp only [Tr.get]
            cases hq : Nat.beq (j % 2) 0 with
            | true => simp only [cond_true]; rw [ih _ _ _ _ this]; simp only [half ((beq_eq.1 hq).trans hp'.symm), Nat.add_right_cancel_iff]
            | false => have : j ≠ k := fun e => by subst e; rw [hp] at hq; cases hq
                       simp [this]
        | false =>
          have hp' := beq_ne.1 hp
          simp only [cond_false]
          cases j with
          | zero => simp [Tr.get]
          | succ j =>
            simp only [Tr.get]
            cases hq : Nat.beq (j % 2) 0 with
            | false => have hq' := beq_ne.1 hq
                       simp only [cond_false]; rw [ih _ _ _ _ this]; simp only [half (a := j) (b := k) (by omega), Nat.add_right_cancel_iff]
            | true => have : j ≠ k := fun e => by subst e; rw [hp] at hq; cases hq
                      simp [this]
def EnvR (Z : TypeId → Nat) (r : Ren) (e : Env) (a : Act) : Prop := a.tmps.size = e.n ∧ e.n < 16000000 ∧ ∀ k, ValR Z r (e.t.get k) (a.tmps.getD k undef)
theorem EnvR.mono {Z r s e a} (h : EnvR Z r e a) (hx : Ext r s) : EnvR Z s e a := ⟨h.1, h.2.1, fun k => (h.2.2 k).mono hx⟩
theorem EnvR.put {Z r e a} (h : EnvR Z r e a) {v v' : Value} (hv : ValR Z r v v') (d : Option Tmp) : EnvR Z r (e.put d v) (a.put d v') := by
  cases d with
  | none => exact h
  | some d =>
    obtain ⟨h1, h2, h3⟩ := h
    obtain ⟨d, rfl⟩ : ∃ k : Nat, k = d := ⟨d, rfl⟩
    simp only [Env.put, Act.put]
    cases hd : Nat.blt d e.n with
    | false =>
      have hle : ¬ d < e.n := fun k => by have : Nat.blt d e.n = true := Nat.ble_eq_true_of_le k
                                          rw [this] at hd; cases hd
      simp only [cond_false]
      refine ⟨by simpa using h1, h2, fun k => ?_⟩
      have : a.tmps.setIfInBounds d v' = a.tmps := Array.setIfInBounds_eq_of_size_le (by omega)
      rw [this]; exact h3 k
    | true =>
      have hlt : d < e.n := Nat.le_of_ble_eq_true hd
      simp only [cond_true]
      refine ⟨by simpa using h1, h2, fun k => ?_⟩
      rw [Tr.get_put 24 _ _ _ _ (by have : (2:Nat) ^ 24 = 16777216 := by decide
                                    omega)]
      by_cases hk : k = d
      · subst hk; simp [h1, hlt]; exact hv
      · rw [if_neg hk]
        have := h3 k
        simpa [Array.getElem?_setIfInBounds_ne (Ne.symm hk)] using this
abbrev Ev := Operand → Option Value
def evC (G : Nat) (t : Tr) : Ev
 | .tmp k => some (t.get k)
 | .const v => bif flat 4 v then some v else none
 | .global g => bif Nat.blt g G then some (.pointer (some ⟨g, 0, none⟩)) else none
 | .func f => some (.func (.func f) #[] #[])
theorem evC_sim {N Z G r h w e a} (hR : Rep N Z G r h w) (hE : EnvR Z r e a) {x : Operand} {v : Value} (hv : evC G e.t x = some v) : ValR Z r v (a.eval x) := by
 cases x with
 | tmp k => simp only [evC, Option.some.injEq] at hv; subst hv; exact hE.2.2 k
 | const u =>
  simp only [evC] at hv
  cases hf : flat 4 u with
  | false => rw [hf] at hv; cases hv
  | true => rw [hf] at hv; cases hv; exact flat_refl 4 hf
 | global g =>
  simp only [evC] at hv
  cases hf : Nat.blt g G with
  | false => rw [hf] at hv; cases hv
  | true =>
   rw [hf] at hv; cases hv
   obtain ⟨e, h1, h2, h3⟩ := hR.glo g (Nat.le_of_ble_eq_true hf)
   have := ValR.ptr (Z := Z) (o := 0) h1
   rw [h2, h3] at this
   exact this
 | func f => simp only [evC, Option.some.injEq] at hv; subst hv; exact .func rfl (fun i x y h => by simp at h) rfl (fun i x y h => by simp at h)
def pureRun (P : Program) {α : Type} : Sem α → Option α
 | .pure a => some a
 | .program k => pureRun P (k P)
 | .mark _ k => pureRun P k
 | .choose q k => bif q.forced then pureRun P (k 0) else none
 | _ => none
theorem pureRun_run {P : Program} {α : Type} {s : Sem α} {v : α} (h : pureRun P s = some v) (w : World) : s.run P w = .ok v w := by
 induction s generalizing w with
 | pure a => simp only [pureRun, Option.some.injEq] at h; subst h; rfl
 | program k ih => exact ih _ h w
 | mark m k ih => exact ih h w
 | choose q k ih =>
  simp only [pureRun] at h
  cases hq : q.forced with
  | false => rw [hq] at h; cases h
  | true => rw [hq] at h; simp only [Sem.run, hq, if_true]; exact ih 0 h w
 | _ => simp [pureRun] at h
def PS (P : Program) (Z : TypeId → Nat) (r : Ren) (w0 : World) (rd : Option Nat) (v : Value) (s : Sem Value) : Prop :=
 ∃ v', ValR Z r v v' ∧ ∀ w : World, (∀ n e, rd = some n → r n = some e → w.heap[e.b]? = w0.heap[e.b]?) → s.run P w = .ok v' w
theorem PS.of {P Z r w0 v v' s} (rd : Option Nat) (hv : ValR Z r v v') (h : ∀ w : World, s.run P w = .ok v' w) : PS P Z r w0 rd v s := ⟨v', hv, fun w _ => h w⟩
theorem PS.flat {P Z r w0 v s} {k : Nat} (rd : Option Nat) (hf : Exe.flat k v = true) (h : pureRun P s = some v) : PS P Z r w0 rd v s := ⟨v, flat_refl k hf, fun w _ => pureRun_run h w⟩
theorem cell_of {w : World} {b o : Nat} {cs : Array Value} {t : TypeId} {f : Nat × Nat} (h : w.heap[b]? = some (.cells cs t f)) : w.cell? ⟨b, o, none⟩ = cs[o]? := by simp [World.cell?, h]
theorem load_cells {P : Program} {Z r n e cs t hi ro o'} {w : World} (ho : w.heap[e.b]? = some o') (hO : ObjR Z r n e (.cells cs t hi ro) o') {o k : Nat} (hk : o + k ≤ cs.length) :
  ∃ vs, ValsR Z r ((cs.drop o).take k) vs ∧ vs.length = k ∧ ∀ w1 : World, w1.heap[e.b]? = some o' → (loadCells ⟨e.b, o + e.sh, none⟩ k).run P w1 = .ok vs.toArray w1 := by
 cases o' with
 | cells cs' t' f =>
  obtain ⟨h1, h2, h3, h4, h5, h6, h7⟩ := hO
  refine ⟨(cs'.toList.drop (o + e.sh)).take k, ⟨?_, ?_⟩, ?_, ?_⟩
  ·simp; omega
  ·intro i x y hx hy
   rw [List.getElem?_take] at hx hy
   split at hx
   ·rename_i hi
    rw [if_pos hi] at hy
    rw [List.getElem?_drop] at hx hy
    obtain ⟨v', ha, hb⟩ := h6 _ _ hx
    have : o + e.sh + i = o + i + e.sh := by omega
    rw [this, Array.getElem?_toList, ha] at hy
    cases hy; exact hb
   ·cases hx
  ·simp; omega
  ·intro w1 hw1
   have hl : ((cs'.toList.drop (o + e.sh)).take k).length = k := by simp; omega
   have := run_loadCells_list (P := P) (w := w1) ⟨e.b, o + e.sh, none⟩ ((cs'.toList.drop (o + e.sh)).take k) (fun j v hj => by
    rw [List.getElem?_take] at hj
    split at hj
    ·rw [List.getElem?_drop, Array.getElem?_toList] at hj
     rcases Nat.eq_zero_or_pos j with rfl | hp
     ·simpa [Addr.add, cell_of hw1] using hj
     ·have hj0 : j ≠ 0 := by omega
      simpa [Addr.add, hj0, cell_of hw1] using hj
    ·cases hj)
   rw [hl] at this
   exact this
 | _ => exact hO.elim
end Go.Proofs.YtdkainiiinjgmaaGreatDoor.Exe
namespace Go.Proofs.YtdkainiiinjgmaaGreatDoor.Exe
open Go
abbrev Zp (P : Program) : TypeId → Nat := fun t => ((P.info? t).map (·.size)).getD 0
def szC (P : Program) (t : TypeId) : Option Nat := (P.info? t).map (·.size)
theorem szC_run {P : Program} {t k} (h : szC P t = some k) (w : World) : (sizeOf t).run P w = .ok k w := by
 unfold szC at h
 cases hi : P.info? t with
 | none => rw [hi] at h; cases h
 | some i => rw [hi] at h; cases h; simp [sizeOf, run_typeInfo w hi]
def aggC (P : Program) (t : TypeId) : Option Bool :=
 match P.underlying t with
 | some (.struct _) => some true
 | some (.array _ _) => some true
 | some _ => some false
 | none => none
theorem aggC_run {P : Program} {t k} (h : aggC P t = some k) (w : World) : (isAgg t).run P w = .ok k w := by
 unfold aggC at h
 cases hu : P.underlying t with
 | none => rw [hu] at h; cases h
 | some d =>
  rw [hu] at h
  cases d <;> simp only [Option.some.injEq] at h <;> subst h <;> simp [isAgg, run_underlying hu]
abbrev Res := Option (Option Nat × Value)
def loadC (P : Program) (h : Hp) (t : TypeId) : Value → Res
 | .pointer (some ⟨n, o, none⟩) =>
  match look h n with
  | some (.cells cs _ _ _) =>
   match aggC P t with
   | some true => match szC P t with
    | some k => bif Nat.ble (o + k) cs.length then some (some n, .agg ((cs.drop o).take k).toArray) else none
    | none => none
   | some false => match cs[o]? with
    | some v => some (some n, v)
    | none => none
   | none => none
  | _ => none
 | _ => none
variable {N : Nat → Prop} {P : Program} {G : Nat} {r : Ren} {h : Hp} {w : World}
theorem loadC_sim (hR : Rep N (Zp P) G r h w) {t : TypeId} {v v' : Value} (hv : ValR (Zp P) r v v') {rd x} (hc : loadC P h t v = some (rd, x)) :
  PS P (Zp P) r w rd x (Instr.loadAt t v') := by
 unfold loadC at hc
 split at hc
 case h_2 => cases hc
 rename_i n o
 cases hv with
 | same ha => simp [atom] at ha
 | @ptr _ _ e he =>
  split at hc
  case h_2 => cases hc
  rename_i cs t0 hi ro hl
  obtain ⟨e', he', o', ho', hO⟩ := hR.obj n _ hl
  obtain rfl := Option.some.inj (he'.symm.trans he)
  split at hc
  ·rename_i hag
   split at hc
   case h_2 => cases hc
   rename_i k hk
   cases hb : Nat.ble (o + k) cs.length with
   | false => rw [hb] at hc; cases hc
   | true =>
    rw [hb] at hc; cases hc
    obtain ⟨vs, hvs, hvl, hrun⟩ := load_cells (P := P) ho' hO (Nat.le_of_ble_eq_true hb)
    refine ⟨.agg vs.toArray, .aggL hvs, fun w1 hw1 => ?_⟩
    have := hrun w1 ((hw1 n _ rfl he).trans ho')
    simp [Instr.loadAt, Instr.sureAddr, loadVar, aggC_run hag, szC_run hk, this]
  ·rename_i hag
   split at hc
   case h_2 => cases hc
   rename_i u hu
   cases hc
   cases o' with
   | cells cs' t' f =>
    obtain ⟨h1, h2, h3, h4, h5, h6, h7⟩ := hO
    obtain ⟨u', ha, hb⟩ := h6 _ _ hu
    refine ⟨u', hb, fun w1 hw1 => ?_⟩
    have hw := (hw1 n _ rfl he).trans ho'
    simp [Instr.loadAt, Instr.sureAddr, loadVar, aggC_run hag, load, Sem.run, cell_of hw, ha]
   | _ => exact hO.elim
  ·cases hc
def fieldC (P : Program) (s : TypeId) (f : Nat) : Option Field :=
 match P.underlying s with
 | some (.struct fs) => fs[f]?
 | _ => none
theorem fieldC_run {s : TypeId} {f : Nat} {fd : Field} (hf : fieldC P s f = some fd) : ∃ fs, P.underlying s = some (.struct fs) ∧ fs[f]? = some fd := by
 unfold fieldC at hf
 split at hf
 ·rename_i fs hfs; exact ⟨fs, hfs, hf⟩
 ·cases hf
def fieldAddrC (P : Program) (s : TypeId) (f : Nat) : Value → Res
 | .pointer (some ⟨n, o, none⟩) =>
  match fieldC P s f with
  | some fd => match szC P fd.type with
   | some k => bif Nat.beq k 0 then none else some (none, .pointer (some ⟨n, o + fd.offset, none⟩))
   | none => none
  | none => none
 | _ => none
theorem addr_add (b o k : Nat) : (⟨b, o, none⟩ : Addr).add k = ⟨b, o + k, none⟩ := by
 unfold Addr.add; split
 ·rename_i h; subst h; rfl
 ·rfl
theorem fieldAddrC_sim {s : TypeId} {f : Nat} {v v' : Value} (hv : ValR (Zp P) r v v') {rd x} (hc : fieldAddrC P s f v = some (rd, x)) :
  PS P (Zp P) r w rd x (Instr.fieldAt s v' f) := by
 unfold fieldAddrC at hc
 split at hc
 case h_2 => cases hc
 rename_i n o
 cases hv with
 | same ha => simp [atom] at ha
 | @ptr _ _ e he =>
  split at hc
  case h_2 => cases hc
  rename_i fd hfd
  split at hc
  case h_2 => cases hc
  rename_i k hk
  cases hk0 : Nat.beq k 0 with
  | true => rw [hk0] at hc; cases hc
  | false =>
   rw [hk0] at hc; cases hc
   obtain ⟨fs, hu, hf⟩ := fieldC_run hfd
   have := ValR.ptr (Z := Zp P) (o := o + fd.offset) he
   refine .of _ this (fun w1 => ?_)
   have hne := beq_ne.1 hk0
   have : o + fd.offset + e.sh = o + e.sh + fd.offset := by omega
   simp [Instr.fieldAt, run_underlying hu, hf, Instr.sureAddr, fieldPlace, szC_run hk, hne, addr_add, this]
def partC (P : Program) (t : TypeId) (cs : Array Value) (off : Nat) : Option Value :=
 match aggC P t with
 | some true => match szC P t with
  | some k => some (.agg (cs.extract off (off + k)))
  | none => none
 | some false => cs[off]?
 | none => none
theorem partC_sim {t : TypeId} {xs ys : Array Value} {off : Nat} (h1 : xs.size = ys.size) (h2 : ∀ (i : Nat) x y, xs[i]? = some x → ys[i]? = some y → ValR (Zp P) r x y) {v : Value}
  (hc : partC P t xs off = some v) : ∃ v', ValR (Zp P) r v v' ∧ ∀ w1 : World, (part t ys off).run P w1 = .ok v' w1 := by
 unfold partC at hc
 split at hc
 ·rename_i ha
  split at hc
  case h_2 => cases hc
  rename_i k hk
  cases hc
  refine ⟨.agg (ys.extract off (off + k)), .agg (by simp [h1]) (fun i x y hx hy => ?_), fun w1 => by simp [part, aggC_run ha, szC_run hk]⟩
  rw [Array.getElem?_extract] at hx hy
  split at hx
  ·split at hy
   ·exact h2 _ _ _ hx hy
   ·cases hy
  ·cases hx
 ·rename_i ha
  have hlt : off < ys.size := by rw [← h1]; exact (Array.getElem?_eq_some_iff.1 hc).1
  exact ⟨ys[off], h2 off _ _ hc (by simp [hlt]), fun w1 => by simp [part, aggC_run ha, hlt]⟩
 ·cases hc
def fieldValC (P : Program) (s : TypeId) (f : Nat) : Value → Res
 | .agg cs => match fieldC P s f with
  | some fd => match partC P fd.type cs fd.offset with
   | some v => some (none, v)
   | none => none
  | none => none
 | _ => none
theorem fieldValC_sim {s : TypeId} {f : Nat} {v v' : Value} (hv : ValR (Zp P) r v v') {rd x} (hc : fieldValC P s f v = some (rd, x)) :
  PS P (Zp P) r w rd x (Instr.field s v' f) := by
 unfold fieldValC at hc
 split at hc
 case h_2 => cases hc
 cases hv with
 | same ha => simp [atom] at ha
 | @agg xs ys h1 h2 =>
  split at hc
  case h_2 => cases hc
  rename_i fd hfd
  split at hc
  case h_2 => cases hc
  rename_i u hu
  cases hc
  obtain ⟨fs, hs, hf⟩ := fieldC_run hfd
  obtain ⟨u', hu', hrun⟩ := partC_sim h1 h2 hu
  exact .of _ hu' (fun w1 => by simp [Instr.field, run_underlying hs, hf, asAgg, hrun])
def indexAddrC (P : Program) (t : TypeId) : Value → Value → Res
 | .slice (some ⟨n, o, none⟩) l _, .int _ i =>
  match P.underlying t with
  | some (.slice el) => match szC P el with
   | some k => bif decide (0 ≤ i) && decide (i < (l : Int)) then some (none, .pointer (some ⟨n, o + i.toNat * k, none⟩)) else none
   | none => none
  | _ => none
 | .pointer (some ⟨n, o, none⟩), .int _ i =>
  match P.underlying t with
  | some (.array l el) => match szC P el with
   | some k => bif decide (0 ≤ i) && decide (i < (l : Int)) then some (none, .pointer (some ⟨n, o + i.toNat * k, none⟩)) else none
   | none => none
  | _ => none
 | _, _ => none
theorem indexAddrC_sim {t : TypeId} {v v' i i' : Value} (hv : ValR (Zp P) r v v') (hi : ValR (Zp P) r i i') {rd x} (hc : indexAddrC P t v i = some (rd, x)) :
  PS P (Zp P) r w rd x (Instr.indexAt t v' i') := by
 unfold indexAddrC at hc
 split at hc
 ·rename_i n o l c kk ii
  obtain rfl := atom_eq rfl hi
  cases hv with
  | same ha => simp [atom] at ha
  | @slice _ _ _ _ c' e he _ _ _ =>
   split at hc
   case h_2 => cases hc
   rename_i el hu
   split at hc
   case h_2 => cases hc
   rename_i k hk
   cases hb : (decide (0 ≤ ii) && decide (ii < (l : Int))) with
   | false => rw [hb] at hc; cases hc
   | true =>
    rw [hb] at hc; cases hc
    simp only [Bool.and_eq_true, decide_eq_true_eq] at hb
    refine .of _ (ValR.ptr (o := o + ii.toNat * k) he) (fun w1 => ?_)
    have : o + ii.toNat * k + e.sh = o + e.sh + ii.toNat * k := by omega
    simp [Instr.indexAt, asIntOf, run_underlying hu, hb.1, hb.2, szC_run hk, addr_add, this]
 ·rename_i n o kk ii
  obtain rfl := atom_eq rfl hi
  cases hv with
  | same ha => simp [atom] at ha
  | @ptr _ _ e he =>
   split at hc
   case h_2 => cases hc
   rename_i l el hu
   split at hc
   case h_2 => cases hc
   rename_i k hk
   cases hb : (decide (0 ≤ ii) && decide (ii < (l : Int))) with
   | false => rw [hb] at hc; cases hc
   | true =>
    rw [hb] at hc; cases hc
    simp only [Bool.and_eq_true, decide_eq_true_eq] at hb
    refine .of _ (ValR.ptr (o := o + ii.toNat * k) he) (fun w1 => ?_)
    have : o + ii.toNat * k + e.sh = o + e.sh + ii.toNat * k := by omega
    simp [Instr.indexAt, asIntOf, run_underlying hu, hb.1, hb.2, szC_run hk, addr_add, this, Instr.sureAddr]
 ·cases hc
def fl (P : Program) (s : Sem Value) : Res :=
 match pureRun P s with
 | some v => bif flat 4 v then some (none, v) else none
 | none => none
theorem fl_sim {s : Sem Value} {rd x} (hc : fl P s = some (rd, x)) : PS P (Zp P) r w rd x s := by
 unfold fl at hc
 split at hc
 case h_2 => cases hc
 rename_i v hv
 cases hf : flat 4 v with
 | false => rw [hf] at hc; cases hc
 | true => rw [hf] at hc; cases hc; exact .flat _ hf hv
def lenC (P : Program) (h : Hp) (t : TypeId) : Value → Res
 | .string s => match P.underlying t with
  | some .string => some (none, goInt s.size)
  | _ => none
 | .slice _ l _ => match P.underlying t with
  | some (.slice _) => some (none, goInt l)
  | _ => none
 | .map (some n) => match P.underlying t with
  | some (.map _ _) => match look h n with
   | some (.map es _ _) => some (some n, goInt es.length)
   | _ => none
  | _ => none
 | .map none => match P.underlying t with
  | some (.map _ _) => some (none, goInt 0)
  | _ => none
 | _ => none
theorem lenC_sim (hR : Rep N (Zp P) G r h w) {t ty : TypeId} {ts : Array TypeId} {v v' : Value} {us : Array Value} (ht : ts[0]? = some t) (ha : us[0]? = some v') (hv : ValR (Zp P) r v v') {rd x} (hc : lenC P h t v = some (rd, x)) :
  PS P (Zp P) r w rd x (Builtin.len_ ts ty us) := by
 unfold lenC at hc
 split at hc
 ·obtain rfl := atom_eq rfl hv
  split at hc
  ·rename_i hu; cases hc; exact .of _ (.same rfl) (fun w1 => by simp [Builtin.len_, ht, ha, run_underlying hu])
  ·cases hc
 ·split at hc
  ·rename_i hu; cases hc
   cases hv with
   | same _ => exact .of _ (.same rfl) (fun w1 => by simp [Builtin.len_, ht, ha, run_underlying hu])
   | slice _ _ _ _ => exact .of _ (.same rfl) (fun w1 => by simp [Builtin.len_, ht, ha, run_underlying hu])
   | void _ _ _ => exact .of _ (.same rfl) (fun w1 => by simp [Builtin.len_, ht, ha, run_underlying hu])
  ·cases hc
 ·rename_i n
  split at hc
  case h_2 => cases hc
  rename_i k0 e0 hu
  split at hc
  case h_2 => cases hc
  rename_i es ck ro hl
  cases hc
  cases hv with
  | same hat => simp [atom] at hat
  | @map _ e he =>
   obtain ⟨e', he', o', ho', hO⟩ := hR.obj n _ hl
   obtain rfl := Option.some.inj (he'.symm.trans he)
   cases o' with
   | map es' k' =>
    refine ⟨_, .same rfl, fun w1 hw1 => ?_⟩
    have hw := (hw1 n _ rfl he).trans ho'
    simp [Builtin.len_, ht, ha, run_underlying hu, getObj, Sem.run, hw, hO.2.1]
   | _ => exact hO.elim
 ·obtain rfl := atom_eq rfl hv
  split at hc
  ·rename_i hu; cases hc; exact .of _ (.same rfl) (fun w1 => by simp [Builtin.len_, ht, ha, run_underlying hu])
  ·cases hc
 ·cases hc
def extractC (i : Nat) : Value → Res
 | .tuple vs => match vs[i]? with
  | some v => some (none, v)
  | none => none
 | _ => none
theorem extractC_sim {i : Nat} {v v' : Value} (hv : ValR (Zp P) r v v') {rd x} (hc : extractC i v = some (rd, x)) : PS P (Zp P) r w rd x (Instr.extract v' i) := by
 unfold extractC at hc
 split at hc
 case h_2 => cases hc
 cases hv with
 | same ha => simp [atom] at ha
 | @tuple xs ys h1 h2 =>
  split at hc
  case h_2 => cases hc
  rename_i u hu
  cases hc
  have hlt : i < ys.size := by rw [← h1]; exact (Array.getElem?_eq_some_iff.1 hu).1
  exact .of (v' := ys[i]) _ (h2 i _ _ hu (by simp [hlt])) (fun w1 => by simp [Instr.extract, hlt])
end Go.Proofs.YtdkainiiinjgmaaGreatDoor.Exe
