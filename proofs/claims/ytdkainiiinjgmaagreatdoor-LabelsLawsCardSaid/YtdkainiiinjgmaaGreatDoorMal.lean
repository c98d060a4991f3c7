import Derived.Test.YtdkainiiinjgmaaGreatDoorMak
import Derived.Lib.Bytealg
import Derived.Deep.AppendLies
import Derived.Deep.RegionHeld3
import Derived.Deep.DeepCutAuto
import Derived.Deep.CutBlock
import Derived.BigRegion
import Derived.Lib.ItoaLen
import Derived.Lib.SlBytesRow
import Derived.Lib.ItoaNum
import Derived.Lib.AtoiAllCases
import Derived.Laws.AppendOwn
import Derived.OwnWalk
import Derived.Lib.ReplaceLaws
import Derived.Lib.SplitLaws
import Derived.Shelf.SlicesE.DeleteFunc
import Derived.RangeFuncWrites
import Derived.RangeFuncLeaves
import Derived.RangeFuncBox
import Derived.OwnWalkIn
import Derived.OrdersIn
import Derived.RangeFuncNested
import Derived.RangeFuncBound
import Derived.RangeFuncCalls
import Derived.Shelf.Abstract
import Derived.Shelf.RegionOpen
import Derived.WalkKit
import Derived.TacticsInMore
import Derived.LoopNIn
import Derived.LoopIn
import Derived.Maps.AppendAt
import Derived.Shelf.Small.Strs
import Derived.Test.YtdkainiiinjgmaaGreatDoorLays
import Derived.Shelf.Strings.Prefix
import Derived.Shelf.Strings.Search3
import Derived.Shelf.Strings.Replace
import Derived.Laws.MakeOwn
import Derived.StillTailTactics
namespace Go.Proofs.YtdkainiiinjgmaaGreatDoor
open Go.RowKit Go.Shelf
def OwnRules (B : Nat) (w : World) (v : Value) (xs : List RuleS) : Prop := ∃ rows, w.ownsRow B 53 5 v rows.length rows.flatten ∧ AllA (RuleA (AvOf B v) w) rows xs
theorem OwnRules.below {B : Nat} {w w' : World} {v : Value} {xs : List RuleS} (h : OwnRules B w v xs) (hb : Below w.heap.size w w') : OwnRules B w' v xs := by
 obtain ⟨rows, h1, h2⟩ := h
 exact ⟨rows, World.ownsRow.kept (row := none) h1 ⟨hb.os, hb.tape, hb.output, hb.size, fun k hk _ => hb.block k hk⟩ (by cases h : Value.ownBlock _ <;> simp), h2.imp fun r x h => h.keep (fr_below hb)⟩
theorem OwnRules.fr {B : Nat} {w w' : World} {v : Value} {xs : List RuleS} {Av : Nat → Prop} (h : OwnRules B w v xs) (hf : Fr Av w w') (h1 : ∀ b, Av b → AvOf B v b) (h2 : ∀ b, v.ownBlock = some b → ¬ Av b) : OwnRules B w' v xs := by
 obtain ⟨rows, hr, ha⟩ := h
 refine ⟨rows, ?_, ha.imp fun r x h => h.keep (hf.mono fun b _ e => h1 b e)⟩
 refine ⟨hr.1, ?_⟩
 rcases hr.2 with hn | ⟨g, cap, cur, rfl, hb, hg, rest⟩
 ·exact .inl hn
 ·exact .inr ⟨g, cap, cur, rfl, hb, (hf.block g (Array.getElem?_eq_some_iff.1 hg).1 (h2 g rfl)).trans hg, rest⟩
theorem OwnRules.len {B : Nat} {w : World} {v : Value} {xs : List RuleS} (h : OwnRules B w v xs) : ∃ a c, v = .slice a xs.length c := by
 obtain ⟨rows, h1, h2⟩ := h
 rcases h1.2 with ⟨rfl, h0⟩ | ⟨g, cap, cur, rfl, _⟩
 ·exact ⟨none, 0, by rw [← h2.1, h0]⟩
 ·exact ⟨_, cap, by rw [h2.1]⟩
theorem OwnRules.lt {B : Nat} {w : World} {v : Value} {xs : List RuleS} (h : OwnRules B w v xs) : ∀ b, v.ownBlock = some b → B ≤ b ∧ b < w.heap.size := by
 obtain ⟨rows, h1, _⟩ := h
 exact fun b e => h1.lt b e
end Go.Proofs.YtdkainiiinjgmaaGreatDoor
namespace Go.Proofs.YtdkainiiinjgmaaGreatDoor
open Go.Lib
def cmpF (f : ByteArray × ByteArray) (x : ByteArray) : Int := compareBytes f.1.data.toList x.data.toList
def Sorted (fs : List (ByteArray × ByteArray)) : Prop := fs.Pairwise fun f g => cmpF f g.1 < 0
end Go.Proofs.YtdkainiiinjgmaaGreatDoor
namespace Go.Proofs.YtdkainiiinjgmaaGreatDoor
open Go.RowKit
def IsFiles (w : World) (v : Value) (fs : List F2) : Prop :=
 ∃ a c, v = .slice a fs.length c ∧ fs.length ≤ c ∧ c ≤ maxLen ∧ (fs ≠ [] → ∃ b o, a = some ⟨b, o, none⟩ ∧ b < w.heap.size ∧ ∀ (j : Nat) x, fs[j]? = some x → w.cell? ⟨b, o + j * 2, none⟩ = some (.string x.1) ∧ w.cell? ⟨b, o + j * 2 + 1, none⟩ = some (.string x.2))
theorem IsFiles.below {w w' : World} {v : Value} {fs : List F2} (h : IsFiles w v fs) (hb : Below w.heap.size w w') : IsFiles w' v fs := by
 obtain ⟨a, c, rfl, h1, h1m, h2⟩ := h
 refine ⟨a, c, rfl, h1, h1m, fun hne => ?_⟩
 obtain ⟨b, o, rfl, h3, h4⟩ := h2 hne
 exact ⟨b, o, rfl, Nat.lt_of_lt_of_le h3 hb.size, fun j x hx => ⟨(hb.cell h3).trans (h4 j x hx).1, (hb.cell h3).trans (h4 j x hx).2⟩⟩
theorem fileCells_at (fs : List F2) : ∀ (j : Nat) (x : F2), fs[j]? = some x → (fileCells fs)[j * 2]? = some (.string x.1) ∧ (fileCells fs)[j * 2 + 1]? = some (.string x.2) := by
 induction fs with
 | nil => intro j x h; simp at h
 | cons f fs ih =>
  intro j x h
  rw [fileCells_cons]
  cases j with
  | zero => simp at h; subst h; simp
  | succ j => rw [Nat.add_mul]; simpa using ih j x (by simpa using h)
theorem OwnF.files {w : World} {B : Nat} {r : Option Nat} {v : Value} {fs : List F2} (h : OwnF w B r v fs) : IsFiles w v fs := by
 rcases h with ⟨hown, rfl⟩ | ⟨rfl, rfl, a, rfl⟩
 ·obtain ⟨hl, ⟨rfl, h0⟩ | ⟨g, c, cur, rfl, hgB, hg, hnc, hcm, hcs, htk⟩⟩ := hown
  ·obtain rfl := List.eq_nil_of_length_eq_zero h0
   exact ⟨none, 0, rfl, by simp, by simp [maxLen], fun h => absurd rfl h⟩
  ·refine ⟨_, c, rfl, hnc, hcm, fun _ => ⟨g, 0, rfl, ?_, fun j x hx => ?_⟩⟩
   ·rcases Nat.lt_or_ge g w.heap.size with h | h
    ·exact h
    ·rw [Array.getElem?_eq_none h] at hg; cases hg
   ·have key : ∀ (t : Nat) u, (fileCells fs)[t]? = some u → w.cell? ⟨g, t, none⟩ = some u := by
     intro t u hu
     rw [← htk, List.getElem?_take] at hu
     split at hu
     ·simp only [World.cell?, hg]; simpa using hu
     ·cases hu
    have := fileCells_at fs j x hx
    rw [Nat.zero_add]
    exact ⟨key _ _ this.1, key _ _ this.2⟩
 ·exact ⟨a, 0, rfl, by simp, by simp [maxLen], fun h => absurd rfl h⟩
end Go.Proofs.YtdkainiiinjgmaaGreatDoor
namespace Go.Proofs.YtdkainiiinjgmaaGreatDoor
open Go.RowKit
def IsTree (w : World) (B b : Nat) (r : Option Nat) (fs : List F2) : Prop :=
 B ≤ b ∧ Sorted fs ∧ fs.length ≤ 60 ∧ ∃ v, w.heap[b]? = some (.cells #[v] 157 (0, 0)) ∧ OwnF w B r v fs
theorem OwnF.kept {w w' : World} {B : Nat} {r row : Option Nat} {v : Value} {fs : List F2} (h : OwnF w B r v fs) (hg : w.grownBy w' row) (hne : r = none ∨ r ≠ row) : OwnF w' B r v fs := by
 rcases h with ⟨hown, rfl⟩ | ⟨rfl, rfl, a, rfl⟩
 ·exact .inl ⟨hown.kept hg hne, rfl⟩
 ·exact .inr ⟨rfl, rfl, a, rfl⟩
theorem OwnF.shape {w : World} {B : Nat} {r : Option Nat} {v : Value} {fs : List F2} (h : OwnF w B r v fs) : ∃ a c, v = .slice a fs.length c ∧ fs.length ≤ c ∧ c ≤ maxLen := by
 obtain ⟨a, c, hv, h1, h2, _⟩ := h.files
 exact ⟨a, c, hv, h1, h2⟩
theorem OwnF.lt {w : World} {B : Nat} {r : Option Nat} {v : Value} {fs : List F2} (h : OwnF w B r v fs) {k : Nat} (hk : r = some k) : B ≤ k ∧ k < w.heap.size := by
 rcases h with ⟨hown, rfl⟩ | ⟨rfl, rfl, a, rfl⟩
 ·exact hown.lt k hk
 ·cases hk
theorem block_lt {w : World} {b : Nat} {o : Obj} (h : w.heap[b]? = some o) : b < w.heap.size := by
 rcases Nat.lt_or_ge b w.heap.size with h' | h'
 ·exact h'
 ·rw [Array.getElem?_eq_none h'] at h; cases h
theorem grown_below {w w' : World} (h : Below w.heap.size w w') (row : Option Nat) : w.grownBy w' row := ⟨h.os, h.tape, h.output, h.size, fun k hk _ => h.block k hk⟩
theorem IsTree.below {w w' : World} {B b : Nat} {r : Option Nat} {fs : List F2} (h : IsTree w B b r fs) (hb : Below w.heap.size w w') : IsTree w' B b r fs := by
 obtain ⟨h1, h2, h3, v, h4, h5⟩ := h
 exact ⟨h1, h2, h3, v, (hb.block b (block_lt h4)).trans h4, h5.kept (grown_below hb none) (by cases r <;> simp)⟩
theorem IsTree.ptr {w : World} {B b : Nat} {r : Option Nat} {fs : List F2} (h : IsTree w B b r fs) : ∃ a c, w.heap[b]? = some (.cells #[.slice a fs.length c] 157 (0, 0)) ∧ OwnF w B r (.slice a fs.length c) fs ∧ fs.length ≤ c ∧ c ≤ maxLen := by
 obtain ⟨_, _, _, v, h4, h5⟩ := h
 obtain ⟨a, c, rfl, h6, h7⟩ := h5.shape
 exact ⟨a, c, h4, h5, h6, h7⟩
theorem all_any (b n c : Nat) (a : Option Addr) (w : World) (h : w.heap[b]? = some (.cells #[.slice a n c] 157 (0, 0))) :
  Calls Tryz.prog 207 #[.pointer (some ⟨b, 0, none⟩)] w fun e w' => e = .returned (.slice a n c) ∧ w = w' := by
 have hc : w.cell? ⟨b, 0, none⟩ = some (.slice a n c) := by simp [World.cell?, h]
 clear h
 go_enter Tryz.func207, Tryz.ntmps207
 go_wp2
 go_ret
 exact ⟨rfl, rfl⟩
end Go.Proofs.YtdkainiiinjgmaaGreatDoor
namespace Go.Proofs.YtdkainiiinjgmaaGreatDoor
open Go.RowKit
def GB (B : Nat) : Prop := 1 < B ∧ 2 < B ∧ 3 < B ∧ 4 < B
theorem GB.mono {B B' : Nat} (h : GB B) (hB : B ≤ B') : GB B' := by
 obtain ⟨h1, h2, h3, h4⟩ := h
 exact ⟨by omega, by omega, by omega, by omega⟩
theorem Glob.gb {w : World} (h : Glob w) : GB w.heap.size := by
 obtain ⟨⟨m, hm⟩, ht, htop, ⟨t1, p1, h1⟩, ⟨t2, p2, h2⟩⟩ := h
 exact ⟨cell_lt hm, htop, cell_lt h1, cell_lt h2⟩
theorem Glob.low {w w' : World} {B : Nat} (h : Glob w) (hB : GB B) (hb : Below B w w') : Glob w' := by
 obtain ⟨⟨m, hm⟩, ht, htop, ⟨t1, p1, h1⟩, ⟨t2, p2, h2⟩⟩ := h
 exact ⟨⟨m, (hb.cell hB.1).trans hm⟩, var?_below hb (by kernel_rfl) hB.2.1 ht, Nat.lt_of_lt_of_le htop hb.size, ⟨t1, p1, (hb.cell hB.2.2.1).trans h1⟩, ⟨t2, p2, (hb.cell hB.2.2.2).trans h2⟩⟩
structure Frame2 (w w' : World) (b : Nat) (r : Option Nat) : Prop where
 os : w'.os = w.os
 tape : w'.tape = w.tape
 output : w'.output = w.output
 size : w.heap.size ≤ w'.heap.size
 block : ∀ k, k < w.heap.size → k ≠ b → some k ≠ r → w'.heap[k]? = w.heap[k]?
theorem Frame2.of_below {w w' : World} (h : Below w.heap.size w w') (b : Nat) (r : Option Nat) : Frame2 w w' b r := ⟨h.os, h.tape, h.output, h.size, fun k hk _ _ => h.block k hk⟩
theorem Frame2.trans {a b c : World} {k : Nat} {r r' : Option Nat} (h : Frame2 a b k r) (h' : Frame2 b c k r') (hr : r' = r ∨ ∃ g, r' = some g ∧ a.heap.size ≤ g) : Frame2 a c k r := by
 refine ⟨h'.os.trans h.os, h'.tape.trans h.tape, h'.output.trans h.output, Nat.le_trans h.size h'.size, fun j hj h1 h2 => ?_⟩
 refine (h'.block j (Nat.lt_of_lt_of_le hj h.size) h1 ?_).trans (h.block j hj h1 h2)
 rcases hr with rfl | ⟨g, rfl, hg⟩
 ·exact h2
 ·intro e; injection e with e; omega
theorem Frame2.below {w w' : World} {b B : Nat} {r : Option Nat} (h : Frame2 w w' b r) (hB : B ≤ w.heap.size) (hb : B ≤ b) (hr : ∀ k, r = some k → B ≤ k) : Below B w w' :=
 ⟨h.os, h.tape, h.output, h.size, fun k hk => h.block k (by omega) (by omega) (fun e => by have := hr k e.symm; omega)⟩
theorem OwnF.ne {w : World} {B b : Nat} {r : Option Nat} {v : Value} {fs : List F2} {cs : Array Value} (h : OwnF w B r v fs) (hb : w.heap[b]? = some (.cells cs 157 (0, 0))) : r ≠ some b := by
 rcases h with ⟨⟨_, ⟨rfl, _⟩ | ⟨g, c, cur, rfl, _, hg, _⟩⟩, rfl⟩ | ⟨_, rfl, _⟩
 ·simp [Value.ownBlock]
 ·intro e
  injection e with e
  subst e
  rw [hb] at hg; simp at hg
 ·simp
end Go.Proofs.YtdkainiiinjgmaaGreatDoor
namespace Go.Proofs.YtdkainiiinjgmaaGreatDoor
open Go.RowKit
theorem IsTree.rlt {w : World} {B b : Nat} {r : Option Nat} {fs : List F2} (h : IsTree w B b r fs) : (∀ k, r = some k → B ≤ k ∧ k < w.heap.size) ∧ B ≤ b ∧ b < w.heap.size := by
 obtain ⟨h1, _, _, v, h4, h5⟩ := h
 exact ⟨fun k hk => h5.lt hk, h1, block_lt h4⟩
theorem IsTree.low {w : World} {B B' b : Nat} {r : Option Nat} {fs : List F2} (h : IsTree w B b r fs) (hB : B' ≤ B) : IsTree w B' b r fs := by
 obtain ⟨h1, h2, h3, v, h4, h5⟩ := h
 refine ⟨Nat.le_trans hB h1, h2, h3, v, h4, ?_⟩
 rcases h5 with ⟨h5, h6⟩ | h5
 ·exact .inl ⟨own_mono h5 hB, h6⟩
 ·exact .inr h5
def AllIs (p : Value) (a : Option Addr) (c : Nat) (fs : List F2) (w : World) : Prop :=
 ∀ w', Below w.heap.size w w' → Calls Tryz.prog 207 #[p] w' fun e w'' => e = .returned (.slice a fs.length c) ∧ w' = w''
theorem IsTree.all {w : World} {B b : Nat} {r : Option Nat} {fs : List F2} (h : IsTree w B b r fs) : ∃ a c, AllIs (.pointer (some ⟨b, 0, none⟩)) a c fs w ∧ IsFiles w (.slice a fs.length c) fs := by
 obtain ⟨a, c, hb, hown, hc, hcm⟩ := h.ptr
 exact ⟨a, c, fun w' hw => all_any b fs.length c a w' ((hw.block b (block_lt hb)).trans hb), hown.files⟩
theorem AllIs.below {p : Value} {a : Option Addr} {c : Nat} {fs : List F2} {w w' : World} (h : AllIs p a c fs w) (hb : Below w.heap.size w w') : AllIs p a c fs w' :=
 fun w'' h'' => h w'' (hb.trans (h''.mono hb.size))
end Go.Proofs.YtdkainiiinjgmaaGreatDoor
namespace Go.Proofs.YtdkainiiinjgmaaGreatDoor
open Go.RowKit
def cutPartS (s : List UInt8) : Option (List UInt8 × List UInt8) :=
 if (Lib.cut s [58]).2.2 then
  if (getNum (Lib.cut s [58]).1 (Lib.cut s [58]).2.1.length).2 then
   some ((Lib.cut s [58]).2.1.take (getNum (Lib.cut s [58]).1 (Lib.cut s [58]).2.1.length).1.toNat, (Lib.cut s [58]).2.1.drop (getNum (Lib.cut s [58]).1 (Lib.cut s [58]).2.1.length).1.toNat)
  else none
 else none
end Go.Proofs.YtdkainiiinjgmaaGreatDoor
namespace Go.Proofs.YtdkainiiinjgmaaGreatDoor
open Go.RowKit
theorem cut_miss {s : List UInt8} {d : UInt8} (h : d ∉ s) : Lib.cut s [d] = (s, [], false) := by
 unfold Lib.cut
 rw [index_miss h, if_neg (by decide)]
theorem cut_hit {a b : List UInt8} {d : UInt8} (h : d ∉ a) : Lib.cut (a ++ d :: b) [d] = (a, b, true) := by
 unfold Lib.cut
 rw [index_hit h, if_pos (Int.natCast_nonneg _)]
 simp only [Int.toNat_natCast, List.length_cons, List.length_nil, Nat.zero_add, drop_hit]
 simp
theorem cutPartS_miss {s : List UInt8} (h : 58 ∉ s) : cutPartS s = none := by
 unfold cutPartS
 rw [cut_miss h]; rfl
theorem cutPartS_hit {a b : List UInt8} (h : 58 ∉ a) : cutPartS (a ++ 58 :: b) = if (getNum a b.length).2 then some (b.take (getNum a b.length).1.toNat, b.drop (getNum a b.length).1.toNat) else none := by
 unfold cutPartS
 rw [cut_hit h]; rfl
theorem cutPartS_lt {s p q : List UInt8} (h : cutPartS s = some (p, q)) : q.length < s.length := by
 rcases first_of 58 s with hs | ⟨a, b, rfl, ha⟩
 ·rw [cutPartS_miss hs] at h; cases h
 ·rw [cutPartS_hit ha] at h
  split at h
  ·injection h with h
   injection h with h1 h2
   rw [← h2]
   simp; omega
  ·cases h
def getF : Nat → List UInt8 → Option (List (List UInt8))
 | 0, _ => none
 | f + 1, s => if s = [] then some [] else match cutPartS s with
  | none => none
  | some (p, q) => (getF f q).map (p :: ·)
theorem getF_fuel : ∀ (f : Nat) (s : List UInt8), s.length < f → ∀ f', s.length < f' → getF f s = getF f' s
 | 0, s, h, _, _ => absurd h (by omega)
 | f + 1, s, h, 0, h' => absurd h' (by omega)
 | f + 1, s, h, f' + 1, h' => by
  unfold getF
  split
  ·rfl
  ·cases hc : cutPartS s with
   | none => rfl
   | some pq =>
    obtain ⟨p, q⟩ := pq
    have := cutPartS_lt hc
    simp only
    rw [getF_fuel f q (by omega) f' (by omega)]
def getS (s : List UInt8) : Option (List (List UInt8)) := getF (s.length + 1) s
theorem getS_nil : getS [] = some [] := rfl
theorem getS_none {s : List UInt8} (h0 : s ≠ []) (h : cutPartS s = none) : getS s = none := by
 rw [getS, getF, if_neg h0, h]
theorem getS_some {s p q : List UInt8} (h0 : s ≠ []) (h : cutPartS s = some (p, q)) : getS s = (getS q).map (p :: ·) := by
 rw [getS, getF, if_neg h0, h]
 have := cutPartS_lt h
 simp only
 rw [getF_fuel s.length q (by omega) (q.length + 1) (by omega)]
 rfl
def GetAt (s cur : List UInt8) (done : List ByteArray) : Prop :=
 getS s = (getS cur).map (done.map (·.data.toList) ++ ·) ∧ done.length + cur.length ≤ s.length
theorem GetAt.none {s cur : List UInt8} {done : List ByteArray} (h : GetAt s cur done) (h0 : cur ≠ []) (hc : cutPartS cur = none) : getS s = none := by
 rw [h.1, getS_none h0 hc]; rfl
theorem GetAt.next {s cur p q : List UInt8} {done : List ByteArray} (h : GetAt s cur done) (h0 : cur ≠ []) (hc : cutPartS cur = some (p, q)) : GetAt s q (done ++ [⟨p.toArray⟩]) := by
 have h1 := h.1
 have h2 := h.2
 have h3 := cutPartS_lt hc
 refine ⟨?_, by simp; omega⟩
 rw [h1, getS_some h0 hc, Option.map_map]
 congr 1
 funext l
 simp
theorem GetAt.done {s : List UInt8} {done : List ByteArray} (h : GetAt s [] done) : getS s = some (done.map (·.data.toList)) := by
 rw [h.1, getS_nil]; simp
end Go.Proofs.YtdkainiiinjgmaaGreatDoor
namespace Go.Proofs.YtdkainiiinjgmaaGreatDoor
open Go.RowKit
def RowAt (w : World) (B : Nat) (v : Value) (fs : List F2) : Prop := w.ownsRow B 109 2 v fs.length (fileCells fs)
def Apart (v : Value) (b : Nat) (r : Option Nat) : Prop := ∀ g, v.ownBlock = some g → g ≠ b ∧ r ≠ some g
theorem RowAt.below {w w' : World} {B : Nat} {v : Value} {fs : List F2} (h : RowAt w B v fs) (hb : Below w.heap.size w w') : RowAt w' B v fs := World.ownsRow.kept h (grown_below hb none) (by cases Value.ownBlock v <;> simp)
theorem RowAt.files {w : World} {B : Nat} {v : Value} {fs : List F2} (h : RowAt w B v fs) : IsFiles w v fs := OwnF.files (.inl ⟨h, rfl⟩)
theorem RowAt.new {w : World} {B b : Nat} {v : Value} {fs T : List F2} {r : Option Nat} (h : RowAt w B v fs) (w' : World) (ht : IsTree w' w.heap.size b r T) : Apart v b r := by
 intro g hg
 have := World.ownsRow.lt h g hg
 obtain ⟨h1, h2, _⟩ := ht.rlt
 exact ⟨by omega, fun e => by have := (h1 g e).1; omega⟩
theorem IsTree.grown {w w' : World} {B b : Nat} {r row : Option Nat} {fs : List F2} (h : IsTree w B b r fs) (hg : w.grownBy w' row) (hb : some b ≠ row) (hr : r = none ∨ r ≠ row) : IsTree w' B b r fs := by
 obtain ⟨h1, h2, h3, v, h4, h5⟩ := h
 exact ⟨h1, h2, h3, v, (hg.block b (block_lt h4) hb).trans h4, h5.kept hg hr⟩
theorem RowAt.after {w w' : World} {B b : Nat} {r : Option Nat} {v : Value} {fs T : List F2} (h : RowAt w' w.heap.size v fs) (ht : IsTree w B b r T) (hg : w.grownBy w' none) : IsTree w' B b r T ∧ Apart v b r := by
 refine ⟨ht.grown hg (by simp) (by cases r <;> simp), fun g hgv => ?_⟩
 have := World.ownsRow.lt h g hgv
 obtain ⟨h1, h2, h3⟩ := ht.rlt
 exact ⟨by omega, fun e => by have := (h1 g e).2; omega⟩
theorem Apart.tree {w w' : World} {B b : Nat} {r : Option Nat} {v : Value} {T : List F2} (h : Apart v b r) (ht : IsTree w B b r T) (hg : w.grownBy w' v.ownBlock) : IsTree w' B b r T := by
 refine ht.grown hg (fun e => (h b e.symm).1 rfl) ?_
 cases r with
 | none => exact .inl rfl
 | some g => exact .inr fun e => (h g e.symm).2 rfl
def BothT (wr w : World) (b1 b2 : Nat) (r1 r2 : Option Nat) (T U : List F2) : Prop :=
 ∃ B1 B2, IsTree w B1 b1 r1 T ∧ IsTree w B2 b2 r2 U ∧ b1 < B2 ∧ (∀ k, r1 = some k → k < B2) ∧ Below wr.heap.size wr w ∧ wr.heap.size ≤ B1 ∧ wr.heap.size ≤ B2
theorem BothT.below {wr w w' : World} {b1 b2 : Nat} {r1 r2 : Option Nat} {T U : List F2} (h : BothT wr w b1 b2 r1 r2 T U) (hb : Below w.heap.size w w') : BothT wr w' b1 b2 r1 r2 T U := by
 obtain ⟨B1, B2, h1, h2, h3, h4, h5, h6⟩ := h
 exact ⟨B1, B2, h1.below hb, h2.below hb, h3, h4, h5.trans (hb.mono h5.size), h6⟩
end Go.Proofs.YtdkainiiinjgmaaGreatDoor
namespace Go.Proofs.YtdkainiiinjgmaaGreatDoor
open Go.RowKit Go.Shelf
def SmallL (xs : List ByteArray) (m : Nat) : Prop := xs.length ≤ m ∧ ∀ x ∈ xs, x.size ≤ m
theorem SmallL.mono {xs : List ByteArray} {m m' : Nat} (h : SmallL xs m) (hm : m ≤ m') : SmallL xs m' := ⟨by have := h.1; omega, fun x hx => by have := h.2 x hx; omega⟩
def StepI (w : World) (r : List Value) (x : StepS) : Prop := ∃ va vl, r = [.string x.out, .int .i64 x.op, va, vl, .int .i64 x.n] ∧ IsStrs w va x.args ∧ IsStrs w vl x.lits
def StepsI (w : World) (v : Value) (xs : List StepS) : Prop := ∃ rows, IsRow w v 5 rows ∧ AllA (StepI w) rows xs
def RuleI (w : World) (r : List Value) (x : RuleS) : Prop := ∃ vi vo vf vs, r = [.string x.name, vi, vo, vf, vs] ∧ IsStrs w vi x.ins ∧ IsStrs w vo x.outs ∧ IsStrs w vf x.after ∧ StepsI w vs x.steps
def RulesI (w : World) (v : Value) (xs : List RuleS) : Prop := ∃ rows, IsRow w v 5 rows ∧ AllA (RuleI w) rows xs
def Int64 (n : Int) : Prop := -9223372036854775808 ≤ n ∧ n ≤ 9223372036854775807
structure SmallS (x : StepS) (m : Nat) : Prop where
 out : x.out.size ≤ m
 args : SmallL x.args m
 lits : SmallL x.lits m
 op : Int64 x.op
 n : Int64 x.n
structure SmallR (x : RuleS) (m : Nat) : Prop where
 name : x.name.size ≤ m
 ins : SmallL x.ins m
 outs : SmallL x.outs m
 after : SmallL x.after m
 few : x.steps.length ≤ m
 steps : ∀ y ∈ x.steps, SmallS y m
theorem SmallS.mono {x : StepS} {m m' : Nat} (h : SmallS x m) (hm : m ≤ m') : SmallS x m' := ⟨Nat.le_trans h.out hm, h.args.mono hm, h.lits.mono hm, h.op, h.n⟩
theorem SmallR.mono {x : RuleS} {m m' : Nat} (h : SmallR x m) (hm : m ≤ m') : SmallR x m' := ⟨Nat.le_trans h.name hm, h.ins.mono hm, h.outs.mono hm, h.after.mono hm, Nat.le_trans h.few hm, fun y hy => (h.steps y hy).mono hm⟩
theorem StepsI.below {w w' : World} {v : Value} {xs : List StepS} (h : StepsI w v xs) (hb : Below w.heap.size w w') : StepsI w' v xs := by
 obtain ⟨rows, h1, h2⟩ := h
 exact ⟨rows, h1.below hb, h2.imp fun r x h => by obtain ⟨va, vl, rfl, ha, hl⟩ := h; exact ⟨va, vl, rfl, ha.below hb, hl.below hb⟩⟩
theorem RuleI.below {w w' : World} {r : List Value} {x : RuleS} (h : RuleI w r x) (hb : Below w.heap.size w w') : RuleI w' r x := by
 obtain ⟨vi, vo, vf, vs, rfl, h1, h2, h3, h4⟩ := h
 exact ⟨vi, vo, vf, vs, rfl, h1.below hb, h2.below hb, h3.below hb, h4.below hb⟩
theorem RulesI.below {w w' : World} {v : Value} {xs : List RuleS} (h : RulesI w v xs) (hb : Below w.heap.size w w') : RulesI w' v xs := by
 obtain ⟨rows, h1, h2⟩ := h
 exact ⟨rows, h1.below hb, h2.imp fun r x h => h.below hb⟩
end Go.Proofs.YtdkainiiinjgmaaGreatDoor
namespace Go.Proofs.YtdkainiiinjgmaaGreatDoor
open Go.RowKit Go.Shelf
def OpenV (w : World) (v : Value) : Prop := ∀ b, v.ownBlock = some b → ∀ i, w.frozen? ⟨b, i, none⟩ = false
theorem OpenV.keep {Av : Nat → Prop} {w w' : World} {v : Value} (h : OpenV w v) (hb : ∀ b, v.ownBlock = some b → b < w.heap.size ∧ ¬ Av b) (hf : Fr Av w w') : OpenV w' v :=
 fun b e i => (World.frozen?_of_block (hf.block b (hb b e).1 (hb b e).2)).trans (h b e i)
def StrsO (Av : Nat → Prop) (w : World) (v : Value) (xs : List ByteArray) : Prop := StrsA Av w v xs ∧ OpenV w v
theorem StrsO.keep {Av : Nat → Prop} {w w' : World} {v : Value} {xs : List ByteArray} (h : StrsO Av w v xs) (hf : Fr Av w w') : StrsO Av w' v xs := ⟨RowA.keep h.1 hf, h.2.keep h.1.2 hf⟩
def StrsW (Av : Nat → Prop) (w : World) (v : Value) (xs : List ByteArray) : Prop := StrsO Av w v xs ∧ w.ownsRow 0 9 1 v xs.length (xs.map Value.string)
theorem own_heap {w w' : World} {B e size : Nat} {v : Value} {n : Nat} {xs : List Value} (h : w.ownsRow B e size v n xs) (hb : ∀ b, v.ownBlock = some b → w'.heap[b]? = w.heap[b]?) : w'.ownsRow B e size v n xs := by
 obtain ⟨hl, h⟩ := h
 refine ⟨hl, ?_⟩
 rcases h with h | ⟨g, c, cur, rfl, h1, hg, r⟩
 ·exact .inl h
 ·exact .inr ⟨g, c, cur, rfl, h1, (hb g rfl).trans hg, r⟩
theorem StrsW.keep {Av : Nat → Prop} {w w' : World} {v : Value} {xs : List ByteArray} (h : StrsW Av w v xs) (hf : Fr Av w w') : StrsW Av w' v xs := ⟨StrsO.keep h.1 hf, own_heap h.2 fun b e => hf.block b (h.1.1.2 b e).1 (h.1.1.2 b e).2⟩
theorem StrsO.mono {Av Av' : Nat → Prop} {w : World} {v : Value} {xs : List ByteArray} (h : StrsO Av w v xs) (hm : ∀ b, b < w.heap.size → Av' b → Av b) : StrsO Av' w v xs := ⟨RowA.mono h.1 hm, h.2⟩
theorem StrsW.mono {Av Av' : Nat → Prop} {w : World} {v : Value} {xs : List ByteArray} (h : StrsW Av w v xs) (hm : ∀ b, b < w.heap.size → Av' b → Av b) : StrsW Av' w v xs := ⟨StrsO.mono h.1 hm, h.2⟩
theorem below_grown0 {B : Nat} {w0 w w' : World} (h : Below B w0 w) (hg : w.grownBy w' none) (hB : B ≤ w.heap.size) : Below B w0 w' := h.grown hg hB (fun k e => by cases e)
end Go.Proofs.YtdkainiiinjgmaaGreatDoor
namespace Go.Proofs.YtdkainiiinjgmaaGreatDoor
section
variable {P : Program} {ops : Array Oper} {Q : Exit → Act → World → Prop} {md : Region.Mode} {S : Bool → World → Prop} {st : Nat}
def wpAnyS (P : Program) (md : Region.Mode) (ops : Array Oper) (Q : Exit → Act → World → Prop) (S : Bool → World → Prop) (st : Nat) : Nat → Array Bool → Act → World → Prop
 | 0, listed, a, w => Region.ready md ops listed = [] ∧ Q .normal a w
 | fuel + 1, listed, a, w =>
  (Region.ready md ops listed = [] → Q .normal a w) ∧
  ∀ i ∈ Region.ready md ops listed, wpOp P ops Q i (fun a' w' => S ((listed.setIfInBounds i true).getD st false) w' ∧ wpAnyS P md ops Q S st fuel (listed.setIfInBounds i true) a' w') a w
def AllReadyS (P : Program) (md : Region.Mode) (ops : Array Oper) (Q : Exit → Act → World → Prop) (S : Bool → World → Prop) (st fuel : Nat) (listed : Array Bool) (a : Act) (w : World) (rs : List Nat) : Prop :=
 ∀ i ∈ rs, wpOp P ops Q i (fun a' w' => S ((listed.setIfInBounds i true).getD st false) w' ∧ wpAnyS P md ops Q S st fuel (listed.setIfInBounds i true) a' w') a w
theorem AllReadyS.nil {fuel : Nat} {listed : Array Bool} {a : Act} {w : World} : AllReadyS P md ops Q S st fuel listed a w [] := fun _ h => by cases h
theorem AllReadyS.cons {fuel : Nat} {listed : Array Bool} {a : Act} {w : World} {i : Nat} {o : Oper} {rs : List Nat} {b : Bool} (ho : ops[i]? = some o) (hb : (listed.setIfInBounds i true).getD st false = b)
  (h : ∀ K' : Act → World → Prop, Shut (∀ a w, S b w → (S b w → wpAnyS P md ops Q S st fuel (listed.setIfInBounds i true) a w) → K' a w) → if Region.wanted o (yielded ops a.tmps) = true then Oper.wp P o a w K' Q else K' (a.put o.dst undef) w)
  (hs : AllReadyS P md ops Q S st fuel listed a w rs) : AllReadyS P md ops Q S st fuel listed a w (i :: rs) := fun j hj => by
 rcases List.mem_cons.1 hj with rfl | hj
 ·exact wpOp_step ho (fun K' hK => h K' (fun a w hS hW => hK a w ⟨by rw [hb]; exact hS, hW hS⟩))
 ·exact hs j hj
end
end Go.Proofs.YtdkainiiinjgmaaGreatDoor
namespace Go.Proofs.YtdkainiiinjgmaaGreatDoor
open Go.RowKit Go.Shelf
def findN (s : ByteArray) : List ByteArray → Nat → Int
 | [], _ => -1
 | y :: r, k => if y.toList == s.toList then (k : Int) else findN s r (k + 1)
def findI (xs : List ByteArray) (s : ByteArray) : Int := findN s xs 0
end Go.Proofs.YtdkainiiinjgmaaGreatDoor
namespace Go.Proofs.YtdkainiiinjgmaaGreatDoor
open Go.RowKit
theorem run_append_new {P : Program} (w : World) (base : Nat) (t ty e : TypeId) (i : TypeInfo) (z : Value) (size bytes : Nat) (h1 : P.underlying t = some (.slice e)) (h2 : P.info? e = some i) (h3 : i.zero = some z) (h4 : i.size = size) (h5 : i.bytes = bytes) (h6 : z.cells.size = size) (h7 : 0 < size)
  (v : Value) (n : Nat) (xs : List Value) (hown : w.ownsRow base e size v n xs)
  (ad : Addr) (m c : Nat) (news : List Value) (hn : news.length = m * size) (hc : ∀ j u, news[j]? = some u → w.cell? (ad.add j) = some u) (h1c : ∀ u ∈ news, u.oneCell' = true)
  (b1 : n + m ≤ maxLen) (b2 : (n + m) * bytes ≤ 140737488355328) (hbase : base ≤ w.heap.size) :
  ∃ v' w', (Builtin.append_ #[t, t] ty #[v, .slice (some ad) m c]).run P w = .ok v' w' ∧ w'.ownsRow base e size v' (n + m) (xs ++ news) ∧ w.grownBy w' v.ownBlock ∧ ∀ b, v'.ownBlock = some b → v.ownBlock = some b ∨ w.heap.size ≤ b := by
 obtain ⟨hl, ⟨rfl, h0⟩ | ⟨g, cap, cur, rfl, hgB, hgc, hnc, hcm, hcs, htk⟩⟩ := id hown
 ·subst h0
  obtain rfl : xs = [] := List.eq_nil_of_length_eq_zero (by simpa using hl)
  obtain ⟨v', w', hr, r1, r2, _⟩ := run_append_own (P := P) w w.heap.size t ty e i z size bytes h1 h2 h3 h4 h5 h6 h7 (.slice none 0 0) 0 [] (World.ownsRow_nil w _ e size) ad m c news hn hc h1c b1 b2 (Nat.le_refl _)
  exact ⟨v', w', hr, own_lower r1 hbase, r2, fun b hb => .inr (r1.lt b hb).1⟩
 ·by_cases hfit : n + m ≤ cap
  ·obtain ⟨w', hr, r1, r2⟩ := run_append_fits (P := P) w base t ty e i size h1 h2 h4 g n cap xs hown ad m c news hn hc h1c hfit
   exact ⟨_, w', hr, r1, r2, fun b hb => .inl hb⟩
  ·obtain ⟨v', w', hr, r1, r2⟩ := run_append_arg_grows (P := P) w t ty e i z size bytes h1 h2 h3 h4 h5 h6 h7 ⟨g, 0, none⟩ n cap xs hl (hown.cells rfl) ad m c news hn hc (by omega) b1 b2
   exact ⟨v', w', hr, own_lower r1 hbase, ⟨r2.os, r2.tape, r2.output, r2.size, fun k hk _ => r2.block k hk (by simp)⟩, fun b hb => .inr (r1.lt b hb).1⟩
end Go.Proofs.YtdkainiiinjgmaaGreatDoor
namespace Go.Proofs.YtdkainiiinjgmaaGreatDoor
open Go.RowKit Go.Shelf
def dropV (size k : Nat) (a : Option Addr) (n c : Nat) : Value := .slice (if c = k then a else a.map (·.add (k * size))) (n - k) (c - k)
theorem IsRow.take {w : World} {a : Option Addr} {n c k : Nat} {rows : List (List Value)} (h : IsRow w (.slice a n c) k rows) {m : Nat} (hm : m ≤ n) : IsRow w (.slice a m c) k (rows.take m) := by
 obtain ⟨a', c', q, h1, h2, h3⟩ := h
 injection q with q1 q2 q3
 subst q1 q3
 refine ⟨a, c, by rw [List.length_take]; congr 1; omega, by rw [List.length_take]; omega, h2, fun hne => ?_⟩
 obtain ⟨b, o, ha, hb, hc⟩ := h3 (by rintro rfl; simp at hne)
 refine ⟨b, o, ha, hb, fun j x hx => hc j x ?_⟩
 rw [List.getElem?_take] at hx
 split at hx
 ·exact hx
 ·cases hx
theorem IsRow.drop {w : World} {a : Option Addr} {n c k : Nat} {rows : List (List Value)} (h : IsRow w (.slice a n c) k rows) {m : Nat} (hm : m ≤ n) : IsRow w (dropV k m a n c) k (rows.drop m) := by
 obtain ⟨a', c', q, h1, h2, h3⟩ := h
 injection q with q1 q2 q3
 subst q1 q3
 refine ⟨_, c - m, by unfold dropV; rw [List.length_drop, q2], by rw [List.length_drop]; omega, by omega, fun hne => ?_⟩
 have hlt : m < rows.length := by
  rcases Nat.lt_or_ge m rows.length with h | h
  ·exact h
  ·rw [List.drop_eq_nil_of_le h] at hne; exact absurd rfl hne
 obtain ⟨b, o, ha, hb, hc⟩ := h3 (by rintro rfl; simp at hlt)
 subst ha
 refine ⟨b, o + m * k, by rw [if_neg (by omega), Option.map_some, Addr.add_lit], hb, fun j r hr i u hu => ?_⟩
 rw [List.getElem?_drop] at hr
 have := hc (m + j) r hr i u hu
 rw [Nat.add_mul] at this
 rw [← this]
 congr 2
 omega
theorem row_cells {w : World} {b o c n k : Nat} {rows : List (List Value)} (h : IsRow w (.slice (some ⟨b, o, none⟩) n c) k rows) (hk : ∀ r ∈ rows, r.length = k) (h0 : 0 < k) : ∀ j u, rows.flatten[j]? = some u → w.cell? ((⟨b, o, none⟩ : Addr).add j) = some u := by
 intro j u hj
 obtain ⟨a', c', q, h1, h2, h3⟩ := h
 injection q with q1 q2 q3
 subst q1 q3
 have hl : rows.flatten.length = rows.length * k := by
  clear hj h1 h3 q2
  induction rows with
  | nil => simp
  | cons r rows ih => rw [List.flatten_cons, List.length_append, ih (fun r hr => hk r (by simp [hr])), hk r (by simp), List.length_cons, Nat.succ_mul]; omega
 have hjl := (List.getElem?_eq_some_iff.1 hj).1
 rw [hl] at hjl
 have hd : j / k < rows.length := (Nat.div_lt_iff_lt_mul h0).2 hjl
 have hm : j % k < k := Nat.mod_lt _ h0
 obtain ⟨b', o', e, hb, hc⟩ := h3 (by rintro rfl; simp at hd)
 cases e
 have hr : rows[j / k]? = some rows[j / k] := List.getElem?_eq_getElem hd
 have hrl : rows[j / k].length = k := hk _ (List.getElem_mem _)
 have hu : rows[j / k][j % k]? = some (rows[j / k][j % k]'(by rw [hrl]; exact hm)) := List.getElem?_eq_getElem _
 have h4 := hc _ _ hr _ _ hu
 have h5 := flat_at k rows hk _ _ hr _ _ hu
 rw [show j / k * k + j % k = j by rw [Nat.mul_comm]; exact Nat.div_add_mod j k] at h5
 rw [hj] at h5
 injection h5 with h5
 rw [Addr.add_lit, h5, ← h4]
 congr 2
 have := Nat.div_add_mod j k
 rw [Nat.mul_comm] at this
 omega
theorem exec_slice_from {ρ : Operand → Value} {o : Oper} {t e : TypeId} {x l : Operand} {a : Option Addr} {n c k : Nat} {i : TypeInfo} {size : Nat} {w : World} (ho : o.op = .slice t x (some l) none none) (ht : Tryz.prog.underlying t = some (.slice e)) (hi : Tryz.prog.info? e = some i) (hsz : i.size = size)
  (hx : ρ x = .slice a n c) (hl : ρ l = .int .i64 (k : Int)) (h1 : k ≤ n) : (execOp ρ o).run Tryz.prog w = .ok (.value (dropV size k a n c)) w := by
 subst hsz
 have e1 : (k : Int) ≤ (n : Int) := by omega
 unfold execOp dropV
 simp only [ho, hx, hl, Option.map_some, Option.map_none]
 simp [Instr.sliceAt, Instr.slice, run_underlying ht, sizeOf, typeInfo, hi, Instr.sliceBounds, go_sem, e1]
section
variable {w : World} {ops : Array Oper} {o : Oper} {a : Act} {K : Act → World → Prop} {Q : Exit → Act → World → Prop} {E : Prop}
theorem run_append_nothing {P : Program} (t ty e : TypeId) (i : TypeInfo) (ht : P.underlying t = some (.slice e)) (hi : P.info? e = some i) (ad : Option Addr) (n cap c : Nat) (hn : n ≤ cap) :
  (Builtin.append_ #[t, t] ty #[.slice ad n cap, .slice none 0 c]).run P w = .ok (.slice ad n cap) w := by
 cases ad with
 | none => simp [Builtin.append_, run_underlying ht, sizeOf, typeInfo, hi, Builtin.lenOf, Builtin.firstCells, hn]
 | some ad => simp [Builtin.append_, run_underlying ht, sizeOf, typeInfo, hi, Builtin.lenOf, Builtin.firstCells, hn, storeCells]
theorem run_append_rows {P : Program} (t ty e : TypeId) (i : TypeInfo) (z : Value) (size bytes : Nat) (h1 : P.underlying t = some (.slice e)) (h2 : P.info? e = some i) (h3 : i.zero = some z) (h4 : i.size = size) (h5 : i.bytes = bytes) (h6 : z.cells.size = size) (h7 : 0 < size)
  {B : Nat} {v v2 : Value} {rows rows2 : List (List Value)} (hown : w.ownsRow B e size v rows.length rows.flatten) (hrow : IsRow w v2 size rows2) (hlen : ∀ r ∈ rows2, r.length = size) (hone : ∀ r ∈ rows2, ∀ u ∈ r, u.oneCell' = true)
  (b1 : rows.length + rows2.length ≤ maxLen) (b2 : (rows.length + rows2.length) * bytes ≤ 140737488355328) (hB : B ≤ w.heap.size) :
  ∃ v' w', (Builtin.append_ #[t, t] ty #[v, v2]).run P w = .ok v' w' ∧ w'.ownsRow B e size v' (rows ++ rows2).length (rows ++ rows2).flatten ∧ w.grownBy w' v.ownBlock ∧ (∀ b, v'.ownBlock = some b → v.ownBlock = some b ∨ w.heap.size ≤ b) := by
 obtain ⟨a2, c2, rfl, g1, g2, g3⟩ := id hrow
 rw [List.length_append, List.flatten_append]
 have hfl : rows2.flatten.length = rows2.length * size := by
  clear hrow g1 g3 b1 b2 hone
  induction rows2 with
  | nil => simp
  | cons r rows ih => rw [List.flatten_cons, List.length_append, ih (fun r hr => hlen r (by simp [hr])), hlen r (by simp), List.length_cons, Nat.succ_mul]; omega
 cases a2 with
 | none =>
  have hr0 : rows2 = [] := by
   rcases rows2 with _ | ⟨r, rs⟩
   ·rfl
   ·obtain ⟨b, o, e, _⟩ := g3 (by simp); cases e
  subst hr0
  obtain ⟨av, cv, rfl, _, hc, _⟩ := own_shape hown
  refine ⟨_, w, run_append_nothing t ty e i h1 h2 av rows.length cv c2 hc, by simpa using hown, ⟨rfl, rfl, rfl, Nat.le_refl _, fun _ _ _ => rfl⟩, fun b hb => .inl hb⟩
 | some ad =>
  by_cases hne : rows2 = []
  ·subst hne
   exact run_append_new w B t ty e i z size bytes h1 h2 h3 h4 h5 h6 h7 v rows.length rows.flatten hown ad 0 c2 [] (by simp) (by simp) (by simp) (by simpa using b1) (by simpa using b2) hB
  ·obtain ⟨b, o, e', _, _⟩ := g3 hne
   injection e' with e'
   subst e'
   exact run_append_new w B t ty e i z size bytes h1 h2 h3 h4 h5 h6 h7 v rows.length rows.flatten hown ⟨b, o, none⟩ rows2.length c2 rows2.flatten hfl (row_cells hrow hlen h7) (fun u hu => by
    obtain ⟨r, hr, hu⟩ := List.mem_flatten.1 hu
    exact hone r hr u hu) b1 b2 hB
theorem step_append_rows (hgd : o.guard = none) (s x : Operand) (t : TypeId) (ho : o.op = .call { callee := .builtin .append, args := #[s, x], argTypes := #[t, t] })
  (e : TypeId) (i : TypeInfo) (z : Value) (size bytes : Nat) (h1 : Tryz.prog.underlying t = some (.slice e)) (h2 : Tryz.prog.info? e = some i) (h3 : i.zero = some z) (h4 : i.size = size) (h5 : i.bytes = bytes) (h6 : z.cells.size = size) (h7 : 0 < size)
  (B : Nat) (v v2 : Value) (rows rows2 : List (List Value)) (hs : a.eval s = v) (hx : a.eval x = v2) (hown : w.ownsRow B e size v rows.length rows.flatten) (hrow : IsRow w v2 size rows2) (hlen : ∀ r ∈ rows2, r.length = size) (hone : ∀ r ∈ rows2, ∀ u ∈ r, u.oneCell' = true)
  (b1 : rows.length + rows2.length ≤ 1000000000) (b3 : bytes ≤ 1000) (hB : B ≤ w.heap.size)
  (h : ∀ v' w', w'.ownsRow B e size v' (rows ++ rows2).length (rows ++ rows2).flatten → w.grownBy w' v.ownBlock → (∀ b, v'.ownBlock = some b → v.ownBlock = some b ∨ w.heap.size ≤ b) → K (a.put o.dst v') w') :
  if Region.wanted o (yielded ops a.tmps) = true then Oper.wp Tryz.prog o a w K Q else E := by
 have hw : Region.wanted o (yielded ops a.tmps) = true := by simp [Region.wanted, hgd]
 rw [if_pos hw]
 have hb2 : (rows.length + rows2.length) * bytes ≤ 140737488355328 := Nat.le_trans (Nat.mul_le_mul b1 b3) (by decide)
 obtain ⟨v', w', hr, r1, r2, r3⟩ := run_append_rows (P := Tryz.prog) t o.type e i z size bytes h1 h2 h3 h4 h5 h6 h7 hown hrow hlen hone (by unfold maxLen; omega) hb2 hB
 unfold Oper.wp execOp
 simp only [ho, resolve, invoke, builtin, Sem.run_bind, Sem.run_pure, Result.andThen_ok, List.map_toArray, List.map_cons, List.map_nil, hs, hx, hr]
 exact h v' w' r1 r2 r3
end
theorem isRow_one {w : World} {g k : Nat} {r : List Value} (hg : g < w.heap.size) (hk : ∀ (i : Nat) u, r[i]? = some u → w.cell? ⟨g, i, none⟩ = some u) : IsRow w (.slice (some ⟨g, 0, none⟩) 1 1) k [r] :=
 ⟨_, 1, rfl, by simp, by unfold maxLen; omega, fun _ => ⟨g, 0, rfl, hg, fun j r' hr i u hu => by
  match j, hr with
  | 0, hr =>
   simp at hr
   subst hr
   have := hk i u hu
   simpa using this⟩⟩
theorem OwnStrs.below {B : Nat} {w w' : World} {v : Value} {xs : List ByteArray} (h : OwnStrs B w v xs) (hb : Below w.heap.size w w') : OwnStrs B w' v xs := World.ownsRow.kept (row := none) h ⟨hb.os, hb.tape, hb.output, hb.size, fun k hk _ => hb.block k hk⟩ (by cases Value.ownBlock _ <;> simp)
theorem below_own {B : Nat} {w0 w w' : World} {v : Value} (h : Below B w0 w) (hg : w.grownBy w' v.ownBlock) (hB : B ≤ w.heap.size) (hv : ∀ k, v.ownBlock = some k → B ≤ k) : Below B w0 w' := h.grown hg hB hv
theorem tw_le {α : Type} (p : α → Bool) : ∀ l : List α, (l.takeWhile p).length ≤ l.length
 | [] => Nat.le_refl _
 | a :: l => by
  rw [List.takeWhile_cons]
  split
  ·have := tw_le p l; simp only [List.length_cons]; omega
  ·simp
theorem tw_step {α : Type} (p : α → Bool) : ∀ (l : List α) (k : Nat) (y : α), k ≤ (l.takeWhile p).length → l[k]? = some y → p y = true → k + 1 ≤ (l.takeWhile p).length
 | [], k, y, _, h, _ => by simp at h
 | a :: l, 0, y, _, h, hp => by
  simp at h
  subst h
  rw [List.takeWhile_cons, if_pos hp]; simp
 | a :: l, k + 1, y, hk, h, hp => by
  rw [List.takeWhile_cons] at hk ⊢
  split
  ·rename_i ha
   rw [if_pos ha] at hk
   have := tw_step p l k y (by simpa using hk) (by simpa using h) hp
   simp only [List.length_cons]; omega
  ·rename_i ha
   rw [if_neg ha] at hk
   simp at hk
theorem tw_stop {α : Type} (p : α → Bool) : ∀ (l : List α) (k : Nat) (y : α), k ≤ (l.takeWhile p).length → l[k]? = some y → p y = false → (l.takeWhile p).length = k
 | [], k, y, _, h, _ => by simp at h
 | a :: l, 0, y, _, h, hp => by
  simp at h
  subst h
  rw [List.takeWhile_cons, if_neg (by rw [hp]; decide)]; rfl
 | a :: l, k + 1, y, hk, h, hp => by
  rw [List.takeWhile_cons] at hk ⊢
  split
  ·rename_i ha
   rw [if_pos ha] at hk
   have := tw_stop p l k y (by simpa using hk) (by simpa using h) hp
   simp only [List.length_cons]; omega
  ·rename_i ha
   rw [if_neg ha] at hk
   simp at hk
end Go.Proofs.YtdkainiiinjgmaaGreatDoor
namespace Go.Proofs.YtdkainiiinjgmaaGreatDoor
open Go.RowKit Go.Shelf
def nmsS (ys : List StepS) : List ByteArray := (ys.map fun y => y.out :: y.args).flatten
def nmsR (x : RuleS) (k : Nat) : List ByteArray := [x.name] ++ x.ins ++ x.outs ++ x.after ++ nmsS (x.steps.take k)
end Go.Proofs.YtdkainiiinjgmaaGreatDoor
namespace Go.Proofs.YtdkainiiinjgmaaGreatDoor
open Go.RowKit Go.Shelf
theorem cells2 {w : World} {b : Nat} {x y : Value} {T : TypeId} (h : w.heap[b]? = some (.cells #[x, y] T)) :
  w.cell? ⟨b, 0, none⟩ = some x ∧ w.cell? ⟨b, 1, none⟩ = some y ∧ w.frozen? ⟨b, 0, none⟩ = false ∧ w.frozen? ⟨b, 1, none⟩ = false := by
 simp [World.cell?, World.frozen?, h]
end Go.Proofs.YtdkainiiinjgmaaGreatDoor
namespace Go.Proofs.YtdkainiiinjgmaaGreatDoor
open Go.RowKit Go.Shelf
def TwiceX (xs : List ByteArray) : Prop := ∃ i j : Nat, j < i ∧ i < xs.length ∧ xs[j]? = xs[i]?
end Go.Proofs.YtdkainiiinjgmaaGreatDoor
namespace Go.Proofs.YtdkainiiinjgmaaGreatDoor
open Go.RowKit Go.Shelf
def naF (op : Int) (len : Nat) : Int := if op = 5 then min (len : Int) 6 else if op = 6 then 0 else 1
def nlF (op : Int) : Int := if op = 6 ∨ op = 7 then 1 else if op = 8 then 2 else 0
def MayX (x : StepS) : Prop := (1 ≤ x.op ∧ x.op ≤ 9) ∧ (x.args.length : Int) = naF x.op x.args.length ∧ (x.lits.length : Int) = nlF x.op ∧ (x.op = 8 → ∀ y, x.lits[0]? = some y → (y.toList == ([] : List UInt8)) = false) ∧ 0 ≤ x.n ∧ x.n ≤ 2000 ∧ (x.op = 9 ∨ x.n = 0) ∧ ∀ l ∈ x.lits, l.size ≤ 100
end Go.Proofs.YtdkainiiinjgmaaGreatDoor
namespace Go.Proofs.YtdkainiiinjgmaaGreatDoor
open Go.RowKit Go.Shelf
def FormX (x : RuleS) : Prop := (∀ y ∈ nmsR x x.steps.length, okName y.data.toList = true) ∧ (∀ (j : Nat) y, x.steps[j]? = some y → MayX y) ∧ (0 : Int) < (x.outs.length : Int)
end Go.Proofs.YtdkainiiinjgmaaGreatDoor
namespace Go.Proofs.YtdkainiiinjgmaaGreatDoor
open Go.RowKit Go.Shelf
def outsK (x : RuleS) (k : Nat) : List ByteArray := (x.steps.take k).map StepS.out
def BigX (x : RuleS) : Prop := (8 : Int) < (x.ins.length : Int) ∨ (4 : Int) < (x.outs.length : Int) ∨ (8 : Int) < (x.after.length : Int) ∨ (12 : Int) < (x.steps.length : Int)
def StepN (x : RuleS) (k : Nat) (y : StepS) : Prop := findI x.ins y.out < 0 ∧ findI (outsK x k) y.out < 0 ∧ ∀ a ∈ y.args, ¬ (findI x.ins a < 0 ∧ findI (outsK x k) a < 0)
def NamesX (x : RuleS) : Prop := ¬ TwiceX x.ins ∧ ¬ TwiceX x.outs ∧ ¬ TwiceX x.after ∧ findI x.after x.name < 0 ∧ (∀ (k : Nat) y, x.steps[k]? = some y → StepN x k y) ∧ ∀ a ∈ x.outs, findI x.ins a < 0 ∧ 0 ≤ findI (outsK x x.steps.length) a
def RuleC (x : RuleS) (c : Int) : Prop := (¬ FormX x ∧ c = 1) ∨ (FormX x ∧ BigX x ∧ c = 4) ∨ (FormX x ∧ ¬ BigX x ∧ ¬ NamesX x ∧ c = 2) ∨ (FormX x ∧ ¬ BigX x ∧ NamesX x ∧ c = 0)
theorem RuleC.one {x : RuleS} {c d : Int} (h : RuleC x c) (h' : RuleC x d) : c = d := by
 rcases h with ⟨a, rfl⟩ | ⟨a, b, rfl⟩ | ⟨a, b, e, rfl⟩ | ⟨a, b, e, rfl⟩ <;> rcases h' with ⟨a', rfl⟩ | ⟨a', b', rfl⟩ | ⟨a', b', e', rfl⟩ | ⟨a', b', e', rfl⟩ <;> first | rfl | contradiction
end Go.Proofs.YtdkainiiinjgmaaGreatDoor
namespace Go.Proofs.YtdkainiiinjgmaaGreatDoor
open Go.Lib
abbrev ValT := Bool × ByteArray
def noV : ValT := (false, ⟨#[]⟩)
def setE (e : ByteArray → ValT) (k : ByteArray) (v : ValT) : ByteArray → ValT := fun n => if n = k then v else e n
end Go.Proofs.YtdkainiiinjgmaaGreatDoor
namespace Go.Proofs.YtdkainiiinjgmaaGreatDoor
open Go.RowKit Go.Shelf Go.Maps
def inS (L : List ByteArray) (k : ByteArray) : Bool := L.any fun x => decide (x = k)
theorem inS_iff {L : List ByteArray} {k : ByteArray} : inS L k = true ↔ k ∈ L := by
 unfold inS
 rw [List.any_eq_true]
 constructor
 ·rintro ⟨x, hx, e⟩; rw [← of_decide_eq_true e]; exact hx
 ·exact fun h => ⟨k, h, by simp⟩
def insS (L : List ByteArray) (k : ByteArray) : List ByteArray := if inS L k = true then L else L ++ [k]
theorem insS_mem {L : List ByteArray} {k a : ByteArray} : a ∈ insS L k ↔ a ∈ L ∨ a = k := by
 unfold insS; split
 ·rename_i h
  have h := inS_iff.1 h
  constructor
  ·exact .inl
  ·rintro (h' | rfl)
   ·exact h'
   ·exact h
 ·simp
def SetIs (w : World) (b : Nat) (L : List ByteArray) : Prop := ∃ m, MapIs Tryz.prog 9 w b m ∧ (∀ k, hasM m k = inS L k) ∧ (∀ k, getM m k (.agg #[]) = .agg #[]) ∧ m.length = L.length
theorem SetIs.lt {w : World} {b : Nat} {L : List ByteArray} (h : SetIs w b L) : b < w.heap.size := by obtain ⟨m, h1, _⟩ := h; exact h1.lt
theorem SetIs.heap {w w' : World} {b : Nat} {L : List ByteArray} (h : SetIs w b L) (hb : w'.heap[b]? = w.heap[b]?) : SetIs w' b L := by
 obtain ⟨m, h1, r⟩ := h; exact ⟨m, h1.heap hb, r⟩
theorem SetIs.below {B : Nat} {w w' : World} {b : Nat} {L : List ByteArray} (h : SetIs w b L) (hb : Below B w w') (hlt : b < B) : SetIs w' b L := h.heap (hb.block b hlt)
theorem SetIs.put {w : World} {b : Nat} {L : List ByteArray} {t e : TypeId} (h : SetIs w b L) (ht : Tryz.prog.underlying t = some (.map 9 e)) (hn : L.length ≤ 4000000000000000) (k : ByteArray) (hs : k.size ≤ maxLen) :
  ∃ w', (Instr.mapUpdate t (.map (some b)) (.string k) (.agg #[])).run Tryz.prog w = .ok () w' ∧ SetIs w' b (insS L k) ∧ w.mapTurned w' b := by
 obtain ⟨m, h1, h2, h3, h4⟩ := h
 obtain ⟨w', r, hm, ht'⟩ := h1.put Tryz.underlying9 ht (by unfold maxLen; omega) k hs (.agg #[])
 refine ⟨w', r, ⟨_, hm, fun k' => ?_, fun k' => ?_, ?_⟩, ht'⟩
 ·rw [hasM_put, h2, Bool.eq_iff_iff]
  simp only [Bool.or_eq_true, decide_eq_true_eq, inS_iff, insS_mem]
  constructor
  ·rintro (rfl | h)
   ·exact .inr rfl
   ·exact .inl h
  ·rintro (h | rfl)
   ·exact .inr h
   ·exact .inl rfl
 ·by_cases hk : k = k'
  ·subst hk; exact getM_put_same _ _ _ _
  ·rw [getM_put_other _ _ _ hk]; exact h3 k'
 ·obtain ⟨D, _, _, _, _, hK⟩ := h1
  rw [putM_len hK, h2]
  unfold insS
  by_cases hk : inS L k = true
  ·simp [hk, h4]
  ·simp [hk, h4]
theorem SetIs.look {w : World} {b : Nat} {L : List ByteArray} {t e : TypeId} (h : SetIs w b L) (ht : Tryz.prog.underlying t = some (.map 9 e)) (hz : (zeroValue e).run Tryz.prog w = .ok (.agg #[]) w) (k : ByteArray) (hs : k.size ≤ maxLen) :
  (Instr.lookup t (.map (some b)) (.string k) true).run Tryz.prog w = .ok (.tuple #[.agg #[], .bool (inS L k)]) w := by
 obtain ⟨m, h1, h2, h3, h4⟩ := h
 rw [h1.look_ok Tryz.underlying9 ht hz k hs, h2, h3]
theorem SetIs.len {w : World} {b : Nat} {L : List ByteArray} {t e : TypeId} (h : SetIs w b L) (ht : Tryz.prog.underlying t = some (.map 9 e)) (ty : TypeId) : (Builtin.len_ #[t] ty #[.map (some b)]).run Tryz.prog w = .ok (.int .i64 (L.length : Int)) w := by
 obtain ⟨m, h1, _, _, h4⟩ := h
 rw [h1.len ht ty, h4]
end Go.Proofs.YtdkainiiinjgmaaGreatDoor
namespace Go.Proofs.YtdkainiiinjgmaaGreatDoor
open Go.RowKit
variable {F : Fence} {n : Nat} {P : Program}
theorem KeepsFrom.at {B l : Nat} {o : Obj} {W W' : World} (h : KeepsFrom B W W') (hB : B ≤ l) (hl : W.heap[l]? = some o) (ho : o.isCells = false) : W'.heap[l]? = some o := h.same l o hB hl ho
end Go.Proofs.YtdkainiiinjgmaaGreatDoor
namespace Go.Proofs.YtdkainiiinjgmaaGreatDoor
open Go.RowKit Go.Shelf
structure Rs (sb : Nat) (A B : World) : Prop where
 os : B.os = A.os
 tape : B.tape = A.tape
 output : B.output = A.output
 size : B.heap.size = A.heap.size
 same : ∀ k, k ≠ sb → B.heap[k]? = A.heap[k]?
 kind : ∀ o, A.heap[sb]? = some o → o.isCells = false → B.heap[sb]? = some o
theorem Rs.below {n₀ sb : Nat} {W A B : World} (h : Rs sb A B) (hb : Below n₀ W A) (hs : n₀ ≤ sb) : Below n₀ W B :=
 ⟨h.os.trans hb.os, h.tape.trans hb.tape, h.output.trans hb.output, by rw [h.size]; exact hb.size, fun k hk => (h.same k (by omega)).trans (hb.block k hk)⟩
section
attribute [local go_sem] Oper.semAt_some
set_option maxRecDepth 100000
set_option maxHeartbeats 4000000
end
end Go.Proofs.YtdkainiiinjgmaaGreatDoor
namespace Go.Proofs.YtdkainiiinjgmaaGreatDoor
open Go.RowKit Go.Shelf
def valE (v : ValT) : Value := .agg #[.bool v.1, .string v.2]
set_option maxHeartbeats 4000000
set_option maxRecDepth 100000
end Go.Proofs.YtdkainiiinjgmaaGreatDoor
namespace Go.Proofs.YtdkainiiinjgmaaGreatDoor
open Go.RowKit Go.Shelf Go.Sort
set_option maxHeartbeats 4000000
set_option maxRecDepth 100000
abbrev T1 := {x : ByteArray // x.size ≤ 1000000000}
instance : Inhabited T1 := ⟨⟨⟨#[]⟩, by decide⟩⟩
end Go.Proofs.YtdkainiiinjgmaaGreatDoor
namespace Go.Proofs.YtdkainiiinjgmaaGreatDoor
open Go.RowKit Go.Shelf Go.Sort
set_option maxHeartbeats 4000000
set_option maxRecDepth 100000
structure ChgB (w : World) (x : StepS) (a1 a2 : Option Addr) (c1 c2 : Nat) (W1 : World) : Prop where
 size : W1.heap.size = w.heap.size + 1 + 1
 below : Below w.heap.size w W1
 cells : ∀ W, Below W1.heap.size W1 W → W.cell? ⟨w.heap.size, 0, none⟩ = some (.string x.out) ∧ W.cell? ⟨w.heap.size, 1, none⟩ = some (.int .i64 x.op) ∧ W.cell? ⟨w.heap.size, 2, none⟩ = some (.slice a1 x.args.length c1) ∧ W.cell? ⟨w.heap.size, 3, none⟩ = some (.slice a2 x.lits.length c2) ∧ W.cell? ⟨w.heap.size, 4, none⟩ = some (.int .i64 x.n)
 res : ∀ W, Below W1.heap.size W1 W → W.heap[w.heap.size + 1]? = some (.cells #[.bool false, .string ⟨#[]⟩] 104)
theorem ChgB.val {w : World} {x : StepS} {a1 a2 : Option Addr} {c1 c2 : Nat} {W1 : World} (h : ChgB w x a1 a2 c1 c2 W1) {W : World} (hb : Below W1.heap.size W1 W) : W.cell? ⟨w.heap.size + 1, 0, none⟩ = some (.bool false) ∧ W.cell? ⟨w.heap.size + 1, 1, none⟩ = some (.string ⟨#[]⟩) ∧ W.frozen? ⟨w.heap.size + 1, 0, none⟩ = false ∧ W.frozen? ⟨w.heap.size + 1, 1, none⟩ = false := cells2 (h.res W hb)
end Go.Proofs.YtdkainiiinjgmaaGreatDoor
namespace Go.Proofs.YtdkainiiinjgmaaGreatDoor
open Go.RowKit Go.Shelf Go.Maps
def EnvIs (w : World) (b n : Nat) (e : ByteArray → ValT) : Prop := ∃ m, MapIs Tryz.prog 9 w b m ∧ (∀ k, getM m k (valE noV) = valE (e k)) ∧ m.length ≤ n
theorem EnvIs.below {B b n : Nat} {w w' : World} {e : ByteArray → ValT} (h : EnvIs w b n e) (hb : Below B w w') (hlt : b < B) : EnvIs w' b n e := by
 obtain ⟨m, h1, h2, h3⟩ := h; exact ⟨m, h1.below hb hlt, h2, h3⟩
theorem EnvIs.heap {b n : Nat} {w w' : World} {e : ByteArray → ValT} (h : EnvIs w b n e) (hb : w'.heap[b]? = w.heap[b]?) : EnvIs w' b n e := by
 obtain ⟨m, h1, h2, h3⟩ := h; exact ⟨m, h1.heap hb, h2, h3⟩
theorem EnvIs.lt {b n : Nat} {w : World} {e : ByteArray → ValT} (h : EnvIs w b n e) : b < w.heap.size := by obtain ⟨m, h1, _⟩ := h; exact h1.lt
theorem EnvIs.put {b n : Nat} {w : World} {e : ByteArray → ValT} (h : EnvIs w b n e) (hn : n ≤ 1000000000) (k : ByteArray) (hs : k.size ≤ maxLen) (v : ValT) :
  ∃ w', (Instr.mapUpdate 123 (.map (some b)) (.string k) (valE v)).run Tryz.prog w = .ok () w' ∧ EnvIs w' b (n + 1) (setE e k v) ∧ w.mapTurned w' b := by
 obtain ⟨m, h1, h2, h3⟩ := h
 obtain ⟨w', r, hm, ht⟩ := h1.put Tryz.underlying9 Tryz.underlying123 (by unfold maxLen; omega) k hs (valE v)
 refine ⟨w', r, ⟨_, hm, fun k' => ?_, ?_⟩, ht⟩
 ·unfold setE
  by_cases hk : k' = k
  ·subst hk; rw [if_pos rfl, getM_put_same]
  ·rw [if_neg hk, getM_put_other _ _ _ (fun e => hk e.symm)]; exact h2 k'
 ·obtain ⟨D, _, _, _, _, hK⟩ := h1
  rw [putM_len hK]
  split <;> omega
theorem zeroVal (w : World) : (zeroValue 104).run Tryz.prog w = .ok (.agg #[.bool false, .string ⟨#[]⟩]) w := Tryz.zeroValue104 w
theorem EnvIs.look {b n : Nat} {w : World} {e : ByteArray → ValT} (h : EnvIs w b n e) (k : ByteArray) (hs : k.size ≤ maxLen) :
  (Instr.lookup 123 (.map (some b)) (.string k) false).run Tryz.prog w = .ok (valE (e k)) w := by
 obtain ⟨m, h1, h2, _⟩ := h
 rw [← h2 k]
 exact h1.look Tryz.underlying9 Tryz.underlying123 (zeroVal w) k hs
set_option maxHeartbeats 4000000
set_option maxRecDepth 100000
def ValRow (w : World) (g : Nat) (vs : List ValT) : Prop := ∃ cur, w.heap[g]? = some (.cells cur 104 (0, 0)) ∧ cur.size = vs.length * 2 ∧ ∀ (j : Nat) x, vs[j]? = some x → cur[j * 2]? = some (.bool x.1) ∧ cur[j * 2 + 1]? = some (.string x.2)
theorem ValRow.heap {w w' : World} {g : Nat} {vs : List ValT} (h : ValRow w g vs) (hb : w'.heap[g]? = w.heap[g]?) : ValRow w' g vs := by
 obtain ⟨cur, hg, r⟩ := h; exact ⟨cur, hb.trans hg, r⟩
theorem ValRow.cells {w : World} {g : Nat} {vs : List ValT} (h : ValRow w g vs) {j : Nat} {x : ValT} (hx : vs[j]? = some x) : w.cell? ⟨g, j * 2, none⟩ = some (.bool x.1) ∧ w.cell? ⟨g, j * 2 + 1, none⟩ = some (.string x.2) ∧ w.frozen? ⟨g, j * 2, none⟩ = false ∧ w.frozen? ⟨g, j * 2 + 1, none⟩ = false := by
 obtain ⟨cur, hg, hs, hc⟩ := h
 obtain ⟨h1, h2⟩ := hc j x hx
 refine ⟨?_, ?_, ?_, ?_⟩
 ·simp only [World.cell?, hg, Option.isSome_none, Bool.false_eq_true, if_false]; exact h1
 ·simp only [World.cell?, hg, Option.isSome_none, Bool.false_eq_true, if_false]; exact h2
 ·simp [World.frozen?, hg]
 ·simp [World.frozen?, hg]
theorem ValRow.set {w : World} {g : Nat} {vs : List ValT} (h : ValRow w g vs) (k : Nat) (u : ValT) (hk : k < vs.length) : ValRow ((w.setCell ⟨g, k * 2, none⟩ (.bool u.1)).setCell ⟨g, k * 2 + 1, none⟩ (.string u.2)) g (vs.set k u) := by
 obtain ⟨cur, hg, hs, hc⟩ := h
 refine ⟨_, heap_set _ _ (heap_set _ _ hg), by simp [hs], fun j x hx => ?_⟩
 rw [List.getElem?_set] at hx
 by_cases hj : k = j
 ·subst hj
  rw [if_pos rfl, if_pos hk] at hx
  obtain rfl := Option.some.inj hx
  constructor
  ·rw [Array.getElem?_setIfInBounds_ne (by omega), Array.getElem?_setIfInBounds_self_of_lt (by rw [hs]; omega)]
  ·rw [Array.getElem?_setIfInBounds_self_of_lt (by simp [hs]; omega)]
 ·rw [if_neg hj] at hx
  obtain ⟨h1, h2⟩ := hc j x hx
  constructor
  ·rw [Array.getElem?_setIfInBounds_ne (by omega), Array.getElem?_setIfInBounds_ne (by omega)]; exact h1
  ·rw [Array.getElem?_setIfInBounds_ne (by omega), Array.getElem?_setIfInBounds_ne (by omega)]; exact h2
end Go.Proofs.YtdkainiiinjgmaaGreatDoor
