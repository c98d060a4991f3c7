/- The law's back: a list the other way round, as far as that it is the same names. For PrintLayout: rules turned round, a copy's box, how long printed rules are. -/
import Derived.BigRegion
import Derived.Deep.CutBlock
import Derived.Deep.DeepCutAuto
import Derived.Deep.RegionLaw
import Derived.Test.YtlmnabhhgplhnaaGreatDoorMcop
import Derived.Test.YtlmnabhhgplhnaaGreatDoorMcka
import Derived.Test.YtlmnabhhgplhnaaGreatDoorMbck
import Derived.Test.YtlmnabhhgplhnaaGreatDoorMckb
import Derived.Test.YtlmnabhhgplhnaaGreatDoorMrs
namespace Go.Proofs.YtlmnabhhgplhnaaGreatDoor
open Go.RowKit Go.Shelf

theorem frozen_set (w : World) (p q : Addr) (u : Value) : (w.setCell p u).frozen? q = w.frozen? q := World.frozen?_setCell _ _ _ _
theorem strsO_set {Av : Nat → Prop} {w : World} {b o n c k : Nat} {xs : List ByteArray} (h : StrsO Av w (.slice (some ⟨b, o, none⟩) n c) xs) (hk : k < xs.length) (s : ByteArray) : StrsO Av (w.setCell ⟨b, o + k, none⟩ (.string s)) (.slice (some ⟨b, o, none⟩) n c) (xs.set k s) := by
 obtain ⟨⟨⟨a', c', q, h1, h2, h3⟩, hb⟩, ho⟩ := h
 injection q with q1 q2 q3
 subst q1 q3
 refine ⟨⟨⟨_, c, by rw [strRows_length, List.length_set]; rw [strRows_length] at q2; rw [q2], by rw [strRows_length, List.length_set]; rw [strRows_length] at h1; exact h1, h2, fun hne => ?_⟩, fun b' e => ⟨by simp [World.setCell]; exact (hb b' e).1, (hb b' e).2⟩⟩, fun b' e i => by rw [frozen_set]; exact ho b' e i⟩
 obtain ⟨b', o', ha, hbl, hc⟩ := h3 (by intro e; have := congrArg List.length e; rw [strRows_length] at this; simp at this; rw [this] at hk; simp at hk)
 cases ha
 refine ⟨b, o, rfl, by simp [World.setCell]; exact hbl, fun j r hr i u hu => ?_⟩
 unfold strRows at hr hc
 rw [List.getElem?_map] at hr
 obtain ⟨y, hy, rfl⟩ := Option.map_eq_some_iff.1 hr
 have hi : i = 0 := by
  have := (List.getElem?_eq_some_iff.1 hu).1
  simpa using this
 subst hi
 simp at hu
 subst hu
 by_cases hj : j = k
 ·subst hj
  rw [List.getElem?_set_self hk] at hy
  injection hy with hy
  subst hy
  have h4 := hc j [.string xs[j]] (by rw [List.getElem?_map, List.getElem?_eq_getElem hk]; rfl) 0 _ rfl
  simp only [Nat.mul_one, Nat.add_zero] at h4 ⊢
  exact World.cell?_setCell_same _ _ _ h4
 ·rw [List.getElem?_set_ne (Ne.symm hj)] at hy
  have h4 := hc j [.string y] (by rw [List.getElem?_map, hy]; rfl) 0 _ rfl
  simp only [Nat.mul_one, Nat.add_zero] at h4 ⊢
  rw [World.cell?_setCell_other _ _ _ _ (by intro e; injection e with _ e; omega)]
  exact h4
theorem swap_same {xs : List ByteArray} {i j : Nat} {x y : ByteArray} (hx : xs[i]? = some x) (hy : xs[j]? = some y) : ((xs.set i y).set j x).Perm xs := by
 obtain ⟨h1, rfl⟩ := List.getElem?_eq_some_iff.1 hx
 obtain ⟨h2, rfl⟩ := List.getElem?_eq_some_iff.1 hy
 have := Array.swap_perm (xs := xs.toArray) (i := i) (j := j) (by simpa using h1) (by simpa using h2)
 have := Array.perm_iff_toList_perm.1 this
 simpa using this
/-- What 'back' leaves: the same names in some order. -/
def BackE (Av : Nat → Prop) (w w' : World) (v : Value) (xs : List ByteArray) : Prop := (∃ L, L.Perm xs ∧ StrsO Av w' v L) ∧ Fr (fun k => v.ownBlock = some k) w w'

set_option maxHeartbeats 8000000 in
set_option maxRecDepth 100000 in
theorem back_any (Av : Nat → Prop) (v : Value) (xs : List ByteArray) (w : World) (h : StrsO Av w v xs) :
  Calls Tryz.prog 13 #[v] w fun e w' => e = .returned (.tuple #[]) ∧ BackE Av w w' v xs := by
 obtain ⟨a, c, rfl, hlc, hm, _⟩ := isStrs_cells h.1.isStrs
 have H := Lib.hid h
 unfold maxLen at hm
 have hdv : (xs.length : Int).tdiv 2 = ((xs.length / 2 : Nat) : Int) := by rw [Int.tdiv_eq_ediv_of_nonneg (by omega)]; omega
 obtain ⟨m, hmm⟩ : ∃ m, xs.length / 2 = m := ⟨_, rfl⟩
 rw [hmm] at hdv
 have hmb : m ≤ 4611686018427387904 := by omega
 have HMM := Lib.hid hmm
 clear h hmm
 go_enter Tryz.func13, Tryz.ntmps13
 go_wp2_with fail
 go_loopw [2] (fun iv wr => ∃ (i : Nat) (L : List ByteArray), iv = .int .i64 (i : Int) ∧ i ≤ m ∧ L.Perm xs ∧ StrsO Av wr (.slice a xs.length c) L ∧ Fr (fun k => (Value.slice a xs.length c).ownBlock = some k) w wr) (fun iv _ => m - (intOf iv).toNat)
 case atStart => exact ⟨0, xs, rfl, by omega, List.Perm.refl _, H.out, Fr.refl _ _⟩
 case round =>
  obtain ⟨i, L, rfl, hi, hp, hL, hf⟩ := hrel
  have HP := Lib.hid hp
  have HL := Lib.hid hL
  have HF := Lib.hid hf
  have hLl : L.length = xs.length := hp.length_eq
  by_cases hlt : i < m
  ·obtain ⟨j, hj⟩ : ∃ j, j + 1 + i = xs.length := ⟨xs.length - 1 - i, by have := HMM.out; omega⟩
   obtain ⟨x, hx⟩ : ∃ x, L[i]? = some x := ⟨L[i]'(by have := HMM.out; omega), List.getElem?_eq_getElem _⟩
   obtain ⟨y, hy⟩ : ∃ y, L[j]? = some y := ⟨L[j]'(by omega), List.getElem?_eq_getElem _⟩
   obtain ⟨a', c', q, _, _, hc⟩ := isStrs_cells hL.1.isStrs
   injection q with q1 q2 q3
   subst q1 q3
   clear q2
   obtain ⟨b, o, hab, hcx⟩ := hc i x hx
   obtain ⟨b', o', hab', hcy⟩ := hc j y hy
   rw [hab] at hab'
   injection hab' with hab'
   injection hab' with e1 e2
   subst e1 e2
   have e1 := hcx _ (Below.refl _ _)
   have e2 := hcy _ (Below.refl _ _)
   subst hab
   have f1 := hL.2 b rfl (o + i)
   have f2 := hL.2 b rfl (o + j)
   have hi1 : (i : Int) < (m : Int) := by omega
   have hi0 : (0 : Int) ≤ (i : Int) := by omega
   have hj0 : (0 : Int) ≤ (j : Int) := by omega
   have hjn : (j : Int) < (xs.length : Int) := by omega
   have hin : (i : Int) < (xs.length : Int) := by have := HMM.out; omega
   have w1 : IntKind.i64.wrap ((xs.length : Int) - 1) = (xs.length : Int) - 1 := IntWalk.i64_in _ (by omega)
   have w2 : (xs.length : Int) - 1 - (i : Int) = (j : Int) := by omega
   have w3 : IntKind.i64.wrap (j : Int) = (j : Int) := IntWalk.i64_in _ (by omega)
   have hij : i ≠ j := by have := HMM.out; omega
   have e3 : (wr.setCell ⟨b, o + i, none⟩ (.string y)).cell? ⟨b, o + j, none⟩ = some (.string y) := (World.cell?_setCell_other _ _ _ _ (by intro e; injection e with _ e; omega)).trans e2
   have e4 : (wr.setCell ⟨b, o + i, none⟩ (.string y)).drew.cell? ⟨b, o + j, none⟩ = some (.string y) := e3
   have e5 : (wr.setCell ⟨b, o + i, none⟩ (.string y)).frozen? ⟨b, o + j, none⟩ = false := by rw [frozen_set]; exact f2
   have HST : Hid (StrsO Av ((wr.setCell ⟨b, o + i, none⟩ (.string y)).setCell ⟨b, o + j, none⟩ (.string x)) (.slice (some ⟨b, o, none⟩) xs.length c) ((L.set i y).set j x)) := Lib.hid (strsO_set (strsO_set hL (by omega) y) (by rw [List.length_set]; omega) x)
   have HFR : Hid (Fr (fun k => (Value.slice (some ⟨b, o, none⟩) xs.length c).ownBlock = some k) w ((wr.setCell ⟨b, o + i, none⟩ (.string y)).setCell ⟨b, o + j, none⟩ (.string x))) := Lib.hid (hf.trans ((fr_set (Av := fun k => (Value.slice (some ⟨b, o, none⟩) xs.length c).ownBlock = some k) (a := ⟨b, o + i, none⟩) rfl _).trans (fr_set (Av := fun k => (Value.slice (some ⟨b, o, none⟩) xs.length c).ownBlock = some k) (a := ⟨b, o + j, none⟩) rfl _)))
   have HPE : Hid (((L.set i y).set j x).Perm xs) := Lib.hid ((swap_same hx hy).trans hp)
   have HLL := Lib.hid hLl
   have HX := Lib.hid hx
   have HY := Lib.hid hy
   have HJ := Lib.hid hj
   clear hp hL hf hcx hcy hc hx hy hLl hj hij
   go_wp2_with fail
   go_region
   all_goals go_wp2
   all_goals go_roundw
   case rel => exact ⟨i + 1, _, by go_num, by omega, HPE.out, StrsO.keep HST.out (fr_drew _ _), HFR.out.trans (fr_drew _ _)⟩
   case measure => simp [intOf]; omega
  ·have hi1 : ¬ (i : Int) < (m : Int) := by omega
   clear hp hL hf hLl
   go_wp2
   go_end0
   first | exact ⟨rfl, ⟨L, HP.out, HL.out⟩, HF.out⟩ | exact ⟨⟨L, HP.out, HL.out⟩, HF.out⟩
end Go.Proofs.YtlmnabhhgplhnaaGreatDoor
namespace Go.Proofs.YtlmnabhhgplhnaaGreatDoor
open Go.RowKit Go.Shelf

theorem onceX_of {xs : List RuleS} (h : OnceN xs xs.length) : OnceX xs := by
 intro i j x y hx hy e
 have hi := (List.getElem?_eq_some_iff.1 hx).1
 have hj := (List.getElem?_eq_some_iff.1 hy).1
 rcases Nat.lt_trichotomy i j with hlt | h2 | hlt
 ·exact absurd (by rw [List.getElem?_map, hx, ← e]; rfl) (h j y hj hy i hlt)
 ·exact h2
 ·exact absurd (by rw [List.getElem?_map, hy, e]; rfl) (h i x hi hx j hlt)
theorem own_len {a : Option Addr} {n c n' c' b : Nat} (h : (Value.slice a n c).ownBlock = some b) : (Value.slice a n' c').ownBlock = some b := by cases a <;> exact h
theorem rulesA_drop {Av : Nat → Prop} {w : World} {a : Option Addr} {n c : Nat} {xs : List RuleS} (h : RulesA Av w (.slice a n c) xs) {m : Nat} (hm : m ≤ n) : RulesA Av w (dropV 5 m a n c) (xs.drop m) := by
 obtain ⟨rows, ⟨h1, h2⟩, hall⟩ := h
 refine ⟨rows.drop m, ⟨h1.drop hm, fun b e => h2 b ?_⟩, hall.drop m⟩
 unfold dropV at e
 split at e
 ·exact own_len e
 ·cases a with
  | none => simp [Value.ownBlock] at e
  | some ad =>
   obtain ⟨x, y, z⟩ := ad
   simp only [Value.ownBlock, Option.map_some, Option.some.injEq, Addr.add] at e ⊢
   split at e <;> exact e
theorem rulesA_take {Av : Nat → Prop} {w : World} {a : Option Addr} {n c : Nat} {xs : List RuleS} (h : RulesA Av w (.slice a n c) xs) {m : Nat} (hm : m ≤ n) : RulesA Av w (.slice a m c) (xs.take m) := by
 obtain ⟨rows, ⟨h1, h2⟩, hall⟩ := h
 exact ⟨rows.take m, ⟨h1.take hm, fun b e => h2 b (own_len e)⟩, hall.take m⟩
theorem strsO_apart {Av Av' : Nat → Prop} {w : World} {v : Value} {xs : List ByteArray} (h : StrsO Av w v xs) (hn : ∀ b, v.ownBlock = some b → ¬ Av' b) : StrsO Av' w v xs := ⟨⟨h.1.1, fun b e => ⟨(h.1.2 b e).1, hn b e⟩⟩, h.2⟩

/-! ### How long a printed rule is -/
theorem ok_short {x : ByteArray} (h : okName x.data.toList = true) : x.size ≤ 40 := by
 unfold okName at h
 simp only [Bool.and_eq_true, decide_eq_true_eq] at h
 rw [Lib.size_eq]
 exact h.1.1
theorem stepTx_short {y : StepS} (h : OkS y) (hn : Int64 y.n) (h1 : y.args.length ≤ 8) (h2 : y.lits.length ≤ 3) : (stepTx y).length ≤ 7000 := by
 have hw : ∀ x ∈ (stepWs y).map (·.data.toList), x.length ≤ 402 := by
  intro x hx
  obtain ⟨z, hz, rfl⟩ := List.mem_map.1 hx
  unfold stepWs at hz
  simp only [List.mem_append, List.mem_cons, List.not_mem_nil, or_false] at hz
  rcases hz with (((rfl | rfl | rfl) | hz) | hz) | hz
  ·have := ok_short h.out; rw [Lib.size_eq] at this; omega
  ·simp
  ·have := opTx_len y.op; simp only at this ⊢; simp; omega
  ·split at hz
   ·simp only [List.mem_singleton] at hz
    subst hz
    have := Lib.itoa_length_le y.n hn.1 hn.2
    simp; omega
   ·simp at hz
  ·obtain ⟨l, hl, rfl⟩ := List.mem_map.1 hz
   have k1 := quote_len l.data.toList
   have k2 := h.small l hl
   rw [Lib.size_eq] at k2
   simp; omega
  ·have := ok_short (h.args z hz); rw [Lib.size_eq] at this; omega
 have j := join_len ((stepWs y).map (·.data.toList)) [32]
 have l := lens_le 402 _ hw
 rw [List.length_map] at j l
 have hlen : (stepWs y).length ≤ 15 := by
  unfold stepWs
  simp only [List.length_append, List.length_cons, List.length_nil, List.length_map]
  split
  ·simp only [List.length_cons, List.length_nil]; omega
  ·simp only [List.length_nil]; omega
 unfold stepTx
 simp only [List.length_append, List.length_cons, List.length_nil] at j ⊢
 omega
theorem ruleTx_short {x : RuleS} (h : OkRu x) (hm : SmallR x 1048576) (hs : ShortR x) : (ruleTx x).length ≤ 200000 := by
 have h1 := clauseTx_len [105, 110] x.ins 10 40 hs.ins fun y hy => ok_short (h.ins y hy)
 have h2 := clauseTx_len [111, 117, 116] x.outs 6 40 hs.outs fun y hy => ok_short (h.outs y hy)
 have h3 := clauseTx_len [97, 102, 116, 101, 114] x.after 10 40 hs.after fun y hy => ok_short (h.after y hy)
 have h4 : ∀ l : List StepS, (∀ y ∈ l, OkS y ∧ Int64 y.n ∧ y.args.length ≤ 8 ∧ y.lits.length ≤ 3) → ((l.map stepLn).flatten).length ≤ l.length * 7003 := by
  intro l hl
  induction l with
  | nil => simp
  | cons y l ih =>
   have h5 := ih (fun z hz => hl z (by simp [hz]))
   obtain ⟨k1, k2, k3, k4⟩ := hl y (by simp)
   have h6 := stepTx_short k1 k2 k3 k4
   simp only [stepLn, List.map_cons, List.flatten_cons, List.length_append, List.length_cons, List.length_nil, Nat.succ_mul] at h5 ⊢
   omega
 have h5 := h4 x.steps (fun y hy => ⟨h.steps y hy, (hm.steps y hy).n, hs.each y hy⟩)
 have h6 := hs.steps
 have h7 := ok_short h.name
 rw [Lib.size_eq] at h7
 unfold ruleTx upTx headTx
 simp only [List.length_append, List.length_cons, List.length_nil] at h1 h2 h3 ⊢
 omega
/-- How many words a rule has, and how long each is. -/
theorem words_few {x : RuleS} (hs : ShortR x) : (ruleW x).length ≤ 1000 := by
 have hc : ∀ (k : List UInt8) (l : List ByteArray), (clauseW k l).length ≤ 2 * l.length + 1 := fun k l => by
  by_cases h : l = []
  ·subst h; simp [clauseW]
  ·rw [clauseW_len h]; omega
 have h1 := hc [105, 110] x.ins
 have h2 := hc [111, 117, 116] x.outs
 have h3 := hc [97, 102, 116, 101, 114] x.after
 have h4 : ∀ l : List StepS, (∀ y ∈ l, y.args.length ≤ 8 ∧ y.lits.length ≤ 3) → ((l.map stepW).flatten).length ≤ l.length * 17 := by
  intro l hl
  induction l with
  | nil => simp
  | cons y l ih =>
   have h5 := ih (fun z hz => hl z (by simp [hz]))
   obtain ⟨k1, k2⟩ := hl y (by simp)
   have h6 : (stepW y).length ≤ 17 := by
    rw [stepW_eq]
    unfold restW
    simp only [List.length_cons, List.length_append, List.length_map, List.length_nil]
    split
    ·simp only [List.length_cons, List.length_nil]; omega
    ·simp only [List.length_nil]; omega
   simp only [List.map_cons, List.flatten_cons, List.length_append, List.length_cons, Nat.succ_mul] at h5 ⊢
   omega
 have h5 := h4 x.steps hs.each
 have h6 := hs.ins
 have h7 := hs.outs
 have h8 := hs.after
 have h9 := hs.steps
 unfold ruleW
 simp only [List.length_append, List.length_cons, List.length_nil]
 omega
theorem okRu_lists {x : RuleS} {i a : List ByteArray} (h : OkRu x) (hi : i.Perm x.ins) (ha : a.Perm x.after) : OkRu { x with ins := i, after := a } :=
 ⟨h.name, fun y hy => h.ins y (hi.mem_iff.1 hy), h.outs, fun y hy => h.after y (ha.mem_iff.1 hy), h.some, h.steps⟩
theorem smallR_lists {x : RuleS} {i a : List ByteArray} {m : Nat} (h : SmallR x m) (hi : i.Perm x.ins) (ha : a.Perm x.after) : SmallR { x with ins := i, after := a } m :=
 ⟨h.name, ⟨by rw [hi.length_eq]; exact h.ins.1, fun y hy => h.ins.2 y (hi.mem_iff.1 hy)⟩, h.outs, ⟨by rw [ha.length_eq]; exact h.after.1, fun y hy => h.after.2 y (ha.mem_iff.1 hy)⟩, h.few, h.steps⟩
/-- A word's text as it stands in a file is short. -/
theorem tok_short {x : RuleS} (h : SmallR x 1048576) : ∀ y ∈ ruleW x, y.2.length ≤ 1048576 := by
 have hc : ∀ (k : List UInt8) (l : List ByteArray), k.length ≤ 10 → (∀ z ∈ l, z.size ≤ 1048576) → ∀ y ∈ clauseW k l, y.2.length ≤ 1048576 := by
  intro k l hk hl y hy
  have hm : ∀ (r : List ByteArray), (∀ z ∈ r, z.size ≤ 1048576) → ∀ y ∈ commaW r, y.2.length ≤ 1048576 := by
   intro r
   induction r with
   | nil => intro _ y hy; simp [commaW] at hy; subst hy; simp
   | cons z r ih =>
    intro hr y hy
    simp only [commaW, List.mem_cons] at hy
    rcases hy with rfl | rfl | hy
    ·simp
    ·have := hr z (by simp); rw [Lib.size_eq] at this; exact this
    ·exact ih (fun q hq => hr q (by simp [hq])) y hy
  unfold clauseW at hy
  split at hy
  ·simp at hy
  ·rcases List.mem_cons.1 hy with rfl | hy
   ·simp only; omega
   ·cases l with
    | nil => simp [listW] at hy; subst hy; simp
    | cons z r =>
     simp only [listW, List.mem_cons] at hy
     rcases hy with rfl | hy
     ·have := hl z (by simp); rw [Lib.size_eq] at this; exact this
     ·exact hm r (fun q hq => hl q (by simp [hq])) y hy
 intro y hy
 unfold ruleW at hy
 simp only [List.mem_append, List.mem_cons, List.not_mem_nil, or_false] at hy
 rcases hy with ((((hy | hy) | hy) | hy) | hy) | hy
 ·rcases hy with rfl | rfl | rfl
  ·simp
  ·have := h.name; rw [Lib.size_eq] at this; exact this
  ·simp
 ·exact hc _ _ (by simp) h.ins.2 y hy
 ·exact hc _ _ (by simp) h.outs.2 y hy
 ·exact hc _ _ (by simp) h.after.2 y hy
 ·obtain ⟨l, hl, hy⟩ := List.mem_flatten.1 hy
  obtain ⟨s, hs, rfl⟩ := List.mem_map.1 hl
  have hS := h.steps s hs
  rw [stepW_eq] at hy
  simp only [List.mem_cons, List.mem_append, List.not_mem_nil, or_false] at hy
  rcases hy with rfl | rfl | rfl | hy | rfl
  ·have := hS.out; rw [Lib.size_eq] at this; exact this
  ·simp
  ·have := opTx_len s.op; simp only; omega
  ·unfold restW at hy
   simp only [List.mem_append] at hy
   rcases hy with (hy | hy) | hy
   ·split at hy
    ·simp only [List.mem_singleton] at hy
     subst hy
     have := Lib.itoa_length_le s.n hS.n.1 hS.n.2
     simp only; omega
    ·simp at hy
   ·obtain ⟨l, hl, rfl⟩ := List.mem_map.1 hy
    have := hS.lits.2 l hl
    rw [Lib.size_eq] at this
    exact this
   ·obtain ⟨l, hl, rfl⟩ := List.mem_map.1 hy
    have := hS.args.2 l hl
    rw [Lib.size_eq] at this
    exact this
  ·simp
 ·rw [hy]; simp
theorem tokT_len (k : Int) (t : List UInt8) : (tokT k t).length ≤ 4 * t.length + 2 := by
 unfold tokT
 split
 ·exact quote_len t
 ·omega
theorem gapG_len (gap : List UInt8) (n : Nat) : (gapG gap n).length ≤ 20 := by
 have h : gapN gap n < gapsL.length := Nat.mod_lt _ (by decide)
 unfold gapG
 rw [List.getD_eq_getElem?_getD, List.getElem?_eq_getElem h]
 have : ∀ g ∈ gapsL, g.length ≤ 20 := by decide
 exact this _ (List.getElem_mem _)
theorem laidS_len (gap : List UInt8) : ∀ (B : List WB), (∀ y ∈ B, y.2.length ≤ 1048576) → (laidS gap B).length ≤ B.length * 5000000 := by
 have key : ∀ (B : List WB) (n : Nat), (∀ y ∈ B, y.2.length ≤ 1048576) → (spell (layP gap n B)).length ≤ B.length * 5000000 := by
  intro B
  induction B with
  | nil => intro n _; simp [layP, spell]
  | cons x B ih =>
   intro n h
   have h1 := ih (n + 1) fun y hy => h y (by simp [hy])
   have h2 := tokT_len x.1 x.2
   have h3 := gapG_len gap n
   have h4 := h x (by simp)
   simp only [layP, spell, pcT, List.length_append, List.length_cons, Nat.succ_mul]
   omega
 exact fun B h => key B 0 h
end Go.Proofs.YtlmnabhhgplhnaaGreatDoor
