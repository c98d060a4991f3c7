import Derived.Test.YtdhmeganlnpohaaGreatDoorMbp
import Derived.Test.YtdhmeganlnpohaaGreatDoorMay
import Derived.Shelf.SlSortCmp.NoneTotal
import Derived.Test.YtdhmeganlnpohaaGreatDoorMbm
import Derived.Deep.AppendSrc
import Derived.Maps.AppendAt
import Derived.Below
import Derived.Test.YtdhmeganlnpohaaGreatDoorMbl
namespace Go.Proofs.YtdhmeganlnpohaaGreatDoor
open Go.RowKit Go.Shelf
theorem infoRule : (Tryz.prog.info? 45).map (fun i => (i.zero, i.size, i.bytes)) = some (some (.agg #[.string ⟨#[]⟩, .slice none 0 0, .slice none 0 0, .slice none 0 0, .slice none 0 0]), 5, 112) := by kernel_rfl
def CyI (w : World) (B : Nat) (pre : List (List Value)) (W : World) : Prop := (∃ v, Boxed W B 82 v ∧ W.ownsRow (B + 1) 45 5 v pre.length pre.flatten ∧ True) ∧ Below w.heap.size w W ∧ B + 1 ≤ W.heap.size
theorem cyI_rs {w : World} {B : Nat} (s : List (List Value)) (X Y : World) (h : CyI w B s X) (hw : w.heap.size ≤ B) (hr : Below X.heap.size X Y) : CyI w B s Y := by
 obtain ⟨⟨v, hv, ho, hn⟩, hb, hL⟩ := h
 refine ⟨⟨v, (hr.block B (by omega)).trans hv, ?_, hn⟩, hb.trans (hr.mono (by omega)), by have := hr.size; omega⟩
 exact World.ownsRow.kept (row := none) ho ⟨hr.os, hr.tape, hr.output, hr.size, fun k hk _ => hr.block k hk⟩ (by cases Value.ownBlock _ <;> simp)
theorem cyI_own (w : World) (L B : Nat) (hL : w.heap.size ≤ L) : OwnFrom L (CyI w B) :=
 OwnFrom.and (Own.from (holdsRow_own (B + 1) B 82 45 5 (fun pre : List (List Value) => pre.length) (fun pre => pre.flatten) (fun _ _ => True)) _) (OwnFrom.and (ownFrom_below (Nat.le_refl _) hL) fun _ _ _ _ h hg _ => Nat.le_trans h hg.size)
theorem keeps_below {A B : World} (h : Below A.heap.size A B) : KeepsOthers A B := ⟨h.size, fun k _ hk _ => (h.block k (Array.getElem?_eq_some_iff.1 hk).1).trans hk⟩
theorem cells_new (w : World) (cs : List Value) (t : TypeId) : ∀ j u, cs[j]? = some u → (w.alloc (.cells cs.toArray t)).cell? ((⟨w.heap.size, 0, none⟩ : Addr).add j) = some u := by
 intro j u hu
 rw [Addr.add_lit, Nat.zero_add]
 simp only [World.cell?, alloc_at, Option.isSome_none, Bool.false_eq_true, if_false]
 rw [List.getElem?_toArray]; exact hu
theorem own_lowerR {B B' : Nat} {w : World} {v : Value} {e : TypeId} {size n : Nat} {xs : List Value} (h : w.ownsRow B e size v n xs) (hB : B' ≤ B) : w.ownsRow B' e size v n xs := by
 obtain ⟨h1, h2 | ⟨g, cap, cur, a, b, r⟩⟩ := h
 ·exact ⟨h1, .inl h2⟩
 ·exact ⟨h1, .inr ⟨g, cap, cur, a, Nat.le_trans hB b, r⟩⟩
section
attribute [local go_sem] Oper.semAt_some
set_option maxRecDepth 100000
set_option maxHeartbeats 8000000
theorem appendSeq_any (n sb : Nat) (hn : 4 ≤ n) (a : Option Addr) (c : Nat) (rows : List (List Value)) (w : World) (hb : Boxed w sb 82 (.slice a rows.length c)) (hr : IsRow w (.slice a rows.length c) 5 rows) (h5 : ∀ r ∈ rows, ∃ s p1 n1 k1 p2 n2 k2 p3 n3 k3 p4 n4 k4, r = [.string s, .slice p1 n1 k1, .slice p2 n2 k2, .slice p3 n3 k3, .slice p4 n4 k4]) (a0 : Option Addr) (ha0 : rows ≠ [] → a0 = a) (ha1 : ∀ g, (a0.map Addr.block) = some g → g < w.heap.size) (hrl : rows.length ≤ 1000000000) :
    CallsIn Fence.wide n Tryz.prog 201 #[.slice none 0 0, .func (.func 145) #[] #[.pointer (some ⟨sb, 0, none⟩)]] w fun e w' => ∃ v, e = .returned v ∧ w'.ownsRow w.heap.size 45 5 v rows.length rows.flatten ∧ Below w.heap.size w w' := by
  obtain ⟨i0, hi, hz0, hz1, hz2⟩ := info_parts infoRule
  have mixed : Tryz.prog.follows .mixedOrders = true := by kernel_rfl
  have bO := Boxed.new w 82 (.slice none 0 0)
  have hb1 : Below w.heap.size w (w.alloc (.cells #[.slice none 0 0] 82)) := (Below.refl _ w).alloc (Nat.le_refl _) _
  have hbW : Boxed (w.alloc (.cells #[.slice none 0 0] 82)) sb 82 (.slice a rows.length c) := (hb1.block sb hb.lt).trans hb
  have hrW := hr.below hb1
  have hsl := hb.lt
  refine callsIn_of_wp_marks Tryz.func201 rfl trivial ?_ rfl
  simp only [Tryz.ntmps201, List.size_toArray, List.length_cons, List.length_nil, Nat.reduceAdd, Nat.reduceSub, Array.replicate_succ, Array.replicate_zero, List.push_toArray, List.append_toArray, List.nil_append, List.cons_append]
  gi_wp2
  refine wpIn_rangeAllX (xs := rows) rfl (by omega) (gf := 145) (lb := #[.pointer (some ⟨sb, 0, none⟩)]) rfl trivial (enters_of Tryz.func145 (by kernel_rfl) rfl)
    (values_all _ (by omega) sb a c rows _ hbW hrW h5 a0 ha0) (Below.refl _ _) (fun _ => rfl) (fun A B h => keeps_below h) (fun _ _ _ h k => ⟨k.1.trans h.1, fun g hg => (k.2 g hg).trans (h.2 g hg)⟩) (keepBG_put (by simp; omega) (fun g hg => by have := ha1 g hg; simp; omega))
    (CyI w w.heap.size) (fun s A B h hr => cyI_rs s A B h (Nat.le_refl _) hr) (cyI_own w _ _ (by simp)) ⟨⟨_, bO, World.ownsRow_nil _ _ _ _, trivial⟩, hb1, by simp⟩
    (fun x a' W => ∃ bx : Nat, w.heap.size + 1 ≤ bx ∧ W.heap[bx]? = some (.cells x.toArray 45 (0, 0)) ∧ a' = { tmps := #[.slice none 0 0, .func (.func 145) #[] #[.pointer (some ⟨sb, 0, none⟩)], .pointer (some ⟨w.heap.size, 0, none⟩), undef, .slice none 0 0, .pointer (some ⟨bx, 0, none⟩), .func (.func 145) #[] #[.pointer (some ⟨sb, 0, none⟩)], .agg x.toArray, undef, undef, undef, undef, undef], defers := [] })
    ?ax ?assign ?body ?done
  case ax =>
    rintro x a' W l o o' ⟨bx, h1, h3, h4⟩ hl ho hc
    refine ⟨bx, h1, (World.putObj_heap_other ?_).trans h3, h4⟩
    rintro rfl
    rw [h3] at ho
    cases ho
    cases hc
  case assign =>
    intro l pre x post W K hx hI hK
    obtain ⟨s, p1, n1, k1, p2, n2, k2, p3, n3, k3, p4, n4, k4, rfl⟩ := h5 x (by rw [hx]; simp)
    have HK := Lib.hid hK; have HI := Lib.hid hI; have HA1 := Lib.hid ha1
    have hz : w.heap.size + 1 ≤ W.heap.size := hI.2.2
    have HZ := Lib.hid hz
    clear hK hI hx hz hb hr h5 hb1 hbW hrW bO ha0 ha1
    gi_wp2
    refine HK.out _ _ ((KeepsOthers.alloc W _).from _) ⟨Below.heap_alloc _ _ _ (by have := HZ.out; omega), fun g hg => Below.heap_alloc _ _ _ (by have := HA1.out g hg; have := HZ.out; omega)⟩ (cyI_rs _ _ _ HI.out (Nat.le_refl _) ((Below.refl _ _).alloc (Nat.le_refl _) _)) ⟨W.heap.size, HZ.out, alloc_at W _, rfl⟩
  case body =>
    rintro l pre x post a' W hx hI ⟨bx, hbx, hcell, rfl⟩
    obtain ⟨s, p1, n1, k1, p2, n2, k2, p3, n3, k3, p4, n4, k4, rfl⟩ := h5 x (by rw [hx]; simp)
    obtain ⟨⟨v, hv, hrow, _⟩, hB, hL⟩ := hI
    have hpl : pre.length + 1 ≤ rows.length := by rw [hx, List.length_append, List.length_cons]; omega
    have hc := hv.cell
    have hf := hv.frozen
    obtain ⟨e0, e1, e2, e3, e4, _⟩ := cells5 hcell
    have HV := Lib.hid hv; have HROW := Lib.hid hrow; have HB := Lib.hid hB; have HL := Lib.hid hL; have HX := Lib.hid hx; have HBX := Lib.hid hbx
    have HSL := Lib.hid hsl; have HA1 := Lib.hid ha1
    clear hv hrow hB hL hx hbx hcell hb hr h5 hb1 hbW hrW bO ha0 ha1 hsl
    have hml : pre.length + 1 ≤ maxLen := by unfold maxLen; omega
    gi_wp2_with (gi_at_builtin; refine wpListIn_append_own _ rfl _ _ 82 rfl (w.heap.size + 1) 45 i0 _ 5 112 Tryz.underlying82 hi hz0 hz1 hz2 rfl (by decide) v _ _ rfl (HROW.out.alloc _) ⟨W.heap.size, 0, none⟩ 1 1 [.string s, .slice p1 n1 k1, .slice p2 n2 k2, .slice p3 n3 k3, .slice p4 n4 k4] rfl rfl ?qc2 ?qc3 hml ?qc5 ?qc6 ?_)
    case qc2 => exact cells_new W [.string s, .slice p1 n1 k1, .slice p2 n2 k2, .slice p3 n3 k3, .slice p4 n4 k4] _
    case qc3 => intro u hu; simp only [List.mem_cons, List.not_mem_nil, or_false] at hu; rcases hu with rfl | rfl | rfl | rfl | rfl <;> rfl
    case qc5 => omega
    case qc6 => have h1 : w.heap.size + 1 ≤ W.heap.size := HL.out
                rw [World.size_alloc]; omega
    intro v' w1 hown' hgrow hni
    obtain ⟨g', cap', rfl⟩ := ownsRow_succ hown'
    have hL1 : w.heap.size + 1 ≤ W.heap.size := HL.out
    obtain ⟨hv1, hv2, hr2, hk2, hb2, hj2⟩ := boxed_app HV.out HROW.out (Nat.lt_succ_self _) hL1 hown' hgrow
    have hc1 := hv1.cell
    have hf1 := hv1.frozen
    have HFIN := Lib.hid (show KeepsFrom (w.heap.size + 1) W (w1.setCell ⟨w.heap.size, 0, none⟩ (.slice (some ⟨g', 0, none⟩) (pre.length + 1) cap')) ∧ KeepBG sb a0 W (w1.setCell ⟨w.heap.size, 0, none⟩ (.slice (some ⟨g', 0, none⟩) (pre.length + 1) cap')) ∧ CyI w w.heap.size (pre ++ [[.string s, .slice p1 n1 k1, .slice p2 n2 k2, .slice p3 n3 k3, .slice p4 n4 k4]]) (w1.setCell ⟨w.heap.size, 0, none⟩ (.slice (some ⟨g', 0, none⟩) (pre.length + 1) cap')) from
      ⟨hk2.from _, ⟨hb2.block sb HSL.out, fun g hg => hb2.block g (HA1.out g hg)⟩, ⟨_, hv2, by rw [List.length_append, List.flatten_append]; simpa using hr2, trivial⟩, HB.out.trans hb2, Nat.le_trans hL1 hk2.size⟩)
    clear hv1 hv2 hr2 hk2 hb2 hj2 hown' hgrow hni
    gi_wp2
    exact HFIN.out
  case done =>
    rintro D W hD ⟨⟨v, hv, hrow, _⟩, hB, hL⟩ hK
    have hc := hv.cell
    gi_wp2
    refine ⟨by simp, .inl ⟨_, _, rfl, run_takeDeferred hK, ?_⟩⟩
    exact ⟨_, results_tmp rfl _ _ _, v, rfl, ownsRow_putObj (own_lowerR hrow (Nat.le_succ _)) _ hK rfl, hB.trans (belowK_b (w := w) (Nat.le_refl _) W D _ _ (by simp at hD; omega) hK rfl rfl)⟩
end
end Go.Proofs.YtdhmeganlnpohaaGreatDoor
namespace Go.Proofs.YtdhmeganlnpohaaGreatDoor
open Go.RowKit Go.Shelf Go.Sort
theorem flat5_at : ∀ (l : List E5) (t : Nat), t < l.length * 5 → ((l.map enc5).flatten)[t]? = some (enc5 l[t / 5]!)[t % 5]!
 | [], t, h => by simp at h
 | x :: l, t, h => by
  simp only [List.map_cons, List.flatten_cons]
  by_cases ht : t < 5
  ·rw [List.getElem?_append_left (by rw [enc5_len]; exact ht), Nat.div_eq_of_lt ht, Nat.mod_eq_of_lt ht]
   rw [List.getElem?_eq_getElem (by rw [enc5_len]; exact ht), getElem!_pos _ t (by show t < (enc5 ((x :: l)[0]!)).length; rw [enc5_len]; exact ht)]
   rfl
  ·rw [List.getElem?_append_right (by rw [enc5_len]; omega), enc5_len, flat5_at l (t - 5) (by simp at h; omega)]
   rw [show t / 5 = (t - 5) / 5 + 1 by omega, show t % 5 = (t - 5) % 5 by omega]
   simp
theorem flat5_len : ∀ l : List E5, ((l.map enc5).flatten).length = l.length * 5
 | [] => by simp
 | x :: l => by simp only [List.map_cons, List.flatten_cons, List.length_append, flat5_len l, enc5_len, List.length_cons]; omega
theorem SWL.fr {w0 W : World} {blk : Nat} {l : List E5} (h : SWL w0 blk l W) : Fr (fun b => b = blk) w0 W := by
 have hle := h.le
 obtain ⟨m, os, rfl⟩ := h
 refine ⟨rfl, rfl, rfl, hle, fun k hk hne => ?_⟩
 show ((w0.heap.modify blk (onCells (putCells id 0 (flatK enc5 5 l.toArray)))) ++ os)[k]? = w0.heap[k]?
 rw [Array.getElem?_append_left (by rw [Array.size_modify]; exact hk), Array.getElem?_modify, if_neg (fun e => hne e.symm)]
theorem SWL.block {w0 W : World} {blk : Nat} {l : List E5} {cur : Array Value} {T : TypeId} {fz : Nat × Nat} (h : SWL w0 blk l W) (hb : w0.heap[blk]? = some (.cells cur T fz)) : ∃ cur', W.heap[blk]? = some (.cells cur' T fz) ∧ cur'.size = cur.size := by
 obtain ⟨m, os, rfl⟩ := h
 have hlt := (Array.getElem?_eq_some_iff.1 hb).1
 refine ⟨putCells id 0 (flatK enc5 5 l.toArray) cur, ?_, by unfold putCells; simp⟩
 show ((w0.heap.modify blk (onCells (putCells id 0 (flatK enc5 5 l.toArray)))) ++ os)[blk]? = _
 rw [Array.getElem?_append_left (by rw [Array.size_modify]; exact hlt), Array.getElem?_modify, if_pos rfl, hb]
 rfl
theorem pairs_of {Q : List Value → RuleS → Prop} (hQ : ∀ r x, Q r x → ∃ e : E5, r = enc5 e ∧ e.1 = x.name) : ∀ (rows : List (List Value)) (xs : List RuleS), AllA Q rows xs →
  ∃ L : List (E5 × RuleS), rows = L.map (fun p => enc5 p.1) ∧ xs = L.map Prod.snd ∧ ∀ p ∈ L, Q (enc5 p.1) p.2 ∧ p.1.1 = p.2.name
 | [], [], _ => ⟨[], rfl, rfl, by simp⟩
 | [], _ :: _, h => by have := h.1; simp at this
 | _ :: _, [], h => by have := h.1; simp at this
 | r :: rows, x :: xs, h => by
  obtain ⟨e, he, hn⟩ := hQ r x (h.2 0 r x rfl rfl)
  obtain ⟨L, h1, h2, h3⟩ := pairs_of hQ rows xs ⟨by have := h.1; simpa using this, fun j r' x' hr hx => h.2 (j + 1) r' x' (by simpa using hr) (by simpa using hx)⟩
  refine ⟨(e, x) :: L, by rw [h1, he]; rfl, by rw [h2]; rfl, fun p hp => ?_⟩
  rcases List.mem_cons.1 hp with rfl | hp
  ·exact ⟨he ▸ h.2 0 r x rfl rfl, hn⟩
  ·exact h3 p hp
end Go.Proofs.YtdhmeganlnpohaaGreatDoor
namespace Go.Proofs.YtdhmeganlnpohaaGreatDoor
open Go.RowKit Go.Shelf Go.Sort
theorem ruleI_enc {w : World} {r : List Value} {x : RuleS} (h : RuleI w r x) : ∃ e : E5, r = enc5 e ∧ e.1 = x.name := by
 obtain ⟨vi, vo, vf, vs, rfl, h1, h2, h3, h4⟩ := h
 obtain ⟨a1, c1, rfl⟩ := isStrs_shape h1
 obtain ⟨a2, c2, rfl⟩ := isStrs_shape h2
 obtain ⟨a3, c3, rfl⟩ := isStrs_shape h3
 obtain ⟨a4, c4, rfl⟩ := stepsI_shape h4
 exact ⟨(x.name, (a1, x.ins.length, c1), (a2, x.outs.length, c2), (a3, x.after.length, c3), (a4, x.steps.length, c4)), rfl, rfl⟩
theorem perm_lift {α β : Type} (f : α → β) {l m : List β} (h : l.Perm m) : ∀ L : List α, m = L.map f → ∃ P : List α, P.Perm L ∧ P.map f = l := by
 induction h with
 | nil => intro L e; exact ⟨L, List.Perm.refl _, e.symm⟩
 | cons x _ ih =>
  intro L e
  cases L with
  | nil => cases e
  | cons a L =>
   rw [List.map_cons] at e
   obtain ⟨e1, e2⟩ := List.cons.inj e
   obtain ⟨P, h1, h2⟩ := ih L e2
   exact ⟨a :: P, h1.cons a, by rw [List.map_cons, h2, e1]⟩
 | swap x y l =>
  intro L e
  cases L with
  | nil => cases e
  | cons a L =>
   cases L with
   | nil => cases e
   | cons b L =>
    simp only [List.map_cons, List.cons.injEq] at e
    obtain ⟨e1, e2, e3⟩ := e
    exact ⟨b :: a :: L, List.Perm.swap _ _ _, by simp only [List.map_cons, e1, e2, e3]⟩
 | trans _ _ ih1 ih2 =>
  intro L e
  obtain ⟨P, h1, h2⟩ := ih2 L e
  obtain ⟨Q, h3, h4⟩ := ih1 P h2.symm
  exact ⟨Q, h3.trans h1, h4⟩
def ByName (ys : List RuleS) : Prop := ys.Pairwise fun x y => Lib.compareBytes x.name.data.toList y.name.data.toList ≤ 0
theorem sorted_list (d d' : Array E5) (hp : PermIn 0 d.size d d') (hs : SortedIn (ltOf cf5) 0 d.size d') : d'.toList.Perm d.toList ∧ d'.toList.Pairwise fun x y => cf5 x y ≤ 0 := by
 obtain ⟨h1, _, h3⟩ := hp
 refine ⟨?_, ?_⟩
 ·rw [Array.extract_size] at h3
  rwa [show d'.extract 0 d.size = d' by rw [← h1]; exact Array.extract_size] at h3
 ·refine List.pairwise_iff_getElem.2 fun i j hi hj hij => ?_
  have hi' : i < d'.size := by simpa using hi
  have hj' : j < d'.size := by simpa using hj
  have := hs i j (Nat.zero_le _) hij (by omega)
  rw [getElem!_pos d' j hj', getElem!_pos d' i hi'] at this
  unfold ltOf at this
  rw [decide_eq_false_iff_not] at this
  have h2 := cf_anti d'[i] d'[j]
  simp only [Array.getElem_toList]
  omega
theorem sortRules_any (B : Nat) (v : Value) (rs : List RuleS) (rows : List (List Value)) (w0 w : World) (hB : w0.heap.size = B) (hb : Go.RowKit.Below B w0 w) (hown : w.ownsRow B 45 5 v rows.length rows.flatten) (hall : AllA (RuleI w0) rows rs) (hn : rs.length ≤ 1000000) :
  Calls Tryz.prog 144 #[v, .func (.func 101) #[] #[]] w fun e w' => e = .returned (.tuple #[]) ∧ ∃ ys, ys.Perm rs ∧ ByName ys ∧ RulesI w' v ys ∧ Go.RowKit.Below B w0 w' := by
 obtain ⟨L, rfl, rfl, hL⟩ := pairs_of (fun r x h => ruleI_enc h) rows _ hall
 have hLl : (L.map (fun p => enc5 p.1)).length = L.length := by simp
 obtain ⟨hlen, hcase⟩ := id hown
 rcases hcase with ⟨hv, h0⟩ | ⟨g, cap, cur, hv, hBg, hg, hnc, hcm, hcs, hct⟩
 ·subst hv
  rw [hLl] at h0
  obtain rfl : L = [] := List.eq_nil_of_length_eq_zero h0
  have e6 : soRen.f 6 = 144 := by kernel_rfl
  have := AnyF.slices_SortFunc_none lSo none 0 (.func (.func 101) #[] #[]) w
  rw [e6] at this
  refine this.mono ?_
  rintro e w' ⟨rfl, rfl⟩
  exact ⟨rfl, [], List.Perm.refl _, List.Pairwise.nil, ⟨[], ⟨none, 0, rfl, Nat.le_refl _, Nat.zero_le _, fun h => absurd rfl h⟩, ⟨rfl, fun j r x hr => by simp at hr⟩⟩, hb⟩
 ·subst hv
  rw [hLl] at hown hnc hct hlen
  rw [List.length_map] at hn
  rw [hLl]
  have hgl := (Array.getElem?_eq_some_iff.1 hg).1
  obtain ⟨es, hes⟩ : ∃ es, L.map Prod.fst = es := ⟨_, rfl⟩
  have hrows : L.map (fun p => enc5 p.1) = es.map enc5 := by rw [← hes, List.map_map]; rfl
  have hel : es.length = L.length := by rw [← hes, List.length_map]
  have hH : HoldsK enc5 5 w g 0 es.toArray := by
   intro j hj
   rw [size_flatK, List.size_toArray, hel] at hj
   rw [Nat.zero_add, get_flatK _ _ _ _ (by rw [List.size_toArray, hel]; exact hj)]
   refine ⟨?_, hown.frozenAt j⟩
   rw [hown.cellAt j hj, hrows, flat5_at es j (by rw [hel]; exact hj)]
   simp
  have key := sortFunc_any g cap es.toArray w hH hgl (by rw [List.size_toArray, hel]; omega)
  rw [List.size_toArray, hel] at key
  refine key.mono ?_
  rintro e w' ⟨rfl, d', m, os, hp, hs, rfl⟩
  obtain ⟨ys, rfl⟩ : ∃ ys : List E5, d' = ys.toArray := ⟨d'.toList, by simp⟩
  obtain ⟨q1, q2⟩ := sorted_list es.toArray ys.toArray (by rw [List.size_toArray, hel]; exact hp) (by rw [List.size_toArray, hel]; exact hs)
  simp only at q1 q2
  have hdl : ys.length = L.length := by rw [q1.length_eq]; exact hel
  have hS : SWL w g ys (sortWorldK enc5 5 w g 0 m ys.toArray os) := ⟨m, os, rfl⟩
  obtain ⟨cur', hg', hcs'⟩ := hS.block hg
  have hfr := hS.fr
  have hhold := hS.holds ⟨es.toArray, by rw [List.size_toArray, hel, hdl], enc5_len, enc5_one, hH, hgl⟩
  have hb' : Go.RowKit.Below B w0 (sortWorldK enc5 5 w g 0 m ys.toArray os) := ⟨hfr.os.trans hb.os, hfr.tape.trans hb.tape, hfr.output.trans hb.output, Nat.le_trans hb.size hfr.size, fun k hk => (hfr.block k (by have := hb.size; omega) (by omega)).trans (hb.block k hk)⟩
  have hperm : ys.Perm (L.map Prod.fst) := by rw [hes]; exact q1
  obtain ⟨P, hPL, hPd⟩ := perm_lift Prod.fst hperm L rfl
  have hPl : P.length = L.length := hPL.length_eq
  refine ⟨rfl, P.map Prod.snd, hPL.map _, ?_, ⟨P.map fun p => enc5 p.1, ?_, ?_⟩, hb'⟩
  ·unfold ByName
   rw [List.pairwise_map]
   rw [← hPd, List.pairwise_map] at q2
   refine q2.imp_of_mem fun {a b} ha hb h => ?_
   have ea := (hL a (hPL.mem_iff.1 ha)).2
   have eb := (hL b (hPL.mem_iff.1 hb)).2
   rw [← ea, ← eb]; exact h
  ·have hPm : P.map (fun p => enc5 p.1) = ys.map enc5 := by rw [← hPd, List.map_map]; rfl
   have hown' : (sortWorldK enc5 5 w g 0 m ys.toArray os).ownsRow B 45 5 (.slice (some ⟨g, 0, none⟩) L.length cap) (P.map fun p => enc5 p.1).length (P.map fun p => enc5 p.1).flatten := by
    rw [List.length_map, hPl, hPm]
    refine ⟨by rw [flat5_len, hdl], .inr ⟨g, cap, cur', rfl, hBg, hg', hnc, hcm, by rw [hcs']; exact hcs, ?_⟩⟩
    refine List.ext_getElem? fun j => ?_
    by_cases hj : j < L.length * 5
    ·rw [List.getElem?_take_of_lt hj, flat5_at ys j (by rw [hdl]; exact hj)]
     have := (hhold j (by rw [size_flatK, List.size_toArray, hdl]; exact hj)).1
     rw [Nat.zero_add, get_flatK _ _ _ _ (by rw [List.size_toArray, hdl]; exact hj)] at this
     unfold World.cell? at this
     rw [hg'] at this
     simpa using this
    ·rw [List.getElem?_eq_none (by rw [List.length_take]; omega), List.getElem?_eq_none (by rw [flat5_len, hdl]; omega)]
   have := row_own hown' (fun r hr => by obtain ⟨p, _, rfl⟩ := List.mem_map.1 hr; rfl)
   exact this
  ·refine ⟨by simp, fun j r x hr hx => ?_⟩
   rw [List.getElem?_map] at hr hx
   cases hpj : P[j]? with
   | none => rw [hpj] at hr; cases hr
   | some p =>
    rw [hpj] at hr hx
    simp only [Option.map_some, Option.some.injEq] at hr hx
    subst hr hx
    exact (hL p (hPL.mem_iff.1 (List.mem_of_getElem? hpj))).1.below (by rw [hB]; exact hb')
end Go.Proofs.YtdhmeganlnpohaaGreatDoor
namespace Go.Proofs.YtdhmeganlnpohaaGreatDoor
theorem nextsF_ok {s N : Nat} {nd : Nat → List Nat} {y : List Nat} : ∀ {xs : List Nat} {q : List (List Nat)} {r : List Bool} {q' : List (List Nat)} {r' : List Bool}, WaysOk s nd N q r → y.length + cntF r ≤ N + 1 → (∀ z ∈ y, z < N) → (∀ x ∈ xs, x < N) → nextsF s y xs q r = some (q', r') → WaysOk s nd N q' r'
 | [], q, r, q', r', hW, _, _, _, h => by
  obtain ⟨rfl, rfl⟩ : q = q' ∧ r = r' := by simpa [nextsF] using h
  exact hW
 | x :: xs, q, r, q', r', hW, hy, hz, hx, h => by
  unfold nextsF at h
  split at h
  ·cases h
  have hxl := hx x (by simp)
  by_cases h2 : r[x]? = some true
  ·rw [if_pos h2] at h
   exact nextsF_ok hW hy hz (fun z hz' => hx z (by simp [hz'])) h
  ·rw [if_neg h2] at h
   have h2' : r[x]? = some false := by
    have hl : x < r.length := by rw [hW.size]; exact hxl
    rw [List.getElem?_eq_getElem hl] at h2 ⊢
    cases hb : r[x] with
    | true => rw [hb] at h2; exact absurd rfl h2
    | false => rfl
   have := cntF_set h2'
   exact nextsF_ok (hW.push hy hz hxl h2') (by omega) hz (fun z hz' => hx z (by simp [hz'])) h
theorem bfsF_ok {s N : Nat} {nd : Nat → List Nat} (hnd : ∀ x < N, ∀ y ∈ nd x, y < N) : ∀ (n : Nat) (q : List (List Nat)) (r : List Bool), WaysOk s nd N q r → (∀ x ∈ bfsF s nd n q r, x < N) ∧ (bfsF s nd n q r).length ≤ N + 1
 | 0, _, _, _ => by simp [bfsF]
 | _ + 1, [], _, _ => by simp [bfsF]
 | n + 1, w :: q, r, hW => by
  rw [bfsF_cons]
  cases hx : nextsF s w (nd (w.getLastD 0)) q r with
  | none => exact ⟨hW.lt w (by simp), by have := hW.len w (by simp); show w.length ≤ N + 1; omega⟩
  | some p =>
   obtain ⟨q', r'⟩ := p
   have hne := hW.ne w (by simp)
   have hl : w.getLastD 0 < N := by
    rw [List.getLastD_eq_getLast?, List.getLast?_eq_some_getLast hne]
    exact hW.lt w (by simp) _ (List.getLast_mem hne)
   exact bfsF_ok hnd n q' r' (nextsF_ok hW.tail (hW.len w (by simp)) (hW.lt w (by simp)) (hnd _ hl) hx)
theorem roundP_ok {s N : Nat} {nd : Nat → List Nat} (hnd : ∀ x < N, ∀ y ∈ nd x, y < N) (hs : s < N) : (∀ x ∈ roundP s nd N, x < N) ∧ (roundP s nd N).length ≤ N + 1 := bfsF_ok hnd _ _ _ (waysOk_first hs)
def nmLe (x y : RuleS) : Bool := decide (Go.Lib.compareBytes x.name.data.toList y.name.data.toList ≤ 0)
def srtRules (rs : List RuleS) : List RuleS := rs.mergeSort nmLe
end Go.Proofs.YtdhmeganlnpohaaGreatDoor
namespace Go.Proofs.YtdhmeganlnpohaaGreatDoor
open Go.RowKit
def QRow (w : World) (base : Nat) (e : TypeId) (v : Value) (xs : List Value) : Prop :=
 (v = .slice none 0 0 ∧ xs = []) ∨ ∃ g o cap cur, v = .slice (some ⟨g, o, none⟩) xs.length cap ∧ base ≤ g ∧ w.heap[g]? = some (.cells cur e (0, 0)) ∧ xs.length ≤ cap ∧ cap ≤ maxLen ∧ o + cap ≤ cur.size ∧ ∀ (j : Nat) x, xs[j]? = some x → cur[o + j]? = some x
theorem QRow.shape {w : World} {base : Nat} {e : TypeId} {v : Value} {xs : List Value} (h : QRow w base e v xs) : ∃ a c, v = .slice a xs.length c ∧ xs.length ≤ c ∧ c ≤ maxLen ∧ ∀ (j : Nat) x, xs[j]? = some x → ∃ b o, a = some ⟨b, o, none⟩ ∧ base ≤ b ∧ w.cell? ⟨b, o + j, none⟩ = some x := by
 rcases h with ⟨rfl, rfl⟩ | ⟨g, o, cap, cur, rfl, hb, hg, h1, h2, h3, h4⟩
 ·exact ⟨_, _, rfl, Nat.le_refl _, Nat.zero_le _, fun j x hx => by simp at hx⟩
 ·refine ⟨_, _, rfl, h1, h2, fun j x hx => ⟨g, o, rfl, hb, ?_⟩⟩
  simp only [World.cell?, hg, Option.isSome_none, Bool.false_eq_true, if_false]
  exact h4 j x hx
theorem QRow.lt {w : World} {base : Nat} {e : TypeId} {v : Value} {xs : List Value} (h : QRow w base e v xs) : ∀ k, v.ownBlock = some k → base ≤ k ∧ k < w.heap.size := by
 rcases h with ⟨rfl, rfl⟩ | ⟨g, o, cap, cur, rfl, hb, hg, h1, h2, h3, h4⟩
 ·intro k hk; cases hk
 ·intro k hk
  obtain rfl : g = k := by simpa [Value.ownBlock] using hk
  exact ⟨hb, (Array.getElem?_eq_some_iff.1 hg).1⟩
theorem QRow.heap {w w' : World} {base : Nat} {e : TypeId} {v : Value} {xs : List Value} (h : QRow w base e v xs) (hb : ∀ k, v.ownBlock = some k → w'.heap[k]? = w.heap[k]?) : QRow w' base e v xs := by
 rcases h with h | ⟨g, o, cap, cur, rfl, hb', hg, h1⟩
 ·exact .inl h
 ·exact .inr ⟨g, o, cap, cur, rfl, hb', (hb g rfl).trans hg, h1⟩
theorem QRow.drop {w : World} {base : Nat} {e : TypeId} {a : Option Addr} {n c : Nat} {x : Value} {xs : List Value} (h : QRow w base e (.slice a n c) (x :: xs)) : QRow w base e (.slice (if c = 1 then a else a.map (·.add (1 * 1))) (n - 1) (c - 1)) xs := by
 rcases h with ⟨_, h⟩ | ⟨g, o, cap, cur, q, hb, hg, h1, h2, h3, h4⟩
 ·cases h
 ·injection q with q1 q2 q3
  subst q1 q2 q3
  rw [List.length_cons] at h1 ⊢
  by_cases hc : c = 1
  ·subst hc
   obtain rfl : xs = [] := List.eq_nil_of_length_eq_zero (by omega)
   exact .inr ⟨g, o, 0, cur, by simp, hb, hg, by simp, by omega, by omega, fun j x hx => by simp at hx⟩
  ·refine .inr ⟨g, o + 1, c - 1, cur, by rw [if_neg hc]; simp [Addr.add_lit], hb, hg, by omega, by omega, by omega, fun j y hy => ?_⟩
   have := h4 (j + 1) y (by simpa using hy)
   rw [show o + 1 + j = o + (j + 1) by omega]; exact this
theorem run_append_q {P : Program} {w : World} (base : Nat) (t ty e : TypeId) (i : TypeInfo) (z : Value) (bytes : Nat) (ht : P.underlying t = some (.slice e)) (hi : P.info? e = some i) (hz : i.zero = some z) (hsize : i.size = 1) (hby : i.bytes = bytes) (hzs : z.cells.size = 1)
    {v : Value} {xs : List Value} (h : QRow w base e v xs) (ad : Addr) (c : Nat) (x : Value) (hx : w.cell? ad = some x) (h1 : x.oneCell' = true) (h63 : xs.length + 1 ≤ maxLen) (hbytes : (xs.length + 1) * bytes ≤ 140737488355328) (hbase : base ≤ w.heap.size) :
    ∃ v' w', (Builtin.append_ #[t, t] ty #[v, .slice (some ad) 1 c]).run P w = .ok v' w' ∧ QRow w' base e v' (xs ++ [x]) ∧ w.grownBy w' v.ownBlock ∧ (v'.ownBlock = v.ownBlock ∨ v'.ownBlock = some w.heap.size) ∧ v'.ownBlock ≠ none := by
  have hs : Src P i.size t (.slice (some ad) 1 c) 1 [x] w := Src.ofSlice w ht ad 1 c [x] (by rw [hsize]; rfl) (fun j u hu => by
    match j, hu with
    | 0, hu => obtain rfl : x = u := by simpa using hu
               simpa [Addr.add] using hx) (fun u hu => by obtain rfl : u = x := by simpa using hu
                                                          exact h1)
  have hsmall : xs.length + 1 ≤ 9223372036854775807 := by simp only [maxLen] at h63; omega
  have grow : ∀ (bs : Option Addr) (sc : Nat), v = .slice bs xs.length sc → sc < xs.length + 1 → (Builtin.firstCells i.size xs.length (.slice bs xs.length sc)).run P w.drew = .ok xs.toArray w.drew →
      ∃ v' w', (Builtin.append_ #[t, t] ty #[v, .slice (some ad) 1 c]).run P w = .ok v' w' ∧ QRow w' base e v' (xs ++ [x]) ∧ w.grownBy w' v.ownBlock ∧ (v'.ownBlock = v.ownBlock ∨ v'.ownBlock = some w.heap.size) ∧ v'.ownBlock ≠ none := by
    rintro bs sc rfl hg hold
    have hrun := run_append_grow_src (P := P) w t t ty e i z ht hi hz bs xs.length sc xs hold _ 1 [x] hs hg (by omega) (growslice_fits hg (by rw [hby]; exact hbytes))
    have hge := grownCap_ge w (xs.length + 1) sc e
    have hcm := grownCap_le_maxLen w (xs.length + 1) sc e h63
    refine ⟨_, _, hrun, .inr ⟨w.heap.size, 0, grownCap w (xs.length + 1) sc e, _, by rw [List.length_append]; rfl, hbase, heap_alloc_new w.drew _, by rw [List.length_append]; exact hge, hcm, ?_, fun j u hu => ?_⟩, ⟨rfl, rfl, rfl, by simp, fun k hk _ => Below.heap_alloc w.drew _ k hk⟩, .inr rfl, by simp [Value.ownBlock]⟩
    · rw [Array.size_append, List.size_toArray, size_zeroCells, hzs, List.length_append]
      simp only [List.length_cons, List.length_nil]
      omega
    · rw [Nat.zero_add, Array.getElem?_append_left (by rw [List.size_toArray]; exact (List.getElem?_eq_some_iff.1 hu).1), List.getElem?_toArray]
      exact hu
  rcases h with ⟨rfl, rfl⟩ | ⟨g, o, cap, cur, rfl, hb, hg, h2, h3, h4, h5⟩
  · exact grow none 0 rfl (by simp) (run_firstCells_none _ _ _ _ _)
  · by_cases hroom : xs.length + 1 ≤ cap
    · have hlt : o + xs.length < cur.size := by omega
      have hr := run_append_room_src (P := P) w t t ty e i ht hi g o xs.length cap _ 1 [x] hs hroom
        (fun j hj => by
          obtain rfl : j = 0 := by simpa using hj
          simp only [hsize, World.cell?, hg, Option.isSome_none, Bool.false_eq_true, if_false, Nat.mul_one, Nat.add_zero]
          rw [Array.getElem?_eq_getElem hlt]; rfl)
        (fun j hj => by simp [World.frozen?, hg])
      refine ⟨_, _, hr, .inr ⟨g, o, cap, cur.setIfInBounds (o + xs.length) x, by rw [List.length_append]; rfl, hb, ?_, by rw [List.length_append]; exact hroom, h3, by rw [Array.size_setIfInBounds]; exact h4, fun j u hu => ?_⟩, ?_, .inl rfl, by simp [Value.ownBlock]⟩
      · rw [hsize, Nat.mul_one]
        show (w.setCell ⟨g, o + xs.length, none⟩ x).heap[g]? = _
        rw [setCell_eq_setRow w g _ cur e (0, 0) x hg]
        exact setRow_heap w g cur _ e (0, 0) hg
      · by_cases hj : j < xs.length
        · rw [List.getElem?_append_left hj] at hu
          rw [Array.getElem?_setIfInBounds_ne (by omega)]
          exact h5 j u hu
        · rw [List.getElem?_append_right (by omega)] at hu
          have hjl := (List.getElem?_eq_some_iff.1 hu).1
          obtain rfl : j = xs.length := by simp at hjl; omega
          obtain rfl : x = u := by simpa using hu
          rw [Array.getElem?_setIfInBounds_self_of_lt hlt]
      · exact ⟨rfl, rfl, rfl, by simp [World.setCells, World.setCell], fun k hk hne => by
          show (w.setCell ⟨g, _, none⟩ x).heap[k]? = _
          exact Below.heap_setCell w _ _ k (fun e => hne (by rw [e]; rfl))⟩
    · have holds : ∀ j u, xs[j]? = some u → w.cell? ((⟨g, o, none⟩ : Addr).add j) = some u := fun j u hu => by
        rw [Addr.add_lit]
        simp only [World.cell?, hg, Option.isSome_none, Bool.false_eq_true, if_false]
        exact h5 j u hu
      exact grow (some ⟨g, o, none⟩) cap rfl (by omega) (by
        have := run_firstCells_some (P := P) w.drew i.size xs.length ⟨g, o, none⟩ xs.length cap xs (by rw [hsize]; omega) (by simpa using holds)
        exact this)
theorem wpList_append_q {P : Program} {w : World} {ops : Array Oper} {rest : List Oper} {o : Oper} {a : Act} {Q : Exit → Act → World → Prop} (hgd : o.guard = none) (s x : Operand) (t : TypeId)
  (ho : o.op = .call { callee := .builtin .append, args := #[s, x], argTypes := #[t, t] })
  (base : Nat) (e : TypeId) (i : TypeInfo) (z : Value) (bytes : Nat) (ht : P.underlying t = some (.slice e)) (hi : P.info? e = some i) (hz : i.zero = some z) (hsize : i.size = 1) (hby : i.bytes = bytes) (hzs : z.cells.size = 1)
  (v : Value) (xs : List Value) (hs : a.eval s = v) (hown : QRow w base e v xs)
  (ad : Addr) (c : Nat) (u : Value) (hx : a.eval x = .slice (some ad) 1 c) (hu : w.cell? ad = some u) (h1 : u.oneCell' = true)
  (h63 : xs.length + 1 ≤ maxLen) (hbytes : (xs.length + 1) * bytes ≤ 140737488355328) (hbase : base ≤ w.heap.size)
  (h : ∀ v' w', QRow w' base e v' (xs ++ [u]) → w.grownBy w' v.ownBlock → (v'.ownBlock = v.ownBlock ∨ v'.ownBlock = some w.heap.size) → wpList P ops Q rest (a.put o.dst v') w') :
  wpList P ops Q (o :: rest) a w := by
 refine wpList_plain hgd fun K hK => ?_
 obtain ⟨v', w', hr, h2, h3, h4, _⟩ := run_append_q (P := P) base t o.type e i z bytes ht hi hz hsize hby hzs hown ad c u hu h1 h63 hbytes hbase
 unfold Oper.wp execOp
 simp only [ho, resolve, invoke, builtin, Sem.run_bind, Sem.run_pure, Result.andThen_ok, List.map_toArray, List.map_cons, List.map_nil, hs, hx, hr]
 exact hK _ _ (h v' w' h2 h3 h4)
end Go.Proofs.YtdhmeganlnpohaaGreatDoor
namespace Go.Proofs.YtdhmeganlnpohaaGreatDoor
open Go.RowKit Go.Shelf Go.Maps
def CloneIPost (w : World) (xs : List Nat) (e : Ending) (w' : World) : Prop := ∃ v, e = .returned v ∧ OwnInts w.heap.size w' v xs ∧ Below w.heap.size w w'
set_option maxHeartbeats 2000000 in
set_option maxRecDepth 100000 in
theorem cloneI_any (v : Value) (xs : List Nat) (w : World) (h : IsInts w v xs) (hn : xs.length ≤ 8796093022208) :
  Calls Tryz.prog 150 #[v] w (CloneIPost w xs) := by
 obtain ⟨a, c, rfl, h1, h1m, h2⟩ := h
 obtain ⟨i0, hi, hz0, hz1, hz2⟩ := info_parts infoInt
 cases a with
 | none =>
  have hfs : xs = [] := by
   rcases xs with _ | ⟨f, fs⟩
   ·rfl
   ·obtain ⟨b, o, ha, _⟩ := h2 (by simp)
    cases ha
  subst hfs
  have hq : ∀ w, (Go.binOp .eql 54 (.slice none 0 c) (.slice none 0 0)).run Tryz.prog w = .ok (.bool true) w := fun w => Lib.run_eql_slice_nil w 54 3 none 0 c 0 0 Tryz.underlying54
  go_enter Tryz.func150, Tryz.ntmps150
  go_wp2
  go_ret
  exact ⟨_, rfl, World.ownsRow_nil _ _ _ _, Below.refl _ _⟩
 | some ad =>
  obtain ⟨ab, ao, asp⟩ := ad
  have hq : ∀ w, (Go.binOp .eql 54 (.slice (some ⟨ab, ao, asp⟩) xs.length c) (.slice none 0 0)).run Tryz.prog w = .ok (.bool false) w := fun w => Lib.run_eql_slice_nil w 54 3 _ _ _ _ _ Tryz.underlying54
  have hcells : ∀ j u, (xs.map intV)[j]? = some u → w.cell? ((⟨ab, ao, asp⟩ : Addr).add j) = some u := by
   intro j u hu
   rw [List.getElem?_map] at hu
   obtain ⟨x, hx, rfl⟩ := Option.map_eq_some_iff.1 hu
   obtain ⟨b, o, ha, _, hc⟩ := h2 (by rintro rfl; simp at hx)
   cases ha
   rw [Addr.add_lit]
   exact hc j x hx
  have HC := Lib.hid hcells
  clear hcells h2
  go_enter Tryz.func150, Tryz.ntmps150
  go_wp2_with (at_builtin; refine wpList_append_own _ rfl _ _ 54 rfl w.heap.size 3 i0 _ 1 8 Tryz.underlying54 hi hz0 hz1 hz2 rfl (by decide) _ _ _ rfl (World.ownsRow_made w #[] 0 (Nat.le_refl _) (Nat.zero_le _) (by simp)) ⟨ab, ao, asp⟩ xs.length c (xs.map intV) rfl ?qc1 ?qc2 ?qc3 ?qc4 ?qc5 ?qc6 ?_)
  case qc1 => simp
  case qc2 =>
   intro j u hj
   exact Lib.cell?_alloc_some _ (HC.out j u hj)
  case qc3 =>
   intro u hu
   obtain ⟨x, _, rfl⟩ := List.mem_map.1 hu
   rfl
  case qc4 => unfold maxLen; omega
  case qc5 => omega
  case qc6 => simp
  intro v' w1 hown hgrow hnil
  go_wp2
  go_ret
  have hb : Below w.heap.size w w1 := ((Below.refl _ w).alloc (Nat.le_refl _) _).grown hgrow (by simp) (by intro k hk; simp [Value.ownBlock] at hk; omega)
  exact ⟨_, rfl, by unfold OwnInts; simpa using hown, hb⟩
end Go.Proofs.YtdhmeganlnpohaaGreatDoor
