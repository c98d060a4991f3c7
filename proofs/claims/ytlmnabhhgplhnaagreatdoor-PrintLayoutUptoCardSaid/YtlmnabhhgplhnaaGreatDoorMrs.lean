/- An append of a list of rules, of none too, to a list of one's own. -/
import Derived.Test.YtlmnabhhgplhnaaGreatDoorMpar
import Derived.Test.YtlmnabhhgplhnaaGreatDoorMwalk
namespace Go.Proofs.YtlmnabhhgplhnaaGreatDoor
open Go.RowKit Go.Shelf

theorem flat5 {rows : List (List Value)} (h : ∀ r ∈ rows, r.length = 5) : rows.flatten.length = rows.length * 5 := by
 induction rows with
 | nil => rfl
 | cons r rs ih =>
  rw [List.flatten_cons, List.length_append, ih fun r' hr => h r' (List.mem_cons_of_mem _ hr), h r (List.mem_cons_self ..), List.length_cons]
  omega
theorem ruleA_one {Av : Nat → Prop} {w : World} {r : List Value} {x : RuleS} (h : RuleA Av w r x) : ∀ u ∈ r, u.oneCell' = true := by
 obtain ⟨vi, vo, vf, vs, rfl, h1, h2, h3, h4⟩ := h
 obtain ⟨a1, n1, c1, q1⟩ := rowA_shape h1
 obtain ⟨a2, n2, c2, q2⟩ := rowA_shape h2
 obtain ⟨a3, n3, c3, q3⟩ := rowA_shape h3
 obtain ⟨a4, n4, c4, q4⟩ := stepsA_shape h4
 subst q1 q2 q3 q4
 intro u hu
 simp only [List.mem_cons, List.not_mem_nil, or_false] at hu
 rcases hu with rfl | rfl | rfl | rfl | rfl <;> rfl
theorem run_append_rules {w : World} {ty : TypeId} {Av : Nat → Prop} {B : Nat} {v0 v : Value} {n : Nat} {xs : List Value} {ys : List RuleS} (hown : w.ownsRow B 38 5 v0 n xs) (h : RulesA Av w v ys) (hB : B ≤ w.heap.size) (hn : n + ys.length ≤ 1000000) :
  ∃ rows v' w', (Builtin.append_ #[22, 22] ty #[v0, v]).run Tryz.prog w = .ok v' w' ∧ w'.ownsRow B 38 5 v' (n + ys.length) (xs ++ rows.flatten) ∧ w.grownBy w' v0.ownBlock ∧ rows.length = ys.length ∧ AllA (RuleA Av w) rows ys := by
 obtain ⟨i0, hi, hz0, hz1, hz2⟩ := info_of info_rule
 obtain ⟨rows, hrow, hall⟩ := h
 obtain ⟨⟨a, c, rfl, hlc, hcm, hcell⟩, _⟩ := hrow
 have h5 := hall.len fun r x h => h.len
 have hlen := hall.1
 by_cases he : rows = []
 ·subst he
  have hys : ys = [] := by simpa using hlen.symm
  subst hys
  cases a with
  | none =>
   refine ⟨[], v0, w, ?_, by simpa using hown, ?_, rfl, hall⟩
   ·rcases hown.2 with ⟨rfl, rfl⟩ | ⟨g, cap, cur, rfl, _, _, hnc, _⟩
    ·simp [Builtin.append_, run_underlying Tryz.underlying22, sizeOf, typeInfo, hi, Builtin.lenOf, Builtin.firstCells]
    ·simp [Builtin.append_, run_underlying Tryz.underlying22, sizeOf, typeInfo, hi, Builtin.lenOf, Builtin.firstCells, hnc, storeCells]
   ·exact ⟨rfl, rfl, rfl, Nat.le_refl _, fun _ _ _ => rfl⟩
  | some ad =>
   obtain ⟨v', w', hr, h2, h3, _⟩ := run_append_own (P := Tryz.prog) w B 22 ty 38 i0 (.agg #[.string ByteArray.empty, .slice none 0 0, .slice none 0 0, .slice none 0 0, .slice none 0 0]) 5 112 Tryz.underlying22 hi hz0 hz1 hz2 rfl (by decide) v0 n xs hown ad 0 c [] rfl (by simp) (by simp) (by unfold maxLen; omega) (by omega) hB
   exact ⟨[], v', w', hr, by simpa using h2, h3, rfl, hall⟩
 ·obtain ⟨b, o, rfl, hb, hc⟩ := hcell he
  have hnews : ∀ (j : Nat) u, rows.flatten[j]? = some u → w.cell? ((⟨b, o, none⟩ : Addr).add j) = some u := by
   intro j u hj
   have := flat_at h5 hj
   obtain ⟨r, hr, hu⟩ := this
   have h0 := hc (j / 5) r hr (j % 5) u hu
   simp only [Addr.add]
   split
   ·rename_i hj0
    rw [hj0] at h0
    simpa using h0
   ·rw [show o + j = o + j / 5 * 5 + j % 5 by omega]
    exact h0
  have hone : ∀ u ∈ rows.flatten, u.oneCell' = true := by
   intro u hu
   obtain ⟨r, hr, hu⟩ := List.mem_flatten.1 hu
   obtain ⟨j, hj⟩ := List.getElem?_of_mem hr
   have hlt : j < ys.length := by rw [← hlen]; exact (List.getElem?_eq_some_iff.1 hj).1
   exact ruleA_one (hall.2 j r _ hj (List.getElem?_eq_getElem hlt)) u hu
  obtain ⟨v', w', hr, h2, h3, _⟩ := run_append_own (P := Tryz.prog) w B 22 ty 38 i0 (.agg #[.string ByteArray.empty, .slice none 0 0, .slice none 0 0, .slice none 0 0, .slice none 0 0]) 5 112 Tryz.underlying22 hi hz0 hz1 hz2 rfl (by decide) v0 n xs hown ⟨b, o, none⟩ rows.length c rows.flatten (flat5 h5) hnews hone (by unfold maxLen; omega) (by omega) hB
  exact ⟨rows, v', w', hr, by rw [hlen] at h2; exact h2, h3, hlen, hall⟩
where
 flat_at {rows : List (List Value)} (h : ∀ r ∈ rows, r.length = 5) {j : Nat} {u : Value} (hj : rows.flatten[j]? = some u) : ∃ r, rows[j / 5]? = some r ∧ r[j % 5]? = some u := by
  induction rows generalizing j with
  | nil => simp at hj
  | cons r rs ih =>
   have hr := h r (List.mem_cons_self ..)
   rw [List.flatten_cons] at hj
   rcases Nat.lt_or_ge j 5 with hlt | hge
   ·rw [List.getElem?_append_left (by omega)] at hj
    exact ⟨r, by rw [Nat.div_eq_of_lt hlt]; rfl, by rw [Nat.mod_eq_of_lt hlt]; exact hj⟩
   ·rw [List.getElem?_append_right (by omega), hr] at hj
    obtain ⟨r', h1, h2⟩ := ih (fun r' hr' => h r' (List.mem_cons_of_mem _ hr')) hj
    refine ⟨r', ?_, ?_⟩
    ·rw [show j / 5 = (j - 5) / 5 + 1 by omega, List.getElem?_cons_succ]; exact h1
    ·rw [show j % 5 = (j - 5) % 5 by omega]; exact h2
/-- An append whose run is known, under a guard too. -/
theorem wpList_append_known {P : Program} {w : World} {ops : Array Oper} {rest : List Oper} {o : Oper} {a : Act} {Q : Exit → Act → World → Prop} (hg : Region.wanted o (yielded ops a.tmps) = true) (s x : Operand) (t : TypeId)
  (ho : o.op = .call { callee := .builtin .append, args := #[s, x], argTypes := #[t, t] }) {v0 vx v' : Value} {w' : World} (hs : a.eval s = v0) (hx : a.eval x = vx)
  (hr : (Builtin.append_ #[t, t] o.type #[v0, vx]).run P w = .ok v' w') (h : wpList P ops Q rest (a.put o.dst v') w') : wpList P ops Q (o :: rest) a w := by
 refine wpList_step fun K hK => ?_
 rw [if_pos hg]
 unfold Oper.wp execOp
 simp only [ho, resolve, invoke, builtin, Sem.run_bind, Sem.run_pure, Result.andThen_ok, List.map_toArray, List.map_cons, List.map_nil, hs, hx, hr]
 exact hK _ _ h
theorem rules_count (ws : List WordT) : ∀ (f : Nat) (acc : List RuleS) (s : PS), (rulesF ws f acc s).1.length ≤ acc.length + f
 | 0, _, _ => Nat.le_refl _
 | f + 1, acc, s => by
  unfold rulesF
  split
  ·have := rules_count ws f (acc ++ [(ruleP ws s).1]) (ruleP ws s).2
   rw [List.length_append] at this
   simp only [List.length_cons, List.length_nil] at this
   omega
  ·simp only; omega
theorem file_few {L : List UInt8} {rs : List RuleS} (h : fileS L = .ok rs) : rs.length ≤ 2 * L.length + 4 := by
 unfold fileS at h
 split at h
 ·cases h
 ·cases hA : allS L with
  | error p => rw [hA] at h; cases h
  | ok ws =>
   rw [hA] at h
   dsimp only at h
   have h2 := rules_count ws (2 * ws.length + 2) [] (0, false)
   have h3 := (allF_ok _ _ _ _ hA).2.2.1
   split at h
   ·cases h
   ·injection h with h
    subst h
    unfold rulesP
    simp only [List.length_nil] at h2
    omega
/-- Both lists, one behind the other, in one row. -/
theorem rules_both {w w1 w2 : World} {v1 v2 : Value} {xs ys : List RuleS} {r1 r2 : List (List Value)} {Av : Nat → Prop} (hall1 : AllA (RuleA Av w) r1 xs) (hall2 : AllA (RuleA Av w1) r2 ys) (hg1 : w.grownBy w1 none)
  (hg2 : w1.grownBy w2 v1.ownBlock) (ho2 : w2.ownsRow w.heap.size 38 5 v2 (xs.length + ys.length) (r1.flatten ++ r2.flatten)) (hAv : ∀ b, v1.ownBlock = some b → Av b) :
  RulesA (fun _ => False) w2 v2 (xs ++ ys) := by
 have f1 : Fr Av w w1 := fr_grown hg1 fun k e => by cases e
 have f2 : Fr Av w1 w2 := fr_grown hg2 fun k e => hAv k e
 have hb1 : AllA (RuleA (fun _ => False) w2) r1 xs := hall1.imp fun r x h => ((h.keep (f1.trans f2)).mono fun _ _ e => e.elim)
 have hb2 : AllA (RuleA (fun _ => False) w2) r2 ys := hall2.imp fun r x h => ((h.keep f2).mono fun _ _ e => e.elim)
 have hb : AllA (RuleA (fun _ => False) w2) (r1 ++ r2) (xs ++ ys) := by
  refine ⟨by simp [hb1.1, hb2.1], fun j r x hr hx => ?_⟩
  rcases Nat.lt_or_ge j r1.length with h | h
  ·rw [List.getElem?_append_left h] at hr
   rw [List.getElem?_append_left (by rw [← hb1.1]; exact h)] at hx
   exact hb1.2 j r x hr hx
  ·rw [List.getElem?_append_right h] at hr
   rw [List.getElem?_append_right (by rw [← hb1.1]; exact h), ← hb1.1] at hx
   exact hb2.2 _ r x hr hx
 refine ⟨r1 ++ r2, ?_, hb⟩
 have hl : (r1 ++ r2).length = xs.length + ys.length := by rw [List.length_append, hb1.1, hb2.1]
 have hrow : RowA (fun b => b < w.heap.size) w2 v2 5 (r1 ++ r2) := by
  refine rowA_own (t := 38) ?_ (hb.len fun r x h => h.len)
  rw [hl, List.flatten_append]
  exact ho2
 exact hrow.mono fun _ _ e => e.elim
end Go.Proofs.YtlmnabhhgplhnaaGreatDoor
