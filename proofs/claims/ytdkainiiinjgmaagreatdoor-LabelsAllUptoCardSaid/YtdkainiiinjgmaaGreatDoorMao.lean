import Derived.Test.YtdkainiiinjgmaaGreatDoorMan
import Derived.Deep.RegionHeld
namespace Go.Proofs.YtdkainiiinjgmaaGreatDoor.Exe
open Go Go.RowKit
set_option maxRecDepth 1000000
theorem pD0 : runM Tryz.prog 5 KD (drawX Tryz.prog 5 KD) true 100000 9 bodyD ⟨⟨.lf, 204⟩, 100, hx 285 opNames⟩ = some (99991, dropS 9 bodyD, litB0) := by kernel_rfl
end Go.Proofs.YtdkainiiinjgmaaGreatDoor.Exe
namespace Go.Proofs.YtdkainiiinjgmaaGreatDoor.Exe
open Go Go.RowKit
set_option maxRecDepth 1000000
theorem pDq : planQ opsD = some qD := by kernel_rfl
theorem pD1 : regM Tryz.prog 5 KD opsD [] 88 (qD.drop 0) [] litB0 = some (qD.drop 88, [(21, 3161)], litB1) := by kernel_rfl
end Go.Proofs.YtdkainiiinjgmaaGreatDoor.Exe
namespace Go.Proofs.YtdkainiiinjgmaaGreatDoor.Exe
open Go Go.RowKit
set_option maxRecDepth 1000000
theorem pD2 : regM Tryz.prog 5 KD opsD [] 7 (qD.drop 88) [(21, 3161)] litB1 = some (qD.drop 95, [(89, 4535), (21, 3161)], litB2) := by kernel_rfl
end Go.Proofs.YtdkainiiinjgmaaGreatDoor.Exe
namespace Go.Proofs.YtdkainiiinjgmaaGreatDoor.Exe
open Go Go.RowKit
set_option maxRecDepth 1000000
theorem pD3 : regM Tryz.prog 5 KD opsD [] 4 (qD.drop 95) [(89, 4535), (21, 3161)] litB2 = some (qD.drop 99, [(89, 4535), (21, 3161)], litB3) := by kernel_rfl
end Go.Proofs.YtdkainiiinjgmaaGreatDoor.Exe
namespace Go.Proofs.YtdkainiiinjgmaaGreatDoor.Exe
open Go Go.RowKit
set_option maxRecDepth 1000000
theorem pD4 : regM Tryz.prog 5 KD opsD [] 9 (qD.drop 99) [(89, 4535), (21, 3161)] litB3 = some (qD.drop 108, [(101, 9242), (89, 4535), (21, 3161)], litB4) := by kernel_rfl
end Go.Proofs.YtdkainiiinjgmaaGreatDoor.Exe
namespace Go.Proofs.YtdkainiiinjgmaaGreatDoor.Exe
open Go Go.RowKit
set_option maxRecDepth 1000000
theorem pD5 : regS Tryz.prog 5 KD opsD [] (qD.drop 108) [(101, 9242), (89, 4535), (21, 3161)] litB4 = some litB5 := by kernel_rfl
theorem pD6 : okV (outX Tryz.prog fnD 100 (codeX Tryz.prog 5 KD (drawX Tryz.prog 5 KD) true 99990 (dropS 10 bodyD) litB5)) = true := by kernel_rfl
end Go.Proofs.YtdkainiiinjgmaaGreatDoor.Exe
namespace Go.Proofs.YtdkainiiinjgmaaGreatDoor.Exe
open Go Go.RowKit
set_option maxRecDepth 1000000
theorem regD : regS Tryz.prog 5 KD opsD [] qD [] litB0 = some litB5 := by
 have h1 := regM_spec pD1
 have e : qD.drop 0 = qD := rfl
 rw [e] at h1
 rw [h1, regM_spec pD2, regM_spec pD3, regM_spec pD4]
 exact pD5
theorem run12 : okV (KX Tryz.prog 5 100000 K0d 60 (.fn 8) [] 100 (hx 285 opNames)) = true := by
 refine run_last (n' := 99990) (c' := dropS 10 bodyD) (s' := litB5) noneD fnD_ok bodyD_ok (by rw [ntmpsD]; rfl) ?_ pD6
 rw [ntmpsD]
 refine (runM_spec pD0).trans ?_
 rw [dropD]
 exact region_cut (n := 99989) pDq regD
theorem beg12 {w : World} (hw : GX 5 285 opNames w) : Calls Tryz.prog 8 #[] w fun e w' => e = .returned (.bool true) ∧ Below w.heap.size w w' :=
 run_true (KX_sim K0d_ok mixed plains 100000 60) plains hbD (by decide) (by decide) run12 hw
end Go.Proofs.YtdkainiiinjgmaaGreatDoor.Exe
namespace Go.Proofs.YtdkainiiinjgmaaGreatDoor
open Go.RowKit Go.Shelf
structure LabKeys (P : Program) (t kt : TypeId) : Prop where
 und : ∃ el kd, P.underlying t = some (.map kt el) ∧ P.underlying kt = some kd ∧ Exe.wideK kd = true ∧ ∀ w, (zeroValue el).run P w = .ok (.agg #[]) w
 eq : ∀ (a b : Lb) w, (Op.equal kt (lv a) (lv b)).run P w = .ok (decide (a = b)) w
 chk : ∀ (a : Lb) em w, (Instr.checkKey em 10000 kt (lv a)).run P w = .ok () w
 bits : ∀ a : Lb, Instr.sameBits 10000 (lv a) (lv a) = true
def LM (w : World) (b : Nat) (ls : List Lb) : Prop := RM w b (lkv ls) ∧ ls.Nodup
def hasL (x : Lb) (ls : List Lb) : Bool := ls.any fun y => decide (y = x)
theorem hasL_iff {x : Lb} {ls : List Lb} : hasL x ls = true ↔ x ∈ ls := by
 unfold hasL
 rw [List.any_eq_true]
 exact ⟨fun ⟨y, hy, h⟩ => of_decide_eq_true h ▸ hy, fun h => ⟨x, h, decide_eq_true rfl⟩⟩
theorem hasL_not {x : Lb} {ls : List Lb} (h : x ∉ ls) : hasL x ls = false := Bool.eq_false_iff.2 fun h1 => h (hasL_iff.1 h1)
def addL (x : Lb) (ls : List Lb) : List Lb := if hasL x ls then ls else ls ++ [x]
variable {P : Program} {t kt : TypeId} {w : World} {b : Nat} {ls : List Lb}
theorem findAsk (h : LabKeys P t kt) (x : Lb) (w : World) : ∀ (es : List MapEntry) (ls : List Lb) (j : Nat), es.map kvE = lkv ls →
  (x ∉ ls ∧ (Instr.findAsking kt (lv x) es j).run P w = .ok none w) ∨ ∃ i e, ls[i]? = some x ∧ es[i]? = some e ∧ e.key = lv x ∧ e.val = .agg #[] ∧ (Instr.findAsking kt (lv x) es j).run P w = .ok (some (j + i, .agg #[])) w
 | [], [], j, _ => .inl ⟨by simp, rfl⟩
 | [], _ :: _, _, h => by cases h
 | _ :: _, [], _, h => by cases h
 | e :: es, y :: ls, j, hm => by
  unfold lkv at hm
  rw [List.map_cons, List.map_cons, List.cons.injEq] at hm
  obtain ⟨h1, h2⟩ := hm
  have hk : e.key = lv y := congrArg Prod.fst h1
  have hv : e.val = .agg #[] := congrArg Prod.snd h1
  have hr := h.eq x y w
  by_cases hxy : x = y
  ·subst hxy
   rw [decide_eq_true rfl] at hr
   exact .inr ⟨0, e, rfl, rfl, hk, hv, by simp [Instr.findAsking, hk, hv, Sem.run_bind, hr, Result.andThen]⟩
  ·rw [decide_eq_false hxy] at hr
   rcases findAsk h x w es ls (j + 1) h2 with ⟨h3, h4⟩ | ⟨i, e', h3, h4, h5, h6, h7⟩
   ·exact .inl ⟨by simp [hxy, h3], by simp [Instr.findAsking, hk, Sem.run_bind, hr, Result.andThen, h4]⟩
   ·exact .inr ⟨i + 1, e', by simpa using h3, by simpa using h4, h5, h6, by simp [Instr.findAsking, hk, Sem.run_bind, hr, Result.andThen, h7, Nat.add_assoc, Nat.add_comm 1 i]⟩
theorem LM.get (h : LabKeys P t kt) (hm : LM w b ls) (x : Lb) : (Instr.lookup t (.map (some b)) (lv x) true).run P w = .ok (.tuple #[.agg #[], .bool (hasL x ls)]) w := by
 obtain ⟨el, kd, hu, hkd, hwk, hz⟩ := h.und
 obtain ⟨⟨es, ck, hb, hkv, _, _⟩, _⟩ := hm
 rcases findAsk h x w es.toList ls 0 hkv with ⟨h1, h2⟩ | ⟨i, e, h1, h2, h3, h4, h5⟩
 ·rw [hasL_not h1]
  simp only [Instr.lookup, Sem.run_bind, run_underlying hu, Result.andThen_ok, getObj, Sem.run, hb, Exe.findKey_wide hkd hwk]
  simp [h2, h.chk, hz]
 ·rw [hasL_iff.2 (List.mem_of_getElem? h1)]
  simp only [Instr.lookup, Sem.run_bind, run_underlying hu, Result.andThen_ok, getObj, Sem.run, hb, Exe.findKey_wide hkd hwk]
  simp [h5, h.chk]
theorem LM.put (h : LabKeys P t kt) (hm : LM w b ls) (x : Lb) :
  ∃ o, (Instr.mapUpdate t (.map (some b)) (lv x) (.agg #[])).run P w = .ok () { w with heap := w.heap.setIfInBounds b o } ∧ LM { w with heap := w.heap.setIfInBounds b o } b (addL x ls) := by
 obtain ⟨el, kd, hu, hkd, hwk, hz⟩ := h.und
 have hlt := hm.1.lt
 obtain ⟨⟨es, ck, hb, hkv, hn, hck⟩, hnd⟩ := hm
 rcases findAsk h x w es.toList ls 0 hkv with ⟨h1, h2⟩ | ⟨i, e, h1, h2, h3, h4, h5⟩
 ·refine ⟨.map (es.push ⟨lv x, .agg #[], ck⟩) (ck + 1), ?_, ?_⟩
  ·simp only [Instr.mapUpdate, Sem.run_bind, run_underlying hu, Result.andThen_ok, getObj, setObj, Sem.run, hb, h.chk, Exe.findKey_wide hkd hwk, h2]
  ·rw [addL, hasL_not h1, if_neg (by simp)]
   refine ⟨⟨es.push ⟨lv x, .agg #[], ck⟩, ck + 1, by simp [hlt], ?_, ?_, ?_⟩, ?_⟩
   ·simp [hkv, kvE, lkv]
   ·rw [Array.toList_push, List.map_append, List.nodup_append]
    refine ⟨hn, by simp, fun y hy z hz => ?_⟩
    obtain ⟨e, he, rfl⟩ := List.mem_map.1 hy
    simp at hz; subst hz
    exact Nat.ne_of_lt (hck e he)
   ·intro e he
    rw [Array.toList_push] at he
    rcases List.mem_append.1 he with he | he
    ·exact Nat.lt_succ_of_lt (hck e he)
    ·simp at he; subst he; exact Nat.lt_succ_self _
   ·rw [List.nodup_append]
    exact ⟨hnd, by simp, fun y hy z hz => by simp at hz; subst hz; exact fun e => h1 (e ▸ hy)⟩
 ·have h2' : es[i]? = some e := by simpa using h2
  have hlt' : i < es.size := (Array.getElem?_eq_some_iff.1 h2').1
  have hsame : es.modify i (fun e => { e with key := lv x, val := .agg #[] }) = es := by
   apply Array.ext_getElem?
   intro k
   rw [Array.getElem?_modify]
   by_cases hk : i = k
   ·subst hk
    rw [if_pos rfl, h2']
    simp [← h3, ← h4]
   ·rw [if_neg hk]
  refine ⟨.map es ck, ?_, ?_⟩
  ·simp only [Nat.zero_add] at h5
   simp only [Instr.mapUpdate, Sem.run_bind, run_underlying hu, Result.andThen_ok, getObj, setObj, Sem.run, hb, h.chk, Exe.findKey_wide hkd hwk, h5]
   simp [hb, h2', Instr.keyThatStays, h3, h.bits, hsame]
  ·rw [addL, hasL_iff.2 (List.mem_of_getElem? h1), if_pos rfl]
   exact ⟨⟨es, ck, by simp [hlt], hkv, hn, hck⟩, hnd⟩
section
theorem eqLab (a b : Lb) (w : World) : (Op.equal 38 (lv a) (lv b)).run Tryz.prog w = .ok (decide (a = b)) w := by
 obtain ⟨p, s⟩ := a
 obtain ⟨q, t⟩ := b
 unfold lv
 have key : ∀ d, (Op.equalIn (d + 2) 38 (.agg #[.bool p, .string s]) (.agg #[.bool q, .string t])).run Tryz.prog w = .ok (decide ((p, s) = (q, t))) w := by
  intro d
  have hin : Tryz.prog.stoodInHeld 38 = false := by kernel_rfl
  simp [Op.equalIn, run_underlying Tryz.underlying38, run_underlying Tryz.underlying4, run_underlying Tryz.underlying9, Sem.run_bind, hin, part]
  have hb : (s == t) = decide (s = t) := by
   cases h : (s == t) with
   | true => rw [decide_eq_true ((MapKept.bytes_beq s t).1 h)]
   | false => rw [decide_eq_false fun e => by rw [(MapKept.bytes_beq s t).2 e] at h; cases h]
  rw [hb]
  by_cases h1 : p = q <;> by_cases h2 : s = t <;> simp [h1, h2]
 exact key 9998
theorem labKeys : LabKeys Tryz.prog 30 38 := by
 refine ⟨⟨_, _, Tryz.underlying30, Tryz.underlying38, rfl, ?_⟩, eqLab, ?_, ?_⟩
 ·intro w
  go_simp
 ·intro a em w
  unfold lv
  have key : ∀ d, (Instr.checkKey em (d + 2) 38 (.agg #[.bool a.1, .string a.2])).run Tryz.prog w = .ok () w := by
   intro d
   simp [Instr.checkKey, run_underlying Tryz.underlying38, run_underlying Tryz.underlying4, run_underlying Tryz.underlying9, Sem.run_bind, part]
  exact key 9998
 ·intro a
  unfold lv
  have key : ∀ d, Instr.sameBits (d + 2) (.agg #[.bool a.1, .string a.2]) (.agg #[.bool a.1, .string a.2]) = true := by
   intro d
   simp [Instr.sameBits, (MapKept.bytes_beq a.2 a.2).2 rfl]
  exact key 9998
end
end Go.Proofs.YtdkainiiinjgmaaGreatDoor
namespace Go.Proofs.YtdkainiiinjgmaaGreatDoor
open Go.RowKit Go.Shelf
def SetAt (w : World) (p : Nat) (ls : List Lb) : Prop := ∃ m, w.cell? { block := p, off := 0 } = some (.map m) ∧ ((m = none ∧ ls = []) ∨ ∃ b, m = some b ∧ b ≠ p ∧ LM w b ls)
theorem LM.below {B : Nat} {w w' : World} {b : Nat} {ls : List Lb} (h : LM w b ls) (hb : Below B w w') (hlt : b < B) : LM w' b ls := ⟨h.1.below hb hlt, h.2⟩
theorem cell_below {B : Nat} {w w' : World} {p o : Nat} {v : Value} (h : w.cell? { block := p, off := o } = some v) (hb : Below B w w') (hlt : p < B) : w'.cell? { block := p, off := o } = some v := by
 unfold World.cell? at h ⊢
 rw [hb.block p hlt]
 exact h
theorem SetAt.lt {w : World} {p : Nat} {ls : List Lb} (h : SetAt w p ls) : p < w.heap.size := by
 obtain ⟨m, hc, _⟩ := h
 exact World.block_lt_of_cell? _ _ hc
theorem SetAt.below {w w' : World} {p : Nat} {ls : List Lb} (h : SetAt w p ls) (hb : Below w.heap.size w w') : SetAt w' p ls := by
 have hlt := h.lt
 obtain ⟨m, hc, hm⟩ := h
 refine ⟨m, cell_below hc hb hlt, ?_⟩
 rcases hm with h | ⟨b, h1, h2, h3⟩
 ·exact .inl h
 ·exact .inr ⟨b, h1, h2, h3.below hb h3.1.lt⟩
theorem look_nil (x : Lb) (w : World) : (Instr.lookup 30 (.map none) (lv x) true).run Tryz.prog w = .ok (.tuple #[.agg #[], .bool false]) w := by
 obtain ⟨el, kd, hu, hkd, hwk, hz⟩ := labKeys.und
 simp [Instr.lookup, Sem.run_bind, run_underlying hu, labKeys.chk, Exe.findKey_wide hkd hwk, Instr.findAsking, hz]
set_option maxHeartbeats 4000000
set_option maxRecDepth 100000
theorem lbBase (p : Nat) (w : World) : Calls Tryz.prog 58 #[.pointer (some { block := p, off := 0 })] w fun e w' => e = .returned (.pointer (some { block := p, off := 0 })) ∧ w' = w := by
 go_enter Tryz.func58, Tryz.ntmps58
 go_wp2
 go_ret
 exact ⟨rfl, rfl⟩
theorem lbLen (p : Nat) (ls : List Lb) (w : World) (hs : SetAt w p ls) : Calls Tryz.prog 15 #[.pointer (some { block := p, off := 0 })] w fun e w' => e = .returned (.int .i64 (ls.length : Int)) ∧ w' = w := by
 obtain ⟨m, hc, hm⟩ := hs
 have hl : ∀ ty, (Builtin.len_ #[30] ty #[.map m]).run Tryz.prog w = .ok (.int .i64 (ls.length : Int)) w := by
  intro ty
  rcases hm with ⟨rfl, rfl⟩ | ⟨b, rfl, _, hb⟩
  ·simp [Builtin.len_, run_underlying Tryz.underlying30, Sem.run_bind]
   rfl
  ·have := hb.1.len (P := Tryz.prog) Tryz.underlying30 ty
   rw [lkv_len] at this
   exact this
 clear hm
 go_enter Tryz.func15, Tryz.ntmps15
 go_wp2
 go_ret
 exact ⟨rfl, rfl⟩
theorem lbHas (p : Nat) (ls : List Lb) (x : Lb) (w : World) (hs : SetAt w p ls) : Calls Tryz.prog 22 #[.pointer (some { block := p, off := 0 }), lv x] w fun e w' => e = .returned (.bool (hasL x ls)) ∧ Below w.heap.size w w' := by
 have hlt := hs.lt
 obtain ⟨m, hc, hm⟩ := hs
 have hb0 : Below w.heap.size w (w.alloc (.cells #[.bool x.1, .string x.2] 38)) := (Below.refl _ _).alloc (Nat.le_refl _) _
 have hsz : (w.alloc (.cells #[.bool x.1, .string x.2] 38)).heap.size = w.heap.size + 1 := by simp
 have HX : Hid (∀ V, Below (w.heap.size + 1) (w.alloc (.cells #[.bool x.1, .string x.2] 38)) V → V.cell? { block := p, off := 0 } = some (.map m) ∧ V.cell? { block := w.heap.size, off := 0 } = some (.bool x.1) ∧ V.cell? { block := w.heap.size, off := 1 } = some (.string x.2) ∧
   (Instr.lookup 30 (.map m) (.agg #[.bool x.1, .string x.2]) true).run Tryz.prog V = .ok (.tuple #[.agg #[], .bool (hasL x ls)]) V) := by
  show ∀ V, _
  intro V hV
  have hbV := hb0.trans (hV.mono (Nat.le_succ _))
  have h1 : V.heap[w.heap.size]? = some (.cells #[.bool x.1, .string x.2] 38) := by rw [hV.block _ (Nat.lt_succ_self _)]; exact heap_alloc_new w _
  refine ⟨cell_below hc hbV hlt, by simp [World.cell?, h1], by simp [World.cell?, h1], ?_⟩
  rcases hm with ⟨rfl, rfl⟩ | ⟨b, rfl, _, hb⟩
  ·exact look_nil x V
  ·exact (hb.below hbV hb.1.lt).get labKeys x
 have HB := Lib.hid hb0
 clear hm hc hb0
 unfold lv
 go_enter Tryz.func22, Tryz.ntmps22
 go_wp2_with fail
 refine wp_region_held_drew (S := fun V => Below (w.heap.size + 1) (w.alloc (.cells #[.bool x.1, .string x.2] 38)) V) (by kernel_rfl) ?_ (fun hHeld => ?_)
 ·exact below_drewN (Below.refl _ _) 1
 refine tkK 0 ?_
 refine tkK 1 ?_
 refine tkK 2 ?_
 try simp only [Act.put, List.setIfInBounds_toArray, List.set_cons_zero, List.set_cons_succ]
 refine tkH 3 (v := ?_) ?_ ?_
 rotate_left
 ·intro w hSw; obtain ⟨p0, p1, p2, p3⟩ := HX.out _ hSw; go_simp; try with_reducible rfl
 try simp only [Act.put, List.setIfInBounds_toArray, List.set_cons_zero, List.set_cons_succ]
 refine tkH 4 (v := ?_) ?_ ?_
 rotate_left
 ·intro w hSw; obtain ⟨p0, p1, p2, p3⟩ := HX.out _ hSw; go_simp; try with_reducible rfl
 try simp only [Act.put, List.setIfInBounds_toArray, List.set_cons_zero, List.set_cons_succ]
 refine tkH 5 (v := ?_) ?_ ?_
 rotate_left
 ·intro w hSw; obtain ⟨p0, p1, p2, p3⟩ := HX.out _ hSw; go_simp; try with_reducible rfl
 try simp only [Act.put, List.setIfInBounds_toArray, List.set_cons_zero, List.set_cons_succ]
 refine tkK 6 ?_
 refine tkK 7 ?_
 refine tkK 8 ?_
 try simp only [Act.put, List.setIfInBounds_toArray, List.set_cons_zero, List.set_cons_succ]
 refine rdH [9] ?_
 refine rcH (fun K hK => ?_) ?_
 ·go_simp
  refine hK.out _ _ ?_ (fun hHeld => ?_)
  ·try dsimp only
   exact hHeld.alloc (by rw [← hsz]; exact hHeld.size) _
  clear hK K
  try simp only [Act.put, List.setIfInBounds_toArray, List.set_cons_zero, List.set_cons_succ]
  refine rdH [10] ?_
  refine rcH (fun K hK => ?_) ?_
  ·go_simp
   refine hK.out _ _ ?_ (fun hHeld => ?_)
   ·try dsimp only
    exact hHeld
   clear hK K
   try simp only [Act.put, List.setIfInBounds_toArray, List.set_cons_zero, List.set_cons_succ]
   refine tkK 11 ?_
   try simp only [Act.put, List.setIfInBounds_toArray, List.set_cons_zero, List.set_cons_succ]
   refine wpAnyH_done (by kernel_rfl) ?_ _
   go_wp2
   go_ret
   exact ⟨rfl, HB.out.trans (hHeld.mono (Nat.le_succ _))⟩
  exact AllReadyH.nil
 exact AllReadyH.nil
end Go.Proofs.YtdkainiiinjgmaaGreatDoor
namespace Go.Proofs.YtdkainiiinjgmaaGreatDoor
open Go.RowKit Go.Shelf
def addLs (ls : List Lb) (xs : List Lb) : List Lb := xs.foldl (fun l x => addL x l) ls
theorem addLs_take {ls xs : List Lb} {k : Nat} {x : Lb} (h : xs[k]? = some x) : addLs ls (xs.take (k + 1)) = addL x (addLs ls (xs.take k)) := by
 unfold addLs
 rw [List.take_add_one, h, List.foldl_append]
 rfl
theorem addL_len (x : Lb) (l : List Lb) : l.length ≤ (addL x l).length ∧ (addL x l).length ≤ l.length + 1 := by
 unfold addL
 split <;> simp
theorem addLs_len (ls xs : List Lb) : ls.length ≤ (addLs ls xs).length ∧ (addLs ls xs).length ≤ ls.length + xs.length := by
 unfold addLs
 induction xs generalizing ls with
 | nil => simp
 | cons x xs ih =>
  have h1 := ih (addL x ls)
  have h2 := addL_len x ls
  simp only [List.foldl_cons, List.length_cons]
  omega
def RowL (w : World) (a : Option Addr) (xs : List Lb) : Prop := ∀ i x, xs[i]? = some x → ∃ b o, a = some { block := b, off := o } ∧ w.cell? { block := b, off := o + i * 2 } = some (.bool x.1) ∧ w.cell? { block := b, off := o + i * 2 + 1 } = some (.string x.2)
structure KeepBut (p m : Nat) (w w' : World) : Prop where
 os : w'.os = w.os
 tape : w'.tape = w.tape
 output : w'.output = w.output
 size : w.heap.size ≤ w'.heap.size
 block : ∀ k, k < w.heap.size → k ≠ p → k ≠ m → w'.heap[k]? = w.heap[k]?
variable {p m : Nat} {w w' w'' : World}
theorem KeepBut.refl (p m : Nat) (w : World) : KeepBut p m w w := ⟨rfl, rfl, rfl, Nat.le_refl _, fun _ _ _ _ => rfl⟩
theorem KeepBut.trans (h : KeepBut p m w w') (k : KeepBut p m w' w'') : KeepBut p m w w'' :=
 ⟨k.os.trans h.os, k.tape.trans h.tape, k.output.trans h.output, Nat.le_trans h.size k.size, fun i h1 h2 h3 => (k.block i (Nat.lt_of_lt_of_le h1 h.size) h2 h3).trans (h.block i h1 h2 h3)⟩
theorem below_keep {B : Nat} (h : Below B w w') (hB : w.heap.size ≤ B) : KeepBut p m w w' := ⟨h.os, h.tape, h.output, h.size, fun k hk _ _ => h.block k (Nat.lt_of_lt_of_le hk hB)⟩
theorem keep_set (p m : Nat) (w : World) (o : Obj) : KeepBut p m w { w with heap := w.heap.setIfInBounds m o } := ⟨rfl, rfl, rfl, by simp, fun k _ _ h => by simp [Array.getElem?_setIfInBounds_ne (Ne.symm h)]⟩
theorem KeepBut.cell (h : KeepBut p m w w') {a : Addr} {v : Value} (hc : w.cell? a = some v) (h1 : a.block ≠ p) (h2 : a.block ≠ m) : w'.cell? a = some v := by
 rw [World.cell?_of_block (h.block _ (World.block_lt_of_cell? _ _ hc) h1 h2)]; exact hc
set_option maxHeartbeats 8000000
set_option maxRecDepth 100000
theorem map_some (mb : Nat) (w : World) : (binOp .eql 30 (.map (some mb)) (.map none)).run Tryz.prog w = .ok (.bool false) w := by
 have key : ∀ d, (Op.equalIn (d + 1) 30 (.map (some mb)) (.map none)).run Tryz.prog w = .ok false w := by
  intro d
  simp [Op.equalIn, run_underlying Tryz.underlying30, Sem.run_bind]
 have := key 9999
 simp [binOp, Op.equal, Op.maxDepth, this]
theorem lbAdd (p mb : Nat) (ls xs : List Lb) (a : Option Addr) (c : Nat) (w : World) (hc : w.cell? { block := p, off := 0 } = some (.map (some mb))) (hne : mb ≠ p) (hm : LM w mb ls) (hr : RowL w a xs) (hap : xs ≠ [] → ∀ b, a = some b → b.block ≠ p ∧ b.block ≠ mb)
  (hn : ls.length + xs.length ≤ 1000000) :
  Calls Tryz.prog 17 #[.pointer (some { block := p, off := 0 }), .slice a xs.length c] w fun e w' => e = .returned (.int .i64 (((addLs ls xs).length : Int) - ls.length)) ∧ w'.cell? { block := p, off := 0 } = some (.map (some mb)) ∧ LM w' mb (addLs ls xs) ∧ KeepBut w.heap.size mb w w' := by
 have HR := Lib.hid hr
 have HAP := Lib.hid hap
 have HM := Lib.hid hm
 have hl : ∀ ty, (Builtin.len_ #[30] ty #[.map (some mb)]).run Tryz.prog w = .ok (.int .i64 (ls.length : Int)) w := by
  intro ty
  have := hm.1.len (P := Tryz.prog) Tryz.underlying30 ty
  rw [lkv_len] at this
  exact this
 have hmlt := hm.1.lt
 have hplt : p < w.heap.size := World.block_lt_of_cell? _ _ hc
 have hnil := map_some mb w
 clear hr hap hm
 go_enter Tryz.func17, Tryz.ntmps17
 go_wp2
 go_loopw [29] (fun iv wr => ∃ k : Nat, k ≤ xs.length ∧ iv = .int .i64 (k : Int) ∧ wr.cell? { block := p, off := 0 } = some (.map (some mb)) ∧ LM wr mb (addLs ls (xs.take k)) ∧ KeepBut w.heap.size mb w wr) (fun iv _ => xs.length - (intOf iv).toNat)
 case atStart => exact ⟨0, Nat.zero_le _, rfl, hc, HM.out, KeepBut.refl _ _ _⟩
 case round =>
  obtain ⟨k, hk, rfl, hcell, hlm, hkb⟩ := hrel
  have HLM := Lib.hid hlm
  have HKB := Lib.hid hkb
  clear hlm hkb hl
  by_cases hlt : k < xs.length
  ·obtain ⟨x, hx⟩ : ∃ x, xs[k]? = some x := ⟨xs[k], List.getElem?_eq_getElem hlt⟩
   obtain ⟨b, o, rfl, hx0, hx1⟩ := HR.out k x hx
   obtain ⟨hb1, hb2⟩ := HAP.out (by intro h0; rw [h0] at hlt; simp at hlt) _ rfl
   have hblt : b < w.heap.size := World.block_lt_of_cell? _ _ hx0
   have h0 := HKB.out.cell hx0 (by simp; omega) hb2
   have h1 := HKB.out.cell hx1 (by simp; omega) hb2
   clear hx0 hx1
   have hsz := HKB.out.size
   have hpr : p < wr.heap.size := Nat.lt_of_lt_of_le hplt hsz
   have hmr : mb < wr.heap.size := HLM.out.1.lt
   obtain ⟨V0, hV0⟩ : ∃ V, V = (wr.alloc (.cells #[.bool x.1, .string x.2] 38)).drew := ⟨_, rfl⟩
   have hbV : Below wr.heap.size wr V0 := by rw [hV0]; exact ((Below.refl _ _).alloc (Nat.le_refl _) _).drew
   have hbox : V0.heap[wr.heap.size]? = some (.cells #[.bool x.1, .string x.2] 38) := by rw [hV0]; exact heap_alloc_new wr _
   obtain ⟨ob, hput, hlm2⟩ := (HLM.out.below hbV hmr).put labKeys x
   rw [← addLs_take hx] at hlm2
   have hput' : (Instr.mapUpdate 30 (.map (some mb)) (.agg #[.bool x.1, .string x.2]) (.agg #[])).run Tryz.prog V0 = .ok () { V0 with heap := V0.heap.setIfInBounds mb ob } := hput
   have HS0 : Hid (V0.cell? { block := p, off := 0 } = some (.map (some mb)) ∧ V0.cell? { block := wr.heap.size, off := 0 } = some (.bool x.1) ∧ V0.cell? { block := wr.heap.size, off := 1 } = some (.string x.2)) := by
    show _ ∧ _
    exact ⟨cell_below hcell hbV hpr, by simp [World.cell?, hbox], by simp [World.cell?, hbox]⟩
   have HS1 : Hid (∀ q, q ≠ mb → ({ V0 with heap := V0.heap.setIfInBounds mb ob } : World).heap[q]? = V0.heap[q]?) := by
    show ∀ q, _
    intro q hq
    simp [Array.getElem?_setIfInBounds_ne (Ne.symm hq)]
   have HKB2 : Hid (KeepBut w.heap.size mb w { V0 with heap := V0.heap.setIfInBounds mb ob }) := HKB.out.trans ((below_keep hbV (Nat.le_refl _)).trans (keep_set _ mb V0 ob))
   have HLM2 := Lib.hid hlm2
   have HP := Lib.hid hput'
   clear hput hput' hlm2 hbox hbV
   go_wp2_with fail
   refine wp_region_held_drew (S := fun V => V.cell? { block := p, off := 0 } = some (.map (some mb)) ∧ V.cell? { block := wr.heap.size, off := 0 } = some (.bool x.1) ∧ V.cell? { block := wr.heap.size, off := 1 } = some (.string x.2)) (by kernel_rfl) ?_ (fun hHeld => ?_)
   ·rw [← hV0]; exact HS0.out
   rw [← hV0]
   rw [← hV0] at hHeld
   clear hV0
   refine tkK 0 ?_
   refine tkK 1 ?_
   refine tkK 2 ?_
   refine tkK 3 ?_
   try simp only [Act.put, List.setIfInBounds_toArray, List.set_cons_zero, List.set_cons_succ]
   refine tkH 4 (v := ?_) ?_ ?_
   rotate_left
   ·intro w hSw; obtain ⟨p0, p1, p2⟩ := hSw; go_simp; try with_reducible rfl
   try simp only [Act.put, List.setIfInBounds_toArray, List.set_cons_zero, List.set_cons_succ]
   refine tkH 5 (v := ?_) ?_ ?_
   rotate_left
   ·intro w hSw; obtain ⟨p0, p1, p2⟩ := hSw; go_simp; try with_reducible rfl
   try simp only [Act.put, List.setIfInBounds_toArray, List.set_cons_zero, List.set_cons_succ]
   refine tkK 6 ?_
   try simp only [Act.put, List.setIfInBounds_toArray, List.set_cons_zero, List.set_cons_succ]
   refine rdH [7] ?_
   refine rcH (fun K hK => ?_) ?_
   ·have hrun := HP.out; go_simp
    refine hK.out _ _ ?_ (fun hHeld => ?_)
    ·try dsimp only
     obtain ⟨p0, p1, p2⟩ := HS0.out; exact ⟨by rw [World.cell?_of_block (HS1.out _ (Ne.symm hne))]; exact p0, by rw [World.cell?_of_block (HS1.out _ (by simp; omega))]; exact p1, by rw [World.cell?_of_block (HS1.out _ (by simp; omega))]; exact p2⟩
    clear hK K
    try simp only [Act.put, List.setIfInBounds_toArray, List.set_cons_zero, List.set_cons_succ]
    refine wpAnyH_done (by kernel_rfl) ?_ _
    go_wp2
    obtain ⟨p0, _, _⟩ := HS0.out
    exact ⟨⟨k + 1, by omega, by go_num, by rw [World.cell?_of_block (HS1.out _ (Ne.symm hne))]; exact p0, HLM2.out, HKB2.out⟩, by simp only [intOf]; omega⟩
   exact AllReadyH.nil
  ·have hkn : k = xs.length := by omega
   subst hkn
   rw [List.take_length] at HLM
   have hl : ∀ ty, (Builtin.len_ #[30] ty #[.map (some mb)]).run Tryz.prog wr = .ok (.int .i64 ((addLs ls xs).length : Int)) wr := by
    intro ty
    have := HLM.out.1.len (P := Tryz.prog) Tryz.underlying30 ty
    rw [lkv_len] at this
    exact this
   obtain ⟨hg1, hg2⟩ := addLs_len ls xs
   go_wp2
   go_ret
   exact ⟨rfl, hcell, HLM.out, HKB.out⟩
theorem map_nil (w : World) : (binOp .eql 30 (.map none) (.map none)).run Tryz.prog w = .ok (.bool true) w := by
 have key : ∀ d, (Op.equalIn (d + 1) 30 (.map none) (.map none)).run Tryz.prog w = .ok true w := by
  intro d
  simp [Op.equalIn, run_underlying Tryz.underlying30, Sem.run_bind]
 have := key 9999
 simp [binOp, Op.equal, Op.maxDepth, this]
theorem lbAdd0 (p : Nat) (xs : List Lb) (a : Option Addr) (c : Nat) (w : World) (hc : w.heap[p]? = some (.cells #[.map none] 34)) (hr : RowL w a xs) (hap : xs ≠ [] → ∀ b, a = some b → b.block ≠ p)
  (hn : xs.length ≤ 1000000) :
  Calls Tryz.prog 17 #[.pointer (some { block := p, off := 0 }), .slice a xs.length c] w fun e w' => e = .returned (.int .i64 ((addLs [] xs).length : Int)) ∧ w'.cell? { block := p, off := 0 } = some (.map (some w.heap.size)) ∧ LM w' w.heap.size (addLs [] xs) ∧ KeepBut p w.heap.size w w' := by
 have HR := Lib.hid hr
 have HAP := Lib.hid hap
 have hplt : p < w.heap.size := (Array.getElem?_eq_some_iff.1 hc).1
 have hc0 : w.cell? { block := p, off := 0 } = some (.map none) := by simp [World.cell?, hc]
 have hnil := map_nil w
 have hmm : (Instr.makeMap 30 none).run Tryz.prog w = .ok (.map (some w.heap.size)) (w.alloc (.map #[] 0)) := rfl
 have hp1 : (w.alloc (.map #[] 0)).heap[p]? = some (.cells #[.map none] 34) := by rw [Below.heap_alloc _ _ _ hplt]; exact hc
 have hfz : w.frozen? { block := p, off := 0 } = false := by simp [World.frozen?, hc]
 have hne : w.heap.size ≠ p := by omega
 obtain ⟨W1, hW1⟩ : ∃ W, W = (w.setCell { block := p, off := 0 } (.map (some w.heap.size))).alloc (.map #[] 0) := ⟨_, rfl⟩
 have hss : (w.setCell { block := p, off := 0 } (.map (some w.heap.size))).heap.size = w.heap.size := by simp [World.setCell]
 have hq0 : (w.setCell { block := p, off := 0 } (.map (some w.heap.size))).cell? { block := p, off := 0 } = some (.map (some w.heap.size)) := World.cell?_setCell_same' _ _ _ (by rw [hc0]; rfl)
 have hq1 : W1.heap[w.heap.size]? = some (.map #[] 0) := by
  have h1 := heap_alloc_new (w.setCell { block := p, off := 0 } (.map (some w.heap.size))) (.map #[] 0)
  rw [hss] at h1
  rw [hW1]
  exact h1
 have hcell1 : W1.cell? { block := p, off := 0 } = some (.map (some w.heap.size)) := by
  rw [hW1]
  exact cell_below hq0 ((Below.refl _ _).alloc (Nat.le_refl _) _) (by rw [hss]; exact hplt)
 have hkb1 : KeepBut p w.heap.size w W1 := by
  rw [hW1]
  refine ⟨rfl, rfl, rfl, by simp [World.setCell], fun k hk h1 _ => ?_⟩
  rw [Below.heap_alloc _ _ _ (by rw [hss]; exact hk)]
  exact Below.heap_setCell _ _ _ _ (by simpa using h1)
 have HM := Lib.hid (show LM W1 w.heap.size [] from ⟨⟨#[], 0, hq1, rfl, by simp, by simp⟩, List.nodup_nil⟩)
 have hl1 : ∀ ty, (Builtin.len_ #[30] ty #[.map (some w.heap.size)]).run Tryz.prog ((w.setCell { block := p, off := 0 } (.map (some w.heap.size))).alloc (.map #[] 0)) = .ok (.int .i64 0) ((w.setCell { block := p, off := 0 } (.map (some w.heap.size))).alloc (.map #[] 0)) := by
  intro ty
  have := HM.out.1.len (P := Tryz.prog) Tryz.underlying30 ty
  rw [← hW1]
  exact this
 have HW1 := Lib.hid hW1
 clear hW1 hq0 hq1
 have hp2 : (w.alloc (.map #[] 0)).cell? { block := p, off := 0 } = some (.map none) := by simp [World.cell?, hp1]
 clear hr hap
 go_enter Tryz.func17, Tryz.ntmps17
 go_wp2
 go_loopw [29] (fun iv wr => ∃ k : Nat, k ≤ xs.length ∧ iv = .int .i64 (k : Int) ∧ wr.cell? { block := p, off := 0 } = some (.map (some w.heap.size)) ∧ LM wr w.heap.size (addLs [] (xs.take k)) ∧ KeepBut p w.heap.size w wr) (fun iv _ => xs.length - (intOf iv).toNat)
 case atStart => rw [← HW1.out]; exact ⟨0, Nat.zero_le _, rfl, hcell1, HM.out, hkb1⟩
 case round =>
  obtain ⟨k, hk, rfl, hcell, hlm, hkb⟩ := hrel
  have HLM := Lib.hid hlm
  have HKB := Lib.hid hkb
  clear hlm hkb hl1
  by_cases hlt : k < xs.length
  ·obtain ⟨x, hx⟩ : ∃ x, xs[k]? = some x := ⟨xs[k], List.getElem?_eq_getElem hlt⟩
   obtain ⟨b, o, rfl, hx0, hx1⟩ := HR.out k x hx
   have hb1 : b ≠ p := HAP.out (by intro h0; rw [h0] at hlt; simp at hlt) _ rfl
   have hblt : b < w.heap.size := World.block_lt_of_cell? _ _ hx0
   have hb2 : b ≠ w.heap.size := by omega
   have h0 := HKB.out.cell hx0 hb1 hb2
   have h1 := HKB.out.cell hx1 hb1 hb2
   clear hx0 hx1
   have hsz := HKB.out.size
   have hpr : p < wr.heap.size := Nat.lt_of_lt_of_le hplt hsz
   have hmr : w.heap.size < wr.heap.size := HLM.out.1.lt
   obtain ⟨V0, hV0⟩ : ∃ V, V = (wr.alloc (.cells #[.bool x.1, .string x.2] 38)).drew := ⟨_, rfl⟩
   have hbV : Below wr.heap.size wr V0 := by rw [hV0]; exact ((Below.refl _ _).alloc (Nat.le_refl _) _).drew
   have hbox : V0.heap[wr.heap.size]? = some (.cells #[.bool x.1, .string x.2] 38) := by rw [hV0]; exact heap_alloc_new wr _
   obtain ⟨ob, hput, hlm2⟩ := (HLM.out.below hbV hmr).put labKeys x
   rw [← addLs_take hx] at hlm2
   have hput' : (Instr.mapUpdate 30 (.map (some w.heap.size)) (.agg #[.bool x.1, .string x.2]) (.agg #[])).run Tryz.prog V0 = .ok () { V0 with heap := V0.heap.setIfInBounds w.heap.size ob } := hput
   have HS0 : Hid (V0.cell? { block := p, off := 0 } = some (.map (some w.heap.size)) ∧ V0.cell? { block := wr.heap.size, off := 0 } = some (.bool x.1) ∧ V0.cell? { block := wr.heap.size, off := 1 } = some (.string x.2)) := by
    show _ ∧ _
    exact ⟨cell_below hcell hbV hpr, by simp [World.cell?, hbox], by simp [World.cell?, hbox]⟩
   have HS1 : Hid (∀ q, q ≠ w.heap.size → ({ V0 with heap := V0.heap.setIfInBounds w.heap.size ob } : World).heap[q]? = V0.heap[q]?) := by
    show ∀ q, _
    intro q hq
    simp [Array.getElem?_setIfInBounds_ne (Ne.symm hq)]
   have HKB2 : Hid (KeepBut p w.heap.size w { V0 with heap := V0.heap.setIfInBounds w.heap.size ob }) := HKB.out.trans ((below_keep hbV (Nat.le_refl _)).trans (keep_set _ w.heap.size V0 ob))
   have HLM2 := Lib.hid hlm2
   have HP := Lib.hid hput'
   clear hput hput' hlm2 hbox hbV
   go_wp2_with fail
   refine wp_region_held_drew (S := fun V => V.cell? { block := p, off := 0 } = some (.map (some w.heap.size)) ∧ V.cell? { block := wr.heap.size, off := 0 } = some (.bool x.1) ∧ V.cell? { block := wr.heap.size, off := 1 } = some (.string x.2)) (by kernel_rfl) ?_ (fun hHeld => ?_)
   ·rw [← hV0]; exact HS0.out
   rw [← hV0]
   rw [← hV0] at hHeld
   clear hV0
   refine tkK 0 ?_
   refine tkK 1 ?_
   refine tkK 2 ?_
   refine tkK 3 ?_
   try simp only [Act.put, List.setIfInBounds_toArray, List.set_cons_zero, List.set_cons_succ]
   refine tkH 4 (v := ?_) ?_ ?_
   rotate_left
   ·intro w hSw; obtain ⟨p0, p1, p2⟩ := hSw; go_simp; try with_reducible rfl
   try simp only [Act.put, List.setIfInBounds_toArray, List.set_cons_zero, List.set_cons_succ]
   refine tkH 5 (v := ?_) ?_ ?_
   rotate_left
   ·intro w hSw; obtain ⟨p0, p1, p2⟩ := hSw; go_simp; try with_reducible rfl
   try simp only [Act.put, List.setIfInBounds_toArray, List.set_cons_zero, List.set_cons_succ]
   refine tkK 6 ?_
   try simp only [Act.put, List.setIfInBounds_toArray, List.set_cons_zero, List.set_cons_succ]
   refine rdH [7] ?_
   refine rcH (fun K hK => ?_) ?_
   ·have hrun := HP.out; go_simp
    refine hK.out _ _ ?_ (fun hHeld => ?_)
    ·try dsimp only
     obtain ⟨p0, p1, p2⟩ := HS0.out; exact ⟨by rw [World.cell?_of_block (HS1.out _ (Ne.symm hne))]; exact p0, by rw [World.cell?_of_block (HS1.out _ (by simp; omega))]; exact p1, by rw [World.cell?_of_block (HS1.out _ (by simp; omega))]; exact p2⟩
    clear hK K
    try simp only [Act.put, List.setIfInBounds_toArray, List.set_cons_zero, List.set_cons_succ]
    refine wpAnyH_done (by kernel_rfl) ?_ _
    go_wp2
    obtain ⟨p0, _, _⟩ := HS0.out
    exact ⟨⟨k + 1, by omega, by go_num, by rw [World.cell?_of_block (HS1.out _ (Ne.symm hne))]; exact p0, HLM2.out, HKB2.out⟩, by simp only [intOf]; omega⟩
   exact AllReadyH.nil
  ·have hkn : k = xs.length := by omega
   subst hkn
   rw [List.take_length] at HLM
   have hl : ∀ ty, (Builtin.len_ #[30] ty #[.map (some w.heap.size)]).run Tryz.prog wr = .ok (.int .i64 ((addLs [] xs).length : Int)) wr := by
    intro ty
    have := HLM.out.1.len (P := Tryz.prog) Tryz.underlying30 ty
    rw [lkv_len] at this
    exact this
   obtain ⟨hg1, hg2⟩ := addLs_len [] xs
   go_wp2
   go_ret
   have hw64 : wrap64 (((addLs [] xs).length : Nat) : Int) = ((addLs [] xs).length : Int) := IntWalk.wrap64_in _ (by simp at hg2; omega)
   refine ⟨?_, hcell, HLM.out, HKB.out⟩
   exact congrArg (fun z => Ending.returned (Value.int .i64 z)) hw64
theorem lbNew (xs : List Lb) (a : Option Addr) (c : Nat) (w : World) (hr : RowL w a xs) (hn : xs.length ≤ 1000000) :
  Calls Tryz.prog 9 #[.slice a xs.length c] w fun e w' => e = .returned (.pointer (some { block := w.heap.size, off := 0 })) ∧ w'.cell? { block := w.heap.size, off := 0 } = some (.map (some (w.heap.size + 1))) ∧ LM w' (w.heap.size + 1) (addLs [] xs) ∧ Below w.heap.size w w' := by
 obtain ⟨W1, hW1⟩ : ∃ W, W = w.alloc (.cells #[.map none] 34) := ⟨_, rfl⟩
 have hsz : W1.heap.size = w.heap.size + 1 := by rw [hW1]; simp
 have hb1 : Below w.heap.size w W1 := by rw [hW1]; exact (Below.refl _ _).alloc (Nat.le_refl _) _
 have hcell : W1.heap[w.heap.size]? = some (.cells #[.map none] 34) := by rw [hW1]; exact heap_alloc_new w _
 have hr1 : RowL W1 a xs := fun i x hx => by
  obtain ⟨b, o, h1, h2, h3⟩ := hr i x hx
  have hlt := World.block_lt_of_cell? _ _ h2
  exact ⟨b, o, h1, cell_below h2 hb1 hlt, cell_below h3 hb1 hlt⟩
 have hap : xs ≠ [] → ∀ b, a = some b → b.block ≠ w.heap.size := fun hne b hb => by
  obtain ⟨x, ys, rfl⟩ := List.exists_cons_of_ne_nil hne
  obtain ⟨b1, o, h1, h2, _⟩ := hr 0 x rfl
  have hlt := World.block_lt_of_cell? _ _ h2
  rw [hb] at h1
  rw [Option.some.inj h1]
  exact Nat.ne_of_lt hlt
 have CA := Lib.hid (lbAdd0 w.heap.size xs a c W1 hcell hr1 hap hn)
 rw [hsz] at CA
 have HB1 := Lib.hid hb1
 clear hcell hr1 hap hr hb1
 go_enter Tryz.func9, Tryz.ntmps9
 go_wp2_with fail
 rw [← hW1]
 refine CA.out.mono ?_
 rintro e w2 ⟨rfl, hc2, hm2, hk2⟩
 have HM2 := Lib.hid hm2
 have HK2 := Lib.hid hk2
 clear hm2 hk2 hW1
 go_wp2
 go_ret
 exact ⟨rfl, hc2, HM2.out, HB1.out.trans ⟨HK2.out.os, HK2.out.tape, HK2.out.output, HK2.out.size, fun k hk => HK2.out.block k (by omega) (by omega) (by omega)⟩⟩
end Go.Proofs.YtdkainiiinjgmaaGreatDoor
namespace Go.Proofs.YtdkainiiinjgmaaGreatDoor
theorem mem_addL {x y : Lb} {l : List Lb} : y ∈ addL x l ↔ y = x ∨ y ∈ l := by
 unfold addL
 cases h : hasL x l with
 | true =>
  have h1 := hasL_iff.1 h
  simp only [if_true]
  exact ⟨.inr, fun h2 => h2.elim (fun e => e ▸ h1) id⟩
 | false => simp [or_comm]
theorem mem_addLs {y : Lb} {l xs : List Lb} : y ∈ addLs l xs ↔ y ∈ l ∨ y ∈ xs := by
 unfold addLs
 induction xs generalizing l with
 | nil => simp
 | cons x xs ih =>
  rw [List.foldl_cons, ih, mem_addL, List.mem_cons]
  constructor
  ·rintro ((h | h) | h)
   ·exact .inr (.inl h)
   ·exact .inl h
   ·exact .inr (.inr h)
  ·rintro (h | h | h)
   ·exact .inl (.inr h)
   ·exact .inl (.inl h)
   ·exact .inr h
theorem nodup_addL {x : Lb} {l : List Lb} (h : l.Nodup) : (addL x l).Nodup := by
 unfold addL
 cases h1 : hasL x l with
 | true => simpa using h
 | false =>
  have h2 : x ∉ l := fun hm => by rw [hasL_iff.2 hm] at h1; cases h1
  simp only [Bool.false_eq_true, if_false]
  rw [List.nodup_append]
  exact ⟨h, by simp, fun y hy z hz => by simp at hz; subst hz; exact fun e => h2 (e ▸ hy)⟩
theorem nodup_addLs {l xs : List Lb} (h : l.Nodup) : (addLs l xs).Nodup := by
 unfold addLs
 induction xs generalizing l with
 | nil => exact h
 | cons x xs ih => exact ih (nodup_addL h)
abbrev Rising (l : List Lb) : Prop := l.Pairwise fun a b => ltL a b = true
theorem slb_mem {x : Lb} {l : List Lb} : x ∈ slb l ↔ x ∈ l := (slb_perm l).mem_iff
theorem rising_slb {l : List Lb} (h : l.Nodup) : Rising (slb l) := by
 have h1 : Slb (slb l) := slb_srt l
 have h2 : (slb l).Nodup := (slb_perm l).nodup_iff.2 h
 exact (h1.and h2).imp fun {a b} h3 => ltL_of_ne h3.1 h3.2
theorem rising_ext : ∀ {a b : List Lb}, Rising a → Rising b → (∀ x, x ∈ a ↔ x ∈ b) → a = b
 | [], [], _, _, _ => rfl
 | [], y :: ys, _, _, h => absurd ((h y).2 (by simp)) (by simp)
 | x :: xs, [], _, _, h => absurd ((h x).1 (by simp)) (by simp)
 | x :: xs, y :: ys, ha, hb, h => by
  have ha' := List.pairwise_cons.1 ha
  have hb' := List.pairwise_cons.1 hb
  have hxy : x = y := by
   rcases List.mem_cons.1 ((h x).1 (by simp)) with e | h1
   ·exact e
   ·rcases List.mem_cons.1 ((h y).2 (by simp)) with e | h2
    ·exact e.symm
    ·have k1 := hb'.1 x h1
     have k2 := ha'.1 y h2
     have := ltL_trans k1 k2
     rw [ltL_irrefl] at this; cases this
  subst hxy
  rw [rising_ext ha'.2 hb'.2 fun z => ?_]
  constructor
  ·intro hz
   rcases List.mem_cons.1 ((h z).1 (by simp [hz])) with e | h1
   ·subst e; have := ha'.1 _ hz; rw [ltL_irrefl] at this; cases this
   ·exact h1
  ·intro hz
   rcases List.mem_cons.1 ((h z).2 (by simp [hz])) with e | h1
   ·subst e; have := hb'.1 _ hz; rw [ltL_irrefl] at this; cases this
   ·exact h1
def insL (x : Lb) : List Lb → List Lb
 | [] => [x]
 | y :: ys => if ltL y x then y :: insL x ys else if y = x then y :: ys else x :: y :: ys
theorem mem_insL {x z : Lb} : ∀ {l : List Lb}, z ∈ insL x l ↔ z = x ∨ z ∈ l
 | [] => by simp [insL]
 | y :: ys => by
  unfold insL
  split
  ·rw [List.mem_cons, mem_insL, List.mem_cons]
   constructor
   ·rintro (h | h | h)
    ·exact .inr (.inl h)
    ·exact .inl h
    ·exact .inr (.inr h)
   ·rintro (h | h | h)
    ·exact .inr (.inl h)
    ·exact .inl h
    ·exact .inr (.inr h)
  ·split
   ·rename_i h1
    subst h1
    simp
   ·simp
theorem rising_insL {x : Lb} : ∀ {l : List Lb}, Rising l → Rising (insL x l)
 | [], _ => List.pairwise_singleton _ _
 | y :: ys, h => by
  have h' := List.pairwise_cons.1 h
  unfold insL
  split
  ·rename_i h1
   refine List.pairwise_cons.2 ⟨fun z hz => ?_, rising_insL h'.2⟩
   rcases mem_insL.1 hz with rfl | hz
   ·exact h1
   ·exact h'.1 z hz
  ·rename_i h1
   split
   ·exact h
   ·rename_i h2
    have hxy : ltL x y = true := ltL_of_ne (by unfold leL; simpa using h1) (fun e => h2 e.symm)
    refine List.pairwise_cons.2 ⟨fun z hz => ?_, h⟩
    rcases List.mem_cons.1 hz with rfl | hz
    ·exact hxy
    ·exact ltL_trans hxy (h'.1 z hz)
def setL (xs : List Lb) : List Lb := xs.foldl (fun l x => insL x l) []
theorem setL_from (xs : List Lb) : ∀ l : List Lb, Rising l → Rising (xs.foldl (fun l x => insL x l) l) ∧ ∀ z, z ∈ xs.foldl (fun l x => insL x l) l ↔ z ∈ l ∨ z ∈ xs := by
 induction xs with
 | nil => exact fun l h => ⟨h, fun z => by simp⟩
 | cons x xs ih =>
  intro l h
  obtain ⟨h1, h2⟩ := ih (insL x l) (rising_insL h)
  refine ⟨h1, fun z => ?_⟩
  rw [List.foldl_cons, h2, mem_insL, List.mem_cons]
  constructor
  ·rintro ((h | h) | h)
   ·exact .inr (.inl h)
   ·exact .inl h
   ·exact .inr (.inr h)
  ·rintro (h | h | h)
   ·exact .inl (.inr h)
   ·exact .inl (.inl h)
   ·exact .inr h
theorem rising_setL (xs : List Lb) : Rising (setL xs) := (setL_from xs [] List.Pairwise.nil).1
theorem mem_setL {xs : List Lb} {z : Lb} : z ∈ setL xs ↔ z ∈ xs := by
 have h := (setL_from xs [] List.Pairwise.nil).2 z
 unfold setL
 rw [h]
 simp
theorem slb_addLs (xs : List Lb) : slb (addLs [] xs) = setL xs :=
 rising_ext (rising_slb (nodup_addLs List.nodup_nil)) (rising_setL xs) fun z => by rw [slb_mem, mem_addLs, mem_setL]; simp
end Go.Proofs.YtdkainiiinjgmaaGreatDoor
namespace Go.Proofs.YtdkainiiinjgmaaGreatDoor
open Go.RowKit Go.Shelf
theorem lcs_get {xs : List Lb} {i : Nat} {x : Lb} (h : xs[i]? = some x) : (lcs xs)[i * 2]? = some (.bool x.1) ∧ (lcs xs)[i * 2 + 1]? = some (.string x.2) := by
 induction xs generalizing i with
 | nil => simp at h
 | cons y ys ih =>
  rw [lcs_cons]
  cases i with
  | zero =>
   simp at h
   subst h
   exact ⟨rfl, rfl⟩
  | succ i =>
   have h1 := ih (i := i) (by simpa using h)
   rw [show (i + 1) * 2 = i * 2 + 1 + 1 by omega]
   simpa using h1
theorem rowL_own {w : World} {base n : Nat} {T : TypeId} {v : Value} {xs : List Lb} (h : w.ownsRow base T 2 v n (lcs xs)) :
  ∃ a c, v = .slice a xs.length c ∧ RowL w a xs ∧ ∀ b, a = some b → base ≤ b.block ∧ b.block < w.heap.size := by
 obtain ⟨hl, h⟩ := h
 have hn : n = xs.length := by rw [lcs_len] at hl; omega
 subst hn
 rcases h with ⟨rfl, h0⟩ | ⟨g, cap, cur, rfl, h1, h2, _, _, _, h3⟩
 ·refine ⟨none, 0, by rw [h0], fun i x hx => ?_, fun b hb => by cases hb⟩
  have : xs = [] := List.length_eq_zero_iff.1 h0
  subst this
  simp at hx
 ·refine ⟨some { block := g, off := 0 }, cap, rfl, fun i x hx => ⟨g, 0, rfl, ?_, ?_⟩, fun b hb => ?_⟩
  ·have := (lcs_get hx).1
   rw [← h3, List.getElem?_take] at this
   split at this
   ·simpa [World.cell?, h2] using this
   ·cases this
  ·have := (lcs_get hx).2
   rw [← h3, List.getElem?_take] at this
   split at this
   ·simpa [World.cell?, h2] using this
   ·cases this
  ·cases hb
   exact ⟨h1, (Array.getElem?_eq_some_iff.1 h2).1⟩
theorem RowL.below {w w' : World} {a : Option Addr} {xs : List Lb} {B : Nat} (h : RowL w a xs) (hb : Below B w w') (hB : w.heap.size ≤ B) : RowL w' a xs := fun i x hx => by
 obtain ⟨b, o, h1, h2, h3⟩ := h i x hx
 have hlt := Nat.lt_of_lt_of_le (World.block_lt_of_cell? _ _ h2) hB
 exact ⟨b, o, h1, cell_below h2 hb hlt, cell_below h3 hb hlt⟩
end Go.Proofs.YtdkainiiinjgmaaGreatDoor
namespace Go.Proofs.YtdkainiiinjgmaaGreatDoor
open Go.RowKit Go.Shelf
def SetM (w : World) (p : Nat) (ls : List Lb) : Prop := ∃ b, w.cell? { block := p, off := 0 } = some (.map (some b)) ∧ b ≠ p ∧ LM w b ls
theorem SetM.at {w : World} {p : Nat} {ls : List Lb} (h : SetM w p ls) : SetAt w p ls := by
 obtain ⟨b, h1, h2, h3⟩ := h
 exact ⟨some b, h1, .inr ⟨b, rfl, h2, h3⟩⟩
theorem SetM.lt {w : World} {p : Nat} {ls : List Lb} (h : SetM w p ls) : p < w.heap.size := h.at.lt
theorem SetM.below {w w' : World} {p B : Nat} {ls : List Lb} (h : SetM w p ls) (hb : Below B w w') (hB : w.heap.size ≤ B) : SetM w' p ls := by
 have hlt := h.lt
 obtain ⟨b, hc, h2, h3⟩ := h
 exact ⟨b, cell_below hc hb (Nat.lt_of_lt_of_le hlt hB), h2, h3.below hb (Nat.lt_of_lt_of_le h3.1.lt hB)⟩
set_option maxHeartbeats 4000000
set_option maxRecDepth 100000
theorem lbAll (p : Nat) (ls : List Lb) (w : World) (hs : SetM w p ls) (hn : ls.length ≤ 1000000) :
  Calls Tryz.prog 16 #[.pointer (some { block := p, off := 0 })] w fun e w' => ∃ a c, e = .returned (.slice a (slb ls).length c) ∧ RowL w' a (slb ls) ∧ (∀ b, a = some b → w.heap.size ≤ b.block ∧ b.block < w'.heap.size) ∧ Below w.heap.size w w' := by
 obtain ⟨b, hc, _, hm⟩ := hs
 refine (baseAll_any { block := p, off := 0 } b ls w hc hm.1 hn).mono ?_
 rintro e w' ⟨g, cap, rfl, ho, hb⟩
 obtain ⟨a, c, h1, h2, h3⟩ := rowL_own ho
 exact ⟨a, c, by rw [h1], h2, h3, hb⟩
theorem lbAllOwn (p : Nat) (ls : List Lb) (w : World) (hs : SetM w p ls) (hn : ls.length ≤ 1000000) :
  Calls Tryz.prog 16 #[.pointer (some { block := p, off := 0 })] w fun e w' => ∃ v, e = .returned v ∧ w'.ownsRow w.heap.size 38 2 v (slb ls).length (lcs (slb ls)) ∧ Below w.heap.size w w' := by
 obtain ⟨b, hc, _, hm⟩ := hs
 refine (baseAll_any { block := p, off := 0 } b ls w hc hm.1 hn).mono ?_
 rintro e w' ⟨g, cap, rfl, ho, hb⟩
 exact ⟨_, rfl, by rw [(slb_perm ls).length_eq]; exact ho, hb⟩
theorem lbUnion2 (p q : Nat) (ls ms : List Lb) (w : World) (hs : SetM w p ls) (ht : SetM w q ms) (hn : ls.length ≤ 1000) (hk : ms.length ≤ 1000) :
  Calls Tryz.prog 11 #[.pointer (some { block := p, off := 0 }), .pointer (some { block := q, off := 0 })] w fun e w' => ∃ u mb, e = .returned (.pointer (some { block := u, off := 0 })) ∧ w.heap.size ≤ u ∧ w.heap.size ≤ mb ∧ mb ≠ u ∧ w'.cell? { block := u, off := 0 } = some (.map (some mb)) ∧ LM w' mb (addLs (addLs [] (slb ls)) (slb ms)) ∧ Below w.heap.size w w' := by
 have HS := Lib.hid hs
 have HT := Lib.hid ht
 have l1 : (slb ls).length ≤ 1000 := by rw [(slb_perm ls).length_eq]; exact hn
 have l2 : (slb ms).length ≤ 1000 := by rw [(slb_perm ms).length_eq]; exact hk
 have l3 := (addLs_len [] (slb ls)).2
 clear hs ht
 go_enter Tryz.func11, Tryz.ntmps11
 go_wp2_with fail
 refine (lbBase p w).mono ?_
 rintro e w1 ⟨rfl, rfl⟩
 go_wp2_with fail
 refine (lbAll p ls w1 HS.out (by omega)).mono ?_
 rintro e w2 ⟨a, c, rfl, hr, _, hb2⟩
 have HB2 := Lib.hid hb2
 have HR := Lib.hid hr
 clear hb2 hr
 go_wp2_with fail
 refine (lbNew (slb ls) a c w2 HR.out (by omega)).mono ?_
 rintro e w3 ⟨rfl, hc3, hm3, hb3⟩
 have HM3 := Lib.hid hm3
 have HC3 := Lib.hid hc3
 have HB3 := Lib.hid (HB2.out.trans (hb3.mono HB2.out.size))
 have HS3 := Lib.hid hb3.size
 clear hc3 hm3 hb3
 go_wp2_with fail
 refine (lbBase q w3).mono ?_
 rintro e w4 ⟨rfl, rfl⟩
 go_wp2_with fail
 refine (lbAll q ms w4 (HT.out.below HB3.out (Nat.le_refl _)) (by omega)).mono ?_
 rintro e w5 ⟨a', c', rfl, hr5, hg5, hb5⟩
 have HB5 := Lib.hid hb5
 have HR5 := Lib.hid hr5
 have HG5 := Lib.hid hg5
 clear hb5 hr5 hg5
 have hlt4 : w2.heap.size < w4.heap.size := World.block_lt_of_cell? _ _ HC3.out
 have hlt5 : w2.heap.size + 1 < w4.heap.size := HM3.out.1.lt
 go_wp2_with fail
 refine (lbAdd w2.heap.size (w2.heap.size + 1) (addLs [] (slb ls)) (slb ms) a' c' w5 (cell_below HC3.out HB5.out hlt4) (by omega) (HM3.out.below HB5.out hlt5) HR5.out (fun _ b hb => by have := (HG5.out b hb).1; omega) (by simp at l3; omega)).mono ?_
 rintro e w6 ⟨rfl, hc6, hm6, hk6⟩
 have HC6 := Lib.hid hc6
 have HM6 := Lib.hid hm6
 have HK6 := Lib.hid hk6
 clear hc6 hm6 hk6
 go_wp2
 go_ret
 refine ⟨_, _, rfl, HB2.out.size, Nat.le_trans HB2.out.size (by omega), by omega, HC6.out, HM6.out, ?_⟩
 have h1 := HB2.out.size
 have h2 := HB5.out.size
 have h3 := HB3.out.trans (HB5.out.mono HB3.out.size)
 exact h3.trans ⟨HK6.out.os, HK6.out.tape, HK6.out.output, HK6.out.size, fun k hk => HK6.out.block k (by omega) (by omega) (by omega)⟩
theorem lbUnion (p q : Nat) (ls ms : List Lb) (w : World) (hs : SetM w p ls) (ht : SetM w q ms) (hn : ls.length ≤ 1000) (hk : ms.length ≤ 1000) :
  Calls Tryz.prog 11 #[.pointer (some { block := p, off := 0 }), .pointer (some { block := q, off := 0 })] w fun e w' => ∃ u, e = .returned (.pointer (some { block := u, off := 0 })) ∧ w.heap.size ≤ u ∧ SetM w' u (addLs (addLs [] (slb ls)) (slb ms)) ∧ Below w.heap.size w w' := by
 refine (lbUnion2 p q ls ms w hs ht hn hk).mono ?_
 rintro e w' ⟨u, mb, rfl, h1, _, h3, h4, h5, h6⟩
 exact ⟨u, rfl, h1, ⟨mb, h4, h3, h5⟩, h6⟩
end Go.Proofs.YtdkainiiinjgmaaGreatDoor
