import Derived.Lib.AppendStr
import Derived.Test.YtdhmeganlnpohaaGreatDoorMas
import Derived.Test.YtdhmeganlnpohaaGreatDoorMao
import Derived.Test.YtdhmeganlnpohaaGreatDoorMap
namespace Go.Proofs.YtdhmeganlnpohaaGreatDoor
open Go.RowKit Go.Shelf
def Bld (B b : Nat) (l : List UInt8) (w : World) : Prop :=
 b < B ∧ ∃ p v, (p = .pointer none ∨ p = .pointer (some ⟨b, 0, none⟩)) ∧ w.heap[b]? = some (.cells #[p, v] 193) ∧ w.ownsRow B 5 1 v l.length (Lib.byteCells l)
theorem Bld.is {B b : Nat} {l : List UInt8} {w : World} (h : Bld B b l w) : Lib.IsBuilder 193 5 b b (Lib.byteCells l) w := by
 obtain ⟨hb, p, v, hp, hbk, hown⟩ := h
 have ho := own_lower hown (Nat.le_of_lt hb)
 have hne : v.ownBlock ≠ some b := fun e => by have := (hown.lt b e).1; omega
 have hl : (Lib.byteCells l).length = l.length := by simp [Lib.byteCells]
 rw [← hl] at ho
 rcases hp with rfl | rfl
 ·exact .inl ⟨Nat.le_refl _, v, hbk, ho, hne⟩
 ·exact .inr ⟨Nat.le_refl _, v, hbk, ho, hne⟩
abbrev BAv (B b : Nat) (k : Nat) : Prop := k = b ∨ B ≤ k
theorem Bld.below {B b : Nat} {l : List UInt8} {w w' : World} (h : Bld B b l w) (hb : Below w.heap.size w w') : Bld B b l w' := by
 obtain ⟨h1, p, v, hp, hbk, hown⟩ := h
 refine ⟨h1, p, v, hp, (hb.block _ (Array.getElem?_eq_some_iff.1 hbk).1).trans hbk, World.ownsRow.kept (row := none) hown ⟨hb.os, hb.tape, hb.output, hb.size, fun k hk _ => hb.block k hk⟩ (by cases h : Value.ownBlock _ <;> simp)⟩
theorem bld_fresh (w w1 : World) (hb : Below (w.heap.size + 1) (w.alloc (.cells #[.pointer none, .slice none 0 0] 193)) w1) (hs : w.heap.size + 1 ≤ w1.heap.size) : Bld w1.heap.size w.heap.size [] w1 := by
 refine ⟨by omega, _, _, .inl rfl, (hb.block _ (by omega)).trans (alloc_at w _), ⟨rfl, .inl ⟨rfl, rfl⟩⟩⟩
theorem info_byte : (Tryz.prog.info? 5).map (fun i => (i.zero, i.size, i.bytes)) = some (some (.int .u8 0), 1, 1) := by kernel_rfl
set_option maxHeartbeats 4000000 in
set_option maxRecDepth 100000 in
theorem bld_write (B b : Nat) (l t : List UInt8) (s : ByteArray) (hst : s = ⟨t.toArray⟩) (w : World) (h : Bld B b l w) (hlen : l.length + t.length ≤ 140737488351232) (hB : B ≤ w.heap.size) :
  Calls Tryz.prog 170 #[.pointer (some ⟨b, 0, none⟩), .string s] w fun e w' => (∃ x y, e = .returned (.tuple #[x, y])) ∧ Bld B b (l ++ t) w' ∧ Fr (BAv B b) w w' := by
 obtain ⟨i0, hi, hz0, hz1, hz2⟩ := info_of info_byte
 have hss : s.size = t.length := by rw [hst]; exact size_list t
 obtain ⟨hbB, p, v, hp, hbk, hown⟩ := h
 have hcc : Calls Tryz.prog 228 #[.pointer (some ⟨b, 0, none⟩)] w fun e w' => e = .returned (.tuple #[]) ∧ w'.heap[b]? = some (.cells #[.pointer (some ⟨b, 0, none⟩), v] 193) ∧ w'.ownsRow B 5 1 v l.length (Lib.byteCells l) ∧ Fr (BAv B b) w w' := by
  rcases hp with rfl | rfl
  ·refine (Any.Builder_copyCheck_fresh { lLays_n166 with } { lExtra with } b w (by simp [World.cell?, hbk]) (by simp [World.shape?, hbk]; kernel_rfl) (by simp [World.frozen?, hbk])).mono ?_
   rintro e w' ⟨rfl, rfl⟩
   refine ⟨rfl, heap_set 0 _ hbk, ?_, fr_set (a := ⟨b, 0, none⟩) (Av := BAv B b) (.inl rfl) _⟩
   exact World.ownsRow.kept (row := some b) hown (fr_set (a := ⟨b, 0, none⟩) (Av := fun k => k = b) rfl _).grownBy (by
    cases hv : v.ownBlock with
    | none => exact .inl rfl
    | some k => exact .inr (by intro e; injection e with e; have := (hown.lt k hv).1; omega))
  ·refine (Any.Builder_copyCheck_used { lLays_n166 with } { lExtra with } b w (by simp [World.cell?, hbk])).mono ?_
   rintro e w' ⟨rfl, rfl⟩
   exact ⟨rfl, hbk, hown, Fr.refl _ _⟩
 have hmax : l.length + s.size ≤ 140737488355328 := by omega
 have HSS := Lib.hid hss
 have HST := Lib.hid hst
 clear hbk hown hp hst hss hlen
 go_enter Tryz.func170, Tryz.ntmps170
 go_wp2_with fail
 refine hcc.mono ?_
 rintro e w1 ⟨rfl, hbk1, hown1, hf1⟩
 obtain ⟨e0, e1, f0, f1⟩ := cells2 hbk1
 have HBK1 := Lib.hid hbk1
 have HO1 := Lib.hid hown1
 have HF1 := Lib.hid hf1
 have hs1 : B ≤ w1.heap.size := Nat.le_trans hB hf1.size
 clear hcc hbk1 hown1 hf1
 go_wp2_with (at_builtin; refine Lib.wpList_append_own_string _ (by rfl) _ _ 93 9 (by rfl) B 5 i0 Tryz.underlying93 Tryz.underlying9 hi hz0 hz1 hz2 _ _ _ (by rfl) HO1.out s (by rfl) (by unfold maxLen; omega) hmax hs1 ?_)
 intro v' w2 hown2 hg2 _
 obtain ⟨va, vn, vc, hv'⟩ : ∃ a n c, v' = .slice a n c := by
  rcases hown2.2 with ⟨hv, _⟩ | ⟨g, cap, cur, hv, _⟩
  ·exact ⟨_, _, _, hv⟩
  ·exact ⟨_, _, _, hv⟩
 subst hv'
 have hne : v.ownBlock ≠ some b := fun e => by have := (HO1.out.lt b e).1; omega
 have hbk2 := (hg2.block b (Array.getElem?_eq_some_iff.1 HBK1.out).1 (fun e => hne e.symm)).trans HBK1.out
 obtain ⟨q0, q1, r0, r1⟩ := cells2 hbk2
 have hf2 : Fr (BAv B b) w1 w2 := fr_grown hg2 fun k e => .inr (HO1.out.lt k e).1
 have hown3 : w2.ownsRow B 5 1 (.slice va vn vc) (l ++ t).length (Lib.byteCells (l ++ t)) := by
  have e1 : (l ++ t).length = l.length + s.size := by rw [List.length_append, HSS.out]
  have e2 : Lib.byteCells (l ++ t) = Lib.byteCells l ++ Lib.strCells s := by rw [HST.out]; simp [Lib.byteCells, Lib.strCells]
  rw [e1, e2]; exact hown2
 have hset : (w2.setCell ⟨b, 1, none⟩ (.slice va vn vc)).heap[b]? = some (.cells #[.pointer (some ⟨b, 0, none⟩), .slice va vn vc] 193) := heap_set 1 (.slice va vn vc) hbk2
 have hown4 : (w2.setCell ⟨b, 1, none⟩ (.slice va vn vc)).ownsRow B 5 1 (.slice va vn vc) (l ++ t).length (Lib.byteCells (l ++ t)) :=
  World.ownsRow.kept (row := some b) hown3 (fr_set (a := ⟨b, 1, none⟩) (Av := fun k => k = b) rfl _).grownBy (by
   cases hv : (Value.slice va vn vc).ownBlock with
   | none => exact .inl rfl
   | some k => exact .inr (by intro e; injection e with e; have := (hown3.lt k hv).1; omega))
 have hf4 := (HF1.out.trans hf2).trans (fr_set (w := w2) (a := ⟨b, 1, none⟩) (Av := BAv B b) (.inl rfl) (.slice va vn vc))
 have HB4 : Hid (Bld B b (l ++ t) (w2.setCell ⟨b, 1, none⟩ (.slice va vn vc))) := ⟨hbB, _, _, .inr rfl, hset, hown4⟩
 have HF4 := Lib.hid hf4
 clear hown2 hg2 hne hbk2 hf2 hown3 hset hown4 hf4 e0 e1 f0 f1
 go_wp2
 go_ret2
 exact ⟨⟨_, _, rfl⟩, HB4.out, HF4.out⟩
theorem bld_string (B b : Nat) (l : List UInt8) (w : World) (h : Bld B b l w) (hB : B ≤ w.heap.size) :
  Calls Tryz.prog 172 #[.pointer (some ⟨b, 0, none⟩)] w fun e w' => e = .returned (.string ⟨l.toArray⟩) ∧ Below b w w' :=
 builderString_c b b l w h.is (by have := h.1; omega)
end Go.Proofs.YtdhmeganlnpohaaGreatDoor
namespace Go.Proofs.YtdhmeganlnpohaaGreatDoor
open Go.RowKit Go.Shelf
def rulesTx (ys : List RuleS) : List UInt8 := (ys.map ruleTx).flatten
theorem rulesTx_next (xs : List RuleS) (k : Nat) (x : RuleS) (h : xs[k]? = some x) : rulesTx (xs.take (k + 1)) = rulesTx (xs.take k) ++ ruleTx x := by
 unfold rulesTx
 rw [List.take_add_one, h, List.map_append, List.flatten_append]
 simp
theorem rulesTx_le (xs : List RuleS) (k : Nat) : (rulesTx (xs.take k)).length ≤ (rulesTx xs).length := by
 conv => rhs; rw [← List.take_append_drop k xs]
 unfold rulesTx
 rw [List.map_append, List.flatten_append, List.length_append]
 omega
set_option maxHeartbeats 8000000 in
set_option maxRecDepth 100000 in
theorem pfile_of (v : Value) (xs ys : List RuleS) (Av : Nat → Prop) (p : Nat) (w : World) (hg : GP p w) (hp : p ≤ w.heap.size) (h : RulesA Av w v xs) (hn : xs.length ≤ 1000000) (hny : ys.length ≤ 1000000) (hfew : ∀ x ∈ xs, FewR x) (hfit : ∀ y ∈ ys, RuleFit y) (hlen : (rulesTx ys).length ≤ 140737488351232)
  (hsort : SortsTo (w.heap.size + 1) (xs.map sortR) ys) :
  Calls Tryz.prog 121 #[v] w fun e w' => e = .returned (.string ⟨(rulesTx ys).toArray⟩) ∧ Below w.heap.size w w' := by
 obtain ⟨sa, sc, hv, hs1, hs2⟩ := rulesA_len h
 subst hv
 have hb0 : Below w.heap.size w (w.alloc (.cells #[.pointer none, .slice none 0 0] 193)) := (Below.refl _ _).alloc (Nat.le_refl _) _
 have hB0 := Lib.fresh_isBuilder 193 5 w
 have cS := sorted_of (.slice sa xs.length sc) xs ys Av (w.alloc (.cells #[.pointer none, .slice none 0 0] 193)) (h.keep (fr_below hb0)) hn hfew (by simpa using hsort)
 have HB0 := Lib.hid hB0
 have HN0 := Lib.hid hb0
 have CS := Lib.hid cS
 have HFIT := Lib.hid hfit
 have HLEN := Lib.hid hlen
 have HG := Lib.hid hg
 clear h hb0 hB0 cS hfit hlen hg hfew hsort
 go_enter Tryz.func121, Tryz.ntmps121
 go_wp2_with fail
 refine CS.out.mono ?_
 rintro e w1 ⟨ya, yn, yc, rfl, hO, hb1⟩
 obtain ⟨_, _, hl⟩ := hO.len
 cases hl
 have hn1 : Below w.heap.size w w1 := HN0.out.trans (hb1.mono (by simp))
 have hs1' : w.heap.size + 1 ≤ w1.heap.size := by have := hb1.size; simpa using this
 have hbld : Bld w1.heap.size w.heap.size [] w1 := bld_fresh w w1 (by simpa using hb1) hs1'
 have hrl : RulesA (BAv w1.heap.size w.heap.size) w1 _ ys := RulesA.mono hO.rulesA fun b hb e => by
  rcases e with e | e
  ·simp; omega
  ·omega
 have HB1 := Lib.hid hbld
 have HR1 := Lib.hid hrl
 have HN1 := Lib.hid hn1
 clear hO hb1 hn1 hrl hbld
 go_wp2
 go_loopw [9] (fun i wr => ∃ k : Nat, k ≤ ys.length ∧ i = .int .i64 k ∧ Bld w1.heap.size w.heap.size (rulesTx (ys.take k)) wr ∧ Below w.heap.size w wr ∧ Fr (BAv w1.heap.size w.heap.size) w1 wr)
  (fun i _ => ys.length - (intOf i).toNat)
 case atStart => exact ⟨0, Nat.zero_le _, rfl, HB1.out, HN1.out, Fr.refl _ _⟩
 case round =>
  obtain ⟨k, hk, rfl, hbu, hnx, hfr⟩ := hrel
  have hsz := hfr.size
  have hle := rulesTx_le ys k
  have hall := HLEN.out
  have hR := HR1.out.keep hfr
  have HBU := Lib.hid hbu
  have HNX := Lib.hid hnx
  have HFR := Lib.hid hfr
  clear hbu hnx hfr
  by_cases hlt : k < ys.length
  ·obtain ⟨y, hy⟩ : ∃ y, ys[k]? = some y := ⟨ys[k], List.getElem?_eq_getElem hlt⟩
   obtain ⟨g, o, cap, a1, n1, c1, a2, n2, c2, a3, n3, c3, a4, n4, c4, hv, hg, hRu, hc⟩ := rules_at hR hy
   cases hv
   have hnext := rulesTx_next ys k y hy
   have hle2 := rulesTx_le ys (k + 1)
   rw [hnext, List.length_append] at hle2
   have hi1 : (k : Int) < (ys.length : Int) := by omega
   have hfy := HFIT.out y (List.mem_of_getElem? hy)
   obtain ⟨d0, d1, d2, d3, d4⟩ := hc _ (Below.refl _ _)
   obtain ⟨ob, hob⟩ : ∃ ob : Obj, ob = .cells #[.string y.name, .slice a1 n1 c1, .slice a2 n2 c2, .slice a3 n3 c3, .slice a4 n4 c4] 45 := ⟨_, rfl⟩
   have hnA : Below wr.heap.size wr (wr.alloc ob) := (Below.refl _ _).alloc (Nat.le_refl _) _
   have hgA : GP p (wr.alloc ob) := HG.out.below ((HNX.out.trans (hnA.mono HNX.out.size)).mono hp)
   obtain ⟨q1, q2, q3, q4, qe, h1, h2, h3, h4⟩ := hRu
   cases qe
   have cR := rule_any y (.slice a1 n1 c1) (.slice a2 n2 c2) (.slice a3 n3 c3) (.slice a4 n4 c4) (BAv w1.heap.size w.heap.size) p (wr.alloc ob) hgA (Nat.le_trans hp (Nat.le_trans HNX.out.size hnA.size)) (RowA.keep h1 (fr_below hnA)) (RowA.keep h2 (fr_below hnA)) (RowA.keep h3 (fr_below hnA)) (h4.keep (fr_below hnA)) hfy
   have HNEXT := Lib.hid hnext
   have CR := Lib.hid cR
   have HNA := Lib.hid hnA
   have HC := Lib.hid hc
   clear hnext hnA hgA cR hc hfy h1 h2 h3 h4 hR hy
   subst hob
   go_wp2_with fail
   refine CR.out.mono ?_
   rintro e w2 ⟨rfl, hb2⟩
   have hn2 : Below wr.heap.size wr w2 := HNA.out.trans (hb2.mono (by simp))
   have HB2 := Lib.hid (HBU.out.below hn2)
   have HN2 := Lib.hid (HNX.out.trans (hn2.mono HNX.out.size))
   have HF2 := Lib.hid (HFR.out.trans (fr_below hn2))
   have hs2 := hn2.size
   clear hb2 hn2 d0 d1 d2 d3 d4
   go_wp2_with fail
   refine (bld_write w1.heap.size w.heap.size (rulesTx (ys.take k)) (ruleTx y) _ rfl _ HB2.out (by omega) (by omega)).mono ?_
   rintro e w3 ⟨⟨x3, y3, rfl⟩, hbl3, hf3⟩
   have HB3 := Lib.hid hbl3
   have HF3 := Lib.hid (HF2.out.trans hf3)
   have HN3 := Lib.hid (HN2.out.trans (hf3.below HN2.out.size fun k hk e => by rcases e with e | e <;> omega))
   clear hbl3 hf3
   go_wp2
   go_roundw
   case rel => exact ⟨k + 1, by omega, by go_num, by rw [HNEXT.out]; exact HB3.out, HN3.out, HF3.out⟩
   case measure => simp [intOf]; omega
  ·have hfull : ys.take k = ys := List.take_of_length_le (by omega)
   have hbu := HBU.out
   rw [hfull] at hbu
   have HBU := Lib.hid hbu
   have hi1 : ¬ (k : Int) < (ys.length : Int) := by omega
   clear hfull hbu hR
   go_wp2_with fail
   refine (bld_string w1.heap.size w.heap.size (rulesTx ys) wr HBU.out (by omega)).mono ?_
   rintro e w2 ⟨rfl, hb2⟩
   go_wp2
   go_ret
   exact ⟨rfl, HNX.out.trans hb2⟩
end Go.Proofs.YtdhmeganlnpohaaGreatDoor
namespace Go.Proofs.YtdhmeganlnpohaaGreatDoor
def skipG : Bool → List UInt8 → Nat
 | _, [] => 0
 | false, c :: r => if blankB c then skipG false r + 1 else if c = 35 then skipG true r + 1 else 0
 | true, c :: r => if c = 10 then skipG false r + 1 else skipG true r + 1
theorem skipG_eq : ∀ (l : List UInt8) (b : Bool), skipN b l = skipG b l
 | [], b => by simp [skip_nil, skipG]
 | c :: r, false => by
  rw [skipG, skipN, skipG_eq r false, skipG_eq r true]
 | c :: r, true => by
  rw [skipG]
  by_cases h : c = 10
  ·rw [skip_out r h, if_pos h, skip_blank r (by rw [h]; decide), skipG_eq r false]
  ·rw [skip_in r h, if_neg h, skipG_eq r true]
def allG : Nat → Nat → List UInt8 → Except Nat (List WordT)
 | 0, at', _ => .error at'
 | f + 1, at', l =>
  if l.drop (skipG false l) = [] then .ok [(4, at' + skipG false l, [])] else
   match wordS (l.drop (skipG false l)) with
   | none => .error (at' + skipG false l)
   | some (k, t, n) => match allG f (at' + skipG false l + n) ((l.drop (skipG false l)).drop n) with
    | .error e => .error e
    | .ok ws => .ok ((k, at' + skipG false l, t) :: ws)
theorem allG_eq : ∀ (f a : Nat) (l : List UInt8), allF f a l = allG f a l
 | 0, _, _ => rfl
 | f + 1, a, l => by
  rw [allF_succ, skipG_eq]
  show _ = allG (f + 1) a l
  rw [allG]
  by_cases hd : l.drop (skipG false l) = []
  ·rw [if_pos hd, if_pos hd]
  ·rw [if_neg hd, if_neg hd]
   cases wordS (l.drop (skipG false l)) with
   | none => rfl
   | some x =>
    obtain ⟨k, t, n⟩ := x
    have h := allG_eq f (a + skipG false l + n) ((l.drop (skipG false l)).drop n)
    simp only [h]
    cases allG f (a + skipG false l + n) ((l.drop (skipG false l)).drop n) <;> rfl
theorem allS_G (l : List UInt8) : allS l = allG (l.length + 1) 0 l := allG_eq _ _ _
def fileG (l : List UInt8) : Except (Int × Int) (List RuleS) :=
 if 20000 < l.length then .error (4, -1) else
  match allG (l.length + 1) 0 l with
  | .error p => .error (1, p)
  | .ok ws => let r := rulesP ws (0, false); if r.2.2 then .error (1, ((wAt ws r.2.1).2.1 : Int)) else .ok r.1
theorem fileS_G (l : List UInt8) : fileS l = fileG l := by
 unfold fileS fileG
 rw [allS_G]
 split
 ·rfl
 ·cases allG (l.length + 1) 0 l <;> rfl
def t1 : List UInt8 := [97, 32, 34, 92, 120, 52, 49, 34, 32, 59]
def t2 : List UInt8 := [114, 117, 108, 101, 32, 114, 32, 123, 32, 105, 110, 32, 98, 44, 32, 97, 59, 32, 111, 117, 116, 32, 120, 59, 32, 35, 32, 110, 111, 10, 32, 120, 32, 61, 32, 115, 101, 108, 101, 99, 116, 32, 34, 113, 92, 110, 34, 32, 97, 59, 32, 125]
def t3 : List UInt8 := [114, 117, 108, 101, 32, 105, 110, 32, 123]
def rl2 : RuleS := ⟨⟨#[114]⟩, [⟨#[98]⟩, ⟨#[97]⟩], [⟨#[120]⟩], [], [⟨⟨#[120]⟩, 7, [⟨#[97]⟩], [⟨#[113, 10]⟩], 0⟩]⟩
theorem c_all1 : allS t1 = .ok [(1, 0, [97]), (2, 2, [65]), (3, 9, [59]), (4, 10, [])] := by rw [allS_G]; kernel_rfl
theorem c_file2 : fileS t2 = .ok [rl2] := by rw [fileS_G]; kernel_rfl
theorem c_file3 : fileS t3 = .error (1, 5) := by rw [fileS_G]; kernel_rfl
theorem c_quote : quoteS [97, 34, 10] = [34, 97, 92, 34, 92, 110, 34] := by kernel_rfl
theorem c_srt2 : srtB [⟨#[98]⟩, ⟨#[97]⟩] = [⟨#[97]⟩, ⟨#[98]⟩] := by
 have h : srtL [[98], [97]] = [[97], [98]] := by
  unfold srtL
  simp [List.mergeSort, List.MergeSort.Internal.splitInTwo, List.merge]
  decide
 unfold srtB
 rw [show ([⟨#[98]⟩, ⟨#[97]⟩] : List ByteArray).map (·.data.toList) = [[98], [97]] from rfl, h]
 rfl
theorem c_srt1 : srtB [⟨#[120]⟩] = [⟨#[120]⟩] := by
 unfold srtB srtL
 simp
theorem c_srt0 : srtB [] = [] := by
 unfold srtB srtL
 simp
def rl3 : RuleS := ⟨⟨#[114]⟩, [⟨#[97]⟩, ⟨#[98]⟩], [⟨#[120]⟩], [], [⟨⟨#[120]⟩, 7, [⟨#[97]⟩], [⟨#[113, 10]⟩], 0⟩]⟩
theorem c_sortR : sortR rl2 = rl3 := by
 unfold sortR rl2 rl3
 simp only [c_srt2, c_srt1, c_srt0]
def t4 : List UInt8 := [114, 117, 108, 101, 32, 114, 32, 123, 10, 32, 32, 105, 110, 32, 97, 44, 32, 98, 59, 10, 32, 32, 111, 117, 116, 32, 120, 59, 10, 32, 32, 120, 32, 61, 32, 115, 101, 108, 101, 99, 116, 32, 34, 113, 92, 110, 34, 32, 97, 59, 10, 125, 10]
theorem c_srtL2 : srtL [[97], [98]] = [[97], [98]] := by
 unfold srtL
 simp [List.mergeSort, List.MergeSort.Internal.splitInTwo, List.merge]
 decide
theorem c_srtL1 : srtL [[120]] = [[120]] := by
 unfold srtL
 simp
theorem c_ruleTx : ruleTx rl3 = t4 := by
 unfold ruleTx upTx clauseTx
 rw [show rl3.ins.map (·.data.toList) = [[97], [98]] from rfl, show rl3.outs.map (·.data.toList) = [[120]] from rfl, c_srtL2, c_srtL1]
 kernel_rfl
theorem c_rulesTx : rulesTx [sortR rl2] = t4 := by
 unfold rulesTx
 rw [c_sortR]
 simp [c_ruleTx]
def st2 : StepS := ⟨⟨#[120]⟩, 7, [⟨#[97]⟩], [⟨#[113, 10]⟩], 0⟩
theorem c_stepTx : stepTx st2 = [120, 32, 61, 32, 115, 101, 108, 101, 99, 116, 32, 34, 113, 92, 110, 34, 32, 97, 59] := by kernel_rfl
theorem c_op : opNum [99, 111, 117, 110, 116] = 4 := by kernel_rfl
theorem c_opTx : opTx 4 = [99, 111, 117, 110, 116] := by kernel_rfl
end Go.Proofs.YtdhmeganlnpohaaGreatDoor
namespace Go.Proofs.YtdhmeganlnpohaaGreatDoor
open Go.RowKit Go.Shelf
set_option maxHeartbeats 2000000 in
theorem equalS_same (v1 v2 : Value) (xs : List ByteArray) (w : World) (h1 : IsStrs w v1 xs) (h2 : IsStrs w v2 xs) :
  Calls Tryz.prog 231 #[v1, v2] w fun e w' => e = .returned (.bool true) ∧ Below w.heap.size w w' := by
 obtain ⟨a1, c1, rfl, _, hm1, hc1⟩ := h1
 obtain ⟨a2, c2, rfl, _, hm2, hc2⟩ := h2
 have hlm : xs.length ≤ maxLen := by omega
 unfold maxLen at hlm
 have HC1 := Lib.hid hc1
 have HC2 := Lib.hid hc2
 clear hc1 hc2
 go_enter Tryz.func231, Tryz.ntmps231
 go_wp2
 go_loopw [13] (fun i wr => ∃ k : Nat, k ≤ xs.length ∧ i = .int .i64 k ∧ Below w.heap.size w wr)
  (fun i _ => xs.length - (intOf i).toNat)
 case atStart => exact ⟨0, Nat.zero_le _, rfl, Below.refl _ _⟩
 case round =>
  obtain ⟨k, hk, rfl, hnx⟩ := hrel
  have HNX := Lib.hid hnx
  clear hnx
  by_cases hlt : k < xs.length
  ·obtain ⟨x, hx⟩ : ∃ x, xs[k]? = some x := ⟨xs[k], List.getElem?_eq_getElem hlt⟩
   obtain ⟨b1, o1, q1, hb1, hk1⟩ := HC1.out (by rintro e; rw [e] at hlt; simp at hlt)
   obtain ⟨b2, o2, q2, hb2, hk2⟩ := HC2.out (by rintro e; rw [e] at hlt; simp at hlt)
   subst q1 q2
   have e1 : wr.cell? ⟨b1, o1 + k, none⟩ = some (.string x) := (HNX.out.cell (p := ⟨b1, o1 + k, none⟩) hb1).trans (hk1 k x hx)
   have e2 : wr.cell? ⟨b2, o2 + k, none⟩ = some (.string x) := (HNX.out.cell (p := ⟨b2, o2 + k, none⟩) hb2).trans (hk2 k x hx)
   have hi1 : (k : Int) < (xs.length : Int) := by omega
   have hi0 : (0 : Int) ≤ (k : Int) := by omega
   have hN : Hid (∀ n, Below w.heap.size w (wr.drewN n)) := by show ∀ n, _; exact fun n => below_drewN HNX.out n
   clear hk1 hk2 hx
   go_wp2_with fail
   go_quiet (fail)
   all_goals go_wp2
   all_goals go_roundw
   case rel => exact ⟨k + 1, by omega, by go_num, hN.out _⟩
   case measure => simp [intOf]; omega
  ·have hi1 : ¬ (k : Int) < (xs.length : Int) := by omega
   go_wp2
   go_ret
   exact ⟨rfl, HNX.out⟩
set_option maxHeartbeats 4000000 in
set_option maxRecDepth 100000 in
theorem sameStep_same (x : StepS) (a1 a2 a3 a4 : Option Addr) (n1 c1 n2 c2 n3 c3 n4 c4 : Nat) (w : World) (h1 : IsStrs w (.slice a1 n1 c1) x.args) (h2 : IsStrs w (.slice a2 n2 c2) x.lits) (h3 : IsStrs w (.slice a3 n3 c3) x.args) (h4 : IsStrs w (.slice a4 n4 c4) x.lits) :
  Calls Tryz.prog 233 #[.agg #[.string x.out, .int .i64 x.op, .slice a1 n1 c1, .slice a2 n2 c2, .int .i64 x.n], .agg #[.string x.out, .int .i64 x.op, .slice a3 n3 c3, .slice a4 n4 c4, .int .i64 x.n]] w fun e w' => e = .returned (.bool true) ∧ Below w.heap.size w w' := by
 have cA := fun w' (hb : Below w.heap.size w w') => equalS_same (.slice a1 n1 c1) (.slice a3 n3 c3) x.args w' (h1.below hb) (h3.below hb)
 have cL := fun w' (hb : Below w.heap.size w w') => equalS_same (.slice a2 n2 c2) (.slice a4 n4 c4) x.lits w' (h2.below hb) (h4.below hb)
 obtain ⟨o1, ho1⟩ : ∃ o : Obj, o = .cells #[.string x.out, .int .i64 x.op, .slice a1 n1 c1, .slice a2 n2 c2, .int .i64 x.n] 24 := ⟨_, rfl⟩
 obtain ⟨o2, ho2⟩ : ∃ o : Obj, o = .cells #[.string x.out, .int .i64 x.op, .slice a3 n3 c3, .slice a4 n4 c4, .int .i64 x.n] 24 := ⟨_, rfl⟩
 have hb0 : Below w.heap.size w ((w.alloc o1).alloc o2) := ((Below.refl _ _).alloc (Nat.le_refl _) _).alloc (by simp) _
 have hs0 : ((w.alloc o1).alloc o2).heap.size = w.heap.size + 2 := by simp
 have hx1 : ((w.alloc o1).alloc o2).heap[w.heap.size]? = some o1 := by rw [Below.heap_alloc _ _ _ (by simp)]; exact alloc_at w o1
 have hx2 : ((w.alloc o1).alloc o2).heap[w.heap.size + 1]? = some o2 := by
  have := alloc_at (w.alloc o1) o2
  simpa using this
 have HX1 : Hid (∀ W, Below (w.heap.size + 2) ((w.alloc o1).alloc o2) W → W.heap[w.heap.size]? = some o1) := by show ∀ W, _; exact fun W h => (h.block _ (by omega)).trans hx1
 have HX2 : Hid (∀ W, Below (w.heap.size + 2) ((w.alloc o1).alloc o2) W → W.heap[w.heap.size + 1]? = some o2) := by show ∀ W, _; exact fun W h => (h.block _ (by omega)).trans hx2
 have HUP : Hid (∀ W, Below (w.heap.size + 2) ((w.alloc o1).alloc o2) W → Below w.heap.size w W) := by show ∀ W, _; exact fun W h => hb0.trans (h.mono (by omega))
 have HS0 := Lib.hid hs0
 have HB0 := Lib.hid hb0
 have CA := Lib.hid cA
 have CL := Lib.hid cL
 clear cA cL hb0 h1 h2 h3 h4 hx1 hx2 hs0
 subst ho1 ho2
 go_enter Tryz.func233, Tryz.ntmps233
 go_wp2_with fail
 refine (CA.out _ HB0.out).mono ?_
 rintro e w2 ⟨rfl, hb2⟩
 rw [HS0.out] at hb2
 obtain ⟨d0, d1, d2, d3, d4, _⟩ := cells5 (HX1.out _ hb2)
 obtain ⟨e0, e1, e2, e3, e4, _⟩ := cells5 (HX2.out _ hb2)
 have HB2 := Lib.hid (HUP.out _ hb2)
 clear hb2
 go_wp2_with fail
 refine (CL.out _ HB2.out).mono ?_
 rintro e w3 ⟨rfl, hb3⟩
 have HB3 := Lib.hid (HB2.out.trans (hb3.mono HB2.out.size))
 clear hb3
 go_wp2
 go_ret
 exact ⟨rfl, HB3.out⟩
set_option maxHeartbeats 4000000 in
set_option maxRecDepth 100000 in
theorem equalSteps_same (v1 v2 : Value) (xs : List StepS) (Av : Nat → Prop) (w : World) (h1 : StepsA Av w v1 xs) (h2 : StepsA Av w v2 xs) :
  Calls Tryz.prog 232 #[v1, v2, .func (.func 233) #[] #[]] w fun e w' => e = .returned (.bool true) ∧ Below w.heap.size w w' := by
 obtain ⟨a1, c1, q1, _, hm1⟩ := stepsA_len h1
 obtain ⟨a2, c2, q2, _, hm2⟩ := stepsA_len h2
 subst q1 q2
 have hlm : xs.length ≤ maxLen := by omega
 unfold maxLen at hlm
 have H1 := Lib.hid h1
 have H2 := Lib.hid h2
 clear h1 h2
 go_enter Tryz.func232, Tryz.ntmps232
 go_wp2
 go_loopw [17] (fun i wr => ∃ k : Nat, k ≤ xs.length ∧ i = .int .i64 k ∧ Below w.heap.size w wr)
  (fun i _ => xs.length - (intOf i).toNat)
 case atStart => exact ⟨0, Nat.zero_le _, rfl, Below.refl _ _⟩
 case round =>
  obtain ⟨k, hk, rfl, hnx⟩ := hrel
  have hsz := hnx.size
  have HNX := Lib.hid hnx
  clear hnx
  by_cases hlt : k < xs.length
  ·obtain ⟨x, hx⟩ : ∃ x, xs[k]? = some x := ⟨xs[k], List.getElem?_eq_getElem hlt⟩
   obtain ⟨b1, o1, p1, a1, n1, c1, a2, n2, c2, q1, hb1, hA1, hL1, hk1⟩ := steps_at H1.out hx
   obtain ⟨b2, o2, p2, a3, n3, c3, a4, n4, c4, q2, hb2, hA2, hL2, hk2⟩ := steps_at H2.out hx
   cases q1
   cases q2
   obtain ⟨d0, d1, d2, d3, d4⟩ := hk1 _ HNX.out
   obtain ⟨e0, e1, e2, e3, e4⟩ := hk2 (wr.alloc (.cells #[.string x.out, .int .i64 x.op, .slice a1 n1 c1, .slice a2 n2 c2, .int .i64 x.n] 24)) (HNX.out.alloc hsz _)
   have HK2 := Lib.hid hk2
   have hi1 : (k : Int) < (xs.length : Int) := by omega
   have hi0 : (0 : Int) ≤ (k : Int) := by omega
   have HC : Hid (∀ w', Below w.heap.size w w' → Calls Tryz.prog 233 #[.agg #[.string x.out, .int .i64 x.op, .slice a1 n1 c1, .slice a2 n2 c2, .int .i64 x.n], .agg #[.string x.out, .int .i64 x.op, .slice a3 n3 c3, .slice a4 n4 c4, .int .i64 x.n]] w' fun e w'' => e = .returned (.bool true) ∧ Below w'.heap.size w' w'') := by
    show ∀ w', _
    exact fun w' hb => sameStep_same x a1 a2 a3 a4 n1 c1 n2 c2 n3 c3 n4 c4 w' (hA1.isStrs.below hb) (hL1.isStrs.below hb) (hA2.isStrs.below hb) (hL2.isStrs.below hb)
   have HN2 : Hid (∀ o1 o2, Below w.heap.size w ((wr.alloc o1).alloc o2)) := by show ∀ o1 o2, _; exact fun o1 o2 => (HNX.out.alloc hsz _).alloc (by simp; omega) _
   clear hk1 hk2 hx hA1 hL1 hA2 hL2
   go_wp2_with fail
   refine (HC.out _ (HN2.out _ _)).mono ?_
   rintro e w2 ⟨rfl, hb2⟩
   have HN3 := Lib.hid ((HN2.out _ _).trans (hb2.mono (by simp; omega)))
   clear hb2 d0 d1 d2 d3 d4 e0 e1 e2 e3 e4
   go_wp2
   go_roundw
   case rel => exact ⟨k + 1, by omega, by go_num, HN3.out⟩
   case measure => simp [intOf]; omega
  ·have hi1 : ¬ (k : Int) < (xs.length : Int) := by omega
   go_wp2
   go_ret
   exact ⟨rfl, HNX.out⟩
set_option maxHeartbeats 4000000 in
set_option maxRecDepth 100000 in
theorem sameRule_same (x : RuleS) (a1 a2 a3 a4 d1 d2 d3 d4 : Option Addr) (n1 c1 n2 c2 n3 c3 n4 c4 m1 e1 m2 e2 m3 e3 m4 e4 : Nat) (Av : Nat → Prop) (w : World)
  (h1 : RuleA Av w [.string x.name, .slice a1 n1 c1, .slice a2 n2 c2, .slice a3 n3 c3, .slice a4 n4 c4] x) (h2 : RuleA Av w [.string x.name, .slice d1 m1 e1, .slice d2 m2 e2, .slice d3 m3 e3, .slice d4 m4 e4] x) :
  Calls Tryz.prog 175 #[.agg #[.string x.name, .slice a1 n1 c1, .slice a2 n2 c2, .slice a3 n3 c3, .slice a4 n4 c4], .agg #[.string x.name, .slice d1 m1 e1, .slice d2 m2 e2, .slice d3 m3 e3, .slice d4 m4 e4]] w fun e w' => e = .returned (.bool true) ∧ Below w.heap.size w w' := by
 obtain ⟨_, _, _, _, q1, i1, i2, i3, i4⟩ := h1
 obtain ⟨_, _, _, _, q2, j1, j2, j3, j4⟩ := h2
 cases q1
 cases q2
 have k1 := fun w' (hb : Below w.heap.size w w') => equalS_same (.slice a1 n1 c1) (.slice d1 m1 e1) x.ins w' (i1.isStrs.below hb) (j1.isStrs.below hb)
 have k2 := fun w' (hb : Below w.heap.size w w') => equalS_same (.slice a2 n2 c2) (.slice d2 m2 e2) x.outs w' (i2.isStrs.below hb) (j2.isStrs.below hb)
 have k3 := fun w' (hb : Below w.heap.size w w') => equalS_same (.slice a3 n3 c3) (.slice d3 m3 e3) x.after w' (i3.isStrs.below hb) (j3.isStrs.below hb)
 have k4 := fun w' (hb : Below w.heap.size w w') => equalSteps_same (.slice a4 n4 c4) (.slice d4 m4 e4) x.steps Av w' (i4.keep (fr_below hb)) (j4.keep (fr_below hb))
 obtain ⟨o1, ho1⟩ : ∃ o : Obj, o = .cells #[.string x.name, .slice a1 n1 c1, .slice a2 n2 c2, .slice a3 n3 c3, .slice a4 n4 c4] 45 := ⟨_, rfl⟩
 obtain ⟨o2, ho2⟩ : ∃ o : Obj, o = .cells #[.string x.name, .slice d1 m1 e1, .slice d2 m2 e2, .slice d3 m3 e3, .slice d4 m4 e4] 45 := ⟨_, rfl⟩
 have hb0 : Below w.heap.size w ((w.alloc o1).alloc o2) := ((Below.refl _ _).alloc (Nat.le_refl _) _).alloc (by simp) _
 have hs0 : ((w.alloc o1).alloc o2).heap.size = w.heap.size + 2 := by simp
 have hx1 : ((w.alloc o1).alloc o2).heap[w.heap.size]? = some o1 := by rw [Below.heap_alloc _ _ _ (by simp)]; exact alloc_at w o1
 have hx2 : ((w.alloc o1).alloc o2).heap[w.heap.size + 1]? = some o2 := by
  have := alloc_at (w.alloc o1) o2
  simpa using this
 have HX1 : Hid (∀ W, Below (w.heap.size + 2) ((w.alloc o1).alloc o2) W → W.heap[w.heap.size]? = some o1) := by show ∀ W, _; exact fun W h => (h.block _ (by omega)).trans hx1
 have HX2 : Hid (∀ W, Below (w.heap.size + 2) ((w.alloc o1).alloc o2) W → W.heap[w.heap.size + 1]? = some o2) := by show ∀ W, _; exact fun W h => (h.block _ (by omega)).trans hx2
 have HUP : Hid (∀ W, Below (w.heap.size + 2) ((w.alloc o1).alloc o2) W → Below w.heap.size w W) := by show ∀ W, _; exact fun W h => hb0.trans (h.mono (by omega))
 have HS0 := Lib.hid hs0
 have HB0 := Lib.hid hb0
 have K1 := Lib.hid k1; have K2 := Lib.hid k2; have K3 := Lib.hid k3; have K4 := Lib.hid k4
 clear k1 k2 k3 k4 hb0 i1 i2 i3 i4 j1 j2 j3 j4 hx1 hx2 hs0
 subst ho1 ho2
 go_enter Tryz.func175, Tryz.ntmps175
 go_wp2_with fail
 refine (K1.out _ HB0.out).mono ?_
 rintro e w2 ⟨rfl, hb2⟩
 rw [HS0.out] at hb2
 obtain ⟨d0, d1, d2, d3, d4, _⟩ := cells5 (HX1.out _ hb2)
 obtain ⟨e0, e1, e2, e3, e4, _⟩ := cells5 (HX2.out _ hb2)
 have HW2 := Lib.hid hb2
 have hs2 := hb2.size
 rw [HS0.out] at hs2
 clear hb2
 go_wp2_with fail
 refine (K2.out _ (HUP.out _ HW2.out)).mono ?_
 rintro e w3 ⟨rfl, hb3⟩
 replace hb3 := HW2.out.trans (hb3.mono hs2)
 clear d0 d1 d2 d3 d4 e0 e1 e2 e3 e4 hs2
 obtain ⟨d0, d1, d2, d3, d4, _⟩ := cells5 (HX1.out _ hb3)
 obtain ⟨e0, e1, e2, e3, e4, _⟩ := cells5 (HX2.out _ hb3)
 have HW3 := Lib.hid hb3
 have hs3 := hb3.size
 rw [HS0.out] at hs3
 clear hb3
 go_wp2_with fail
 refine (K3.out _ (HUP.out _ HW3.out)).mono ?_
 rintro e w4 ⟨rfl, hb4⟩
 replace hb4 := HW3.out.trans (hb4.mono hs3)
 clear d0 d1 d2 d3 d4 e0 e1 e2 e3 e4 hs3
 obtain ⟨d0, d1, d2, d3, d4, _⟩ := cells5 (HX1.out _ hb4)
 obtain ⟨e0, e1, e2, e3, e4, _⟩ := cells5 (HX2.out _ hb4)
 have HW4 := Lib.hid (HUP.out _ hb4)
 clear hb4
 go_wp2_with fail
 refine (K4.out _ HW4.out).mono ?_
 rintro e w5 ⟨rfl, hb5⟩
 have HW5 := Lib.hid (HW4.out.trans (hb5.mono HW4.out.size))
 clear hb5
 go_wp2
 go_ret
 exact ⟨rfl, HW5.out⟩
set_option maxHeartbeats 4000000 in
set_option maxRecDepth 100000 in
theorem equalRules_same (v1 v2 : Value) (xs : List RuleS) (Av : Nat → Prop) (w : World) (h1 : RulesA Av w v1 xs) (h2 : RulesA Av w v2 xs) :
  Calls Tryz.prog 174 #[v1, v2, .func (.func 175) #[] #[]] w fun e w' => e = .returned (.bool true) ∧ Below w.heap.size w w' := by
 obtain ⟨a1, c1, q1, _, hm1⟩ := rulesA_len h1
 obtain ⟨a2, c2, q2, _, hm2⟩ := rulesA_len h2
 subst q1 q2
 have hlm : xs.length ≤ maxLen := by omega
 unfold maxLen at hlm
 have H1 := Lib.hid h1
 have H2 := Lib.hid h2
 clear h1 h2
 go_enter Tryz.func174, Tryz.ntmps174
 go_wp2
 go_loopw [17] (fun i wr => ∃ k : Nat, k ≤ xs.length ∧ i = .int .i64 k ∧ Below w.heap.size w wr)
  (fun i _ => xs.length - (intOf i).toNat)
 case atStart => exact ⟨0, Nat.zero_le _, rfl, Below.refl _ _⟩
 case round =>
  obtain ⟨k, hk, rfl, hnx⟩ := hrel
  have hsz := hnx.size
  have HNX := Lib.hid hnx
  clear hnx
  by_cases hlt : k < xs.length
  ·obtain ⟨x, hx⟩ : ∃ x, xs[k]? = some x := ⟨xs[k], List.getElem?_eq_getElem hlt⟩
   obtain ⟨b1, o1, p1, a1, n1, c1, a2, n2, c2, a3, n3, c3, a4, n4, c4, q1, hb1, hA1, hk1⟩ := rules_at H1.out hx
   obtain ⟨b2, o2, p2, g1, m1, r1, g2, m2, r2, g3, m3, r3, g4, m4, r4, q2, hb2, hA2, hk2⟩ := rules_at H2.out hx
   cases q1
   cases q2
   obtain ⟨d0, d1, d2, d3, d4⟩ := hk1 _ HNX.out
   obtain ⟨e0, e1, e2, e3, e4⟩ := hk2 (wr.alloc (.cells #[.string x.name, .slice a1 n1 c1, .slice a2 n2 c2, .slice a3 n3 c3, .slice a4 n4 c4] 45)) (HNX.out.alloc hsz _)
   have hi1 : (k : Int) < (xs.length : Int) := by omega
   have hi0 : (0 : Int) ≤ (k : Int) := by omega
   have HC : Hid (∀ w', Below w.heap.size w w' → Calls Tryz.prog 175 #[.agg #[.string x.name, .slice a1 n1 c1, .slice a2 n2 c2, .slice a3 n3 c3, .slice a4 n4 c4], .agg #[.string x.name, .slice g1 m1 r1, .slice g2 m2 r2, .slice g3 m3 r3, .slice g4 m4 r4]] w' fun e w'' => e = .returned (.bool true) ∧ Below w'.heap.size w' w'') := by
    show ∀ w', _
    exact fun w' hb => sameRule_same x a1 a2 a3 a4 g1 g2 g3 g4 n1 c1 n2 c2 n3 c3 n4 c4 m1 r1 m2 r2 m3 r3 m4 r4 Av w' (hA1.keep (fr_below hb)) (hA2.keep (fr_below hb))
   have HN2 : Hid (∀ o1 o2, Below w.heap.size w ((wr.alloc o1).alloc o2)) := by show ∀ o1 o2, _; exact fun o1 o2 => (HNX.out.alloc hsz _).alloc (by simp; omega) _
   clear hk1 hk2 hx hA1 hA2
   go_wp2_with fail
   refine (HC.out _ (HN2.out _ _)).mono ?_
   rintro e w2 ⟨rfl, hb2⟩
   have HN3 := Lib.hid ((HN2.out _ _).trans (hb2.mono (by simp; omega)))
   clear hb2 d0 d1 d2 d3 d4 e0 e1 e2 e3 e4
   go_wp2
   go_roundw
   case rel => exact ⟨k + 1, by omega, by go_num, HN3.out⟩
   case measure => simp [intOf]; omega
  ·have hi1 : ¬ (k : Int) < (xs.length : Int) := by omega
   go_wp2
   go_ret
   exact ⟨rfl, HNX.out⟩
theorem eq_same (v1 v2 : Value) (xs : List RuleS) (Av : Nat → Prop) (w : World) (h1 : RulesA Av w v1 xs) (h2 : RulesA Av w v2 xs) :
  Calls Tryz.prog 124 #[v1, v2] w fun e w' => e = .returned (.bool true) ∧ Below w.heap.size w w' := by
 have c := equalRules_same v1 v2 xs Av w h1 h2
 clear h1 h2
 go_enter Tryz.func124, Tryz.ntmps124
 go_wp2_with fail
 refine c.mono ?_
 rintro e w2 ⟨rfl, hb2⟩
 go_wp2
 go_ret
 exact ⟨rfl, hb2⟩
end Go.Proofs.YtdhmeganlnpohaaGreatDoor
