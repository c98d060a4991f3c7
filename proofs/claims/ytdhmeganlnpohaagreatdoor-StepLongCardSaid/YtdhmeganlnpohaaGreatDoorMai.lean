import Derived.Test.YtdhmeganlnpohaaGreatDoorMah
import Derived.Laws.Tables
import Derived.Laws.Rows
namespace Go.Proofs.YtdhmeganlnpohaaGreatDoor
open Go.RowKit Go.Shelf
theorem u8_is {c : UInt8} {n : Nat} (hn : n < 256) (h : (c.toNat : Int) = (n : Int)) : c = UInt8.ofNat n := by
 apply UInt8.toNat_inj.1
 rw [UInt8.toNat_ofNat']
 omega
theorem byte_first {s : ByteArray} (h : 0 < s.size) : ∃ r, s.data.toList = s[0] :: r := by
 obtain ⟨⟨l⟩⟩ := s
 match l, h with
 | a :: r, _ => exact ⟨r, rfl⟩
theorem first_alone {s : ByteArray} (h : s.size = 1) : s.data.toList = [s[0]] := by
 obtain ⟨⟨l⟩⟩ := s
 match l, h with
 | [a], _ => rfl
set_option maxHeartbeats 1000000 in
theorem element_any (s : ByteArray) (w : World) (hs : s.size ≤ maxLen) (hp : 0 < s.size) :
  Calls Tryz.prog 268 #[.string s] w fun e w' => ElemE s e ∧ w = w' := by
 have hs' := hs
 unfold maxLen at hs
 obtain ⟨r, hr⟩ := byte_first hp
 have HR := Lib.hid hr
 clear hr
 obtain ⟨c, hc⟩ : ∃ c, s[0] = c := ⟨_, rfl⟩
 have HC := Lib.hid hc
 obtain ⟨q, hq⟩ : ∃ q, plainB c = q := ⟨_, rfl⟩
 have HQ := Lib.hid hq
 have cP := fun w => isPlain_any c w
 simp only [hq] at cP
 have CP := Lib.hid cP
 clear hq cP
 go_enter Tryz.func268, Tryz.ntmps268
 go_wp2_with fail
 refine (CP.out _).mono ?_
 rintro e w2 ⟨rfl, rfl⟩
 cases q
 ·by_cases h92 : (c.toNat : Int) = 92
  ·have H92 := Lib.hid h92
   have h92b : ((c.toNat : Int) == 92) = true := by simpa using h92
   clear h92
   by_cases h2 : (s.size : Int) < 2
   ·go_wp2
    all_goals go_ret3
    all_goals exact ⟨elemE_bad (by rw [first_alone (by omega), HC.out]; exact elem_alone HQ.out) 0 rfl, rfl⟩
   ·have h1 : 1 < s.size := by omega
    obtain ⟨d, hd⟩ : ∃ d, s[1] = d := ⟨_, rfl⟩
    have HD := Lib.hid hd
    have HC92 := Lib.hid (HC.out.trans (u8_is (n := 92) (by omega) H92.out))
    by_cases h110 : (d.toNat : Int) = 110
    ·go_wp2
     all_goals go_ret3
     all_goals exact ⟨elemE_good (c := 10) (n := 2) (elem_two (by omega) HC92.out (HD.out.trans (u8_is (n := 110) (by omega) h110)) rfl) rfl, rfl⟩
    ·by_cases h116 : (d.toNat : Int) = 116
     ·go_wp2
      all_goals go_ret3
      all_goals exact ⟨elemE_good (c := 9) (n := 2) (elem_two (by omega) HC92.out (HD.out.trans (u8_is (n := 116) (by omega) h116)) rfl) rfl, rfl⟩
     ·by_cases hd92 : (d.toNat : Int) = 92
      ·go_wp2
       all_goals go_ret3
       all_goals exact ⟨elemE_good (c := 92) (n := 2) (elem_two (by omega) HC92.out (HD.out.trans (u8_is (n := 92) (by omega) hd92)) rfl) (by first | rfl | (rw [u8_is (n := 92) (by omega) hd92]; rfl)), rfl⟩
      ·by_cases hd34 : (d.toNat : Int) = 34
       ·go_wp2
        all_goals go_ret3
        all_goals exact ⟨elemE_good (c := 34) (n := 2) (elem_two (by omega) HC92.out (HD.out.trans (u8_is (n := 34) (by omega) hd34)) rfl) (by first | rfl | (rw [u8_is (n := 34) (by omega) hd34]; rfl)), rfl⟩
       ·by_cases h120 : (d.toNat : Int) = 120
        ·have HX := Lib.hid (elem_hex (by omega) HC92.out (HD.out.trans (u8_is (n := 120) (by omega) h120)))
         go_wp2_with fail
         refine (hexByte_any _ _ ?_).mono ?_
         ·rw [ByteArray.size_extract]; unfold maxLen; omega
         rintro e w3 ⟨rfl, rfl⟩
         go_wp2
         all_goals go_ret3
         all_goals (
          refine ⟨?_, rfl⟩
          have hx := HX.out
          cases hb : (hexS (s.extract 2 s.size)).2 with
          | true =>
           rw [hb, if_pos rfl] at hx
           exact elemE_good hx (by rw [← hb]; rfl)
          | false =>
           rw [hb, if_neg (by decide)] at hx
           exact elemE_bad hx 4 (by rw [← hb, show (0 : Int) = ((hexS (s.extract 2 s.size)).1.toNat : Int) by rw [hexS_bad hb]; rfl]; rfl))
        ·have n1 : s[1] ≠ 110 := fun e => h110 (by rw [← HD.out, e]; rfl)
         have n2 : s[1] ≠ 116 := fun e => h116 (by rw [← HD.out, e]; rfl)
         have n3 : s[1] ≠ 92 := fun e => hd92 (by rw [← HD.out, e]; rfl)
         have n4 : s[1] ≠ 34 := fun e => hd34 (by rw [← HD.out, e]; rfl)
         have n5 : s[1] ≠ 120 := fun e => h120 (by rw [← HD.out, e]; rfl)
         have HN := Lib.hid (elem_else (by omega) HC92.out n1 n2 n3 n4 n5)
         clear n1 n2 n3 n4 n5
         go_wp2
         all_goals go_ret3
         all_goals exact ⟨elemE_bad HN.out 0 rfl, rfl⟩
  ·have h92b : ((c.toNat : Int) == 92) = false := by simpa using h92
   have H92 := Lib.hid h92
   clear h92
   go_wp2
   all_goals go_ret3
   all_goals exact ⟨elemE_bad (by rw [HR.out, HC.out]; exact elem_other HQ.out (fun e => H92.out (by rw [e]; rfl)) _) 0 rfl, rfl⟩
 ·go_wp2
  all_goals go_ret3
  all_goals exact ⟨elemE_good (n := 1) (by rw [HR.out, HC.out]; exact elem_one HQ.out _) rfl, rfl⟩
end Go.Proofs.YtdhmeganlnpohaaGreatDoor
namespace Go.Proofs.YtdhmeganlnpohaaGreatDoor
open Go.RowKit Go.Shelf
theorem lx_writeByte (B b : Nat) (l : List UInt8) (c : UInt8) (w : World) (h : Lib.IsBuilder 193 5 B b (Lib.byteCells l) w) (hlen : l.length + 1 ≤ 140737488355328) (hBw : B ≤ w.heap.size) :
  Calls Tryz.prog 169 #[.pointer (some ⟨b, 0, none⟩), .int .u8 c.toNat] w fun e w' => e = .returned .nilIface ∧ Lib.IsBuilder 193 5 B b (Lib.byteCells (l ++ [c])) w' ∧ Below B w w' := by
 refine (Any.Builder_WriteByte lLays_n167 lExtra B b (Lib.byteCells l) c.toNat w h (by simpa [Lib.byteCells] using hlen) hBw).mono ?_
 rintro e w' ⟨rfl, h1, h2⟩
 refine ⟨rfl, .inr ?_, h2⟩
 rw [show Lib.byteCells (l ++ [c]) = Lib.byteCells l ++ [Value.int .u8 c.toNat] from by simp [Lib.byteCells]]
 exact h1
theorem lx_builderString (B b : Nat) (l : List UInt8) (w : World) (h : Lib.IsBuilder 193 5 B b (Lib.byteCells l) w) (hBw : B ≤ w.heap.size) :
  Calls Tryz.prog 172 #[.pointer (some ⟨b, 0, none⟩)] w fun e w' => e = .returned (.string ⟨l.toArray⟩) ∧ Below B w w' :=
 Any.Builder_String_any lLays_n169 lExtra B b l w h hBw
def StrE (L : List UInt8) (p : Nat) (e : Ending) : Prop :=
 match strS (L.drop p) with
 | some (t, n) => e = .returned (.tuple #[.string ⟨t.toArray⟩, .int .i64 ((p + n : Nat) : Int), .bool true])
 | none => e = .returned (.tuple #[.string ⟨#[]⟩, .int .i64 0, .bool false])
theorem strE_bad {L : List UInt8} {p : Nat} {e : Ending} (h : strS (L.drop p) = none) (he : e = .returned (.tuple #[.string ⟨#[]⟩, .int .i64 0, .bool false])) : StrE L p e := by
 unfold StrE; rw [h]; exact he
theorem strE_good {L : List UInt8} {p : Nat} {e : Ending} {t : List UInt8} {n : Nat} (h : strS (L.drop p) = some (t, n)) (he : e = .returned (.tuple #[.string ⟨t.toArray⟩, .int .i64 ((p + n : Nat) : Int), .bool true])) : StrE L p e := by
 unfold StrE; rw [h]; exact he
theorem ext_drop (s : ByteArray) (k : Nat) : (s.extract k s.size).data.toList = s.data.toList.drop k := by
 rw [ByteArray.data_extract, Array.toList_extract, List.extract_eq_take_drop, List.take_of_length_le]
 rw [List.length_drop, ← Lib.size_eq]; omega
theorem ret_str3 {a a' : ByteArray} {b b' : Int} {c : Bool} (h : a = a') (h' : b = b') : Ending.returned (.tuple #[.string a, .int .i64 b, .bool c]) = .returned (.tuple #[.string a', .int .i64 b', .bool c]) := by rw [h, h']
set_option maxHeartbeats 2000000 in
theorem stringAt_any (s : ByteArray) (at' : Nat) (w : World) (hs : s.size ≤ 140737488351232) (ha : at' < s.size) :
  Calls Tryz.prog 212 #[.string s, .int .i64 at'] w fun e w' => StrE s.data.toList (at' + 1) e ∧ Below w.heap.size w w' := by
 obtain ⟨L, hL⟩ : ∃ L, s.data.toList = L := ⟨_, rfl⟩
 have hsz : s.size = L.length := by rw [← hL]; exact Lib.size_eq s
 rw [hL]
 obtain ⟨p, hp⟩ : ∃ p, at' + 1 = p := ⟨_, rfl⟩
 have hpi : (at' : Int) + 1 = (p : Int) := by omega
 have hpw : IntKind.i64.wrap ((at' : Int) + 1) = (p : Int) := by rw [hpi]; exact IntWalk.i64_in _ (by omega)
 rw [hp]
 have hps : p ≤ s.size := by omega
 have hB0 := Lib.fresh_isBuilder 193 5 w
 have HL := Lib.hid hL
 have HSZ := Lib.hid hsz
 clear hL hsz
 go_enter Tryz.func212, Tryz.ntmps212
 go_wp2
 go_loopw [1] (fun i wr => ∃ (k : Nat) (acc : List UInt8), p ≤ k ∧ k ≤ s.size ∧ i = .int .i64 k ∧ Lib.IsBuilder 193 5 w.heap.size w.heap.size (Lib.byteCells acc) wr ∧ Below w.heap.size w wr ∧ acc.length + p ≤ k ∧ (strS (L.drop k)).map (fun x => (acc ++ x.1, (k - p) + x.2)) = strS (L.drop p))
  (fun i _ => s.size - (intOf i).toNat)
 case atStart => exact ⟨p, [], Nat.le_refl _, hps, rfl, hB0, (Below.refl _ _).alloc (Nat.le_refl _) _, by simp, by simp⟩
 case round =>
  obtain ⟨k, acc, hpk, hk, rfl, hbu, hnx, hacc, hR⟩ := hrel
  have HR := Lib.hid hR
  have HBU := Lib.hid hbu
  have hszw := hnx.size
  clear hR hB0 hbu hpi hpw hp
  by_cases hlt : k < s.size
  ·have hlt' : k < L.length := by rw [← HSZ.out]; exact hlt
   have hget : L[k] = s[k] := by
    have := HL.out
    subst this
    rfl
   have HDR := Lib.hid (List.drop_eq_getElem_cons hlt')
   have HGET := Lib.hid hget
   clear hget
   have hne : ¬ ((k : Int) = (s.size : Int)) := by omega
   by_cases h34 : (s[k].toNat : Int) = 34
   ·have hx : L[k] = 34 := by rw [HGET.out]; exact u8_is (n := 34) (by omega) h34
    have hgood : strS (L.drop p) = some (acc, k - p + 1) := by rw [← HR.out, HDR.out, hx, strS_end]; simp
    have HGOOD := Lib.hid hgood
    have h34b : ((s[k].toNat : Int) != 34) = false := by simpa using h34
    clear hx hgood h34
    go_wp2_with fail
    refine (lx_builderString w.heap.size w.heap.size acc wr HBU.out hszw).mono ?_
    rintro e w2 ⟨rfl, hb2⟩
    go_wp2
    go_ret3
    exact ⟨strE_good HGOOD.out (ret_str3 rfl (by omega)), hnx.trans hb2⟩
   ·have hx : L[k] ≠ 34 := by rw [HGET.out]; intro e; exact h34 (by rw [e]; rfl)
    have HX := Lib.hid hx
    have h34b : ((s[k].toNat : Int) != 34) = true := by simpa using h34
    clear hx h34
    have cE := element_any (s.extract k s.size) wr (by rw [ByteArray.size_extract]; unfold maxLen; omega) (by rw [ByteArray.size_extract]; omega)
    unfold ElemE at cE
    rw [ext_drop, HL.out] at cE
    cases he : elemS (L.drop k) with
    | none =>
     rw [he] at cE
     simp only at cE
     have hbad : strS (L.drop p) = none := by rw [← HR.out]; rw [HDR.out] at he ⊢; rw [strS_bad HX.out he]; rfl
     have HBAD := Lib.hid hbad
     clear hbad he
     go_wp2_with fail
     refine cE.mono ?_
     rintro e w2 ⟨⟨n, rfl⟩, rfl⟩
     go_wp2
     go_ret3
     exact ⟨strE_bad HBAD.out rfl, hnx⟩
    | some x =>
     obtain ⟨c, n⟩ := x
     rw [he] at cE
     simp only at cE
     have hpos := elem_pos he
     rw [List.length_drop, ← HSZ.out] at hpos
     have hR2 : (strS (L.drop (k + n))).map (fun x => ((acc ++ [c]) ++ x.1, (k + n - p) + x.2)) = strS (L.drop p) := by
      rw [← HR.out]
      have hd : L.drop (k + n) = (L.drop k).drop n := by rw [List.drop_drop]
      rw [hd]
      rw [HDR.out] at he ⊢
      rw [strS_next HX.out he, Option.map_map]
      congr 1
      funext x
      simp only [Function.comp, List.append_assoc, List.cons_append, List.nil_append, Prod.mk.injEq, true_and]
      omega
     have HR2 := Lib.hid hR2
     clear hR2 he
     go_wp2_with fail
     refine cE.mono ?_
     rintro e w2 ⟨rfl, rfl⟩
     go_wp2_with fail
     refine (lx_writeByte w.heap.size w.heap.size acc c _ HBU.out (by omega) hszw).mono ?_
     rintro e w3 ⟨rfl, h3, hb3⟩
     have H3 := Lib.hid h3
     have hnx3 := hnx.trans hb3
     clear h3 hb3
     go_wp2
     go_roundw
     case rel => exact ⟨k + n, acc ++ [c], by omega, by omega, by go_num, H3.out, hnx3, by simp only [List.length_append, List.length_cons, List.length_nil]; omega, HR2.out⟩
     case measure => simp [intOf]; omega
  ·have hke : k = s.size := by omega
   have hbad : strS (L.drop p) = none := by rw [← HR.out, List.drop_eq_nil_of_le (by have := HSZ.out; omega), strS_nil]; rfl
   have HBAD := Lib.hid hbad
   clear hbad
   go_wp2
   go_ret3
   exact ⟨strE_bad HBAD.out rfl, hnx⟩
end Go.Proofs.YtdhmeganlnpohaaGreatDoor
namespace Go.Proofs.YtdhmeganlnpohaaGreatDoor
open Go.RowKit Go.Shelf
def WordE (L : List UInt8) (p : Nat) (e : Ending) : Prop :=
 match wordS (L.drop p) with
 | some (k, t, n) => e = .returned (.tuple #[.agg #[.int .i64 k, .int .i64 (p : Int), .string ⟨t.toArray⟩], .int .i64 ((p + n : Nat) : Int), .bool true])
 | none => ∃ a b c n, e = .returned (.tuple #[.agg #[.int .i64 a, .int .i64 b, .string c], .int .i64 n, .bool false])
theorem wordE_bad {L : List UInt8} {p : Nat} {e : Ending} (h : wordS (L.drop p) = none) (a b : Int) (c : ByteArray) (n : Int) (he : e = .returned (.tuple #[.agg #[.int .i64 a, .int .i64 b, .string c], .int .i64 n, .bool false])) : WordE L p e := by
 unfold WordE; rw [h]; exact ⟨a, b, c, n, he⟩
theorem wordE_good {L : List UInt8} {p : Nat} {e : Ending} {k : Int} {t : List UInt8} {n : Nat} (h : wordS (L.drop p) = some (k, t, n))
  (he : e = .returned (.tuple #[.agg #[.int .i64 k, .int .i64 (p : Int), .string ⟨t.toArray⟩], .int .i64 ((p + n : Nat) : Int), .bool true])) : WordE L p e := by
 unfold WordE; rw [h]; exact he
theorem heap_set {w : World} {g : Nat} {cur : Array Value} {t : TypeId} {fr : Nat × Nat} (i : Nat) (v : Value) (hg : w.heap[g]? = some (.cells cur t fr)) :
  (w.setCell ⟨g, i, none⟩ v).heap[g]? = some (.cells (cur.setIfInBounds i v) t fr) := by
 rw [setCell_eq_setRow w g i cur t fr v hg]
 exact setRow_heap w g cur _ t fr hg
theorem results_ctt {P : Program} {fn : Func} {p u v : Tmp} {ty : TypeId} (h : fn.results = #[.cell p ty, .tmp u, .tmp v]) (tmps : Array Value) (w : World) (g : Nat) (t : TypeId) (cs : Array Value) (fr : Nat × Nat) (d : TypeDesc)
  (hp : tmps.getD p undef = .pointer (some ⟨g, 0, none⟩)) (hg : w.heap[g]? = some (.cells cs t fr))
  (hu : P.underlying ty = some d) (hd : (match d with | .struct _ | .array _ _ => true | _ => false) = true) (hi : (P.info? ty).map (·.size) = some cs.size) :
  (results fn tmps).run P w = .ok (.tuple #[.agg cs, tmps.getD u undef, tmps.getD v undef]) w := by
 have hp' : tmps[p]?.getD undef = .pointer (some ⟨g, 0, none⟩) := by simpa using hp
 simp [results, h, hp', asAddr, run_loadVar_row w g t ty cs fr d hg hu hd hi]
theorem results_tc {P : Program} {fn : Func} {p u : Tmp} {ty : TypeId} (h : fn.results = #[.tmp u, .cell p ty]) (tmps : Array Value) (w : World) (g : Nat) (t : TypeId) (cs : Array Value) (fr : Nat × Nat) (d : TypeDesc)
  (hp : tmps.getD p undef = .pointer (some ⟨g, 0, none⟩)) (hg : w.heap[g]? = some (.cells cs t fr))
  (hu : P.underlying ty = some d) (hd : (match d with | .struct _ | .array _ _ => true | _ => false) = true) (hi : (P.info? ty).map (·.size) = some cs.size) :
  (results fn tmps).run P w = .ok (.tuple #[tmps.getD u undef, .agg cs]) w := by
 have hp' : tmps[p]?.getD undef = .pointer (some ⟨g, 0, none⟩) := by simpa using hp
 simp [results, h, hp', asAddr, run_loadVar_row w g t ty cs fr d hg hu hd hi]
theorem cells3 {w : World} {b : Nat} {x y z : Value} {T : TypeId} (h : w.heap[b]? = some (.cells #[x, y, z] T)) :
  w.cell? ⟨b, 0, none⟩ = some x ∧ w.cell? ⟨b, 1, none⟩ = some y ∧ w.cell? ⟨b, 2, none⟩ = some z ∧ w.frozen? ⟨b, 0, none⟩ = false ∧ w.frozen? ⟨b, 1, none⟩ = false ∧ w.frozen? ⟨b, 2, none⟩ = false := by
 simp [World.cell?, World.frozen?, h]
theorem alloc_at (w : World) (o : Obj) : (w.alloc o).heap[w.heap.size]? = some o := by show (w.heap.push _)[w.heap.size]? = _; simp
theorem below_new {w w2 : World} {o : Obj} (h : Below (w.alloc o).heap.size (w.alloc o) w2) : Below w.heap.size w w2 :=
 ((Below.refl w.heap.size w).alloc (Nat.le_refl _) o).trans (h.mono (by simp))
theorem at_new {w w2 : World} {o : Obj} (h : Below (w.alloc o).heap.size (w.alloc o) w2) : w2.heap[w.heap.size]? = some o := by
 rw [h.block _ (by simp)]; exact alloc_at w o
theorem word_string {L : List UInt8} {p : Nat} (h : p < L.length) (hq : L[p] = 34) : wordS (L.drop p) = (strS (L.drop (p + 1))).map fun x => (2, x.1, x.2 + 1) := by
 rw [List.drop_eq_getElem_cons h, hq, wordS_cons, if_pos rfl]
theorem word_name {L : List UInt8} {p : Nat} (h : p < L.length) (hq : L[p] ≠ 34) (hn : nameB L[p] = true) : wordS (L.drop p) = some (1, (L.drop p).takeWhile nameB, runN nameB (L.drop p)) := by
 rw [List.drop_eq_getElem_cons h, wordS_cons, if_neg hq, if_pos hn]; rfl
theorem word_punct {L : List UInt8} {p : Nat} (h : p < L.length) (hq : L[p] ≠ 34) (hn : nameB L[p] = false) (hp : punctB L[p] = true) : wordS (L.drop p) = some (3, [L[p]], 1) := by
 rw [List.drop_eq_getElem_cons h, wordS_cons, if_neg hq, if_neg (by rw [hn]; decide), if_pos hp]
theorem word_none {L : List UInt8} {p : Nat} (h : p < L.length) (hq : L[p] ≠ 34) (hn : nameB L[p] = false) (hp : punctB L[p] = false) : wordS (L.drop p) = none := by
 rw [List.drop_eq_getElem_cons h, wordS_cons, if_neg hq, if_neg (by rw [hn]; decide), if_neg (by rw [hp]; decide)]
theorem ext_run (s : ByteArray) (p : Nat) : s.extract p (p + runN nameB (s.data.toList.drop p)) = ⟨((s.data.toList.drop p).takeWhile nameB).toArray⟩ := by
 apply ByteArray.ext
 apply Array.toList_inj.1
 rw [ByteArray.data_extract, Array.toList_extract, List.extract_eq_take_drop]
 simp only [runN, Nat.add_sub_cancel_left]
 exact (List.prefix_iff_eq_take.1 (List.takeWhile_prefix nameB)).symm
theorem ext_one (s : ByteArray) (p : Nat) (h : p < s.size) : s.extract p (p + 1) = ⟨[s[p]].toArray⟩ := by
 apply ByteArray.ext
 apply Array.toList_inj.1
 rw [ByteArray.data_extract, Array.toList_extract, List.extract_eq_take_drop, Nat.add_sub_cancel_left]
 have h' : p < s.data.toList.length := by rw [← Lib.size_eq]; exact h
 rw [List.drop_eq_getElem_cons h']
 rfl
set_option maxHeartbeats 2000000 in
theorem wordAt_any (s : ByteArray) (at' : Nat) (w : World) (hs : s.size ≤ 140737488351232) (ha : at' < s.size) :
  Calls Tryz.prog 165 #[.string s, .int .i64 at'] w fun e w' => WordE s.data.toList at' e ∧ Below w.heap.size w w' := by
 obtain ⟨L, hL⟩ : ∃ L, s.data.toList = L := ⟨_, rfl⟩
 have hsz : s.size = L.length := by rw [← hL]; exact Lib.size_eq s
 rw [hL]
 have hlt' : at' < L.length := by rw [← hsz]; exact ha
 have hget : L[at'] = s[at'] := by subst hL; rfl
 obtain ⟨c, hc⟩ : ∃ c, s[at'] = c := ⟨_, rfl⟩
 have HC := Lib.hid hc
 have HGET := Lib.hid (hget.trans hc)
 have HL := Lib.hid hL
 have HSZ := Lib.hid hsz
 clear hL hsz hget
 by_cases h34 : (c.toNat : Int) = 34
 ·have HW := Lib.hid (word_string hlt' (HGET.out.trans (u8_is (n := 34) (by omega) h34)))
  go_enter Tryz.func165, Tryz.ntmps165
  go_wp2_with fail
  refine (stringAt_any s at' _ hs ha).mono ?_
  rintro e w2 ⟨he, hb2⟩
  have hnx := below_new hb2
  have hbk := at_new hb2
  obtain ⟨c0, c1, c2, f0, f1, f2⟩ := cells3 hbk
  have HBK := Lib.hid hbk
  have HNX := Lib.hid hnx
  clear hbk hb2 hnx
  unfold StrE at he
  rw [HL.out] at he
  cases hS : strS (L.drop (at' + 1)) with
  | none =>
   rw [hS] at he
   simp only at he
   subst he
   have hW := HW.out
   rw [hS] at hW
   have HW2 := Lib.hid hW
   clear hW hS
   go_wp2
   refine bodyPost_ret (results_ctt rfl _ _ w.heap.size _ _ _ _ rfl (heap_set _ _ (heap_set _ _ (heap_set _ _ (heap_set _ _ HBK.out)))) Tryz.underlying152 rfl (by kernel_rfl)) rfl ?_
   exact ⟨wordE_bad HW2.out 2 at' ⟨#[]⟩ 0 rfl, (((HNX.out.setCell (Nat.le_refl _) _).setCell (Nat.le_refl _) _).setCell (Nat.le_refl _) _).setCell (Nat.le_refl _) _⟩
  | some x =>
   obtain ⟨t, n⟩ := x
   rw [hS] at he
   simp only at he
   subst he
   have hW := HW.out
   rw [hS] at hW
   have HW2 := Lib.hid hW
   clear hW hS
   go_wp2
   refine bodyPost_ret (results_ctt rfl _ _ w.heap.size _ _ _ _ rfl (heap_set _ _ (heap_set _ _ (heap_set _ _ (heap_set _ _ HBK.out)))) Tryz.underlying152 rfl (by kernel_rfl)) rfl ?_
   exact ⟨wordE_good HW2.out (by simp; omega), (((HNX.out.setCell (Nat.le_refl _) _).setCell (Nat.le_refl _) _).setCell (Nat.le_refl _) _).setCell (Nat.le_refl _) _⟩
 ·have h34b : ((c.toNat : Int) == 34) = false := by simpa using h34
  have hq : L[at'] ≠ 34 := by rw [HGET.out]; intro e; exact h34 (by rw [e]; rfl)
  have HQ := Lib.hid hq
  obtain ⟨q, hqn⟩ : ∃ q, nameB c = q := ⟨_, rfl⟩
  have cN := fun w => isName_any c w
  simp only [hqn] at cN
  have CN := Lib.hid cN
  have HQN := Lib.hid (show nameB L[at'] = q by rw [HGET.out]; exact hqn)
  clear hq hqn cN h34
  cases q
  ·obtain ⟨q, hqn⟩ : ∃ q, punctB c = q := ⟨_, rfl⟩
   have cP := fun w => isPunct_any c w
   simp only [hqn] at cP
   have CP := Lib.hid cP
   have HQP := Lib.hid (show punctB L[at'] = q by rw [HGET.out]; exact hqn)
   clear hqn cP
   cases q
   ·have HW := Lib.hid (word_none hlt' HQ.out HQN.out HQP.out)
    go_enter Tryz.func165, Tryz.ntmps165
    go_wp2_with fail
    refine (CN.out _).mono ?_
    rintro e w2 ⟨rfl, rfl⟩
    go_wp2_with fail
    refine (CP.out _).mono ?_
    rintro e w2 ⟨rfl, rfl⟩
    go_wp2
    refine bodyPost_ret (results_ctt rfl _ _ w.heap.size _ _ _ _ rfl (alloc_at w _) Tryz.underlying152 rfl (by kernel_rfl)) rfl ?_
    exact ⟨wordE_bad HW.out 0 0 ⟨#[]⟩ 0 rfl, (Below.refl _ _).alloc (Nat.le_refl _) _⟩
   ·have HW := Lib.hid (word_punct hlt' HQ.out HQN.out HQP.out)
    go_enter Tryz.func165, Tryz.ntmps165
    go_wp2_with fail
    refine (CN.out _).mono ?_
    rintro e w2 ⟨rfl, rfl⟩
    go_wp2_with fail
    refine (CP.out _).mono ?_
    rintro e w2 ⟨rfl, rfl⟩
    go_wp2_with fail
    go_region
    all_goals go_wp2
    all_goals refine bodyPost_ret (results_ctt rfl _ _ w.heap.size _ _ _ _ rfl (alloc_at w _) Tryz.underlying152 rfl (by kernel_rfl)) rfl ?_
    all_goals exact ⟨wordE_good HW.out (by rw [ext_one s at' ha, HGET.out, HC.out]; rfl), ((Below.refl _ _).alloc (Nat.le_refl _) _).drew⟩
  ·have HW := Lib.hid (word_name hlt' HQ.out HQN.out)
   obtain ⟨m, hm⟩ : ∃ m, runN nameB (L.drop at') = m := ⟨_, rfl⟩
   have hle := run_le nameB L at' (by omega)
   have cE := fun w => nameEnd_any s at' w (by unfold maxLen; omega) (by omega)
   rw [hm] at hle
   rw [← HSZ.out] at hle
   simp only [HL.out, hm] at cE
   have CE := Lib.hid cE
   have hx := ext_run s at'
   rw [HL.out, hm] at hx
   have HX := Lib.hid hx
   have HM := Lib.hid hm
   obtain ⟨en, hen⟩ : ∃ en, at' + m = en := ⟨_, rfl⟩
   have HEN := Lib.hid hen
   have hen1 : at' ≤ en := by omega
   have hen2 : en ≤ s.size := by omega
   clear cE hx hm hle
   rw [hen] at CE
   clear hen
   go_enter Tryz.func165, Tryz.ntmps165
   go_wp2_with fail
   refine (CN.out _).mono ?_
   rintro e w2 ⟨rfl, rfl⟩
   go_wp2_with fail
   refine (CE.out _).mono ?_
   rintro e w2 ⟨rfl, rfl⟩
   go_wp2_with fail
   go_region
   all_goals go_wp2
   all_goals refine bodyPost_ret (results_ctt rfl _ _ w.heap.size _ _ _ _ rfl (alloc_at w _) Tryz.underlying152 rfl (by kernel_rfl)) rfl ?_
   all_goals exact ⟨wordE_good HW.out (by rw [← HX.out, HM.out, HEN.out]; rfl), ((Below.refl _ _).alloc (Nat.le_refl _) _).drew⟩
end Go.Proofs.YtdhmeganlnpohaaGreatDoor
namespace Go.Proofs.YtdhmeganlnpohaaGreatDoor
open Go.RowKit Go.Shelf
def IsRow (w : World) (v : Value) (k : Nat) (rows : List (List Value)) : Prop :=
 ∃ a c, v = .slice a rows.length c ∧ rows.length ≤ c ∧ c ≤ maxLen ∧ (rows ≠ [] → ∃ b o, a = some ⟨b, o, none⟩ ∧ b < w.heap.size ∧ ∀ (j : Nat) r, rows[j]? = some r → ∀ (i : Nat) u, r[i]? = some u → w.cell? ⟨b, o + j * k + i, none⟩ = some u)
theorem flat_at (k : Nat) : ∀ (rows : List (List Value)), (∀ r ∈ rows, r.length = k) → ∀ (j : Nat) r, rows[j]? = some r → ∀ (i : Nat) u, r[i]? = some u → rows.flatten[j * k + i]? = some u
 | [], _, j, r, h, _, _, _ => by simp at h
 | r0 :: rows, hk, j, r, h, i, u, hi => by
  rw [List.flatten_cons]
  cases j with
  | zero =>
   simp only [List.getElem?_cons_zero, Option.some.injEq] at h
   subst h
   rw [Nat.zero_mul, Nat.zero_add, List.getElem?_append_left (List.getElem?_eq_some_iff.1 hi).1]
   exact hi
  | succ j =>
   simp only [List.getElem?_cons_succ] at h
   have h0 := hk r0 (by simp)
   rw [List.getElem?_append_right (by rw [h0, Nat.succ_mul]; omega), h0, show (j + 1) * k + i - k = j * k + i by rw [Nat.succ_mul]; omega]
   exact flat_at k rows (fun r hr => hk r (by simp [hr])) j r h i u hi
theorem row_own {w : World} {B k : Nat} {t : TypeId} {v : Value} {rows : List (List Value)} (h : w.ownsRow B t k v rows.length rows.flatten) (hk : ∀ r ∈ rows, r.length = k) : IsRow w v k rows := by
 rcases h with ⟨_, ⟨rfl, h0⟩ | ⟨g, cap, cur, rfl, hB, hb, hn, hm, hs, ht⟩⟩
 ·obtain rfl : rows = [] := List.eq_nil_of_length_eq_zero h0
  exact ⟨none, 0, rfl, by simp, by simp [maxLen], fun h => absurd rfl h⟩
 ·refine ⟨_, cap, rfl, hn, hm, fun _ => ⟨g, 0, rfl, ?_, fun j r hr i u hu => ?_⟩⟩
  ·rcases Nat.lt_or_ge g w.heap.size with h' | h'
   ·exact h'
   ·rw [Array.getElem?_eq_none h'] at hb; cases hb
  ·have := flat_at k rows hk j r hr i u hu
   rw [← ht, List.getElem?_take] at this
   split at this
   ·simp only [World.cell?, hb, Nat.zero_add]
    simpa using this
   ·cases this
theorem IsRow.below {w w' : World} {v : Value} {k : Nat} {rows : List (List Value)} (h : IsRow w v k rows) (hb : Below w.heap.size w w') : IsRow w' v k rows := by
 obtain ⟨a, c, rfl, h1, h1m, h2⟩ := h
 refine ⟨a, c, rfl, h1, h1m, fun hne => ?_⟩
 obtain ⟨b, o, rfl, h3, h4⟩ := h2 hne
 exact ⟨b, o, rfl, Nat.lt_of_lt_of_le h3 hb.size, fun j r hr i u hu => (hb.cell h3).trans (h4 j r hr i u hu)⟩
abbrev WordT := Int × Nat × List UInt8
def wordRow (x : WordT) : List Value := [.int .i64 x.1, .int .i64 (x.2.1 : Int), .string ⟨x.2.2.toArray⟩]
def wordRows (ws : List WordT) : List (List Value) := ws.map wordRow
def IsWords (w : World) (v : Value) (ws : List WordT) : Prop := IsRow w v 3 (wordRows ws)
theorem wordRows_len (ws : List WordT) : ∀ r ∈ wordRows ws, r.length = 3 := by
 intro r hr
 obtain ⟨x, _, rfl⟩ := List.mem_map.1 hr
 rfl
theorem wordRows_append (a b : List WordT) : wordRows (a ++ b) = wordRows a ++ wordRows b := by simp [wordRows]
theorem wordRows_length (ws : List WordT) : (wordRows ws).length = ws.length := by simp [wordRows]
theorem info_word : (Tryz.prog.info? 152).map (fun i => (i.zero, i.size, i.bytes)) = some (some (.agg #[.int .i64 0, .int .i64 0, .string ByteArray.empty]), 3, 32) := by kernel_rfl
theorem info_of {p : Program} {t : TypeId} {z : Option Value} {s b : Nat} (h : (p.info? t).map (fun i => (i.zero, i.size, i.bytes)) = some (z, s, b)) : ∃ i, p.info? t = some i ∧ i.zero = z ∧ i.size = s ∧ i.bytes = b := by
 cases hi : p.info? t with
 | none => rw [hi] at h; cases h
 | some i => rw [hi] at h; injection h with h; injection h with h1 h; injection h with h2 h3; exact ⟨i, rfl, h1, h2, h3⟩
theorem skip_idem : ∀ (l : List UInt8) (b : Bool), skipN false (l.drop (skipN b l)) = 0
 | [], b => by simp [skip_nil]
 | c :: r, b => by
  have hf : skipN false ((c :: r).drop (skipN false (c :: r))) = 0 := by
   by_cases hb : blankB c = true
   ·rw [skip_blank r hb, List.drop_succ_cons]; exact skip_idem r false
   ·by_cases h35 : c = 35
    ·rw [skip_rem r h35, List.drop_succ_cons]; exact skip_idem r true
    ·have hb' : blankB c = false := by simpa using hb
     rw [skip_stop r hb' h35]; simpa using skip_stop r hb' h35
  cases b with
  | false => exact hf
  | true =>
   by_cases h10 : c = 10
   ·rw [skip_out r h10]; exact hf
   ·rw [skip_in r h10, List.drop_succ_cons]; exact skip_idem r true
theorem skip_le : ∀ (l : List UInt8) (b : Bool), skipN b l ≤ l.length
 | [], b => by simp [skip_nil]
 | c :: r, b => by
  have hf : skipN false (c :: r) ≤ (c :: r).length := by
   by_cases hb : blankB c = true
   ·rw [skip_blank r hb]; simpa using skip_le r false
   ·by_cases h35 : c = 35
    ·rw [skip_rem r h35]; simpa using skip_le r true
    ·rw [skip_stop r (by simpa using hb) h35]; simp
  cases b with
  | false => exact hf
  | true =>
   by_cases h10 : c = 10
   ·rw [skip_out r h10]; exact hf
   ·rw [skip_in r h10]; simpa using skip_le r true
theorem allF_succ (f a : Nat) (l : List UInt8) : allF (f + 1) a l = if l.drop (skipN false l) = [] then .ok [(4, a + skipN false l, [])] else
   match wordS (l.drop (skipN false l)) with
   | none => .error (a + skipN false l)
   | some (k, t, n) => match allF f (a + skipN false l + n) ((l.drop (skipN false l)).drop n) with
    | .error e => .error e
    | .ok ws => .ok ((k, a + skipN false l, t) :: ws) := rfl
theorem allF_skip (f a : Nat) (l : List UInt8) : allF f a l = allF f (a + skipN false l) (l.drop (skipN false l)) ∨ f = 0 := by
 cases f with
 | zero => exact .inr rfl
 | succ f =>
  refine .inl ?_
  rw [allF_succ, allF_succ, skip_idem]
  simp
def joinW (ws : List WordT) (r : Except Nat (List WordT)) : Except Nat (List WordT) :=
 match r with
 | .error e => .error e
 | .ok x => .ok (ws ++ x)
theorem joinW_nil (r : Except Nat (List WordT)) : joinW [] r = r := by cases r <;> rfl
theorem all_end {f k : Nat} {l : List UInt8} (h : l = []) : allF (f + 1) k l = .ok [(4, k, [])] := by
 subst h; rw [allF_succ]; simp [skip_nil]
theorem all_bad {f k : Nat} {l : List UInt8} (hl : l ≠ []) (h0 : skipN false l = 0) (h : wordS l = none) : allF (f + 1) k l = .error k := by
 rw [allF_succ, h0, List.drop_zero, if_neg hl, h]; rfl
theorem all_word {f k n : Nat} {l t : List UInt8} {kd : Int} (hl : l ≠ []) (h0 : skipN false l = 0) (h : wordS l = some (kd, t, n)) :
  allF (f + 1) k l = joinW [(kd, k, t)] (allF f (k + n) (l.drop n)) := by
 rw [allF_succ, h0, List.drop_zero, if_neg hl, h]
 simp only [Nat.add_zero]
 cases allF f (k + n) (l.drop n) <;> rfl
theorem joinW_join (a b : List WordT) (r : Except Nat (List WordT)) : joinW a (joinW b r) = joinW (a ++ b) r := by
 cases r <;> simp [joinW]
def AllE (L : List UInt8) (e : Ending) (w' : World) : Prop :=
 match allS L with
 | .ok ws => ∃ v, e = .returned (.tuple #[v, .agg #[.int .i64 0, .int .i64 0]]) ∧ IsWords w' v ws
 | .error p => e = .returned (.tuple #[.slice none 0 0, .agg #[.int .i64 1, .int .i64 (p : Int)]])
theorem allE_bad {L : List UInt8} {e : Ending} {w' : World} {p : Nat} (h : allS L = .error p) (he : e = .returned (.tuple #[.slice none 0 0, .agg #[.int .i64 1, .int .i64 (p : Int)]])) : AllE L e w' := by
 unfold AllE; rw [h]; exact he
theorem allE_good {L : List UInt8} {e : Ending} {w' : World} {ws : List WordT} {v : Value} (h : allS L = .ok ws) (he : e = .returned (.tuple #[v, .agg #[.int .i64 0, .int .i64 0]])) (hw : IsWords w' v ws) : AllE L e w' := by
 unfold AllE; rw [h]; exact ⟨v, he, hw⟩
end Go.Proofs.YtdhmeganlnpohaaGreatDoor
