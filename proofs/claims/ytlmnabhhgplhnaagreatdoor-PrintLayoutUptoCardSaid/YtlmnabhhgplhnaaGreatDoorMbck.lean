/- Plain facts: words and gaps laid one behind the other are read as these words; no program is spoken of. Plain facts: rules' words, one behind the other, are read as these rules; no program is spoken of. Plain facts: what is printed is read as what was printed; no program is spoken of. Plain facts: the reference's insertion gives the stably sorted rules; no program is spoken of. Plain facts: rules in another order, their lists in another order, other gaps; no program is spoken of. -/
import Derived.Lib.ItoaNum
import Derived.Test.YtlmnabhhgplhnaaGreatDoorMpln
import Derived.Test.YtlmnabhhgplhnaaGreatDoorMpri
import Derived.Test.YtlmnabhhgplhnaaGreatDoorMsrb
import Derived.Test.YtlmnabhhgplhnaaGreatDoorMsra
import Derived.Test.YtlmnabhhgplhnaaGreatDoorMprq
namespace Go.Proofs.YtlmnabhhgplhnaaGreatDoor

/-- A gap behind a whole word: blanks and remarks. -/
structure Gap1 (g : List UInt8) : Prop where
 all : skipN false g = g.length
 out : inRem false g = false
 first : ∃ c u, g = c :: u ∧ nameB c = false
/-- A piece of a text: a gap, or a word. -/
inductive Pc where
 | g (l : List UInt8)
 | t (k : Int) (x : List UInt8)
def tokT (k : Int) (x : List UInt8) : List UInt8 := if k = 2 then quoteS x else x
def pcT : Pc → List UInt8
 | .g l => l
 | .t k x => tokT k x
def spell : List Pc → List UInt8
 | [] => []
 | p :: r => pcT p ++ spell r
abbrev WB := Int × List UInt8
def wordsP : List Pc → List WB
 | [] => []
 | .g _ :: r => wordsP r
 | .t k x :: r => (k, x) :: wordsP r
def GoodT (k : Int) (x : List UInt8) : Prop := (k = 1 ∧ x ≠ [] ∧ ∀ c ∈ x, nameB c = true) ∨ k = 2 ∨ (k = 3 ∧ ∃ c, x = [c] ∧ punctB c = true)
def stopP : List Pc → Prop
 | [] => False
 | .g _ :: _ => True
 | .t k _ :: _ => k ≠ 1
def Fine : List Pc → Prop
 | [] => True
 | .g l :: r => Gap1 l ∧ Fine r
 | .t k x :: r => GoodT k x ∧ (k = 1 → stopP r) ∧ Fine r
theorem spell_append : ∀ a b, spell (a ++ b) = spell a ++ spell b
 | [], _ => rfl
 | p :: a, b => by simp only [List.cons_append, spell, spell_append a b, List.append_assoc]
theorem words_append : ∀ a b, wordsP (a ++ b) = wordsP a ++ wordsP b
 | [], _ => rfl
 | .g _ :: a, b => by simp only [List.cons_append, wordsP, words_append a b]
 | .t _ _ :: a, b => by simp only [List.cons_append, wordsP, words_append a b]
theorem stop_append : ∀ {a : List Pc} (b : List Pc), stopP a → stopP (a ++ b)
 | [], _, h => h.elim
 | .g _ :: _, _, _ => trivial
 | .t _ _ :: _, _, h => h
theorem Fine.append : ∀ {a b : List Pc}, Fine a → Fine b → Fine (a ++ b)
 | [], _, _, hb => hb
 | .g _ :: _, _, ha, hb => ⟨ha.1, Fine.append ha.2 hb⟩
 | .t _ _ :: _, b, ha, hb => ⟨ha.1, fun h => stop_append b (ha.2.1 h), Fine.append ha.2.2 hb⟩
theorem Fine.flat : ∀ {l : List (List Pc)}, (∀ a ∈ l, Fine a) → Fine l.flatten
 | [], _ => trivial
 | a :: l, h => (h a (by simp)).append (Fine.flat fun b hb => h b (by simp [hb]))
theorem spell_flat : ∀ l : List (List Pc), spell l.flatten = (l.map spell).flatten
 | [] => rfl
 | a :: l => by simp only [List.flatten_cons, List.map_cons, spell_append, spell_flat l]
theorem words_flat : ∀ l : List (List Pc), wordsP l.flatten = (l.map wordsP).flatten
 | [] => rfl
 | a :: l => by simp only [List.flatten_cons, List.map_cons, words_append, words_flat l]

theorem byte_fin : ∀ n : Fin 256, (nameB (UInt8.ofNat n.val) = true → UInt8.ofNat n.val ≠ 34 ∧ blankB (UInt8.ofNat n.val) = false ∧ UInt8.ofNat n.val ≠ 35) ∧
  (punctB (UInt8.ofNat n.val) = true → UInt8.ofNat n.val ≠ 34 ∧ blankB (UInt8.ofNat n.val) = false ∧ UInt8.ofNat n.val ≠ 35 ∧ nameB (UInt8.ofNat n.val) = false) := by decide +kernel
theorem byte_of (c : UInt8) : ∃ n : Fin 256, c = UInt8.ofNat n.val := ⟨⟨c.toNat, c.toNat_lt⟩, by simp⟩
theorem name_byte {c : UInt8} (h : nameB c = true) : c ≠ 34 ∧ blankB c = false ∧ c ≠ 35 := by
 obtain ⟨n, rfl⟩ := byte_of c
 exact (byte_fin n).1 h
theorem punct_byte {c : UInt8} (h : punctB c = true) : c ≠ 34 ∧ blankB c = false ∧ c ≠ 35 ∧ nameB c = false := by
 obtain ⟨n, rfl⟩ := byte_of c
 exact (byte_fin n).2 h

theorem good_first {k : Int} {x : List UInt8} (h : GoodT k x) : ∃ c u, tokT k x = c :: u ∧ blankB c = false ∧ c ≠ 35 ∧ (k ≠ 1 → nameB c = false) := by
 rcases h with ⟨rfl, h0, h1⟩ | rfl | ⟨rfl, c, rfl, h1⟩
 ·cases x with
  | nil => exact absurd rfl h0
  | cons c u =>
   obtain ⟨_, h3, h4⟩ := name_byte (h1 c (by simp))
   exact ⟨c, u, rfl, h3, h4, fun e => absurd rfl e⟩
 ·exact ⟨34, _, rfl, by decide, by decide, fun _ => by decide⟩
 ·obtain ⟨_, h3, h4, h5⟩ := punct_byte h1
  exact ⟨c, [], rfl, h3, h4, fun _ => h5⟩
theorem stop_first : ∀ {r : List Pc}, stopP r → Fine r → ∃ c u, spell r = c :: u ∧ nameB c = false
 | [], h, _ => h.elim
 | .g l :: r, _, hf => by
  obtain ⟨c, u, rfl, h⟩ := hf.1.first
  exact ⟨c, u ++ spell r, rfl, h⟩
 | .t k x :: r, hs, hf => by
  obtain ⟨c, u, e, _, _, h⟩ := good_first hf.1
  exact ⟨c, u ++ spell r, by simp only [spell, pcT, e, List.cons_append], h hs⟩
theorem takeWhile_full {p : UInt8 → Bool} : ∀ {l : List UInt8}, (∀ c ∈ l, p c = true) → l.takeWhile p = l
 | [], _ => rfl
 | c :: l, h => by rw [List.takeWhile_cons, if_pos (h c (by simp)), takeWhile_full fun d hd => h d (by simp [hd])]
theorem good_word {k : Int} {x : List UInt8} (h : GoodT k x) (R : List UInt8) (hR : k = 1 → ∃ c u, R = c :: u ∧ nameB c = false) : wordS (tokT k x ++ R) = some (k, x, (tokT k x).length) := by
 rcases h with ⟨rfl, h0, h1⟩ | rfl | ⟨rfl, c, rfl, h1⟩
 ·cases x with
  | nil => exact absurd rfl h0
  | cons c u =>
   have hc := h1 c (by simp)
   have ht : ((c :: u) ++ R).takeWhile nameB = c :: u := by rw [takeWhile_stop _ _ (.inr (hR rfl)), takeWhile_full h1]
   show wordS (c :: (u ++ R)) = _
   rw [wordS_cons, if_neg (name_byte hc).1, if_pos hc]
   rw [List.cons_append] at ht
   rw [ht]
   rfl
 ·exact quote_word x R
 ·obtain ⟨h2, _, _, h5⟩ := punct_byte h1
  show wordS (c :: R) = _
  rw [wordS_cons, if_neg h2, if_neg (by rw [h5]; decide), if_pos h1]
  rfl
theorem allA_gap1 {g : List UInt8} (h : Gap1 g) (a : Nat) (R : List UInt8) : allA a (g ++ R) = allA (a + g.length) R := by
 have h1 : skipN false (g ++ R) = g.length + skipN false R := by rw [skip_through false g R h.all, h.out]
 rw [allA_skip a, h1, allA_skip (a + g.length) R, ← List.drop_drop, List.drop_left, Nat.add_assoc]
/-- What is laid is what is read. -/
theorem lex_spell : ∀ (ps : List Pc), Fine ps → ∀ a, ∃ W, allA a (spell ps) = .ok W ∧ W.map (fun x => (x.1, x.2.2)) = wordsP ps ++ [(4, [])]
 | [], _, a => ⟨[(4, a + skipN false [], [])], allA_end (by simp [spell]), rfl⟩
 | .g l :: r, h, a => by
  obtain ⟨W, hW, hw⟩ := lex_spell r h.2 (a + l.length)
  exact ⟨W, (allA_gap1 h.1 a _).trans hW, hw⟩
 | .t k x :: r, h, a => by
  obtain ⟨c, u, e, h1, h2, _⟩ := good_first h.1
  have h0 : skipN false (tokT k x ++ spell r) = 0 := by rw [e, List.cons_append]; exact skip_stop _ h1 h2
  have hw := good_word h.1 (spell r) fun hk => stop_first (h.2.1 hk) h.2.2
  have hw' : wordS ((tokT k x ++ spell r).drop (skipN false (tokT k x ++ spell r))) = some (k, x, (tokT k x).length) := by rw [h0]; exact hw
  have ha := allA_word (a := a) hw'
  rw [h0, Nat.zero_add, List.drop_left] at ha
  obtain ⟨W, hW, hm⟩ := lex_spell r h.2.2 (a + 0 + (tokT k x).length)
  refine ⟨(k, a + 0, x) :: W, ?_, ?_⟩
  ·show allA a (tokT k x ++ spell r) = _
   rw [ha, hW]
   rfl
  ·simp only [List.map_cons, hm, wordsP, List.cons_append]

/-! ### Names and numbers as words -/
theorem cut_bytes (p : UInt8 → Bool) (d : UInt8) : ∀ s : List UInt8, (∀ l ∈ cutAt d s, ∀ c ∈ l, p c = true) → ∀ c ∈ s, p c = true ∨ c = d
 | [], _, c, hc => by simp at hc
 | x :: r, h, c, hc => by
  unfold cutAt at h
  by_cases hx : x = d
  ·rw [if_pos hx] at h
   rcases List.mem_cons.1 hc with rfl | hc
   ·exact .inr hx
   ·exact cut_bytes p d r (fun l hl => h l (by simp [hl])) c hc
  ·rw [if_neg hx] at h
   cases hcut : cutAt d r with
   | nil => exact absurd hcut (cutAt_ne d r)
   | cons q qs =>
    rw [hcut] at h
    rcases List.mem_cons.1 hc with rfl | hc
    ·exact .inl (h (c :: q) (by simp) c (by simp))
    ·refine cut_bytes p d r (fun l hl => ?_) c hc
     rw [hcut] at hl
     rcases List.mem_cons.1 hl with rfl | hl
     ·exact fun e he => h (x :: l) (by simp) e (by simp [he])
     ·exact fun e he => h l (by simp [hl]) e he
theorem ok_byte_fin : ∀ n : Fin 256, okByte (UInt8.ofNat n.val) = true → nameB (UInt8.ofNat n.val) = true := by decide +kernel
theorem okName_word {x : List UInt8} (h : okName x = true) : x ≠ [] ∧ ∀ c ∈ x, nameB c = true := by
 unfold okName at h
 simp only [Bool.and_eq_true] at h
 obtain ⟨_, hp⟩ := h
 have hp' := List.all_eq_true.1 hp
 refine ⟨?_, fun c hc => ?_⟩
 ·rintro rfl
  have := hp' [] (by simp [cutAt])
  simp [okPart] at this
 ·rcases cut_bytes okByte 47 x (fun l hl c hc => by
   have := hp' l hl
   unfold okPart at this
   simp only [Bool.and_eq_true] at this
   exact List.all_eq_true.1 this.2 c hc) c hc with h1 | rfl
  ·obtain ⟨n, rfl⟩ := byte_of c
   exact ok_byte_fin n h1
  ·decide
theorem okName_cl {x : List UInt8} (h : okName x = true) : isCl x = false := by
 unfold okName at h
 simp only [Bool.and_eq_true, Bool.not_eq_true'] at h
 exact h.1.2
def digF : Nat → Nat → List UInt8
 | 0, _ => []
 | f + 1, u => if u < 10 then [UInt8.ofNat (48 + u)] else digF f (u / 10) ++ [UInt8.ofNat (48 + u % 10)]
theorem digF_eq : ∀ (f u : Nat), u < 10 ^ (f + 1) → digF (f + 1) u = Lib.decDigits u
 | 0, u, h => by
  rw [Lib.decDigits]
  have h : u < 10 := by simpa using h
  rw [dif_pos h]
  unfold digF
  rw [if_pos h]
 | f + 1, u, h => by
  rw [Lib.decDigits]
  unfold digF
  by_cases h1 : u < 10
  ·rw [if_pos h1, dif_pos h1]
  ·rw [if_neg h1, dif_neg h1, digF_eq f (u / 10) (by rw [Nat.pow_succ] at h; omega)]
theorem num_fin : ∀ n : Fin 2001, (match Lib.atoiAll (digF 4 n.val) with | .ok v => v == (n.val : Int) | _ => false) = true ∧ digF 4 n.val ≠ [] ∧ (digF 4 n.val).all nameB = true := by decide +kernel
theorem num_word {n : Int} (h0 : 0 ≤ n) (h1 : n ≤ 2000) : Lib.itoa n ≠ [] ∧ (∀ c ∈ Lib.itoa n, nameB c = true) ∧ getNum (Lib.itoa n) 2000 = (n, true) := by
 obtain ⟨m, rfl⟩ : ∃ m : Nat, n = m := ⟨n.toNat, by omega⟩
 have hi : Lib.itoa (m : Int) = digF 4 m := by
  unfold Lib.itoa
  rw [if_neg (by omega), Int.toNat_natCast, digF_eq 3 m (by omega)]
 obtain ⟨f1, f2, f3⟩ := num_fin ⟨m, by omega⟩
 simp only at f1 f2 f3
 rw [← hi] at f1 f2 f3
 refine ⟨f2, List.all_eq_true.1 f3, ?_⟩
 unfold getNum
 split at f1
 ·rename_i v hv
  rw [hv]
  simp only [beq_iff_eq] at f1
  subst f1
  simp only
  rw [if_pos ⟨h1, by unfold numS; rw [Int.max_eq_left h0]⟩]
 ·cases f1
end Go.Proofs.YtlmnabhhgplhnaaGreatDoor
namespace Go.Proofs.YtlmnabhhgplhnaaGreatDoor

def Rd (W : List WordT) : Nat → List WB → Prop
 | _, [] => True
 | k, x :: r => k < W.length ∧ (wAt W k).1 = x.1 ∧ wTx W k = ⟨x.2.toArray⟩ ∧ Rd W (k + 1) r
theorem Rd.append {W : List WordT} : ∀ {k : Nat} {a b : List WB}, Rd W k (a ++ b) → Rd W k a ∧ Rd W (k + a.length) b
 | _, [], _, h => ⟨trivial, h⟩
 | k, x :: a, b, h => by
  obtain ⟨h1, h2, h3, h4⟩ := h
  obtain ⟨h5, h6⟩ := Rd.append h4
  refine ⟨⟨h1, h2, h3, h5⟩, ?_⟩
  rw [List.length_cons, Nat.add_comm a.length 1, ← Nat.add_assoc]
  exact h6
theorem rd_map : ∀ (B : List WB) (W : List WordT) (k : Nat), (W.drop k).map (fun x => (x.1, x.2.2)) = B → Rd W k B
 | [], _, _, _ => trivial
 | x :: B, W, k, h => by
  cases hd : W.drop k with
  | nil => rw [hd] at h; cases h
  | cons y ys =>
   rw [hd, List.map_cons] at h
   injection h with h1 h2
   have hk : k < W.length := by
    refine Nat.lt_of_not_le fun hle => ?_
    rw [List.drop_eq_nil_of_le hle] at hd
    cases hd
   rw [List.drop_eq_getElem_cons hk] at hd
   injection hd with hd1 hd2
   have hw : wAt W k = y := by
    unfold wAt
    rw [List.getD_eq_getElem?_getD, List.getElem?_eq_getElem hk, hd1]
    rfl
   refine ⟨hk, by rw [hw, ← h1], by unfold wTx; rw [hw, ← h1], rd_map B W (k + 1) (by rw [hd2]; exact h2)⟩

def nW (x : ByteArray) : WB := (1, x.data.toList)
def commaW : List ByteArray → List WB
 | [] => [(3, [59])]
 | y :: r => (3, [44]) :: nW y :: commaW r
def listW : List ByteArray → List WB
 | [] => [(3, [59])]
 | x :: r => nW x :: commaW r
def clauseW (key : List UInt8) (xs : List ByteArray) : List WB := if xs = [] then [] else (1, key) :: listW xs
def stepToksW (x : StepS) : List WB := [nW x.out, (3, [61]), (1, opTx x.op)] ++ (if x.op = 9 then [(1, Lib.itoa x.n)] else []) ++ x.lits.map (fun l => (2, l.data.toList)) ++ x.args.map nW
def stepW (x : StepS) : List WB := stepToksW x ++ [(3, [59])]
def ruleW (r : RuleS) : List WB := [(1, [114, 117, 108, 101]), nW r.name, (3, [123])] ++ clauseW [105, 110] r.ins ++ clauseW [111, 117, 116] r.outs ++ clauseW [97, 102, 116, 101, 114] r.after ++ (r.steps.map stepW).flatten ++ [(3, [125])]

structure OkS (x : StepS) : Prop where
 out : okName x.out.data.toList = true
 args : ∀ a ∈ x.args, okName a.data.toList = true
 form : ((x.op = 1 ∨ x.op = 2 ∨ x.op = 3 ∨ x.op = 4) ∧ x.args.length = 1 ∧ x.lits = [] ∧ x.n = 0) ∨ (x.op = 5 ∧ x.lits = [] ∧ x.n = 0) ∨ (x.op = 6 ∧ x.args = [] ∧ x.lits.length = 1 ∧ x.n = 0) ∨
  (x.op = 7 ∧ x.args.length = 1 ∧ x.lits.length = 1 ∧ x.n = 0) ∨ (x.op = 8 ∧ x.args.length = 1 ∧ x.lits.length = 2 ∧ x.n = 0) ∨ (x.op = 9 ∧ x.args.length = 1 ∧ x.lits = [] ∧ 0 ≤ x.n ∧ x.n ≤ 2000)
 small : ∀ l ∈ x.lits, l.size ≤ 100
structure OkRu (r : RuleS) : Prop where
 name : okName r.name.data.toList = true
 ins : ∀ a ∈ r.ins, okName a.data.toList = true
 outs : ∀ a ∈ r.outs, okName a.data.toList = true
 after : ∀ a ∈ r.after, okName a.data.toList = true
 some : r.outs ≠ []
 steps : ∀ y ∈ r.steps, OkS y

section
variable {W : List WordT} {k : Nat}
theorem bytes_self (x : ByteArray) : (⟨x.data.toList.toArray⟩ : ByteArray) = x := by simp
theorem rd_one {x : WB} {r : List WB} (h : Rd W k (x :: r)) : (wAt W k).1 = x.1 ∧ wTx W k = ⟨x.2.toArray⟩ ∧ Rd W (k + 1) r := ⟨h.2.1, h.2.2.1, h.2.2.2⟩
theorem name_rd {x : ByteArray} {r : List WB} (h : Rd W k (nW x :: r)) (hx : okName x.data.toList = true) : isNameP W (k, false) = true ∧ nameP W (k, false) = (x, (k + 1, false)) ∧ Rd W (k + 1) r := by
 obtain ⟨h1, h2, h3⟩ := rd_one h
 have h2 : wTx W k = x := h2.trans (bytes_self x)
 have hn : isNameP W (k, false) = true := by
  unfold isNameP
  simp only [h1, h2, nW, hx]
  rfl
 refine ⟨hn, ?_, h3⟩
 unfold nameP
 rw [take_yes rfl hn, h2]
theorem key_rd {key : List UInt8} {r : List WB} (h : Rd W k ((1, key) :: r)) : isKeyP W ⟨key.toArray⟩ (k, false) = true ∧ keyP W ⟨key.toArray⟩ (k, false) = (k + 1, false) ∧ Rd W (k + 1) r := by
 obtain ⟨h1, h2, h3⟩ := rd_one h
 have hn : isKeyP W ⟨key.toArray⟩ (k, false) = true := by
  unfold isKeyP
  simp only [h1, h2, BEq.rfl, Bool.and_self]
 refine ⟨hn, ?_, h3⟩
 unfold keyP
 rw [take_yes rfl hn]
theorem mark_rd {c : List UInt8} {r : List WB} (h : Rd W k ((3, c) :: r)) : isMarkP W ⟨c.toArray⟩ (k, false) = true ∧ markP W ⟨c.toArray⟩ (k, false) = (k + 1, false) ∧ Rd W (k + 1) r := by
 obtain ⟨h1, h2, h3⟩ := rd_one h
 have hn : isMarkP W ⟨c.toArray⟩ (k, false) = true := by
  unfold isMarkP
  simp only [h1, h2, BEq.rfl, Bool.and_self]
 refine ⟨hn, ?_, h3⟩
 unfold markP
 rw [take_yes rfl hn]
theorem text_rd {x : ByteArray} {r : List WB} (h : Rd W k ((2, x.data.toList) :: r)) : textP W (k, false) = (x, (k + 1, false)) ∧ Rd W (k + 1) r := by
 obtain ⟨h1, h2, h3⟩ := rd_one h
 have h2 : wTx W k = x := h2.trans (bytes_self x)
 refine ⟨?_, h3⟩
 unfold textP
 rw [take_yes rfl (by simp only [h1]; rfl), h2]
theorem not_mark {c d : List UInt8} {r : List WB} (h : Rd W k ((3, d) :: r)) (hcd : d ≠ c) : isMarkP W ⟨c.toArray⟩ (k, false) = false := by
 obtain ⟨h1, h2, h3⟩ := rd_one h
 unfold isMarkP
 simp only [h1, h2, ByteArray.toList_eq]
 simpa using hcd
theorem not_name {d : List UInt8} {r : List WB} (h : Rd W k ((3, d) :: r)) : isNameP W (k, false) = false := by
 obtain ⟨h1, h2, h3⟩ := rd_one h
 unfold isNameP
 simp only [h1]
 rfl
theorem not_key {key d : List UInt8} {r : List WB} (h : Rd W k ((1, d) :: r)) (hcd : d ≠ key) : isKeyP W ⟨key.toArray⟩ (k, false) = false := by
 obtain ⟨h1, h2, h3⟩ := rd_one h
 unfold isKeyP
 simp only [h1, h2, ByteArray.toList_eq]
 simpa using hcd
theorem not_key3 {key d : List UInt8} {r : List WB} (h : Rd W k ((3, d) :: r)) : isKeyP W ⟨key.toArray⟩ (k, false) = false := by
 obtain ⟨h1, h2, h3⟩ := rd_one h
 unfold isKeyP
 simp only [h1]
 rfl
theorem more_rd : ∀ (r : List ByteArray) (f : Nat) (acc : List ByteArray) (k : Nat), Rd W k (commaW r) → (∀ y ∈ r, okName y.data.toList = true) → r.length < f → moreF W f acc (k, false) = (acc ++ r, (k + 2 * r.length, false)) ∧ Rd W (k + 2 * r.length) [(3, [59])]
 | _, 0, _, _, _, _, hf => absurd hf (by omega)
 | [], f + 1, acc, k, h, _, _ => by
  refine ⟨?_, h⟩
  unfold moreF
  rw [if_neg (by rw [show cComma = ⟨([44] : List UInt8).toArray⟩ from rfl, not_mark h (by decide)]; simp)]
  simp
 | y :: r, f + 1, acc, k, h, hy, hf => by
  obtain ⟨m1, m2, m3⟩ := mark_rd h
  obtain ⟨n1, n2, n3⟩ := name_rd m3 (hy y (by simp))
  obtain ⟨q1, q2⟩ := more_rd r f (acc ++ [y]) (k + 1 + 1) n3 (fun z hz => hy z (by simp [hz])) (by simp at hf; omega)
  have e : k + 2 * (y :: r).length = k + 1 + 1 + 2 * r.length := by rw [List.length_cons]; omega
  rw [e]
  refine ⟨?_, q2⟩
  unfold moreF
  rw [show cComma = ⟨([44] : List UInt8).toArray⟩ from rfl, if_pos (by rw [m1]; rfl), m2, n2, q1]
  simp
theorem listW_len : ∀ (xs : List ByteArray), xs ≠ [] → (listW xs).length = 2 * xs.length
 | [], h => absurd rfl h
 | x :: r, _ => by
  have : ∀ r : List ByteArray, (commaW r).length = 2 * r.length + 1 := by
   intro r
   induction r with
   | nil => rfl
   | cons y r ih => simp only [commaW, List.length_cons, ih]; omega
  simp only [listW, List.length_cons, this]; omega
theorem clause_rd {key : List UInt8} {xs : List ByteArray} (h : Rd W k ((1, key) :: listW xs)) (h0 : xs ≠ []) (hx : ∀ y ∈ xs, okName y.data.toList = true) : clauseP W ⟨key.toArray⟩ (k, false) = (xs, (k + 2 * xs.length + 1, false)) := by
 cases xs with
 | nil => exact absurd rfl h0
 | cons x r =>
  obtain ⟨_, k2, k3⟩ := key_rd h
  obtain ⟨_, n2, n3⟩ := name_rd (r := commaW r) k3 (hx x (by simp))
  have hlt : r.length < W.length + 1 := by
   have : ∀ (r : List ByteArray) (k : Nat), Rd W k (commaW r) → k + 2 * r.length < W.length := by
    intro r
    induction r with
    | nil => intro k h; have := h.1; simp; omega
    | cons y r ih => intro k h; have := ih _ h.2.2.2.2.2.2; simp only [List.length_cons]; omega
   have := this r _ n3
   omega
  obtain ⟨q1, q2⟩ := more_rd r (W.length + 1) [x] _ n3 (fun z hz => hx z (by simp [hz])) hlt
  obtain ⟨_, m2, _⟩ := mark_rd q2
  unfold clauseP
  rw [k2, n2]
  simp only
  unfold moreP
  rw [q1, show cSemi = ⟨([59] : List UInt8).toArray⟩ from rfl, m2]
  simp only [List.length_cons, List.cons_append, List.nil_append, Prod.mk.injEq, and_true, true_and]
  omega
theorem clauseW_none {key : List UInt8} : clauseW key [] = [] := rfl
theorem clauseW_some {key : List UInt8} {xs : List ByteArray} (h : xs ≠ []) : clauseW key xs = (1, key) :: listW xs := if_neg h
theorem clauseW_len {key : List UInt8} {xs : List ByteArray} (h : xs ≠ []) : (clauseW key xs).length = 2 * xs.length + 1 := by rw [clauseW_some h, List.length_cons, listW_len xs h]
theorem opt_rd {key : List UInt8} {xs : List ByteArray} (h : Rd W k (clauseW key xs)) (hx : ∀ y ∈ xs, okName y.data.toList = true) (hn : xs = [] → isKeyP W ⟨key.toArray⟩ (k, false) = false) : optP W ⟨key.toArray⟩ (k, false) = (xs, (k + (clauseW key xs).length, false)) := by
 unfold optP
 by_cases h0 : xs = []
 ·rw [hn h0, h0]
  rfl
 ·rw [clauseW_some h0] at h
  rw [(key_rd h).1, if_pos rfl, clause_rd h h0 hx, clauseW_len h0]
  simp only [Prod.mk.injEq, and_true, true_and]
  omega
theorem names_rd : ∀ (r : List ByteArray) (f : Nat) (acc : List ByteArray) (k : Nat), Rd W k (r.map nW ++ [(3, [59])]) → (∀ y ∈ r, okName y.data.toList = true) → r.length < f → namesF W f acc (k, false) = (acc ++ r, (k + r.length, false)) ∧ Rd W (k + r.length) [(3, [59])]
 | _, 0, _, _, _, _, hf => absurd hf (by omega)
 | [], f + 1, acc, k, h, _, _ => by
  refine ⟨?_, h⟩
  unfold namesF
  rw [if_neg (by rw [not_name h]; simp)]
  simp
 | y :: r, f + 1, acc, k, h, hy, hf => by
  obtain ⟨n1, n2, n3⟩ := name_rd (r := r.map nW ++ [(3, [59])]) h (hy y (by simp))
  obtain ⟨q1, q2⟩ := names_rd r f (acc ++ [y]) (k + 1) n3 (fun z hz => hy z (by simp [hz])) (by simp at hf; omega)
  have e : k + (y :: r).length = k + 1 + r.length := by rw [List.length_cons]; omega
  rw [e]
  refine ⟨?_, q2⟩
  unfold namesF
  rw [if_pos (by rw [n1]; rfl), n2, q1]
  simp
theorem rd_len : ∀ (B : List WB) (k : Nat), Rd W k B → B ≠ [] → k + B.length ≤ W.length
 | [], _, _, h => absurd rfl h
 | [_], k, h, _ => by have := h.1; simp; omega
 | _ :: y :: B, k, h, _ => by have := rd_len (y :: B) (k + 1) h.2.2.2 (by simp); simp only [List.length_cons] at this ⊢; omega
theorem op_fin : ∀ n : Fin 10, opNum (opTx (n.val : Int)) = n.val := by decide +kernel
theorem op_rd {op : Int} {r : List WB} (h0 : 1 ≤ op) (h1 : op ≤ 9) (h : Rd W k ((1, opTx op) :: r)) : opP W (k, false) = (op, (k + 1, false)) ∧ Rd W (k + 1) r := by
 obtain ⟨g1, g2, g3⟩ := rd_one h
 refine ⟨?_, g3⟩
 obtain ⟨m, rfl⟩ : ∃ m : Nat, op = m := ⟨op.toNat, by omega⟩
 have hf := op_fin ⟨m, by omega⟩
 simp only at hf
 have ht : opNum (wTx W k).data.toList = m := by rw [g2]; simpa using hf
 unfold opP
 simp only [ht, g1]
 rw [take_yes rfl (by simp; omega)]
theorem num_rd {n : Int} {r : List WB} (h0 : 0 ≤ n) (h1 : n ≤ 2000) (h : Rd W k ((1, Lib.itoa n) :: r)) : numberP W (k, false) = (n, (k + 1, false)) ∧ Rd W (k + 1) r := by
 obtain ⟨g1, g2, g3⟩ := rd_one h
 refine ⟨?_, g3⟩
 have hn : numP W (k, false) = (n, true) := by
  unfold numP
  simp only [g2]
  have := (num_word h0 h1).2.2
  simpa using this
 unfold numberP
 rw [hn, take_yes rfl (by simp only [g1]; rfl)]
theorem semi_rd {r : List WB} (h : Rd W k ((3, [59]) :: r)) : markP W cSemi (k, false) = (k + 1, false) := (mark_rd h).2.1
theorem len_two {α : Type} : ∀ {l : List α}, l.length = 2 → ∃ a b, l = [a, b]
 | [a, b], _ => ⟨a, b, rfl⟩
/-- What stands behind the command's name. -/
def restW (x : StepS) : List WB := (if x.op = 9 then [(1, Lib.itoa x.n)] else []) ++ x.lits.map (fun l => (2, l.data.toList)) ++ x.args.map nW
theorem tail_rd {x : StepS} (hx : OkS x) (h : Rd W k (restW x ++ [(3, [59])])) : tailP W x.op (k, false) = ((x.args, x.lits, x.n), (k + (restW x).length, false)) ∧ Rd W (k + (restW x).length) [(3, [59])] := by
 refine ⟨?_, (Rd.append h).2⟩
 obtain ⟨out, op, args, lits, n⟩ := x
 obtain ⟨_, ha, hf, _⟩ := hx
 simp only at ha hf
 unfold restW at h ⊢
 simp only at h ⊢
 rcases hf with ⟨ho, h1, h2, h3⟩ | ⟨ho, h2, h3⟩ | ⟨ho, h1, h2, h3⟩ | ⟨ho, h1, h2, h3⟩ | ⟨ho, h1, h2, h3⟩ | ⟨ho, h1, h2, h3, h4⟩
 ·obtain ⟨a, rfl⟩ := List.length_eq_one_iff.1 h1
  subst h2 h3
  have hn : op ≠ 5 ∧ op ≠ 6 ∧ op ≠ 7 ∧ op ≠ 8 ∧ op ≠ 9 := by omega
  rw [if_neg hn.2.2.2.2] at h ⊢
  obtain ⟨_, n2, _⟩ := name_rd (x := a) h (ha a (by simp))
  unfold tailP
  rw [if_neg hn.1, if_neg hn.2.1, if_neg hn.2.2.1, if_neg hn.2.2.2.1, if_neg hn.2.2.2.2]
  simp only [n2]
  rfl
 ·subst ho h2 h3
  rw [if_neg (by decide)] at h ⊢
  simp only [List.map_nil, List.nil_append] at h ⊢
  obtain ⟨q1, _⟩ := names_rd args (W.length + 1) [] k h ha (by have := rd_len _ _ h (by simp); simp at this; omega)
  unfold tailP namesP
  rw [if_pos rfl]
  simp only [q1, List.nil_append, List.length_map]
 ·obtain ⟨l, rfl⟩ := List.length_eq_one_iff.1 h2
  subst ho h1 h3
  rw [if_neg (by decide)] at h ⊢
  obtain ⟨t1, _⟩ := text_rd (x := l) h
  unfold tailP
  rw [if_neg (by decide), if_pos rfl]
  simp only [t1]
  rfl
 ·obtain ⟨a, rfl⟩ := List.length_eq_one_iff.1 h1
  obtain ⟨l, rfl⟩ := List.length_eq_one_iff.1 h2
  subst ho h3
  rw [if_neg (by decide)] at h ⊢
  obtain ⟨t1, t2⟩ := text_rd (x := l) h
  obtain ⟨_, n2, _⟩ := name_rd (x := a) t2 (ha a (by simp))
  unfold tailP
  rw [if_neg (by decide), if_neg (by decide), if_pos rfl]
  simp only [t1, n2]
  rfl
 ·obtain ⟨a, rfl⟩ := List.length_eq_one_iff.1 h1
  obtain ⟨l, l', rfl⟩ := len_two h2
  subst ho h3
  rw [if_neg (by decide)] at h ⊢
  obtain ⟨t1, t2⟩ := text_rd (x := l) h
  obtain ⟨t3, t4⟩ := text_rd (x := l') t2
  obtain ⟨_, n2, _⟩ := name_rd (x := a) t4 (ha a (by simp))
  unfold tailP
  rw [if_neg (by decide), if_neg (by decide), if_neg (by decide), if_pos rfl]
  simp only [t1, t3, n2]
  rfl
 ·obtain ⟨a, rfl⟩ := List.length_eq_one_iff.1 h1
  subst ho h2
  rw [if_pos rfl] at h ⊢
  obtain ⟨t1, t2⟩ := num_rd h3 h4 h
  obtain ⟨_, n2, _⟩ := name_rd (x := a) t2 (ha a (by simp))
  unfold tailP
  rw [if_neg (by decide), if_neg (by decide), if_neg (by decide), if_neg (by decide), if_pos rfl]
  simp only [t1, n2]
  rfl
theorem stepW_eq (x : StepS) : stepW x = nW x.out :: (3, [61]) :: (1, opTx x.op) :: (restW x ++ [(3, [59])]) := by
 unfold stepW stepToksW restW
 simp only [List.cons_append, List.nil_append, List.append_assoc]
theorem op_range {x : StepS} (h : OkS x) : 1 ≤ x.op ∧ x.op ≤ 9 := by
 have := h.form
 omega
theorem step_rd {x : StepS} (hx : OkS x) {r : List WB} (h : Rd W k (stepW x ++ r)) : isNameP W (k, false) = true ∧ stepP W (k, false) = (x, (k + (stepW x).length, false)) := by
 have h := (Rd.append h).1
 rw [stepW_eq] at h ⊢
 obtain ⟨n1, n2, n3⟩ := name_rd h hx.out
 obtain ⟨_, m2, m3⟩ := mark_rd n3
 obtain ⟨o1, o2⟩ := op_rd (op_range hx).1 (op_range hx).2 m3
 obtain ⟨t1, t2⟩ := tail_rd hx o2
 refine ⟨n1, ?_⟩
 unfold stepP
 simp only [n2]
 rw [show cEq = ⟨([61] : List UInt8).toArray⟩ from rfl, m2, o1]
 simp only [t1, semi_rd t2]
 simp only [List.length_cons, List.length_append, List.length_nil, Prod.mk.injEq, and_true, true_and]
 omega
theorem steps_rd : ∀ (ss : List StepS) (f : Nat) (acc : List StepS) (k : Nat), Rd W k ((ss.map stepW).flatten ++ [(3, [125])]) → (∀ y ∈ ss, OkS y) → ss.length < f → stepsF W f acc (k, false) = (acc ++ ss, (k + ((ss.map stepW).flatten).length, false))
 | _, 0, _, _, _, _, hf => absurd hf (by omega)
 | [], f + 1, acc, k, h, _, _ => by
  unfold stepsF
  rw [if_neg (by rw [not_name h]; simp)]
  simp
 | y :: r, f + 1, acc, k, h, hy, hf => by
  rw [List.map_cons, List.flatten_cons, List.append_assoc] at h
  obtain ⟨n1, n2⟩ := step_rd (hy y (by simp)) h
  have q1 := steps_rd r f (acc ++ [y]) _ (Rd.append h).2 (fun z hz => hy z (by simp [hz])) (by simp at hf; omega)
  unfold stepsF
  rw [if_pos (by rw [n1]; rfl), n2, q1]
  simp only [List.append_assoc, List.cons_append, List.nil_append, List.map_cons, List.flatten_cons, List.length_append, Prod.mk.injEq, and_true, true_and]
  omega
theorem flat_len : ∀ l : List StepS, l.length ≤ ((l.map stepW).flatten).length
 | [] => by simp
 | y :: l => by
  have := flat_len l
  have h : 1 ≤ (stepW y).length := by rw [stepW_eq]; simp
  simp only [List.map_cons, List.flatten_cons, List.length_append, List.length_cons]
  omega
theorem okName_key {x : List UInt8} (h : okName x = true) : x ≠ [97, 102, 116, 101, 114] := by
 rintro rfl
 have := okName_cl h
 exact absurd this (by decide)
theorem rule_rd {x : RuleS} (hx : OkRu x) {r : List WB} (h : Rd W k (ruleW x ++ r)) : ruleP W (k, false) = (x, (k + (ruleW x).length, false)) := by
 have h := (Rd.append h).1
 have hwl := rd_len _ _ h (by simp [ruleW])
 unfold ruleW at h hwl ⊢
 have h := h
 simp only [List.append_assoc] at h
 obtain ⟨_, k2, k3⟩ := key_rd (r := nW x.name :: (3, [123]) :: (clauseW [105, 110] x.ins ++ (clauseW [111, 117, 116] x.outs ++ (clauseW [97, 102, 116, 101, 114] x.after ++ ((x.steps.map stepW).flatten ++ [(3, [125])]))))) h
 obtain ⟨_, n2, n3⟩ := name_rd k3 hx.name
 obtain ⟨_, m2, m3⟩ := mark_rd n3
 obtain ⟨i1, i2⟩ := Rd.append m3
 obtain ⟨o1, o2⟩ := Rd.append i2
 obtain ⟨f1, f2⟩ := Rd.append o2
 obtain ⟨s1, s2⟩ := Rd.append f2
 rw [clauseW_some hx.some] at o1
 have ei := opt_rd i1 hx.ins (fun e => by
  rw [e, clauseW_none] at i2
  rw [clauseW_some hx.some] at i2
  exact not_key (r := listW x.outs ++ _) i2 (by decide))
 have eo := clause_rd o1 hx.some hx.outs
 rw [clauseW_len hx.some] at f1 f2 s1 s2
 have ef := opt_rd f1 hx.after (fun e => by
  rw [e, clauseW_none] at f2
  cases hs : x.steps with
  | nil => rw [hs] at f2; exact not_key3 f2
  | cons y ys =>
   rw [hs, List.map_cons, List.flatten_cons, stepW_eq] at f2
   exact not_key (key := [97, 102, 116, 101, 114]) (d := y.out.data.toList) f2 (okName_key (hx.steps y (by rw [hs]; simp)).out))
 have es := steps_rd x.steps (W.length + 1) [] _ f2 hx.steps (by have := flat_len x.steps; simp only [List.length_append] at hwl; omega)
 obtain ⟨_, c2, _⟩ := mark_rd s2
 unfold ruleP
 rw [show kRule = ⟨([114, 117, 108, 101] : List UInt8).toArray⟩ from rfl, show kIn = ⟨([105, 110] : List UInt8).toArray⟩ from rfl, show kOut = ⟨([111, 117, 116] : List UInt8).toArray⟩ from rfl, show kAfter = ⟨([97, 102, 116, 101, 114] : List UInt8).toArray⟩ from rfl, show cOpen = ⟨([123] : List UInt8).toArray⟩ from rfl, show cClose = ⟨([125] : List UInt8).toArray⟩ from rfl]
 simp only [k2, n2, m2, ei, eo, ← Nat.add_assoc] at *
 simp only [ef] at *
 unfold stepsP
 simp only [es, c2, List.nil_append]
 simp only [List.length_append, List.length_cons, List.length_nil, clauseW_len hx.some, Prod.mk.injEq, and_true, true_and]
 omega
theorem rules_rd : ∀ (rs : List RuleS) (f : Nat) (acc : List RuleS) (k : Nat), Rd W k ((rs.map ruleW).flatten ++ [(4, [])]) → (∀ y ∈ rs, OkRu y) → rs.length < f → rulesF W f acc (k, false) = (acc ++ rs, (k + ((rs.map ruleW).flatten).length, false))
 | _, 0, _, _, _, _, hf => absurd hf (by omega)
 | [], f + 1, acc, k, h, _, _ => by
  have : isEndP W (k, false) = true := by unfold isEndP; simp only [h.2.1]; rfl
  unfold rulesF
  rw [if_neg (by rw [this]; simp)]
  simp
 | y :: r, f + 1, acc, k, h, hy, hf => by
  rw [List.map_cons, List.flatten_cons, List.append_assoc] at h
  have n2 := rule_rd (hy y (by simp)) h
  have q1 := rules_rd r f (acc ++ [y]) _ (Rd.append h).2 (fun z hz => hy z (by simp [hz])) (by simp at hf; omega)
  have n1 : isEndP W (k, false) = false := by
   unfold ruleW at h
   have h1 : (wAt W k).1 = 1 := h.2.1
   unfold isEndP
   simp only [h1]
   rfl
  unfold rulesF
  rw [if_pos (by rw [n1]; rfl), n2, q1]
  simp only [List.append_assoc, List.cons_append, List.nil_append, List.map_cons, List.flatten_cons, List.length_append, Prod.mk.injEq, and_true, true_and]
  omega
end
theorem rflat_len : ∀ l : List RuleS, l.length ≤ ((l.map ruleW).flatten).length
 | [] => by simp
 | y :: l => by
  have := rflat_len l
  have h : 1 ≤ (ruleW y).length := by unfold ruleW; simp
  simp only [List.map_cons, List.flatten_cons, List.length_append, List.length_cons]
  omega
/-- A text whose words are rules' words is a rule file of these rules. -/
theorem file_rd {L : List UInt8} {W : List WordT} {rs : List RuleS} (hl : L.length ≤ 20000) (ha : allS L = .ok W) (hw : W.map (fun x => (x.1, x.2.2)) = (rs.map ruleW).flatten ++ [(4, [])]) (hr : ∀ y ∈ rs, OkRu y) : fileS L = .ok rs := by
 have hrd := rd_map _ W 0 hw
 have h1 := rd_len _ _ hrd (by simp)
 have h2 := rflat_len rs
 have h3 := rules_rd rs (2 * W.length + 2) [] 0 hrd hr (by simp only [List.length_append] at h1; omega)
 unfold fileS
 rw [if_neg (by omega), ha]
 unfold rulesP
 simp only [h3, List.nil_append]
 rfl
end Go.Proofs.YtlmnabhhgplhnaaGreatDoor
namespace Go.Proofs.YtlmnabhhgplhnaaGreatDoor

def tailPc (sep : List Pc) : List Pc → List Pc
 | [] => [.t 3 [59]]
 | y :: r => sep ++ y :: tailPc sep r
def joinPc (sep : List Pc) : List Pc → List Pc
 | [] => [.t 3 [59]]
 | x :: r => x :: tailPc sep r
def namePc (x : ByteArray) : Pc := .t 1 x.data.toList
def sepC : List Pc := [.t 3 [44], .g [32]]
def clausePc (key : List UInt8) (xs : List ByteArray) : List Pc := if xs = [] then [] else [.g [32, 32], .t 1 key, .g [32]] ++ joinPc sepC (xs.map namePc) ++ [.g [10]]
def stepToks (x : StepS) : List Pc := [namePc x.out, .t 3 [61], .t 1 (opTx x.op)] ++ (if x.op = 9 then [.t 1 (Lib.itoa x.n)] else []) ++ x.lits.map (fun l => .t 2 l.data.toList) ++ x.args.map namePc
def stepPc (x : StepS) : List Pc := [.g [32, 32]] ++ joinPc [.g [32]] (stepToks x) ++ [.g [10]]
def rulePc (r : RuleS) : List Pc := [.t 1 [114, 117, 108, 101], .g [32], namePc r.name, .g [32], .t 3 [123], .g [10]] ++ clausePc [105, 110] r.ins ++ clausePc [111, 117, 116] r.outs ++ clausePc [97, 102, 116, 101, 114] r.after ++ (r.steps.map stepPc).flatten ++ [.t 3 [125], .g [10]]

/-! ### The words -/
theorem words_comma : ∀ r : List ByteArray, wordsP (tailPc sepC (r.map namePc)) = commaW r
 | [] => rfl
 | y :: r => by simp only [List.map_cons, tailPc, sepC, List.cons_append, List.nil_append, wordsP, namePc, commaW, nW]; rw [← words_comma r]; rfl
theorem words_list (xs : List ByteArray) : wordsP (joinPc sepC (xs.map namePc)) = listW xs := by
 cases xs with
 | nil => rfl
 | cons x r => simp only [List.map_cons, joinPc, listW, namePc, wordsP, nW]; rw [← words_comma r]
theorem words_clause (key : List UInt8) (xs : List ByteArray) : wordsP (clausePc key xs) = clauseW key xs := by
 unfold clausePc clauseW
 split
 ·rfl
 ·rw [words_append, words_append, words_list]
  simp [wordsP]
theorem words_gap : ∀ ps : List Pc, wordsP (tailPc [.g [32]] ps) = wordsP ps ++ [(3, [59])]
 | [] => rfl
 | .g l :: r => by simp only [tailPc, List.cons_append, List.nil_append, wordsP, words_gap r]
 | .t k x :: r => by simp only [tailPc, List.cons_append, List.nil_append, wordsP, words_gap r]
theorem words_join (ps : List Pc) : wordsP (joinPc [.g [32]] ps) = wordsP ps ++ [(3, [59])] := by
 match ps with
 | [] => rfl
 | .g l :: r => simp only [joinPc, wordsP, words_gap r]
 | .t k x :: r => simp only [joinPc, wordsP, words_gap r, List.cons_append]
theorem words_names : ∀ xs : List ByteArray, wordsP (xs.map namePc) = xs.map nW
 | [] => rfl
 | x :: r => by simp only [List.map_cons, namePc, wordsP, nW]; rw [← words_names r]
theorem words_lits : ∀ xs : List ByteArray, wordsP (xs.map fun l => .t 2 l.data.toList) = xs.map fun l => ((2 : Int), l.data.toList)
 | [] => rfl
 | x :: r => by simp only [List.map_cons, wordsP]; rw [← words_lits r]
theorem words_step (x : StepS) : wordsP (stepPc x) = stepW x := by
 unfold stepPc stepW stepToks stepToksW
 rw [words_append, words_append, words_join, words_append, words_append, words_append, words_names, words_lits]
 split <;> simp [wordsP, namePc, nW]
theorem words_rule (r : RuleS) : wordsP (rulePc r) = ruleW r := by
 unfold rulePc ruleW
 rw [words_append, words_append, words_append, words_append, words_append, words_clause, words_clause, words_clause, words_flat, List.map_map]
 rw [show (wordsP ∘ stepPc) = stepW from funext words_step]
 simp [wordsP, namePc, nW]
theorem words_rules (rs : List RuleS) : wordsP ((rs.map rulePc).flatten) = (rs.map ruleW).flatten := by
 rw [words_flat, List.map_map, show (wordsP ∘ rulePc) = ruleW from funext words_rule]

/-! ### The text -/
theorem spell_tail (sep : List Pc) : ∀ ps : List Pc, spell (tailPc sep ps) = Lib.joinTail (spell sep) (ps.map pcT) ++ [59]
 | [] => rfl
 | y :: r => by
  rw [tailPc, spell_append, spell, spell_tail sep r]
  simp [Lib.joinTail, List.append_assoc]
theorem spell_join (sep : List Pc) (ps : List Pc) : spell (joinPc sep ps) = Lib.join (ps.map pcT) (spell sep) ++ [59] := by
 cases ps with
 | nil => rfl
 | cons x r => rw [joinPc, spell, spell_tail, List.map_cons, Lib.join_cons, List.append_assoc]
theorem pc_names (xs : List ByteArray) : (xs.map namePc).map pcT = xs.map (·.data.toList) := by
 rw [List.map_map]; rfl
theorem spell_clause (key : List UInt8) (xs : List ByteArray) (hs : srtL (xs.map (·.data.toList)) = xs.map (·.data.toList)) : spell (clausePc key xs) = clauseTx key xs := by
 unfold clausePc clauseTx
 split
 ·rfl
 ·rw [spell_append, spell_append, spell_join, pc_names, hs]
  simp [spell, pcT, tokT, sepC]
theorem spell_step (x : StepS) : spell (stepPc x) = stepLn x := by
 unfold stepPc stepLn stepTx
 rw [spell_append, spell_append, spell_join]
 have e : (stepToks x).map pcT = (stepWs x).map (·.data.toList) := by
  unfold stepToks stepWs
  simp only [List.map_append, List.map_map]
  congr 1
  congr 1
  congr 1
  split <;> simp [pcT, tokT]
 rw [e]
 simp [spell, pcT]
theorem spell_rule (r : RuleS) (h : sortR r = r) : spell (rulePc r) = ruleTx r := by
 have hi : srtL (r.ins.map (·.data.toList)) = r.ins.map (·.data.toList) := by
  have := congrArg RuleS.ins h
  rw [← srtB_data]
  exact congrArg (List.map (·.data.toList)) this
 have ho : srtL (r.outs.map (·.data.toList)) = r.outs.map (·.data.toList) := by
  have := congrArg RuleS.outs h
  rw [← srtB_data]
  exact congrArg (List.map (·.data.toList)) this
 have ha : srtL (r.after.map (·.data.toList)) = r.after.map (·.data.toList) := by
  have := congrArg RuleS.after h
  rw [← srtB_data]
  exact congrArg (List.map (·.data.toList)) this
 unfold rulePc ruleTx upTx headTx
 rw [spell_append, spell_append, spell_append, spell_append, spell_append, spell_clause _ _ hi, spell_clause _ _ ho, spell_clause _ _ ha, spell_flat, List.map_map, show (spell ∘ stepPc) = stepLn from funext spell_step]
 simp [spell, pcT, tokT, namePc]

/-! ### All are words or gaps that may stand so -/
def TokOk (p : Pc) : Prop := ∃ k x, p = .t k x ∧ GoodT k x
theorem good_name {x : ByteArray} (h : okName x.data.toList = true) : TokOk (namePc x) := ⟨_, _, rfl, .inl ⟨rfl, okName_word h⟩⟩
theorem good_punct {c : UInt8} (h : punctB c = true) : GoodT 3 [c] := .inr (.inr ⟨rfl, c, rfl, h⟩)
theorem fine_tail {sep : List Pc} (hs : Fine sep) (hp : stopP sep) : ∀ ps : List Pc, (∀ p ∈ ps, TokOk p) → Fine (tailPc sep ps) ∧ stopP (tailPc sep ps)
 | [], _ => ⟨⟨good_punct (by decide), fun e => absurd e (by decide), trivial⟩, by show (3 : Int) ≠ 1; decide⟩
 | y :: r, h => by
  obtain ⟨k, x, rfl, hg⟩ := h y (by simp)
  obtain ⟨h1, h2⟩ := fine_tail hs hp r fun p hq => h p (by simp [hq])
  exact ⟨hs.append ⟨hg, fun _ => h2, h1⟩, stop_append _ hp⟩
theorem fine_join {sep : List Pc} (hs : Fine sep) (hp : stopP sep) (ps : List Pc) (h : ∀ p ∈ ps, TokOk p) : Fine (joinPc sep ps) := by
 cases ps with
 | nil => exact ⟨good_punct (by decide), fun e => absurd e (by decide), trivial⟩
 | cons y r =>
  obtain ⟨k, x, rfl, hg⟩ := h y (by simp)
  obtain ⟨h1, h2⟩ := fine_tail hs hp r fun p hq => h p (by simp [hq])
  exact ⟨hg, fun _ => h2, h1⟩
theorem gap_32 : Gap1 [32] := ⟨by simp [skipN, blankB], by simp [inRem, blankB], ⟨32, _, rfl, by decide⟩⟩
theorem gap_3232 : Gap1 [32, 32] := ⟨by simp [skipN, blankB], by simp [inRem, blankB], ⟨32, _, rfl, by decide⟩⟩
theorem gap_10 : Gap1 [10] := ⟨by simp [skipN, blankB], by simp [inRem, blankB], ⟨10, _, rfl, by decide⟩⟩
theorem fine_sepC : Fine sepC := ⟨good_punct (by decide), fun e => absurd e (by decide), gap_32, trivial⟩
theorem stop_sepC : stopP sepC := by show (3 : Int) ≠ 1; decide
theorem fine_sepG : Fine [.g [32]] := ⟨gap_32, trivial⟩
def keyOk (key : List UInt8) : Bool := !key.isEmpty && key.all nameB
theorem key_good {key : List UInt8} (h : keyOk key = true) : GoodT 1 key := by
 unfold keyOk at h
 simp only [Bool.and_eq_true, Bool.not_eq_true', List.isEmpty_eq_false_iff] at h
 exact .inl ⟨rfl, h.1, List.all_eq_true.1 h.2⟩
theorem fine_clause {key : List UInt8} (hk : keyOk key = true) {xs : List ByteArray} (hx : ∀ y ∈ xs, okName y.data.toList = true) : Fine (clausePc key xs) := by
 unfold clausePc
 split
 ·trivial
 ·refine (Fine.append ?_ (fine_join fine_sepC stop_sepC _ fun p hp => ?_)).append ⟨gap_10, trivial⟩
  ·exact ⟨gap_3232, key_good hk, fun _ => trivial, gap_32, trivial⟩
  ·obtain ⟨y, hy, rfl⟩ := List.mem_map.1 hp
   exact good_name (hx y hy)
theorem op_good_fin : ∀ n : Fin 10, 1 ≤ n.val → keyOk (opTx (n.val : Int)) = true := by decide +kernel
theorem op_good {op : Int} (h0 : 1 ≤ op) (h1 : op ≤ 9) : GoodT 1 (opTx op) := by
 obtain ⟨m, rfl⟩ : ∃ m : Nat, op = m := ⟨op.toNat, by omega⟩
 exact key_good (op_good_fin ⟨m, by omega⟩ (by show 1 ≤ m; omega))
theorem fine_step {x : StepS} (h : OkS x) : Fine (stepPc x) := by
 unfold stepPc
 refine (Fine.append (show Fine [.g [32, 32]] from ⟨gap_3232, trivial⟩) (fine_join fine_sepG trivial _ fun p hp => ?_)).append ⟨gap_10, trivial⟩
 unfold stepToks at hp
 simp only [List.mem_append, List.mem_cons, List.not_mem_nil, or_false] at hp
 rcases hp with (((rfl | rfl | rfl) | hp) | hp) | hp
 ·exact good_name h.out
 ·exact ⟨_, _, rfl, good_punct (by decide)⟩
 ·exact ⟨_, _, rfl, op_good (op_range h).1 (op_range h).2⟩
 ·split at hp
  ·rename_i h9
   simp only [List.mem_singleton] at hp
   subst hp
   have hn : 0 ≤ x.n ∧ x.n ≤ 2000 := by have := h.form; omega
   exact ⟨_, _, rfl, .inl ⟨rfl, (num_word hn.1 hn.2).1, (num_word hn.1 hn.2).2.1⟩⟩
  ·simp at hp
 ·obtain ⟨l, _, rfl⟩ := List.mem_map.1 hp
  exact ⟨_, _, rfl, .inr (.inl rfl)⟩
 ·obtain ⟨y, hy, rfl⟩ := List.mem_map.1 hp
  exact good_name (h.args y hy)
theorem fine_rule {r : RuleS} (h : OkRu r) : Fine (rulePc r) := by
 unfold rulePc
 refine Fine.append (Fine.append (Fine.append (Fine.append (Fine.append ?_ (fine_clause (by decide) h.ins)) (fine_clause (by decide) h.outs)) (fine_clause (by decide) h.after)) (Fine.flat fun a ha => ?_)) ?_
 ·obtain ⟨k, x, e, hg⟩ := good_name h.name
  rw [e]
  exact ⟨key_good (by decide), fun _ => trivial, gap_32, hg, fun _ => trivial, gap_32, good_punct (by decide), fun _ => trivial, gap_10, trivial⟩
 ·obtain ⟨y, hy, rfl⟩ := List.mem_map.1 ha
  exact fine_step (h.steps y hy)
 ·exact ⟨good_punct (by decide), fun _ => trivial, gap_10, trivial⟩

/-- A text of words and gaps whose words are rules' is a rule file of these. -/
theorem file_pc {ps : List Pc} {rs : List RuleS} (hf : Fine ps) (hw : wordsP ps = (rs.map ruleW).flatten) (hr : ∀ y ∈ rs, OkRu y) (hl : (spell ps).length ≤ 20000) : fileS (spell ps) = .ok rs := by
 obtain ⟨W, hW, hm⟩ := lex_spell ps hf 0
 exact file_rd hl hW (by rw [hm, hw]) hr
theorem srtB_mem {y : ByteArray} {xs : List ByteArray} (h : y ∈ srtB xs) : y ∈ xs := by
 unfold srtB at h
 obtain ⟨l, hl, rfl⟩ := List.mem_map.1 h
 obtain ⟨z, hz, rfl⟩ := List.mem_map.1 ((List.mergeSort_perm _ _).mem_iff.1 hl)
 simpa using hz
theorem okRu_sort {r : RuleS} (h : OkRu r) : OkRu (sortR r) :=
 ⟨h.name, fun a ha => h.ins a (srtB_mem ha), fun a ha => h.outs a (srtB_mem ha), fun a ha => h.after a (srtB_mem ha), fun e => h.some (List.eq_nil_of_length_eq_zero (by have := congrArg List.length e; rw [show (sortR r).outs = srtB r.outs from rfl, srtB_len] at this; exact this)), h.steps⟩
/-- What is printed is read as the sorted rules. -/
theorem back_file {rs : List RuleS} (h : ∀ y ∈ rs, OkRu y) (hl : (fileTx rs).length ≤ 20000) : fileS (fileTx rs) = .ok (sortRs rs) := by
 have hs : ∀ y ∈ sortRs rs, sortR y = y ∧ OkRu y := fun y hy => by
  obtain ⟨x, hx, rfl⟩ := mem_sortRs hy
  exact ⟨sortR_idem x, okRu_sort (h x hx)⟩
 have e : fileTx rs = spell ((sortRs rs).map rulePc).flatten := by
  unfold fileTx
  rw [spell_flat, List.map_map]
  congr 1
  exact List.map_congr_left fun y hy => (spell_rule y (hs y hy).1).symm
 rw [e] at hl ⊢
 refine file_pc (Fine.flat fun a ha => ?_) (words_rules _) (fun y hy => (hs y hy).2) hl
 obtain ⟨y, hy, rfl⟩ := List.mem_map.1 ha
 exact fine_rule (hs y hy).2
end Go.Proofs.YtlmnabhhgplhnaaGreatDoor
namespace Go.Proofs.YtlmnabhhgplhnaaGreatDoor
open Go.RowKit Go.Shelf

section
variable {α : Type} {le : α → α → Bool}
def insG (le : α → α → Bool) (x : α) (l : List α) : List α := l.take (l.takeWhile fun y => le y x).length ++ [x] ++ l.drop (l.takeWhile fun y => le y x).length
theorem take_tw (p : α → Bool) : ∀ l : List α, l.take (l.takeWhile p).length = l.takeWhile p
 | [] => rfl
 | a :: l => by
  rw [List.takeWhile_cons]
  split
  ·rw [List.length_cons, List.take_succ_cons, take_tw p l]
  ·rfl
theorem tw_mem (p : α → Bool) : ∀ l : List α, ∀ x ∈ l.takeWhile p, p x = true
 | [], x, h => by simp at h
 | a :: l, x, h => by
  rw [List.takeWhile_cons] at h
  split at h
  ·rename_i ha
   rcases List.mem_cons.1 h with rfl | h
   ·exact ha
   ·exact tw_mem p l x h
  ·simp at h
theorem drop_tw (h : Pre le) (x : α) : ∀ l : List α, Srt le l → ∀ s ∈ l.drop (l.takeWhile fun y => le y x).length, le s x = false
 | [], _, s, hs => by simp at hs
 | a :: l, hl, s, hs => by
  rw [List.takeWhile_cons] at hs
  split at hs
  ·rw [List.length_cons, List.drop_succ_cons] at hs
   exact drop_tw h x l (List.pairwise_cons.1 hl).2 s hs
  ·rename_i ha
   simp only [List.length_nil, List.drop_zero] at hs
   have ha : le a x = false := by simpa using ha
   rcases List.mem_cons.1 hs with rfl | hs
   ·exact ha
   ·have h1 := (List.pairwise_cons.1 hl).1 s hs
    cases hsx : le s x with
    | false => rfl
    | true => rw [h.tr _ _ _ h1 hsx] at ha; cases ha
theorem st_ins (h : Pre le) {P S : List α} (x : α) (hS : St le P S) : St le (P ++ [x]) (insG le x S) := by
 have h1 := st_insert h (S := S) (S1 := S.take (S.takeWhile fun y => le y x).length) (S2 := S.drop (S.takeWhile fun y => le y x).length) (x := x) hS.sorted (List.take_append_drop _ _).symm (drop_tw h x S hS.sorted) (fun s hs => by rw [take_tw] at hs; exact tw_mem _ S s hs)
 have e : insG le x S = S.take (S.takeWhile fun y => le y x).length ++ x :: S.drop (S.takeWhile fun y => le y x).length := by unfold insG; simp
 rw [e]
 refine St.trans (fun k => ?_) h1
 rw [List.filter_append, List.filter_append, hS.same k]
theorem st_fold (h : Pre le) : ∀ (xs P S : List α), St le P S → St le (P ++ xs) (xs.foldl (fun l x => insG le x l) S)
 | [], P, S, hS => by simpa using hS
 | x :: xs, P, S, hS => by
  have := st_fold h xs (P ++ [x]) (insG le x S) (st_ins h x hS)
  rw [List.append_assoc] at this
  exact this
theorem ins_sort (h : Pre le) (xs : List α) : xs.foldl (fun l x => insG le x l) [] = xs.mergeSort le := by
 have h1 := st_fold h xs [] [] (St.self List.Pairwise.nil)
 rw [List.nil_append] at h1
 exact h1.unique h (st_mergeSort h xs)
end
def le0 (a b : ByteArray) : Bool := decide (a.data.toList ≤ b.data.toList)
theorem pre_le0 : Pre le0 := ⟨fun a b => by unfold le0; simp only [decide_eq_true_eq]; exact List.le_total _ _, fun a b c h1 h2 => by unfold le0 at *; simp only [decide_eq_true_eq] at h1 h2 ⊢; exact List.le_trans h1 h2⟩
theorem pre_name : Pre nameLe := ⟨fun a b => by unfold nameLe; simp only [decide_eq_true_eq]; exact List.le_total _ _, fun a b c h1 h2 => by unfold nameLe at *; simp only [decide_eq_true_eq] at h1 h2 ⊢; exact List.le_trans h1 h2⟩
theorem leB_le (a b : ByteArray) : leB a b = le0 a b := by
 unfold leB le0
 rw [ByteArray.toList_eq, ByteArray.toList_eq, bless_lt, Bool.eq_iff_iff]
 simp only [Bool.or_eq_true, decide_eq_true_eq, beq_iff_eq]
 constructor
 ·rintro (h | h)
  ·exact List.le_of_lt h
  ·rw [h]; exact List.le_refl _
 ·intro h
  by_cases h1 : a.data.toList < b.data.toList
  ·exact .inl h1
  ·exact .inr (List.le_antisymm h (List.not_lt.1 h1))
theorem risB_srt (xs : List ByteArray) : risB xs = srtB xs := by
 have h1 : risB xs = xs.mergeSort le0 := by
  rw [← ins_sort pre_le0]
  unfold risB
  congr 1
  funext l x
  unfold insB posB insG
  simp only [leB_le]
 have h2 : srtB xs = xs.mergeSort le0 := by
  unfold srtB srtL
  rw [← List.map_mergeSort (r := le0) (f := fun x : ByteArray => x.data.toList) (fun a _ b _ => rfl), List.map_map]
  exact List.map_id'' (fun x => by simp) _
 rw [h1, h2]
theorem risR_sort (x : RuleS) : risR x = sortR x := by unfold risR sortR; simp only [risB_srt]
theorem sortQ_sortRs (xs : List RuleS) : sortQ xs = sortRs xs := by
 unfold sortQ sortRs
 rw [← ins_sort pre_name, List.foldl_map]
 congr 1
 funext l x
 unfold insR posR insG
 rw [risR_sort]
 simp only [leB_le]
 rfl
theorem fileTx_rules (xs : List RuleS) : rulesTx (sortRs xs) = fileTx xs := rfl
end Go.Proofs.YtlmnabhhgplhnaaGreatDoor
namespace Go.Proofs.YtlmnabhhgplhnaaGreatDoor
open Go.RowKit Go.Shelf

/-! ### Order does not matter where names stand once -/
theorem short_perm {α : Type} : ∀ {l m : List α}, l.Perm m → l.length ≤ 1 → l = m
 | [], m, h, _ => (List.nil_perm.1 h).symm
 | [a], m, h, _ => by
  have := List.perm_singleton.1 h.symm
  exact this.symm
 | _ :: _ :: _, _, _, h => by simp at h
theorem st_perm {α : Type} {le : α → α → Bool} (h : Pre le) {xs ys : List α} (hp : xs.Perm ys) (h1 : ∀ k, (xs.filter (eqv le k)).length ≤ 1) : xs.mergeSort le = ys.mergeSort le := by
 have e : ∀ k, ys.filter (eqv le k) = xs.filter (eqv le k) := fun k => (short_perm (hp.filter _) (h1 k)).symm
 exact (st_mergeSort h xs).unique h (St.trans e (st_mergeSort h ys))
/-- Texts in order: whatever order they stood in. -/
theorem srtB_perm {xs ys : List ByteArray} (hp : xs.Perm ys) : srtB xs = srtB ys := by
 unfold srtB srtL
 congr 1
 refine List.Perm.eq_of_pairwise (le := fun x y => decide (x ≤ y) = true) (fun a b _ _ h1 h2 => ?_) (srtL_pw _) (srtL_pw _) ?_
 ·exact List.le_antisymm (of_decide_eq_true h1) (of_decide_eq_true h2)
 ·exact (List.mergeSort_perm _ _).trans ((hp.map _).trans (List.mergeSort_perm _ _).symm)
theorem once_filter {α : Type} {p : α → Bool} : ∀ {l : List α}, (∀ (i j : Nat) x y, l[i]? = some x → l[j]? = some y → p x = true → p y = true → i = j) → (l.filter p).length ≤ 1
 | [], _ => by simp
 | a :: l, h => by
  have ih := once_filter (l := l) fun i j x y hx hy h1 h2 => by
   have := h (i + 1) (j + 1) x y (by simpa using hx) (by simpa using hy) h1 h2
   omega
  by_cases hp : p a = true
  ·rw [List.filter_cons_of_pos hp]
   have : l.filter p = [] := by
    rw [List.filter_eq_nil_iff]
    intro x hx hpx
    obtain ⟨i, hi⟩ := List.getElem?_of_mem hx
    have := h 0 (i + 1) a x rfl (by simpa using hi) hp hpx
    omega
   rw [this]
   simp
  ·rw [List.filter_cons_of_neg hp]
   exact ih
def OnceX (xs : List RuleS) : Prop := ∀ (i j : Nat) x y, xs[i]? = some x → xs[j]? = some y → x.name = y.name → i = j
theorem sortRs_perm {xs ys : List RuleS} (hp : xs.Perm ys) (h : OnceX xs) : sortRs xs = sortRs ys := by
 unfold sortRs
 refine st_perm pre_name (hp.map sortR) fun k => once_filter fun i j x y hx hy h1 h2 => ?_
 rw [List.getElem?_map] at hx hy
 obtain ⟨x', hx', rfl⟩ := Option.map_eq_some_iff.1 hx
 obtain ⟨y', hy', rfl⟩ := Option.map_eq_some_iff.1 hy
 refine h i j x' y' hx' hy' ?_
 unfold eqv nameLe at h1 h2
 simp only [Bool.and_eq_true, decide_eq_true_eq] at h1 h2
 have e : x'.name.data.toList = y'.name.data.toList := List.le_antisymm (List.le_trans h1.2 h2.1) (List.le_trans h2.2 h1.1)
 exact ByteArray.ext (Array.toList_inj.1 e)
theorem sortRs_sorted (xs : List RuleS) : sortRs (xs.map sortR) = sortRs xs := by
 unfold sortRs
 rw [List.map_map]
 congr 1
 exact List.map_congr_left fun x _ => sortR_idem x
/-- A rule whose lists stand in another order. -/
theorem sortR_perm {x y : RuleS} (h0 : x.name = y.name) (h1 : x.ins.Perm y.ins) (h2 : x.outs.Perm y.outs) (h3 : x.after.Perm y.after) (h4 : x.steps = y.steps) : sortR x = sortR y := by
 unfold sortR
 rw [h0, h4, srtB_perm h1, srtB_perm h2, srtB_perm h3]

/-! ### The reference's print is the program's, of rules that may be -/
theorem clauseQ_tx (key : List UInt8) (xs : List ByteArray) (hs : srtL (xs.map (·.data.toList)) = xs.map (·.data.toList)) : clauseQ key xs = clauseTx key xs := by
 cases xs with
 | nil => rfl
 | cons x r =>
  unfold clauseTx
  rw [if_neg (by simp), hs]
  simp only [clauseQ, partQ, List.map_cons, Lib.join_cons]
  rw [List.take_of_length_le (by simp)]
  simp only [List.append_assoc]
theorem numQ_itoa {n : Int} (h : 0 ≤ n) : (numQ n).data.toList = Lib.itoa n := by
 unfold numQ decB Lib.itoa
 rw [if_neg (by omega)]
theorem stepQ_tx {x : StepS} (h : OkS x) : stepQ x = stepTx x := by
 unfold stepQ stepTx stepWs headQ litsQ argsQ
 have hj : ∀ (a b : List (List UInt8)), Lib.joinTail [32] (a ++ b) = Lib.joinTail [32] a ++ Lib.joinTail [32] b := fun a b => by simp [Lib.joinTail]
 have h9 : x.op = 9 → 0 ≤ x.n := fun e => by have := h.form; omega
 simp only [List.map_append, List.map_cons, List.cons_append, List.nil_append, List.append_assoc, Lib.join_cons]
 by_cases e : x.op = 9
 ·rw [if_pos e, if_pos e]
  simp only [numQ_itoa (h9 e)]
  simp [Lib.joinTail, List.map_map, Function.comp_def]
 ·rw [if_neg e, if_neg e]
  simp [Lib.joinTail, List.map_map, Function.comp_def]
theorem ruleQ_tx {x : RuleS} (h : OkRu x) (hs : sortR x = x) : ruleQ x = ruleTx x := by
 have hi : srtL (x.ins.map (·.data.toList)) = x.ins.map (·.data.toList) := by
  rw [← srtB_data]
  exact congrArg (List.map (·.data.toList)) (congrArg RuleS.ins hs)
 have ho : srtL (x.outs.map (·.data.toList)) = x.outs.map (·.data.toList) := by
  rw [← srtB_data]
  exact congrArg (List.map (·.data.toList)) (congrArg RuleS.outs hs)
 have ha : srtL (x.after.map (·.data.toList)) = x.after.map (·.data.toList) := by
  rw [← srtB_data]
  exact congrArg (List.map (·.data.toList)) (congrArg RuleS.after hs)
 unfold ruleQ ruleTx upQ upTx headQR headTx stepsQ
 rw [clauseQ_tx _ _ hi, clauseQ_tx _ _ ho, clauseQ_tx _ _ ha]
 congr 2
 congr 1
 exact List.map_congr_left fun y hy => by unfold stepLnQ stepLn; rw [stepQ_tx (h.steps y hy)]
/-- The words of what the reference prints. -/
theorem print_words {x : RuleS} (h : OkRu x) : ∃ W, allS (ruleQ (risR x)) = .ok W ∧ W.map (fun y => (y.1, y.2.2)) = ruleW (sortR x) ++ [(4, [])] := by
 have ho := okRu_sort h
 rw [risR_sort, ruleQ_tx ho (sortR_idem x), ← spell_rule _ (sortR_idem x)]
 obtain ⟨W, hW, hm⟩ := lex_spell _ (fine_rule ho) 0
 exact ⟨W, hW, by rw [hm, words_rule]⟩
theorem fine_words : ∀ {ps : List Pc}, Fine ps → ∀ x ∈ wordsP ps, GoodT x.1 x.2
 | [], _, x, h => by simp [wordsP] at h
 | .g _ :: _, hf, x, h => fine_words hf.2 x h
 | .t k y :: r, hf, x, h => by
  rcases List.mem_cons.1 h with rfl | h
  ·exact hf.1
  ·exact fine_words hf.2.2 x h
theorem rule_good {x : RuleS} (h : OkRu x) : ∀ y ∈ ruleW x, GoodT y.1 y.2 := by
 rw [← words_rule]
 exact fine_words (fine_rule h)

/-! ### The gaps -/
def gapsL : List (List UInt8) := [[32], [10], [9], [32, 35, 32, 114, 101, 109, 97, 114, 107, 32, 123, 32, 59, 32, 34, 32, 10], [13, 10]]
theorem gaps_ok : ∀ g ∈ gapsL, Gap1 g := by
 intro g hg
 simp only [gapsL, List.mem_cons, List.not_mem_nil, or_false] at hg
 rcases hg with rfl | rfl | rfl | rfl | rfl
 all_goals exact ⟨by simp [skipN, blankB], by simp [inRem, blankB], ⟨_, _, rfl, by decide⟩⟩
/-- Which gap stands behind the word of this number. -/
def gapN (gap : List UInt8) (n : Nat) : Nat := (if h : n < gap.length then gap[n].toNat else gap.length) % 5
def gapG (gap : List UInt8) (n : Nat) : List UInt8 := gapsL.getD (gapN gap n) []
theorem gapG_ok (gap : List UInt8) (n : Nat) : Gap1 (gapG gap n) := by
 have h : gapN gap n < gapsL.length := Nat.mod_lt _ (by decide)
 unfold gapG
 rw [List.getD_eq_getElem?_getD, List.getElem?_eq_getElem h]
 exact gaps_ok _ (List.getElem_mem _)
def layP (gap : List UInt8) : Nat → List WB → List Pc
 | _, [] => []
 | n, x :: r => .t x.1 x.2 :: .g (gapG gap n) :: layP gap (n + 1) r
theorem layP_words (gap : List UInt8) : ∀ (B : List WB) (n : Nat), wordsP (layP gap n B) = B
 | [], _ => rfl
 | x :: B, n => by simp only [layP, wordsP, layP_words gap B (n + 1)]
theorem layP_fine (gap : List UInt8) : ∀ (B : List WB) (n : Nat), (∀ x ∈ B, GoodT x.1 x.2) → Fine (layP gap n B)
 | [], _, _ => trivial
 | x :: B, n, h => ⟨h x (by simp), fun _ => trivial, gapG_ok gap n, layP_fine gap B (n + 1) fun y hy => h y (by simp [hy])⟩
theorem layP_append (gap : List UInt8) : ∀ (A B : List WB) (n : Nat), layP gap n (A ++ B) = layP gap n A ++ layP gap (n + A.length) B
 | [], B, n => rfl
 | x :: A, B, n => by simp only [List.cons_append, layP, layP_append gap A B (n + 1), List.length_cons]; rw [Nat.add_comm A.length 1, ← Nat.add_assoc]
/-- What the law lays: so many words, gaps behind them. -/
def laidS (gap : List UInt8) (B : List WB) : List UInt8 := spell (layP gap 0 B)
theorem laidS_next (gap : List UInt8) (B : List WB) (x : WB) : laidS gap (B ++ [x]) = laidS gap B ++ tokT x.1 x.2 ++ gapG gap B.length := by
 unfold laidS
 rw [layP_append, spell_append, Nat.zero_add]
 simp [layP, spell, pcT]
theorem laid_file (gap : List UInt8) {rs : List RuleS} (h : ∀ y ∈ rs, OkRu y) (hl : (laidS gap ((rs.map ruleW).flatten)).length ≤ 20000) : fileS (laidS gap ((rs.map ruleW).flatten)) = .ok rs := by
 refine file_pc (layP_fine gap _ 0 fun x hx => ?_) (layP_words gap _ 0) h hl
 obtain ⟨l, hl, hx⟩ := List.mem_flatten.1 hx
 obtain ⟨y, hy, rfl⟩ := List.mem_map.1 hl
 exact rule_good (h y hy) x hx
theorem laid_most (L : List UInt8) (h : 20000 < L.length) : fileS L = .error (4, -1) := by unfold fileS; rw [if_pos h]
end Go.Proofs.YtlmnabhhgplhnaaGreatDoor
