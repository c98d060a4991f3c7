import Derived.Test.YtdkainiiinjgmaaGreatDoorMaa
import Derived.Laws.Strings
namespace Go.Proofs.YtdkainiiinjgmaaGreatDoor.Exe
open Go
variable {N : Nat → Prop} {P : Program} {G : Nat} {r : Ren} {h : Hp} {w : World}
def plainG : Value → Value → Bool
 | .nilIface, .nilIface => false
 | .agg _, .agg _ => false
 | _, _ => true
theorem eqGuard_run {op : BinOp} {t : TypeId} {x y : Operand} {a b : Value} (h1 : plainG a b = true) (w : World) :
  (eqGuard op t x y a b).run P w = .ok () w := by
 unfold eqGuard
 cases op <;> simp <;> (split <;> first | rfl | simp [plainG] at h1)
def nilEq (P : Program) : TypeDesc → Value → Value → Option Bool
 | .pointer _, .pointer (some _), .pointer none => some false
 | .pointer _, .pointer none, .pointer (some _) => some false
 | .pointer el, .pointer (some ⟨n, o, none⟩), .pointer (some ⟨m, u, none⟩) =>
  match szC P el with
  | some k => bif Nat.beq k 0 then none else bif Nat.beq n m then some (Nat.beq o u) else none
  | none => none
 | .slice _, .slice none _ _, .slice (some _) _ _ => some false
 | .slice _, .slice (some _) _ _, .slice none _ _ => some false
 | .map _ _, .map none, .map (some _) => some false
 | .map _ _, .map (some _), .map none => some false
 | .func _ _ _, .func (.func _) _ _, .nilFunc => some false
 | .func _ _ _, .nilFunc, .func (.func _) _ _ => some false
 | _, _, _ => none
theorem nilEq_run {d : TypeDesc} {x y x' y' : Value} (hx : ValR (Zp P) r x x') (hy : ValR (Zp P) r y y') {b : Bool} (hc : nilEq P d x y = some b) {t : TypeId} (hu : P.underlying t = some d) (w : World) :
  (Op.equal t x' y').run P w = .ok b w := by
 unfold nilEq at hc
 have e : Op.equal t x' y' = Op.equalIn (9999 + 1) t x' y' := rfl
 rw [e]
 generalize 9999 = D
 split at hc
 ·cases hc
  cases hx with
  | same ha => simp [atom] at ha
  | ptr he => obtain rfl := atom_eq rfl hy; simp [Op.equalIn, run_underlying hu]
 ·cases hc
  cases hy with
  | same ha => simp [atom] at ha
  | ptr he => obtain rfl := atom_eq rfl hx; simp [Op.equalIn, run_underlying hu]
 ·rename_i el n o m u
  split at hc
  case h_2 => cases hc
  rename_i k hk
  cases hk0 : Nat.beq k 0 with
  | true => rw [hk0] at hc; cases hc
  | false =>
   rw [hk0] at hc
   cases hnm : Nat.beq n m with
   | false => rw [hnm] at hc; cases hc
   | true =>
    rw [hnm] at hc; cases hc
    obtain rfl := beq_eq.1 hnm
    have hne := beq_ne.1 hk0
    cases hx with
    | same ha => simp [atom] at ha
    | @ptr _ _ e1 h1 =>
     cases hy with
     | same ha => simp [atom] at ha
     | @ptr _ _ e2 h2 =>
      obtain rfl := Option.some.inj (h1.symm.trans h2)
      simp only [Op.equalIn, Sem.run_bind, run_underlying hu, Result.andThen_ok, szC_run hk, hne, ne_eq, not_false_eq_true, if_true, sameAddr, beq_self_eq_true]
      simp only [Sem.run_pure, Result.ok.injEq, and_true]
      rw [Bool.eq_iff_iff, beq_eq]
      simp
 ·cases hc; cases hx <;> cases hy <;> first | (simp [Op.equalIn, run_underlying hu]; done) | (exfalso; simp_all [atom]; done)
 ·cases hc; cases hx <;> cases hy <;> first | (simp [Op.equalIn, run_underlying hu]; done) | (exfalso; simp_all [atom]; done)
 ·cases hc; cases hx <;> cases hy <;> first | (simp [Op.equalIn, run_underlying hu]; done) | (exfalso; simp_all [atom]; done)
 ·cases hc; cases hx <;> cases hy <;> first | (simp [Op.equalIn, run_underlying hu]; done) | (exfalso; simp_all [atom]; done)
 ·cases hc; cases hx <;> cases hy <;> first | (simp [Op.equalIn, run_underlying hu]; done) | (exfalso; simp_all [atom]; done)
 ·cases hc; cases hx <;> cases hy <;> first | (simp [Op.equalIn, run_underlying hu]; done) | (exfalso; simp_all [atom]; done)
 ·cases hc
def intC (op : BinOp) (k : IntKind) (a b : Int) : Option Value :=
 match op with
 | .add => some (.int k (k.wrap (a + b)))
 | .sub => some (.int k (k.wrap (a - b)))
 | .eql => some (.bool (decide (a = b)))
 | .neq => some (.bool (!decide (a = b)))
 | .lss => some (.bool (decide (a < b)))
 | .leq => some (.bool (decide (a ≤ b)))
 | .gtr => some (.bool (decide (a > b)))
 | .geq => some (.bool (decide (a ≥ b)))
 | _ => none
theorem intC_run {op : BinOp} {k : IntKind} {a b : Int} {v : Value} (hc : intC op k a b = some v) (t : TypeId) (w : World) : (binOp op t (.int k a) (.int k b)).run P w = .ok v w := by
 cases op <;> simp only [intC, Option.some.injEq] at hc <;> first | cases hc; done | (subst hc; simp [binOp, Op.intArith, Op.intCmp]; try (first | rfl | (congr 2; exact Bool.eq_iff_iff.2 (by simp))))
theorem intC_flat {op : BinOp} {k : IntKind} {a b : Int} {v : Value} (hc : intC op k a b = some v) : atom v = true := by
 cases op <;> simp only [intC, Option.some.injEq] at hc <;> first | cases hc; done | (subst hc; rfl)
def eqU : List UInt8 → List UInt8 → Bool
 | [], [] => true
 | a :: x, b :: y => bif Nat.beq a.toNat b.toNat then eqU x y else false
 | _, _ => false
def ltU : List UInt8 → List UInt8 → Bool
 | _, [] => false
 | [], _ :: _ => true
 | a :: x, b :: y => bif Nat.blt a.toNat b.toNat then true else bif Nat.beq a.toNat b.toNat then ltU x y else false
theorem eqU_eq : ∀ (x y : List UInt8), eqU x y = (x == y)
 | [], [] => rfl
 | [], _ :: _ => rfl
 | _ :: _, [] => rfl
 | a :: x, b :: y => by
  rw [List.cons_beq_cons, ← eqU_eq x y, eqU]
  cases h : Nat.beq a.toNat b.toNat with
  | true => have := UInt8.toNat_inj.1 (beq_eq.1 h); subst this; simp
  | false =>
   have : a ≠ b := fun e => by subst e; rw [beq_eq.2 rfl] at h; cases h
   simp [this]
theorem ltU_eq : ∀ (x y : List UInt8), ltU x y = Op.bytesLess x y
 | [], [] => rfl
 | _ :: _, [] => rfl
 | [], _ :: _ => rfl
 | a :: x, b :: y => by
  rw [Op.bytesLess, ← ltU_eq x y, ltU]
  cases h : Nat.blt a.toNat b.toNat with
  | true =>
   have : a < b := UInt8.lt_iff_toNat_lt.2 (Nat.le_of_ble_eq_true h)
   simp [this]
  | false =>
   have h1 : ¬ a < b := fun e => by
    have : Nat.blt a.toNat b.toNat = true := Nat.ble_eq_true_of_le (UInt8.lt_iff_toNat_lt.1 e)
    rw [h] at this; cases this
   cases h2 : Nat.beq a.toNat b.toNat with
   | true => have := UInt8.toNat_inj.1 (beq_eq.1 h2); subst this; simp
   | false =>
    have : a ≠ b := fun e => by subst e; rw [beq_eq.2 rfl] at h2; cases h2
    simp [h1, this]
def strOp (op : BinOp) (x y : ByteArray) : Option Value := match op with
 | .eql => some (.bool (eqU x.data.toList y.data.toList))
 | .neq => some (.bool (!eqU x.data.toList y.data.toList))
 | .lss => some (.bool (ltU x.data.toList y.data.toList))
 | .leq => some (.bool (ltU x.data.toList y.data.toList || eqU x.data.toList y.data.toList))
 | .gtr => some (.bool (!(ltU x.data.toList y.data.toList || eqU x.data.toList y.data.toList)))
 | .geq => some (.bool (!ltU x.data.toList y.data.toList))
 | .add => bif Nat.ble (x.data.toList.length + y.data.toList.length) 1000000 then some (.string ⟨⟨x.data.toList ++ y.data.toList⟩⟩) else none
 | _ => none
theorem strOp_run {op : BinOp} {x y : ByteArray} {v : Value} (hc : strOp op x y = some v) (w : World) : atom v = true ∧ (Op.stringOp op x y).run P w = .ok v w := by
 have h1 := ByteArray.toList_eq x
 have h2 := ByteArray.toList_eq y
 cases op <;> simp only [strOp] at hc <;> first | (cases hc; done) | skip
 case add =>
  cases hb : Nat.ble (x.data.toList.length + y.data.toList.length) 1000000 with
  | false => rw [hb] at hc; cases hc
  | true =>
   rw [hb] at hc; cases hc
   have hle := Nat.le_of_ble_eq_true hb
   have hx : x.data.toList.length = x.size := by simp
   have hy : y.data.toList.length = y.size := by simp
   have h3 : ¬ (9223372036854775807 < (x.size : Int) + (y.size : Int)) := by omega
   refine ⟨rfl, ?_⟩
   have e : x ++ y = ⟨⟨x.data.toList ++ y.data.toList⟩⟩ := by
    apply ByteArray.ext
    rw [ByteArray.data_append]
    apply Array.ext'; simp
   simp [Op.stringOp, h3, e]
 all_goals (cases hc; refine ⟨rfl, ?_⟩; simp [Op.stringOp, eqU_eq, ltU_eq, h1, h2])
def binC (P : Program) (op : BinOp) (t : TypeId) (x y : Operand) (a b : Value) : Res :=
 match a, b with
 | .int k m, .int k' n => bif decide (k = k') then
   match intC op k m n with
   | some v => some (none, v)
   | none => fl P (do eqGuard op t x y (.int k m) (.int k' n); binOp op t (.int k m) (.int k' n))
  else fl P (do eqGuard op t x y (.int k m) (.int k' n); binOp op t (.int k m) (.int k' n))
 | .string m, .string n => match strOp op m n with
  | some v => some (none, v)
  | none => fl P (Op.stringOp op m n)
 | a, b => bif flat 4 a && flat 4 b then fl P (do eqGuard op t x y a b; binOp op t a b) else
   match P.underlying t with
   | some d => match nilEq P d a b with
    | some c => match op with
     | .eql => some (none, .bool c)
     | .neq => some (none, .bool !c)
     | _ => none
    | none => none
   | none => none
theorem binC_sim {op : BinOp} {t : TypeId} {x y : Operand} {a b a' b' : Value} (ha : ValR (Zp P) r a a') (hb : ValR (Zp P) r b b') {rd v} (hc : binC P op t x y a b = some (rd, v)) :
  PS P (Zp P) r w rd v (do eqGuard op t x y a' b'; binOp op t a' b') := by
 unfold binC at hc
 split at hc
 ·rename_i k m k' n
  obtain rfl := atom_eq rfl ha
  obtain rfl := atom_eq rfl hb
  cases hk : decide (k = k') with
  | true =>
   rw [hk] at hc
   obtain rfl := of_decide_eq_true hk
   simp only [cond_true] at hc
   split at hc
   ·rename_i u hu
    cases hc
    exact .of _ (.same (intC_flat hu)) (fun w1 => by rw [Sem.run_bind, eqGuard_run rfl]; exact intC_run hu t w1)
   ·exact fl_sim hc
  | false => rw [hk] at hc; exact fl_sim hc
 ·rename_i m n
  obtain rfl := atom_eq rfl ha
  obtain rfl := atom_eq rfl hb
  have : binOp op t (.string m) (.string n) = Op.stringOp op m n := by cases op <;> rfl
  split at hc
  ·rename_i u hu
   cases hc
   refine .of _ (.same (strOp_run (P := P) hu w).1) (fun w1 => ?_)
   rw [Sem.run_bind, eqGuard_run rfl, Result.andThen_ok, this]
   exact (strOp_run hu w1).2
  ·obtain ⟨v', h1, h2⟩ := fl_sim (r := r) (w := w) hc
   refine ⟨v', h1, fun w1 hw1 => ?_⟩
   rw [Sem.run_bind, eqGuard_run rfl]
   rw [Result.andThen_ok, this]; exact h2 w1 hw1
 ·cases hf : (flat 4 a && flat 4 b) with
  | true =>
   rw [hf] at hc
   simp only [Bool.and_eq_true] at hf
   obtain rfl := flat_eq 4 hf.1 ha
   obtain rfl := flat_eq 4 hf.2 hb
   exact fl_sim hc
  | false =>
   rw [hf] at hc
   simp only [cond_false] at hc
   split at hc
   case h_2 => cases hc
   rename_i d hd
   split at hc
   case h_2 => cases hc
   rename_i c hn
   have hrun := fun w1 => nilEq_run ha hb hn hd w1
   have hg : plainG a' b' = true := by
    unfold nilEq at hn
    split at hn <;> first | cases hn; done | (cases ha <;> cases hb <;> first | rfl | simp_all [atom])
   split at hc
   ·cases hc
    refine .of _ (.same rfl) (fun w1 => ?_)
    rw [Sem.run_bind, eqGuard_run hg, Result.andThen_ok]
    have : binOp .eql t a' b' = (do pure (.bool (← Op.equal t a' b')) : Sem Value) := by
     unfold nilEq at hn
     split at hn <;> first | cases hn; done | (cases ha <;> cases hb <;> first | rfl | simp_all [atom])
    rw [this]; simp [hrun]
   ·cases hc
    refine .of _ (.same rfl) (fun w1 => ?_)
    rw [Sem.run_bind, eqGuard_run hg, Result.andThen_ok]
    have : binOp .neq t a' b' = (do pure (.bool (!(← Op.equal t a' b'))) : Sem Value) := by
     unfold nilEq at hn
     split at hn <;> first | cases hn; done | (cases ha <;> cases hb <;> first | rfl | simp_all [atom])
    rw [this]; simp [hrun]
   ·cases hc
end Go.Proofs.YtdkainiiinjgmaaGreatDoor.Exe
namespace Go.Proofs.YtdkainiiinjgmaaGreatDoor.Exe
open Go
variable {N : Nat → Prop} {P : Program} {G : Nat} {r : Ren} {h : Hp} {w : World}
def bnd (top dflt : Nat) : Option Value → Option Nat
 | none => some dflt
 | some (.int _ i) => bif decide (0 ≤ i) && decide (i ≤ (top : Int)) then some i.toNat else none
 | _ => none
theorem bnd_run {top d : Nat} {v : Value} {k : Nat} (hb : bnd top d (some v) = some k) (c : BoundsCode) (w : World) : (Instr.sliceBound v top c).run P w = .ok k w := by
 cases v <;> simp only [bnd] at hb <;> first | cases hb; done | skip
 rename_i kk i
 cases hi : (decide (0 ≤ i) && decide (i ≤ (top : Int))) with
 | false => rw [hi] at hb; cases hb
 | true =>
  rw [hi] at hb; cases hb
  simp only [Bool.and_eq_true, decide_eq_true_eq] at hi
  simp [Instr.sliceBound, asIntOf, hi.1, hi.2]
theorem bnd_le {top d : Nat} {v : Value} {k : Nat} (hb : bnd top d (some v) = some k) : k ≤ top := by
 cases v <;> simp only [bnd] at hb <;> first | cases hb; done | skip
 rename_i kk i
 cases hi : (decide (0 ≤ i) && decide (i ≤ (top : Int))) with
 | false => rw [hi] at hb; cases hb
 | true =>
  rw [hi] at hb; cases hb
  simp only [Bool.and_eq_true, decide_eq_true_eq] at hi
  omega
theorem bnd_more {top top' d d' : Nat} {v : Value} {k : Nat} (hb : bnd top d (some v) = some k) (hle : top ≤ top') : bnd top' d' (some v) = some k := by
 cases v <;> simp only [bnd] at hb ⊢ <;> first | cases hb; done | skip
 rename_i kk i
 cases hi : (decide (0 ≤ i) && decide (i ≤ (top : Int))) with
 | false => rw [hi] at hb; cases hb
 | true =>
  rw [hi] at hb; cases hb
  simp only [Bool.and_eq_true, decide_eq_true_eq] at hi
  have h1 : i ≤ (top' : Int) := by omega
  simp [hi.1, h1]
theorem bnd_int {top d : Nat} {v : Value} {k : Nat} (hb : bnd top d (some v) = some k) : atom v = true := by
 cases v <;> simp only [bnd] at hb <;> first | rfl | cases hb
def hiC (m len : Nat) : Option Value → Option Value → Option Nat
 | none, some _ => none
 | hi, _ => bnd m len hi
def bndsC (len cap : Nat) (lo hi mx : Option Value) : Option (Nat × Nat × Nat) :=
 match bnd cap cap mx with
 | some m => match hiC m len hi mx with
  | some k => match bnd k 0 lo with
   | some l => some (l, k, m)
   | none => none
  | none => none
 | none => none
theorem bnds_run {len cap : Nat} {lo hi mx : Option Value} {l k m : Nat} (hc : bndsC len cap lo hi mx = some (l, k, m)) (w : World) :
  (Instr.sliceBounds true len cap lo hi mx).run P w = .ok (l, k, m) w := by
 unfold bndsC at hc
 split at hc
 case h_2 => cases hc
 rename_i m' hm
 split at hc
 case h_2 => cases hc
 rename_i k' hk
 split at hc
 case h_2 => cases hc
 rename_i l' hl
 cases hc
 have e0 : ∀ v, lo = some v → ∀ (c : BoundsCode) (w : World), (Instr.sliceBound v k c).run P w = .ok l w := fun v e c w => by subst e; exact bnd_run hl c w
 have e1 : lo = none → l = 0 := fun e => by subst e; simpa [bnd, eq_comm] using hl
 clear hl
 cases mx with
 | none =>
  simp only [bnd, Option.some.injEq] at hm; subst hm
  cases hi with
  | none =>
   simp only [hiC, bnd, Option.some.injEq] at hk; subst hk
   cases lo with
   | none => obtain rfl := e1 rfl; simp [Instr.sliceBounds]
   | some u => simp [Instr.sliceBounds, e0 u rfl]
  | some v =>
   have := fun c w => bnd_run (P := P) hk c w
   cases lo with
   | none => obtain rfl := e1 rfl; simp [Instr.sliceBounds, this]
   | some u => simp [Instr.sliceBounds, e0 u rfl, this]
 | some x =>
  have h1 := fun c w => bnd_run (P := P) hm c w
  cases hi with
  | none => cases hk
  | some v =>
   have h2 := fun c w => bnd_run (P := P) hk c w
   cases lo with
   | none => obtain rfl := e1 rfl; simp [Instr.sliceBounds, h1, h2]
   | some u => simp [Instr.sliceBounds, e0 u rfl, h1, h2]
def atomO : Option Value → Bool
 | some v => atom v
 | none => true
def sliceC (P : Program) (h : Hp) (t : TypeId) (lo hi mx : Option Value) : Value → Res
 | .slice (some ⟨n, o, none⟩) len cap =>
  match P.underlying t with
  | some (.slice el) => match szC P el with
   | some z => match bndsC len cap lo hi mx with
    | some (l, k, m) =>
     bif exN n then some (none, .slice (some ⟨n, bif Nat.beq m l then o else o + l * z, none⟩) (k - l) (m - l)) else
      match look h n with
      | some (.cells _ te _ _) => bif Nat.beq (Zp P te) z && (mx.isSome && (Nat.beq m l || !(Nat.beq z 2)) || !mx.isSome && (!(Nat.beq m l) || Nat.beq l 0)) && Nat.ble l m then
        some (none, .slice (some ⟨n, bif Nat.beq m l then o else o + l * z, none⟩) (k - l) (m - l))
       else bif Nat.beq (Zp P te) z && !mx.isSome && Nat.beq m l && Nat.ble k l then some (none, .slice (some ⟨n, o + l * z, some 0⟩) 0 0) else none
      | _ => none
    | none => none
   | none => none
  | _ => none
 | .string s => match P.underlying t with
  | some .string => match mx with
   | none => match bnd s.data.toList.length s.data.toList.length hi with
    | some k => match bnd k 0 lo with
     | some l => some (none, .string ⟨⟨(s.data.toList.drop l).take (k - l)⟩⟩)
     | none => none
    | none => none
   | some _ => none
  | _ => none
 | v => bif flat 2 v && atomO lo && atomO hi && atomO mx then fl P (Instr.sliceAt t v lo hi mx) else none
def OptR (r : Ren) (P : Program) (x y : Option Value) : Prop := match x, y with
 | some a, some b => ValR (Zp P) r a b
 | none, none => True
 | _, _ => False
theorem OptR.eq {x y : Option Value} (hx : OptR r P x y) (ha : ∀ v, x = some v → atom v = true) : y = x := by
 cases x with
 | none => cases y with
  | none => rfl
  | some _ => exact hx.elim
 | some a => cases y with
  | none => exact hx.elim
  | some b => rw [atom_eq (ha _ rfl) hx]
theorem bnds_atoms {len cap : Nat} {lo hi mx : Option Value} {p} (hc : bndsC len cap lo hi mx = some p) : (∀ v, lo = some v → atom v = true) ∧ (∀ v, hi = some v → atom v = true) ∧ (∀ v, mx = some v → atom v = true) := by
 unfold bndsC at hc
 split at hc
 case h_2 => cases hc
 rename_i m' hm
 split at hc
 case h_2 => cases hc
 rename_i k' hk
 split at hc
 case h_2 => cases hc
 rename_i l' hl
 refine ⟨fun v e => by subst e; exact bnd_int hl, fun v e => ?_, fun v e => by subst e; exact bnd_int hm⟩
 subst e
 exact bnd_int hk
theorem bnds_le {len cap : Nat} {lo hi mx : Option Value} {l k m} (hc : bndsC len cap lo hi mx = some (l, k, m)) : m ≤ cap ∧ (mx = none → m = cap) := by
 unfold bndsC at hc
 split at hc
 case h_2 => cases hc
 rename_i m' hm
 split at hc
 case h_2 => cases hc
 split at hc
 case h_2 => cases hc
 cases hc
 cases mx with
 | none => simp only [bnd, Option.some.injEq] at hm; subst hm; exact ⟨Nat.le_refl _, fun _ => rfl⟩
 | some v => exact ⟨bnd_le hm, fun e => by cases e⟩
theorem bnds_more {len cap cap' : Nat} {lo hi mx : Option Value} {l k m} (hc : bndsC len cap lo hi mx = some (l, k, m)) (hle : cap ≤ cap') :
  bndsC len cap' lo hi mx = some (l, k, if mx.isSome then m else cap') := by
 unfold bndsC at hc ⊢
 split at hc
 case h_2 => cases hc
 rename_i m' hm
 split at hc
 case h_2 => cases hc
 rename_i k' hk
 split at hc
 case h_2 => cases hc
 rename_i l' hl
 cases hc
 cases mx with
 | some v =>
  rw [bnd_more hm hle]
  simp only [hk, hl, Option.isSome_some, if_true]
 | none =>
  simp only [bnd, Option.some.injEq] at hm; subst hm
  have hk2 : hiC cap' len hi none = some k := by
   cases hi with
   | none => exact hk
   | some v => exact bnd_more hk hle
  rw [show bnd cap' cap' none = some cap' from rfl]
  simp only [hk2]
  rw [hl]
  rfl
theorem sliceC_sim (hR : Rep N (Zp P) G r h w) {t : TypeId} {v v' : Value} {lo hi mx lo' hi' mx' : Option Value} (hv : ValR (Zp P) r v v') (h1 : OptR r P lo lo') (h2 : OptR r P hi hi') (h3 : OptR r P mx mx')
  {rd x} (hc : sliceC P h t lo hi mx v = some (rd, x)) : PS P (Zp P) r w rd x (Instr.sliceAt t v' lo' hi' mx') := by
 unfold sliceC at hc
 split at hc
 ·rename_i n o len cap
  split at hc
  case h_2 => cases hc
  rename_i el hu
  split at hc
  case h_2 => cases hc
  rename_i z hz
  split at hc
  case h_2 => cases hc
  rename_i l k m hb
  obtain ⟨a1, a2, a3⟩ := bnds_atoms hb
  obtain rfl := h1.eq a1
  obtain rfl := h2.eq a2
  obtain rfl := h3.eq a3
  obtain ⟨hm1, hm2⟩ := bnds_le hb
  cases hv with
  | same ha => simp [atom] at ha
  | @slice _ _ _ _ c' e he hle hex hr =>
   cases hn : exN n with
   | true =>
    rw [hn] at hc; cases hc
    obtain rfl := hex hn
    refine .of _ (.slice he (Nat.le_refl _) (fun _ => rfl) (fun k => by rw [hn] at k; cases k)) (fun w1 => ?_)
    have hs : (bif Nat.beq m l then o else o + l * z) + e.sh = if m = l then o + e.sh else o + e.sh + l * z := by
     cases hml : Nat.beq m l with
     | true => simp [beq_eq.1 hml]
     | false => simp [beq_ne.1 hml]; omega
    rw [hs]
    simp only [Instr.sliceAt, Sem.run_bind, run_underlying hu, Result.andThen_ok, Instr.slice, bnds_run hb, szC_run hz]
    split <;> simp [addr_add]
   | false =>
    rw [hn] at hc
    simp only [cond_false] at hc
    split at hc
    case h_2 => cases hc
    rename_i cs te hi0 ro hl
    cases hq : (Nat.beq (Zp P te) z && (mx'.isSome && (Nat.beq m l || !(Nat.beq z 2)) || !mx'.isSome && (!(Nat.beq m l) || Nat.beq l 0)) && Nat.ble l m) with
    | false =>
     rw [hq] at hc
     simp only [cond_false] at hc
     clear hq
     cases hq : (Nat.beq (Zp P te) z && !mx'.isSome && Nat.beq m l && Nat.ble k l) with
     | false => rw [hq] at hc; cases hc
     | true =>
      rw [hq] at hc; cases hc
      obtain ⟨e', he', o', ho', hO⟩ := hR.obj n _ hl
      obtain rfl := Option.some.inj (he.symm.trans he')
      have hte : e.t = te := by cases o' with
       | cells cs' t' f => exact hO.2.1
       | _ => exact hO.elim
      simp only [Bool.and_eq_true, Bool.not_eq_true', beq_eq] at hq
      obtain ⟨⟨⟨hz2, hq⟩, rfl⟩, hkl⟩ := hq
      have hkl := Nat.le_of_ble_eq_true hkl
      have hr' := hr hn
      rw [hte, hz2] at hr'
      have hb' := bnds_more hb hle
      rw [hq] at hb'
      simp only [Bool.false_eq_true, if_false] at hb'
      refine .of _ (.void (o := o + m * z) (o' := if c' = m then o + e.sh else o + e.sh + m * z) (c' := c' - m) he hn ?_) (fun w1 => ?_)
      ·by_cases hcm : c' = m
       ·exact .inl (by omega)
       ·refine .inr ⟨by rw [if_neg hcm]; omega, ?_⟩
        rw [hte, hz2]
        have h5 : (c' - m) * z + m * z = c' * z := by rw [← Nat.add_mul]; congr 1; omega
        refine ⟨by have := hr'.1; omega, fun h2 h3 => ?_, by have := hr'.2.2; omega⟩
        have := hr'.2.1 h2 (by omega)
        omega
      ·have hk0 : k - m = 0 := by omega
       simp only [Instr.sliceAt, Sem.run_bind, run_underlying hu, Result.andThen_ok, Instr.slice, bnds_run hb', szC_run hz, hk0]
       split <;> simp [addr_add]
    | true =>
     rw [hq] at hc; cases hc
     obtain ⟨e', he', o', ho', hO⟩ := hR.obj n _ hl
     obtain rfl := Option.some.inj (he.symm.trans he')
     have hte : e.t = te := by cases o' with
      | cells cs' t' f => exact hO.2.1
      | _ => exact hO.elim
     simp only [Bool.and_eq_true, Bool.or_eq_true, Bool.not_eq_true', beq_eq, beq_ne] at hq
     obtain ⟨⟨hz2, hq⟩, hlm⟩ := hq
     have hlm := Nat.le_of_ble_eq_true hlm
     have hr' := hr hn
     rw [hte, hz2] at hr'
     have hb' := bnds_more hb hle
     obtain ⟨m', hm'⟩ : ∃ m', m' = (if mx'.isSome then m else c') := ⟨_, rfl⟩
     rw [← hm'] at hb'
     have hmm : m ≤ m' ∧ m' ≤ c' := by
      rw [hm']; split
      ·omega
      ·omega
     have hpos : (bif Nat.beq m l then o else o + l * z) + e.sh = if m' = l then o + e.sh else o + e.sh + l * z := by
      cases hml : Nat.beq m l with
      | true =>
       have hml' := beq_eq.1 hml
       simp only [cond_true]
       rcases hq with ⟨hq, _⟩ | ⟨_, hq | hq⟩
       ·rw [hq] at hm'; simp at hm'; subst hm'; simp [hml']
       ·exact absurd hml' hq
       ·subst hq; split <;> simp
      | false =>
       have hml' := beq_ne.1 hml
       have : m' ≠ l := by
        intro e1
        omega
       simp [this]; omega
     refine .of _ (.slice (c' := m' - l) he (by omega) (fun k => by rw [hn] at k; cases k) (fun _ => ?_)) (fun w1 => ?_)
     ·rw [hte, hz2, hpos]
      refine ⟨?_, ?_, by have := hr'.2.2; omega⟩
      ·split
       ·rename_i e1; rw [e1]; simp; exact Nat.le_trans (by omega) hr'.1
       ·have : (m' - l) * z + l * z ≤ c' * z := by rw [← Nat.add_mul]; exact Nat.mul_le_mul_right z (by omega)
        have := hr'.1
        omega
      ·intro hz3 hlt
       rcases hq with ⟨hq, hq2 | hq2⟩ | ⟨hq, _⟩
       ·rw [hq] at hm'; simp at hm'; omega
       ·exact absurd hz3 hq2
       ·rw [hq] at hm'; simp at hm'; subst hm'
        rw [if_neg (by omega)]
        have : (m' - l) * z + l * z = m' * z := by rw [← Nat.add_mul]; congr 1; omega
        have := hr'.2.1 hz3 (by omega)
        omega
     ·rw [hpos]
      simp only [Instr.sliceAt, Sem.run_bind, run_underlying hu, Result.andThen_ok, Instr.slice, bnds_run hb', szC_run hz]
      split <;> simp [addr_add]
 ·rename_i s
  obtain rfl := atom_eq rfl hv
  split at hc
  case h_2 => cases hc
  rename_i hu
  split at hc
  case h_2 => cases hc
  split at hc
  case h_2 => cases hc
  rename_i k hk
  split at hc
  case h_2 => cases hc
  rename_i l hl
  cases hc
  have hsz : s.data.toList.length = s.size := by simp
  rw [hsz] at hk
  have f1 : ∀ v, hi = some v → atom v = true := fun v e => by subst e; exact bnd_int hk
  have f2 : ∀ v, lo = some v → atom v = true := fun v e => by subst e; exact bnd_int hl
  obtain rfl := h1.eq f2
  obtain rfl := h2.eq f1
  obtain rfl := h3.eq (fun v e => by cases e)
  refine .of _ (.same rfl) (fun w1 => ?_)
  have e : s.extract l k = ⟨⟨(s.data.toList.drop l).take (k - l)⟩⟩ := by
   apply ByteArray.ext
   rw [ByteArray.data_extract]
   apply Array.ext'; simp
  cases hi' with
  | none =>
   simp only [bnd, Option.some.injEq] at hk; subst hk
   cases lo' with
   | none => simp only [bnd, Option.some.injEq] at hl; subst hl; simp [Instr.sliceAt, run_underlying hu, Instr.slice, Instr.sliceBounds]; simpa using e
   | some v => simp [Instr.sliceAt, run_underlying hu, Instr.slice, Instr.sliceBounds, e, bnd_run hl]
  | some u =>
   cases lo' with
   | none => simp only [bnd, Option.some.injEq] at hl; subst hl; simp [Instr.sliceAt, run_underlying hu, Instr.slice, Instr.sliceBounds, e, bnd_run hk]
   | some v => simp [Instr.sliceAt, run_underlying hu, Instr.slice, Instr.sliceBounds, e, bnd_run hk, bnd_run hl]
 ·cases hf : (flat 2 v && atomO lo && atomO hi && atomO mx) with
  | false => rw [hf] at hc; cases hc
  | true =>
   rw [hf] at hc
   simp only [Bool.and_eq_true] at hf
   obtain ⟨⟨⟨f1, f2⟩, f3⟩, f4⟩ := hf
   obtain rfl := flat_eq 2 f1 hv
   obtain rfl := h1.eq (fun v e => by subst e; exact f2)
   obtain rfl := h2.eq (fun v e => by subst e; exact f3)
   obtain rfl := h3.eq (fun v e => by subst e; exact f4)
   exact fl_sim hc
end Go.Proofs.YtdkainiiinjgmaaGreatDoor.Exe
namespace Go.Proofs.YtdkainiiinjgmaaGreatDoor.Exe
open Go
variable {N : Nat → Prop} {P : Program} {G : Nat} {r : Ren} {h : Hp} {w : World}
def zeroC (P : Program) (t : TypeId) : Option Value := match P.info? t with
 | some i => match i.zero with
  | some v => bif flat 4 v then some v else none
  | none => none
 | none => none
theorem zeroC_run {t : TypeId} {v : Value} (hc : zeroC P t = some v) (w : World) : (zeroValue t).run P w = .ok v w := by
 unfold zeroC at hc
 split at hc
 case h_2 => cases hc
 rename_i i hi
 split at hc
 case h_2 => cases hc
 rename_i u hu
 cases hf : flat 4 u with
 | false => rw [hf] at hc; cases hc
 | true => rw [hf] at hc; cases hc; simp [zeroValue, run_typeInfo w hi, hu]
theorem zeroC_flat {t : TypeId} {v : Value} (hc : zeroC P t = some v) : flat 4 v = true := by
 unfold zeroC at hc
 split at hc
 case h_2 => cases hc
 split at hc
 case h_2 => cases hc
 rename_i u hu
 cases hf : flat 4 u with
 | false => rw [hf] at hc; cases hc
 | true => rw [hf] at hc; cases hc; exact hf
def okKey : TypeDesc → Value → Bool
 | .string, .string _ => true
 | .int _, .int _ _ => true
 | .bool, .bool _ => true
 | _, _ => false
def findC (kd : TypeDesc) (k : Value) : List (Value × Value × Nat) → Nat → Option (Option (Nat × Value))
 | [], _ => some none
 | (key, v, _) :: es, i => match Instr.sameNow kd k key with
  | some true => some (some (i, v))
  | some false => findC kd k es (i + 1)
  | none => none
def EntsR (P : Program) (r : Ren) (es : List (Value × Value × Nat)) (es' : List MapEntry) : Prop :=
 es.length = es'.length ∧ ∀ (i : Nat) (x : Value × Value × Nat) (y : MapEntry), es[i]? = some x → es'[i]? = some y → (y.key = x.1 ∧ flat 3 x.1 = true) ∧ ValR (Zp P) r x.2.1 y.val ∧ y.born = x.2.2
theorem EntsR.head {x es es'} (hE : EntsR P r (x :: es) es') : ∃ y ys, es' = y :: ys ∧ y.key = x.1 ∧ flat 3 x.1 = true ∧ ValR (Zp P) r x.2.1 y.val ∧ y.born = x.2.2 ∧ EntsR P r es ys := by
 cases es' with
 | nil => have := hE.1; simp at this
 | cons y ys =>
  obtain ⟨⟨a, b⟩, c, d⟩ := hE.2 0 x y rfl rfl
  exact ⟨y, ys, rfl, a, b, c, d, by have := hE.1; simpa using this, fun i u v hu hv => hE.2 (i + 1) u v (by simpa using hu) (by simpa using hv)⟩
theorem findC_sim {kd : TypeDesc} {k : Value} : ∀ {es es'} {i : Nat} {q}, EntsR P r es es' → findC kd k es i = some q →
  ∃ q', Instr.findNow kd k es' i = some q' ∧ (match q, q' with | none, none => True | some (a, v), some (b, v') => a = b ∧ ValR (Zp P) r v v' | _, _ => False) := by
 intro es
 induction es with
 | nil =>
  intro es' i q hE hc
  cases es' with
  | nil => cases hc; exact ⟨none, rfl, trivial⟩
  | cons _ _ => have := hE.1; simp at this
 | cons x es ih =>
  intro es' i q hE hc
  obtain ⟨y, ys, rfl, hk, hf, hv, hb, hE'⟩ := hE.head
  obtain ⟨key, v, b⟩ := x
  simp only [findC] at hc
  simp only [Instr.findNow, hk]
  split at hc
  ·rename_i hs; cases hc; rw [hs]; exact ⟨_, rfl, rfl, hv⟩
  ·rename_i hs; rw [hs]; exact ih hE' hc
  ·cases hc
theorem checkKey_run {kt : TypeId} {kd : TypeDesc} {k : Value} {b : Bool} (hu : P.underlying kt = some kd) (hk : okKey kd k = true) (w : World) : (Instr.checkKey b 10000 kt k).run P w = .ok () w := by
 have : (10000 : Nat) = 9999 + 1 := rfl
 rw [this]
 generalize 9999 = D
 cases kd <;> cases k <;> first | (simp [okKey] at hk; done) | simp [Instr.checkKey, run_underlying hu]
def wideK : TypeDesc → Bool
 | .struct _ => true
 | _ => false
def findW (P : Program) (kt : TypeId) (k : Value) : List (Value × Value × Nat) → Nat → Option (Option (Nat × Value))
 | [], _ => some none
 | (key, v, _) :: es, i => match pureRun P (Op.equal kt k key) with
  | some true => some (some (i, v))
  | some false => findW P kt k es (i + 1)
  | none => none
theorem findW_sim {kt : TypeId} {k : Value} : ∀ {es es'} {i : Nat} {q}, EntsR P r es es' → findW P kt k es i = some q →
  ∃ q', (∀ w, (Instr.findAsking kt k es' i).run P w = .ok q' w) ∧ (match q, q' with | none, none => True | some (a, v), some (b, v') => a = b ∧ ValR (Zp P) r v v' | _, _ => False) := by
 intro es
 induction es with
 | nil =>
  intro es' i q hE hc
  cases es' with
  | nil => cases hc; exact ⟨none, fun w => rfl, trivial⟩
  | cons _ _ => have := hE.1; simp at this
 | cons x es ih =>
  intro es' i q hE hc
  obtain ⟨y, ys, rfl, hk, hf, hv, hb, hE'⟩ := hE.head
  obtain ⟨key, v, b⟩ := x
  simp only [findW] at hc
  dsimp only at hk
  split at hc
  ·rename_i hs; cases hc
   have := fun w => pureRun_run hs w
   exact ⟨some (i, y.val), fun w => by simp [Instr.findAsking, hk, Sem.run_bind, this w, Result.andThen], rfl, hv⟩
  ·rename_i hs
   obtain ⟨q', h1, h2⟩ := ih hE' hc
   have := fun w => pureRun_run hs w
   exact ⟨q', fun w => by simp [Instr.findAsking, hk, Sem.run_bind, this w, Result.andThen, h1], h2⟩
  ·cases hc
theorem findKey_wide {kt : TypeId} {kd : TypeDesc} {k : Value} {es' : List MapEntry} (hu : P.underlying kt = some kd) (hw : wideK kd = true) (w : World) : (Instr.findKey kt k es').run P w = (Instr.findAsking kt k es').run P w := by
 cases kd with
 | struct fs =>
  cases es' with
  | nil => simp [Instr.findKey, run_underlying hu, Instr.findNow, Instr.findAsking]
  | cons e es => simp [Instr.findKey, Sem.run_bind, run_underlying hu, Instr.findNow, Instr.sameNow]
 | _ => simp [wideK] at hw
def chkW (P : Program) (kt : TypeId) (k : Value) (em : Bool) : Bool := match pureRun P (Instr.checkKey em 10000 kt k) with
 | some _ => true
 | none => false
theorem chkW_run {kt : TypeId} {k : Value} {em : Bool} (h : chkW P kt k em = true) (w : World) : (Instr.checkKey em 10000 kt k).run P w = .ok () w := by
 unfold chkW at h
 split at h
 ·rename_i h1; exact pureRun_run h1 w
 ·cases h
def packC (ok : Bool) (v : Value) (b : Bool) : Value := bif ok then .tuple #[v, .bool b] else v
def lookupW (P : Program) (h : Hp) (kt el : TypeId) (ok : Bool) (n : Nat) (k : Value) : Res := bif flat 3 k then
  match look h n with
  | some (.map es _ _) => bif chkW P kt k es.isEmpty then
    match findW P kt k es 0 with
    | some (some (_, v)) => some (some n, packC ok v true)
    | some none => match zeroC P el with
     | some z => some (some n, packC ok z false)
     | none => none
    | none => none
   else none
  | _ => none
 else none
def lookupC (P : Program) (h : Hp) (t : TypeId) (ok : Bool) (m k : Value) : Res :=
 match m with
 | .map (some n) => match P.underlying t with
  | some (.map kt el) => match P.underlying kt with
   | some kd => bif okKey kd k then
     match look h n with
     | some (.map es _ _) => match findC kd k es 0 with
      | some (some (_, v)) => some (some n, packC ok v true)
      | some none => match zeroC P el with
       | some z => some (some n, packC ok z false)
       | none => none
      | none => none
     | _ => none
    else bif wideK kd then lookupW P h kt el ok n k else none
   | none => none
  | _ => none
 | m => bif flat 2 m && flat 2 k then fl P (Instr.lookup t m k ok) else none
theorem packC_sim {ok b : Bool} {v v' : Value} (hv : ValR (Zp P) r v v') : ValR (Zp P) r (packC ok v b) (packC ok v' b) := by
 cases ok with
 | false => exact hv
 | true => exact .tupleL (xs := [v, .bool b]) (ys := [v', .bool b]) ((ValsR.nil.cons (.same rfl)).cons hv)
theorem lookupW_sim (hR : Rep N (Zp P) G r h w) {t kt el : TypeId} {kd : TypeDesc} {ok : Bool} {n : Nat} {m' k k' : Value} (hu : P.underlying t = some (.map kt el)) (hkd : P.underlying kt = some kd) (hwk : wideK kd = true) (hm : ValR (Zp P) r (.map (some n)) m') (hk : ValR (Zp P) r k k') {rd x} (hc : lookupW P h kt el ok n k = some (rd, x)) :
  PS P (Zp P) r w rd x (Instr.lookup t m' k' ok) := by
 unfold lookupW at hc
 cases hf : flat 3 k with
 | false => rw [hf] at hc; cases hc
 | true =>
  rw [hf] at hc
  simp only [cond_true] at hc
  obtain rfl := flat_eq 3 hf hk
  split at hc
  case h_2 => cases hc
  rename_i es ck ro hl
  cases hck : chkW P kt k' es.isEmpty with
  | false => rw [hck] at hc; cases hc
  | true =>
   rw [hck] at hc
   simp only [cond_true] at hc
   cases hm with
   | same ha => simp [atom] at ha
   | @map _ e he =>
    obtain ⟨e', he', o', ho', hO⟩ := hR.obj n _ hl
    obtain rfl := Option.some.inj (he.symm.trans he')
    cases o' with
    | map es' c' =>
     have hE : EntsR P r es es'.toList := ⟨by simpa using hO.2.1, fun i x y a b => hO.2.2 i x y a (by simpa using b)⟩
     have hem : es'.isEmpty = es.isEmpty := by
      have hlen : es.length = es'.size := by simpa using hE.1
      unfold Array.isEmpty
      rw [← hlen]
      cases es <;> simp
     split at hc
     ·rename_i j v hf
      cases hc
      obtain ⟨q', hq, hr⟩ := findW_sim hE hf
      cases q' with
      | none => exact hr.elim
      | some p =>
       obtain ⟨j', v'⟩ := p
       refine ⟨_, packC_sim hr.2, fun w1 hw1 => ?_⟩
       have hw := (hw1 n _ rfl he).trans ho'
       simp only [Instr.lookup, Sem.run_bind, run_underlying hu, Result.andThen_ok, getObj, Sem.run, hw, findKey_wide hkd hwk]
       cases ok <;> simp [packC, hq, hem, chkW_run hck]
     ·rename_i hf
      split at hc
      case h_2 => cases hc
      rename_i z hz
      cases hc
      obtain ⟨q', hq, hr⟩ := findW_sim hE hf
      cases q' with
      | some p => exact hr.elim
      | none =>
       refine ⟨_, packC_sim (flat_refl 4 (zeroC_flat hz)), fun w1 hw1 => ?_⟩
       have hw := (hw1 n _ rfl he).trans ho'
       simp only [Instr.lookup, Sem.run_bind, run_underlying hu, Result.andThen_ok, getObj, Sem.run, hw, findKey_wide hkd hwk]
       cases ok <;> simp [packC, hq, hem, chkW_run hck, zeroC_run hz]
     ·cases hc
    | _ => exact hO.elim
theorem lookupC_sim (hR : Rep N (Zp P) G r h w) {t : TypeId} {ok : Bool} {m m' k k' : Value} (hm : ValR (Zp P) r m m') (hk : ValR (Zp P) r k k') {rd x} (hc : lookupC P h t ok m k = some (rd, x)) :
  PS P (Zp P) r w rd x (Instr.lookup t m' k' ok) := by
 unfold lookupC at hc
 split at hc
 ·rename_i n
  split at hc
  case h_2 => cases hc
  rename_i kt el hu
  split at hc
  case h_2 => cases hc
  rename_i kd hkd
  cases hok : okKey kd k with
  | false =>
   rw [hok] at hc
   simp only [cond_false] at hc
   cases hwk : wideK kd with
   | false => rw [hwk] at hc; cases hc
   | true => rw [hwk] at hc; exact lookupW_sim hR hu hkd hwk hm hk hc
  | true =>
   rw [hok] at hc
   simp only [cond_true] at hc
   have hak : atom k = true := by cases kd <;> cases k <;> first | rfl | (simp [okKey] at hok; done)
   obtain rfl := atom_eq hak hk
   split at hc
   case h_2 => cases hc
   rename_i es ck ro hl
   cases hm with
   | same ha => simp [atom] at ha
   | @map _ e he =>
    obtain ⟨e', he', o', ho', hO⟩ := hR.obj n _ hl
    obtain rfl := Option.some.inj (he.symm.trans he')
    cases o' with
    | map es' c' =>
     have hE : EntsR P r es es'.toList := ⟨by simpa using hO.2.1, fun i x y a b => hO.2.2 i x y a (by simpa using b)⟩
     split at hc
     ·rename_i j v hf
      cases hc
      obtain ⟨q', hq, hr⟩ := findC_sim hE hf
      cases q' with
      | none => exact hr.elim
      | some p =>
       obtain ⟨j', v'⟩ := p
       refine ⟨_, packC_sim hr.2, fun w1 hw1 => ?_⟩
       have hw := (hw1 n _ rfl he).trans ho'
       simp only [Instr.lookup, Sem.run_bind, run_underlying hu, Result.andThen_ok, getObj, Sem.run, hw, checkKey_run hkd hok, Instr.findKey, run_underlying hkd]
       cases ok <;> simp [packC, hq]
     ·rename_i hf
      split at hc
      case h_2 => cases hc
      rename_i z hz
      cases hc
      obtain ⟨q', hq, hr⟩ := findC_sim hE hf
      cases q' with
      | some p => exact hr.elim
      | none =>
       refine ⟨_, packC_sim (flat_refl 4 (zeroC_flat hz)), fun w1 hw1 => ?_⟩
       have hw := (hw1 n _ rfl he).trans ho'
       simp only [Instr.lookup, Sem.run_bind, run_underlying hu, Result.andThen_ok, getObj, Sem.run, hw, checkKey_run hkd hok, Instr.findKey, run_underlying hkd]
       cases ok <;> simp [packC, hq, zeroC_run hz]
     ·cases hc
    | _ => exact hO.elim
 ·cases hf : (flat 2 m && flat 2 k) with
  | false => rw [hf] at hc; cases hc
  | true =>
   rw [hf] at hc
   simp only [Bool.and_eq_true] at hf
   obtain rfl := flat_eq 2 hf.1 hm
   obtain rfl := flat_eq 2 hf.2 hk
   exact fl_sim hc
def PartsR (P : Program) (r : Ren) (xs ys : List (Nat × Value)) : Prop := xs.length = ys.length ∧ ∀ (i : Nat) x y, xs[i]? = some x → ys[i]? = some y → x.1 = y.1 ∧ ValR (Zp P) r x.2 y.2
def ArrR (P : Program) (r : Ren) (xs ys : Array Value) : Prop := xs.size = ys.size ∧ ∀ (i : Nat) x y, xs[i]? = some x → ys[i]? = some y → ValR (Zp P) r x y
theorem ValR.cells {v v' : Value} (hv : ValR (Zp P) r v v') : ArrR P r v.cells v'.cells := by
 have one : ∀ {a b : Value}, ValR (Zp P) r a b → ArrR P r #[a] #[b] := fun hab => ⟨rfl, fun i x y hx hy => by
  cases i with
  | zero => simp at hx hy; subst hx; subst hy; exact hab
  | succ i => simp at hx⟩
 cases hv with
 | same ha => cases v <;> first | exact one (.same ha) | (simp [atom] at ha; done)
 | ptr he => exact one (.ptr he)
 | slice a b c d => exact one (.slice a b c d)
 | void a b c => exact one (.void a b c)
 | map he => exact one (.map he)
 | yield he => exact one (.yield he)
 | func a b c d => exact one (.func a b c d)
 | iface a => exact one (.iface a)
 | agg a b => exact ⟨a, b⟩
 | tuple a b => exact one (.tuple a b)
theorem fold_set {off : Nat} : ∀ {us vs : List Value} {xs ys : Array Value} {j : Nat}, ValsR (Zp P) r us vs → ArrR P r xs ys →
  ArrR P r ((us.zipIdx j).foldl (fun cs (p : Value × Nat) => cs.setIfInBounds (off + p.2) p.1) xs) ((vs.zipIdx j).foldl (fun cs (p : Value × Nat) => cs.setIfInBounds (off + p.2) p.1) ys) := by
 intro us
 induction us with
 | nil => intro vs xs ys j hs hx; cases vs with
  | nil => exact hx
  | cons _ _ => have := hs.1; simp at this
 | cons u us ih =>
  intro vs xs ys j hs hx
  obtain ⟨v, vs', rfl, h1, h2⟩ := hs.head
  simp only [List.zipIdx_cons, List.foldl_cons]
  refine ih h2 ⟨by simp [hx.1], fun i a b ha hb => ?_⟩
  rw [Array.getElem?_setIfInBounds] at ha hb
  split at ha
  ·rename_i hij
   rw [if_pos hij] at hb
   split at ha
   ·split at hb
    ·cases ha; cases hb; exact h1
    ·cases hb
   ·cases ha
  ·rename_i hij
   rw [if_neg hij] at hb
   exact hx.2 i a b ha hb
theorem fill_sim {pl : Nat → Option (Nat × Nat)} : ∀ {ps qs : List (Nat × Value)} {xs ys zs : Array Value}, PartsR P r ps qs → ArrR P r xs ys → Instr.fill pl xs ps = some zs →
  ∃ zs', Instr.fill pl ys qs = some zs' ∧ ArrR P r zs zs' := by
 intro ps
 induction ps with
 | nil => intro qs xs ys zs hp hx hc; cases qs with
  | nil => cases hc; exact ⟨ys, rfl, hx⟩
  | cons _ _ => have := hp.1; simp at this
 | cons p ps ih =>
  intro qs xs ys zs hp hx hc
  cases qs with
  | nil => have := hp.1; simp at this
  | cons q qs =>
   obtain ⟨i, v⟩ := p
   obtain ⟨i', v'⟩ := q
   obtain ⟨h1, h2⟩ := hp.2 0 _ _ rfl rfl
   dsimp only at h1 h2
   subst h1
   have hp' : PartsR P r ps qs := ⟨by have := hp.1; simpa using this, fun i x y a b => hp.2 (i + 1) x y (by simpa using a) (by simpa using b)⟩
   simp only [Instr.fill] at hc ⊢
   split at hc
   ·cases hc
   ·rename_i off size hpl
    have hcell := h2.cells
    split at hc
    ·cases hc
    ·rename_i hif
     rw [← hcell.1, ← hx.1, if_neg hif]
     refine ih hp' ?_ hc
     have := fold_set (off := off) (j := 0) (us := v.cells.toList) (vs := v'.cells.toList) ⟨by simpa using hcell.1, fun i x y a b => hcell.2 i x y (by simpa using a) (by simpa using b)⟩ hx
     have e : ∀ (us0 : Array Value) (cs : Array Value), Array.foldl (fun cs (x : Value × Nat) => cs.setIfInBounds (off + x.2) x.1) cs us0.zipIdx = (us0.toList.zipIdx 0).foldl (fun cs (p : Value × Nat) => cs.setIfInBounds (off + p.2) p.1) cs := by
      intro us0 cs
      rw [← Array.foldl_toList]; simp
     rw [← e, ← e] at this; exact this
def buildC (P : Program) (t : TypeId) (ps : List (Nat × Value)) : Res :=
 match zeroC P t with
 | some z => match P.underlying t with
  | some (.struct fs) => match pureRun P (fs.mapM fun f => do pure (f.offset, ← sizeOf f.type) : Sem (Array (Nat × Nat))) with
   | some pl => match Instr.fill (fun i => pl[i]?) z.cells ps with
    | some cs => some (none, .agg cs)
    | none => none
   | none => none
  | _ => none
 | none => none
theorem buildC_sim {t : TypeId} {ps qs : List (Nat × Value)} (hp : PartsR P r ps qs) {rd x} (hc : buildC P t ps = some (rd, x)) : PS P (Zp P) r w rd x (Instr.build t qs.toArray) := by
 unfold buildC at hc
 split at hc
 case h_2 => cases hc
 rename_i z hz
 split at hc
 case h_2 => cases hc
 rename_i fs hu
 split at hc
 case h_2 => cases hc
 rename_i pl hpl
 split at hc
 case h_2 => cases hc
 rename_i cs hf
 cases hc
 obtain ⟨cs', h1, h2⟩ := fill_sim hp (flat_refl 4 (zeroC_flat hz)).cells hf
 refine .of _ (.agg h2.1 h2.2) (fun w1 => ?_)
 have h3 := pureRun_run hpl
 simp only [Instr.build, Sem.run_bind, zeroC_run hz, Result.andThen_ok, run_underlying hu]
 rw [h3]
 simp only [Result.andThen_ok]
 rw [h1]
 rfl
end Go.Proofs.YtdkainiiinjgmaaGreatDoor.Exe
