/- What the rows' list of variables gives the walks, and a world for the witnesses. What the start of the group's laws reckons, as closed facts on plain functions. The start of the group's laws answers true. What the rows' list of variables gives the walks of the group's laws: the commands' names, too. -/
import Derived.Test.YtlmnabhhgplhnaaGreatDoorTie
import Derived.Test.YtlmnabhhgplhnaaGreatDoorCards
import Derived.Test.YtlmnabhhgplhnaaGreatDoorMwalk
import Derived.ProofKit
import Derived.OpenShut
import Derived.Deep.DeepHandedRow
import Derived.Lib.LaidTab
import Derived.Lib.LaidU8
import Derived.Stop.LaidErr
import Derived.Stop.Joined
import Derived.Lay
import Derived.Shelf.Vars
import Derived.Test.YtlmnabhhgplhnaaGreatDoorMpar
import Derived.Test.YtlmnabhhgplhnaaGreatDoorMpri
namespace Go.Proofs.YtlmnabhhgplhnaaGreatDoor
open Go.ChangeShapes Go.WideShapes Go.ChangeAt Go.RowKit

theorem own : ownKnob Tryz.prog.godebug = none := by kernel_rfl
theorem gTab : Tryz.prog.globalNamed powName = some 2 := by kernel_rfl
theorem gTabT : (Tryz.prog.globals[2]?).map (·.type) = some 187 := by kernel_rfl
theorem cellsTab : Tryz.prog.cellsOf 187 = 20 := by kernel_rfl
theorem cellsU64 : Tryz.prog.cellsOf 160 = 1 := by kernel_rfl

abbrev laidL : List (String × DataW Unit) := Rows.printBackRow.laid

theorem glob_of {W : World} (hL : laidMetH Tryz.prog laidL W) (hS : W.ShapedOpen Tryz.prog) : Glob W := by
  rw [MakeChecks.laidMetH_plain _ _ _ (by kernel_rfl)] at hL
  have ht : Lib.TabIs Tryz.prog W powName .u64 Lib.pow10Tab := Lib.tabIs_of_head gTab gTabT Tryz.underlying187 Tryz.underlying160 cellsU64 cellsTab hL.tail.tail
  have herr : ∀ n d g, (n, d) ∈ laidL → Tryz.prog.globalNamed n = some g → (Tryz.prog.globals[g]?).map (·.type) = some 62 → (∃ nm x, d = .iface nm x) → ∃ tp p, W.cell? ⟨g, 0, none⟩ = some (.iface tp p) := by
    rintro n d g hm hg hty ⟨nm, x, rfl⟩
    obtain ⟨g', t', cs, fuel, p, hg', ht', hv, hd⟩ := Lib.laidMet.reads hL hm
    obtain rfl := Option.some.inj (hg.symm.trans hg')
    obtain rfl := Option.some.inj (hty.symm.trans ht')
    obtain ⟨f1, u, v, hcs, _⟩ := iface_of_trod Tryz.underlying62 hd
    refine ⟨u, v, ?_⟩
    have := World.var?_cell hg hv 0
    rw [Array.eq_one_of_toList hcs] at this
    simpa using this
  refine ⟨?_, ht, ?_, ?_, ?_⟩
  · exact cell_of_shapedOpen_int (zero := #[.int .i64 0]) (t := 3) hS (of_decide_eq_true (by kernel_rfl)) (by kernel_rfl) rfl (by kernel_rfl) (by kernel_rfl) Tryz.underlying3
  · exact cell_lt (Lib.TabIs.cell ht gTab 0 (by decide))
  · exact herr _ _ _ (.tail _ (.tail _ (.tail _ (.tail _ (.tail _ (.head _)))))) (by kernel_rfl) (by kernel_rfl) ⟨_, _, rfl⟩
  · exact herr _ _ _ (.tail _ (.tail _ (.tail _ (.tail _ (.head _))))) (by kernel_rfl) (by kernel_rfl) ⟨_, _, rfl⟩

theorem laid_met (os : Os) (args : Array Value) : laidMetH Tryz.prog laidL ((World.laidAll Tryz.prog os laidL).forCall (fun _ _ => 0) ⟨#[], args, []⟩).memory := by
  rw [MakeChecks.laidMetH_plain _ _ _ (by kernel_rfl)]
  exact laidMet_laidAll _ (by kernel_rfl) (by kernel_rfl)

theorem laidOut : laidOutB Tryz.prog = true := by kernel_rfl

theorem trodAll_below {H : Type} {enc : TypeId × Value → H} {W W' : World} (hb : Below W.heap.size W W') : ∀ {ts : List TypeId} {vs : List Value} {ds : List (DataW H)} {ps : List MemPlace},
    DataW.TrodAll enc Tryz.prog W 0 (fun _ => true) true ts vs ds ps → (∀ x ∈ ps, x.block < W.heap.size) → (ts.all fun t => Tryz.prog.readableRec t && decide (t < Tryz.prog.types.size)) = true →
    DataW.TrodAll enc Tryz.prog W' 0 (fun b => decide (b < W.heap.size)) true ts vs ds ps := by
  intro ts
  induction ts with
  | nil =>
    intro vs ds ps h _ _
    cases vs <;> cases ds <;> simp_all [DataW.TrodAll]
  | cons t ts ih =>
    intro vs ds ps h hlt hr
    obtain ⟨v, vs', d, ds', p, q, rfl, rfl, rfl, h0, h1⟩ := trodAll_cons h
    rw [List.all_cons, Bool.and_eq_true, Bool.and_eq_true] at hr
    exact ⟨p, q, Below.trod laidOut hr.1.1 (of_decide_eq_true hr.1.2) h0 hb (fun x hx => hlt x (List.mem_append_left _ hx)), ih h1 (fun x hx => hlt x (List.mem_append_right _ hx)) hr.2, rfl⟩

/-- What a law owes behind its walk. -/
theorem law_post {H : Type} {enc : TypeId × Value → H} {fn : Func} {spec : ChangeSpec} {W W' : World} {args : Array Value} {ds gs : List (DataW H)} {before : List MemPlace}
    (hvars : spec.vars = []) (hres : fn.resultTypes = #[4]) (n : Nat) (hn : fn.params.size = n) (hfn : ∀ H (xs : List (DataW H)), xs.length = n → spec.fn H xs = { results := [.lit (.bool true)], args := xs })
    (hW : DataW.Whole enc Tryz.prog fn.params.toList spec.vars false W args.toList ds gs before) (hb : Below W.heap.size W W')
    (hr : (fn.params.toList.all fun t => Tryz.prog.readableRec t && decide (t < Tryz.prog.types.size)) = true) :
    spec.post enc Tryz.prog fn false true false false W args (.bool true) W' := by
  have hW' := hW
  have hlt := hW.lt
  obtain ⟨p, q, hA, hV, rfl, hfz, hnd⟩ := hW
  rw [hvars] at hV
  obtain ⟨rfl, rfl⟩ := trodVars_none hV
  have hl : ∀ {ts : List TypeId} {vs : List Value} {ds : List (DataW H)} {ps : List MemPlace}, DataW.TrodAll enc Tryz.prog W 0 (fun _ => true) true ts vs ds ps → ds.length = ts.length := by
    intro ts
    induction ts with
    | nil => intro vs ds ps h; cases vs <;> cases ds <;> simp_all [DataW.TrodAll]
    | cons t ts ih =>
      intro vs ds ps h
      obtain ⟨v, vs', d, ds', p, q, rfl, rfl, rfl, _, h'⟩ := trodAll_cons h
      simp [ih h']
  have hdl := hl hA
  have e : spec.fn H (ds ++ []) = { results := [.lit (.bool true)], args := ds } := by
    rw [List.append_nil]; exact hfn H ds (by rw [hdl, ← hn]; simp)
  refine ⟨ds, [], _, [], p, [], hW', ?_, ?_, ?_, hb.frame _, fun h => by cases h⟩
  · rw [e, hres]; exact trodAll_mk1 (shut_bool Tryz.underlying4 _)
  · rw [e]; exact trodAll_below hb hA (fun x hx => hlt x (by simpa using hx)) hr
  · rw [e, hvars]; exact rfl

/-- The world in which a witness starts. -/
theorem wit_shaped (os : Os) (args : Array Value) : ((World.laidAll Tryz.prog os laidL).forCall (fun _ _ => 0) ⟨#[], args, []⟩).Shaped Tryz.prog := World.shaped_of_ZipB (by kernel_rfl) (by kernel_rfl)

theorem wit_of {H : Type} {enc : TypeId × Value → H} {os : Os} {f : FuncId} {fn : Func} {s : OpenSpec} {conds : List PathCond} {apart : Bool} (args : Array Value)
    (hok : Input.okWideB Tryz.prog ((World.laidAll Tryz.prog os laidL).forCall (fun _ _ => 0) ⟨#[], args, []⟩) f ⟨#[], args, []⟩ = true)
    (hrow : s.preRow enc Tryz.prog fn conds apart laidL ((World.laidAll Tryz.prog os laidL).forCall (fun _ _ => 0) ⟨#[], args, []⟩).memory args) :
    ∃ (w : World) (tape : Tape) (i : Input), w.os = os ∧ (w.forCall tape i).Shaped Tryz.prog ∧ i.vars = [] ∧ Input.okWide Tryz.prog (w.forCall tape i) .any w.heap.size f i ∧
      s.preRow enc Tryz.prog fn conds apart laidL (w.forCall tape i).memory i.args ∧ ({} : Assume).holds Tryz.prog (lone (Frame.enter Tryz.prog f i.args .normal) [] (w.forCall tape i)) :=
  ⟨World.laidAll Tryz.prog os laidL, fun _ _ => 0, ⟨#[], args, []⟩, World.laidAll_os _ _ _, wit_shaped os args, (Input.okWide_of_okWideB (base := 0) hok).1, (Input.okWide_of_okWideB hok).2, hrow, by
    simp only [Assume.holds]
    exact ⟨by simp, by simp, fun h => by simp at h, by simp, by simp⟩⟩
end Go.Proofs.YtlmnabhhgplhnaaGreatDoor
namespace Go.Proofs.YtlmnabhhgplhnaaGreatDoor

def skipG : Bool → List UInt8 → Nat
  | _, [] => 0
  | false, c :: r => if blankB c then skipG false r + 1 else if c = 35 then skipG true r + 1 else 0
  | true, c :: r => if c = 10 then skipG false r + 1 else skipG true r + 1
theorem skipG_eq : ∀ (l : List UInt8) (b : Bool), skipN b l = skipG b l
  | [], b => by simp [skip_nil, skipG]
  | c :: r, false => by
    rw [skipG, skipN, skipG_eq r false, skipG_eq r true]
  | c :: r, true => by
    rw [skipG]
    by_cases h : c = 10
    · rw [skip_out r h, if_pos h, skip_blank r (by rw [h]; decide), skipG_eq r false]
    · rw [skip_in r h, if_neg h, skipG_eq r true]
def allG : Nat → Nat → List UInt8 → Except Nat (List WordT)
  | 0, at', _ => .error at'
  | f + 1, at', l =>
    if l.drop (skipG false l) = [] then .ok [(4, at' + skipG false l, [])] else
      match wordS (l.drop (skipG false l)) with
      | none => .error (at' + skipG false l)
      | some (k, t, n) => match allG f (at' + skipG false l + n) ((l.drop (skipG false l)).drop n) with
        | .error e => .error e
        | .ok ws => .ok ((k, at' + skipG false l, t) :: ws)
theorem allG_eq : ∀ (f a : Nat) (l : List UInt8), allF f a l = allG f a l
  | 0, _, _ => rfl
  | f + 1, a, l => by
    rw [allF_succ, skipG_eq]
    show _ = allG (f + 1) a l
    rw [allG]
    by_cases hd : l.drop (skipG false l) = []
    · rw [if_pos hd, if_pos hd]
    · rw [if_neg hd, if_neg hd]
      cases wordS (l.drop (skipG false l)) with
      | none => rfl
      | some x =>
        obtain ⟨k, t, n⟩ := x
        have h := allG_eq f (a + skipG false l + n) ((l.drop (skipG false l)).drop n)
        simp only [h]
        cases allG f (a + skipG false l + n) ((l.drop (skipG false l)).drop n) <;> rfl
theorem allS_G (l : List UInt8) : allS l = allG (l.length + 1) 0 l := allG_eq _ _ _
def fileG (l : List UInt8) : Except (Int × Int) (List RuleS) :=
  if 20000 < l.length then .error (4, -1) else
    match allG (l.length + 1) 0 l with
    | .error p => .error (1, p)
    | .ok ws => let r := rulesP ws (0, false); if r.2.2 then .error (1, ((wAt ws r.2.1).2.1 : Int)) else .ok r.1
theorem fileS_G (l : List UInt8) : fileS l = fileG l := by
  unfold fileS fileG
  rw [allS_G]
  split
  · rfl
  · cases allG (l.length + 1) 0 l <;> rfl

def t1 : List UInt8 := [97, 32, 34, 92, 120, 52, 49, 34, 32, 59]
def t2 : List UInt8 := [114, 117, 108, 101, 32, 114, 32, 123, 32, 105, 110, 32, 98, 44, 32, 97, 59, 32, 111, 117, 116, 32, 120, 59, 32, 35, 32, 110, 111, 10, 32, 120, 32, 61, 32, 115, 101, 108, 101, 99, 116, 32, 34, 113, 92, 110, 34, 32, 97, 59, 32, 125]
def t3 : List UInt8 := [114, 117, 108, 101, 32, 105, 110, 32, 123]
def rl2 : RuleS := ⟨⟨#[114]⟩, [⟨#[98]⟩, ⟨#[97]⟩], [⟨#[120]⟩], [], [⟨⟨#[120]⟩, 7, [⟨#[97]⟩], [⟨#[113, 10]⟩], 0⟩]⟩
theorem c_all1 : allS t1 = .ok [(1, 0, [97]), (2, 2, [65]), (3, 9, [59]), (4, 10, [])] := by rw [allS_G]; kernel_rfl
theorem c_file2 : fileS t2 = .ok [rl2] := by rw [fileS_G]; kernel_rfl
theorem c_file3 : fileS t3 = .error (1, 5) := by rw [fileS_G]; kernel_rfl
theorem c_quote : quoteS [97, 34, 10] = [34, 97, 92, 34, 92, 110, 34] := by kernel_rfl
theorem c_srt2 : srtB [⟨#[98]⟩, ⟨#[97]⟩] = [⟨#[97]⟩, ⟨#[98]⟩] := by
  have h : srtL [[98], [97]] = [[97], [98]] := by
    unfold srtL
    simp [List.mergeSort, List.MergeSort.Internal.splitInTwo, List.merge]
    decide
  unfold srtB
  rw [show ([⟨#[98]⟩, ⟨#[97]⟩] : List ByteArray).map (·.data.toList) = [[98], [97]] from rfl, h]
  rfl
theorem c_srt1 : srtB [⟨#[120]⟩] = [⟨#[120]⟩] := by
  unfold srtB srtL
  simp
theorem c_srt0 : srtB [] = [] := by
  unfold srtB srtL
  simp
def rl3 : RuleS := ⟨⟨#[114]⟩, [⟨#[97]⟩, ⟨#[98]⟩], [⟨#[120]⟩], [], [⟨⟨#[120]⟩, 7, [⟨#[97]⟩], [⟨#[113, 10]⟩], 0⟩]⟩
theorem c_sortR : sortR rl2 = rl3 := by
  unfold sortR rl2 rl3
  simp only [c_srt2, c_srt1, c_srt0]
def t4 : List UInt8 := [114, 117, 108, 101, 32, 114, 32, 123, 10, 32, 32, 105, 110, 32, 97, 44, 32, 98, 59, 10, 32, 32, 111, 117, 116, 32, 120, 59, 10, 32, 32, 120, 32, 61, 32, 115, 101, 108, 101, 99, 116, 32, 34, 113, 92, 110, 34, 32, 97, 59, 10, 125, 10]
theorem c_srtL2 : srtL [[97], [98]] = [[97], [98]] := by
  unfold srtL
  simp [List.mergeSort, List.MergeSort.Internal.splitInTwo, List.merge]
  decide
theorem c_srtL1 : srtL [[120]] = [[120]] := by
  unfold srtL
  simp
theorem c_ruleTx : ruleTx rl3 = t4 := by
  unfold ruleTx upTx clauseTx
  rw [show rl3.ins.map (·.data.toList) = [[97], [98]] from rfl, show rl3.outs.map (·.data.toList) = [[120]] from rfl, c_srtL2, c_srtL1]
  kernel_rfl
theorem c_rulesTx : rulesTx [sortR rl2] = t4 := by
  unfold rulesTx
  rw [c_sortR]
  simp [c_ruleTx]
def st2 : StepS := ⟨⟨#[120]⟩, 7, [⟨#[97]⟩], [⟨#[113, 10]⟩], 0⟩
theorem c_stepTx : stepTx st2 = [120, 32, 61, 32, 115, 101, 108, 101, 99, 116, 32, 34, 113, 92, 110, 34, 32, 97, 59] := by kernel_rfl
theorem c_op : opNum [99, 111, 117, 110, 116] = 4 := by kernel_rfl
theorem c_opTx : opTx 4 = [99, 111, 117, 110, 116] := by kernel_rfl
end Go.Proofs.YtlmnabhhgplhnaaGreatDoor
namespace Go.Proofs.YtlmnabhhgplhnaaGreatDoor
open Go.RowKit Go.Shelf

theorem begun1_any (w : World) (hG : Glob w) : Calls Tryz.prog 17 #[] w fun e w' => e = .returned (.bool true) ∧ Below w.heap.size w w' := by
  have c := begun_any w hG
  clear hG
  go_enter Tryz.func17, Tryz.ntmps17
  go_wp2_with fail
  refine c.mono ?_
  rintro e w2 ⟨rfl, hb2⟩
  go_wp2
  go_ret
  exact ⟨rfl, hb2⟩

/-- All that the start reads again later. -/
structure BegF (w' : World) (bl ol p3 p5 p7 g o : Nat) (x1 x2 x3 x4 : Value) (sg so : Nat) (z1 z2 : Value) (lg lo : Nat) : Prop where
  l1k : w'.cell? ⟨bl, ol + 3, none⟩ = some (.int .i64 2)
  l1t : w'.cell? ⟨bl, ol + 5, none⟩ = some (.string ⟨#[65]⟩)
  l2a : w'.cell? ⟨bl, ol + 7, none⟩ = some (.int .i64 9)
  l3k : w'.cell? ⟨bl, ol + 9, none⟩ = some (.int .i64 4)
  e3 : w'.cell? ⟨p3, 0, none⟩ = some (.int .i64 0)
  e5 : w'.cell? ⟨p5, 0, none⟩ = some (.int .i64 0)
  e7 : w'.cell? ⟨p7, 0, none⟩ = some (.int .i64 1)
  e7a : w'.cell? ⟨p7, 1, none⟩ = some (.int .i64 5)
  r0 : w'.cell? ⟨g, o, none⟩ = some (.string ⟨#[114]⟩)
  r1 : w'.cell? ⟨g, o + 1, none⟩ = some x1
  r2 : w'.cell? ⟨g, o + 2, none⟩ = some x2
  r3 : w'.cell? ⟨g, o + 3, none⟩ = some x3
  r4 : w'.cell? ⟨g, o + 4, none⟩ = some x4
  s0 : w'.cell? ⟨sg, so, none⟩ = some (.string ⟨#[120]⟩)
  s1 : w'.cell? ⟨sg, so + 1, none⟩ = some (.int .i64 7)
  s2 : w'.cell? ⟨sg, so + 2, none⟩ = some z1
  s3 : w'.cell? ⟨sg, so + 3, none⟩ = some z2
  s4 : w'.cell? ⟨sg, so + 4, none⟩ = some (.int .i64 0)
  q0 : w'.cell? ⟨lg, lo, none⟩ = some (.string ⟨#[113, 10]⟩)

theorem fit_st2 : StepFit st2 := ⟨by decide, by intro l hl; simp [st2] at hl; subst hl; decide, by decide, by rw [c_stepTx]; decide⟩
theorem fit_rl2 : RuleFit (sortR rl2) := by
  rw [c_sortR]
  refine ⟨by decide, ?_, by rw [c_ruleTx]; decide⟩
  intro x hx
  simp only [rl3, List.mem_cons, List.not_mem_nil, or_false] at hx
  subst hx
  exact fit_st2
theorem few_rl2 : FewR rl2 := by
  refine ⟨by decide, by decide, by decide, by decide, ?_⟩
  intro x hx
  simp only [rl2, List.mem_cons, List.not_mem_nil, or_false] at hx
  subst hx
  decide

set_option maxHeartbeats 8000000 in
set_option maxRecDepth 100000 in
theorem begun4_any (w : World) (hg : GP w.heap.size w) : Calls Tryz.prog 5 #[] w fun e w' => e = .returned (.bool true) ∧ Below w.heap.size w w' := by
  have c1 : ∀ W, Calls Tryz.prog 14 #[.string ⟨t1.toArray⟩] W fun e w' => AllE t1 e w' ∧ Below W.heap.size W w' := fun W => by
    have := lexAll_any ⟨t1.toArray⟩ W (by decide)
    simpa using this
  have c2 : ∀ W, Below w.heap.size w W → Calls Tryz.prog 9 #[.string ⟨t2.toArray⟩] W fun e w' => FileE t2 W w' e ∧ Below W.heap.size W w' := fun W hb => by
    have := file_any ⟨t2.toArray⟩ W (by decide) ((hg.below hb).up hb.size)
    simpa using this
  have c3 : ∀ W, Below w.heap.size w W → Calls Tryz.prog 9 #[.string ⟨t3.toArray⟩] W fun e w' => e = .returned (.tuple #[.slice none 0 0, .agg #[.int .i64 1, .int .i64 5]]) ∧ Below W.heap.size W w' := fun W hb => by
    have := file_any ⟨t3.toArray⟩ W (by decide) ((hg.below hb).up hb.size)
    refine Calls.mono (by simpa using this) ?_
    rintro e w' ⟨he, hb'⟩
    unfold FileE at he
    rw [c_file3] at he
    exact ⟨he, hb'⟩
  have c4 : ∀ W, Below w.heap.size w W → Calls Tryz.prog 17 #[] W fun e w' => e = .returned (.bool true) ∧ Below W.heap.size W w' := fun W hb => begun1_any W (hg.below hb).glob
  have c5 : ∀ W, Calls Tryz.prog 16 #[.string ⟨#[97, 34, 10]⟩] W fun e w' => e = .returned (.string ⟨#[34, 97, 92, 34, 92, 110, 34]⟩) ∧ Below W.heap.size W w' := fun W => by
    have := quote_any ⟨#[97, 34, 10]⟩ W (by decide)
    rw [show (⟨#[97, 34, 10]⟩ : ByteArray).data.toList = [97, 34, 10] from rfl, c_quote] at this
    exact this
  have c7 : ∀ W, Below w.heap.size w W → Calls Tryz.prog 18 #[.string ⟨#[99, 111, 117, 110, 116]⟩] W fun e w' => e = .returned (.int .i64 4) ∧ W = w' := fun W hb => by
    have := op_any ⟨#[99, 111, 117, 110, 116]⟩ w.heap.size W (hg.below hb)
    rw [show (⟨#[99, 111, 117, 110, 116]⟩ : ByteArray).data.toList = [99, 111, 117, 110, 116] from rfl, c_op] at this
    exact this
  have c8 : ∀ W, Below w.heap.size w W → Calls Tryz.prog 19 #[.int .i64 4] W fun e w' => e = .returned (.string ⟨#[99, 111, 117, 110, 116]⟩) ∧ W = w' := fun W hb => by
    have := opName_any 4 w.heap.size W (hg.below hb)
    rw [c_opTx] at this
    exact this
  have C1 := Lib.hid c1; have C2 := Lib.hid c2; have C3 := Lib.hid c3; have C4 := Lib.hid c4; have C5 := Lib.hid c5; have C7 := Lib.hid c7; have C8 := Lib.hid c8
  have HG := Lib.hid hg
  clear c1 c2 c3 c4 c5 c7 c8 hg
  go_enter Tryz.func5, Tryz.ntmps5
  go_wp2_with fail
  refine (C1.out _).mono ?_
  rintro e w1 ⟨he1, hb1⟩
  unfold AllE at he1
  rw [c_all1] at he1
  obtain ⟨v1, rfl, hw1⟩ := he1
  obtain ⟨vl, cl, hv, _, _, hl1⟩ := id hw1
  obtain ⟨bl, ol, rfl, hbl, hcl⟩ := hl1 (by simp [wordRows])
  subst hv
  have HW1 := Lib.hid hcl
  have HB1 := Lib.hid hb1
  clear hw1 hl1 hb1 hcl
  go_wp2_with fail
  refine (C2.out _ (HB1.out.alloc HB1.out.size _)).mono ?_
  rintro e w2 ⟨he2, hb2⟩
  unfold FileE at he2
  rw [c_file2] at he2
  obtain ⟨v2, rfl, hR⟩ := he2
  obtain ⟨g, o, cap, a1, n1, k1, a2, n2, k2, a3, n3, k3, a4, n4, k4, hv, hgl, hRu, hrc⟩ := rules_at hR (k := 0) (x := rl2) rfl
  subst hv
  obtain ⟨_, _, _, _, q, hI, hO, hF, hS⟩ := id hRu
  cases q
  obtain ⟨sg, so, scap, b1, m1, e1, b2, m2, e2, hv, hsl, hA, hL, hsc⟩ := steps_at hS (k := 0) (x := st2) rfl
  obtain ⟨rfl, rfl⟩ : a4 = some ⟨sg, so, none⟩ ∧ n4 = 1 := by cases hv; exact ⟨rfl, rfl⟩
  obtain ⟨la, lc, hv, _, _, hl3⟩ := strsA_shape hL
  obtain ⟨lg, lo, hla, hll, hlc⟩ := hl3 (by simp [st2])
  obtain ⟨rfl, rfl⟩ : b2 = some ⟨lg, lo, none⟩ ∧ m2 = 1 := by cases hv; exact ⟨hla, rfl⟩
  obtain ⟨ia, ic, hv, _, _, _⟩ := strsA_shape hI
  obtain rfl : n1 = 2 := by cases hv; rfl
  have HR := Lib.hid hR
  have HA := Lib.hid hA
  have HL := Lib.hid hL
  have HRC := Lib.hid hrc
  have HSC := Lib.hid hsc
  have HLC := Lib.hid (hlc 0 _ rfl)
  have hs2 := hb2.size
  simp at hs2
  have hbk3 := (hb2.block w1.heap.size (by simp)).trans (alloc_at w1 _)
  have HB3 := Lib.hid hbk3
  have HN2 := Lib.hid ((HB1.out.alloc HB1.out.size _).trans (hb2.mono (by have := HB1.out.size; simp; omega)))
  have HM2 : Hid (Below w1.heap.size w1 w2) := ((Below.refl _ _).alloc (Nat.le_refl _) _).trans (hb2.mono (by simp))
  clear hR hRu hI hO hF hS hA hL hl3 hlc hrc hsc hb2 hbk3
  go_wp2_with fail
  refine (C3.out _ (HN2.out.alloc HN2.out.size _)).mono ?_
  rintro e w3 ⟨rfl, hb3⟩
  have hs3 := hb3.size
  simp at hs3
  have hbk5 := (hb3.block w2.heap.size (by simp)).trans (alloc_at w2 _)
  have HB5 := Lib.hid hbk5
  have HM3 : Hid (Below w2.heap.size w2 w3) := ((Below.refl _ _).alloc (Nat.le_refl _) _).trans (hb3.mono (by simp))
  have HN3 := Lib.hid (HN2.out.trans (HM3.out.mono HN2.out.size))
  clear hb3 hbk5
  have hF : ∀ W, Below (w3.heap.size + 1) (w3.alloc (.cells #[.int .i64 1, .int .i64 5] 30)) W → BegF W bl ol w1.heap.size w2.heap.size w3.heap.size g o (.slice a1 2 k1) (.slice a2 n2 k2) (.slice a3 n3 k3) (.slice (some ⟨sg, so, none⟩) 1 k4) sg so (.slice b1 m1 e1) (.slice (some ⟨lg, lo, none⟩) 1 e2) lg lo := by
    intro W hW
    have u3 : Below w3.heap.size w3 W := ((Below.refl _ _).alloc (Nat.le_refl _) _).trans (hW.mono (by omega))
    have u2 : Below w2.heap.size w2 W := HM3.out.trans (u3.mono (by omega))
    have u1 : Below w1.heap.size w1 W := HM2.out.trans (u2.mono (by omega))
    have x7 : W.heap[w3.heap.size]? = some (.cells #[.int .i64 1, .int .i64 5] 30) := (hW.block _ (by omega)).trans (alloc_at w3 _)
    have x5 := (u3.block _ (by omega)).trans HB5.out
    have x3 := (u2.block _ (by omega)).trans HB3.out
    obtain ⟨y7, y7a, _, _⟩ := cells2 x7
    obtain ⟨y5, _, _, _⟩ := cells2 x5
    obtain ⟨y3, _, _, _⟩ := cells2 x3
    have hw : ∀ (j : Nat) r, (wordRows [(1, 0, [97]), (2, 2, [65]), (3, 9, [59]), (4, 10, [])])[j]? = some r → ∀ (i : Nat) u, r[i]? = some u → W.cell? ⟨bl, ol + j * 3 + i, none⟩ = some u := fun j r hr i u hu => (u1.cell (p := ⟨bl, ol + j * 3 + i, none⟩) hbl).trans (HW1.out j r hr i u hu)
    obtain ⟨r0, r1, r2, r3, r4⟩ := HRC.out W u2
    obtain ⟨s0, s1, s2, s3, s4⟩ := HSC.out W u2
    exact ⟨hw 1 _ rfl 0 _ rfl, hw 1 _ rfl 2 _ rfl, hw 2 _ rfl 1 _ rfl, hw 3 _ rfl 0 _ rfl, y3, y5, y7, y7a, by have h := r0; simp only [Nat.zero_mul, Nat.add_zero] at h; exact h, by have h := r1; simp only [Nat.zero_mul, Nat.add_zero] at h; exact h, by have h := r2; simp only [Nat.zero_mul, Nat.add_zero] at h; exact h, by have h := r3; simp only [Nat.zero_mul, Nat.add_zero] at h; exact h, by have h := r4; simp only [Nat.zero_mul, Nat.add_zero] at h; exact h, by have h := s0; simp only [Nat.zero_mul, Nat.add_zero] at h; exact h, by have h := s1; simp only [Nat.zero_mul, Nat.add_zero] at h; exact h, by have h := s2; simp only [Nat.zero_mul, Nat.add_zero] at h; exact h, by have h := s3; simp only [Nat.zero_mul, Nat.add_zero] at h; exact h, by have h := s4; simp only [Nat.zero_mul, Nat.add_zero] at h; exact h, (u2.cell (p := ⟨lg, lo, none⟩) hll).trans (by have h := HLC.out; simp only [Nat.add_zero] at h; exact h)⟩
  have hUP : ∀ W, Below (w3.heap.size + 1) (w3.alloc (.cells #[.int .i64 1, .int .i64 5] 30)) W → Below w.heap.size w W := fun W hW => (HN3.out.alloc HN3.out.size _).trans (hW.mono (by have := HN3.out.size; omega))
  have hU2 : ∀ W, Below (w3.heap.size + 1) (w3.alloc (.cells #[.int .i64 1, .int .i64 5] 30)) W → Below w2.heap.size w2 W := fun W hW => HM3.out.trans ((((Below.refl _ _).alloc (Nat.le_refl _) _).trans (hW.mono (by omega))).mono (by omega))
  have hb0 : Below (w3.heap.size + 1) (w3.alloc (.cells #[.int .i64 1, .int .i64 5] 30)) (w3.alloc (.cells #[.int .i64 1, .int .i64 5] 30)) := Below.refl _ _
  have HFF := Lib.hid hF
  have HUP := Lib.hid hUP
  have HU2 := Lib.hid hU2
  have HC0 := Lib.hid hb0
  obtain ⟨f1, f2, f3, f4, f5, f6, f7, f8, f9, f10, f11, f12, f13, f14, f15, f16, f17, f18, f19⟩ := hF _ hb0
  clear hF hUP hU2 hb0
  go_wp2_with fail
  refine (C4.out _ (HUP.out _ HC0.out)).mono ?_
  rintro e w4 ⟨rfl, hb4⟩
  have HC4 := Lib.hid (HC0.out.trans (hb4.mono (by simp)))
  clear hb4 f1 f2 f3 f4 f5 f6 f7 f8 f9 f10 f11 f12 f13 f14 f15 f16 f17 f18 f19
  obtain ⟨f1, f2, f3, f4, f5, f6, f7, f8, f9, f10, f11, f12, f13, f14, f15, f16, f17, f18, f19⟩ := HFF.out _ HC4.out
  go_wp2_with fail
  refine (C5.out _).mono ?_
  rintro e w5 ⟨rfl, hb5⟩
  have HC5 := Lib.hid (HC4.out.trans (hb5.mono (by have := HC4.out.size; simp at this; omega)))
  clear hb5 f1 f2 f3 f4 f5 f6 f7 f8 f9 f10 f11 f12 f13 f14 f15 f16 f17 f18 f19
  obtain ⟨f1, f2, f3, f4, f5, f6, f7, f8, f9, f10, f11, f12, f13, f14, f15, f16, f17, f18, f19⟩ := HFF.out _ HC5.out
  go_wp2_with fail
  have c6 := pfile_of (.slice (some ⟨g, o, none⟩) 1 cap) [rl2] [sortR rl2] (fun b => b < (w1.alloc (.cells #[.int .i64 0, .int .i64 0] 30)).heap.size) w.heap.size w5 (HG.out.below (HUP.out _ HC5.out)) (HUP.out _ HC5.out).size (HR.out.keep (fr_below (HU2.out _ HC5.out))) (by decide) (by decide) (fun x hx => by simp at hx; subst hx; exact few_rl2) (fun y hy => by simp at hy; subst hy; exact fit_rl2) (by rw [c_rulesTx]; decide) (sorts_tiny _ _ (by decide))
  rw [c_rulesTx] at c6
  refine c6.mono ?_
  clear c6
  rintro e w6 ⟨rfl, hb6⟩
  have HC6 := Lib.hid (HC5.out.trans (hb6.mono (by have := HC5.out.size; simp at this; omega)))
  clear hb6 f1 f2 f3 f4 f5 f6 f7 f8 f9 f10 f11 f12 f13 f14 f15 f16 f17 f18 f19
  obtain ⟨f1, f2, f3, f4, f5, f6, f7, f8, f9, f10, f11, f12, f13, f14, f15, f16, f17, f18, f19⟩ := HFF.out _ HC6.out
  go_wp2_with fail
  refine (C7.out _ (HUP.out _ HC6.out)).mono ?_
  rintro e w7 ⟨rfl, rfl⟩
  go_wp2_with fail
  refine (C8.out _ (HUP.out _ HC6.out)).mono ?_
  rintro e w8 ⟨rfl, rfl⟩
  go_wp2_with fail
  have c9 := sorted_of (.slice (some ⟨g, o, none⟩) 1 cap) [rl2] [sortR rl2] (fun b => b < (w1.alloc (.cells #[.int .i64 0, .int .i64 0] 30)).heap.size) w6 (HR.out.keep (fr_below (HU2.out _ HC6.out))) (by decide) (fun x hx => by simp at hx; subst hx; exact few_rl2) (sorts_tiny _ _ (by decide))
  refine c9.mono ?_
  clear c9
  rintro e w7 ⟨y1, y2, y3, rfl, hO7, hb7⟩
  have HO7 := Lib.hid (hO7.rulesA.mono (Av' := fun b => b < w.heap.size) fun b _ e => by have := (HUP.out _ HC6.out).size; omega)
  clear hO7
  have HC7 := Lib.hid (HC6.out.trans (hb7.mono (by have := HC6.out.size; simp at this; omega)))
  clear hb7 f1 f2 f3 f4 f5 f6 f7 f8 f9 f10 f11 f12 f13 f14 f15 f16 f17 f18 f19
  obtain ⟨f1, f2, f3, f4, f5, f6, f7, f8, f9, f10, f11, f12, f13, f14, f15, f16, f17, f18, f19⟩ := HFF.out _ HC7.out
  go_wp2_with fail
  have c9 := sorted_of (.slice (some ⟨g, o, none⟩) 1 cap) [rl2] [sortR rl2] (fun b => b < (w1.alloc (.cells #[.int .i64 0, .int .i64 0] 30)).heap.size) w7 (HR.out.keep (fr_below (HU2.out _ HC7.out))) (by decide) (fun x hx => by simp at hx; subst hx; exact few_rl2) (sorts_tiny _ _ (by decide))
  refine c9.mono ?_
  clear c9
  rintro e w8 ⟨q1, q2, q3, rfl, hO8, hb8⟩
  have c10 := eq_same _ _ [sortR rl2] (fun b => b < w.heap.size) w8 (HO7.out.keep (fr_below hb8)) (hO8.rulesA.mono (Av' := fun b => b < w.heap.size) fun b _ e => by have := (HUP.out _ HC7.out).size; omega)
  clear hO8
  have HC8 := Lib.hid (HC7.out.trans (hb8.mono (by have := HC7.out.size; simp at this; omega)))
  clear hb8 f1 f2 f3 f4 f5 f6 f7 f8 f9 f10 f11 f12 f13 f14 f15 f16 f17 f18 f19
  obtain ⟨f1, f2, f3, f4, f5, f6, f7, f8, f9, f10, f11, f12, f13, f14, f15, f16, f17, f18, f19⟩ := HFF.out _ HC8.out
  go_wp2_with fail
  refine c10.mono ?_
  clear c10
  rintro e w9 ⟨rfl, hb9⟩
  have HC9 := Lib.hid (HC8.out.trans (hb9.mono (by have := HC8.out.size; simp at this; omega)))
  clear hb9 f1 f2 f3 f4 f5 f6 f7 f8 f9 f10 f11 f12 f13 f14 f15 f16 f17 f18 f19
  obtain ⟨f1, f2, f3, f4, f5, f6, f7, f8, f9, f10, f11, f12, f13, f14, f15, f16, f17, f18, f19⟩ := HFF.out _ HC9.out
  go_wp2_with fail
  have c11 := step_any st2 (.slice b1 m1 e1) (.slice (some ⟨lg, lo, none⟩) 1 e2) w.heap.size w9 (HG.out.below (HUP.out _ HC9.out)) (HUP.out _ HC9.out).size (StrsA.isStrs (show StrsA _ w9 (.slice b1 m1 e1) st2.args from RowA.keep HA.out (fr_below (HU2.out _ HC9.out)))) (StrsA.isStrs (show StrsA _ w9 (.slice (some ⟨lg, lo, none⟩) 1 e2) st2.lits from RowA.keep HL.out (fr_below (HU2.out _ HC9.out)))) fit_st2
  rw [c_stepTx] at c11
  refine Calls.mono c11 ?_
  clear c11
  rintro e w10 ⟨rfl, hb10⟩
  have HC10 := Lib.hid (HC9.out.trans (hb10.mono (by have := HC9.out.size; simp at this; omega)))
  clear hb10
  go_wp2
  go_ret
  exact ⟨rfl, HUP.out _ HC10.out⟩
end Go.Proofs.YtlmnabhhgplhnaaGreatDoor
namespace Go.Proofs.YtlmnabhhgplhnaaGreatDoor
open Go.ChangeShapes Go.WideShapes Go.ChangeAt Go.RowKit

theorem cells_of_names {H : Type} {enc : TypeId × Value → H} {P : Program} {w : World} {base : Nat} {sp : Nat → Bool} {held : Bool} {fuel : Nat} {t e : TypeId} {n : Nat} {cs : List Value} {zs : List (List UInt8)} {p : List MemPlace}
    (ht : P.underlying t = some (.array n e)) (he : P.underlying e = some .string) (hce : P.cellsOf e = 1) (hct : P.cellsOf t = n)
    (h : DataW.trod enc P w base sp held fuel t cs = some (.agg (zs.map fun z => .lit (.string z)), p)) : ∀ (i : Nat) z, zs[i]? = some z → cs[i]? = some (.string ⟨z.toArray⟩) := by
  cases fuel with
  | zero => simp [DataW.trod] at h
  | succ fuel =>
    simp only [DataW.trod, ht, hce, hct, Nat.mul_one] at h
    split at h
    · rename_i hl
      obtain ⟨xs, hm, hx⟩ := Option.map_eq_some_iff.1 h
      have hxs : xs.map (·.1) = zs.map fun z => (DataW.lit (.string z) : DataW H) := by
        have := congrArg Prod.fst hx
        simpa using this
      have hxl : xs.length = n := by simpa using Lib.mapM_length hm
      have hzl : zs.length = n := by
        have := congrArg List.length hxs
        simp at this
        omega
      intro i z hz
      have hi : i < n := by rw [← hzl]; exact (List.getElem?_eq_some_iff.1 hz).1
      obtain ⟨b, hb, hf⟩ := Lib.mapM_at hm i i (by simp [hi])
      obtain ⟨s, hc, rfl, _⟩ := DataW.trod_string he hf
      have h1 : cs[i]? = some (.string s) := by
        have := congrArg (·[0]?) hc
        simpa [List.getElem?_take, List.getElem?_drop] using this
      have h2 : (xs.map (·.1))[i]? = some (DataW.lit (.string s.data.toList) : DataW H) := by simp [hb]
      rw [hxs] at h2
      simp only [List.getElem?_map, hz, Option.map_some, Option.some.injEq, DataW.lit.injEq, Lit.string.injEq] at h2
      rw [h1, h2]
    · cases h
theorem gp_of {W : World} (hL : laidMetH Tryz.prog laidL W) (hS : W.ShapedOpen Tryz.prog) : GP W.heap.size W := by
  have hg := glob_of hL hS
  obtain ⟨m, hm⟩ := hg.max
  obtain ⟨t1, p1, h1⟩ := hg.es
  obtain ⟨t2, p2, h2⟩ := hg.er
  rw [MakeChecks.laidMetH_plain _ _ _ (by kernel_rfl)] at hL
  obtain ⟨g', t', cs, fuel, p, hg', ht', hv, hd⟩ := Lib.laidMet.reads hL (show (_, _) ∈ laidL from .tail _ (.tail _ (.tail _ (.tail _ (.tail _ (.tail _ (.head _)))))))
  obtain rfl : 0 = g' := Option.some.inj ((show _ = some 0 by kernel_rfl : Tryz.prog.globalNamed _ = some 0).symm.trans hg')
  obtain rfl := Option.some.inj ((show (Tryz.prog.globals[0]?).map (·.type) = some 79 by kernel_rfl).symm.trans ht')
  have hc := cells_of_names Tryz.underlying79 Tryz.underlying9 (by kernel_rfl) (by kernel_rfl) (zs := opTab) hd
  have ho : ∀ (k : Nat) x, opTab[k]? = some x → W.cell? ⟨0, k, none⟩ = some (.string ⟨x.toArray⟩) := by
    intro k x hx
    have := World.var?_cell hg' hv k
    rw [this]
    have := hc k x hx
    simpa using this
  exact ⟨hg, ho, cell_lt hm, hg.top, cell_lt h1, cell_lt h2, cell_lt (ho 0 _ rfl)⟩
end Go.Proofs.YtlmnabhhgplhnaaGreatDoor
