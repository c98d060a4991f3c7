import Derived.Test.YtdkainiiinjgmaaGreatDoorMai
import Derived.ArgAppend
import Derived.KernelRfl
import Derived.Shelf.SlSortCmp.WholeK
import Derived.Maps.RangeWalk
namespace Go.Proofs.YtdkainiiinjgmaaGreatDoor
open Go.RowKit
def OwnF (w : World) (B : Nat) (r : Option Nat) (v : Value) (fs : List F2) : Prop :=
 (w.ownsRow B 109 2 v fs.length (fileCells fs) ∧ r = v.ownBlock) ∨ (fs = [] ∧ r = none ∧ ∃ a, v = .slice a 0 0)
def InsPost (w : World) (B : Nat) (r : Option Nat) (fs : List F2) (e : Ending) (w' : World) : Prop :=
 ∃ v' r', e = .returned v' ∧ OwnF w' B r' v' fs ∧ w.grownBy w' r ∧ (r' = r ∨ ∃ k, r' = some k ∧ w.heap.size ≤ k)
theorem own_mono {w : World} {B B' e size : Nat} {v : Value} {n : Nat} {xs : List Value} (h : w.ownsRow B e size v n xs) (hB : B' ≤ B) : w.ownsRow B' e size v n xs := by
 obtain ⟨h1, h2 | ⟨g, cap, cur, hv, hg, hr⟩⟩ := h
 ·exact ⟨h1, .inl h2⟩
 ·exact ⟨h1, .inr ⟨g, cap, cur, hv, Nat.le_trans hB hg, hr⟩⟩
theorem own_fresh {w : World} {B e size : Nat} {v : Value} {n : Nat} {xs : List Value} (h : w.ownsRow B e size v n xs) (hn : n ≠ 0) : ∃ k, v.ownBlock = some k ∧ B ≤ k := by
 obtain ⟨h1, ⟨_, h2⟩ | ⟨g, cap, cur, hv, hg, hr⟩⟩ := h
 ·exact absurd h2 hn
 ·exact ⟨g, by rw [hv]; rfl, hg⟩
set_option maxHeartbeats 4000000 in
set_option maxRecDepth 100000 in
theorem insert_end_room (B vb g c : Nat) (fs : List F2) (f : F2) (w : World) (_hn : fs.length ≤ 1000) (hc : fs.length + 1 ≤ c)
  (hown : w.ownsRow B 109 2 (.slice (some ⟨g, 0, none⟩) fs.length c) fs.length (fileCells fs))
  (hv : w.heap[vb]? = some (.cells #[.string f.1, .string f.2] 109 (0, 0))) :
  Calls Tryz.prog 158 #[.slice (some ⟨g, 0, none⟩) fs.length c, .int .i64 fs.length, .slice (some ⟨vb, 0, none⟩) 1 1] w (InsPost w B (some g) (fs ++ [f])) := by
 obtain ⟨i0, hi0, hz0, hz1, hz2⟩ := info_parts info_file
 have hcm := (own_shape hown)
 obtain ⟨a', c', hv', _, hnc, hcm⟩ := hcm
 cases hv'
 unfold maxLen at hcm
 have hne : ¬ (c = fs.length) := by omega
 go_enter Tryz.func158, Tryz.ntmps158
 go_wp2_with (at_builtin; refine wpList_append_fits _ rfl _ _ 155 rfl B 109 i0 2 Tryz.underlying155 hi0 hz1 g _ _ _ rfl hown ⟨vb, 0, none⟩ 1 1 [.string f.1, .string f.2] rfl rfl ?c1 ?c2 hc ?_)
 case c1 => exact fun j u hj => row_cell hv 0 j u (by simpa using hj)
 case c2 => intro u hu; simp at hu; rcases hu with rfl | rfl <;> rfl
 intro w' hown' hgrow
 have HO : Hid (OwnF w' B (some g) (.slice (some ⟨g, 0, none⟩) (fs.length + 1) c) (fs ++ [f])) := by
  refine .inl ⟨?_, rfl⟩
  rw [fileCells_append, fileCells_cons, fileCells_nil]
  simpa using hown'
 clear hown'
 go_wp2
 go_ret
 exact ⟨_, _, rfl, HO.out, hgrow, .inl rfl⟩
set_option maxHeartbeats 4000000 in
set_option maxRecDepth 100000 in
theorem insert_end_grow (B vb c : Nat) (a : Option Addr) (r : Option Nat) (fs : List F2) (f : F2) (w : World) (hn : fs.length ≤ 1000) (hc : c = fs.length) (hB : B ≤ w.heap.size) (hnone : a = none → fs.length = 0)
  (hcs : ∀ b, a = some b → ∀ j u, (fileCells fs)[j]? = some u → w.cell? (b.add j) = some u)
  (hv : w.heap[vb]? = some (.cells #[.string f.1, .string f.2] 109 (0, 0))) :
  Calls Tryz.prog 158 #[.slice a fs.length c, .int .i64 fs.length, .slice (some ⟨vb, 0, none⟩) 1 1] w (InsPost w B r (fs ++ [f])) := by
 obtain ⟨i0, hi0, hz0, hz1, hz2⟩ := info_parts info_file
 subst hc
 have HCS := Lib.hid hcs
 clear hcs
 go_enter Tryz.func158, Tryz.ntmps158
 go_wp2_with (at_builtin; refine wpList_append_grows _ rfl _ _ 155 rfl 109 i0 _ 2 32 Tryz.underlying155 hi0 hz0 hz1 hz2 rfl (by decide) a fs.length fs.length (fileCells fs) rfl ?c0 ?cl ?cs ⟨vb, 0, none⟩ 1 1 [.string f.1, .string f.2] rfl rfl ?c1 ?c2 ?c3 ?c4 ?c5 ?_)
 case c0 => exact fun h => ⟨hnone h, hnone h⟩
 case cl => exact fileCells_length fs
 case cs => exact HCS.out
 case c1 => exact fun j u hj => row_cell hv 0 j u (by simpa using hj)
 case c2 => intro u hu; simp at hu; rcases hu with rfl | rfl <;> rfl
 case c3 => omega
 case c4 => unfold maxLen; omega
 case c5 => omega
 all_goals
  intro v' w' hown' hgrow
  obtain ⟨k, hk, hkB⟩ := own_fresh hown' (by omega)
  have HO : Hid (OwnF w' B (some k) v' (fs ++ [f])) := by
   refine .inl ⟨?_, hk.symm⟩
   rw [fileCells_append, fileCells_cons, fileCells_nil]
   simpa using own_mono hown' hB
  have HG : Hid (w.grownBy w' r) := ⟨hgrow.os, hgrow.tape, hgrow.output, hgrow.size, fun k hk _ => hgrow.block k hk (by simp)⟩
  clear hown' hgrow
  go_wp2
  go_ret
  exact ⟨_, _, rfl, HO.out, HG.out, .inr ⟨k, rfl, hkB⟩⟩
theorem grown_of {w w' : World} {r : Option Nat} (h : w.grownBy w' none) : w.grownBy w' r := ⟨h.os, h.tape, h.output, h.size, fun k hk _ => h.block k hk (by simp)⟩
theorem insert_any (B vb i : Nat) (r : Option Nat) (v : Value) (fs : List F2) (f : F2) (w : World) (hi : i ≤ fs.length) (hn : fs.length ≤ 1000) (hB : B ≤ w.heap.size)
  (hown : OwnF w B r v fs) (hvb : some vb ≠ r)
  (hv : w.heap[vb]? = some (.cells #[.string f.1, .string f.2] 109 (0, 0))) :
  Calls Tryz.prog 158 #[v, .int .i64 i, .slice (some ⟨vb, 0, none⟩) 1 1] w (InsPost w B r (fs.take i ++ f :: fs.drop i)) := by
 rcases hown with ⟨hown, rfl⟩ | ⟨rfl, rfl, a, rfl⟩
 ·obtain ⟨hl, ⟨rfl, h0⟩ | ⟨g, c, cur, rfl, hgB, hg, hnc, hcm, hcs, htk⟩⟩ := id hown
  ·obtain rfl := List.eq_nil_of_length_eq_zero h0
   obtain rfl : i = 0 := by simpa using hi
   exact insert_end_grow B vb 0 none _ [] f w hn rfl hB (fun _ => rfl) (fun b hb => by cases hb) hv
  ·by_cases he : i = fs.length
   ·subst he
    rw [List.take_length, List.drop_length]
    by_cases hc : fs.length + 1 ≤ c
    ·exact insert_end_room B vb g c fs f w hn hc hown hv
    ·exact insert_end_grow B vb c (some ⟨g, 0, none⟩) _ fs f w hn (by omega) hB (fun h => by cases h) (fun b hb j u hj => by
      cases hb
      refine row_cell hg 0 j u ?_
      rw [← htk, List.getElem?_take] at hj
      split at hj
      ·simpa using hj
      ·cases hj) hv
   ·by_cases hc : fs.length + 1 ≤ c
    ·refine (insert_shift g fs.length c i vb fs f cur w (by omega) hc hn (by unfold maxLen at hcm; omega) (fun e => hvb (by rw [e]; rfl)) rfl hg hcs htk hv).mono ?_
     rintro e w' ⟨rfl, cur', hg', hcs', htk', hgrow⟩
     refine ⟨_, _, rfl, .inl ⟨⟨by rw [fileCells_length], .inr ⟨g, c, cur', ?_, hgB, hg', ?_, hcm, hcs', ?_⟩⟩, rfl⟩, hgrow, .inl rfl⟩
     ·congr 1; simp; omega
     ·simp; omega
     ·rw [show (fs.take i ++ f :: fs.drop i).length = fs.length + 1 from by simp; omega]; exact htk'
    ·refine (insert_grow g fs.length c i vb fs f cur w (by omega) (by omega) hn hnc rfl hg hcs htk hv).mono ?_
     rintro e w' ⟨G, rfl, hG, hGm, cur', hg', hcs', htk', hgrow⟩
     refine ⟨_, _, rfl, .inl ⟨⟨by rw [fileCells_length], .inr ⟨w.heap.size, G, cur', ?_, hB, hg', ?_, hGm, hcs', ?_⟩⟩, rfl⟩, grown_of hgrow, .inr ⟨w.heap.size, rfl, Nat.le_refl _⟩⟩
     ·congr 1; simp; omega
     ·simp; omega
     ·rw [show (fs.take i ++ f :: fs.drop i).length = fs.length + 1 from by simp; omega]; exact htk'
 ·obtain rfl : i = 0 := by simpa using hi
  exact insert_end_grow B vb 0 a _ [] f w hn rfl hB (fun _ => rfl) (fun b hb j u hj => by simp [fileCells] at hj) hv
end Go.Proofs.YtdkainiiinjgmaaGreatDoor
namespace Go.Proofs.YtdkainiiinjgmaaGreatDoor.Exe
open Go Go.RowKit
set_option maxRecDepth 1000000
theorem mixed : Tryz.prog.follows .mixedOrders = true := by kernel_rfl
def plainB (P : Program) : Bool := P.funcs.toList.all fun fn => match fn.body with
 | some _ => !(fn.name == "runtime.NumGoroutine")
 | none => true
theorem plains_of {P : Program} (h : plainB P = true) : Plains P := by
 intro f fn c hf hb
 unfold plainB at h
 have hm : fn ∈ P.funcs.toList := by
  have := Array.mem_of_getElem? hf
  simpa using this
 have := List.all_eq_true.1 h fn hm
 rw [hb] at this
 unfold plainName
 simpa using this
theorem plains : Plains Tryz.prog := plains_of (by kernel_rfl)
theorem hz51 : Zp Tryz.prog 109 = 2 := by kernel_rfl
theorem hz5 : Zp Tryz.prog 5 = 1 := by kernel_rfl
theorem hb70 : hasBody Tryz.prog 158 = true := by kernel_rfl
theorem ins : InsH Tryz.prog 158 109 := fun vb i R v fs f w h1 h2 h3 h4 h5 => insert_any 0 vb i R v fs f w h1 h2 (Nat.zero_le _) h3 h4 h5
abbrev exts : ExtT := [(267, Extern.BytealgCompare.compare), (302, Extern.BytealgIndexByte.indexByte), (350, Extern.BytealgCount.count), (394, Extern.BytealgIndex.index)]
theorem ext_ok : ∀ p ∈ exts, Ext0 Tryz.prog p.1 p.2 := by
 intro p hp
 simp only [exts, List.mem_cons, List.not_mem_nil, or_false] at hp
 rcases hp with rfl | rfl | rfl | rfl
 ·exact run_callFunc_extern Tryz.func267 (by kernel_rfl) (by kernel_rfl) (by kernel_rfl) (by kernel_rfl)
 ·exact run_callFunc_extern Tryz.func302 (by kernel_rfl) (by kernel_rfl) (by kernel_rfl) (by kernel_rfl)
 ·exact run_callFunc_extern Tryz.func350 (by kernel_rfl) (by kernel_rfl) (by kernel_rfl) (by kernel_rfl)
 ·exact run_callFunc_extern Tryz.func394 (by kernel_rfl) (by kernel_rfl) (by kernel_rfl) (by kernel_rfl)
theorem id_ok : ∀ f ∈ [343], ∀ v (w : World), (callFunc f #[v]).run Tryz.prog w = .ok (.value v) w := by
 intro f hf v w
 obtain rfl : f = 343 := by simpa using hf
 rw [run_callFunc_extern Tryz.func343 (by kernel_rfl) (by kernel_rfl) (by kernel_rfl) (e := Extern.AbiNoEscape.same) (by kernel_rfl)]
 rfl
theorem nz_ok : KS Tryz.prog 5 (onFn (nzK 373 5)) :=
 nzK_sim (ps := #[3]) (rs := #[96]) (t := 96) rfl (by kernel_rfl) hz5 (run_callFunc_extern Tryz.func373 (by kernel_rfl) (by kernel_rfl) (by kernel_rfl) (by kernel_rfl))
noncomputable def K0a : KF := orK (onFn (nzK 373 5)) (orK (onFn (idK [343])) (orK (onFn (insK 158 109)) (onFn (extK Tryz.prog exts))))
theorem K0a_ok : KS Tryz.prog 5 K0a := orK_sim nz_ok (orK_sim (idK_sim id_ok) (orK_sim (insK_sim plains hb70 hz51 ins) (extK_sim ext_ok)))
theorem hb74 : hasBody Tryz.prog 171 = true := by kernel_rfl
theorem hb19 : hasBody Tryz.prog 69 = true := by kernel_rfl
theorem hb5 : hasBody Tryz.prog 34 = true := by kernel_rfl
theorem run1 : okV (KX Tryz.prog 5 100000 K0a 60 (.fn 171) [] 100 (hx 285 opNames)) = true := by kernel_rfl
theorem beg1 {w : World} (hw : GX 5 285 opNames w) : Calls Tryz.prog 171 #[] w fun e w' => e = .returned (.bool true) ∧ Below w.heap.size w w' :=
 run_true (KX_sim K0a_ok mixed plains 100000 60) plains hb74 (by decide) (by decide) run1 hw
noncomputable def K0b : KF := orK (onFn (memoK [171] 285 opNames)) K0a
theorem K0b_ok : KS Tryz.prog 5 K0b := by
 refine orK_sim (memoK_sim plains (by decide) ?_) K0a_ok
 intro f hf
 have e : f = 171 := by simpa using hf
 rw [e]
 exact ⟨hb74, fun w hw => beg1 hw⟩
theorem run4 : okV (KX Tryz.prog 5 100000 K0b 60 (.fn 69) [] 100 (hx 285 opNames)) = true := by kernel_rfl
theorem beg4 {w : World} (hw : GX 5 285 opNames w) : Calls Tryz.prog 69 #[] w fun e w' => e = .returned (.bool true) ∧ Below w.heap.size w w' :=
 run_true (KX_sim K0b_ok mixed plains 100000 60) plains hb19 (by decide) (by decide) run4 hw
end Go.Proofs.YtdkainiiinjgmaaGreatDoor.Exe
namespace Go.Proofs.YtdkainiiinjgmaaGreatDoor.Exe
open Go
variable {P : Program} {G : Nat}
def runM (P : Program) (G : Nat) (K : KF) (D : RF) (top : Bool) : Nat → Nat → Code → St → Option (Nat × Code × St)
 | n, 0, c, s => some (n, c, s)
 | 0, _ + 1, _, _ => none
 | n + 1, m + 1, c, s => match c with
  | .seq a b => match codeX P G K D top n a s with
   | some (.normal, s1) => runM P G K D top n m b s1
   | _ => none
  | _ => none
theorem runM_spec {K : KF} {D : RF} {top : Bool} : ∀ {n m : Nat} {c : Code} {s : St} {n' : Nat} {c' : Code} {s' : St}, runM P G K D top n m c s = some (n', c', s') → codeX P G K D top n c s = codeX P G K D top n' c' s'
 | n, 0, c, s, n', c', s', h => by simp only [runM, Option.some.injEq, Prod.mk.injEq] at h; obtain ⟨rfl, rfl, rfl⟩ := h; rfl
 | 0, m + 1, c, s, n', c', s', h => by simp [runM] at h
 | n + 1, m + 1, c, s, n', c', s', h => by
  simp only [runM] at h
  split at h
  ·split at h
   ·rename_i a b s1 h1
    rw [← runM_spec h]
    simp only [codeX, h1]
   ·cases h
  ·cases h
def dropS : Nat → Code → Code
 | 0, c => c
 | m + 1, c => match c with
  | .seq _ b => dropS m b
  | c => c
def outX (P : Program) (fn : Func) (k : Nat) : Option (Exit × St) → Option (Value × Nat × Hp)
 | some (.normal, s) => finX P fn k s
 | some (.ret, s) => finX P fn k s
 | _ => none
theorem callX_eq {K : KF} {fuel : Nat} {f : FuncId} {fn : Func} {c : Code} (hf : P.funcs[f]? = some fn) (hb : fn.body = some c) {k : Nat} {h : Hp} (hl : Nat.blt fn.ntmps 16000000 = true) :
  callX P G fuel K f [] k h = outX P fn k (codeX P G K (drawX P G K) true fuel c ⟨⟨.lf, fn.ntmps⟩, k, h⟩) := by
 unfold callX
 simp only [hf, hb, List.length_nil, Nat.zero_add, hl, cond_true, ini, Nat.sub_zero]
 unfold outX
 split <;> simp_all
theorem run_last {K0 : KF} {fuel N : Nat} {f : FuncId} {fn : Func} {c : Code} {h : Hp} {k : Nat} (h0 : K0 (.fn f) [] k h = none) (hf : P.funcs[f]? = some fn) (hb : fn.body = some c) (hl : Nat.blt fn.ntmps 16000000 = true) {n' : Nat} {c' : Code} {s' : St}
  (hc : codeX P G (KX P G fuel K0 N) (drawX P G (KX P G fuel K0 N)) true fuel c ⟨⟨.lf, fn.ntmps⟩, k, h⟩ = codeX P G (KX P G fuel K0 N) (drawX P G (KX P G fuel K0 N)) true n' c' s')
  (ho : okV (outX P fn k (codeX P G (KX P G fuel K0 N) (drawX P G (KX P G fuel K0 N)) true n' c' s')) = true) : okV (KX P G fuel K0 (N + 1) (.fn f) [] k h) = true := by
 simp only [KX, h0, callX_eq hf hb hl, hc, ho]
def regM (P : Program) (G : Nat) (K : KF) (ops : Array Oper) (T : List Nat) : Nat → List (Nat × Nat) → List (Nat × Nat) → St → Option (List (Nat × Nat) × List (Nat × Nat) × St)
 | 0, q, g, s => some (q, g, s)
 | _ + 1, [], _, _ => none
 | n + 1, (i, m) :: q, g, s => match ops[i]? with
  | some o => match m with
   | 0 => match takeX P G ops s o with
    | some (rd, v) => regM P G K ops T n q (addG i rd g) ⟨s.e.put o.dst v, s.k, s.h⟩
    | none => none
   | 1 => match opRO P G K ops o (actNames T i g) s with
    | some s1 => regM P G K ops T n q (actG T i g) s1
    | none => none
   | 2 => match floatX P G ops o s with
    | some s1 => regM P G K ops T n q (actG T i g) s1
    | none => none
   | m + 3 => match ops[m]? with
    | some oi => match floatX P G ops oi s with
     | some _ => match opRO P G K ops o (actNames T i g) s with
      | some s1 => regM P G K ops T n q (actG T i g) s1
      | none => none
     | none => none
    | none => none
  | none => none
theorem regM_spec {K : KF} {ops : Array Oper} {T : List Nat} : ∀ {n : Nat} {q g : List (Nat × Nat)} {s : St} {q' g' : List (Nat × Nat)} {s' : St}, regM P G K ops T n q g s = some (q', g', s') → regS P G K ops T q g s = regS P G K ops T q' g' s'
 | 0, q, g, s, q', g', s', h => by simp only [regM, Option.some.injEq, Prod.mk.injEq] at h; obtain ⟨rfl, rfl, rfl⟩ := h; rfl
 | n + 1, [], g, s, q', g', s', h => by simp [regM] at h
 | n + 1, (i, m) :: q, g, s, q', g', s', h => by
  match m, h with
  | 0, h =>
   simp only [regM] at h
   split at h
   case h_2 => cases h
   rename_i o ho
   split at h
   case h_2 => cases h
   rename_i h1
   rw [← regM_spec h]
   simp only [regS, ho, h1]
  | 1, h =>
   simp only [regM] at h
   split at h
   case h_2 => cases h
   rename_i o ho
   split at h
   case h_2 => cases h
   rename_i h1
   rw [← regM_spec h]
   simp only [regS, ho, h1]
  | 2, h =>
   simp only [regM] at h
   split at h
   case h_2 => cases h
   rename_i o ho
   split at h
   case h_2 => cases h
   rename_i h1
   rw [← regM_spec h]
   simp only [regS, ho, h1]
  | m + 3, h =>
   simp only [regM] at h
   split at h
   case h_2 => cases h
   rename_i o ho
   split at h
   case h_2 => cases h
   rename_i oi hoi
   split at h
   case h_2 => cases h
   rename_i h0
   split at h
   case h_2 => cases h
   rename_i h1
   rw [← regM_spec h]
   simp only [regS, ho, hoi, h0, h1]
theorem region_cut {K : KF} {top : Bool} {n id : Nat} {ops : Array Oper} {c : Code} {q : List (Nat × Nat)} {s s1 : St} (hp : planQ ops = some q) (hr : regS P G K ops [] q [] s = some s1) :
  codeX P G K (drawX P G K) top (n + 2) (.seq (.region id ops true) c) s = codeX P G K (drawX P G K) top (n + 1) c s1 := by
 simp only [codeX, drawX, hp, hr]
end Go.Proofs.YtdkainiiinjgmaaGreatDoor.Exe
namespace Go.Proofs.YtdkainiiinjgmaaGreatDoor.Exe
open Go Go.RowKit
set_option maxRecDepth 1000000
noncomputable def K0c : KF := orK (onFn (memoK [69] 285 opNames)) K0a
theorem K0c_ok : KS Tryz.prog 5 K0c := by
 refine orK_sim (memoK_sim plains (by decide) ?_) K0a_ok
 intro f hf
 have e : f = 69 := by simpa using hf
 rw [e]
 exact ⟨hb19, fun w hw => beg4 hw⟩
def litA : St := ⟨⟨(.nd (.bool false) (.nd (.pointer (some ⟨212, 0, none⟩)) (.nd (.slice (some ⟨676, 0, none⟩) 2 2) (.nd (.int .i64 (3)) (.nd (.agg ⟨[(.string ⟨⟨[120]⟩⟩), (.int .i64 (4)), (.slice (some ⟨206, 0, none⟩) 1 1), (.slice none 0 0), (.int .i64 (0))]⟩) (.nd (.slice (some ⟨688, 0, none⟩) 1 1) .lf .lf) (.nd (.slice (some ⟨706, 0, none⟩) 1 1) .lf .lf)) (.nd (.slice (some ⟨216, 0, none⟩) 2 2) (.nd (.bool false) .lf .lf) (.nd (.agg ⟨[(.string ⟨⟨[97]⟩⟩), (.int .i64 (1)), (.slice (some ⟨994, 0, none⟩) 1 1), (.slice none 0 0), (.int .i64 (0))]⟩) .lf .lf))) (.nd (.slice (some ⟨202, 0, none⟩) 2 2) (.nd (.agg ⟨[(.string ⟨⟨[114]⟩⟩), (.slice (some ⟨200, 0, none⟩) 2 2), (.slice (some ⟨202, 0, none⟩) 2 2), (.slice none 0 0), (.slice (some ⟨210, 0, none⟩) 3 3)]⟩) (.nd (.bool false) .lf .lf) (.nd (.tuple ⟨[(.int .i64 (3)), (.string ⟨⟨[114]⟩⟩)]⟩) .lf .lf)) (.nd (.agg ⟨[(.bool true), (.string ⟨⟨[122]⟩⟩)]⟩) (.nd (.bool false) .lf .lf) (.nd (.slice (some ⟨998, 0, none⟩) 2 2) .lf .lf)))) (.nd (.int .i64 (0)) (.nd (.tuple ⟨[]⟩) (.nd (.agg ⟨[(.string ⟨⟨[121]⟩⟩), (.int .i64 (2)), (.slice (some ⟨208, 0, none⟩) 1 1), (.slice none 0 0), (.int .i64 (0))]⟩) (.nd (.slice (some ⟨498, 0, none⟩) 2 2) .lf .lf) (.nd (.int .i64 (0)) .lf .lf)) (.nd (.agg ⟨[(.string ⟨⟨[114]⟩⟩), (.slice (some ⟨200, 0, none⟩) 2 2), (.slice (some ⟨202, 0, none⟩) 2 2), (.slice none 0 0), (.slice (some ⟨210, 0, none⟩) 3 3)]⟩) (.nd (.bool false) .lf .lf) (.nd (.agg ⟨[(.string ⟨⟨[115]⟩⟩), (.slice (some ⟨992, 0, none⟩) 1 1), (.slice (some ⟨990, 0, none⟩) 1 1), (.slice none 0 0), (.slice (some ⟨996, 0, none⟩) 1 1)]⟩) .lf .lf))) (.nd (.agg ⟨[(.string ⟨⟨[116]⟩⟩), (.int .i64 (3)), (.slice (some ⟨204, 0, none⟩) 1 1), (.slice none 0 0), (.int .i64 (0))]⟩) (.nd (.agg ⟨[(.bool true), (.string ⟨⟨[113,10,112]⟩⟩)]⟩) (.nd (.slice (some ⟨676, 0, none⟩) 2 2) .lf .lf) (.nd (.slice (some ⟨992, 0, none⟩) 1 1) .lf .lf)) (.nd (.slice (some ⟨676, 0, none⟩) 2 2) (.nd (.tuple ⟨[(.int .i64 (0)), (.string ⟨⟨[]⟩⟩)]⟩) .lf .lf) (.nd (.int .i64 (3)) .lf .lf))))) (.nd (.slice (some ⟨498, 0, none⟩) 2 2) (.nd (.pointer (some ⟨690, 0, none⟩)) (.nd (.string ⟨⟨[114]⟩⟩) (.nd (.slice (some ⟨208, 0, none⟩) 1 1) (.nd (.pointer (some ⟨690, 0, none⟩)) .lf .lf) (.nd (.tuple ⟨[(.int .i64 (0)), (.string ⟨⟨[]⟩⟩)]⟩) .lf .lf)) (.nd (.slice (some ⟨498, 0, none⟩) 2 2) (.nd (.bool false) .lf .lf) (.nd (.slice (some ⟨996, 0, none⟩) 1 1) .lf .lf))) (.nd (.slice (some ⟨204, 0, none⟩) 1 1) (.nd (.agg ⟨[(.string ⟨⟨[114]⟩⟩), (.slice (some ⟨200, 0, none⟩) 2 2), (.slice (some ⟨202, 0, none⟩) 2 2), (.slice none 0 0), (.slice (some ⟨210, 0, none⟩) 3 3)]⟩) (.nd (.bool false) .lf .lf) (.nd (.slice (some ⟨990, 0, none⟩) 1 1) .lf .lf)) (.nd (.slice (some ⟨512, 0, none⟩) 1 1) (.nd (.bool false) .lf .lf) (.nd (.tuple ⟨[(.int .i64 (3)), (.string ⟨⟨[114]⟩⟩)]⟩) .lf .lf)))) (.nd (.string ⟨⟨[]⟩⟩) (.nd (.slice (some ⟨200, 0, none⟩) 2 2) (.nd (.slice (some ⟨210, 0, none⟩) 3 3) (.nd (.int .i64 (2)) .lf .lf) (.nd (.string ⟨⟨[]⟩⟩) .lf .lf)) (.nd (.slice (some ⟨510, 0, none⟩) 1 1) (.nd (.pointer (some ⟨690, 0, none⟩)) .lf .lf) (.nd (.agg ⟨[(.string ⟨⟨[114]⟩⟩), (.slice (some ⟨200, 0, none⟩) 2 2), (.slice (some ⟨202, 0, none⟩) 2 2), (.slice none 0 0), (.slice (some ⟨210, 0, none⟩) 3 3)]⟩) .lf .lf))) (.nd (.slice (some ⟨206, 0, none⟩) 1 1) (.nd (.agg ⟨[(.bool true), (.string ⟨⟨[]⟩⟩)]⟩) (.nd (.int .i64 (2)) .lf .lf) (.nd (.slice (some ⟨994, 0, none⟩) 1 1) .lf .lf)) (.nd (.agg ⟨[(.string ⟨⟨[97]⟩⟩), (.string ⟨⟨[50,10,49]⟩⟩)]⟩) (.nd (.agg ⟨[(.string ⟨⟨[114]⟩⟩), (.slice (some ⟨200, 0, none⟩) 2 2), (.slice (some ⟨202, 0, none⟩) 2 2), (.slice none 0 0), (.slice (some ⟨210, 0, none⟩) 3 3)]⟩) .lf .lf) (.nd (.string ⟨⟨[114]⟩⟩) .lf .lf)))))), 181⟩, 735, [(998, .cells [(.string ⟨⟨[115]⟩⟩), (.slice (some ⟨992, 0, none⟩) 1 1), (.slice (some ⟨990, 0, none⟩) 1 1), (.slice none 0 0), (.slice (some ⟨996, 0, none⟩) 1 1), (.string ⟨⟨[114]⟩⟩), (.slice (some ⟨200, 0, none⟩) 2 2), (.slice (some ⟨202, 0, none⟩) 2 2), (.slice none 0 0), (.slice (some ⟨210, 0, none⟩) 3 3)] 53 0 false), (996, .cells [(.string ⟨⟨[97]⟩⟩), (.int .i64 (1)), (.slice (some ⟨994, 0, none⟩) 1 1), (.slice none 0 0), (.int .i64 (0))] 64 0 false), (994, .cells [(.string ⟨⟨[120]⟩⟩)] 9 0 false), (992, .cells [(.string ⟨⟨[120]⟩⟩)] 9 0 false), (990, .cells [(.string ⟨⟨[97]⟩⟩)] 9 0 false), (706, .cells [(.string ⟨⟨[114]⟩⟩), (.slice (some ⟨200, 0, none⟩) 2 2), (.slice (some ⟨202, 0, none⟩) 2 2), (.slice none 0 0), (.slice (some ⟨210, 0, none⟩) 3 3)] 53 0 false), (703, .cells [(.string ⟨⟨[97]⟩⟩), (.string ⟨⟨[50,10,49]⟩⟩)] 109 0 false), (700, .cells [(.string ⟨⟨[97]⟩⟩), (.string ⟨⟨[50,10,49]⟩⟩)] 109 0 false), (696, .cells [(.string ⟨⟨[97]⟩⟩)] 9 0 false), (692, .cells [(.string ⟨⟨[97]⟩⟩), (.string ⟨⟨[50,10,49]⟩⟩)] 109 0 false), (690, .cells [(.slice (some ⟨703, 0, none⟩) 1 1)] 157 0 false), (688, .cells [(.string ⟨⟨[97]⟩⟩), (.string ⟨⟨[50,10,49]⟩⟩)] 109 0 false), (676, .cells [(.bool false), (.string ⟨⟨[]⟩⟩), (.bool true), (.string ⟨⟨[122]⟩⟩)] 104 0 false), (512, .cells [(.bool true), (.string ⟨⟨[122]⟩⟩)] 104 0 false), (510, .cells [(.string ⟨⟨[98]⟩⟩)] 9 0 false), (498, .cells [(.bool true), (.string ⟨⟨[50,10]⟩⟩), (.bool false), (.string ⟨⟨[]⟩⟩)] 104 0 false), (216, .cells [(.bool true), (.string ⟨⟨[113,10,112]⟩⟩), (.bool true), (.string ⟨⟨[]⟩⟩)] 104 0 false), (212, .cells [(.string ⟨⟨[114]⟩⟩), (.slice (some ⟨200, 0, none⟩) 2 2), (.slice (some ⟨202, 0, none⟩) 2 2), (.slice none 0 0), (.slice (some ⟨210, 0, none⟩) 3 3)] 53 0 false), (210, .cells [(.string ⟨⟨[116]⟩⟩), (.int .i64 (3)), (.slice (some ⟨204, 0, none⟩) 1 1), (.slice none 0 0), (.int .i64 (0)), (.string ⟨⟨[120]⟩⟩), (.int .i64 (4)), (.slice (some ⟨206, 0, none⟩) 1 1), (.slice none 0 0), (.int .i64 (0)), (.string ⟨⟨[121]⟩⟩), (.int .i64 (2)), (.slice (some ⟨208, 0, none⟩) 1 1), (.slice none 0 0), (.int .i64 (0))] 64 0 false), (208, .cells [(.string ⟨⟨[98]⟩⟩)] 9 0 false), (206, .cells [(.string ⟨⟨[116]⟩⟩)] 9 0 false), (204, .cells [(.string ⟨⟨[97]⟩⟩)] 9 0 false), (202, .cells [(.string ⟨⟨[120]⟩⟩), (.string ⟨⟨[121]⟩⟩)] 9 0 false), (200, .cells [(.string ⟨⟨[97]⟩⟩), (.string ⟨⟨[98]⟩⟩)] 9 0 false), (0, .cells [(.string ⟨⟨[]⟩⟩), (.string ⟨⟨[99,111,112,121]⟩⟩), (.string ⟨⟨[110,101,101,100]⟩⟩), (.string ⟨⟨[115,111,114,116]⟩⟩), (.string ⟨⟨[99,111,117,110,116]⟩⟩), (.string ⟨⟨[99,111,110,99,97,116]⟩⟩), (.string ⟨⟨[108,105,116,101,114,97,108]⟩⟩), (.string ⟨⟨[115,101,108,101,99,116]⟩⟩), (.string ⟨⟨[114,101,112,108,97,99,101]⟩⟩), (.string ⟨⟨[112,114,101,102,105,120]⟩⟩)] 285 9223372036854775808 true)]⟩
noncomputable def bodyA : Code := match Tryz.prog.funcs[34]? with
 | some fn => match fn.body with
  | some c => c
  | none => .skip
 | none => .skip
noncomputable def KA : KF := KX Tryz.prog 5 100000 K0c 59
noncomputable def fnA : Func := match Tryz.prog.funcs[34]? with
 | some fn => fn
 | none => default
theorem fnA_ok : Tryz.prog.funcs[34]? = some fnA := by kernel_rfl
theorem bodyA_ok : fnA.body = some bodyA := by kernel_rfl
theorem ntmpsA : fnA.ntmps = 181 := by kernel_rfl
theorem noneA : K0c (.fn 34) [] 100 (hx 285 opNames) = none := by kernel_rfl
theorem runA : runM Tryz.prog 5 KA (drawX Tryz.prog 5 KA) true 100000 8 bodyA ⟨⟨.lf, 181⟩, 100, hx 285 opNames⟩ = some (99992, dropS 8 bodyA, litA) := by kernel_rfl
theorem runB : okV (outX Tryz.prog fnA 100 (codeX Tryz.prog 5 KA (drawX Tryz.prog 5 KA) true 99992 (dropS 8 bodyA) litA)) = true := by kernel_rfl
theorem run7 : okV (KX Tryz.prog 5 100000 K0c 60 (.fn 34) [] 100 (hx 285 opNames)) = true :=
 run_last noneA fnA_ok bodyA_ok (by rw [ntmpsA]; rfl) (by rw [ntmpsA]; exact runM_spec runA) runB
theorem beg7 {w : World} (hw : GX 5 285 opNames w) : Calls Tryz.prog 34 #[] w fun e w' => e = .returned (.bool true) ∧ Below w.heap.size w w' :=
 run_true (KX_sim K0c_ok mixed plains 100000 60) plains hb5 (by decide) (by decide) run7 hw
end Go.Proofs.YtdkainiiinjgmaaGreatDoor.Exe
namespace Go.Proofs.YtdkainiiinjgmaaGreatDoor
open Go.RowKit Go.Shelf
abbrev Lb := Bool × ByteArray
def lv (l : Lb) : Value := .agg #[.bool l.1, .string l.2]
def lc (l : Lb) : List Value := [.bool l.1, .string l.2]
def ltL (a b : Lb) : Bool := if a.1 = b.1 then decide (a.2.data.toList < b.2.data.toList) else b.1
def leL (a b : Lb) : Bool := !ltL b a
theorem lb_ext {a b : ByteArray} (h : a.data.toList = b.data.toList) : a = b := by
 cases a; cases b; simp only [ByteArray.mk.injEq] at h ⊢; exact Array.ext' h
theorem ltL_irrefl (a : Lb) : ltL a a = false := by
 unfold ltL
 rw [if_pos rfl, decide_eq_false_iff_not]
 exact List.lt_irrefl _
theorem ltL_trans {a b c : Lb} (h1 : ltL a b = true) (h2 : ltL b c = true) : ltL a c = true := by
 obtain ⟨a1, a2⟩ := a; obtain ⟨b1, b2⟩ := b; obtain ⟨c1, c2⟩ := c
 unfold ltL at *
 cases a1 <;> cases b1 <;> cases c1 <;> simp_all
 all_goals exact List.lt_trans h1 h2
theorem leL_antisymm {a b : Lb} (h1 : leL a b = true) (h2 : leL b a = true) : a = b := by
 obtain ⟨a1, a2⟩ := a; obtain ⟨b1, b2⟩ := b
 unfold leL ltL at *
 cases a1 <;> cases b1 <;> simp_all
 all_goals exact lb_ext (List.le_antisymm h1 h2)
theorem leL_trans {a b c : Lb} (h1 : leL a b = true) (h2 : leL b c = true) : leL a c = true := by
 obtain ⟨a1, a2⟩ := a; obtain ⟨b1, b2⟩ := b; obtain ⟨c1, c2⟩ := c
 unfold leL ltL at *
 cases a1 <;> cases b1 <;> cases c1 <;> simp_all
 all_goals exact List.le_trans h1 h2
theorem ltL_of_ne {a b : Lb} (h : leL a b = true) (hne : a ≠ b) : ltL a b = true := by
 cases h2 : ltL a b with
 | true => rfl
 | false => exact absurd (leL_antisymm h (by unfold leL; rw [h2]; rfl)) hne
def ilb (x : Lb) : List Lb → List Lb
 | [] => [x]
 | y :: ys => if ltL y x then y :: ilb x ys else x :: y :: ys
def slb : List Lb → List Lb
 | [] => []
 | x :: xs => ilb x (slb xs)
theorem ilb_perm (x : Lb) : ∀ l : List Lb, (ilb x l).Perm (x :: l)
 | [] => List.Perm.refl _
 | y :: ys => by
  unfold ilb
  split
  ·exact ((ilb_perm x ys).cons y).trans (List.Perm.swap x y ys)
  ·exact List.Perm.refl _
theorem slb_perm : ∀ l : List Lb, (slb l).Perm l
 | [] => List.Perm.refl _
 | x :: xs => (ilb_perm x _).trans ((slb_perm xs).cons x)
abbrev Slb (l : List Lb) : Prop := l.Pairwise fun a b => leL a b = true
theorem ilb_srt (x : Lb) : ∀ {l : List Lb}, Slb l → Slb (ilb x l)
 | [], _ => List.pairwise_singleton _ _
 | y :: ys, h => by
  have h' := List.pairwise_cons.1 h
  unfold ilb
  split
  ·rename_i hlt
   refine List.pairwise_cons.2 ⟨fun z hz => ?_, ilb_srt x h'.2⟩
   rcases List.mem_cons.1 ((ilb_perm x ys).mem_iff.1 hz) with rfl | hz
   ·unfold leL
    cases h2 : ltL z y with
    | false => rfl
    | true => have := ltL_trans h2 hlt; rw [ltL_irrefl] at this; cases this
   ·exact h'.1 z hz
  ·rename_i hlt
   have hxy : leL x y = true := by unfold leL; simpa using hlt
   refine List.pairwise_cons.2 ⟨fun z hz => ?_, h⟩
   rcases List.mem_cons.1 hz with rfl | hz
   ·exact hxy
   ·exact leL_trans hxy (h'.1 z hz)
theorem slb_srt : ∀ l : List Lb, Slb (slb l)
 | [] => List.Pairwise.nil
 | x :: xs => ilb_srt x (slb_srt xs)
theorem slb_one {l l' : List Lb} (hp : l.Perm l') (h : Slb l) (h' : Slb l') : l = l' :=
 List.Perm.eq_of_pairwise (le := fun a b => leL a b = true) (fun _ _ _ _ h1 h2 => leL_antisymm h1 h2) h h' hp
theorem slb_of {l m : List Lb} (hp : l.Perm m) (h : Slb l) : l = slb m := slb_one (hp.trans (slb_perm m).symm) h (slb_srt m)
theorem slb_eq {l m : List Lb} (hp : l.Perm m) : slb l = slb m := slb_of ((slb_perm l).trans hp) (slb_srt l)
def cfL (a b : Lb) : Int := if ltL a b then -1 else if ltL b a then 1 else 0
theorem cfL_lt (a b : Lb) : (cfL a b < 0) ↔ ltL a b = true := by
 unfold cfL
 split
 ·rename_i h; simp [h]
 ·rename_i h
  split <;> simp [h]
def lcs (l : List Lb) : List Value := (l.map lc).flatten
theorem lcs_cons (x : Lb) (l : List Lb) : lcs (x :: l) = .bool x.1 :: .string x.2 :: lcs l := rfl
theorem lcs_len : ∀ l : List Lb, (lcs l).length = l.length * 2
 | [] => rfl
 | x :: l => by rw [lcs_cons]; simp only [List.length_cons, lcs_len l]; omega
theorem lcs_app (l m : List Lb) : lcs (l ++ m) = lcs l ++ lcs m := by unfold lcs; rw [List.map_append, List.flatten_append]
end Go.Proofs.YtdkainiiinjgmaaGreatDoor
namespace Go.Proofs.YtdkainiiinjgmaaGreatDoor
open Go.RowKit Go.Shelf Go.Sort
def slRen : Go.Shelf.Ren := ⟨fun | 0 => 0 | 1 => 1 | 2 => 2 | 6 => 60 | 14 => 101 | 15 => 102 | 18 => 359 | 20 => 145 | 21 => 146 | 22 => 147 | 23 => 148 | 24 => 149 | 25 => 150 | 26 => 151 | 27 => 152 | 28 => 153 | 29 => 154 | 46 => 201 | 47 => 202 | 48 => 203 | 49 => 204 | 50 => 205 | 57 => 263 | 60 => 405 | 61 => 406 | 62 => 407 | 63 => 408 | 64 => 409 | 65 => 410 | 66 => 411 | 67 => 412 | 68 => 413 | 69 => 414 | 70 => 415 | 71 => 416 | 72 => 417 | 73 => 418 | 74 => 419 | 75 => 424 | n => n, fun | 0 => 0 | 1 => 1 | 2 => 2 | 3 => 3 | 4 => 4 | 5 => 5 | 6 => 6 | 7 => 7 | 8 => 8 | 9 => 9 | 10 => 10 | 11 => 11 | 12 => 12 | 13 => 13 | 14 => 14 | 15 => 15 | 16 => 16 | 17 => 17 | 18 => 18 | 19 => 19 | 20 => 20 | 21 => 21 | 22 => 22 | 23 => 92 | 24 => 38 | 25 => 93 | 26 => 147 | 27 => 113 | 30 => 260 | 37 => 148 | 38 => 149 | 39 => 150 | 40 => 42 | 42 => 167 | 44 => 190 | 45 => 191 | 46 => 192 | 47 => 193 | 48 => 194 | 49 => 195 | 50 => 196 | 51 => 197 | 52 => 198 | 53 => 199 | 54 => 200 | 55 => 201 | 66 => 243 | 67 => 244 | 68 => 245 | 69 => 246 | 70 => 247 | 71 => 248 | 76 => 299 | 77 => 300 | 78 => 301 | 81 => 283 | 82 => 400 | 83 => 401 | 84 => 402 | 85 => 403 | 86 => 404 | 87 => 29 | 88 => 405 | 89 => 406 | 90 => 407 | 91 => 317 | 92 => 408 | 93 => 409 | 94 => 410 | 95 => 411 | 96 => 349 | n => n, fun  | n => n⟩
theorem lSl : Go.Proofs.SlLaysF0.n6 Tryz.prog slRen := {
 mixed := by kernel_rfl
 f6 := ⟨"slices.SortFunc[[]shipwright/api.Label,shipwright/api.Label]", by decide, Tryz.func60.trans (congrArg some (by kernel_rfl))⟩
 f14 := ⟨"slices.pdqsortCmpFunc[shipwright/api.Label]", by decide, Tryz.func101.trans (congrArg some (by kernel_rfl))⟩
 f15 := Tryz.func102.trans (congrArg some (by kernel_rfl))
 f20 := ⟨"slices.insertionSortCmpFunc[shipwright/api.Label]", by decide, Tryz.func145.trans (congrArg some (by kernel_rfl))⟩
 f21 := ⟨"slices.heapSortCmpFunc[shipwright/api.Label]", by decide, Tryz.func146.trans (congrArg some (by kernel_rfl))⟩
 f22 := ⟨"slices.breakPatternsCmpFunc[shipwright/api.Label]", by decide, Tryz.func147.trans (congrArg some (by kernel_rfl))⟩
 f23 := ⟨"slices.choosePivotCmpFunc[shipwright/api.Label]", by decide, Tryz.func148.trans (congrArg some (by kernel_rfl))⟩
 f24 := ⟨"slices.reverseRangeCmpFunc[shipwright/api.Label]", by decide, Tryz.func149.trans (congrArg some (by kernel_rfl))⟩
 f25 := ⟨"slices.partialInsertionSortCmpFunc[shipwright/api.Label]", by decide, Tryz.func150.trans (congrArg some (by kernel_rfl))⟩
 f26 := ⟨"slices.partitionEqualCmpFunc[shipwright/api.Label]", by decide, Tryz.func151.trans (congrArg some (by kernel_rfl))⟩
 f27 := ⟨"slices.partitionCmpFunc[shipwright/api.Label]", by decide, Tryz.func152.trans (congrArg some (by kernel_rfl))⟩
 f28 := Tryz.func153.trans (congrArg some (by kernel_rfl))
 f29 := Tryz.func154.trans (congrArg some (by kernel_rfl))
 f46 := ⟨"slices.siftDownCmpFunc[shipwright/api.Label]", by decide, Tryz.func201.trans (congrArg some (by kernel_rfl))⟩
 f47 := Tryz.func202.trans (congrArg some (by kernel_rfl))
 f48 := Tryz.func203.trans (congrArg some (by kernel_rfl))
 f49 := ⟨"slices.medianAdjacentCmpFunc[shipwright/api.Label]", by decide, Tryz.func204.trans (congrArg some (by kernel_rfl))⟩
 f50 := ⟨"slices.medianCmpFunc[shipwright/api.Label]", by decide, Tryz.func205.trans (congrArg some (by kernel_rfl))⟩
 f57 := ⟨"slices.order2CmpFunc[shipwright/api.Label]", by decide, Tryz.func263.trans (congrArg some (by kernel_rfl))⟩
 t0 := Tryz.underlying0
 a0 := Tryz.isAgg0
 z0 := Tryz.sizeOf0
 v0 := Tryz.zeroValue0
 t3 := Tryz.underlying3
 a3 := Tryz.isAgg3
 z3 := Tryz.sizeOf3
 v3 := Tryz.zeroValue3
 t4 := Tryz.underlying4
 a4 := Tryz.isAgg4
 z4 := Tryz.sizeOf4
 v4 := Tryz.zeroValue4
 t5 := Tryz.underlying5
 a5 := Tryz.isAgg5
 z5 := Tryz.sizeOf5
 v5 := Tryz.zeroValue5
 t9 := Tryz.underlying9
 a9 := Tryz.isAgg9
 z9 := Tryz.sizeOf9
 v9 := Tryz.zeroValue9
 t22 := Tryz.underlying22
 a22 := Tryz.isAgg22
 z22 := Tryz.sizeOf22
 v22 := Tryz.zeroValue22
 t25 := Tryz.underlying93
 a25 := Tryz.isAgg93
 z25 := Tryz.sizeOf93
 v25 := Tryz.zeroValue93
 t39 := Tryz.underlying150
 a39 := Tryz.isAgg150
 z39 := Tryz.sizeOf150
 v39 := Tryz.zeroValue150
 t45 := Tryz.underlying191
 a45 := Tryz.isAgg191
 z45 := Tryz.sizeOf191
 v45 := Tryz.zeroValue191
 t46 := Tryz.underlying192
 a46 := Tryz.isAgg192
 z46 := Tryz.sizeOf192
 v46 := Tryz.zeroValue192
 t50 := Tryz.underlying196
 a50 := Tryz.isAgg196
 z50 := Tryz.sizeOf196
 v50 := Tryz.zeroValue196
 t53 := Tryz.underlying199
 a53 := Tryz.isAgg199
 z53 := Tryz.sizeOf199
 v53 := Tryz.zeroValue199
 t55 := Tryz.underlying201
 a55 := Tryz.isAgg201
 z55 := Tryz.sizeOf201
 v55 := Tryz.zeroValue201
 t66 := Tryz.underlying243
 a66 := Tryz.isAgg243
 z66 := Tryz.sizeOf243
 v66 := Tryz.zeroValue243
 t70 := Tryz.underlying247
 a70 := Tryz.isAgg247
 z70 := Tryz.sizeOf247
 v70 := Tryz.zeroValue247
 t76 := Tryz.underlying299
 a76 := Tryz.isAgg299
 z76 := Tryz.sizeOf299
 v76 := Tryz.zeroValue299
 t77 := Tryz.underlying300
 a77 := Tryz.isAgg300
 z77 := Tryz.sizeOf300
 v77 := Tryz.zeroValue300 }
set_option maxHeartbeats 4000000 in
set_option maxRecDepth 100000 in
theorem less_any (x y : Lb) (w : World) :
  Calls Tryz.prog 25 #[lv x, lv y] w fun e w' => e = .returned (.bool (ltL x y)) ∧ w' = (w.alloc (.cells (lc x).toArray 38)).alloc (.cells (lc y).toArray 38) := by
 obtain ⟨a, s⟩ := x
 obtain ⟨b, t⟩ := y
 unfold lv lc ltL
 have hb : ∀ s t : ByteArray, Op.bytesLess s.toList t.toList = decide (s.data.toList < t.data.toList) := fun s t => by rw [ByteArray.toList_eq, ByteArray.toList_eq, bytesLess_eq]
 cases a <;> cases b <;> simp only [Bool.false_eq_true, Bool.true_eq_false, if_true, if_false, ← hb]
 all_goals
  clear hb
  go_enter Tryz.func25, Tryz.ntmps25
  go_wp2
  go_ret
  exact ⟨rfl, rfl⟩
set_option maxHeartbeats 4000000 in
set_option maxRecDepth 100000 in
theorem cmpL_any (x y : Lb) (w : World) :
  Calls Tryz.prog 61 #[lv x, lv y] w fun e w' => e = .returned (.int .i64 (cfL x y)) ∧ ∃ os : Array Obj, w' = grow w os := by
 have h1 := fun w' => less_any x y w'
 have h2 := fun w' => less_any y x w'
 obtain ⟨b1, e1⟩ : ∃ b, ltL x y = b := ⟨_, rfl⟩
 obtain ⟨b2, e2⟩ : ∃ b, ltL y x = b := ⟨_, rfl⟩
 unfold cfL
 simp only [e1] at h1 ⊢
 simp only [e2] at h2 ⊢
 have H1 := Lib.hid h1
 have H2 := Lib.hid h2
 obtain ⟨xa, xs⟩ := x
 obtain ⟨ya, ys⟩ := y
 unfold lv lc at H1 H2
 unfold lv
 clear h1 h2 e1 e2
 go_enter Tryz.func61, Tryz.ntmps61
 go_wp2_with fail
 refine (H1.out _).mono ?_
 rintro e w2 ⟨rfl, rfl⟩
 cases b1
 ·go_wp2_with fail
  refine (H2.out _).mono ?_
  rintro e w2 ⟨rfl, rfl⟩
  cases b2
  ·go_wp2
   go_ret
   exact ⟨rfl, _, (by simp only [alloc_eq_grow, grow_grow]; rfl)⟩
  ·go_wp2
   go_ret
   exact ⟨rfl, _, (by simp only [alloc_eq_grow, grow_grow]; rfl)⟩
 ·go_wp2
  go_ret
  exact ⟨rfl, _, (by simp only [alloc_eq_grow, grow_grow]; rfl)⟩
instance : Inhabited Lb := ⟨(false, ⟨#[]⟩)⟩
theorem lc_len (x : Lb) : (lc x).length = 2 := rfl
theorem lc_one (x : Lb) : ∀ v ∈ lc x, v.oneCell' = true := by
 intro v hv
 unfold lc at hv
 simp at hv
 rcases hv with rfl | rfl <;> rfl
theorem cmpL_lays (blk size : Nat) (w : World) : CmpLays Tryz.prog 61 #[] lc 2 cfL blk 0 size w := by
 intro m os dk _ x y
 have := cmpL_any x y (sortWorldK lc 2 w blk 0 m dk os)
 rw [Array.append_empty]
 refine this.mono ?_
 rintro e w' ⟨rfl, os', rfl⟩
 exact ⟨rfl, 0, os', rfl⟩
theorem swoL : SWO (ltOf cfL) := by
 have hl : ∀ x y, ltOf cfL x y = ltL x y := fun x y => by
  unfold ltOf
  cases h : ltL x y with
  | true => exact decide_eq_true ((cfL_lt x y).2 h)
  | false => rw [decide_eq_false_iff_not, cfL_lt, h]; simp
 refine ⟨fun x => ?_, fun x y z h1 h2 => ?_, fun x y z h1 h2 => ?_⟩
 ·rw [hl]; exact ltL_irrefl x
 ·rw [hl] at *; exact ltL_trans h1 h2
 ·rw [hl] at *
  have a1 : leL y x = true := by unfold leL; rw [h1]; rfl
  have a2 : leL z y = true := by unfold leL; rw [h2]; rfl
  have := leL_trans a2 a1
  unfold leL at this
  simpa using this
theorem sortFuncL_any (blk cap : Nat) (d : Array Lb) (w : World) (hH : HoldsK lc 2 w blk 0 d) (hblk : blk < w.heap.size) (hsz : d.size < 4611686018427387904) :
  Calls Tryz.prog 60 #[.slice (some ⟨blk, 0, none⟩) d.size cap, .func (.func 61) #[] #[]] w fun e w' => e = .returned (.tuple #[]) ∧ ∃ d' n os, PermIn 0 d.size d d' ∧ SortedIn (ltOf cfL) 0 d.size d' ∧ w' = sortWorldK lc 2 w blk 0 n d' os := by
 have e6 : slRen.f 6 = 60 := by kernel_rfl
 have := AnyQ.slices_SortFunc lSl 2 Tryz.isAgg38 Tryz.sizeOf38 lc lc_len lc_one cfL swoL 61 #[] blk 0 cap d w (enters_of Tryz.func61 (by kernel_rfl) rfl) (cmpL_lays blk _ w) hH hblk hsz
 rwa [e6] at this
theorem lcs_any : ∀ (l : List Lb) (t : Nat), t < l.length * 2 → (lcs l)[t]? = some (lc l[t / 2]!)[t % 2]!
 | [], t, h => by simp at h
 | x :: l, t, h => by
  by_cases h2 : t < 2
  ·match t, h2 with
   | 0, _ => rfl
   | 1, _ => rfl
  ·obtain ⟨u, rfl⟩ : ∃ u, t = u + 2 := ⟨t - 2, by omega⟩
   have := lcs_any l u (by simp at h; omega)
   rw [lcs_cons, show (u + 2) / 2 = u / 2 + 1 by omega, show (u + 2) % 2 = u % 2 by omega]
   simpa using this
theorem swk_frame {w0 W : World} {blk : Nat} {d : Array Lb} (h : SWK lc 2 w0 blk 0 d W) : W.os = w0.os ∧ W.tape = w0.tape ∧ W.output = w0.output ∧ w0.heap.size ≤ W.heap.size ∧ ∀ k, k < w0.heap.size → k ≠ blk → W.heap[k]? = w0.heap[k]? := by
 have hle := h.le
 obtain ⟨n, os, rfl⟩ := h
 refine ⟨rfl, rfl, rfl, hle, fun k hk hne => ?_⟩
 show ((w0.heap.modify blk (onCells (putCells id 0 (flatK lc 2 d)))) ++ os)[k]? = w0.heap[k]?
 rw [Array.getElem?_append_left (by rw [Array.size_modify]; exact hk), Array.getElem?_modify, if_neg (fun e => hne e.symm)]
theorem swk_block {w0 W : World} {blk : Nat} {d : Array Lb} {cur : Array Value} {T : TypeId} {fz : Nat × Nat} (h : SWK lc 2 w0 blk 0 d W) (hb : w0.heap[blk]? = some (.cells cur T fz)) : ∃ cur', W.heap[blk]? = some (.cells cur' T fz) ∧ cur'.size = cur.size := by
 obtain ⟨m, os, rfl⟩ := h
 have hlt := (Array.getElem?_eq_some_iff.1 hb).1
 refine ⟨putCells id 0 (flatK lc 2 d) cur, ?_, by unfold putCells; simp⟩
 show ((w0.heap.modify blk (onCells (putCells id 0 (flatK lc 2 d)))) ++ os)[blk]? = _
 rw [Array.getElem?_append_left (by rw [Array.size_modify]; exact hlt), Array.getElem?_modify, if_pos rfl, hb]
 rfl
theorem srt_list (d d' : Array Lb) (hp : PermIn 0 d.size d d') (hs : SortedIn (ltOf cfL) 0 d.size d') : d'.toList = slb d.toList := by
 obtain ⟨h1, _, h3⟩ := hp
 refine slb_of ?_ ?_
 ·rw [Array.extract_size] at h3
  rwa [show d'.extract 0 d.size = d' by rw [← h1]; exact Array.extract_size] at h3
 ·refine List.pairwise_iff_getElem.2 fun i j hi hj hij => ?_
  have hi' : i < d'.size := by simpa using hi
  have hj' : j < d'.size := by simpa using hj
  have := hs i j (Nat.zero_le _) hij (by omega)
  rw [getElem!_pos d' j hj', getElem!_pos d' i hi'] at this
  unfold ltOf at this
  rw [decide_eq_false_iff_not, cfL_lt] at this
  unfold leL
  simpa using this
theorem sortLabels_any (B g cap : Nat) (ls : List Lb) (w : World) (hown : w.ownsRow B 38 2 (.slice (some ⟨g, 0, none⟩) ls.length cap) ls.length (lcs ls)) (hn : ls.length ≤ 1000000) :
  Calls Tryz.prog 60 #[.slice (some ⟨g, 0, none⟩) ls.length cap, .func (.func 61) #[] #[]] w fun e w' => e = .returned (.tuple #[]) ∧
   w'.ownsRow B 38 2 (.slice (some ⟨g, 0, none⟩) ls.length cap) ls.length (lcs (slb ls)) ∧ w'.os = w.os ∧ w'.tape = w.tape ∧ w'.output = w.output ∧ w.heap.size ≤ w'.heap.size ∧ ∀ k, k < w.heap.size → k ≠ g → w'.heap[k]? = w.heap[k]? := by
 obtain ⟨hlen, hcase⟩ := id hown
 rcases hcase with ⟨hv, h0⟩ | ⟨g', cap', cur, hv, hBg, hg, hnc, hcm, hcs, hct⟩
 ·cases hv
 ·obtain ⟨rfl, rfl⟩ : g = g' ∧ cap = cap' := by
   injection hv with e1 _ e2
   injection e1 with e1
   injection e1 with e1
   exact ⟨e1, e2⟩
  have hgl := (Array.getElem?_eq_some_iff.1 hg).1
  have hH : HoldsK lc 2 w g 0 ls.toArray := by
   intro j hj
   rw [size_flatK, List.size_toArray] at hj
   rw [Nat.zero_add, get_flatK _ _ _ _ (by rw [List.size_toArray]; exact hj)]
   refine ⟨?_, hown.frozenAt j⟩
   rw [hown.cellAt j hj, lcs_any ls j hj]
   simp
  have key := sortFuncL_any g cap ls.toArray w hH hgl (by rw [List.size_toArray]; omega)
  rw [List.size_toArray] at key
  refine key.mono ?_
  rintro e w' ⟨rfl, d', m, os, hp, hs, rfl⟩
  have q := srt_list ls.toArray d' (by rw [List.size_toArray]; exact hp) (by rw [List.size_toArray]; exact hs)
  simp only at q
  have hS : SWK lc 2 w g 0 d' (sortWorldK lc 2 w g 0 m d' os) := ⟨m, os, rfl⟩
  obtain ⟨f1, f2, f3, f4, f5⟩ := swk_frame hS
  obtain ⟨cur', hg', hcs'⟩ := swk_block hS hg
  have hds : d'.size = ls.length := by have := hp.1; simpa using this
  have hhold := hS.holds hgl hH (by rw [List.size_toArray]; exact hds)
  refine ⟨rfl, ⟨by rw [lcs_len, (slb_perm ls).length_eq], .inr ⟨g, cap, cur', rfl, hBg, hg', hnc, hcm, by rw [hcs']; exact hcs, ?_⟩⟩, f1, f2, f3, f4, f5⟩
  have hd : d' = (slb ls).toArray := by rw [← q]
  have hsl : (slb ls).length = ls.length := (slb_perm ls).length_eq
  refine List.ext_getElem? fun j => ?_
  by_cases hj : j < ls.length * 2
  ·rw [List.getElem?_take_of_lt hj, lcs_any _ j (by rw [hsl]; exact hj)]
   have := (hhold j (by rw [size_flatK, hds]; exact hj)).1
   rw [Nat.zero_add, get_flatK _ _ _ _ (by rw [hds]; exact hj)] at this
   unfold World.cell? at this
   rw [hg'] at this
   rw [hd] at this
   simpa using this
  ·rw [List.getElem?_eq_none (by rw [List.length_take]; omega), List.getElem?_eq_none (by rw [lcs_len, hsl]; omega)]
end Go.Proofs.YtdkainiiinjgmaaGreatDoor
namespace Go.Proofs.YtdkainiiinjgmaaGreatDoor
open Go.RowKit Go.Shelf
abbrev KV := Value × Value
def kvE (e : MapEntry) : KV := (e.key, e.val)
def RM (w : World) (b : Nat) (kv : List KV) : Prop := ∃ es ck, w.heap[b]? = some (.map es ck) ∧ es.toList.map kvE = kv ∧ (es.toList.map (·.born)).Nodup ∧ ∀ e ∈ es.toList, e.born < ck
def RI (w : World) (b r : Nat) (kv ss : List KV) : Prop := ∃ (es : Array MapEntry) (ck since : Nat) (seen : Array Nat) (c0 : Nat) (vis : List MapEntry), w.heap[b]? = some (.map es ck) ∧ es.toList.map kvE = kv ∧ (es.toList.map (·.born)).Nodup ∧ (∀ e ∈ es.toList, e.born < ck) ∧
 w.heap[r]? = some (.mapIter (some b) since seen c0) ∧ (∀ x ∈ es.toList, x.born < since) ∧ since ≤ c0 ∧ since ≤ ck ∧ (∀ e ∈ vis, e ∈ es.toList) ∧ seen.toList = vis.map (·.born) ∧ (vis.map (·.born)).Nodup ∧ ss = vis.map kvE
variable {P : Program} {w : World} {b r : Nat} {kv ss : List KV}
theorem RM.lt (h : RM w b kv) : b < w.heap.size := by obtain ⟨es, ck, h, _⟩ := h; exact (Array.getElem?_eq_some_iff.1 h).1
theorem RM.heap {w' : World} (h : RM w b kv) (hb : w'.heap[b]? = w.heap[b]?) : RM w' b kv := by obtain ⟨es, ck, h1, h2⟩ := h; exact ⟨es, ck, hb.trans h1, h2⟩
theorem RM.below {B : Nat} {w' : World} (h : RM w b kv) (hb : Below B w w') (hlt : b < B) : RM w' b kv := h.heap (hb.block b hlt)
theorem RI.rm (h : RI w b r kv ss) : RM w b kv := by obtain ⟨es, ck, _, _, _, _, h1, h2, h3, h4, _⟩ := h; exact ⟨es, ck, h1, h2, h3, h4⟩
theorem RI.lt (h : RI w b r kv ss) : r < w.heap.size := by obtain ⟨es, ck, _, _, _, _, _, _, _, _, h, _⟩ := h; exact (Array.getElem?_eq_some_iff.1 h).1
theorem RI.ne (h : RI w b r kv ss) : r ≠ b := by
 obtain ⟨es, ck, _, _, _, _, h1, _, _, _, h, _⟩ := h
 intro e; rw [e, h1] at h; cases h
theorem RI.heap {w' : World} (h : RI w b r kv ss) (hb : w'.heap[b]? = w.heap[b]?) (hr : w'.heap[r]? = w.heap[r]?) : RI w' b r kv ss := by
 obtain ⟨es, ck, s, se, c, v, h1, h2, h3, h4, h5, rest⟩ := h
 exact ⟨es, ck, s, se, c, v, hb.trans h1, h2, h3, h4, hr.trans h5, rest⟩
theorem RI.below {B : Nat} {w' : World} (h : RI w b r kv ss) (hb : Below B w w') (h1 : b < B) (h2 : r < B) : RI w' b r kv ss := h.heap (hb.block b h1) (hb.block r h2)
theorem RM.range {t k e : TypeId} (h : RM w b kv) (ht : P.underlying t = some (.map k e)) :
  ∃ o, (Instr.range t (.map (some b))).run P w = .ok (.pointer (some ⟨w.heap.size, 0, none⟩)) (w.alloc o) ∧ RI (w.alloc o) b w.heap.size kv [] := by
 have hlt := h.lt
 obtain ⟨es, ck, h1, h2, h3, h4⟩ := h
 exact ⟨_, run_range_map w t k e b es ck ht h1, es, ck, ck, #[], ck, [], ((MapKept.heap_alloc w _).2 b hlt).trans h1, h2, h3, h4, (MapKept.heap_alloc w _).1, h4, Nat.le_refl _, Nat.le_refl _, by simp, rfl, List.nodup_nil, rfl⟩
theorem born_one {es : List MapEntry} (hn : (es.map (·.born)).Nodup) {x y : MapEntry} (hx : x ∈ es) (hy : y ∈ es) (h : x.born = y.born) : x = y := by
 induction es with
 | nil => cases hx
 | cons e es ih =>
  rw [List.map_cons, List.nodup_cons] at hn
  rcases List.mem_cons.1 hx with rfl | hx1 <;> rcases List.mem_cons.1 hy with rfl | hy1
  ·rfl
  ·exact absurd (by rw [h]; exact List.mem_map_of_mem hy1) hn.1
  ·exact absurd (by rw [← h]; exact List.mem_map_of_mem hx1) hn.1
  ·exact ih hn.2 hx1 hy1
theorem nodup_of_born {es : List MapEntry} (hn : (es.map (·.born)).Nodup) : es.Nodup := List.Pairwise.of_map (·.born) (fun _ _ hne e => hne (congrArg _ e)) hn
theorem kv_few {α : Type} : ∀ {l m : List α}, l.Nodup → (∀ x ∈ l, x ∈ m) → l.length ≤ m.length
 | [], _, _, _ => by simp
 | x :: l, m, hn, hs => by
  obtain ⟨h1, h2⟩ := List.nodup_cons.1 hn
  obtain ⟨a, b, rfl⟩ := List.append_of_mem (hs x (by simp))
  have := kv_few (l := l) (m := a ++ b) h2 fun y hy => by
   have hy2 := hs y (by simp [hy])
   rcases List.mem_append.1 hy2 with h | h
   ·exact List.mem_append_left _ h
   ·rcases List.mem_cons.1 h with rfl | h
    ·exact absurd hy h1
    ·exact List.mem_append_right _ h
  simp only [List.length_append, List.length_cons] at this ⊢
  omega
theorem RI.next (h : RI w b r kv ss) (ty : TypeId) :
  (ss.Perm kv ∧ (Instr.next (.pointer (some ⟨r, 0, none⟩)) false ty).run P w = .ok (.tuple #[.bool false]) w) ∨
  ∃ k v w', (k, v) ∈ kv ∧ ss.length < kv.length ∧ (Instr.next (.pointer (some ⟨r, 0, none⟩)) false ty).run P w = .ok (.tuple #[.bool true, k, v]) w' ∧ RI w' b r kv (ss ++ [(k, v)]) ∧ w.grownBy w' (some r) ∧ w'.heap.size = w.heap.size ∧
   (Instr.entry (.pointer (some ⟨r, 0, none⟩))).run P w' = .ok (.tuple #[k, v]) w' := by
 have hne := h.ne
 obtain ⟨es, ck, since, seen, c0, vis, hb, rfl, hn, hck, hr, hold, hsc, hsk, hv, hse, hvn, rfl⟩ := h
 have hmem : ∀ x : MapEntry, x ∈ es.toList → seen.contains x.born = true → x ∈ vis := fun x hx hc => by
  have : x.born ∈ seen.toList := by simpa using hc
  rw [hse] at this
  obtain ⟨y, hy, e⟩ := List.mem_map.1 this
  obtain rfl := born_one hn (hv y hy) hx e
  exact hy
 rcases run_next_at (P := P) w ty r b since c0 seen es ck hr hb hold hsc with ⟨h0, hrun⟩ | ⟨e, he, w1, hal, hrun⟩
 ·refine .inl ⟨?_, hrun⟩
  have hp : vis.Perm es.toList := (List.perm_ext_iff_of_nodup (nodup_of_born hvn) (nodup_of_born hn)).2 fun x => ⟨hv x, fun hx => hmem x hx (all_seen es seen h0 x hx)⟩
  exact hp.map kvE
 ·obtain ⟨hem, hes⟩ := mem_left he
  have hr1 : w1.heap[r]? = some (.mapIter (some b) since seen c0) := by rcases hal with rfl | rfl <;> exact hr
  have hb1 : w1.heap[b]? = some (.map es ck) := by rcases hal with rfl | rfl <;> exact hb
  have hset := MapKept.heap_set (o' := .mapIter (some b) since (seen.push e.born) ck) hr1
  have hb' : (ChangeMaps.setBlock w1 r (.mapIter (some b) since (seen.push e.born) ck)).heap[b]? = some (.map es ck) := (hset.2 b (fun e1 => hne e1.symm)).trans hb1
  have hnew : e.born ∉ vis.map (·.born) := by
   rw [← hse]
   intro hx
   have : seen.contains e.born = true := by simpa using hx
   rw [hes] at this; cases this
  have hvn' : ((vis ++ [e]).map (·.born)).Nodup := by
   rw [List.map_append, List.nodup_append]
   refine ⟨hvn, by simp, fun x hx y hy => ?_⟩
   simp at hy; subst hy
   exact fun e1 => hnew (e1 ▸ hx)
  have hv' : ∀ x ∈ vis ++ [e], x ∈ es.toList := fun x hx => by
   rcases List.mem_append.1 hx with hx | hx
   ·exact hv x hx
   ·simp at hx; subst hx; exact hem
  refine .inr ⟨e.key, e.val, _, List.mem_map.2 ⟨e, hem, rfl⟩, ?_, hrun, ⟨es, ck, since, seen.push e.born, ck, vis ++ [e], hb', rfl, hn, hck, hset.1, hold, hsk, hsk, hv', ?_, hvn', ?_⟩, ?_, ?_, run_entry_at _ r b since seen es ck e hset.1 hb' hem hn⟩
  ·have := kv_few (nodup_of_born hvn') hv'
   simp only [List.length_append, List.length_cons, List.length_nil, List.length_map] at this ⊢
   omega
  ·simp [hse]
  ·simp [kvE]
  ·rcases hal with rfl | rfl <;> exact ⟨rfl, rfl, rfl, by simp [ChangeMaps.setBlock], fun i _ hi => hset.2 i (fun e1 => hi (by rw [e1]))⟩
  ·rcases hal with rfl | rfl <;> simp [ChangeMaps.setBlock]
section
variable {ops : Array Oper} {rest : List Oper} {o : Oper} {a : Act} {Q : Exit → Act → World → Prop}
end
end Go.Proofs.YtdkainiiinjgmaaGreatDoor
