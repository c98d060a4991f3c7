import Derived.Test.YtdhmeganlnpohaaGreatDoorMbq
namespace Go.Proofs.YtdhmeganlnpohaaGreatDoor
open Go.RowKit Go.Shelf Go.Maps
structure RouS (w0 : World) (n : Nat) (qv : Value) (q : List (List Nat)) (r : List Bool) (W : World) : Prop where
 row : ∃ us : List Value, QRow W (n + 1) 54 qv us ∧ us.length = q.length ∧ ∀ (j : Nat) u x, us[j]? = some u → q[j]? = some x → OwnInts (n + 1) W u x
 marks : BoolR W n r
 below : Below n w0 W
 size : n + 1 ≤ W.heap.size
theorem own_grown {B : Nat} {w w' : World} {v : Value} {xs : List Nat} {row : Option Nat} (h : OwnInts B w v xs) (hg : w.grownBy w' row) (hne : ∀ k, row = some k → v.ownBlock ≠ some k) : OwnInts B w' v xs := by
 refine World.ownsRow.kept h hg ?_
 cases hb : v.ownBlock with
 | none => exact .inl rfl
 | some b => exact .inr fun e => hne b e.symm hb
theorem below_grown {B : Nat} {w w' : World} (h : Below B w w') (hB : w.heap.size ≤ B) : w.grownBy w' none := ⟨h.os, h.tape, h.output, h.size, fun k hk _ => h.block k (by omega)⟩
theorem QRow.type {w : World} {base : Nat} {e : TypeId} {v : Value} {xs : List Value} (h : QRow w base e v xs) {b : Nat} (hb : v.ownBlock = some b) : ∃ cur, w.heap[b]? = some (.cells cur e (0, 0)) := by
 rcases h with ⟨rfl, rfl⟩ | ⟨g, o, cap, cur, rfl, _, hg, _⟩
 ·cases hb
 ·obtain rfl : g = b := by simpa [Value.ownBlock] using hb
  exact ⟨_, hg⟩
theorem OwnInts.type {B : Nat} {w : World} {v : Value} {xs : List Nat} (h : OwnInts B w v xs) {b : Nat} (hb : v.ownBlock = some b) : B ≤ b ∧ ∃ cur, w.heap[b]? = some (.cells cur 3 (0, 0)) := by
 rcases h.2 with ⟨rfl, _⟩ | ⟨g, cap, cur, rfl, hB, hg, _⟩
 ·cases hb
 ·obtain rfl : g = b := by simpa [Value.ownBlock] using hb
  exact ⟨hB, _, hg⟩
theorem BoolR.heap {w w' : World} {g : Nat} {ms : List Bool} (h : BoolR w g ms) (hb : w'.heap[g]? = w.heap[g]?) : BoolR w' g ms := by unfold BoolR at h ⊢; rw [hb]; exact h
theorem ten_ne : (3 : TypeId) ≠ 54 := by decide
theorem RouS.mark {w0 : World} {n x : Nat} {qv : Value} {q : List (List Nat)} {r : List Bool} {W : World} (h : RouS w0 n qv q r W) : RouS w0 n qv q (r.set x true) (W.setCell ⟨n, x, none⟩ (.bool true)) := by
 obtain ⟨us, h1, h2, h3⟩ := h.row
 have hg : W.grownBy (W.setCell ⟨n, x, none⟩ (.bool true)) (some n) := ⟨rfl, rfl, rfl, by simp [World.setCell], fun k _ hk => Below.heap_setCell W _ _ k (fun e => hk (by rw [e]))⟩
 refine ⟨⟨us, h1.heap fun k hk => hg.block k (h1.lt k hk).2 (fun e => by have := (h1.lt k hk).1; have := Option.some.inj e; omega), h2, fun j u x' hu hx => own_grown (h3 j u x' hu hx) hg fun k e hb => ?_⟩, h.marks.set x true, h.below.setCell (p := ⟨n, x, none⟩) (Nat.le_refl _) _, by have := h.size; have := hg.size; omega⟩
 have := (h3 j u x' hu hx).type hb
 have := Option.some.inj e
 omega
theorem RouS.later {w0 : World} {n : Nat} {qv : Value} {q : List (List Nat)} {r : List Bool} {W W' : World} (h : RouS w0 n qv q r W) (hb : W.grownBy W' none) : RouS w0 n qv q r W' := by
 obtain ⟨us, h1, h2, h3⟩ := h.row
 refine ⟨⟨us, h1.heap fun k hk => hb.block k (h1.lt k hk).2 (by simp), h2, fun j u x' hu hx => own_grown (h3 j u x' hu hx) hb (by simp)⟩, h.marks.heap (hb.block n (by have := h.size; omega) (by simp)), ?_, by have := h.size; have := hb.size; omega⟩
 exact h.below.grown hb (by have := h.size; omega) (by simp)
theorem q_ne {B : Nat} {W : World} {qv u : Value} {us : List Value} {y : List Nat} (hq : QRow W B 54 qv us) (hu : OwnInts B W u y) : ∀ k, qv.ownBlock = some k → u.ownBlock ≠ some k := by
 intro k hk e
 obtain ⟨cur, hc⟩ := hq.type hk
 obtain ⟨_, cur', hc'⟩ := hu.type e
 rw [hc] at hc'
 injection hc' with hc'
 injection hc' with _ ht
 exact ten_ne ht.symm
theorem RouS.push {w0 : World} {n : Nat} {qv qv' v : Value} {q : List (List Nat)} {us : List Value} {x : List Nat} {r : List Bool} {W W' : World} (h : RouS w0 n qv q r W) (hq : QRow W (n + 1) 54 qv us) (hus : us.length = q.length) (h3 : ∀ (j : Nat) u x, us[j]? = some u → q[j]? = some x → OwnInts (n + 1) W u x) (hx : OwnInts (n + 1) W v x)
  (hq' : QRow W' (n + 1) 54 qv' (us ++ [v])) (hb : W.grownBy W' qv.ownBlock) : RouS w0 n qv' (q ++ [x]) r W' := by
 have hz := h.size
 refine ⟨⟨us ++ [v], hq', by rw [List.length_append, List.length_append, hus]; rfl, fun j u y hu hy => ?_⟩, h.marks.heap (hb.block n (by omega) (fun e => by have := (hq.lt n e.symm).1; omega)), h.below.grown hb (by omega) (fun k e => by have := (hq.lt k e).1; omega), by have := hb.size; omega⟩
 by_cases hj : j < us.length
 ·rw [List.getElem?_append_left hj] at hu
  rw [List.getElem?_append_left (by omega)] at hy
  exact own_grown (h3 j u y hu hy) hb (q_ne hq (h3 j u y hu hy))
 ·rw [List.getElem?_append_right (by omega)] at hu hy
  have hjl := (List.getElem?_eq_some_iff.1 hu).1
  simp only [List.length_cons, List.length_nil] at hjl
  obtain rfl : j = us.length := by omega
  rw [Nat.sub_self] at hu
  rw [hus, Nat.sub_self] at hy
  obtain rfl : v = u := by simpa using hu
  obtain rfl : x = y := by simpa using hy
  exact own_grown hx hb (q_ne hq hx)
theorem RouS.pop {w0 : World} {n : Nat} {a : Option Addr} {m c : Nat} {y : List Nat} {q : List (List Nat)} {r : List Bool} {W : World} (h : RouS w0 n (.slice a m c) (y :: q) r W) : RouS w0 n (.slice (if c = 1 then a else a.map (·.add (1 * 1))) (m - 1) (c - 1)) q r W := by
 obtain ⟨us, h1, h2, h3⟩ := h.row
 cases us with
 | nil => simp at h2
 | cons u us =>
  exact ⟨⟨us, h1.drop, by simpa using h2, fun j u' x' hu hx => h3 (j + 1) u' x' (by simpa using hu) (by simpa using hx)⟩, h.marks, h.below, h.size⟩
def lenV : Value → Nat
 | .slice _ n _ => n
 | _ => 0
def cntW (w : World) (g : Nat) : Nat := match w.heap[g]? with
 | some (.cells cs _ _) => cs.toList.countP fun v => match v with
  | .bool b => b == false
  | _ => false
 | _ => 0
theorem cntW_of {w : World} {g : Nat} {r : List Bool} (h : BoolR w g r) : cntW w g = cntF r := by
 unfold cntW cntF
 rw [show w.heap[g]? = some (.cells (r.map Value.bool).toArray 4 (0, 0)) from h]
 simp only [List.countP_map]
 rfl
end Go.Proofs.YtdhmeganlnpohaaGreatDoor
namespace Go.Proofs.YtdhmeganlnpohaaGreatDoor
open Go.RowKit Go.Shelf Go.Maps
theorem infoRow : (Tryz.prog.info? 54).map (fun i => (i.zero, i.size, i.bytes)) = some (some (.slice none 0 0), 1, 24) := by kernel_rfl
def ndOf (ns : List (List Nat)) (k : Nat) : List Nat := (ns[k]?).getD []
set_option maxHeartbeats 8000000
set_option maxRecDepth 100000
theorem roundFrom_any (s : Nat) (nv : Value) (ns : List (List Nat)) (w : World) (hN : NeedsIs w nv ns) (hlt : ∀ x ∈ ns, ∀ y ∈ x, y < ns.length) (hs : s < ns.length) (hn : ns.length ≤ 1000) (hl : ∀ x ∈ ns, x.length ≤ 100000000) :
  Calls Tryz.prog 104 #[.int .i64 (s : Int), nv] w fun e w' => ∃ u, e = .returned u ∧ IsInts w' u (roundP s (ndOf ns) ns.length) ∧ Below w.heap.size w w' := by
 have mixed : Tryz.prog.follows .mixedOrders = true := by kernel_rfl
 obtain ⟨i0, hi0, hz0, hz1, hz2⟩ := info_parts infoInt
 obtain ⟨i1, hi1, hy0, hy1, hy2⟩ := info_parts infoRow
 obtain ⟨g, rfl, hg, hc⟩ := hN
 obtain ⟨N, hNN⟩ : ∃ N, ns.length = N := ⟨_, rfl⟩
 rw [hNN] at hlt hs hn ⊢
 have hmk := make_boolsN N (by omega)
 obtain ⟨n, hnn⟩ : ∃ n, w.heap.size = n := ⟨_, rfl⟩
 have HC : Hid (∀ (k : Nat) x, ns[k]? = some x → ∃ a c, x.length ≤ c ∧ c ≤ maxLen ∧ (∀ W, Below n w W → W.cell? ⟨g, k, none⟩ = some (.slice a x.length c)) ∧ ∀ (j : Nat) y, x[j]? = some y → ∃ b o, a = some ⟨b, o, none⟩ ∧ ∀ W, Below n w W → W.cell? ⟨b, o + j, none⟩ = some (.int .i64 (y : Int))) := by
  show ∀ (k : Nat) x, _
  intro k x hx
  obtain ⟨u, hu, hI⟩ := hc k x hx
  obtain ⟨a, c, rfl, h1, h2, h3⟩ := hI.at
  rw [hnn] at h3
  exact ⟨a, c, h1, h2, fun W hW => (hW.cell (p := ⟨g, k, none⟩) (by rw [← hnn]; exact hg)).trans hu, h3⟩
 have HLT : Hid (∀ (k : Nat) x, ns[k]? = some x → ∀ y ∈ x, y < N) := Lib.hid fun k x hx => hlt x (List.mem_of_getElem? hx)
 have HLL' : Hid (∀ (k : Nat) x, ns[k]? = some x → x.length ≤ 100000000) := Lib.hid fun k x hx => hl x (List.mem_of_getElem? hx)
 obtain ⟨W3, hW3⟩ : ∃ W, ((w.alloc (.cells (madeCells #[.bool false] N) 4)).alloc (.cells #[.int .i64 (s : Int)] 3)).alloc (.cells #[.slice (some ⟨n + 1, 0, none⟩) 1 1] 54) = W := ⟨_, rfl⟩
 have hS3 : RouS w n (.slice (some ⟨n + 2, 0, none⟩) 1 1) [[s]] (List.replicate N false) W3 := by
  have e1 : ((w.alloc (.cells (madeCells #[.bool false] N) 4)).alloc (.cells #[.int .i64 (s : Int)] 3)).heap.size = n + 2 := by simp [hnn]
  have q2 := alloc_at ((w.alloc (.cells (madeCells #[.bool false] N) 4)).alloc (.cells #[.int .i64 (s : Int)] 3)) (.cells #[.slice (some ⟨n + 1, 0, none⟩) 1 1] 54)
  rw [e1] at q2
  have q1 := alloc_at (w.alloc (.cells (madeCells #[.bool false] N) 4)) (.cells #[.int .i64 (s : Int)] 3)
  rw [World.size_alloc, hnn] at q1
  have q0 := boolR_made w N
  rw [hnn] at q0
  rw [hW3] at q2
  have hb1 : Below (n + 1) (w.alloc (.cells (madeCells #[.bool false] N) 4)) W3 := by rw [← hW3]; exact ((Below.refl _ _).alloc (by simp [hnn]) _).alloc (by simp [hnn] <;> omega) _
  have hb2 : Below (n + 2) ((w.alloc (.cells (madeCells #[.bool false] N) 4)).alloc (.cells #[.int .i64 (s : Int)] 3)) W3 := by rw [← hW3]; exact (Below.refl _ _).alloc (by simp [hnn]) _
  refine ⟨⟨[.slice (some ⟨n + 1, 0, none⟩) 1 1], .inr ⟨n + 2, 0, 1, _, rfl, by omega, q2, by simp, by decide, by simp, fun j x hx => ?_⟩, rfl, fun j u x hu hx => ?_⟩, q0.heap (hb1.block n (by omega)), ?_, ?_⟩
  ·have hjl := (List.getElem?_eq_some_iff.1 hx).1
   simp only [List.length_cons, List.length_nil] at hjl
   obtain rfl : j = 0 := by omega
   simpa using hx
  ·have hjl := (List.getElem?_eq_some_iff.1 hu).1
   simp only [List.length_cons, List.length_nil] at hjl
   obtain rfl : j = 0 := by omega
   obtain rfl : Value.slice (some ⟨n + 1, 0, none⟩) 1 1 = u := by simpa using hu
   obtain rfl : [s] = x := by simpa using hx
   exact ⟨rfl, .inr ⟨n + 1, 1, _, rfl, Nat.le_refl _, (hb2.block (n + 1) (by omega)).trans q1, Nat.le_refl _, by decide, rfl, rfl⟩⟩
  ·rw [← hW3, ← hnn]; exact (((Below.refl _ _).alloc (Nat.le_refl _) _).alloc (by simp) _).alloc (by simp <;> omega) _
  ·have := hb1.size; rw [World.size_alloc, hnn] at this; exact this
 obtain ⟨si, hsi⟩ : ∃ si : Int, (s : Int) = si := ⟨_, rfl⟩
 rw [hsi] at hW3 ⊢
 have HSI := Lib.hid hsi
 have HS3 := Lib.hid hS3; have HW3 := Lib.hid hW3; have HNN := Lib.hid hnn
 have HWK := Lib.hid (waysOk_first (nd := ndOf ns) hs)
 obtain ⟨RES, hRES⟩ : ∃ R, roundP s (ndOf ns) N = R := ⟨_, rfl⟩
 have HRES : Hid (bfsF s (ndOf ns) (N + 2) [[s]] (List.replicate N false) = RES) := hRES
 rw [hRES, hnn]
 clear hc hlt hl hS3 hW3 hRES hsi
 go_enter Tryz.func104, Tryz.ntmps104
 go_wp2_with fail
 rw [HW3.out]
 go_loopw [6] (fun qv wr => ∃ (q : List (List Nat)) (r : List Bool) (m : Nat), bfsF s (ndOf ns) m q r = RES ∧ q.length + cntF r < m ∧ WaysOk s (ndOf ns) N q r ∧ RouS w n qv q r wr) (fun qv wr => lenV qv + cntW wr n)
 case atStart => exact ⟨_, _, N + 2, HRES.out, by rw [cntF_made]; simp; omega, HWK.out, HS3.out⟩
 case round =>
  obtain ⟨q, r, m, hE, hm, hW, hS⟩ := hrel
  obtain ⟨us, hq, hus, hown⟩ := id hS.row
  obtain ⟨qa, qc, rfl, hqc, hqm, hqcell⟩ := hq.shape
  obtain ⟨m, rfl⟩ : ∃ m', m = m' + 1 := ⟨m - 1, by omega⟩
  unfold maxLen at hqm
  cases q with
  | nil =>
   obtain rfl : us = [] := List.eq_nil_of_length_eq_zero (by simpa using hus)
   have HB := Lib.hid hS.below
   have hE2 : [] = RES := by rw [← hE]; rfl
   have HE2 : Hid (IsInts wr (.slice none 0 0) RES) := Lib.hid (by rw [← hE2]; exact ⟨none, 0, rfl, Nat.le_refl _, Nat.zero_le _, fun h => absurd rfl h⟩)
   simp only [List.length_nil] at hqc ⊢
   clear hE hE2 hm hW hS hq hus hown hqcell
   go_wp2
   go_ret
   exact ⟨_, rfl, HE2.out, HB.out⟩
  | cons y q =>
   cases us with
   | nil => simp at hus
   | cons u us =>
   have hy0 := hW.ne y (by simp)
   have hylen := hW.len y (by simp)
   have hyl : ∀ z ∈ y, z < N := hW.lt y (by simp)
   have hu := hown 0 u y rfl rfl
   obtain ⟨ll, hll⟩ : ∃ ll, y.length = ll + 1 := ⟨y.length - 1, by have := List.length_pos_iff.2 hy0; omega⟩
   obtain ⟨ub, uk, ucur, eu, hub, hug, hu1, hu2, hu3, hu4⟩ : ∃ b uk cur, u = .slice (some ⟨b, 0, none⟩) (ll + 1) uk ∧ n + 1 ≤ b ∧ wr.heap[b]? = some (.cells cur 3 (0, 0)) ∧ ll + 1 ≤ uk ∧ uk ≤ maxLen ∧ cur.size = uk * 1 ∧ cur.toList.take ((ll + 1) * 1) = y.map intV := by
    rcases hu.2 with ⟨_, h0⟩ | ⟨b, uk, cur, e1, e2, e3, e4, e5, e6, e7⟩
    ·omega
    ·rw [hll] at e1 e4 e7
     exact ⟨b, uk, cur, e1, e2, e3, e4, e5, e6, e7⟩
   subst eu
   obtain ⟨z0, hz0⟩ : ∃ z, y[ll]? = some z := ⟨y[ll]'(by omega), List.getElem?_eq_getElem _⟩
   have hlast : y.getLastD 0 = z0 := by rw [List.getLastD_eq_getLast?, List.getLast?_eq_getElem?, hll, Nat.add_sub_cancel, hz0]; rfl
   have hz0l := hyl z0 (List.mem_of_getElem? hz0)
   obtain ⟨x, hx⟩ : ∃ x, ns[z0]? = some x := ⟨ns[z0]'(by omega), List.getElem?_eq_getElem _⟩
   obtain ⟨a2, c2, h21, h22, hcell2, hel⟩ := HC.out z0 x hx
   have cN := hcell2 wr hS.below
   have cU : wr.cell? ⟨ub, ll, none⟩ = some (.int .i64 (z0 : Int)) := by
    simp only [World.cell?, hug, Option.isSome_none, Bool.false_eq_true, if_false]
    have : (ucur.toList.take ((ll + 1) * 1))[ll]? = (y.map intV)[ll]? := by rw [hu4]
    rw [List.getElem?_take, if_pos (by omega), List.getElem?_map, hz0] at this
    simpa [intV] using this
   obtain ⟨qb, qo, eq, hqb, cQ⟩ := hqcell 0 _ rfl
   subst eq
   simp only [Nat.add_zero] at cQ
   obtain ⟨L, hL⟩ : ∃ L, us.length = L := ⟨_, rfl⟩
   have hpop := hS.pop
   simp only [List.length_cons, hL, Option.map_some, Addr.add_lit, Nat.add_sub_cancel] at hpop hqc ⊢
   obtain ⟨V6, hV6⟩ : ∃ V, Value.slice (if qc = 1 then some ⟨qb, qo, none⟩ else some ⟨qb, qo + 1 * 1, none⟩) L (qc - 1) = V := ⟨_, rfl⟩
   rw [hV6] at hpop
   have hslq : ∀ W : World, (Instr.sliceAt 133 (.slice (some ⟨qb, qo, none⟩) (L + 1) qc) (some (.int .i64 1)) none none).run Tryz.prog W = .ok V6 W := by
    intro W
    have e1 : ¬ (L : Int) + 1 < 1 := by omega
    rw [← hV6]
    simp [Instr.sliceAt, Instr.slice, run_underlying Tryz.underlying133, sizeOf, typeInfo, hi1, hy1, Instr.sliceBounds, go_sem, e1]
   have hl0 : (0 : Int) < (L : Int) + 1 := by omega
   have hzi : (z0 : Int) < (N : Int) := by omega
   have hzi0 : (0 : Int) ≤ (z0 : Int) := by omega
   obtain ⟨X, hX⟩ : ∃ X, nextsF s y x q r = X := ⟨_, rfl⟩
   have hE' : contF s (ndOf ns) m y X = RES := by
    rw [← hE, bfsF_cons, hlast, show ndOf ns z0 = x by unfold ndOf; rw [hx]; rfl, hX]
   have HE := Lib.hid hE'; have HX := Lib.hid hX; have HPOP := Lib.hid hpop; have HW := Lib.hid hW.tail; have HM := Lib.hid hm; have HU := Lib.hid hu; have HEL := Lib.hid hel; have HLL := Lib.hid hll; have HXLT := Lib.hid (HLT.out z0 x hx); have HXL := HLL'.out z0 x hx; have HYL := Lib.hid hyl; have HYN := Lib.hid hylen
   have HSZ := Lib.hid hS.marks
   have HQL : Hid (L = q.length) := Lib.hid (by rw [← hL]; simpa using hus)
   clear hll hE hE' hX hpop hW hm hu hel hS hq hus hown hqcell hcell2 hV6 hyl hylen hug hu3 hu4 hz0 hlast hx hy0 hub
   unfold maxLen at hu2 h22
   have HCN := Lib.hid (cntW_of HSZ.out)
   obtain ⟨WR, hWR⟩ : ∃ V, V = wr := ⟨_, rfl⟩
   rw [← hWR] at HCN HPOP HU
   subst hWR
   go_wp2_with fail
   go_loopw [6, 34] (fun qv jv wq => ∃ (j : Nat) (q1 : List (List Nat)) (r1 : List Bool), j ≤ x.length ∧ jv = .int .i64 (j : Int) ∧ nextsF s y (x.drop j) q1 r1 = X ∧ q1.length + cntF r1 = q.length + cntF r ∧ y.length + cntF r1 ≤ N + 1 ∧ WaysOk s (ndOf ns) N q1 r1 ∧ RouS w n qv q1 r1 wq ∧ OwnInts (n + 1) wq (.slice (some ⟨ub, 0, none⟩) (ll + 1) uk) y) (fun _ jv _ => x.length - (intOf jv).toNat)
   case atStart => exact ⟨0, q, r, Nat.zero_le _, rfl, by rw [List.drop_zero]; exact HX.out, rfl, HYN.out, HW.out, HPOP.out, HU.out⟩
   case round =>
    obtain ⟨j, q1, r1, hj, rfl, hX, hcnt, hyc, hW, hS, hu⟩ := hrel
    by_cases hlt : j < x.length
    ·obtain ⟨z, hz⟩ : ∃ z, x[j]? = some z := ⟨x[j], List.getElem?_eq_getElem hlt⟩
     obtain ⟨eb, eo, ea, hc⟩ := HEL.out j z hz
     subst ea
     have cz := hc wr hS.below
     have hzl := HXLT.out z (List.mem_of_getElem? hz)
     rw [drop_at' hz, nextsF] at hX
     have hj1 : (j : Int) < (x.length : Int) := by omega
     have hj0 : (0 : Int) ≤ (j : Int) := by omega
     have hzN : (z : Int) < (N : Int) := by omega
     have hzn0 : (0 : Int) ≤ (z : Int) := by omega
     by_cases hzs : z = s
     ·rw [if_pos hzs] at hX
      subst hX
      have HR : Hid (IsInts wr (.slice (some ⟨ub, 0, none⟩) (ll + 1) uk) RES) := Lib.hid (by rw [← HE.out]; exact hu.isInts)
      have HB := Lib.hid hS.below
      have hzi2 : (z : Int) = si := by have := HSI.out; omega
      clear hcnt hyc hW hS hu hc hz hzs
      go_wp2
      go_ret
      exact ⟨_, rfl, HR.out, HB.out⟩
     ·rw [if_neg hzs] at hX
      have hzi2 : ¬ (z : Int) = si := by have := HSI.out; omega
      obtain ⟨b, hb⟩ : ∃ b, r1[z]? = some b := ⟨r1[z]'(by rw [hW.size]; exact hzl), List.getElem?_eq_getElem _⟩
      obtain ⟨cm, cf⟩ := hS.marks.cell hb
      cases b
      ·rw [if_neg (by rw [hb]; simp)] at hX
       have hpush := hW.push hyc HYL.out hzl hb
       have hcs := cntF_set hb
       have hyN := HYN.out
       have hcl : cntF r1 ≤ N := by have := List.countP_le_length (p := fun x => x == false) (l := r1); rw [hW.size] at this; exact this
       obtain ⟨W1, hW1⟩ : ∃ W, wr.setCell ⟨n, z, none⟩ (.bool true) = W := ⟨_, rfl⟩
       have hS1 := hS.mark (x := z)
       have hu1 : OwnInts (n + 1) W1 (.slice (some ⟨ub, 0, none⟩) (ll + 1) uk) y := by
        rw [← hW1]
        refine own_grown hu (row := some n) ⟨rfl, rfl, rfl, by simp [World.setCell], fun k _ hk => Below.heap_setCell wr _ _ k (fun e => hk (by rw [e]))⟩ fun k e hb => ?_
        have := (hu.type hb).1
        have := Option.some.inj e
        omega
       rw [hW1] at hS1
       have hyl2 : y.length ≤ 1001 := by omega
       have CC := Lib.hid (cloneI_any _ y W1 hu1.isInts (by omega))
       have HS1 := Lib.hid hS1; have HU1 := Lib.hid hu1; have HW1 := Lib.hid hW1; have HX2 := Lib.hid hX; have HCT : Hid ((q1 ++ [y ++ [z]]).length + cntF (r1.set z true) = q.length + cntF r) := Lib.hid (by rw [List.length_append]; simp only [List.length_cons, List.length_nil]; omega)
       have HYC : Hid (y.length + cntF (r1.set z true) ≤ N + 1) := Lib.hid (by omega)
       have HW2 := Lib.hid hpush; have HYL2 := Lib.hid hyl2; have HQ1 : Hid (q1.length ≤ 1001) := Lib.hid (by have := hW.many; omega)
       have HN1 : Hid (n + 1 ≤ W1.heap.size) := Lib.hid hS1.size
       clear hX hcnt hyc hW hS hu hc hz hb hzs hpush hcs hyN hcl hS1 hu1 hW1 hyl2
       go_wp2_with (first | (go_at_call 150; rw [HW1.out]; (with_reducible refine CC.out.mono ?_); rintro e w2 ⟨v2, rfl, ho2, hb2⟩; obtain ⟨p2, k2, rfl⟩ := own_shapeI ho2; have HO2 := Lib.hid (show w2.ownsRow W1.heap.size 3 1 _ _ _ from ho2); have HB2 := Lib.hid hb2; clear ho2 hb2) | (at_builtin; (refine wpList_append_own _ rfl _ _ 54 rfl W1.heap.size 3 i0 _ 1 8 Tryz.underlying54 hi0 hz0 hz1 hz2 rfl (by decide) _ _ _ rfl (World.ownsRow.alloc HO2.out _) ⟨w2.heap.size, 0, none⟩ 1 1 [.int .i64 (z : Int)] rfl rfl (cell_one_new _ _ _) ?qc3 ?qc4 ?qc5 ?qc6 ?_)))
       case qc3 => intro u hu; simp at hu; subst hu; rfl
       case qc4 => have := HYL2.out; unfold maxLen; omega
       case qc5 => have := HYL2.out; omega
       case qc6 => have := HB2.out.size; simp; omega
       intro v3 w3 ho3 hg3 _
       obtain ⟨p3, k3, rfl⟩ := own_shapeI ho3
       have hb3 : Below W1.heap.size W1 w3 := (HB2.out.alloc HB2.out.size _).grown hg3 (by have := HB2.out.size; simp; omega) (fun k e => ((World.ownsRow.alloc HO2.out (.cells #[.int .i64 (z : Int)] 3)).lt k e).1)
       have hz3 := hb3.size
       have hS3 := HS1.out.later (below_grown (hb3.alloc hz3 (.cells #[.slice p3 (y.length + 1) k3] 54)) (Nat.le_refl _))
       have hu3 := own_grown HU1.out (below_grown (hb3.alloc hz3 (.cells #[.slice p3 (y.length + 1) k3] 54)) (Nat.le_refl _)) (by simp)
       have ho3' : OwnInts (n + 1) (w3.alloc (.cells #[.slice p3 (y.length + 1) k3] 54)) (.slice p3 (y.length + 1) k3) (y ++ [z]) := by
        have h : w3.ownsRow (n + 1) 3 1 (.slice p3 (y.length + 1) k3) (y.length + 1) (y.map intV ++ [.int .i64 (z : Int)]) := own_lower ho3 HN1.out
        unfold OwnInts
        rw [List.length_append, List.map_append]
        exact World.ownsRow.alloc h _
       obtain ⟨us3, hq3, hus3, hown3⟩ := id hS3.row
       have hq3l : us3.length ≤ 1001 := by have := HQ1.out; omega
       have HS3' := Lib.hid hS3; have HU3 := Lib.hid hu3; have HO3 := Lib.hid ho3'; have HQ3 := Lib.hid hq3; have HUS3 := Lib.hid hus3; have HOW3 := Lib.hid hown3; have HB3 := Lib.hid hb3
       clear ho3 hg3 hb3 hS3 hu3 ho3' hq3 hus3 hown3
       go_wp2_with (at_builtin; refine wpList_append_q rfl _ _ 133 rfl (n + 1) 54 i1 _ 24 Tryz.underlying133 hi1 hy0 hy1 hy2 rfl _ us3 rfl HQ3.out ⟨w3.heap.size, 0, none⟩ 1 (.slice p3 (y.length + 1) k3) rfl ?qd1 rfl ?qd3 ?qd4 ?qd5 ?_)
       case qd1 => exact cell_one_new _ _ _ 0 _ rfl
       case qd3 => unfold maxLen; omega
       case qd4 => omega
       case qd5 => have := HN1.out; simp; omega
       intro v5 w5 hq5 hg5 _
       have HS5 := Lib.hid (HS3'.out.push HQ3.out HUS3.out HOW3.out HO3.out hq5 hg5)
       have HU5 := Lib.hid (own_grown HU3.out hg5 (q_ne HQ3.out HU3.out))
       clear hq5 hg5
       go_wp2
       go_roundw
       case rel => exact ⟨j + 1, _, _, by omega, by go_num, HX2.out, HCT.out, HYC.out, HW2.out, HS5.out, HU5.out⟩
       case measure => simp [intOf]; omega
      ·rw [if_pos hb] at hX
       have HX2 := Lib.hid hX; have HCT := Lib.hid hcnt; have HYC := Lib.hid hyc; have HW2 := Lib.hid hW; have HS := Lib.hid hS; have HU2 := Lib.hid hu
       clear hX hcnt hyc hW hS hu hc hz hb hzs
       go_wp2
       go_roundw
       case rel => exact ⟨j + 1, q1, r1, by omega, by go_num, HX2.out, HCT.out, HYC.out, HW2.out, HS.out, HU2.out⟩
       case measure => simp [intOf]; omega
    ·obtain rfl : j = x.length := by omega
     rw [List.drop_length, nextsF] at hX
     subst hX
     have HE3 : Hid (bfsF s (ndOf ns) m q1 r1 = RES) := HE.out
     have hj1 : ¬ (x.length : Int) < (x.length : Int) := by omega
     have HCT := Lib.hid hcnt; have HW2 := Lib.hid hW; have HS := Lib.hid hS
     clear hcnt hyc hW hS hu
     go_wp2
     go_roundw
     case rel =>
      refine ⟨q1, r1, m, HE3.out, ?_, HW2.out, HS.out⟩
      have h1 := HM.out
      rw [List.length_cons] at h1
      have h2 := HCT.out
      omega
     case measure =>
      obtain ⟨us2, hq2, hus2, _⟩ := HS.out.row
      obtain ⟨_, _, e2, _⟩ := hq2.shape
      rw [e2, HCN.out, cntW_of HS.out.marks]
      show us2.length + cntF r1 < L + 1 + cntF r
      have h1 := HCT.out
      have h2 := HQL.out
      omega
end Go.Proofs.YtdhmeganlnpohaaGreatDoor
namespace Go.Proofs.YtdhmeganlnpohaaGreatDoor
open Go.RowKit Go.Shelf Go.Maps
theorem cmpB_eq : ∀ (a b : List UInt8), Lib.compareBytes a b = 0 → a = b
 | [], [], _ => rfl
 | [], _ :: _, h => by simp [Lib.compareBytes] at h
 | _ :: _, [], h => by simp [Lib.compareBytes] at h
 | a :: xs, b :: ys, h => by
  have e : Lib.compareBytes (a :: xs) (b :: ys) = if a < b then -1 else if b < a then 1 else Lib.compareBytes xs ys := by rw [Lib.compareBytes]
  rw [e] at h
  split at h
  ·omega
  rename_i h1
  split at h
  ·omega
  rename_i h2
  rw [UInt8.le_antisymm (UInt8.not_lt.1 h2) (UInt8.not_lt.1 h1), cmpB_eq xs ys h]
theorem srt_unique {rs ys : List RuleS} (hnd : ∀ (i j : Nat) x y, rs[i]? = some x → rs[j]? = some y → i < j → x.name ≠ y.name) (hp : ys.Perm rs) (hb : ByName ys) : ys = srtRules rs := by
 have hinj : ∀ x ∈ rs, ∀ y ∈ rs, x.name = y.name → x = y := by
  intro x hx y hy e
  obtain ⟨i, hi⟩ := List.getElem?_of_mem hx
  obtain ⟨j, hj⟩ := List.getElem?_of_mem hy
  rcases Nat.lt_trichotomy i j with h | h | h
  ·exact absurd e (hnd i j x y hi hj h)
  ·subst h; rw [hi] at hj; exact Option.some.inj hj
  ·exact absurd e.symm (hnd j i y x hj hi h)
 have hpm : (srtRules rs).Perm rs := List.mergeSort_perm _ _
 have htr : ∀ (a b c : RuleS), nmLe a b = true → nmLe b c = true → nmLe a c = true := by
  intro a b c h1 h2
  have := pre5.2 (a.name, (none, 0, 0), (none, 0, 0), (none, 0, 0), (none, 0, 0)) (b.name, (none, 0, 0), (none, 0, 0), (none, 0, 0), (none, 0, 0)) (c.name, (none, 0, 0), (none, 0, 0), (none, 0, 0), (none, 0, 0)) h1 h2
  exact this
 have hto : ∀ (a b : RuleS), (nmLe a b || nmLe b a) = true := by
  intro a b
  unfold nmLe
  have := cmp_anti a.name.data.toList b.name.data.toList
  rw [Bool.or_eq_true, decide_eq_true_eq, decide_eq_true_eq]
  omega
 have hsm : (srtRules rs).Pairwise fun x y => Lib.compareBytes x.name.data.toList y.name.data.toList ≤ 0 := (List.pairwise_mergeSort htr hto rs).imp fun h => of_decide_eq_true h
 refine List.Perm.eq_of_pairwise (fun a b ha hb' h1 h2 => ?_) hb hsm (hp.trans hpm.symm)
 refine hinj a (hp.mem_iff.1 ha) b (hpm.mem_iff.1 hb') (bytes_ext (cmpB_eq _ _ ?_))
 have := cmp_anti a.name.data.toList b.name.data.toList
 omega
set_option maxRecDepth 100000
set_option maxHeartbeats 8000000
theorem collect_any (sb : Nat) (v : Value) (rs : List RuleS) (w : World) (hb : Boxed w sb 82 v) (hv : RulesI w v rs) (hn : rs.length ≤ 1000000) :
  Calls Tryz.prog 143 #[.func (.func 145) #[] #[.pointer (some ⟨sb, 0, none⟩)]] w fun e w' => ∃ u rows, e = .returned u ∧ AllA (RuleI w) rows rs ∧ w'.ownsRow w.heap.size 45 5 u rows.length rows.flatten ∧ Below w.heap.size w w' := by
 obtain ⟨rows, hrow, hall⟩ := hv
 obtain ⟨a, c, rfl, hlc, hcm, hcells⟩ := id hrow
 have h5 : ∀ r ∈ rows, ∃ s p1 n1 k1 p2 n2 k2 p3 n3 k3 p4 n4 k4, r = [.string s, .slice p1 n1 k1, .slice p2 n2 k2, .slice p3 n3 k3, .slice p4 n4 k4] := by
  intro r hr
  obtain ⟨j, hj⟩ := List.getElem?_of_mem hr
  obtain ⟨x, hx⟩ : ∃ x, rs[j]? = some x := ⟨rs[j]'(by rw [← hall.1]; exact (List.getElem?_eq_some_iff.1 hj).1), List.getElem?_eq_getElem _⟩
  obtain ⟨⟨n, ⟨a1, b1, c1⟩, ⟨a2, b2, c2⟩, ⟨a3, b3, c3⟩, ⟨a4, b4, c4⟩⟩, e, _⟩ := ruleI_enc (hall.2 j r x hj hx)
  exact ⟨_, _, _, _, _, _, _, _, _, _, _, _, _, e⟩
 have CA := Lib.hid ((callsIn_wide (n := 5)).1 (appendSeq_any 5 sb (by omega) a c rows w hb hrow h5 (if rows = [] then none else a) (fun h => by rw [if_neg h]) (fun g hg => by
  by_cases h : rows = []
  ·rw [if_pos h] at hg; cases hg
  ·rw [if_neg h] at hg
   obtain ⟨b, o, rfl, hbl, _⟩ := hcells h
   obtain rfl : b = g := by simpa using hg
   exact hbl) (by rw [hall.1]; omega)))
 have HALL := Lib.hid hall
 clear hb hrow hall hcells h5
 go_enter Tryz.func143, Tryz.ntmps143
 go_wp2_with (go_at_call 201; (with_reducible refine CA.out.mono ?_); rintro e w2 ⟨u, rfl, ho, hb2⟩; have HO := Lib.hid ho; have HB2 := Lib.hid hb2; clear ho hb2)
 go_ret
 exact ⟨_, rows, rfl, HALL.out, HO.out, HB2.out⟩
theorem sorted_any (sb : Nat) (v : Value) (rs : List RuleS) (w : World) (hb : Boxed w sb 82 v) (hv : RulesI w v rs) (hn : rs.length ≤ 1000000) :
  Calls Tryz.prog 99 #[.func (.func 145) #[] #[.pointer (some ⟨sb, 0, none⟩)], .func (.func 101) #[] #[]] w fun e w' => ∃ u ys, e = .returned u ∧ ys.Perm rs ∧ ByName ys ∧ RulesI w' u ys ∧ Below w.heap.size w w' := by
 have CC := Lib.hid (collect_any sb v rs w hb hv hn)
 clear hb hv
 go_enter Tryz.func99, Tryz.ntmps99
 go_wp2_with (first
  | (go_at_call 143; (with_reducible refine CC.out.mono ?_); rintro e w2 ⟨u, rows, rfl, hall, ho, hb2⟩; have CS := Lib.hid (sortRules_any w.heap.size u rs rows w w2 rfl hb2 ho hall hn); clear hall ho hb2)
  | (go_at_call 144; (with_reducible refine CS.out.mono ?_); rintro e w3 ⟨rfl, ys, hp, hby, hri, hb3⟩; have HP := Lib.hid hp; have HBY := Lib.hid hby; have HRI := Lib.hid hri; have HB3 := Lib.hid hb3; clear hp hby hri hb3))
 go_ret
 exact ⟨_, ys, rfl, HP.out, HBY.out, HRI.out, HB3.out⟩
end Go.Proofs.YtdhmeganlnpohaaGreatDoor
