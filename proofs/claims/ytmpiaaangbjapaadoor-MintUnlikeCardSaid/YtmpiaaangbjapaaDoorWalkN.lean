/- Contract of package tree: Write. -/
import Derived.Test.YtmpiaaangbjapaaDoorWalkM
import Derived.Test.YtmpiaaangbjapaaDoorMathD
namespace Go.Proofs.YtmpiaaangbjapaaDoor
open Go.RowKit

/-- Blocks of the variables that the library reads lie below B. -/
def GB (B : Nat) : Prop := 2 < B ∧ 3 < B ∧ 0 < B ∧ 1 < B
theorem GB.mono {B B' : Nat} (h : GB B) (hB : B ≤ B') : GB B' := by
  obtain ⟨h1, h2, h3, h4⟩ := h
  exact ⟨by omega, by omega, by omega, by omega⟩
theorem Glob.gb {w : World} (h : Glob w) : GB w.heap.size := by
  obtain ⟨⟨m, hm⟩, ht, htop, ⟨t1, p1, h1⟩, ⟨t2, p2, h2⟩⟩ := h
  exact ⟨cell_lt hm, htop, cell_lt h1, cell_lt h2⟩
theorem Glob.low {w w' : World} {B : Nat} (h : Glob w) (hB : GB B) (hb : Below B w w') : Glob w' := by
  obtain ⟨⟨m, hm⟩, ht, htop, ⟨t1, p1, h1⟩, ⟨t2, p2, h2⟩⟩ := h
  exact ⟨⟨m, (hb.cell hB.1).trans hm⟩, var?_below hb (by kernel_rfl) hB.2.1 ht, Nat.lt_of_lt_of_le htop hb.size, ⟨t1, p1, (hb.cell hB.2.2.1).trans h1⟩, ⟨t2, p2, (hb.cell hB.2.2.2).trans h2⟩⟩

/-- Nothing that was there has turned but blocks b and r. -/
structure Frame2 (w w' : World) (b : Nat) (r : Option Nat) : Prop where
  os : w'.os = w.os
  tape : w'.tape = w.tape
  output : w'.output = w.output
  size : w.heap.size ≤ w'.heap.size
  block : ∀ k, k < w.heap.size → k ≠ b → some k ≠ r → w'.heap[k]? = w.heap[k]?

theorem Frame2.of_below {w w' : World} (h : Below w.heap.size w w') (b : Nat) (r : Option Nat) : Frame2 w w' b r := ⟨h.os, h.tape, h.output, h.size, fun k hk _ _ => h.block k hk⟩
theorem Frame2.trans {a b c : World} {k : Nat} {r r' : Option Nat} (h : Frame2 a b k r) (h' : Frame2 b c k r') (hr : r' = r ∨ ∃ g, r' = some g ∧ a.heap.size ≤ g) : Frame2 a c k r := by
  refine ⟨h'.os.trans h.os, h'.tape.trans h.tape, h'.output.trans h.output, Nat.le_trans h.size h'.size, fun j hj h1 h2 => ?_⟩
  refine (h'.block j (Nat.lt_of_lt_of_le hj h.size) h1 ?_).trans (h.block j hj h1 h2)
  rcases hr with rfl | ⟨g, rfl, hg⟩
  · exact h2
  · intro e; injection e with e; omega
theorem Frame2.below {w w' : World} {b B : Nat} {r : Option Nat} (h : Frame2 w w' b r) (hB : B ≤ w.heap.size) (hb : B ≤ b) (hr : ∀ k, r = some k → B ≤ k) : Below B w w' :=
  ⟨h.os, h.tape, h.output, h.size, fun k hk => h.block k (by omega) (by omega) (fun e => by have := hr k e.symm; omega)⟩

/-- What Write tells, and what the tree holds then. -/
def writeF (fs : List F2) (x b : ByteArray) : Int × List F2 :=
  if okName x.data.toList = false then (1, fs)
  else if 2000 < b.size then (4, fs)
  else if hasF fs x then (0, fs.set (posOf fs x) (x, b))
  else if 60 ≤ fs.length then (4, fs)
  else (0, fs.take (posOf fs x) ++ (x, b) :: fs.drop (posOf fs x))

def TreePost (w : World) (B b : Nat) (r : Option Nat) (code : Int) (fs : List F2) (e : Ending) (w' : World) : Prop :=
  ∃ r', e = .returned (.int .i64 code) ∧ IsTree w' B b r' fs ∧ Frame2 w w' b r ∧ (r' = r ∨ ∃ k, r' = some k ∧ w.heap.size ≤ k)

theorem fileCells_set (fs : List F2) : ∀ (p : Nat) (f : F2) (b : ByteArray), fs[p]? = some f → (fileCells fs).set (p * 2 + 1) (.string b) = fileCells (fs.set p (f.1, b)) := by
  induction fs with
  | nil => intro p f b h; simp at h
  | cons g fs ih =>
    intro p f b h
    cases p with
    | zero =>
      simp at h; subst h
      rw [List.set_cons_zero, fileCells_cons, fileCells_cons]
      rfl
    | succ p =>
      rw [List.set_cons_succ, fileCells_cons, fileCells_cons, ← ih p f b (by simpa using h), Nat.add_mul]
      rfl

/-- A content is set in place. -/
theorem own_set {w : World} {B g c : Nat} {fs : List F2} {p : Nat} {f : F2} (b : ByteArray) (hp : fs[p]? = some f)
    (h : w.ownsRow B 36 2 (.slice (some ⟨g, 0, none⟩) fs.length c) fs.length (fileCells fs)) :
    (w.setCell ⟨g, p * 2 + 1, none⟩ (.string b)).ownsRow B 36 2 (.slice (some ⟨g, 0, none⟩) fs.length c) (fs.set p (f.1, b)).length (fileCells (fs.set p (f.1, b))) := by
  obtain ⟨hl, ⟨hv, _⟩ | ⟨g', c', cur, hv, hgB, hg, hnc, hcm, hcs, htk⟩⟩ := h
  · cases hv
  · cases hv
    have hpl := (List.getElem?_eq_some_iff.1 hp).1
    rw [setCell_eq_setRow w g (p * 2 + 1) cur _ (0, 0) _ hg]
    refine ⟨by rw [fileCells_length], .inr ⟨g, c, cur.setIfInBounds (p * 2 + 1) (.string b), by rw [List.length_set], hgB, setRow_heap w g _ _ _ _ hg, by simpa using hnc, hcm, by simpa using hcs, ?_⟩⟩
    rw [← fileCells_set fs p f b hp, ← htk, Array.toList_setIfInBounds, List.length_set, List.take_set]

theorem frame_setCell (w : World) (b g : Nat) (o : Nat) (v : Value) : Frame2 w (w.setCell ⟨g, o, none⟩ v) b (some g) :=
  ⟨rfl, rfl, rfl, by simp [World.setCell], fun k _ _ h2 => Below.heap_setCell w _ _ k (fun e => h2 (congrArg some e))⟩

theorem OwnF.ne {w : World} {B b : Nat} {r : Option Nat} {v : Value} {fs : List F2} {cs : Array Value} (h : OwnF w B r v fs) (hb : w.heap[b]? = some (.cells cs 61 (0, 0))) : r ≠ some b := by
  rcases h with ⟨⟨_, ⟨rfl, _⟩ | ⟨g, c, cur, rfl, _, hg, _⟩⟩, rfl⟩ | ⟨_, rfl, _⟩
  · simp [Value.ownBlock]
  · intro e
    injection e with e
    subst e
    rw [hb] at hg; simp at hg
  · simp

/-- The row is laid anew into the tree's own block. -/
theorem tree_put {w : World} {B b : Nat} {r : Option Nat} {v v0 : Value} {fs : List F2} (hB : B ≤ b) (hs : Sorted fs) (hl : fs.length ≤ 60) (hb : w.heap[b]? = some (.cells #[v0] 61 (0, 0))) (h : OwnF w B r v fs) :
    IsTree (w.setCell ⟨b, 0, none⟩ v) B b r fs := by
  have hne := h.ne hb
  refine ⟨hB, hs, hl, v, ?_, h.kept (row := some b) ⟨rfl, rfl, rfl, by simp [World.setCell], fun k _ hk => Below.heap_setCell w _ _ k (fun e => hk (congrArg some e))⟩ (.inr hne)⟩
  rw [setCell_eq_setRow w b 0 _ _ (0, 0) _ hb]
  rw [setRow_heap w b _ _ _ _ hb]
  rfl

theorem insert_c (B vb i : Nat) (r : Option Nat) (v : Value) (fs : List F2) (f : F2) (w : World) (hi : i ≤ fs.length) (hn : fs.length ≤ 1000) (hB : B ≤ w.heap.size)
    (hown : OwnF w B r v fs) (hvb : some vb ≠ r) (hv : w.heap[vb]? = some (.cells #[.string f.1, .string f.2] 36 (0, 0))) :
    Calls Tryd.prog 40 #[v, .int .i64 i, .slice (some ⟨vb, 0, none⟩) 1 1] w fun e w' => ∃ a n c r', e = .returned (.slice a n c) ∧ OwnF w' B r' (.slice a n c) (fs.take i ++ f :: fs.drop i) ∧ w.grownBy w' r ∧ (r' = r ∨ ∃ k, r' = some k ∧ w.heap.size ≤ k) := by
  refine (insert_any B vb i r v fs f w hi hn hB hown hvb hv).mono ?_
  rintro e w' ⟨v', r', rfl, h1, h2, h3⟩
  obtain ⟨a, c, rfl, _⟩ := h1.shape
  exact ⟨a, _, c, r', rfl, h1, h2, h3⟩

set_option maxHeartbeats 2000000 in
theorem write_any (B b : Nat) (r : Option Nat) (fs : List F2) (x y : ByteArray) (w : World) (h : IsTree w B b r fs) (hG : Glob w) (hx : x.size ≤ maxLen) (hy : y.size ≤ maxLen) :
    Calls Tryd.prog 26 #[.pointer (some ⟨b, 0, none⟩), .string x, .string y] w (TreePost w B b r (writeF fs x y).1 (writeF fs x y).2) := by
  obtain ⟨m, hm⟩ := hG.max
  have hM := may_any x m w hx hm
  have hHB : B ≤ w.heap.size := by have := h.1; obtain ⟨a, c, hb, _⟩ := h.ptr; have := block_lt hb; omega
  unfold maxLen at hx hy
  cases hok : okName x.data.toList with
  | false =>
    have hr : writeF fs x y = (1, fs) := by unfold writeF; rw [if_pos hok]
    rw [hr]
    rw [hok] at hM
    have HT := Lib.hid h
    clear hok hr h hm hG
    go_enter Tryd.func26, Tryd.ntmps26
    go_wp2_with (go_at_call 12; refine hM.mono ?_; rintro e w' ⟨rfl, hb⟩)
    go_ret
    exact ⟨r, rfl, HT.out.below hb, Frame2.of_below hb b r, .inl rfl⟩
  | true =>
    rw [hok] at hM
    by_cases hbig : 2000 < y.size
    · have hr : writeF fs x y = (4, fs) := by unfold writeF; rw [if_neg (by rw [hok]; decide), if_pos hbig]
      rw [hr]
      have HT := Lib.hid h
      clear hok hr h hm hG
      go_enter Tryd.func26, Tryd.ntmps26
      go_wp2_with (go_at_call 12; refine hM.mono ?_; rintro e w' ⟨rfl, hb⟩)
      go_ret
      exact ⟨r, rfl, HT.out.below hb, Frame2.of_below hb b r, .inl rfl⟩
    · have hF := fun (w' : World) (hb : Below w.heap.size w w') => find_any B b r fs x w' (h.below hb)
      have hple := posOf_le fs x
      cases hq : hasF fs x with
      | true =>
        obtain ⟨f, hf, hfx⟩ := hasF_pos h.2.1 hq
        have hr : writeF fs x y = (0, fs.set (posOf fs x) (x, y)) := by unfold writeF; rw [if_neg (by rw [hok]; decide), if_neg hbig, if_pos hq]
        rw [hr]
        simp only [hq] at hF
        have hset := sorted_set h.2.1 hf y
        rw [hfx] at hset
        obtain ⟨p, hp⟩ : ∃ p, posOf fs x = p := ⟨_, rfl⟩
        rw [hp] at hF hf hset hple ⊢
        obtain ⟨a, c, hb, hown, hc, hcm⟩ := h.ptr
        have hpl := (List.getElem?_eq_some_iff.1 hf).1
        have h60 := h.2.2.1
        rcases hown with ⟨hown, hrr⟩ | ⟨rfl, _⟩
        · obtain ⟨a', c', hv, hne, _, _⟩ := own_shape hown
          cases hv
          obtain ⟨g, rfl⟩ := hne (by omega)
          obtain rfl : r = some g := hrr
          have hgl := (hown.lt g rfl)
          have hgh : ∃ cur, w.heap[g]? = some (.cells cur 36 (0, 0)) ∧ cur.size = c * 2 := by
            obtain ⟨_, ⟨hv, _⟩ | ⟨g', c', cur, hv, _, hg, _, _, hcs, _⟩⟩ := hown
            · cases hv
            · cases hv; exact ⟨cur, hg, hcs⟩
          have hgb : g ≠ b := by
            rintro rfl
            obtain ⟨cur, hg, _⟩ := hgh
            rw [hb] at hg; simp at hg
          have HF := Lib.hid hF
          have HB := Lib.hid hb
          have HO := Lib.hid hown
          have HP := Lib.hid hf
          have HS := Lib.hid hset
          have HH := Lib.hid hgh
          have HFX := Lib.hid hfx
          have hBb := h.1
          have hblt := block_lt hb
          clear hq hok hr h hm hG hF hp hset hfx hf hb hown hgh hne
          unfold maxLen at hcm
          go_enter Tryd.func26, Tryd.ntmps26
          go_wp2_with fail
          refine hM.mono ?_
          rintro e w1 ⟨rfl, hb1⟩
          go_wp2_with fail
          refine (HF.out w1 hb1).mono ?_
          rintro e w2 ⟨rfl, hb2⟩
          have hb12 := hb1.trans (hb2.mono hb1.size)
          have hbc : w2.cell? ⟨b, 0, none⟩ = some (.slice (some ⟨g, 0, none⟩) fs.length c) := (hb12.cell (by exact hblt)).trans (by have := HB.out; simp [World.cell?, this])
          have hex : ∃ v, w2.cell? ⟨g, p * 2 + 1, none⟩ = some v := by
            obtain ⟨cur, hg, hcs⟩ := HH.out
            have h2 := (hb12.block g hgl.2).trans hg
            exact ⟨cur[p * 2 + 1]'(by omega), by simp [World.cell?, h2]⟩
          obtain ⟨v0, hv0⟩ := hex
          have hfz : w2.frozen? ⟨g, p * 2 + 1, none⟩ = false := by
            obtain ⟨cur, hg, hcs⟩ := HH.out
            have h2 := (hb12.block g hgl.2).trans hg
            simp [World.frozen?, h2]
          go_wp2_with fail
          go_ret
          have hown2 : w2.ownsRow B 36 2 (.slice (some ⟨g, 0, none⟩) fs.length c) fs.length (fileCells fs) := HO.out.kept (grown_below hb12 none) (.inr (by simp [Value.ownBlock]))
          have hs2 := own_set y HP.out hown2
          have hl : (fs.set p (x, y)).length = fs.length := List.length_set
          refine ⟨some g, rfl, ⟨hBb, HS.out, by rw [hl]; exact h60, .slice (some ⟨g, 0, none⟩) fs.length c, ?_, .inl ⟨?_, rfl⟩⟩, (Frame2.of_below hb12 b (some g)).trans (frame_setCell w2 b g _ _) (.inl rfl), .inl rfl⟩
          · rw [Below.heap_setCell w2 _ _ b (fun e => hgb e.symm), hb12.block b hblt]; exact HB.out
          · have e : (x, y) = (f.1, y) := by rw [HFX.out]
            rw [e]; exact hs2
        · simp at hf
      | false =>
        simp only [hq] at hF
        by_cases hfull : 60 ≤ fs.length
        · have hr : writeF fs x y = (4, fs) := by unfold writeF; rw [if_neg (by rw [hok]; decide), if_neg hbig, if_neg (by rw [hq]; decide), if_pos hfull]
          rw [hr]
          obtain ⟨a, c, hb, hown, hc, hcm⟩ := h.ptr
          have hblt := block_lt hb
          generalize posOf fs x = p at *
          have HF := Lib.hid hF
          have HT := Lib.hid h
          have HB := Lib.hid hb
          clear hq hok hr h hm hG hF hb hown
          unfold maxLen at hcm
          go_enter Tryd.func26, Tryd.ntmps26
          go_wp2_with fail
          refine hM.mono ?_
          rintro e w1 ⟨rfl, hb1⟩
          go_wp2_with fail
          refine (HF.out w1 hb1).mono ?_
          rintro e w2 ⟨rfl, hb2⟩
          have hb12 := hb1.trans (hb2.mono hb1.size)
          have hbc : w2.cell? ⟨b, 0, none⟩ = some (.slice a fs.length c) := (hb12.cell (by exact hblt)).trans (by have := HB.out; simp [World.cell?, this])
          go_wp2_with fail
          go_ret
          exact ⟨r, rfl, HT.out.below hb12, Frame2.of_below hb12 b r, .inl rfl⟩
        · have hr : writeF fs x y = (0, fs.take (posOf fs x) ++ (x, y) :: fs.drop (posOf fs x)) := by unfold writeF; rw [if_neg (by rw [hok]; decide), if_neg hbig, if_neg (by rw [hq]; decide), if_neg hfull]
          rw [hr]
          obtain ⟨a, c, hb, hown, hc, hcm⟩ := h.ptr
          have hblt := block_lt hb
          have hso := sorted_ins h.2.1 y hq
          have hle : (fs.take (posOf fs x) ++ (x, y) :: fs.drop (posOf fs x)).length ≤ 60 := by simp; omega
          have hBb := h.1
          generalize posOf fs x = p at *
          have HF := Lib.hid hF
          have HT := Lib.hid h
          have HB := Lib.hid hb
          have HO := Lib.hid hown
          have HS := Lib.hid hso
          have HL := Lib.hid hle
          clear hq hok hr h hm hG hF hb hown hso hle
          unfold maxLen at hcm
          go_enter Tryd.func26, Tryd.ntmps26
          go_wp2_with fail
          refine hM.mono ?_
          rintro e w1 ⟨rfl, hb1⟩
          go_wp2_with fail
          refine (HF.out w1 hb1).mono ?_
          rintro e w2 ⟨rfl, hb2⟩
          have hb12 := hb1.trans (hb2.mono hb1.size)
          have hbc : w2.cell? ⟨b, 0, none⟩ = some (.slice a fs.length c) := (hb12.cell (by exact hblt)).trans (by have := HB.out; simp [World.cell?, this])
          obtain ⟨w3, hw3⟩ : ∃ w3 : World, w3 = w2.alloc (.cells #[.string x, .string y] 36) := ⟨_, rfl⟩
          have hb3 : Below w.heap.size w w3 := by rw [hw3]; exact hb12.alloc hb12.size _
          have hs3 : w3.heap.size = w2.heap.size + 1 := by rw [hw3]; simp
          have hO3 := HO.out.kept (grown_below hb3 none) (by cases r <;> simp)
          have hv3 : w3.heap[w2.heap.size]? = some (.cells #[.string x, .string y] 36 (0, 0)) := by rw [hw3]; exact heap_alloc_new w2 _
          have hrl : ∀ k, r = some k → k < w.heap.size := fun k hk => (HO.out.lt hk).2
          have hvb : some w2.heap.size ≠ r := by
            intro e
            have := hrl _ e.symm
            have := hb12.size
            omega
          have cI := insert_c B w2.heap.size p r _ fs (x, y) w3 hple (by omega) (by have := hb3.size; omega) hO3 hvb hv3
          have HW3 := Lib.hid hw3
          have HR := Lib.hid hrl
          rw [hw3] at cI
          clear hO3 hv3 hvb hw3 hrl
          go_wp2_with fail
          refine cI.mono ?_
          rintro e w4 ⟨a4, n4, c4, r4, rfl, hO4, hg4, hr4⟩
          rw [← HW3.out] at hg4 hr4
          have hbr : some b ≠ r := by
            have := (HO.out.ne HB.out)
            exact fun e => this e.symm
          have hbw4 : w4.heap[b]? = some (.cells #[.slice a fs.length c] 61 (0, 0)) := by
            rw [hg4.block b (by have := hb3.size; omega) hbr, hb3.block b hblt]; exact HB.out
          have hbc4 : w4.cell? ⟨b, 0, none⟩ = some (.slice a fs.length c) := by simp [World.cell?, hbw4]
          have hbf4 : w4.frozen? ⟨b, 0, none⟩ = false := by simp [World.frozen?, hbw4]
          have hT := tree_put hBb HS.out HL.out hbw4 hO4
          have hFr : Frame2 w (w4.setCell ⟨b, 0, none⟩ (.slice a4 n4 c4)) b r := by
            refine ⟨by show w4.os = _; rw [hg4.os]; exact hb3.os, by show w4.tape = _; rw [hg4.tape]; exact hb3.tape, by show w4.output = _; rw [hg4.output]; exact hb3.output, ?_, fun k hk h1 h2 => ?_⟩
            · have h1 := hg4.size; have h2 := hb3.size; simp [World.setCell]; omega
            · rw [Below.heap_setCell w4 _ _ k h1, hg4.block k (by have := hb3.size; omega) h2, hb3.block k hk]
          have hr5 : r4 = r ∨ ∃ k, r4 = some k ∧ w.heap.size ≤ k := by
            rcases hr4 with h | ⟨k, h, hk⟩
            · exact .inl h
            · exact .inr ⟨k, h, by have := hb3.size; omega⟩
          have HT5 := Lib.hid hT
          have HF5 := Lib.hid hFr
          have HR5 := Lib.hid hr5
          clear hT hFr hr5 hO4 hg4 hr4 hbw4 hbc hb12 hb3 hs3 hb1 hb2
          go_wp2_with fail
          go_ret
          exact ⟨r4, rfl, HT5.out, HF5.out, HR5.out⟩
end Go.Proofs.YtmpiaaangbjapaaDoor
