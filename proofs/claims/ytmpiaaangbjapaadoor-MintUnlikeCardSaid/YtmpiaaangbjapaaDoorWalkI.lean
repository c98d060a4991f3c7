/- Contract of package mint: Get. -/
import Derived.Test.YtmpiaaangbjapaaDoorWalkH
import Derived.Test.YtmpiaaangbjapaaDoorWalkD
namespace Go.Proofs.YtmpiaaangbjapaaDoor
open Go.RowKit

theorem cut_miss {s : List UInt8} {d : UInt8} (h : d ∉ s) : Lib.cut s [d] = (s, [], false) := by
  unfold Lib.cut
  rw [index_miss h, if_neg (by decide)]
theorem cut_hit {a b : List UInt8} {d : UInt8} (h : d ∉ a) : Lib.cut (a ++ d :: b) [d] = (a, b, true) := by
  unfold Lib.cut
  rw [index_hit h, if_pos (Int.natCast_nonneg _)]
  simp only [Int.toNat_natCast, List.length_cons, List.length_nil, Nat.zero_add, drop_hit]
  simp

theorem cutPartS_miss {s : List UInt8} (h : 58 ∉ s) : cutPartS s = none := by
  unfold cutPartS
  rw [cut_miss h]; rfl
theorem cutPartS_hit {a b : List UInt8} (h : 58 ∉ a) : cutPartS (a ++ 58 :: b) = if (getNum a b.length).2 then some (b.take (getNum a b.length).1.toNat, b.drop (getNum a b.length).1.toNat) else none := by
  unfold cutPartS
  rw [cut_hit h]; rfl

theorem cutPartS_lt {s p q : List UInt8} (h : cutPartS s = some (p, q)) : q.length < s.length := by
  rcases first_of 58 s with hs | ⟨a, b, rfl, ha⟩
  · rw [cutPartS_miss hs] at h; cases h
  · rw [cutPartS_hit ha] at h
    split at h
    · injection h with h
      injection h with h1 h2
      rw [← h2]
      simp; omega
    · cases h

def getF : Nat → List UInt8 → Option (List (List UInt8))
  | 0, _ => none
  | f + 1, s => if s = [] then some [] else match cutPartS s with
    | none => none
    | some (p, q) => (getF f q).map (p :: ·)

theorem getF_fuel : ∀ (f : Nat) (s : List UInt8), s.length < f → ∀ f', s.length < f' → getF f s = getF f' s
  | 0, s, h, _, _ => absurd h (by omega)
  | f + 1, s, h, 0, h' => absurd h' (by omega)
  | f + 1, s, h, f' + 1, h' => by
    unfold getF
    split
    · rfl
    · cases hc : cutPartS s with
      | none => rfl
      | some pq =>
        obtain ⟨p, q⟩ := pq
        have := cutPartS_lt hc
        simp only
        rw [getF_fuel f q (by omega) f' (by omega)]

/-- The parts of which Put makes a text, if there are such. -/
def getS (s : List UInt8) : Option (List (List UInt8)) := getF (s.length + 1) s
theorem getS_nil : getS [] = some [] := rfl
theorem getS_none {s : List UInt8} (h0 : s ≠ []) (h : cutPartS s = none) : getS s = none := by
  rw [getS, getF, if_neg h0, h]
theorem getS_some {s p q : List UInt8} (h0 : s ≠ []) (h : cutPartS s = some (p, q)) : getS s = (getS q).map (p :: ·) := by
  rw [getS, getF, if_neg h0, h]
  have := cutPartS_lt h
  simp only
  rw [getF_fuel s.length q (by omega) (q.length + 1) (by omega)]
  rfl

def GetPost (r : Option (List (List UInt8))) (w : World) (e : Ending) (w' : World) : Prop :=
  Below w.heap.size w w' ∧ match r with
  | some ls => ∃ (a : Option Addr) (c : Nat) (xs : List ByteArray), xs.map (·.data.toList) = ls ∧ e = .returned (.tuple #[.slice a xs.length c, .bool true]) ∧ w'.ownsRow w.heap.size 9 1 (.slice a xs.length c) xs.length (xs.map Value.string)
  | none => e = .returned (.tuple #[.slice none 0 0, .bool false])

def strSize : Value → Nat
  | .string s => s.size
  | _ => 0

/-- The head of a round of Get's loop. -/
def GetAt (s cur : List UInt8) (done : List ByteArray) : Prop :=
  getS s = (getS cur).map (done.map (·.data.toList) ++ ·) ∧ done.length + cur.length ≤ s.length

theorem GetAt.none {s cur : List UInt8} {done : List ByteArray} (h : GetAt s cur done) (h0 : cur ≠ []) (hc : cutPartS cur = none) : getS s = none := by
  rw [h.1, getS_none h0 hc]; rfl
theorem GetAt.next {s cur p q : List UInt8} {done : List ByteArray} (h : GetAt s cur done) (h0 : cur ≠ []) (hc : cutPartS cur = some (p, q)) : GetAt s q (done ++ [⟨p.toArray⟩]) := by
  have h1 := h.1
  have h2 := h.2
  have h3 := cutPartS_lt hc
  refine ⟨?_, by simp; omega⟩
  rw [h1, getS_some h0 hc, Option.map_map]
  congr 1
  funext l
  simp
theorem GetAt.done {s : List UInt8} {done : List ByteArray} (h : GetAt s [] done) : getS s = some (done.map (·.data.toList)) := by
  rw [h.1, getS_nil]; simp

set_option maxHeartbeats 2000000 in
theorem get_any (s : ByteArray) (w : World) (hs : s.size < 4294967281) (hg : Glob w) :
    Calls Tryd.prog 8 #[.string s] w (GetPost (getS s.data.toList) w) := by
  obtain ⟨r, hr⟩ : ∃ r, r = getS s.data.toList := ⟨_, rfl⟩
  rw [← hr]
  obtain ⟨i0, hi, hz0, hz1, hz2⟩ := info_parts info_str
  have HG := Lib.hid hg
  have HR := Lib.hid hr
  have hsl := Lib.hid (Lib.size_eq s)
  have H0 : GetAt s.data.toList s.data.toList [] := ⟨by simp, by simp⟩
  clear hg hr
  go_enter Tryd.func8, Tryd.ntmps8
  go_wp2
  go_loopw [0, 4] (fun t v wr => ∃ (cur : ByteArray) (done : List ByteArray) (a : Option Addr) (c : Nat), t = .string cur ∧ v = .slice a done.length c ∧ wr.ownsRow w.heap.size 9 1 (.slice a done.length c) done.length (done.map Value.string) ∧ Below w.heap.size w wr ∧ GetAt s.data.toList cur.data.toList done)
    (fun t _ _ => strSize t)
  case atStart => exact ⟨s, [], none, 0, rfl, rfl, World.ownsRow_nil _ _ _ _, Below.refl _ _, H0⟩
  case round =>
    obtain ⟨cur, done, a, c, rfl, rfl, hown, hnx, hat⟩ := hrel
    have hlen := hat.2
    rw [← Lib.size_eq, ← hsl.out] at hlen
    have HAT := Lib.hid hat
    clear hat H0
    by_cases h0 : cur.toList = []
    · go_wp2
      go_ret2
      have hd : r = some (done.map (·.data.toList)) := by
        rw [HR.out]
        have h := HAT.out
        have e : cur.data.toList = [] := by rw [← Lib.toList_data]; exact h0
        rw [e] at h
        exact h.done
      exact ⟨hnx, by rw [hd]; exact ⟨a, c, done, rfl, rfl, hown⟩⟩
    · have b0 : cur.toList.isEmpty = false := List.isEmpty_eq_false_iff.2 h0
      have h0' : cur.data.toList ≠ [] := by rw [← Lib.toList_data]; exact h0
      have cP := cutPart_any cur wr (by omega) (HG.out.below hnx)
      have hs1 := hnx.size
      cases hcp : cutPartS cur.data.toList with
      | none =>
        rw [hcp] at cP
        have HN := Lib.hid (HAT.out.none h0' hcp)
        clear hcp
        go_wp2_with fail
        refine cP.mono ?_
        rintro e w2 ⟨rfl, hb2⟩
        go_wp2
        go_ret2
        have hd : r = none := by rw [HR.out, HN.out]
        exact ⟨hnx.trans (hb2.mono hs1), by rw [hd]; rfl⟩
      | some pq =>
        obtain ⟨p, q⟩ := pq
        rw [hcp] at cP
        have HN := Lib.hid (HAT.out.next h0' hcp)
        have hlt := cutPartS_lt hcp
        rw [← Lib.size_eq] at hlt
        obtain ⟨pb, hpb⟩ : ∃ pb : ByteArray, pb = ⟨p.toArray⟩ := ⟨_, rfl⟩
        obtain ⟨qb, hqb⟩ : ∃ qb : ByteArray, qb = ⟨q.toArray⟩ := ⟨_, rfl⟩
        have hqs : qb.size = q.length := by rw [hqb]; simp [ByteArray.size]
        have HN' : Hid (GetAt s.data.toList qb.data.toList (done ++ [pb])) := by
          show GetAt _ _ _
          have : qb.data.toList = q := by rw [hqb]
          rw [this, hpb]; exact HN.out
        have cP' : Calls Tryd.prog 24 #[.string cur] wr fun e w' => e = .returned (.tuple #[.string pb, .string qb, .bool true]) ∧ Below wr.heap.size wr w' := by
          rw [hpb, hqb]; exact cP
        have HQ := Lib.hid hqs
        clear hcp cP hpb hqb hqs HN
        go_wp2_with fail
        refine cP'.mono ?_
        rintro e w2 ⟨rfl, hb2⟩
        have hnx2 := hnx.trans (hb2.mono hs1)
        have hown2 : w2.ownsRow w.heap.size 9 1 (.slice a done.length c) done.length (done.map Value.string) := hown.kept (row := none) ⟨hb2.os, hb2.tape, hb2.output, hb2.size, fun g hg _ => hb2.block g hg⟩ (by cases h : Value.ownBlock _ <;> simp)
        have hs2 := hnx2.size
        clear hb2 hown cP'
        go_wp2_with (at_builtin; refine wpList_append_own _ rfl _ _ 28 rfl w.heap.size 9 i0 (.string ByteArray.empty) 1 16 Tryd.underlying28 hi hz0 hz1 hz2 rfl (by decide) _ _ _ rfl (hown2.alloc _) ⟨w2.heap.size, 0, none⟩ 1 1 [.string pb] rfl rfl ?c1 ?c2 ?c3 ?c4 ?c5 ?_)
        case c1 =>
          intro j u hj
          match j, hj with
          | 0, hj => simp at hj; subst hj; simp [Addr.add]
        case c2 => intro u hu; simp at hu; subst hu; rfl
        case c3 => unfold maxLen; omega
        case c4 => omega
        case c5 => simp; omega
        · intro v' w3 hown' hgrow _
          have hnx' : Below w.heap.size w w3 := (hnx2.alloc hs2 _).grown hgrow (by simp; omega) (fun g hg => (hown2.lt g hg).1)
          obtain ⟨a', c', hv, _⟩ := own_shape hown'
          have HO : Hid (w3.ownsRow w.heap.size 9 1 (.slice a' (done ++ [pb]).length c') (done ++ [pb]).length ((done ++ [pb]).map Value.string)) := by
            show w3.ownsRow _ _ _ _ _ _
            rw [hv] at hown'
            simpa using hown'
          have HV : Hid (v' = .slice a' (done ++ [pb]).length c') := by
            show v' = _
            rw [hv]; simp
          clear hgrow hown2 hown' hv
          go_wp2
          go_roundw
          case rel => exact ⟨qb, done ++ [pb], a', c', rfl, HV.out, HO.out, hnx', HN'.out⟩
          case measure => simp only [strSize]; rw [HQ.out]; exact hlt
end Go.Proofs.YtmpiaaangbjapaaDoor
