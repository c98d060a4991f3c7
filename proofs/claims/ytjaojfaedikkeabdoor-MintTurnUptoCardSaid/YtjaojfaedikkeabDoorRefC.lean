/- Contracts of the reference's GetNumber and Get. -/
import Derived.Test.YtjaojfaedikkeabDoorWalkR
import Derived.Test.YtjaojfaedikkeabDoorMathH
namespace Go.Proofs.YtjaojfaedikkeabDoor
open Go.RowKit

theorem not_digs {s : List UInt8} {most : Int} {k : Nat} (h : k < s.length) (hd : isDig s[k] = false) : ¬ OkNum s most := by
  intro ho
  have := List.all_eq_true.1 ho.1.2.1 s[k] (List.getElem_mem h)
  rw [hd] at this; cases this
theorem not_big {s : List UInt8} {most : Int} {k : Nat} (h : 9223372036854775808 ≤ valFrom 0 (s.take k)) : ¬ OkNum s most := by
  intro ho
  have := valFrom_le (s.drop k) (valFrom 0 (s.take k))
  rw [← valFrom_append, List.take_append_drop] at this
  have := ho.2.1
  omega
theorem val_next {s : List UInt8} {k : Nat} (h : k < s.length) : valFrom 0 (s.take (k + 1)) = valFrom 0 (s.take k) * 10 + (s[k].toNat - 48) := by
  rw [List.take_succ_eq_append_getElem h, valFrom_append, valFrom_cons, valFrom_nil]
theorem all_next {s : List UInt8} {k : Nat} (h : k < s.length) (h1 : (s.take k).all isDig = true) (h2 : isDig s[k] = true) : (s.take (k + 1)).all isDig = true := by
  rw [List.take_succ_eq_append_getElem h, List.all_append, h1]; simp [h2]

def NumAt (s : List UInt8) (k n : Nat) : Prop := valFrom 0 (s.take k) = n ∧ (s.take k).all isDig = true ∧ n ≤ 9223372036854775807
def bigB (n d : Nat) : Prop := 9223372036854775807 < n * 10 + d
theorem NumAt.zero (s : List UInt8) : NumAt s 0 0 := ⟨by simp [valFrom_nil], by simp, by omega⟩
theorem NumAt.bad {s : List UInt8} {most : Int} {k n : Nat} (_ : NumAt s k n) (h : k < s.length) (hd : isDig s[k] = false) : getNum s most = (0, false) := getNum_no (not_digs h hd)
theorem NumAt.big {s : List UInt8} {most : Int} {k n : Nat} (hn : NumAt s k n) (h : k < s.length) (hb : bigB n (s[k].toNat - 48)) : getNum s most = (0, false) :=
  getNum_no (not_big (k := k + 1) (by rw [val_next h, hn.1]; unfold bigB at hb; omega))
theorem NumAt.next {s : List UInt8} {k n : Nat} (hn : NumAt s k n) (h : k < s.length) (hd : isDig s[k] = true) (hb : ¬ bigB n (s[k].toNat - 48)) : NumAt s (k + 1) (n * 10 + (s[k].toNat - 48)) :=
  ⟨by rw [val_next h, hn.1], all_next h hn.2.1 hd, by unfold bigB at hb; omega⟩
theorem NumAt.fin {s : List UInt8} {most : Int} {k n : Nat} (hn : NumAt s k n) (hk : k = s.length) (h0 : s ≠ []) (h1 : s.length = 1 ∨ s.head? ≠ some 48) (h2 : (n : Int) ≤ most) : getNum s most = ((n : Int), true) := by
  subst hk
  obtain ⟨e, h3, h4⟩ := hn
  rw [List.take_length] at e h3
  rw [getNum_yes ⟨⟨h0, h3, h1⟩, by omega, by rw [e]; exact h2⟩, e]
theorem NumAt.no {s : List UInt8} {most : Int} {k n : Nat} (hn : NumAt s k n) (hk : k = s.length) (h : s = [] ∨ (s.length ≠ 1 ∧ s.head? = some 48) ∨ most < (n : Int)) : getNum s most = (0, false) := by
  subst hk
  obtain ⟨e, _, _⟩ := hn
  rw [List.take_length] at e
  refine getNum_no fun ho => ?_
  rcases h with h | ⟨h, h'⟩ | h
  · exact ho.1.1 h
  · rcases ho.1.2.2 with h2 | h2
    · exact h h2
    · exact h2 h'
  · have := ho.2.2
    rw [e] at this
    omega

set_option maxHeartbeats 2000000 in
set_option maxRecDepth 100000 in
theorem getNumberR_any (s : ByteArray) (most : Int) (hs : s.size ≤ maxLen) (w : World) :
    Calls Tryd.prog 44 #[.string s, .int .i64 most] w fun e w' => e = .returned (.tuple #[.int .i64 (getNum s.data.toList most).1, .bool (getNum s.data.toList most).2]) ∧ Below w.heap.size w w' := by
  obtain ⟨r, hr⟩ : ∃ r, getNum s.data.toList most = r := ⟨_, rfl⟩
  rw [hr]
  have HR := Lib.hid hr
  clear hr
  unfold maxLen at hs
  obtain ⟨L, hL⟩ : ∃ L, s.data.toList = L := ⟨_, rfl⟩
  rw [hL] at HR
  have HL := Lib.hid hL
  have hsz : s.size = L.length := by rw [← hL]; exact Lib.size_eq s
  have HSZ := Lib.hid hsz
  clear hL hsz
  go_enter Tryd.func44, Tryd.ntmps44
  go_wp2
  go_loop [6, 7] (fun n i => ∃ k m : Nat, k ≤ s.size ∧ i = .int .i64 k ∧ n = .int .i64 m ∧ m ≤ 9223372036854775807 ∧ NumAt L k m) (fun _ i => s.size - (intOf i).toNat)
  case atStart => exact ⟨0, 0, by omega, rfl, rfl, by omega, NumAt.zero L⟩
  case round =>
    obtain ⟨k, m, hk, rfl, rfl, hm, hat⟩ := hrel
    have HAT := Lib.hid hat
    clear hat
    by_cases hlt : k < s.size
    · have hlt' : k < L.length := by rw [← HSZ.out]; exact hlt
      have HBAD := Lib.hid (HAT.out.bad (most := most) hlt')
      have HBIG := Lib.hid (HAT.out.big (most := most) hlt')
      have HNEXT := Lib.hid (HAT.out.next hlt')
      have hget : L[k] = s[k] := by
        have := HL.out
        subst this
        rfl
      rw [hget] at HBAD HBIG HNEXT
      have HG := Lib.hid hget
      clear hget
      have hc := s[k].toNat_lt
      go_wp2
      · go_ret2
        have e : r = (0, false) := by rw [← HR.out]; exact HBIG.out (by unfold bigB; omega)
        rw [e]; exact ⟨rfl, Below.refl _ _⟩
      · go_round
        case rel => exact ⟨k + 1, m * 10 + (s[k].toNat - 48), by omega, by go_num, by go_num, by omega, HNEXT.out (by simp only [isDig, decide_eq_true_eq]; omega) (by unfold bigB; omega)⟩
        case measure => simp [intOf]; omega
      · go_ret2
        have e : r = (0, false) := by rw [← HR.out]; exact HBAD.out (by simp only [isDig, decide_eq_false_iff_not]; omega)
        rw [e]; exact ⟨rfl, Below.refl _ _⟩
      · go_ret2
        have e : r = (0, false) := by rw [← HR.out]; exact HBAD.out (by simp only [isDig, decide_eq_false_iff_not]; omega)
        rw [e]; exact ⟨rfl, Below.refl _ _⟩
    · have hkl : k = L.length := by have := HSZ.out; omega
      have HKL := Lib.hid hkl
      have HFIN := Lib.hid (HAT.out.fin (most := most) hkl)
      have HNO := Lib.hid (HAT.out.no (most := most) hkl)
      clear hkl
      by_cases h0 : s.size = 0
      · have hl0 : L = [] := List.eq_nil_of_length_eq_zero (by rw [← HSZ.out]; exact h0)
        have hs0 : s.toList = [] := by rw [Lib.toList_data, HL.out, hl0]
        have HL0 := Lib.hid hl0
        clear hl0
        go_wp2
        go_ret2
        have e : r = (0, false) := by rw [← HR.out]; exact HNO.out (.inl HL0.out)
        rw [e]; exact ⟨rfl, Below.refl _ _⟩
      · have hl0 : L ≠ [] := by rintro rfl; exact h0 (by rw [HSZ.out]; rfl)
        have hpos : 0 < s.size := by omega
        have hs0 : s.toList ≠ [] := by rw [Lib.toList_data, HL.out]; exact hl0
        have hs1 : s.toList.isEmpty = false := List.isEmpty_eq_false_iff.2 hs0
        have hhead : L.head? = some s[0] := by
          have := HL.out
          subst this
          rw [List.head?_eq_getElem?, List.getElem?_eq_getElem (by rw [← Lib.size_eq]; exact hpos)]
          rfl
        have HH := Lib.hid hhead
        have HL0 := Lib.hid hl0
        clear hhead hl0
        have hno : ∀ (_ : (L.length ≠ 1 ∧ s[0].toNat = 48) ∨ most < (m : Int)), r = (0, false) := fun h => by
          rw [← HR.out]
          refine HNO.out (.inr ?_)
          rcases h with ⟨h, h'⟩ | h
          · exact .inl ⟨h, by rw [HH.out, show s[0] = 48 from UInt8.toNat_inj.1 (by rw [h']; rfl)]⟩
          · exact .inr h
        have hyes : ∀ (_ : L.length = 1 ∨ s[0].toNat ≠ 48) (_ : (m : Int) ≤ most), r = ((m : Int), true) := fun h h2 => by
          rw [← HR.out]
          refine HFIN.out HL0.out ?_ h2
          rcases h with h | h
          · exact .inl h
          · refine .inr fun e => h ?_
            rw [HH.out] at e
            injection e with e
            rw [e]; rfl
        have HNO' := Lib.hid hno
        have HYES := Lib.hid hyes
        have hls := HSZ.out
        clear hno hyes
        by_cases h1 : 1 < s.size
        · go_wp2
          · go_ret2
            have e : r = (0, false) := HNO'.out (.inl ⟨by omega, by omega⟩)
            rw [e]; exact ⟨rfl, Below.refl _ _⟩
          · go_ret2
            have e : r = (0, false) := HNO'.out (.inr (by simp_all))
            rw [e]; exact ⟨rfl, Below.refl _ _⟩
          · go_ret2
            have e : r = ((m : Int), true) := HYES.out (.inr (by omega)) (by simp_all)
            rw [e]; exact ⟨rfl, Below.refl _ _⟩
        · go_wp2
          · go_ret2
            have e : r = (0, false) := HNO'.out (.inr (by omega))
            rw [e]; exact ⟨rfl, Below.refl _ _⟩
          · go_ret2
            have e : r = ((m : Int), true) := HYES.out (.inl (by omega)) (by omega)
            rw [e]; exact ⟨rfl, Below.refl _ _⟩

theorem cut_here {L : List UInt8} {k : Nat} (hk : k < L.length) (h : L[k] = 58) : L = L.take k ++ 58 :: L.drop (k + 1) := by
  conv => lhs; rw [← List.take_append_drop k L, List.drop_eq_getElem_cons hk, h]
theorem cutR_end {L : List UInt8} (h : 58 ∉ L) : cutPartS L = none := cutPartS_miss h
theorem cutR_no {L : List UInt8} {k : Nat} (hk : k < L.length) (h : L[k] = 58) (hn : 58 ∉ L.take k) (hno : ¬ OkNum (L.take k) (L.length : Int) ∨ ((L.length - k - 1 : Nat) : Int) < (valFrom 0 (L.take k) : Int)) : cutPartS L = none := by
  rw [cut_here hk h, cutPartS_hit hn, if_neg]
  intro hb
  have ho := getNum_ok hb
  rw [List.length_drop] at ho
  rcases hno with h' | h'
  · exact h' ⟨ho.1, ho.2.1, by have := ho.2.2; omega⟩
  · have := ho.2.2
    omega
theorem cutR_yes {L : List UInt8} {k n : Nat} (hk : k < L.length) (h : L[k] = 58) (hn : 58 ∉ L.take k) (ho : OkNum (L.take k) (L.length : Int)) (hv : valFrom 0 (L.take k) = n) (hle : n ≤ L.length - k - 1) : cutPartS L = some ((L.drop (k + 1)).take n, (L.drop (k + 1)).drop n) := by
  have ho' : OkNum (L.take k) ((L.drop (k + 1)).length : Int) := ⟨ho.1, ho.2.1, by rw [hv, List.length_drop]; omega⟩
  rw [cut_here hk h, cutPartS_hit hn, getNum_yes ho', if_pos rfl, ← cut_here hk h, hv]
  simp

def GNum (L : List UInt8) (k : Nat) (n : Int) (ok : Bool) : Prop := getNum (L.take k) (L.length : Int) = (n, ok)
theorem GNum.no {L : List UInt8} {k : Nat} {n : Int} (h : GNum L k n false) : ¬ OkNum (L.take k) (L.length : Int) := fun ho => by
  unfold GNum at h
  rw [getNum_yes ho] at h
  cases h
theorem GNum.yes {L : List UInt8} {k : Nat} {n : Int} (h : GNum L k n true) : OkNum (L.take k) (L.length : Int) ∧ (valFrom 0 (L.take k) : Int) = n := by
  have ho : OkNum (L.take k) (L.length : Int) := getNum_ok (by rw [h])
  refine ⟨ho, ?_⟩
  unfold GNum at h
  rw [getNum_yes ho] at h
  injection h

set_option maxHeartbeats 4000000 in
set_option maxRecDepth 100000 in
theorem getR_any (s : ByteArray) (w : World) (hs : s.size < 4294967281) :
    Calls Tryd.prog 25 #[.string s] w (GetPost (getS s.data.toList) w) := by
  obtain ⟨r, hr⟩ : ∃ r, r = getS s.data.toList := ⟨_, rfl⟩
  rw [← hr]
  obtain ⟨i0, hi, hz0, hz1, hz2⟩ := info_parts info_str
  have HR := Lib.hid hr
  have hsl := Lib.hid (Lib.size_eq s)
  have H0 : GetAt s.data.toList s.data.toList [] := ⟨by simp, by simp⟩
  clear hr
  go_enter Tryd.func25, Tryd.ntmps25
  go_wp2
  go_loopw [0, 4] (fun t v wr => ∃ (cur : ByteArray) (done : List ByteArray) (a : Option Addr) (c : Nat), t = .string cur ∧ v = .slice a done.length c ∧ wr.ownsRow w.heap.size 9 1 (.slice a done.length c) done.length (done.map Value.string) ∧ Below w.heap.size w wr ∧ GetAt s.data.toList cur.data.toList done)
    (fun t _ _ => strSize t)
  case atStart => exact ⟨s, [], none, 0, rfl, rfl, World.ownsRow_nil _ _ _ _, Below.refl _ _, H0⟩
  case round =>
    obtain ⟨cur, done, a, c, rfl, rfl, hown, hnx, hat⟩ := hrel
    have hlen := hat.2
    rw [← Lib.size_eq, ← hsl.out] at hlen
    have HAT := Lib.hid hat
    have HOWN := Lib.hid hown
    have HNX := Lib.hid hnx
    clear hat H0 hown hnx
    by_cases h0 : cur.toList = []
    · go_wp2
      go_ret2
      have hd : r = some (done.map (·.data.toList)) := by
        rw [HR.out]
        have h := HAT.out
        have e : cur.data.toList = [] := by rw [← Lib.toList_data]; exact h0
        rw [e] at h
        exact h.done
      exact ⟨HNX.out, by rw [hd]; exact ⟨a, c, done, rfl, rfl, HOWN.out⟩⟩
    · have b0 : cur.toList.isEmpty = false := List.isEmpty_eq_false_iff.2 h0
      have h0' : cur.data.toList ≠ [] := by rw [← Lib.toList_data]; exact h0
      have HN0 : Hid (cutPartS cur.data.toList = none → r = none) := by
        show _ → _
        intro h; rw [HR.out]; exact HAT.out.none h0' h
      have HN1 : Hid (∀ p q, cutPartS cur.data.toList = some (p, q) → GetAt s.data.toList q (done ++ [⟨p.toArray⟩])) := by
        show ∀ p q, _
        exact fun p q h => HAT.out.next h0' h
      obtain ⟨L, hL⟩ : ∃ L, cur.data.toList = L := ⟨_, rfl⟩
      have hsz : cur.size = L.length := by rw [← hL]; exact Lib.size_eq cur
      rw [hL] at HN0 HN1
      have HL := Lib.hid hL
      have HSZ := Lib.hid hsz
      have hcs : cur.size < 4294967281 := by omega
      clear HAT h0' hL hsz
      go_wp2_with fail
      go_loop [5] (fun i => ∃ k : Nat, k ≤ cur.size ∧ i = .int .i64 k ∧ 58 ∉ L.take k) (fun i => cur.size - (intOf i).toNat)
      case atStart => exact ⟨0, Nat.zero_le _, rfl, by simp⟩
      case round =>
        obtain ⟨k, hk, rfl, hnin⟩ := hrel
        have HNIN := Lib.hid hnin
        clear hnin
        have cN := getNumberR_any (cur.extract 0 k) (cur.size : Int) (by rw [ByteArray.size_extract]; unfold maxLen; omega)
        have hek : (cur.extract 0 k).data.toList = L.take k := by rw [Lib.extract_eq, HL.out]; simp
        rw [hek] at cN
        obtain ⟨n, ok, hg⟩ : ∃ n ok, getNum (L.take k) (cur.size : Int) = (n, ok) := ⟨_, _, rfl⟩
        rw [hg] at cN
        have HGN : Hid (GNum L k n ok) := by show GNum _ _ _ _; unfold GNum; rw [← HSZ.out]; exact hg
        have CN := Lib.hid cN
        clear cN hek hg
        by_cases hlt : k < cur.size
        · have hlt' : k < L.length := by rw [← HSZ.out]; exact hlt
          have hget : L[k] = cur[k] := by
            have := HL.out
            subst this
            rfl
          have HGET := Lib.hid hget
          clear hget
          by_cases h58 : (cur[k].toNat : Int) = 58
          · have hcn : cur[k].toNat = 58 := by omega
            have hc58 : L[k] = 58 := by rw [HGET.out]; exact UInt8.toNat_inj.1 (by rw [hcn]; rfl)
            have HC58 := Lib.hid hc58
            clear hc58 hcn
            go_wp2_with fail
            refine (CN.out _).mono ?_
            rintro e w2 ⟨rfl, hb2⟩
            have HX2 := Lib.hid (HNX.out.trans (hb2.mono HNX.out.size))
            have hown2 : w2.ownsRow w.heap.size 9 1 (.slice a done.length c) done.length (done.map Value.string) := HOWN.out.kept (row := none) ⟨hb2.os, hb2.tape, hb2.output, hb2.size, fun g hg _ => hb2.block g hg⟩ (by cases h : Value.ownBlock _ <;> simp)
            have hs2 := HX2.out.size
            clear hb2
            cases ok
            · have hnone : r = none := HN0.out (cutR_no hlt' HC58.out HNIN.out (.inl HGN.out.no))
              have HNONE := Lib.hid hnone
              clear hnone
              go_wp2
              go_ret2
              exact ⟨HX2.out, by rw [HNONE.out]; rfl⟩
            · obtain ⟨hok, hval⟩ := HGN.out.yes
              obtain ⟨m, rfl⟩ : ∃ m : Nat, n = (m : Int) := ⟨_, hval.symm⟩
              have hm : valFrom 0 (L.take k) = m := by omega
              have hmm : m ≤ cur.size := by have := hok.2.2; rw [hm, ← HSZ.out] at this; omega
              have hls := HSZ.out
              by_cases hfit : m ≤ cur.size - k - 1
              · have hcut := cutR_yes hlt' HC58.out HNIN.out hok hm (by omega)
                have hnext := HN1.out _ _ hcut
                have e1 : cur.extract (k + 1) (k + 1 + m) = ⟨((L.drop (k + 1)).take m).toArray⟩ := by
                  rw [Lib.extract_eq, HL.out, show k + 1 + m - (k + 1) = m by omega]
                have e2 : (cur.extract (k + 1 + m) cur.size).data.toList = (L.drop (k + 1)).drop m := by
                  rw [Lib.extract_eq, HL.out, List.drop_drop, List.take_of_length_le (by rw [List.length_drop]; omega)]
                obtain ⟨pb, hpb⟩ : ∃ pb : ByteArray, cur.extract (k + 1) (k + 1 + m) = pb := ⟨_, rfl⟩
                have hqs : (cur.extract (k + 1 + m) cur.size).size < cur.size := by rw [ByteArray.size_extract]; omega
                have HQS := Lib.hid hqs
                have HN' : Hid (GetAt s.data.toList (cur.extract (k + 1 + m) cur.size).data.toList (done ++ [pb])) := by
                  show GetAt _ _ _
                  rw [e2, ← hpb, e1]; exact hnext
                have HPB := Lib.hid hpb
                have hk1 : (k : Int) + 1 + (m : Int) ≤ (cur.size : Int) := by omega
                have hfi : (m : Int) ≤ (cur.size : Int) - (k : Int) - 1 := by omega
                have hke : ((k : Int) == (cur.size : Int)) = false := by rw [Bool.eq_false_iff]; simp; omega
                clear hls hcut hnext e1 e2 hpb hqs hok hval hm
                go_wp2_with (at_builtin; rw [HPB.out]; refine wpList_append_own _ rfl _ _ 25 rfl w.heap.size 9 i0 (.string ByteArray.empty) 1 16 Tryd.underlying25 hi hz0 hz1 hz2 rfl (by decide) _ _ _ rfl (hown2.alloc _) ⟨w2.heap.size, 0, none⟩ 1 1 [.string pb] rfl rfl ?c1 ?c2 ?c3 ?c4 ?c5 ?_)
                case c1 =>
                  intro j u hj
                  match j, hj with
                  | 0, hj => simp at hj; subst hj; simp [Addr.add]
                case c2 => intro u hu; simp at hu; subst hu; rfl
                case c3 => unfold maxLen; omega
                case c4 => omega
                case c5 => simp; omega
                intro v' w3 hown' hgrow _
                have hnx' : Below w.heap.size w w3 := (HX2.out.alloc hs2 _).grown hgrow (by simp; omega) (fun g hg => (hown2.lt g hg).1)
                obtain ⟨a', c', hv, _⟩ := own_shape hown'
                have HO : Hid (w3.ownsRow w.heap.size 9 1 (.slice a' (done ++ [pb]).length c') (done ++ [pb]).length ((done ++ [pb]).map Value.string)) := by
                  show w3.ownsRow _ _ _ _ _ _
                  rw [hv] at hown'
                  simpa using hown'
                have HV : Hid (v' = .slice a' (done ++ [pb]).length c') := by
                  show v' = _
                  rw [hv]; simp
                clear hgrow hown2 hown' hv
                go_wp2
                go_roundw
                case rel => exact ⟨_, done ++ [pb], a', c', rfl, HV.out, HO.out, hnx', HN'.out⟩
                case measure => simp only [strSize]; exact HQS.out
              · have hnone : r = none := HN0.out (cutR_no hlt' HC58.out HNIN.out (.inr (by rw [hm]; omega)))
                have HNONE := Lib.hid hnone
                have hfi : (cur.size : Int) - (k : Int) - 1 < (m : Int) := by omega
                have hke : ((k : Int) == (cur.size : Int)) = false := by rw [Bool.eq_false_iff]; simp; omega
                clear hls hnone hok hval hm
                go_wp2
                go_ret2
                exact ⟨HX2.out, by rw [HNONE.out]; rfl⟩
          · have hne : L[k] ≠ 58 := by rw [HGET.out]; intro e; exact h58 (by rw [e]; rfl)
            have HNE := Lib.hid hne
            clear hne
            go_wp2
            go_round
            case rel => exact ⟨k + 1, by omega, by go_num, by
              rw [List.take_succ_eq_append_getElem hlt']
              intro hm
              rcases List.mem_append.1 hm with hm | hm
              · exact HNIN.out hm
              · exact HNE.out (List.mem_singleton.1 hm).symm⟩
            case measure => simp [intOf]; omega
        · have hkl : k = L.length := by have := HSZ.out; omega
          have hnone : r = none := HN0.out (cutR_end (by have := HNIN.out; rw [List.take_of_length_le (by omega)] at this; exact this))
          have HNONE := Lib.hid hnone
          clear hkl hnone
          go_wp2_with fail
          refine (CN.out _).mono ?_
          rintro e w2 ⟨rfl, hb2⟩
          have HX2 := Lib.hid (HNX.out.trans (hb2.mono HNX.out.size))
          clear hb2
          cases ok
          · go_wp2
            go_ret2
            exact ⟨HX2.out, by rw [HNONE.out]; rfl⟩
          · go_wp2
            go_ret2
            exact ⟨HX2.out, by rw [HNONE.out]; rfl⟩
end Go.Proofs.YtjaojfaedikkeabDoor
