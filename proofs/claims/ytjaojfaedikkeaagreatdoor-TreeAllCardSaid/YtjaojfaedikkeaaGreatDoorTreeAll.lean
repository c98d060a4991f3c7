/- The law on trees: for every files and every operations the program's tree is the reference's. -/
import Derived.Deep.DeepCutAuto
import Derived.Deep.CutBlock
import Derived.Test.YtjaojfaedikkeaaGreatDoorMathI
import Derived.Test.YtjaojfaedikkeaaGreatDoorOps
import Derived.Test.YtjaojfaedikkeaaGreatDoorSt
namespace Go.Proofs.YtjaojfaedikkeaaGreatDoor.lawTreeAll
open Go.RowKit

theorem mono3 {r r' : Option Nat} {n m : Nat} (h : r' = r ∨ r' = none ∨ ∃ k, r' = some k ∧ n ≤ k) (hr : ∀ k, r = some k → m ≤ k) (hn : m ≤ n) : ∀ k, r' = some k → m ≤ k := by
  intro k hk
  rcases h with rfl | rfl | ⟨j, rfl, hj⟩
  · exact hr k hk
  · cases hk
  · injection hk with hk; omega

def CutA (W1 : World) (gs : List F2) (bt bw : Nat) (w : World) : Prop :=
  ∃ rt rw, IsTree w W1.heap.size bt rt (newF gs) ∧ IsRT w W1.heap.size bw rw (newF gs) ∧ Sep bt rt bw rw ∧ Below W1.heap.size W1 w

theorem ok_erase {fs : List F2} (h : FOk fs) (x : ByteArray) : FOk (eraseF fs x).2 := by
  unfold eraseF
  split
  · intro f hf
    rcases List.mem_append.1 hf with hf | hf
    · exact h f (List.mem_of_mem_take hf)
    · exact h f (List.mem_of_mem_drop hf)
  · exact h

def CutB (W1 : World) (bt bw bc : Nat) (rc : Option Nat) (T0 : List F2) (w : World) : Prop :=
  ∃ rt rw T, St W1 w bt bw bc rt rw rc T T T0 ∧ FOk T

set_option maxHeartbeats 8000000 in
set_option maxRecDepth 100000 in
theorem law (v : Value) (fs : List F2) (vo : Value) (os : List Op3) (w : World) (hF : IsFiles w v fs) (hsz : ∀ f ∈ fs, f.1.size ≤ maxLen ∧ f.2.size ≤ maxLen) (hO : IsOps w vo os) (hoz : ∀ f ∈ os, f.2.1.size ≤ maxLen ∧ f.2.2.size ≤ maxLen) (hG : Glob w) :
    Calls Tryz.prog 3 #[v, vo] w fun e w' => e = .returned (.bool true) ∧ Below w.heap.size w w' := by
  obtain ⟨ad, c, rfl, h1, h1m, h2⟩ := hF
  obtain ⟨oa, oc, rfl, ho1, ho1m, ho2⟩ := hO
  have hlen : (min (fs.length : Int) 10).toNat = (fs.take 10).length := by rw [List.length_take]; omega
  have hgs : IsFiles w (.slice ad (fs.take 10).length c) (fs.take 10) := by
    refine ⟨ad, c, rfl, by rw [List.length_take]; omega, h1m, fun hne => ?_⟩
    obtain ⟨b0, o0, ha0, hb0, hc0⟩ := h2 (by rintro rfl; simp at hne)
    refine ⟨b0, o0, ha0, hb0, fun j x hx => hc0 j x ?_⟩
    rw [List.getElem?_take] at hx
    split at hx
    · exact hx
    · cases hx
  have hgsz : ∀ f ∈ fs.take 10, f.1.size ≤ maxLen ∧ f.2.size ≤ maxLen := fun f hf => hsz f (List.mem_of_mem_take hf)
  have hok := FOk.new (fs.take 10)
  have hg10 : (fs.take 10).length ≤ 10 := by rw [List.length_take]; omega
  obtain ⟨gs, hgse⟩ : ∃ gs, fs.take 10 = gs := ⟨_, rfl⟩
  rw [hgse] at hlen hgs hgsz hok hg10
  have HG := Lib.hid hG
  have HGS := Lib.hid hgs
  have HSZ := Lib.hid hgsz
  have HOK := Lib.hid hok
  have HOK0 := Lib.hid hok
  have HOPS := Lib.hid ho2
  have HOZ := Lib.hid hoz
  unfold maxLen at h1m ho1m
  clear hG h2 hsz hgs hgsz hok hgse ho2 hoz
  go_enter Tryz.func3, Tryz.ntmps3
  go_wp2_with fail
  refine (begun_any w HG.out).mono ?_
  rintro e w1 ⟨rfl, hb1⟩
  have HX1 := Lib.hid hb1
  have HG1 : Hid (∀ wz, Below w1.heap.size w1 wz → Glob wz) := by show ∀ wz, _; exact fun wz h => HG.out.below (chain hb1 h)
  clear hb1
  go_wp2_with fail
  refine (new_any (.slice ad gs.length c) gs w1 (HGS.out.below HX1.out) (HG.out.below HX1.out) HSZ.out).mono ?_
  rintro e w2 ⟨bt, rt, rfl, hT2, hb2⟩
  have HT2 := Lib.hid hT2
  have HX2 := Lib.hid hb2
  clear hT2 hb2
  go_upto_block 0 with fail
  go_cut [] (fun wx => CutA w1 gs bt w2.heap.size wx)
  case first =>
    have hu0 : IsRT (w2.alloc (.cells #[.slice none 0 0] 29)) w2.heap.size w2.heap.size none (newF (gs.take 0)) :=
      ⟨Nat.le_refl _, List.Pairwise.nil, by simp [newF], .slice none 0 0, heap_alloc_new w2 _, World.ownsRow_nil _ _ _ _, rfl⟩
    have HU0 := Lib.hid hu0
    clear hu0
    go_wp2_with fail
    go_loopw [8] (fun i wr => ∃ (k : Nat) (rw' : Option Nat), k ≤ gs.length ∧ i = .int .i64 k ∧ IsRT wr w2.heap.size w2.heap.size rw' (newF (gs.take k)) ∧ Below w2.heap.size w2 wr)
      (fun i _ => gs.length - (intOf i).toNat)
    case atStart => exact ⟨0, none, Nat.zero_le _, rfl, HU0.out, (Below.refl _ _).alloc (Nat.le_refl _) _⟩
    case round =>
      obtain ⟨k, rw', hk, rfl, hu, hnx⟩ := hrel
      have HU := Lib.hid hu
      have HNX := Lib.hid hnx
      clear hu hnx HU0
      by_cases hlt : k < gs.length
      · obtain ⟨f, hf⟩ : ∃ f, gs[k]? = some f := ⟨gs[k], List.getElem?_eq_getElem hlt⟩
        obtain ⟨a', c', hv, _, _, hcs⟩ := HGS.out.below (chain HX1.out HX2.out)
        cases hv
        obtain ⟨gb, go, rfl, hgb, hgc⟩ := hcs (by rintro rfl; simp at hlt)
        obtain ⟨hf0, hf1⟩ := hgc k f hf
        have hc0 : ∀ w', Below w2.heap.size w2 w' → w'.cell? ⟨gb, go + k * 2, none⟩ = some (.string f.1) := fun w' hw => (hw.cell (p := ⟨gb, go + k * 2, none⟩) hgb).trans hf0
        have hc1 : ∀ w', Below w2.heap.size w2 w' → w'.cell? ⟨gb, go + k * 2 + 1, none⟩ = some (.string f.2) := fun w' hw => (hw.cell (p := ⟨gb, go + k * 2 + 1, none⟩) hgb).trans hf1
        have HN := Lib.hid (newF_next gs k f hf)
        have hfz := HSZ.out f (List.mem_of_getElem? hf)
        have hk0 : (0 : Int) ≤ (k : Int) := by omega
        have hk1 : (k : Int) < (gs.length : Int) := by omega
        have HS0 := Lib.hid (show Below w2.heap.size w2 wr.drew from HNX.out.drew)
        have HUD := Lib.hid (HU.out.below (Below.refl wr.heap.size wr).drew)
        have cW := writeR_any w2.heap.size w2.heap.size rw' (newF (gs.take k)) f.1 f.2 wr.drew HUD.out hfz.1 hfz.2
        have hul := HU.out.rlt
        have HUL := Lib.hid hul
        clear hcs hgc hf hf0 hf1 hfz hul
        go_wp2_with fail
        go_region_held3 (fun w' => Below w2.heap.size w2 w') (first | assumption | exact HS0.out)
          (first
            | (go_at_call 6; refine cW.mono ?_; rintro e w3 ⟨r3, rfl, hu3, hf3, hr3⟩; have hSn := HS0.out.trans (hf3.below HS0.out.size (Nat.le_refl _) (fun g hg => (HUL.out.1 g hg).1)); clear hf3 hr3)
            | fail)
        have HU3 := Lib.hid hu3
        have HX3 := Lib.hid hSn
        clear hu3 hSn hc0 hc1 cW
        go_wp2
        go_roundw
        case rel => exact ⟨k + 1, r3, by omega, by go_num, by rw [HN.out]; exact HU3.out, HX3.out⟩
        case measure => simp [intOf]; omega
      · have hfull : gs.take k = gs := List.take_of_length_le (by omega)
        have hut := HU.out
        rw [hfull] at hut
        have hts := HT2.out.rlt
        have hus := hut.rlt
        have hcut : CutA w1 gs bt w2.heap.size wr :=
          ⟨rt, rw', HT2.out.below HNX.out, hut.low HX2.out.size, ⟨by omega, fun e => by have := (hts.1 _ e).2; omega, fun e => by have := (hus.1 _ e).1; omega, fun j hj e => by have := (hts.1 _ hj).2; have := (hus.1 _ e).1; omega⟩, chain HX2.out HNX.out⟩
        have HCUT := Lib.hid hcut
        clear hfull hut hts hus hcut
        go_wp2_with fail
        go_meet
        exact HCUT.out
  case rest =>
    obtain ⟨rt1, rw1, ht, hu, hsep, hx⟩ := hcut
    obtain ⟨T0, hT0⟩ : ∃ T0, newF gs = T0 := ⟨_, rfl⟩
    rw [hT0] at ht hu
    have hok0 : FOk T0 := by rw [← hT0]; exact HOK0.out
    have HT := Lib.hid ht
    have HU := Lib.hid hu
    have HSEP := Lib.hid hsep
    have HX := Lib.hid hx
    have HOKT := Lib.hid hok0
    have HOK00 := Lib.hid hok0
    clear ht hu hsep hx hok0 hT0 HT2 HX2 HGS HSZ
    go_wp2_with fail
    refine (tclone_any _ bt rt1 T0 wc HT.out).mono ?_
    rintro e w3 ⟨bc, rc, rfl, hC3, hb3⟩
    have hst : St w1 w3 bt w2.heap.size bc rt1 rw1 rc T0 T0 T0 := by
      have lt := HT.out.rlt
      have lu := HU.out.rlt
      have lc := hC3.rlt
      refine ⟨HT.out.below hb3, HU.out.below hb3, hC3.low HX.out.size, chain HX.out hb3, HSEP.out, ⟨by omega, fun e => by have := (lt.1 _ e).2; omega, fun e => by have := (lc.1 _ e).1; omega, fun j hj e => by have := (lt.1 _ hj).2; have := (lc.1 _ e).1; omega⟩, ⟨by omega, fun e => by have := (lu.1 _ e).2; omega, fun e => by have := (lc.1 _ e).1; omega, fun j hj e => by have := (lu.1 _ hj).2; have := (lc.1 _ e).1; omega⟩⟩
    have HST := Lib.hid hst
    clear hst hC3 hb3 HT HU HSEP HX
    have hkl0 := key_len T0 HOKT.out
    have hl60 : T0.length ≤ 60 := HST.out.t.2.2.1
    obtain ⟨K0, hK0⟩ : ∃ K0, keyRB T0 = K0 := ⟨_, rfl⟩
    have cK := keyR_any _ w2.heap.size rw1 T0 w3 HST.out.u (by rw [keyRB_eq]; show (putS (keyL T0)).length ≤ _; omega)
    rw [hK0] at cK
    have HK0 := Lib.hid hK0
    have CK := Lib.hid cK
    clear hkl0 hK0 cK
    go_wp2_with fail
    refine CK.out.mono ?_
    rintro e w4 ⟨rfl, hb4⟩
    have HST4 := Lib.hid (HST.out.below hb4)
    clear hb4 HST CK
    go_upto_block 2 with fail
    go_cut [] (fun wx => CutB w1 bt w2.heap.size bc rc T0 wx)
    case first =>
      have hcb : CutB w1 bt w2.heap.size bc rc T0 w4 := ⟨rt1, rw1, T0, HST4.out, HOKT.out⟩
      have HCB := Lib.hid hcb
      clear hcb HST4 HOKT
      go_wp2_with fail
      go_loopw [11] (fun i wr => ∃ (k : Nat), k ≤ os.length ∧ k ≤ 90 ∧ i = .int .i64 k ∧ CutB w1 bt w2.heap.size bc rc T0 wr)
        (fun i _ => os.length - (intOf i).toNat)
      case atStart => exact ⟨0, Nat.zero_le _, by omega, rfl, HCB.out⟩
      case round =>
        obtain ⟨k, hk, hk90, rfl, hcb⟩ := hrel
        have HCR := Lib.hid hcb
        clear hcb HCB
        by_cases hgo : k < os.length ∧ k < 90
        · obtain ⟨hlt, hlt90⟩ := hgo
          obtain ⟨rt5, rw5, T, hst, hokT⟩ := HCR.out
          obtain ⟨⟨n, s1, s2⟩, ho⟩ : ∃ o, os[k]? = some o := ⟨os[k], List.getElem?_eq_getElem hlt⟩
          obtain ⟨ob, oo, rfl, hob, hoc⟩ := HOPS.out (by rintro rfl; simp at hlt)
          have hxr := chain HX1.out hst.x
          obtain ⟨d0, d1, d2⟩ := hoc k _ ho
          have e0 := (hxr.cell (p := ⟨ob, oo + k * 3, none⟩) hob).trans d0
          have e1 := (hxr.cell (p := ⟨ob, oo + k * 3 + 1, none⟩) hob).trans d1
          have e2 := (hxr.cell (p := ⟨ob, oo + k * 3 + 2, none⟩) hob).trans d2
          have hz := HOZ.out _ (List.mem_of_getElem? ho)
          simp only at e0 e1 e2 hz
          have HST := Lib.hid hst
          have HOKK := Lib.hid hokT
          have hk0 : (0 : Int) ≤ (k : Int) := by omega
          have hk1 : (k : Int) < (os.length : Int) := by omega
          have hk2 : (k : Int) < 90 := by omega
          clear hst hokT ho hoc hxr d0 d1 d2 HCR
          go_upto_block 4 with fail
          obtain ⟨W5, hW5⟩ : ∃ W5, wr.alloc (.cells #[.int .i64 n, .string s1, .string s2] 37) = W5 := ⟨_, rfl⟩
          have hob5 : W5.heap[wr.heap.size]? = some (.cells #[.int .i64 n, .string s1, .string s2] 37 (0, 0)) := by rw [← hW5]; exact heap_alloc_new wr _
          have hst5 : St w1 W5 bt w2.heap.size bc rt5 rw5 rc T T T0 := by rw [← hW5]; exact HST.out.below ((Below.refl _ _).alloc (Nat.le_refl _) _)
          have lt5 := HST.out.t.rlt
          have lu5 := HST.out.u.rlt
          have hobt : wr.heap.size ≠ bt ∧ rt5 ≠ some wr.heap.size ∧ wr.heap.size ≠ w2.heap.size ∧ rw5 ≠ some wr.heap.size := ⟨by omega, fun e => by have := (lt5.1 _ e).2; omega, by omega, fun e => by have := (lu5.1 _ e).2; omega⟩
          have hobl : wr.heap.size < W5.heap.size := by rw [← hW5]; simp
          rw [hW5]
          obtain ⟨O, hO⟩ : ∃ O, wr.heap.size = O := ⟨_, rfl⟩
          rw [hO] at hob5 hobt hobl
          rw [hO]
          have HOB := Lib.hid hob5
          have HST5 := Lib.hid hst5
          have HOBT := Lib.hid hobt
          have hgl5 : Glob W5 := HG1.out _ hst5.x
          have HGL5 := Lib.hid hgl5
          have HCEL : Hid (∀ wz : World, wz.heap[O]? = some (.cells #[.int .i64 n, .string s1, .string s2] 37 (0, 0)) → wz.cell? ⟨O, 0, none⟩ = some (.int .i64 n) ∧ wz.cell? ⟨O, 1, none⟩ = some (.string s1) ∧ wz.cell? ⟨O, 2, none⟩ = some (.string s2)) := by
            show ∀ wz : World, _
            intro wz h
            exact ⟨by simp [World.cell?, h], by simp [World.cell?, h], by simp [World.cell?, h]⟩
          clear hob5 hst5 lt5 lu5 hobt hgl5 hW5 hO e0 e1 e2 HST
          go_cut [] (fun wx => CutB w1 bt w2.heap.size bc rc T0 wx)
          case first =>
            obtain ⟨ec0, ec1, ec2⟩ := HCEL.out W5 HOB.out
            by_cases hn0 : n = 0
            · have hn0' : ((n : Int) == 0) = true := by simp [hn0]
              clear hn0
              obtain ⟨q, hq⟩ : ∃ q, (writeF T s1 s2).1 = q := ⟨_, rfl⟩
              obtain ⟨T6, hT6⟩ : ∃ T6, (writeF T s1 s2).2 = T6 := ⟨_, rfl⟩
              have hok6 : FOk T6 := by rw [← hT6]; exact HOKK.out.write s1 s2
              have HOK6 := Lib.hid hok6
              have HQ := Lib.hid hq
              have HT6 := Lib.hid hT6
              have HSD := Lib.hid (HST5.out.below (Below.refl W5.heap.size W5).drew)
              have cT := HSD.out.writeT s1 s2 (HG1.out _ HSD.out.x) hz.1 hz.2
              rw [hq, hT6] at cT
              have CT := Lib.hid cT
              have HS0 := Lib.hid (show W5.drew.cell? ⟨O, 1, none⟩ = some (.string s1) ∧ W5.drew.cell? ⟨O, 2, none⟩ = some (.string s2) from ⟨ec1, ec2⟩)
              clear hq hT6 hok6 cT
              have hqq : (q == q) = true := by simp
              go_wp2_with fail


              go_region_held3 (fun w' => w'.cell? ⟨O, 1, none⟩ = some (.string s1) ∧ w'.cell? ⟨O, 2, none⟩ = some (.string s2)) (first | exact HS0.out | exact hc7 | exact hc6)
                (first
                  | (go_at_call 9; refine CT.out.mono ?_; rintro e w6 ⟨rt6, rw6, rfl, hst6, hsz6, hfar6, rfl⟩; have ho6 := (hfar6 O hobl HOBT.out.1 HOBT.out.2.1).trans HOB.out; have hc6 := (HCEL.out w6 ho6).2; have hol6 := Nat.lt_of_lt_of_le hobl hsz6; have cU := hst6.writeU s1 s2 hz.1 hz.2; rw [HQ.out, HT6.out] at cU; have CU := Lib.hid cU; have HO6 := Lib.hid ho6; clear cU hst6 hfar6 ho6)
                  | (go_at_call 6; refine CU.out.mono ?_; rintro e w7 ⟨rt7, rw7, rfl, hst7, hsz7, hfar7, hrt7⟩; have ho7 := (hfar7 O hol6 HOBT.out.2.2.1 HOBT.out.2.2.2).trans HO6.out; have hc7 := (HCEL.out w7 ho7).2; have HST7 := Lib.hid hst7; clear hst7 hfar7 ho7)
                  | fail)
              clear hrt7
              go_wp2_with fail
              go_meet
              exact ⟨rt7, rw7, T6, HST7.out, HOK6.out⟩
            · have hn0' : ((n : Int) == 0) = false := by simpa using hn0
              by_cases hn1 : n = 1
              · have hn1' : ((n : Int) == 1) = true := by simp [hn1]
                clear hn1 hn0
                obtain ⟨q, hq⟩ : ∃ q, (eraseF T s1).1 = q := ⟨_, rfl⟩
                obtain ⟨T6, hT6⟩ : ∃ T6, (eraseF T s1).2 = T6 := ⟨_, rfl⟩
                have hok6 : FOk T6 := by rw [← hT6]; exact ok_erase HOKK.out s1
                have HOK6 := Lib.hid hok6
                have HQ := Lib.hid hq
                have HT6 := Lib.hid hT6
                have HSD := Lib.hid (HST5.out.below (Below.refl W5.heap.size W5).drew)
                have cT := HSD.out.eraseT s1
                rw [hq, hT6] at cT
                have CT := Lib.hid cT
                have HS0 := Lib.hid (show W5.drew.cell? ⟨O, 1, none⟩ = some (.string s1) ∧ W5.drew.cell? ⟨O, 2, none⟩ = some (.string s2) from ⟨ec1, ec2⟩)
                clear hq hT6 hok6 cT
                have hqq : (q == q) = true := by simp
                go_wp2_with fail
                go_region_held3 (fun w' => w'.cell? ⟨O, 1, none⟩ = some (.string s1) ∧ w'.cell? ⟨O, 2, none⟩ = some (.string s2)) (first | exact HS0.out | exact hc7 | exact hc6)
                  (first
                    | (go_at_call 10; refine CT.out.mono ?_; rintro e w6 ⟨rt6, rw6, rfl, hst6, hsz6, hfar6, rfl⟩; have ho6 := (hfar6 O hobl HOBT.out.1 HOBT.out.2.1).trans HOB.out; have hc6 := (HCEL.out w6 ho6).2; have hol6 := Nat.lt_of_lt_of_le hobl hsz6; have cU := hst6.eraseU s1; rw [HQ.out, HT6.out] at cU; have CU := Lib.hid cU; have HO6 := Lib.hid ho6; clear cU hst6 hfar6 ho6)
                    | (go_at_call 11; refine CU.out.mono ?_; rintro e w7 ⟨rt7, rw7, rfl, hst7, hsz7, hfar7, hrt7⟩; have ho7 := (hfar7 O hol6 HOBT.out.2.2.1 HOBT.out.2.2.2).trans HO6.out; have hc7 := (HCEL.out w7 ho7).2; have HST7 := Lib.hid hst7; clear hst7 hfar7 ho7)
                    | fail)
                clear hrt7
                go_wp2_with fail
                go_meet
                exact ⟨rt7, rw7, T6, HST7.out, HOK6.out⟩
              · have hn1' : ((n : Int) == 1) = false := by simpa using hn1
                obtain ⟨ra, rq, hrd⟩ : ∃ ra rq, readF T s1 = (ra, rq) := ⟨_, _, rfl⟩
                have cR := read_any _ bt rt5 T s1 W5 HST5.out.t
                rw [hrd] at cR
                have hrr : (ra.toList == ra.toList) = true := by simp
                have hrq : (rq == rq) = true := by simp
                have HRD := Lib.hid hrd
                clear hrd
                go_wp2_with fail
                refine cR.mono ?_
                rintro e w6 ⟨rfl, hb6⟩
                have HST6 := Lib.hid (HST5.out.below hb6)
                have ho6 := (hb6.block O hobl).trans HOB.out
                obtain ⟨f0, f1, f2⟩ := HCEL.out w6 ho6
                have cU := readR_any _ w2.heap.size rw5 T s1 w6 HST6.out.u
                rw [HRD.out] at cU
                clear hb6 cR ho6
                go_wp2_with fail
                refine cU.mono ?_
                rintro e w7 ⟨rfl, hb7⟩
                have HST7 := Lib.hid (HST6.out.below hb7)
                clear hb7 cU
                go_wp2_with fail
                go_meet
                exact ⟨rt5, rw5, T, HST7.out, HOKK.out⟩
          case rest =>
            obtain ⟨rt8, rw8, T8, hst8, hok8⟩ := hcut
            have HOK8 := Lib.hid hok8
            have hsd := hst8.below (Below.refl wc.heap.size wc).drew
            have hl60 : T8.length ≤ 60 := hst8.t.2.2.1
            have hkl := key_len T8 hok8
            obtain ⟨ta, tc, hta, htf⟩ := hsd.t.all
            have cL := len_core _ ta tc T8 wc.drew hta
            obtain ⟨K8, hK8⟩ : ∃ K8, keyRB T8 = K8 := ⟨_, rfl⟩
            have cK := key_core _ ta tc T8 wc.drew hta htf hl60 (HG1.out _ hsd.x) (by omega)
            rw [← keyRB_eq, hK8] at cK
            have cU := fun wz h => keyR_any w1.heap.size w2.heap.size rw8 T8 wz h (by rw [keyRB_eq]; show (putS (keyL T8)).length ≤ _; omega)
            simp only [hK8] at cU
            obtain ⟨ua, uc, hub, _, _, _⟩ := hst8.u.ptr
            have hublt := block_lt hub
            have hucell : wc.cell? ⟨w2.heap.size, 0, none⟩ = some (.slice ua T8.length uc) := by simp [World.cell?, hub]
            have HSD := Lib.hid hsd
            have HST8 := Lib.hid hst8
            have CL := Lib.hid cL
            have CK := Lib.hid cK
            have CU := Lib.hid cU
            have HUC := Lib.hid hucell
            have hkk : (K8.toList == K8.toList) = true := by simp
            have hll : ((T8.length : Int) == (T8.length : Int)) = true := by simp
            clear hsd hst8 hok8 hkl hta htf cL cK cU hub hK8
            go_wp2_with fail
            go_region_held3 (fun w' => w'.cell? ⟨w2.heap.size, 0, none⟩ = some (.slice ua T8.length uc)) (first | assumption | exact HUC.out)
              (first
                | (go_at_call 14; refine CL.out.mono ?_; rintro e w9 ⟨rfl, rfl⟩)
                | (go_at_call 15; refine CK.out.mono ?_; rintro e w9 ⟨rfl, hb9⟩; have hc9 := (hb9.cell (p := ⟨w2.heap.size, 0, none⟩) hublt).trans HUC.out; have HST9 := Lib.hid (HSD.out.below hb9); clear hb9)
                | (go_at_call 8; refine (CU.out _ HST9.out.u).mono ?_; rintro e w10 ⟨rfl, hb10⟩; have hc10 := (hb10.cell (p := ⟨w2.heap.size, 0, none⟩) HST9.out.u.rlt.2.2).trans hc9; have HST10 := Lib.hid (HST9.out.below hb10); clear hb10)
                | fail)
            go_wp2
            go_roundw
            case rel => exact ⟨k + 1, by omega, by omega, by go_num, rt8, rw8, T8, HST10.out, HOK8.out⟩
            case measure => simp [intOf]; omega
        · by_cases hlt : k < os.length
          · have hge : ¬ k < 90 := fun h => hgo ⟨hlt, h⟩
            clear hgo
            go_wp2_with fail
            go_meet
            exact HCR.out
          · clear hgo
            go_wp2_with fail
            go_meet
            exact HCR.out
    case rest =>
      obtain ⟨rt8, rw8, T8, hst8, hok8⟩ := hcut
      have hl60' : T8.length ≤ 60 := hst8.t.2.2.1
      obtain ⟨ta, tc, hta, htf⟩ := hst8.t.all
      have cN := names_core _ ta tc T8 wc hta htf hl60'
      have HST8 := Lib.hid hst8
      have CN := Lib.hid cN
      clear hst8 hok8 hta htf cN HST4 HOKT
      go_wp2_with fail
      refine CN.out.mono ?_
      rintro e w9 ⟨na, nc, rfl, hown9, hb9⟩
      have hst9 := HST8.out.below hb9
      have hI : IsStrs w9 (.slice na T8.length nc) (T8.map (·.1)) := by
        have h := hown9
        have e : (T8.map fun f => Value.string f.1) = (T8.map (·.1)).map Value.string := by rw [List.map_map]; rfl
        have e2 : T8.length = (T8.map (·.1)).length := by simp
        rw [e] at h
        rw [e2] at h ⊢
        exact strs_own h
      obtain ⟨na', nc', hv, hnl, hnm, hnc⟩ := hI
      rw [List.length_map] at hv hnl
      cases hv
      obtain ⟨ua, uc, hub, huo, huc, hum⟩ := hst9.u.ptr
      have hublt := block_lt hub
      obtain ⟨ua', uc', hv, _, _, hucs⟩ := huo.files
      cases hv
      have HUC : Hid (∀ w', Below w9.heap.size w9 w' → w'.cell? ⟨w2.heap.size, 0, none⟩ = some (.slice ua T8.length uc)) := by
        show ∀ w', _
        intro w' hw
        rw [hw.cell (p := ⟨w2.heap.size, 0, none⟩) hublt]
        simp [World.cell?, hub]
      have HNC := Lib.hid hnc
      have HUCS := Lib.hid hucs
      have HST9 := Lib.hid hst9
      unfold maxLen at hnm hum
      clear hown9 hb9 hst9 hnc hub huo hucs HST8 CN
      go_wp2_with fail
      go_loopw [18] (fun i wr => ∃ (k : Nat), k ≤ T8.length ∧ i = .int .i64 k ∧ Below w9.heap.size w9 wr)
        (fun i _ => T8.length - (intOf i).toNat)
      case atStart => exact ⟨0, Nat.zero_le _, rfl, Below.refl _ _⟩
      case round =>
        obtain ⟨k, hk, rfl, hnx⟩ := hrel
        have HNX := Lib.hid hnx
        have hucell := HUC.out _ hnx
        clear hnx
        by_cases hlt : k < T8.length
        · obtain ⟨f, hf⟩ : ∃ f, T8[k]? = some f := ⟨T8[k], List.getElem?_eq_getElem hlt⟩
          obtain ⟨nb, no, rfl, hnb, hncc⟩ := HNC.out (by intro e; rw [List.map_eq_nil_iff] at e; rw [e] at hlt; simp at hlt)
          obtain ⟨gb, go, rfl, hgb, hgc⟩ := HUCS.out (by rintro rfl; simp at hlt)
          have hnk := (HNX.out.cell (p := ⟨nb, no + k, none⟩) hnb).trans (hncc k f.1 (by rw [List.getElem?_map, hf]; rfl))
          have hgk := (HNX.out.cell (p := ⟨gb, go + k * 2, none⟩) hgb).trans (hgc k f hf).1
          have hff : (f.1.toList == f.1.toList) = true := by simp
          have hk0 : (0 : Int) ≤ (k : Int) := by omega
          have hk1 : (k : Int) < (T8.length : Int) := by omega
          clear hncc hgc hf
          go_wp2_with fail
          go_quiet (fail)
          go_wp2
          go_roundw
          case rel => exact ⟨k + 1, by omega, by go_num, ⟨HNX.out.os, HNX.out.tape, HNX.out.output, HNX.out.size, HNX.out.block⟩⟩
          case measure => simp [intOf]; omega
        · have hst10 := HST9.out.below HNX.out
          have hkl0 := key_len T0 HOK00.out
          have hl0 : T0.length ≤ 60 := hst10.c.2.2.1
          obtain ⟨ca, cc, hca, hcf⟩ := hst10.c.all
          have cK := key_core _ ca cc T0 wr hca hcf hl0 (HG1.out _ hst10.x) (by omega)
          rw [← keyRB_eq, HK0.out] at cK
          have CK := Lib.hid cK
          have hkk : (K0.toList == K0.toList) = true := by simp
          have hll : ((T8.length : Int) == (T8.length : Int)) = true := by simp
          have HXX := Lib.hid (chain HX1.out hst10.x)
          clear hst10 hkl0 hca hcf cK
          go_wp2_with fail
          refine CK.out.mono ?_
          rintro e w11 ⟨rfl, hb11⟩
          have HXY := Lib.hid (chain HXX.out hb11)
          clear hb11
          go_wp2
          go_ret
          exact ⟨rfl, HXY.out⟩
end Go.Proofs.YtjaojfaedikkeaaGreatDoor.lawTreeAll
