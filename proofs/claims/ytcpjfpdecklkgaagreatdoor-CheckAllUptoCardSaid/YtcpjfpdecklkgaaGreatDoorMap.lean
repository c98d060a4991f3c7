import Derived.Test.YtcpjfpdecklkgaaGreatDoorMao
import Derived.Test.YtcpjfpdecklkgaaGreatDoorGate
import Derived.Deep.RegionHeld3
import Derived.Maps.OwnSet
import Derived.Maps.Own
import Derived.StringKeys
namespace Go.Proofs.YtcpjfpdecklkgaaGreatDoor
open Go.Lib (hid)
open Go.Proofs.Tryz
open Go.RowKit Go.Shelf
set_option maxHeartbeats 2000000 in
theorem Zmy (v1 v2:Value) (xs:List ByteArray) (w:World) (h1:IsStrs w v1 xs) (h2:IsStrs w v2 xs):
  Calls prog 186 #[v1,v2] w λe w'=>e = .returned (.bool true)/\Below w.heap.size w w':=by
 obtain⟨a1,c1,rfl,_,hm1,hc1⟩:=h1;obtain⟨a2,c2,rfl,_,hm2,hc2⟩:=h2;have hlm:xs.length<=maxLen:=by omega
 unfold maxLen at hlm;have HC1:=hid hc1;have HC2:=hid hc2;clear hc1 hc2
 go_enter func186,ntmps186
 go_wp2
 go_loopw [13] (λi wr=>∃k:Nat,k<=xs.length/\i = .int .i64 k/\Below w.heap.size w wr)
  (λi _=>xs.length-(intOf i).toNat)
 case atStart=>exact⟨0,Nat.zero_le _,rfl,Below.refl _ _⟩
 case round=>
  obtain⟨k,hk,rfl,hnx⟩:=hrel;have HNX:=hid hnx;clear hnx
  by_cases hlt:k<xs.length
  ·obtain⟨x,hx⟩:∃x,xs[k]? =some x:=⟨xs[k],List.getElem?_eq_getElem hlt⟩
   obtain⟨b1,o1,q1,hb1,hk1⟩:=HC1.out (by rintro e;rw[e]at hlt;simp at hlt);obtain⟨b2,o2,q2,hb2,hk2⟩:=HC2.out (by rintro e;rw[e]at hlt;simp at hlt);subst q1 q2;have e1:wr.cell? ⟨b1,o1+k,none⟩=some (.string x):=(HNX.out.cell (p:=⟨b1,o1+k,none⟩) hb1).trans (hk1 k x hx);have e2:wr.cell? ⟨b2,o2+k,none⟩=some (.string x):=(HNX.out.cell (p:=⟨b2,o2+k,none⟩) hb2).trans (hk2 k x hx);have hi1:(k:Int)<(xs.length:Int):=by omega
   have hi0:(0:Int)<=(k:Int):=by omega
   have hN:Hid (∀n,Below w.heap.size w (wr.drewN n)):=by show ∀n,_;exact λn=>below_drewN HNX.out n
   clear hk1 hk2 hx
   go_wp2_with fail
   go_quiet (fail)
   all_goals go_wp2
   all_goals go_roundw
   case rel=>exact⟨k+1,by omega,by go_num,hN.out _⟩
   case measure=>simp[intOf];omega
  ·have hi1:¬(k:Int)<(xs.length:Int):=by omega
   go_wp2;go_ret;exact⟨rfl,HNX.out⟩
set_option maxHeartbeats 4000000 in
set_option maxRecDepth 100000 in
theorem Zbko (x:StepS) (a1 a2 a3 a4:Option Addr) (n1 c1 n2 c2 n3 c3 n4 c4:Nat) (w:World) (h1:IsStrs w (.slice a1 n1 c1) x.args) (h2:IsStrs w (.slice a2 n2 c2) x.lits) (h3:IsStrs w (.slice a3 n3 c3) x.args) (h4:IsStrs w (.slice a4 n4 c4) x.lits):
  Calls prog 188 #[.agg #[.string x.out,.int .i64 x.op,.slice a1 n1 c1,.slice a2 n2 c2,.int .i64 x.n],.agg #[.string x.out,.int .i64 x.op,.slice a3 n3 c3,.slice a4 n4 c4,.int .i64 x.n]] w λe w'=>e = .returned (.bool true)/\Below w.heap.size w w':=by
 have cA:=λw' (hb:Below w.heap.size w w')=>Zmy (.slice a1 n1 c1) (.slice a3 n3 c3) x.args w' (h1.below hb) (h3.below hb)
 have cL:=λw' (hb:Below w.heap.size w w')=>Zmy (.slice a2 n2 c2) (.slice a4 n4 c4) x.lits w' (h2.below hb) (h4.below hb)
 obtain⟨o1,ho1⟩:∃o:Obj,o = .cells #[.string x.out,.int .i64 x.op,.slice a1 n1 c1,.slice a2 n2 c2,.int .i64 x.n] 34:=⟨_,rfl⟩;obtain⟨o2,ho2⟩:∃o:Obj,o = .cells #[.string x.out,.int .i64 x.op,.slice a3 n3 c3,.slice a4 n4 c4,.int .i64 x.n] 34:=⟨_,rfl⟩;have hb0:Below w.heap.size w ((w.alloc o1).alloc o2):=((Below.refl _ _).alloc (Nat.le_refl _) _).alloc (by simp) _;have hs0:((w.alloc o1).alloc o2).heap.size=w.heap.size+2:=by simp
 have hx1:((w.alloc o1).alloc o2).heap[w.heap.size]? =some o1:=by rw[Below.heap_alloc _ _ _ (by simp)];exact alloc_at w o1
 have hx2:((w.alloc o1).alloc o2).heap[w.heap.size+1]? =some o2:=by
  have:=alloc_at (w.alloc o1) o2;simpa using this
 have HX1:Hid (∀W,Below (w.heap.size+2) ((w.alloc o1).alloc o2) W->W.heap[w.heap.size]? =some o1):=by show ∀W,_;exact λW h=>(h.block _ (by omega)).trans hx1
 have HX2:Hid (∀W,Below (w.heap.size+2) ((w.alloc o1).alloc o2) W->W.heap[w.heap.size+1]? =some o2):=by show ∀W,_;exact λW h=>(h.block _ (by omega)).trans hx2
 have HUP:Hid (∀W,Below (w.heap.size+2) ((w.alloc o1).alloc o2) W->Below w.heap.size w W):=by show ∀W,_;exact λW h=>hb0.trans (h.mono (by omega))
 have HS0:=hid hs0;have HB0:=hid hb0;have CA:=hid cA;have CL:=hid cL;clear cA cL hb0 h1 h2 h3 h4 hx1 hx2 hs0;subst ho1 ho2
 go_enter func188,ntmps188
 go_wp2_with fail
 refine(CA.out _ HB0.out).mono ?_;rintro e w2 ⟨rfl,hb2⟩;rw[HS0.out]at hb2;obtain⟨d0,d1,d2,d3,d4,_⟩:=cells5 (HX1.out _ hb2);obtain⟨e0,e1,e2,e3,e4,_⟩:=cells5 (HX2.out _ hb2);have HB2:=hid (HUP.out _ hb2);clear hb2
 go_wp2_with fail
 refine(CL.out _ HB2.out).mono ?_;rintro e w3 ⟨rfl,hb3⟩;have HB3:=hid (HB2.out.trans (hb3.mono HB2.out.size));clear hb3;go_wp2;go_ret;exact⟨rfl,HB3.out⟩
set_option maxHeartbeats 4000000 in
set_option maxRecDepth 100000 in
theorem Zmz (v1 v2:Value) (xs:List StepS) (Av:Nat->Prop) (w:World) (h1:StepsA Av w v1 xs) (h2:StepsA Av w v2 xs):
  Calls prog 187 #[v1,v2,.func (.func 188) #[] #[]] w λe w'=>e = .returned (.bool true)/\Below w.heap.size w w':=by
 obtain⟨a1,c1,q1,_,hm1⟩:=Zboi h1;obtain⟨a2,c2,q2,_,hm2⟩:=Zboi h2;subst q1 q2;have hlm:xs.length<=maxLen:=by omega
 unfold maxLen at hlm;have H1:=hid h1;have H2:=hid h2;clear h1 h2
 go_enter func187,ntmps187
 go_wp2
 go_loopw [17] (λi wr=>∃k:Nat,k<=xs.length/\i = .int .i64 k/\Below w.heap.size w wr)
  (λi _=>xs.length-(intOf i).toNat)
 case atStart=>exact⟨0,Nat.zero_le _,rfl,Below.refl _ _⟩
 case round=>
  obtain⟨k,hk,rfl,hnx⟩:=hrel;have hsz:=hnx.size;have HNX:=hid hnx;clear hnx
  by_cases hlt:k<xs.length
  ·obtain⟨x,hx⟩:∃x,xs[k]? =some x:=⟨xs[k],List.getElem?_eq_getElem hlt⟩
   obtain⟨b1,o1,p1,a1,n1,c1,a2,n2,c2,q1,hb1,hA1,hL1,hk1⟩:=Zbpb H1.out hx;obtain⟨b2,o2,p2,a3,n3,c3,a4,n4,c4,q2,hb2,hA2,hL2,hk2⟩:=Zbpb H2.out hx
   cases q1
   cases q2
   obtain⟨d0,d1,d2,d3,d4⟩:=hk1 _ HNX.out;obtain⟨e0,e1,e2,e3,e4⟩:=hk2 (wr.alloc (.cells #[.string x.out,.int .i64 x.op,.slice a1 n1 c1,.slice a2 n2 c2,.int .i64 x.n] 34)) (HNX.out.alloc hsz _);have HK2:=hid hk2;have hi1:(k:Int)<(xs.length:Int):=by omega
   have hi0:(0:Int)<=(k:Int):=by omega
   have HC:Hid (∀w',Below w.heap.size w w'->Calls prog 188 #[.agg #[.string x.out,.int .i64 x.op,.slice a1 n1 c1,.slice a2 n2 c2,.int .i64 x.n],.agg #[.string x.out,.int .i64 x.op,.slice a3 n3 c3,.slice a4 n4 c4,.int .i64 x.n]] w' λe w''=>e = .returned (.bool true)/\Below w'.heap.size w' w''):=by
    show ∀w',_;exact λw' hb=>Zbko x a1 a2 a3 a4 n1 c1 n2 c2 n3 c3 n4 c4 w' (hA1.isStrs.below hb) (hL1.isStrs.below hb) (hA2.isStrs.below hb) (hL2.isStrs.below hb)
   have HN2:Hid (∀o1 o2,Below w.heap.size w ((wr.alloc o1).alloc o2)):=by show ∀o1 o2,_;exact λo1 o2=>(HNX.out.alloc hsz _).alloc (by simp;omega) _
   clear hk1 hk2 hx hA1 hL1 hA2 hL2
   go_wp2_with fail
   refine(HC.out _ (HN2.out _ _)).mono ?_;rintro e w2 ⟨rfl,hb2⟩;have HN3:=hid ((HN2.out _ _).trans (hb2.mono (by simp;omega)));clear hb2 d0 d1 d2 d3 d4 e0 e1 e2 e3 e4;go_wp2;go_roundw
   case rel=>exact⟨k+1,by omega,by go_num,HN3.out⟩
   case measure=>simp[intOf];omega
  ·have hi1:¬(k:Int)<(xs.length:Int):=by omega
   go_wp2;go_ret;exact⟨rfl,HNX.out⟩
set_option maxHeartbeats 4000000 in
set_option maxRecDepth 100000 in
theorem Zbkn (x:RuleS) (a1 a2 a3 a4 d1 d2 d3 d4:Option Addr) (n1 c1 n2 c2 n3 c3 n4 c4 m1 e1 m2 e2 m3 e3 m4 e4:Nat) (Av:Nat->Prop) (w:World)
  (h1:RuleA Av w [.string x.name,.slice a1 n1 c1,.slice a2 n2 c2,.slice a3 n3 c3,.slice a4 n4 c4] x) (h2:RuleA Av w [.string x.name,.slice d1 m1 e1,.slice d2 m2 e2,.slice d3 m3 e3,.slice d4 m4 e4] x):
  Calls prog 134 #[.agg #[.string x.name,.slice a1 n1 c1,.slice a2 n2 c2,.slice a3 n3 c3,.slice a4 n4 c4],.agg #[.string x.name,.slice d1 m1 e1,.slice d2 m2 e2,.slice d3 m3 e3,.slice d4 m4 e4]] w λe w'=>e = .returned (.bool true)/\Below w.heap.size w w':=by
 obtain⟨_,_,_,_,q1,i1,i2,i3,i4⟩:=h1;obtain⟨_,_,_,_,q2,j1,j2,j3,j4⟩:=h2
 cases q1
 cases q2
 have k1:=λw' (hb:Below w.heap.size w w')=>Zmy (.slice a1 n1 c1) (.slice d1 m1 e1) x.ins w' (i1.isStrs.below hb) (j1.isStrs.below hb)
 have k2:=λw' (hb:Below w.heap.size w w')=>Zmy (.slice a2 n2 c2) (.slice d2 m2 e2) x.outs w' (i2.isStrs.below hb) (j2.isStrs.below hb)
 have k3:=λw' (hb:Below w.heap.size w w')=>Zmy (.slice a3 n3 c3) (.slice d3 m3 e3) x.after w' (i3.isStrs.below hb) (j3.isStrs.below hb)
 have k4:=λw' (hb:Below w.heap.size w w')=>Zmz (.slice a4 n4 c4) (.slice d4 m4 e4) x.steps Av w' (i4.keep (Zpv hb)) (j4.keep (Zpv hb))
 obtain⟨o1,ho1⟩:∃o:Obj,o = .cells #[.string x.name,.slice a1 n1 c1,.slice a2 n2 c2,.slice a3 n3 c3,.slice a4 n4 c4] 37:=⟨_,rfl⟩;obtain⟨o2,ho2⟩:∃o:Obj,o = .cells #[.string x.name,.slice d1 m1 e1,.slice d2 m2 e2,.slice d3 m3 e3,.slice d4 m4 e4] 37:=⟨_,rfl⟩;have hb0:Below w.heap.size w ((w.alloc o1).alloc o2):=((Below.refl _ _).alloc (Nat.le_refl _) _).alloc (by simp) _;have hs0:((w.alloc o1).alloc o2).heap.size=w.heap.size+2:=by simp
 have hx1:((w.alloc o1).alloc o2).heap[w.heap.size]? =some o1:=by rw[Below.heap_alloc _ _ _ (by simp)];exact alloc_at w o1
 have hx2:((w.alloc o1).alloc o2).heap[w.heap.size+1]? =some o2:=by
  have:=alloc_at (w.alloc o1) o2;simpa using this
 have HX1:Hid (∀W,Below (w.heap.size+2) ((w.alloc o1).alloc o2) W->W.heap[w.heap.size]? =some o1):=by show ∀W,_;exact λW h=>(h.block _ (by omega)).trans hx1
 have HX2:Hid (∀W,Below (w.heap.size+2) ((w.alloc o1).alloc o2) W->W.heap[w.heap.size+1]? =some o2):=by show ∀W,_;exact λW h=>(h.block _ (by omega)).trans hx2
 have HUP:Hid (∀W,Below (w.heap.size+2) ((w.alloc o1).alloc o2) W->Below w.heap.size w W):=by show ∀W,_;exact λW h=>hb0.trans (h.mono (by omega))
 have HS0:=hid hs0;have HB0:=hid hb0;have K1:=hid k1;have K2:=hid k2;have K3:=hid k3;have K4:=hid k4;clear k1 k2 k3 k4 hb0 i1 i2 i3 i4 j1 j2 j3 j4 hx1 hx2 hs0;subst ho1 ho2
 go_enter func134,ntmps134
 go_wp2_with fail
 refine(K1.out _ HB0.out).mono ?_;rintro e w2 ⟨rfl,hb2⟩;rw[HS0.out]at hb2;obtain⟨d0,d1,d2,d3,d4,_⟩:=cells5 (HX1.out _ hb2);obtain⟨e0,e1,e2,e3,e4,_⟩:=cells5 (HX2.out _ hb2);have HW2:=hid hb2;have hs2:=hb2.size;rw[HS0.out]at hs2;clear hb2
 go_wp2_with fail
 refine(K2.out _ (HUP.out _ HW2.out)).mono ?_;rintro e w3 ⟨rfl,hb3⟩;replace hb3:=HW2.out.trans (hb3.mono hs2);clear d0 d1 d2 d3 d4 e0 e1 e2 e3 e4 hs2;obtain⟨d0,d1,d2,d3,d4,_⟩:=cells5 (HX1.out _ hb3);obtain⟨e0,e1,e2,e3,e4,_⟩:=cells5 (HX2.out _ hb3);have HW3:=hid hb3;have hs3:=hb3.size;rw[HS0.out]at hs3;clear hb3
 go_wp2_with fail
 refine(K3.out _ (HUP.out _ HW3.out)).mono ?_;rintro e w4 ⟨rfl,hb4⟩;replace hb4:=HW3.out.trans (hb4.mono hs3);clear d0 d1 d2 d3 d4 e0 e1 e2 e3 e4 hs3;obtain⟨d0,d1,d2,d3,d4,_⟩:=cells5 (HX1.out _ hb4);obtain⟨e0,e1,e2,e3,e4,_⟩:=cells5 (HX2.out _ hb4);have HW4:=hid (HUP.out _ hb4);clear hb4
 go_wp2_with fail
 refine(K4.out _ HW4.out).mono ?_;rintro e w5 ⟨rfl,hb5⟩;have HW5:=hid (HW4.out.trans (hb5.mono HW4.out.size));clear hb5;go_wp2;go_ret;exact⟨rfl,HW5.out⟩
set_option maxHeartbeats 4000000 in
set_option maxRecDepth 100000 in
theorem Zmx (v1 v2:Value) (xs:List RuleS) (Av:Nat->Prop) (w:World) (h1:RulesA Av w v1 xs) (h2:RulesA Av w v2 xs):
  Calls prog 133 #[v1,v2,.func (.func 134) #[] #[]] w λe w'=>e = .returned (.bool true)/\Below w.heap.size w w':=by
 obtain⟨a1,c1,q1,_,hm1⟩:=Zbji h1;obtain⟨a2,c2,q2,_,hm2⟩:=Zbji h2;subst q1 q2;have hlm:xs.length<=maxLen:=by omega
 unfold maxLen at hlm;have H1:=hid h1;have H2:=hid h2;clear h1 h2
 go_enter func133,ntmps133
 go_wp2
 go_loopw [17] (λi wr=>∃k:Nat,k<=xs.length/\i = .int .i64 k/\Below w.heap.size w wr)
  (λi _=>xs.length-(intOf i).toNat)
 case atStart=>exact⟨0,Nat.zero_le _,rfl,Below.refl _ _⟩
 case round=>
  obtain⟨k,hk,rfl,hnx⟩:=hrel;have hsz:=hnx.size;have HNX:=hid hnx;clear hnx
  by_cases hlt:k<xs.length
  ·obtain⟨x,hx⟩:∃x,xs[k]? =some x:=⟨xs[k],List.getElem?_eq_getElem hlt⟩
   obtain⟨b1,o1,p1,a1,n1,c1,a2,n2,c2,a3,n3,c3,a4,n4,c4,q1,hb1,hA1,hk1⟩:=Zbjs H1.out hx;obtain⟨b2,o2,p2,g1,m1,r1,g2,m2,r2,g3,m3,r3,g4,m4,r4,q2,hb2,hA2,hk2⟩:=Zbjs H2.out hx
   cases q1
   cases q2
   obtain⟨d0,d1,d2,d3,d4⟩:=hk1 _ HNX.out;obtain⟨e0,e1,e2,e3,e4⟩:=hk2 (wr.alloc (.cells #[.string x.name,.slice a1 n1 c1,.slice a2 n2 c2,.slice a3 n3 c3,.slice a4 n4 c4] 37)) (HNX.out.alloc hsz _);have hi1:(k:Int)<(xs.length:Int):=by omega
   have hi0:(0:Int)<=(k:Int):=by omega
   have HC:Hid (∀w',Below w.heap.size w w'->Calls prog 134 #[.agg #[.string x.name,.slice a1 n1 c1,.slice a2 n2 c2,.slice a3 n3 c3,.slice a4 n4 c4],.agg #[.string x.name,.slice g1 m1 r1,.slice g2 m2 r2,.slice g3 m3 r3,.slice g4 m4 r4]] w' λe w''=>e = .returned (.bool true)/\Below w'.heap.size w' w''):=by
    show ∀w',_;exact λw' hb=>Zbkn x a1 a2 a3 a4 g1 g2 g3 g4 n1 c1 n2 c2 n3 c3 n4 c4 m1 r1 m2 r2 m3 r3 m4 r4 Av w' (hA1.keep (Zpv hb)) (hA2.keep (Zpv hb))
   have HN2:Hid (∀o1 o2,Below w.heap.size w ((wr.alloc o1).alloc o2)):=by show ∀o1 o2,_;exact λo1 o2=>(HNX.out.alloc hsz _).alloc (by simp;omega) _
   clear hk1 hk2 hx hA1 hA2
   go_wp2_with fail
   refine(HC.out _ (HN2.out _ _)).mono ?_;rintro e w2 ⟨rfl,hb2⟩;have HN3:=hid ((HN2.out _ _).trans (hb2.mono (by simp;omega)));clear hb2 d0 d1 d2 d3 d4 e0 e1 e2 e3 e4;go_wp2;go_roundw
   case rel=>exact⟨k+1,by omega,by go_num,HN3.out⟩
   case measure=>simp[intOf];omega
  ·have hi1:¬(k:Int)<(xs.length:Int):=by omega
   go_wp2;go_ret;exact⟨rfl,HNX.out⟩
theorem Zmv (v1 v2:Value) (xs:List RuleS) (Av:Nat->Prop) (w:World) (h1:RulesA Av w v1 xs) (h2:RulesA Av w v2 xs):
  Calls prog 79 #[v1,v2] w λe w'=>e = .returned (.bool true)/\Below w.heap.size w w':=by
 have c:=Zmx v1 v2 xs Av w h1 h2;clear h1 h2
 go_enter func79,ntmps79
 go_wp2_with fail
 refine c.mono ?_;rintro e w2 ⟨rfl,hb2⟩;go_wp2;go_ret;exact⟨rfl,hb2⟩
theorem Zez (w:World) (hG:Glob w):Calls prog 74 #[] w λe w'=>e = .returned (.bool true)/\Below w.heap.size w w':=by
 have c:=Zfd w hG;clear hG
 go_enter func74,ntmps74
 go_wp2_with fail
 refine c.mono ?_;rintro e w2 ⟨rfl,hb2⟩;go_wp2;go_ret;exact⟨rfl,hb2⟩
structure BegF (w':World) (bl ol p3 p5 p7 g o:Nat) (x1 x2 x3 x4:Value) (sg so:Nat) (z1 z2:Value) (lg lo:Nat):Prop where
 l1k:w'.cell? ⟨bl,ol+3,none⟩=some (.int .i64 2)
 l1t:w'.cell? ⟨bl,ol+5,none⟩=some (.string ⟨#[65]⟩)
 l2a:w'.cell? ⟨bl,ol+7,none⟩=some (.int .i64 9)
 l3k:w'.cell? ⟨bl,ol+9,none⟩=some (.int .i64 4)
 e3:w'.cell? ⟨p3,0,none⟩=some (.int .i64 0)
 e5:w'.cell? ⟨p5,0,none⟩=some (.int .i64 0)
 e7:w'.cell? ⟨p7,0,none⟩=some (.int .i64 1)
 e7a:w'.cell? ⟨p7,1,none⟩=some (.int .i64 5)
 r0:w'.cell? ⟨g,o,none⟩=some (.string ⟨#[114]⟩)
 r1:w'.cell? ⟨g,o+1,none⟩=some x1
 r2:w'.cell? ⟨g,o+2,none⟩=some x2
 r3:w'.cell? ⟨g,o+3,none⟩=some x3
 r4:w'.cell? ⟨g,o+4,none⟩=some x4
 s0:w'.cell? ⟨sg,so,none⟩=some (.string ⟨#[120]⟩)
 s1:w'.cell? ⟨sg,so+1,none⟩=some (.int .i64 7)
 s2:w'.cell? ⟨sg,so+2,none⟩=some z1
 s3:w'.cell? ⟨sg,so+3,none⟩=some z2
 s4:w'.cell? ⟨sg,so+4,none⟩=some (.int .i64 0)
 q0:w'.cell? ⟨lg,lo,none⟩=some (.string ⟨#[113,10]⟩)
theorem Zpb:StepFit st2:=⟨by decide,by intro l hl;simp[st2]at hl;subst hl;decide,by decide,by rw[Zia];decide⟩
theorem Zpa:RuleFit (Zbmg rl2):=by
 rw[Zhu];refine⟨by decide,?_,by rw[Zhs];decide⟩;intro x hx;simp only[rl3,List.mem_cons,List.not_mem_nil,or_false]at hx;subst hx;exact Zpb
theorem Znl:FewR rl2:=by
 refine⟨by decide,by decide,by decide,by decide,?_⟩;intro x hx;simp only[rl2,List.mem_cons,List.not_mem_nil,or_false]at hx;subst hx
 decide
set_option maxHeartbeats 8000000 in
set_option maxRecDepth 100000 in
theorem Zfb (w:World) (hg:GP w.heap.size w):Calls prog 40 #[] w λe w'=>e = .returned (.bool true)/\Below w.heap.size w w':=by
 have c1:∀W,Calls prog 72 #[.string ⟨t1.toArray⟩] W λe w'=>AllE t1 e w'/\Below W.heap.size W w':=λW=>by
  have:=Zxb ⟨t1.toArray⟩ W (by decide);simpa using this
 have c2:∀W,Below w.heap.size w W->Calls prog 73 #[.string ⟨t2.toArray⟩] W λe w'=>Zas t2 W w' e/\Below W.heap.size W w':=λW hb=>by
  have:=Zoc ⟨t2.toArray⟩ W (by decide) ((hg.below hb).up hb.size);simpa using this
 have c3:∀W,Below w.heap.size w W->Calls prog 73 #[.string ⟨t3.toArray⟩] W λe w'=>e = .returned (.tuple #[.slice none 0 0,.agg #[.int .i64 1,.int .i64 5]])/\Below W.heap.size W w':=λW hb=>by
  have:=Zoc ⟨t3.toArray⟩ W (by decide) ((hg.below hb).up hb.size);refine Calls.mono (by simpa using this) ?_;rintro e w' ⟨he,hb'⟩;unfold Zas at he;rw[Zhp]at he;exact⟨he,hb'⟩
 have c4:∀W,Below w.heap.size w W->Calls prog 74 #[] W λe w'=>e = .returned (.bool true)/\Below W.heap.size W w':=λW hb=>Zez W (hg.below hb).glob
 have c5:∀W,Calls prog 75 #[.string ⟨#[97,34,10]⟩] W λe w'=>e = .returned (.string ⟨#[34,97,92,34,92,110,34]⟩)/\Below W.heap.size W w':=λW=>by
  have:=Zbfy ⟨#[97,34,10]⟩ W (by decide);rw[show(⟨#[97,34,10]⟩:ByteArray).data.toList = [97,34,10]from rfl,Zhr]at this;exact this
 have c7:∀W,Below w.heap.size w W->Calls prog 77 #[.string ⟨#[99,111,117,110,116]⟩] W λe w'=>e = .returned (.int .i64 4)/\W=w':=λW hb=>by
  have:=Zbcs ⟨#[99,111,117,110,116]⟩ w.heap.size W (hg.below hb);rw[show(⟨#[99,111,117,110,116]⟩:ByteArray).data.toList = [99,111,117,110,116]from rfl,c_op]at this;exact this
 have c8:∀W,Below w.heap.size w W->Calls prog 78 #[.int .i64 4] W λe w'=>e = .returned (.string ⟨#[99,111,117,110,116]⟩)/\W=w':=λW hb=>by
  have:=Zbcp 4 w.heap.size W (hg.below hb);rw[Zhq]at this;exact this
 have C1:=hid c1;have C2:=hid c2;have C3:=hid c3;have C4:=hid c4;have C5:=hid c5;have C7:=hid c7;have C8:=hid c8;have HG:=hid hg;clear c1 c2 c3 c4 c5 c7 c8 hg
 go_enter func40,ntmps40
 go_wp2_with fail
 refine(C1.out _).mono ?_;rintro e w1 ⟨he1,hb1⟩;unfold AllE at he1;rw[Zhn]at he1;obtain⟨v1,rfl,hw1⟩:=he1;obtain⟨vl,cl,hv,_,_,hl1⟩:=id hw1;obtain⟨bl,ol,rfl,hbl,hcl⟩:=hl1 (by simp[Zbtf]);subst hv;have HW1:=hid hcl;have HB1:=hid hb1;clear hw1 hl1 hb1 hcl
 go_wp2_with fail
 refine(C2.out _ (HB1.out.alloc HB1.out.size _)).mono ?_;rintro e w2 ⟨he2,hb2⟩;unfold Zas at he2;rw[Zho]at he2;obtain⟨v2,rfl,hR⟩:=he2;obtain⟨g,o,cap,a1,n1,k1,a2,n2,k2,a3,n3,k3,a4,n4,k4,hv,hgl,hRu,hrc⟩:=Zbjs hR (k:=0) (x:=rl2) rfl;subst hv;obtain⟨_,_,_,_,q,hI,hO,hF,hS⟩:=id hRu
 cases q
 obtain⟨sg,so,scap,b1,m1,e1,b2,m2,e2,hv,hsl,hA,hL,hsc⟩:=Zbpb hS (k:=0) (x:=st2) rfl;obtain⟨rfl,rfl⟩:a4=some ⟨sg,so,none⟩/\n4=1:=by cases hv;exact⟨rfl,rfl⟩
 obtain⟨la,lc,hv,_,_,hl3⟩:=Zbqh hL;obtain⟨lg,lo,hla,hll,hlc⟩:=hl3 (by simp[st2]);obtain⟨rfl,rfl⟩:b2=some ⟨lg,lo,none⟩/\m2=1:=by cases hv;exact⟨hla,rfl⟩
 obtain⟨ia,ic,hv,_,_,_⟩:=Zbqh hI;obtain rfl:n1=2:=by cases hv;rfl
 have HR:=hid hR;have HA:=hid hA;have HL:=hid hL;have HRC:=hid hrc;have HSC:=hid hsc;have HLC:=hid (hlc 0 _ rfl);have hs2:=hb2.size;simp at hs2;have hbk3:=(hb2.block w1.heap.size (by simp)).trans (alloc_at w1 _);have HB3:=hid hbk3;have HN2:=hid ((HB1.out.alloc HB1.out.size _).trans (hb2.mono (by have:=HB1.out.size;simp;omega)));have HM2:Hid (Below w1.heap.size w1 w2):=((Below.refl _ _).alloc (Nat.le_refl _) _).trans (hb2.mono (by simp));clear hR hRu hI hO hF hS hA hL hl3 hlc hrc hsc hb2 hbk3
 go_wp2_with fail
 refine(C3.out _ (HN2.out.alloc HN2.out.size _)).mono ?_;rintro e w3 ⟨rfl,hb3⟩;have hs3:=hb3.size;simp at hs3;have hbk5:=(hb3.block w2.heap.size (by simp)).trans (alloc_at w2 _);have HB5:=hid hbk5;have HM3:Hid (Below w2.heap.size w2 w3):=((Below.refl _ _).alloc (Nat.le_refl _) _).trans (hb3.mono (by simp));have HN3:=hid (HN2.out.trans (HM3.out.mono HN2.out.size));clear hb3 hbk5;have hF:∀W,Below (w3.heap.size+1) (w3.alloc (.cells #[.int .i64 1,.int .i64 5] 110)) W->BegF W bl ol w1.heap.size w2.heap.size w3.heap.size g o (.slice a1 2 k1) (.slice a2 n2 k2) (.slice a3 n3 k3) (.slice (some ⟨sg,so,none⟩) 1 k4) sg so (.slice b1 m1 e1) (.slice (some ⟨lg,lo,none⟩) 1 e2) lg lo:=by
  intro W hW;have u3:Below w3.heap.size w3 W:=((Below.refl _ _).alloc (Nat.le_refl _) _).trans (hW.mono (by omega));have u2:Below w2.heap.size w2 W:=HM3.out.trans (u3.mono (by omega));have u1:Below w1.heap.size w1 W:=HM2.out.trans (u2.mono (by omega));have x7:W.heap[w3.heap.size]? =some (.cells #[.int .i64 1,.int .i64 5] 110):=(hW.block _ (by omega)).trans (alloc_at w3 _);have x5:=(u3.block _ (by omega)).trans HB5.out;have x3:=(u2.block _ (by omega)).trans HB3.out;obtain⟨y7,y7a,_,_⟩:=Zih x7;obtain⟨y5,_,_,_⟩:=Zih x5;obtain⟨y3,_,_,_⟩:=Zih x3;have hw:∀(j:Nat) r,(Zbtf [(1,0,[97]),(2,2,[65]),(3,9,[59]),(4,10,[])])[j]? =some r->∀(i:Nat) u,r[i]? =some u->W.cell? ⟨bl,ol+j*3+i,none⟩=some u:=λj r hr i u hu=>(u1.cell (p:=⟨bl,ol+j*3+i,none⟩) hbl).trans (HW1.out j r hr i u hu)
  obtain⟨r0,r1,r2,r3,r4⟩:=HRC.out W u2;obtain⟨s0,s1,s2,s3,s4⟩:=HSC.out W u2;exact⟨hw 1 _ rfl 0 _ rfl,hw 1 _ rfl 2 _ rfl,hw 2 _ rfl 1 _ rfl,hw 3 _ rfl 0 _ rfl,y3,y5,y7,y7a,by have h:=r0;simp only[Nat.zero_mul,Nat.add_zero]at h;exact h,by have h:=r1;simp only[Nat.zero_mul,Nat.add_zero]at h;exact h,by have h:=r2;simp only[Nat.zero_mul,Nat.add_zero]at h;exact h,by have h:=r3;simp only[Nat.zero_mul,Nat.add_zero]at h;exact h,by have h:=r4;simp only[Nat.zero_mul,Nat.add_zero]at h;exact h,by have h:=s0;simp only[Nat.zero_mul,Nat.add_zero]at h;exact h,by have h:=s1;simp only[Nat.zero_mul,Nat.add_zero]at h;exact h,by have h:=s2;simp only[Nat.zero_mul,Nat.add_zero]at h;exact h,by have h:=s3;simp only[Nat.zero_mul,Nat.add_zero]at h;exact h,by have h:=s4;simp only[Nat.zero_mul,Nat.add_zero]at h;exact h,(u2.cell (p:=⟨lg,lo,none⟩) hll).trans (by have h:=HLC.out;simp only[Nat.add_zero]at h;exact h)⟩
 have hUP:∀W,Below (w3.heap.size+1) (w3.alloc (.cells #[.int .i64 1,.int .i64 5] 110)) W->Below w.heap.size w W:=λW hW=>(HN3.out.alloc HN3.out.size _).trans (hW.mono (by have:=HN3.out.size;omega))
 have hU2:∀W,Below (w3.heap.size+1) (w3.alloc (.cells #[.int .i64 1,.int .i64 5] 110)) W->Below w2.heap.size w2 W:=λW hW=>HM3.out.trans ((((Below.refl _ _).alloc (Nat.le_refl _) _).trans (hW.mono (by omega))).mono (by omega))
 have hb0:Below (w3.heap.size+1) (w3.alloc (.cells #[.int .i64 1,.int .i64 5] 110)) (w3.alloc (.cells #[.int .i64 1,.int .i64 5] 110)):=Below.refl _ _;have HFF:=hid hF;have HUP:=hid hUP;have HU2:=hid hU2;have HC0:=hid hb0;obtain⟨f1,f2,f3,f4,f5,f6,f7,f8,f9,f10,f11,f12,f13,f14,f15,f16,f17,f18,f19⟩:=hF _ hb0;clear hF hUP hU2 hb0
 go_wp2_with fail
 refine(C4.out _ (HUP.out _ HC0.out)).mono ?_;rintro e w4 ⟨rfl,hb4⟩;have HC4:=hid (HC0.out.trans (hb4.mono (by simp)));clear hb4 f1 f2 f3 f4 f5 f6 f7 f8 f9 f10 f11 f12 f13 f14 f15 f16 f17 f18 f19;obtain⟨f1,f2,f3,f4,f5,f6,f7,f8,f9,f10,f11,f12,f13,f14,f15,f16,f17,f18,f19⟩:=HFF.out _ HC4.out
 go_wp2_with fail
 refine(C5.out _).mono ?_;rintro e w5 ⟨rfl,hb5⟩;have HC5:=hid (HC4.out.trans (hb5.mono (by have:=HC4.out.size;simp at this;omega)));clear hb5 f1 f2 f3 f4 f5 f6 f7 f8 f9 f10 f11 f12 f13 f14 f15 f16 f17 f18 f19;obtain⟨f1,f2,f3,f4,f5,f6,f7,f8,f9,f10,f11,f12,f13,f14,f15,f16,f17,f18,f19⟩:=HFF.out _ HC5.out
 go_wp2_with fail
 have c6:=Zbez (.slice (some ⟨g,o,none⟩) 1 cap) [rl2] [Zbmg rl2] (λb=>b<(w1.alloc (.cells #[.int .i64 0,.int .i64 0] 110)).heap.size) w.heap.size w5 (HG.out.below (HUP.out _ HC5.out)) (HUP.out _ HC5.out).size (HR.out.keep (Zpv (HU2.out _ HC5.out))) (by decide) (by decide) (λx hx=>by simp at hx;subst hx;exact Znl) (λy hy=>by simp at hy;subst hy;exact Zpa) (by rw[Zht];decide) (Zbmu _ _ (by decide));rw[Zht]at c6;refine c6.mono ?_;clear c6;rintro e w6 ⟨rfl,hb6⟩;have HC6:=hid (HC5.out.trans (hb6.mono (by have:=HC5.out.size;simp at this;omega)));clear hb6 f1 f2 f3 f4 f5 f6 f7 f8 f9 f10 f11 f12 f13 f14 f15 f16 f17 f18 f19;obtain⟨f1,f2,f3,f4,f5,f6,f7,f8,f9,f10,f11,f12,f13,f14,f15,f16,f17,f18,f19⟩:=HFF.out _ HC6.out
 go_wp2_with fail
 refine(C7.out _ (HUP.out _ HC6.out)).mono ?_;rintro e w7 ⟨rfl,rfl⟩
 go_wp2_with fail
 refine(C8.out _ (HUP.out _ HC6.out)).mono ?_;rintro e w8 ⟨rfl,rfl⟩
 go_wp2_with fail
 have c9:=Zbmr (.slice (some ⟨g,o,none⟩) 1 cap) [rl2] [Zbmg rl2] (λb=>b<(w1.alloc (.cells #[.int .i64 0,.int .i64 0] 110)).heap.size) w6 (HR.out.keep (Zpv (HU2.out _ HC6.out))) (by decide) (λx hx=>by simp at hx;subst hx;exact Znl) (Zbmu _ _ (by decide));refine c9.mono ?_;clear c9;rintro e w7 ⟨y1,y2,y3,rfl,hO7,hb7⟩;have HO7:=hid (hO7.rulesA.mono (Av':=λb=>b<w.heap.size) λb _ e=>by have:=(HUP.out _ HC6.out).size;omega);clear hO7;have HC7:=hid (HC6.out.trans (hb7.mono (by have:=HC6.out.size;simp at this;omega)));clear hb7 f1 f2 f3 f4 f5 f6 f7 f8 f9 f10 f11 f12 f13 f14 f15 f16 f17 f18 f19;obtain⟨f1,f2,f3,f4,f5,f6,f7,f8,f9,f10,f11,f12,f13,f14,f15,f16,f17,f18,f19⟩:=HFF.out _ HC7.out
 go_wp2_with fail
 have c9:=Zbmr (.slice (some ⟨g,o,none⟩) 1 cap) [rl2] [Zbmg rl2] (λb=>b<(w1.alloc (.cells #[.int .i64 0,.int .i64 0] 110)).heap.size) w7 (HR.out.keep (Zpv (HU2.out _ HC7.out))) (by decide) (λx hx=>by simp at hx;subst hx;exact Znl) (Zbmu _ _ (by decide));refine c9.mono ?_;clear c9;rintro e w8 ⟨q1,q2,q3,rfl,hO8,hb8⟩;have c10:=Zmv _ _ [Zbmg rl2] (λb=>b<w.heap.size) w8 (HO7.out.keep (Zpv hb8)) (hO8.rulesA.mono (Av':=λb=>b<w.heap.size) λb _ e=>by have:=(HUP.out _ HC7.out).size;omega);clear hO8;have HC8:=hid (HC7.out.trans (hb8.mono (by have:=HC7.out.size;simp at this;omega)));clear hb8 f1 f2 f3 f4 f5 f6 f7 f8 f9 f10 f11 f12 f13 f14 f15 f16 f17 f18 f19;obtain⟨f1,f2,f3,f4,f5,f6,f7,f8,f9,f10,f11,f12,f13,f14,f15,f16,f17,f18,f19⟩:=HFF.out _ HC8.out
 go_wp2_with fail
 refine c10.mono ?_;clear c10;rintro e w9 ⟨rfl,hb9⟩;have HC9:=hid (HC8.out.trans (hb9.mono (by have:=HC8.out.size;simp at this;omega)));clear hb9 f1 f2 f3 f4 f5 f6 f7 f8 f9 f10 f11 f12 f13 f14 f15 f16 f17 f18 f19;obtain⟨f1,f2,f3,f4,f5,f6,f7,f8,f9,f10,f11,f12,f13,f14,f15,f16,f17,f18,f19⟩:=HFF.out _ HC9.out
 go_wp2_with fail
 have c11:=Zboa st2 (.slice b1 m1 e1) (.slice (some ⟨lg,lo,none⟩) 1 e2) w.heap.size w9 (HG.out.below (HUP.out _ HC9.out)) (HUP.out _ HC9.out).size (StrsA.isStrs (show StrsA _ w9 (.slice b1 m1 e1) st2.args from RowA.keep HA.out (Zpv (HU2.out _ HC9.out)))) (StrsA.isStrs (show StrsA _ w9 (.slice (some ⟨lg,lo,none⟩) 1 e2) st2.lits from RowA.keep HL.out (Zpv (HU2.out _ HC9.out)))) Zpb;rw[Zia]at c11;refine Calls.mono c11 ?_;clear c11;rintro e w10 ⟨rfl,hb10⟩;have HC10:=hid (HC9.out.trans (hb10.mono (by have:=HC9.out.size;simp at this;omega)));clear hb10;go_wp2;go_ret;exact⟨rfl,HUP.out _ HC10.out⟩
open Go.ChangeShapes Go.WideShapes Go.ChangeAt
theorem Zin {H:Type} {enc:TypeId×Value->H} {P:Program} {w:World} {base:Nat} {sp:Nat->Bool} {held:Bool} {fuel:Nat} {t e:TypeId} {n:Nat} {cs:List Value} {zs:List (List UInt8)} {p:List MemPlace}
  (ht:P.underlying t=some (.array n e)) (he:P.underlying e=some .string) (hce:P.cellsOf e=1) (hct:P.cellsOf t=n)
  (h:DataW.trod enc P w base sp held fuel t cs=some (.agg (zs.map λz=> .lit (.string z)),p)):∀(i:Nat) z,zs[i]? =some z->cs[i]? =some (.string ⟨z.toArray⟩):=by
 cases fuel with
 | zero=>simp[DataW.trod]at h
 | succ fuel=>
  simp only[DataW.trod,ht,hce,hct,Nat.mul_one]at h;split at h
  ·rename_i hl
   obtain⟨xs,hm,hx⟩:=Option.map_eq_some_iff.1 h;have hxs:xs.map (·.1)=zs.map λz=>(DataW.lit (.string z):DataW H):=by
    have:=congrArg Prod.fst hx;simpa using this
   have hxl:xs.length=n:=by simpa using Lib.mapM_length hm
   have hzl:zs.length=n:=by
    have:=congrArg List.length hxs;simp at this;omega
   intro i z hz;have hi:i<n:=by rw[<-hzl];exact(List.getElem?_eq_some_iff.1 hz).1
   obtain⟨b,hb,hf⟩:=Lib.mapM_at hm i i (by simp[hi]);obtain⟨s,hc,rfl,_⟩:=DataW.trod_string he hf;have h1:cs[i]? =some (.string s):=by
    have:=congrArg (·[0]?) hc;simpa[List.getElem?_take,List.getElem?_drop]using this
   have h2:(xs.map (·.1))[i]? =some (DataW.lit (.string s.data.toList):DataW H):=by simp[hb]
   rw[hxs]at h2;simp only[List.getElem?_map,hz,Option.map_some,Option.some.injEq,DataW.lit.injEq,Lit.string.injEq]at h2;rw[h1,h2]
  ·cases h
theorem Zqt {W:World} (hL:laidMetH prog Zwu W) (hS:W.ShapedOpen prog):GP W.heap.size W:=by
 have hg:=Zqr hL hS;obtain⟨m,hm⟩:=hg.max;obtain⟨t1,p1,h1⟩:=hg.es;obtain⟨t2,p2,h2⟩:=hg.er;rw[MakeChecks.laidMetH_plain _ _ _ (by kernel_rfl)]at hL;obtain⟨g',t',cs,fuel,p,hg',ht',hv,hd⟩:=Lib.laidMet.reads hL (show(_,_)∈Zwu from .tail _ (.tail _ (.tail _ (.tail _ (.tail _ (.tail _ (.head _)))))));obtain rfl:0=g':=Option.some.inj ((show _=some 0 by kernel_rfl:prog.globalNamed _=some 0).symm.trans hg');obtain rfl:=Option.some.inj ((show(prog.globals[0]?).map (·.type)=some 170 by kernel_rfl).symm.trans ht');have hc:=Zin underlying170 underlying9 (by kernel_rfl) (by kernel_rfl) (zs:=Zbcr) hd;have ho:∀(k:Nat) x,Zbcr[k]? =some x->W.cell? ⟨0,k,none⟩=some (.string ⟨x.toArray⟩):=by
  intro k x hx;have:=World.var?_cell hg' hv k;rw[this];have:=hc k x hx;simpa using this
 exact⟨hg,ho,Zie hm,hg.top,Zie h1,Zie h2,Zie (ho 0 _ rfl)⟩
section
variable {P:Program} {ops:Array Oper} {Q:Exit->Act->World->Prop} {md:Region.Mode} {S:World->Prop}
theorem tkH (i:Nat) {oi:Oper} {v:Value} {fuel:Nat} {listed:Array Bool} {a:Act} {w:World} (y:∀w,S w->(execOp a.eval oi).run P w = .ok (.value v) w)
  (h:wpAnyH P md ops Q S fuel (listed.setIfInBounds i true) (a.put oi.dst v) w)
  (hi:ops[i]? =some oi:=by simp only[List.getElem?_toArray,List.getElem?_cons_succ,List.getElem?_cons_zero];rfl)
  (hs:Region.noSelect ops=true:=by kernel_rfl) (hf:Region.free md ops listed i=true:=by kernel_rfl) (hr:(Region.ready md ops listed).contains i=true:=by kernel_rfl)
  (hQ:∀c a w,Q (.panic c) (a.put oi.dst v) w->Q (.panic c) a w:=by exact λ_ _ _ h=>h) (hw:Region.wanted oi (yielded ops a.tmps)=true:=by rfl) (hS:S w:=by assumption):wpAnyH P md ops Q S (fuel+1) listed a w:=
 wpAnyH_take hi hs hf hr hQ (Or.inl ⟨hw,y⟩) hS h
theorem tkK (i:Nat) {oi:Oper} {v:Value} {fuel:Nat} {listed:Array Bool} {a:Act} {w:World} (h:wpAnyH P md ops Q S fuel (listed.setIfInBounds i true) (a.put oi.dst v) w)
  (hi:ops[i]? =some oi:=by simp only[List.getElem?_toArray,List.getElem?_cons_succ,List.getElem?_cons_zero];rfl)
  (y:∀w,S w->(execOp a.eval oi).run P w = .ok (.value v) w:=by intro w hSw;go_simp;try with_reducible rfl)
  (hs:Region.noSelect ops=true:=by kernel_rfl) (hf:Region.free md ops listed i=true:=by kernel_rfl) (hr:(Region.ready md ops listed).contains i=true:=by kernel_rfl)
  (hQ:∀c a w,Q (.panic c) (a.put oi.dst v) w->Q (.panic c) a w:=by exact λ_ _ _ h=>h) (hw:Region.wanted oi (yielded ops a.tmps)=true:=by rfl) (hS:S w:=by assumption):wpAnyH P md ops Q S (fuel+1) listed a w:=
 wpAnyH_take hi hs hf hr hQ (Or.inl ⟨hw,y⟩) hS h
theorem rdH (rs:List Nat) {fuel:Nat} {listed:Array Bool} {a:Act} {w:World} (h:AllReadyH P md ops Q S fuel listed a w rs) (hr:Region.ready md ops listed=rs:=by kernel_rfl) (hne:rs≠[]:=by simp):wpAnyH P md ops Q S (fuel+1) listed a w:=wpAnyH_ready hr hne h
theorem rcH {fuel:Nat} {listed:Array Bool} {a:Act} {w:World} {i:Nat} {o:Oper} {rs:List Nat}
 (h:∀K':Act->World->Prop,Shut (∀a w,S w->(S w->wpAnyH P md ops Q S fuel (listed.setIfInBounds i true) a w)->K' a w)->if Region.wanted o (yielded ops a.tmps)=true then Oper.wp P o a w K' Q else K' (a.put o.dst undef) w)
 (hs:AllReadyH P md ops Q S fuel listed a w rs) (ho:ops[i]? =some o:=by simp only[List.getElem?_toArray,List.getElem?_cons_succ,List.getElem?_cons_zero];rfl):AllReadyH P md ops Q S fuel listed a w (i::rs):=AllReadyH.cons ho h hs
end
end Go.Proofs.YtcpjfpdecklkgaaGreatDoor
namespace Go.Proofs.YtcpjfpdecklkgaaGreatDoor
open Go.Lib (hid)
open Go.Proofs.Tryz
open Go.RowKit Go.Maps
abbrev MapL:=List (ByteArray×Value)
def Zrt (v:Value):Option (DataW Value×List MemPlace):=some (.held v,[])
def litS (k:ByteArray):Lit:= .string k.data.toList
def hasM (m:MapL) (k:ByteArray):Bool:=m.any λp=>decide (p.1=k)
def getM (m:MapL) (k:ByteArray) (z:Value):Value:=((m.find? λp=>decide (p.1=k)).map (·.2)).getD z
def putM (m:MapL) (k:ByteArray) (v:Value):MapL:=(k,v)::m.filter λp=> !decide (p.1=k)
theorem Zgy {a b:ByteArray} (h:a.data.toList=b.data.toList):a=b:=by
 cases a;cases b;simp only[ByteArray.mk.injEq]at h⊢;exact Array.ext' h
theorem Zxu {a b:ByteArray} (h:litS a=litS b):a=b:=by unfold litS at h;injection h with h;exact Zgy h
theorem Zrm (m:MapL) (k k':ByteArray) (v:Value):hasM (putM m k v) k'=(decide (k=k')||hasM m k'):=by
 unfold hasM putM;rw[List.any_cons,List.any_filter]
 by_cases e:k=k'
 ·simp[e]
 ·rw[decide_eq_false e,Bool.false_or,Bool.false_or]
  congr 1
  funext p
  by_cases h:p.1=k'
  ·have:¬p.1=k:=λe'=>e (e'.symm.trans h)
   rw[decide_eq_false this];rfl
  ·rw[decide_eq_false h,Bool.and_false]
theorem Zqj (m:MapL) (k:ByteArray) (v z:Value):getM (putM m k v) k z=v:=by
 unfold getM putM;rw[List.find?_cons_of_pos (by simp)];rfl
theorem Zqi (m:MapL) {k k':ByteArray} (v z:Value) (h:¬k=k'):getM (putM m k v) k' z=getM m k' z:=by
 unfold getM putM;rw[List.find?_cons_of_neg (by simpa using h),List.find?_filter]
 congr 3
 funext p
 by_cases h2:p.1=k'
 ·have:¬p.1=k:=λe'=>h (e'.symm.trans h2)
  rw[decide_eq_false this];simp
 ·rw[decide_eq_false h2];simp
def KeysN (m:MapL):Prop:=m.Pairwise λp q=>¬p.1=q.1
theorem KeysN.put {m:MapL} (h:KeysN m) (k:ByteArray) (v:Value):KeysN (putM m k v):=by
 unfold KeysN putM;rw[List.pairwise_cons];refine⟨λp hp=>?_,h.filter _⟩;have:=(List.mem_filter.1 hp).2;simp at this;exact λe=>this e.symm
theorem Zbfq {m:MapL} (h:KeysN m) (k:ByteArray) (v:Value):(putM m k v).length=if hasM m k then m.length else m.length+1:=by
 unfold putM;rw[List.length_cons]
 induction m with
 | nil=>simp[hasM]
 | cons p m ih=>
  have h':=List.pairwise_cons.1 h
  by_cases e:p.1=k
  ·have hf:m.filter (λp=> !decide (p.1=k))=m:=List.filter_eq_self.2 λq hq=>by
    have:=h'.1 q hq;rw[e]at this;simp;exact λe'=>this e'.symm
   have hh:hasM (p::m) k=true:=by simp[hasM,e]
   rw[hh,List.filter_cons_of_neg (by simp[e]),hf];simp
  ·have hh:hasM (p::m) k=hasM m k:=by simp[hasM,e]
   rw[hh,List.filter_cons_of_pos (by simpa using e),List.length_cons];have:=ih h'.2;rw[this,List.length_cons];split<;>rfl
def MapIs (P:Program) (kt:TypeId) (w:World) (b:Nat) (m:MapL):Prop:=
 ∃D:DataW Value,w.ownsMap P kt Zrt b m.length D/\(∀k,Maps.has D (litS k)=hasM m k)/\(∀k z,D.atKey (litS k) (.held z) = .held (getM m k z))/\Maps.size D=m.length/\KeysN m
variable {P:Program} {kt t e:TypeId} {w:World} {b:Nat} {m:MapL}
theorem Zyj (w:World) (P:Program) (kt:TypeId):MapIs P kt (w.alloc (.map #[] 0)) w.heap.size []:=
 ⟨.map [],World.ownsMap_made w P kt Zrt,λ_=>rfl,λ_ _=>rfl,rfl,List.Pairwise.nil⟩
theorem MapIs.lt (h:MapIs P kt w b m):b<w.heap.size:=by obtain⟨D,h,_⟩:=h;exact h.lt
theorem MapIs.kept {w':World} {row:Option Nat} (h:MapIs P kt w b m) (hg:w.grownBy w' row) (hne:some b≠row):MapIs P kt w' b m:=by
 obtain⟨D,h,r⟩:=h;exact⟨D,h.kept hg hne,r⟩
theorem MapIs.heap {w':World} (h:MapIs P kt w b m) (hb:w'.heap[b]? =w.heap[b]?):MapIs P kt w' b m:=by
 obtain⟨D,⟨es,clock,h1,h2⟩,r⟩:=h;exact⟨D,⟨es,clock,hb.trans h1,h2⟩,r⟩
theorem MapIs.below {B:Nat} {w':World} (h:MapIs P kt w b m) (hb:Below B w w') (hlt:b<B):MapIs P kt w' b m:=h.heap (hb.block b hlt)
theorem MapIs.alloc (h:MapIs P kt w b m) (o:Obj):MapIs P kt (w.alloc o) b m:=by obtain⟨D,h,r⟩:=h;exact⟨D,h.alloc o,r⟩
theorem MapIs.drew (h:MapIs P kt w b m):MapIs P kt w.drew b m:=h
theorem Zwr (hk:P.underlying kt=some .string) (k:ByteArray) (hs:k.size<=maxLen):keyOf P kt (.string k)=some (litS k):=WideMaps.keyOf_string_mk hk hs
theorem MapIs.look (h:MapIs P kt w b m) (hk:P.underlying kt=some .string) (ht:P.underlying t=some (.map kt e)) {z:Value} (hz:(zeroValue e).run P w = .ok z w) (k:ByteArray) (hs:k.size<=maxLen):
  (Instr.lookup t (.map (some b)) (.string k) false).run P w = .ok (getM m k z) w:=by
 obtain⟨D,h,_,h2,_⟩:=h;obtain⟨v,ps,hrun,hv⟩:=h.lookup (Maps.string_keyed hk) ht hz (zd:= .held z) (zp:=[]) rfl (Zwr hk k hs);rw[h2]at hv;simp only[Zrt,Option.some.injEq,Prod.mk.injEq,DataW.held.injEq]at hv;rw[hrun,hv.1]
theorem MapIs.look_ok (h:MapIs P kt w b m) (hk:P.underlying kt=some .string) (ht:P.underlying t=some (.map kt e)) {z:Value} (hz:(zeroValue e).run P w = .ok z w) (k:ByteArray) (hs:k.size<=maxLen):
  (Instr.lookup t (.map (some b)) (.string k) true).run P w = .ok (.tuple #[getM m k z,.bool (hasM m k)]) w:=by
 obtain⟨D,h,h1,h2,_⟩:=h;obtain⟨v,ps,hrun,hv⟩:=h.look_ok (Maps.string_keyed hk) ht hz (zd:= .held z) (zp:=[]) rfl (Zwr hk k hs);rw[h2]at hv;simp only[Zrt,Option.some.injEq,Prod.mk.injEq,DataW.held.injEq]at hv;rw[hrun,hv.1,h1]
theorem MapIs.len (h:MapIs P kt w b m) (ht:P.underlying t=some (.map kt e)) (ty:TypeId):(Builtin.len_ #[t] ty #[.map (some b)]).run P w = .ok (.int .i64 (m.length:Int)) w:=by
 obtain⟨D,h,_,_,h3,_⟩:=h;rw[h.len ht ty,h3]
theorem MapIs.put (h:MapIs P kt w b m) (hk:P.underlying kt=some .string) (ht:P.underlying t=some (.map kt e)) (hn:m.length<maxLen) (k:ByteArray) (hs:k.size<=maxLen) (v:Value):
  ∃w',(Instr.mapUpdate t (.map (some b)) (.string k) v).run P w = .ok () w'/\MapIs P kt w' b (putM m k v)/\w.mapTurned w' b:=by
 obtain⟨D,h,h1,h2,h3,hK⟩:=h;have K:=Maps.string_keyed hk;have hT:=h.tidy K;obtain⟨w',hrun,r1,r2⟩:=h.store K ht hn (Zwr hk k hs) (val:=v) (d:= .held v) (ps:=[]) rfl;have hkl:WideAt.IsKeyLit (litS k):=trivial;have hsz:Maps.size (D.put (litS k) (.held v))=(putM m k v).length:=by
  rw[Maps.size_put hT,h1,h3,Zbfq hK]
 refine⟨w',hrun,⟨D.put (litS k) (.held v),?_,λk'=>?_,λk' z=>?_,hsz,hK.put k v⟩,r2⟩
 ·obtain⟨es,clock,a1,a2,a3,a4⟩:=r1
  refine⟨es,clock,a1,a2,?_,a4⟩;have:Maps.size (D.put (litS k) (.held v))=es.size:=by rw[a4];simp[Maps.size,length_sorted]
  omega
 ·rw[Zrm]
  by_cases e:k=k'
  ·subst e
   rw[Maps.has_put_same hT.isMap hkl];simp
  ·have:¬litS k'=litS k:=λe'=>e (Zxu e').symm
   rw[Maps.has_put_other this,h1,decide_eq_false e,Bool.false_or]
 ·by_cases e:k=k'
  ·subst e
   rw[Maps.atKey_put_same hT.isMap hkl,Zqj]
  ·have:¬litS k'=litS k:=λe'=>e (Zxu e').symm
   rw[Maps.atKey_put_other this,h2,Zqi _ _ _ e]
end Go.Proofs.YtcpjfpdecklkgaaGreatDoor
