import Derived.StillTailTactics
import Derived.Test.YtmgcaldphpnfgaaGreatDoorMau
namespace Go.Proofs.YtmgcaldphpnfgaaGreatDoor
open Go.Lib (hid)
open Go.RowKit Go.Shelf Go.Sort
set_option maxHeartbeats 4000000
set_option maxRecDepth 100000
abbrev Zbny (x:StepS) (a1 a2:Option Addr) (c1 c2:Nat):Array Value:=#[.string x.out,.int .i64 x.op,.slice a1 x.args.length c1,.slice a2 x.lits.length c2,.int .i64 x.n]
def Zaf (x:StepS) (s:ByteArray) (w:World) (e:Ending) (w':World):Prop:=e = .returned (valE (outV (doT x [s.data.toList])))/\Below w.heap.size w w'
structure ChgB (w:World) (x:StepS) (a1 a2:Option Addr) (c1 c2:Nat) (W1:World):Prop where
 size:W1.heap.size=w.heap.size+1+1
 below:Below w.heap.size w W1
 cells:∀W,Below W1.heap.size W1 W->W.cell? ⟨w.heap.size,0,none⟩=some (.string x.out)/\W.cell? ⟨w.heap.size,1,none⟩=some (.int .i64 x.op)/\W.cell? ⟨w.heap.size,2,none⟩=some (.slice a1 x.args.length c1)/\W.cell? ⟨w.heap.size,3,none⟩=some (.slice a2 x.lits.length c2)/\W.cell? ⟨w.heap.size,4,none⟩=some (.int .i64 x.n)
 res:∀W,Below W1.heap.size W1 W->W.heap[w.heap.size+1]? =some (.cells #[.bool false,.string ⟨#[]⟩] 28)
theorem chgB (w:World) (x:StepS) (a1 a2:Option Addr) (c1 c2:Nat):ChgB w x a1 a2 c1 c2 ((w.alloc (.cells (Zbny x a1 a2 c1 c2) 42)).alloc (.cells #[.bool false,.string ⟨#[]⟩] 28)):=by
 have hs:((w.alloc (.cells (Zbny x a1 a2 c1 c2) 42)).alloc (.cells #[.bool false,.string ⟨#[]⟩] 28)).heap.size=w.heap.size+1+1:=by simp
 refine⟨hs,((Below.refl _ _).alloc (Nat.le_refl _) _).alloc (by simp) _,λW h=>?_,λW h=>?_⟩
 ·exact Zbnk w x a1 a2 c1 c2 (((Below.refl _ _).alloc (by simp) _).trans (h.mono (by rw[hs];omega)))
 ·have:=alloc_at (w.alloc (.cells (Zbny x a1 a2 c1 c2) 42)) (.cells #[.bool false,.string ⟨#[]⟩] 28)
  rw[World.size_alloc]at this;exact(h.block _ (by rw[hs];omega)).trans this
theorem ChgB.val {w:World} {x:StepS} {a1 a2:Option Addr} {c1 c2:Nat} {W1:World} (h:ChgB w x a1 a2 c1 c2 W1) {W:World} (hb:Below W1.heap.size W1 W):W.cell? ⟨w.heap.size+1,0,none⟩=some (.bool false)/\W.cell? ⟨w.heap.size+1,1,none⟩=some (.string ⟨#[]⟩)/\W.frozen? ⟨w.heap.size+1,0,none⟩=false/\W.frozen? ⟨w.heap.size+1,1,none⟩=false:=Zih (h.res W hb)
theorem Zbql (W:World) (t:ByteArray) (n:Nat) (hn:W.heap.size=n):IsStrs (W.alloc (.cells #[.string t] 9)) (.slice (some ⟨n,0,none⟩) 1 1) [t]:=by
 subst hn;exact Zbqp W t (Below.refl _ _)
theorem Zbqs (W:World) (t u:ByteArray):IsStrs (W.alloc (.cells #[.string t,.string u] 9)) (.slice (some ⟨W.heap.size,0,none⟩) 2 2) [t,u]:=by
 refine⟨_,2,rfl,Nat.le_refl _,by decide,λ_=>⟨W.heap.size,0,rfl,by simp,λj x hx=>?_⟩⟩;have h:=alloc_at W (.cells #[.string t,.string u] 9);obtain⟨c0,c1,_,_⟩:=Zih h
 match j with
 | 0=>
  obtain rfl:t=x:=by simpa using hx
  exact c0
 | 1=>
  obtain rfl:u=x:=by simpa using hx
  exact c1
 | j+2=>simp at hx
theorem Zbsy (W:World) (t:ByteArray) (n:Nat) (hn:W.heap.size=n) (ht:t.size<=1000000000):
  Calls Tryz.prog 139 #[.slice (some ⟨n,0,none⟩) 1 1] (W.alloc (.cells #[.string t] 9)) λe w'=>e = .returned (valE (capV t.data.toList))/\Below W.heap.size W w':=by
 have:=Zbsx _ [t] _ (Zbql W t n hn) (by simp) (by simpa[<-Lib.size_eq]using ht);rw[show([t].map (·.data.toList)).flatten=t.data.toList by simp]at this;refine this.mono ?_;rintro e w' ⟨rfl,hb⟩;exact⟨rfl,((Below.refl _ _).alloc (Nat.le_refl _) _).trans (hb.mono (by simp))⟩
theorem Zit (x:StepS) (a1 a2:Option Addr) (c1 c2:Nat) (s:ByteArray) (w:World) (hop:x.op=1) (hs:s.size<=900000000):
  Calls Tryz.prog 140 #[.agg (Zbny x a1 a2 c1 c2),.string s] w (Zaf x s w):=by
 have hB:=chgB w x a1 a2 c1 c2;obtain⟨R,hR⟩:∃R,outV (doT x [s.data.toList])=R:=⟨_,rfl⟩;unfold Zaf;rw[hR];unfold doT at hR;rw[if_neg (by rw[hop];decide),if_neg (by rw[hop];decide),if_neg (by rw[hop];decide),if_neg (by rw[hop];decide),if_neg (by rw[hop];decide),if_neg (by rw[hop];decide),if_neg (by rw[hop];decide),if_neg (by rw[hop];decide)]at hR;simp only[List.headD_cons,outV]at hR;obtain⟨W1,hW1⟩:∃W1,(w.alloc (.cells (Zbny x a1 a2 c1 c2) 42)).alloc (.cells #[.bool false,.string ⟨#[]⟩] 28)=W1:=⟨_,rfl⟩;obtain⟨d0,d1,d2,d3,d4⟩:=hB.cells _ (Below.refl _ _);rw[hW1]at hB;have HB:=hid hB;have HW:=hid hW1;have HR:=hid hR;have R1:Hid (Below W1.heap.size W1 W1):=hid (Below.refl _ _);obtain⟨ok,t,e1,e2⟩:=Zbrz (v:=capV s.data.toList);have cW:=Zbsy W1 s (w.heap.size+1+1) hB.size (by omega);rw[e2]at cW;have CW:=hid cW;have HE:=hid e1;clear cW e1 e2;clear hB hW1 hR;obtain⟨out,op,args,lits,n⟩:=x;simp only[Zbny]at d0 d1 d2 d3 d4 hop⊢;subst hop
 go_enter Tryz.func140,Tryz.ntmps140
 go_wp2_with fail
 rw[HW.out];refine CW.out.mono ?_;rintro e w2 ⟨rfl,hb2⟩;have H2:=hid hb2;clear hb2 d0 d1 d2 d3 d4;obtain⟨g0,g1,g2,g3⟩:=HB.out.val H2.out;have HX:=hid (HB.out.res _ H2.out);go_wp2;refine bodyPost_ret (Zbhl rfl _ _ (w.heap.size+1) _ _ _ _ rfl (heap_set _ _ (heap_set _ _ HX.out)) Tryz.underlying28 rfl (by kernel_rfl)) rfl ?_;exact⟨by rw[<-HR.out,HE.out];rfl,((HB.out.below.trans (H2.out.mono HB.out.below.size)).setCell (p:=⟨w.heap.size+1,0,none⟩) (Nat.le_succ _) _).setCell (p:=⟨w.heap.size+1,1,none⟩) (Nat.le_succ _) _⟩
theorem Ziv (x:StepS) (a1 a2:Option Addr) (c1 c2:Nat) (s:ByteArray) (w:World) (hop:x.op=2) (hs:s.size<=900000000):
  Calls Tryz.prog 140 #[.agg (Zbny x a1 a2 c1 c2),.string s] w (Zaf x s w):=by
 have hB:=chgB w x a1 a2 c1 c2;obtain⟨R,hR⟩:∃R,outV (doT x [s.data.toList])=R:=⟨_,rfl⟩;unfold Zaf;rw[hR];unfold doT at hR;rw[if_pos hop]at hR;simp only[List.headD_cons]at hR;have hR2:(if s.data.toList = []then noV else capV s.data.toList)=R:=by
  rw[<-hR];by_cases h:s.data.toList = []<;>simp[h,outV]
 obtain⟨W1,hW1⟩:∃W1,(w.alloc (.cells (Zbny x a1 a2 c1 c2) 42)).alloc (.cells #[.bool false,.string ⟨#[]⟩] 28)=W1:=⟨_,rfl⟩;obtain⟨d0,d1,d2,d3,d4⟩:=hB.cells _ (Below.refl _ _);rw[hW1]at hB;have HB:=hid hB;have HW:=hid hW1;have HR:=hid hR;have R1:Hid (Below W1.heap.size W1 W1):=hid (Below.refl _ _);have cW:=Zbas s W1 (by omega);rw[hR2]at cW;obtain⟨ok,t,e1,e2⟩:=Zbrz (v:=R);rw[e2]at cW;have CW:=hid cW;have HE:=hid e1;clear cW e1 e2 hR2;clear hB hW1 hR;obtain⟨out,op,args,lits,n⟩:=x;simp only[Zbny]at d0 d1 d2 d3 d4 hop⊢;subst hop
 go_enter Tryz.func140,Tryz.ntmps140
 go_wp2_with fail
 rw[HW.out];refine CW.out.mono ?_;rintro e w2 ⟨rfl,hb2⟩;have H2:=hid hb2;clear hb2 d0 d1 d2 d3 d4;obtain⟨g0,g1,g2,g3⟩:=HB.out.val H2.out;have HX:=hid (HB.out.res _ H2.out);go_wp2;refine bodyPost_ret (Zbhl rfl _ _ (w.heap.size+1) _ _ _ _ rfl (heap_set _ _ (heap_set _ _ HX.out)) Tryz.underlying28 rfl (by kernel_rfl)) rfl ?_;exact⟨by rw[HE.out];rfl,((HB.out.below.trans (H2.out.mono HB.out.below.size)).setCell (p:=⟨w.heap.size+1,0,none⟩) (Nat.le_succ _) _).setCell (p:=⟨w.heap.size+1,1,none⟩) (Nat.le_succ _) _⟩
theorem Ziz (x:StepS) (a1 a2:Option Addr) (c1 c2:Nat) (s:ByteArray) (w:World) (hop:x.op=3) (hs:s.size<=900000000):
  Calls Tryz.prog 140 #[.agg (Zbny x a1 a2 c1 c2),.string s] w (Zaf x s w):=by
 have hB:=chgB w x a1 a2 c1 c2;obtain⟨R,hR⟩:∃R,outV (doT x [s.data.toList])=R:=⟨_,rfl⟩;unfold Zaf;rw[hR];unfold doT at hR;rw[if_neg (by rw[hop];decide),if_pos hop]at hR;simp only[List.headD_cons,outV]at hR;obtain⟨W1,hW1⟩:∃W1,(w.alloc (.cells (Zbny x a1 a2 c1 c2) 42)).alloc (.cells #[.bool false,.string ⟨#[]⟩] 28)=W1:=⟨_,rfl⟩;obtain⟨d0,d1,d2,d3,d4⟩:=hB.cells _ (Below.refl _ _);rw[hW1]at hB;have HB:=hid hB;have HW:=hid hW1;have HR:=hid hR;have R1:Hid (Below W1.heap.size W1 W1):=hid (Below.refl _ _);have cS:=Zbnv s W1 hs;obtain⟨J,hJ⟩:∃J,Zul (srtL (Zxl s.data.toList))=J:=⟨_,rfl⟩;have hJl:J.length<=s.size+1:=by rw[<-hJ,Zuq (Zbnd _)];exact Zuk s
 obtain⟨T,hT⟩:∃T:ByteArray,(⟨J.toArray⟩:ByteArray)=T:=⟨_,rfl⟩;rw[hJ,hT]at cS;rw[hJ]at hR;have HTJ:=hid (show T.data.toList=J by rw[<-hT]);have HT:=hid (show T.size<=1000000000 by rw[<-hT];show J.toArray.size<=_;rw[List.size_toArray];omega);have CS:=hid cS;have HR:=hid hR;clear cS hJ hJl hT;clear hB hW1 hR;obtain⟨out,op,args,lits,n⟩:=x;simp only[Zbny]at d0 d1 d2 d3 d4 hop⊢;subst hop
 go_enter Tryz.func140,Tryz.ntmps140
 go_wp2_with fail
 rw[HW.out];refine CS.out.mono ?_;rintro e w2 ⟨rfl,hb2⟩;have H2:=hid hb2;have cW:=Zbsy w2 T w2.heap.size rfl HT.out;rw[HTJ.out,HR.out]at cW;obtain⟨ok,t,e1,e2⟩:=Zbrz (v:=R);rw[e2]at cW;have CW:=hid cW;have HE:=hid e1;clear hb2 cW e1 e2 d0 d1 d2 d3 d4
 go_wp2_with fail
 refine CW.out.mono ?_;rintro e w3 ⟨rfl,hb3⟩;have H3:=hid (H2.out.trans (hb3.mono H2.out.size));clear hb3;obtain⟨g0,g1,g2,g3⟩:=HB.out.val H3.out;have HX:=hid (HB.out.res _ H3.out);go_wp2;refine bodyPost_ret (Zbhl rfl _ _ (w.heap.size+1) _ _ _ _ rfl (heap_set _ _ (heap_set _ _ HX.out)) Tryz.underlying28 rfl (by kernel_rfl)) rfl ?_;exact⟨by rw[HE.out];rfl,((HB.out.below.trans (H3.out.mono HB.out.below.size)).setCell (p:=⟨w.heap.size+1,0,none⟩) (Nat.le_succ _) _).setCell (p:=⟨w.heap.size+1,1,none⟩) (Nat.le_succ _) _⟩
theorem Ziu (x:StepS) (a1 a2:Option Addr) (c1 c2:Nat) (s:ByteArray) (w:World) (hop:x.op=4) (hs:s.size<=900000000) (hG:Glob w):
  Calls Tryz.prog 140 #[.agg (Zbny x a1 a2 c1 c2),.string s] w (Zaf x s w):=by
 have hB:=chgB w x a1 a2 c1 c2;obtain⟨R,hR⟩:∃R,outV (doT x [s.data.toList])=R:=⟨_,rfl⟩;unfold Zaf;rw[hR];unfold doT at hR;rw[if_neg (by rw[hop];decide),if_neg (by rw[hop];decide),if_pos hop]at hR;simp only[List.headD_cons,outV]at hR;obtain⟨W1,hW1⟩:∃W1,(w.alloc (.cells (Zbny x a1 a2 c1 c2) 42)).alloc (.cells #[.bool false,.string ⟨#[]⟩] 28)=W1:=⟨_,rfl⟩;obtain⟨d0,d1,d2,d3,d4⟩:=hB.cells _ (Below.refl _ _);rw[hW1]at hB;have HB:=hid hB;have HW:=hid hW1;have HR:=hid hR;have R1:Hid (Below W1.heap.size W1 W1):=hid (Below.refl _ _);have CS:=hid (Zbnp s W1 (by omega));have HLN:=hid (show(Zxi s).length<=900000000 by have:=Zxk s;omega);have HLL:=hid (show(Zxi s).length=(Zxl s.data.toList).length by unfold Zxi;rw[List.length_map]);have hbw:=hB.below;have HG:Hid (∀W,Below W1.heap.size W1 W->Glob W):=by show ∀W,_;exact λW h=>hG.below (hbw.trans (h.mono hbw.size))
 have HR:=hid hR;clear hbw hG;clear hB hW1 hR;obtain⟨out,op,args,lits,n⟩:=x;simp only[Zbny]at d0 d1 d2 d3 d4 hop⊢;subst hop
 go_enter Tryz.func140,Tryz.ntmps140
 go_wp2_with fail
 rw[HW.out];refine CS.out.mono ?_;rintro e w2 ⟨v,rfl,hown,hnil,hb2⟩;have hv:∃a c,v = .slice a (Zxi s).length c:=by
  rcases hown.2 with⟨h,h'⟩|⟨g,c,cur,h,_⟩
  ·exact⟨none,0,by rw[h];simp only[h']⟩
  ·exact⟨_,_,h⟩
 obtain⟨a,c,rfl⟩:=hv;have H2:=hid hb2;have hln:=HLN.out;obtain⟨N,hN⟩:∃N,(Zxi s).length=N:=⟨_,rfl⟩;rw[hN]at hln⊢;have HN:=hid hN;clear hown hnil hb2 hN;have cN:=Zbca (N:Int) (by omega) (by omega) w2 (HG.out _ H2.out);have hnS:numS (N:Int)=Lib.itoa (N:Int):=by unfold numS;rw[Int.max_eq_left (by omega)]
 rw[hnS]at cN;obtain⟨D,hD⟩:∃D:ByteArray,(⟨(Lib.itoa (N:Int)).toArray⟩:ByteArray)=D:=⟨_,rfl⟩;rw[hD]at cN;have HD:=hid (show D.data.toList=Lib.itoa (N:Int) by rw[<-hD]);have HDL:=hid (show D.size<=21 by rw[<-hD];show(Lib.itoa (N:Int)).toArray.size<=_;rw[List.size_toArray];exact Lib.itoa_length_le _ (by omega) (by omega));have CN:=hid cN;clear cN hnS hD d0 d1 d2 d3 d4
 go_wp2_with fail
 refine CN.out.mono ?_;rintro e w3 ⟨rfl,hb3⟩;have H3:=hid (H2.out.trans (hb3.mono H2.out.size));have cW:=Zbsx (.slice (some ⟨w3.heap.size,0,none⟩) 2 2) [D,⟨#[10]⟩] (w3.alloc (.cells #[.string D,.string ⟨#[10]⟩] 9)) (Zbqs w3 D ⟨#[10]⟩) (by simp) (by have:=HDL.out;simp;omega);rw[show([D,⟨#[10]⟩].map (·.data.toList)).flatten=Lib.itoa ((Zxl s.data.toList).length:Int) ++ [10] by rw[<-HLL.out,HN.out];simp[HD.out],HR.out]at cW;obtain⟨ok,t,e1,e2⟩:=Zbrz (v:=R);rw[e2]at cW;have CW:=hid cW;have HE:=hid e1;clear hb3 cW e1 e2
 go_wp2_with fail
 refine CW.out.mono ?_;rintro e w4 ⟨rfl,hb4⟩;have H4:=hid (H3.out.trans ((((Below.refl _ _).alloc (Nat.le_refl _) _).trans (hb4.mono (by simp))).mono H3.out.size));clear hb4;obtain⟨g0,g1,g2,g3⟩:=HB.out.val H4.out;have HX:=hid (HB.out.res _ H4.out);go_wp2;refine bodyPost_ret (Zbhl rfl _ _ (w.heap.size+1) _ _ _ _ rfl (heap_set _ _ (heap_set _ _ HX.out)) Tryz.underlying28 rfl (by kernel_rfl)) rfl ?_;exact⟨by rw[HE.out];rfl,((HB.out.below.trans (H4.out.mono HB.out.below.size)).setCell (p:=⟨w.heap.size+1,0,none⟩) (Nat.le_succ _) _).setCell (p:=⟨w.heap.size+1,1,none⟩) (Nat.le_succ _) _⟩
theorem Ziy (x:StepS) (a1 a2:Option Addr) (c1 c2:Nat) (s:ByteArray) (m:Int) (w:World) (hop:x.op=7) (hs:s.size<=900000000) (hl:IsStrs w (.slice a2 x.lits.length c2) x.lits) (hll:x.lits.length=1) (hgb:1<w.heap.size) (hm:w.cell? ⟨1,0,none⟩=some (.int .i64 m)):
  Calls Tryz.prog 140 #[.agg (Zbny x a1 a2 c1 c2),.string s] w (Zaf x s w):=by
 have hB:=chgB w x a1 a2 c1 c2;obtain⟨R,hR⟩:∃R,outV (doT x [s.data.toList])=R:=⟨_,rfl⟩;unfold Zaf;rw[hR];unfold doT at hR;rw[if_neg (by rw[hop];decide),if_neg (by rw[hop];decide),if_neg (by rw[hop];decide),if_neg (by rw[hop];decide),if_neg (by rw[hop];decide),if_pos hop]at hR;simp only[List.headD_cons,outV]at hR;obtain⟨aa,cc,e,_,hcm,hlc⟩:=Zua hl
 cases e
 obtain⟨l0,hl0⟩:∃y,x.lits[0]? =some y:=⟨x.lits[0],List.getElem?_eq_getElem (by omega)⟩;obtain⟨lb,lo,hla,hlc0⟩:=hlc 0 l0 hl0;have hlt:litT x 0=l0.data.toList:=by unfold litT;rw[List.getD_eq_getElem?_getD,hl0];rfl
 rw[hlt]at hR;obtain⟨W1,hW1⟩:∃W1,(w.alloc (.cells (Zbny x a1 a2 c1 c2) 42)).alloc (.cells #[.bool false,.string ⟨#[]⟩] 28)=W1:=⟨_,rfl⟩;obtain⟨d0,d1,d2,d3,d4⟩:=hB.cells _ (Below.refl _ _);rw[hW1]at hB;have HB:=hid hB;have HW:=hid hW1;have HR:=hid hR;have R1:Hid (Below W1.heap.size W1 W1):=hid (Below.refl _ _);have q0:=hlc0 W1 hB.below;simp only[Nat.add_zero]at q0;subst hla;have cS:=Zbnu s l0 m W1 hs (by have:=hB.size;omega) ((hB.below.cell (p:=⟨_,0,none⟩) hgb).trans hm);obtain⟨J,hJ⟩:∃J,Zul ((Zxl s.data.toList).filter λl=>Lib.contains l l0.data.toList)=J:=⟨_,rfl⟩;have hJl:J.length<=s.size+1:=by
  rw[<-hJ];have:=Zbqw (λl=>Lib.contains l l0.data.toList) (Zxl s.data.toList);have:=Zuk s;omega
 obtain⟨T,hT⟩:∃T:ByteArray,(⟨J.toArray⟩:ByteArray)=T:=⟨_,rfl⟩;rw[hJ,hT]at cS;rw[hJ]at hR;have HTJ:=hid (show T.data.toList=J by rw[<-hT]);have HT:=hid (show T.size<=1000000000 by rw[<-hT];show J.toArray.size<=_;rw[List.size_toArray];omega);have CS:=hid cS;have HR:=hid hR;clear cS hJ hJl hT hlc hlc0 hlt hl hgb hm;have q1:((w.alloc (.cells (Zbny x (a1) (some ⟨lb,lo,none⟩) c1 c2) 42)).alloc (.cells #[.bool false,.string ⟨#[]⟩] 28)).cell? ⟨lb,lo,none⟩=some (.string l0):=by rw[hW1];exact q0
 have hpos:(0:Int)<(x.lits.length:Int):=by omega
 unfold maxLen at hcm;clear hl0;clear hB hW1 hR;obtain⟨out,op,args,lits,n⟩:=x;simp only[Zbny]at d0 d1 d2 d3 d4 hop hpos hcm⊢;subst hop;simp only[Zbny]at q1;clear hll
 go_enter Tryz.func140,Tryz.ntmps140
 go_wp2_with fail
 rw[HW.out];refine CS.out.mono ?_;rintro e w2 ⟨rfl,hb2⟩;have H2:=hid hb2;have cW:=Zbsy w2 T w2.heap.size rfl HT.out;rw[HTJ.out,HR.out]at cW;obtain⟨ok,t,e1,e2⟩:=Zbrz (v:=R);rw[e2]at cW;have CW:=hid cW;have HE:=hid e1;clear hb2 cW e1 e2 d0 d1 d2 d3 d4
 go_wp2_with fail
 refine CW.out.mono ?_;rintro e w3 ⟨rfl,hb3⟩;have H3:=hid (H2.out.trans (hb3.mono H2.out.size));clear hb3;obtain⟨g0,g1,g2,g3⟩:=HB.out.val H3.out;have HX:=hid (HB.out.res _ H3.out);go_wp2;refine bodyPost_ret (Zbhl rfl _ _ (w.heap.size+1) _ _ _ _ rfl (heap_set _ _ (heap_set _ _ HX.out)) Tryz.underlying28 rfl (by kernel_rfl)) rfl ?_;exact⟨by rw[HE.out];rfl,((HB.out.below.trans (H3.out.mono HB.out.below.size)).setCell (p:=⟨w.heap.size+1,0,none⟩) (Nat.le_succ _) _).setCell (p:=⟨w.heap.size+1,1,none⟩) (Nat.le_succ _) _⟩
theorem Zix (x:StepS) (a1 a2:Option Addr) (c1 c2:Nat) (s:ByteArray) (m:Int) (w:World) (hop:x.op=8) (hs:s.size<=900000000) (hl:IsStrs w (.slice a2 x.lits.length c2) x.lits) (hll:x.lits.length=2) (hl100:∀l∈x.lits,l.size<=100) (hfo:Zox x.lits=true) (hgb:1<w.heap.size) (hm:w.cell? ⟨1,0,none⟩=some (.int .i64 m)):
  Calls Tryz.prog 140 #[.agg (Zbny x a1 a2 c1 c2),.string s] w (Zaf x s w):=by
 have hB:=chgB w x a1 a2 c1 c2;obtain⟨R,hR⟩:∃R,outV (doT x [s.data.toList])=R:=⟨_,rfl⟩;unfold Zaf;rw[hR];unfold doT at hR;rw[if_neg (by rw[hop];decide),if_neg (by rw[hop];decide),if_neg (by rw[hop];decide),if_neg (by rw[hop];decide),if_neg (by rw[hop];decide),if_neg (by rw[hop];decide),if_pos hop]at hR;simp only[List.headD_cons,outV]at hR;obtain⟨aa,cc,e,_,hcm,hlc⟩:=Zua hl
 cases e
 obtain⟨l0,hl0⟩:∃y,x.lits[0]? =some y:=⟨x.lits[0],List.getElem?_eq_getElem (by omega)⟩;obtain⟨lb,lo,hla,hlc0⟩:=hlc 0 l0 hl0;obtain⟨l1,hl1⟩:∃y,x.lits[1]? =some y:=⟨x.lits[1],List.getElem?_eq_getElem (by omega)⟩;obtain⟨lb1,lo1,hla1,hlc1⟩:=hlc 1 l1 hl1;have hlt:litT x 0=l0.data.toList:=by unfold litT;rw[List.getD_eq_getElem?_getD,hl0];rfl
 have hlt1:litT x 1=l1.data.toList:=by unfold litT;rw[List.getD_eq_getElem?_getD,hl1];rfl
 rw[hlt,hlt1]at hR;have h0s:1<=l0.size:=by
  cases hx:x.lits with
  | nil=>rw[hx]at hl0;simp at hl0
  | cons y r=>
   rw[hx]at hl0 hfo;obtain rfl:y=l0:=by simpa using hl0
   unfold Zox at hfo;simp only at hfo;rw[Lib.size_eq];refine List.length_pos_iff.2 λe=>?_
   rw[ByteArray.toList_eq,e]at hfo;simp at hfo
 have h0b:=hl100 l0 (List.mem_of_getElem? hl0);have h1b:=hl100 l1 (List.mem_of_getElem? hl1);obtain⟨W1,hW1⟩:∃W1,(w.alloc (.cells (Zbny x a1 a2 c1 c2) 42)).alloc (.cells #[.bool false,.string ⟨#[]⟩] 28)=W1:=⟨_,rfl⟩;obtain⟨d0,d1,d2,d3,d4⟩:=hB.cells _ (Below.refl _ _);rw[hW1]at hB;have HB:=hid hB;have HW:=hid hW1;have HR:=hid hR;have R1:Hid (Below W1.heap.size W1 W1):=hid (Below.refl _ _);have q0:=hlc0 W1 hB.below;simp only[Nat.add_zero]at q0;have q2:=hlc1 W1 hB.below;rw[hla]at hla1
 cases hla1
 subst hla;have cS:=Zbnt s l0 l1 m W1.drew hs h0s (by omega) (by omega) (by show _<W1.heap.size;have:=hB.size;omega) ((hB.below.cell (p:=⟨_,0,none⟩) hgb).trans hm);rw[hR]at cS;obtain⟨ok,t,e1,e2⟩:=Zbrz (v:=R);rw[e2]at cS;have CS:=hid cS;have HE:=hid e1;clear cS hlc hlc0 hlc1 hlt hlt1 hl hgb hm hl1 e1 e2 hfo hl100 h0s h0b h1b;have q1:((w.alloc (.cells (Zbny x (a1) (some ⟨lb,lo,none⟩) c1 c2) 42)).alloc (.cells #[.bool false,.string ⟨#[]⟩] 28)).cell? ⟨lb,lo,none⟩=some (.string l0):=by rw[hW1];exact q0
 have q3:((w.alloc (.cells (Zbny x (a1) (some ⟨lb,lo,none⟩) c1 c2) 42)).alloc (.cells #[.bool false,.string ⟨#[]⟩] 28)).cell? ⟨lb,lo+1,none⟩=some (.string l1):=by rw[hW1];exact q2
 have hpos:(1:Int)<(x.lits.length:Int):=by omega
 unfold maxLen at hcm;have Q1:=hid q0;have Q3:=hid q2;clear hl0 q0 q2;clear hB hW1 hR;obtain⟨out,op,args,lits,n⟩:=x;simp only[Zbny]at d0 d1 d2 d3 d4 hop hpos hcm⊢;subst hop;simp only[Zbny]at q1 q3;clear hll
 go_enter Tryz.func140,Tryz.ntmps140
 go_wp2_with fail
 rw[HW.out];have D1:=(below_drewN (Below.refl W1.heap.size W1) 1);obtain⟨d0',d1',d2',d3',d4'⟩:=HB.out.cells W1.drew D1;have q1':W1.drew.cell? ⟨lb,lo,none⟩=some (.string l0):=Q1.out;have q3':W1.drew.cell? ⟨lb,lo+1,none⟩=some (.string l1):=Q3.out
 go_region_with (go_at_call 186;refine CS.out.mono ?_;rintro e w2 ⟨rfl,hb2⟩;have H2:=hid (D1.trans hb2);obtain⟨g0,g1,g2,g3⟩:=HB.out.val H2.out)
 all_goals have HX:=hid (HB.out.res _ H2.out)
 all_goals go_wp2
 all_goals refine bodyPost_ret (Zbhl rfl _ _ (w.heap.size+1) _ _ _ _ rfl (heap_set _ _ (heap_set _ _ HX.out)) Tryz.underlying28 rfl (by kernel_rfl)) rfl ?_
 all_goals exact⟨by rw[HE.out];rfl,((HB.out.below.trans (H2.out.mono HB.out.below.size)).setCell (p:=⟨w.heap.size+1,0,none⟩) (Nat.le_succ _) _).setCell (p:=⟨w.heap.size+1,1,none⟩) (Nat.le_succ _) _⟩
theorem Ziw (x:StepS) (a1 a2:Option Addr) (c1 c2:Nat) (s:ByteArray) (w:World) (hop:x.op=9) (hs:s.size<=900000000) (hn0:0<=x.n) (hn1:x.n<=2000):
  Calls Tryz.prog 140 #[.agg (Zbny x a1 a2 c1 c2),.string s] w (Zaf x s w):=by
 have hB:=chgB w x a1 a2 c1 c2;obtain⟨R,hR⟩:∃R,outV (doT x [s.data.toList])=R:=⟨_,rfl⟩;unfold Zaf;rw[hR];unfold doT at hR;rw[if_neg (by rw[hop];decide),if_neg (by rw[hop];decide),if_neg (by rw[hop];decide),if_neg (by rw[hop];decide),if_neg (by rw[hop];decide),if_neg (by rw[hop];decide),if_neg (by rw[hop];decide),if_pos hop]at hR;simp only[List.headD_cons,outV]at hR;obtain⟨W1,hW1⟩:∃W1,(w.alloc (.cells (Zbny x a1 a2 c1 c2) 42)).alloc (.cells #[.bool false,.string ⟨#[]⟩] 28)=W1:=⟨_,rfl⟩;obtain⟨d0,d1,d2,d3,d4⟩:=hB.cells _ (Below.refl _ _);rw[hW1]at hB;have HB:=hid hB;have HW:=hid hW1;have HR:=hid hR;have R1:Hid (Below W1.heap.size W1 W1):=hid (Below.refl _ _);obtain⟨k,hk⟩:∃k:Nat,min x.n (s.size:Int)=(k:Int):=⟨(min x.n (s.size:Int)).toNat,by omega⟩;have hks:k<=s.size:=by omega
 obtain⟨T,hT⟩:∃T,s.extract 0 k=T:=⟨_,rfl⟩;have hTe:T.data.toList=s.data.toList.take x.n.toNat:=by
  rw[<-hT,ByteArray.data_extract,Array.toList_extract,List.extract_eq_take_drop,List.drop_zero,Nat.sub_zero];have e:s.data.toList.length=s.size:=by rw[Array.length_toList];rfl
  by_cases h:x.n.toNat<=s.size
  ·congr 1;omega
  ·rw[List.take_of_length_le (by omega),List.take_of_length_le (by omega)]
 have hTs:T.size<=900000000:=by rw[<-hT,ByteArray.size_extract];omega
 have cW:=Zbsy W1 T (w.heap.size+1+1) hB.size (by omega);rw[hTe,hR]at cW;obtain⟨ok,t,e1,e2⟩:=Zbrz (v:=R);rw[e2]at cW;have CW:=hid cW;have HE:=hid e1;clear cW e1 e2 hTe hTs;have hmn:=hk;have hex:s.extract 0 k=T:=hT;clear hB hW1 hR;obtain⟨out,op,args,lits,n⟩:=x;simp only[Zbny]at d0 d1 d2 d3 d4 hop hex hn0 hn1 hmn⊢;subst hop
 go_enter Tryz.func140,Tryz.ntmps140
 go_wp2_with fail
 rw[HW.out];refine CW.out.mono ?_;rintro e w2 ⟨rfl,hb2⟩;have H2:=hid hb2;clear hb2 d0 d1 d2 d3 d4;obtain⟨g0,g1,g2,g3⟩:=HB.out.val H2.out;have HX:=hid (HB.out.res _ H2.out);go_wp2;refine bodyPost_ret (Zbhl rfl _ _ (w.heap.size+1) _ _ _ _ rfl (heap_set _ _ (heap_set _ _ HX.out)) Tryz.underlying28 rfl (by kernel_rfl)) rfl ?_;exact⟨by rw[HE.out];rfl,((HB.out.below.trans (H2.out.mono HB.out.below.size)).setCell (p:=⟨w.heap.size+1,0,none⟩) (Nat.le_succ _) _).setCell (p:=⟨w.heap.size+1,1,none⟩) (Nat.le_succ _) _⟩
set_option maxHeartbeats 4000000
set_option maxRecDepth 100000
theorem Zpg (bs:List ByteArray) (k m:Nat) (hk:bs.length<=k) (hm:∀b∈bs,b.size<=m):(bs.map (·.data.toList)).flatten.length<=k*m:=by
 have:(bs.map (·.data.toList)).flatten.length<=bs.length*m:=by
  clear hk
  induction bs with
  | nil=>simp
  | cons b l ih=>
   have h1:=hm b (by simp);have h2:=ih λc hc=>hm c (by simp[hc])
   rw[Lib.size_eq]at h1;rw[List.map_cons,List.flatten_cons,List.length_append,List.length_cons,Nat.add_mul];omega
 exact Nat.le_trans this (Nat.mul_le_mul_right _ hk)
theorem Zis (x:StepS) (a1 a2:Option Addr) (c1 c2:Nat) (s:ByteArray) (w:World) (hmay:mayB x=true) (h5:x.op≠5) (h6:x.op≠6) (hs:s.size<=900000000) (hl:IsStrs w (.slice a2 x.lits.length c2) x.lits) (hG:Glob w):
  Calls Tryz.prog 140 #[.agg (Zbny x a1 a2 c1 c2),.string s] w (Zaf x s w):=by
 obtain⟨⟨o1,o9⟩,_,hnl,hfo,n0,n1,_,h100⟩:=(Zyt x).1 hmay;obtain⟨m,hm⟩:=hG.max;have hgb:=Zie hm;unfold nlF at hnl;have hop:x.op=1∨x.op=2∨x.op=3∨x.op=4∨x.op=7∨x.op=8∨x.op=9:=by omega
 rcases hop with h|h|h|h|h|h|h
 ·exact Zit x a1 a2 c1 c2 s w h hs
 ·exact Ziv x a1 a2 c1 c2 s w h hs
 ·exact Ziz x a1 a2 c1 c2 s w h hs
 ·exact Ziu x a1 a2 c1 c2 s w h hs hG
 ·rw[if_pos (.inr h)]at hnl
  exact Ziy x a1 a2 c1 c2 s m w h hs hl (by omega) hgb hm
 ·rw[if_neg (by omega),if_pos h]at hnl
  refine Zix x a1 a2 c1 c2 s m w h hs hl (by omega) h100 ?_ hgb hm
  cases hx:x.lits with
  | nil=>rfl
  | cons y r=>
   have:=hfo h y (by rw[hx];rfl);unfold Zox;simp only;rw[this];rfl
 ·exact Ziw x a1 a2 c1 c2 s w h hs n0 n1
def Zck (x:StepS) (bs:List ByteArray) (w:World) (e:Ending) (w':World):Prop:=e = .returned (valE (outV (doT x (bs.map (·.data.toList)))))/\Below w.heap.size w w'
theorem Zbuq (x:StepS) (a1 a2:Option Addr) (c1 c2:Nat) (v:Value) (bs:List ByteArray) (w:World) (hmay:mayB x=true) (hn:bs.length=x.args.length) (hb:∀b∈bs,b.size<=100000000) (hv:IsStrs w v bs) (hl:IsStrs w (.slice a2 x.lits.length c2) x.lits) (hG:Glob w):
  Calls Tryz.prog 86 #[.agg (Zbny x a1 a2 c1 c2),v] w (Zck x bs w):=by
 have hmx:=(Zyt x).1 hmay;obtain⟨⟨o1,o9⟩,hna,hnl,hfo,n0,n1,_,h100⟩:=hmx;have hB:=chgB w x a1 a2 c1 c2;obtain⟨R,hR⟩:∃R,outV (doT x (bs.map (·.data.toList)))=R:=⟨_,rfl⟩;unfold Zck;rw[hR];obtain⟨W1,hW1⟩:∃W1,(w.alloc (.cells (Zbny x a1 a2 c1 c2) 42)).alloc (.cells #[.bool false,.string ⟨#[]⟩] 28)=W1:=⟨_,rfl⟩;obtain⟨d0,d1,d2,d3,d4⟩:=hB.cells _ (Below.refl _ _);rw[hW1]at hB;have hv1:=hv.below hB.below;have hl1:=hl.below hB.below;have hG1:=hG.below hB.below;obtain⟨ok,t,e1,e2⟩:=Zbrz (v:=R);have HE:=hid e1;have HB:=hid hB;have HW:=hid hW1
 by_cases h5:x.op=5
 ·have hbl:bs.length<=6:=by
   unfold naF at hna;rw[if_pos h5]at hna;omega
  have cW:=Zbsx v bs W1 hv1 (by omega) (Nat.le_trans (Zpg bs 6 100000000 hbl hb) (by decide));have e:outV (doT x (bs.map (·.data.toList)))=capV (bs.map (·.data.toList)).flatten:=by
   unfold doT;rw[if_neg (by omega),if_neg (by omega),if_neg (by omega),if_pos h5];rfl
  rw[<-e,hR,e2]at cW;have CW:=hid cW;clear cW e hv1 hl1 hG1 hB hW1 hR e1 e2 hmay hn hb hv hl hG hna hnl hfo h100 hbl;obtain⟨out,op,args,lits,n⟩:=x;simp only[Zbny]at d0 d1 d2 d3 d4 h5⊢;subst h5
  go_enter Tryz.func86,Tryz.ntmps86
  go_wp2_with fail
  rw[HW.out];refine CW.out.mono ?_;rintro e w2 ⟨rfl,hb2⟩;have H2:=hid hb2;clear hb2 d0 d1 d2 d3 d4;obtain⟨g0,g1,g2,g3⟩:=HB.out.val H2.out;have HX:=hid (HB.out.res _ H2.out);go_wp2;refine bodyPost_ret (Zbhl rfl _ _ (w.heap.size+1) _ _ _ _ rfl (heap_set _ _ (heap_set _ _ HX.out)) Tryz.underlying28 rfl (by kernel_rfl)) rfl ?_;exact⟨by rw[HE.out];rfl,((HB.out.below.trans (H2.out.mono HB.out.below.size)).setCell (p:=⟨w.heap.size+1,0,none⟩) (Nat.le_succ _) _).setCell (p:=⟨w.heap.size+1,1,none⟩) (Nat.le_succ _) _⟩
 by_cases h6:x.op=6
 ·have hll:x.lits.length=1:=by unfold nlF at hnl;rw[if_pos (.inl h6)]at hnl;omega
  have cW:=Zbsx _ x.lits W1 hl1 (by omega) (Nat.le_trans (Zpg x.lits 1 100 (by omega) h100) (by decide));have e:outV (doT x (bs.map (·.data.toList)))=capV (x.lits.map (·.data.toList)).flatten:=by
   unfold doT;rw[if_neg (by omega),if_neg (by omega),if_neg (by omega),if_neg h5,if_pos h6];show capV (litT x 0)=_;unfold litT
   match hx:x.lits,hll with
   | [y],_=>simp
  rw[<-e,hR,e2]at cW;have CW:=hid cW;clear cW e hv1 hl1 hG1 hB hW1 hR e1 e2 hmay hn hb hv hl hG hna hnl hfo h100 hll;obtain⟨out,op,args,lits,n⟩:=x;simp only[Zbny]at d0 d1 d2 d3 d4 h6⊢;subst h6;clear h5
  go_enter Tryz.func86,Tryz.ntmps86
  go_wp2_with fail
  rw[HW.out];refine CW.out.mono ?_;rintro e w2 ⟨rfl,hb2⟩;have H2:=hid hb2;clear hb2 d0 d1 d2 d3 d4;obtain⟨g0,g1,g2,g3⟩:=HB.out.val H2.out;have HX:=hid (HB.out.res _ H2.out);go_wp2;refine bodyPost_ret (Zbhl rfl _ _ (w.heap.size+1) _ _ _ _ rfl (heap_set _ _ (heap_set _ _ HX.out)) Tryz.underlying28 rfl (by kernel_rfl)) rfl ?_;exact⟨by rw[HE.out];rfl,((HB.out.below.trans (H2.out.mono HB.out.below.size)).setCell (p:=⟨w.heap.size+1,0,none⟩) (Nat.le_succ _) _).setCell (p:=⟨w.heap.size+1,1,none⟩) (Nat.le_succ _) _⟩
 ·have hal:bs.length=1:=by
   unfold naF at hna;rw[if_neg h5,if_neg h6]at hna;omega
  obtain⟨s,rfl⟩:∃s,bs = [s]:=by
   match bs,hal with
   | [s],_=>exact⟨s,rfl⟩
  have hs:=hb s (by simp);obtain⟨va,vc,rfl,hvl,hvm,hvc⟩:=Zua hv1;obtain⟨vb,vo,hva,hvcell⟩:=hvc 0 s rfl;have q0:=hvcell W1.drew (below_drewN (Below.refl _ _) 1);simp only[Nat.add_zero]at q0;subst hva;have cC:=Zis x a1 a2 c1 c2 s W1.drew hmay h5 h6 (by omega) (hl1.below (below_drewN (Below.refl _ _) 1)) (hG1.below (below_drewN (Below.refl _ _) 1));unfold Zaf at cC;rw[show [s].map (·.data.toList) = [s.data.toList]from rfl]at hR;rw[hR,e2]at cC;have CC:=hid cC;have D1:=(below_drewN (Below.refl W1.heap.size W1) 1);obtain⟨d0',d1',d2',d3',d4'⟩:=hB.cells W1.drew D1;unfold maxLen at hvm;clear cC hv1 hl1 hG1 hB hW1 hR e1 e2 hmay hn hb hv hl hG hna hnl hfo h100 hal hvc hvcell;obtain⟨out,op,args,lits,n⟩:=x;simp only[Zbny]at d0 d1 d2 d3 d4 d0' d1' d2' d3' d4' h5 h6 CC⊢;simp only[List.length_singleton]at *
  go_enter Tryz.func86,Tryz.ntmps86
  go_wp2_with fail
  rw[HW.out]
  go_region_with (go_at_call 140;refine CC.out.mono ?_;rintro e w2 ⟨rfl,hb2⟩;have H2:=hid (D1.trans hb2);obtain⟨g0,g1,g2,g3⟩:=HB.out.val H2.out)
  all_goals have HX:=hid (HB.out.res _ H2.out)
  all_goals go_wp2
  all_goals refine bodyPost_ret (Zbhl rfl _ _ (w.heap.size+1) _ _ _ _ rfl (heap_set _ _ (heap_set _ _ HX.out)) Tryz.underlying28 rfl (by kernel_rfl)) rfl ?_
  all_goals exact⟨by rw[HE.out];rfl,((HB.out.below.trans (H2.out.mono HB.out.below.size)).setCell (p:=⟨w.heap.size+1,0,none⟩) (Nat.le_succ _) _).setCell (p:=⟨w.heap.size+1,1,none⟩) (Nat.le_succ _) _⟩
theorem Zbsi {w w':World} {v:Value} {vs:List ValT} (h:Zbb w v vs) (hb:Below w.heap.size w w'):Zbb w' v vs:=by
 obtain⟨a,c,rfl,h1,h1m,h2⟩:=h;refine⟨a,c,rfl,h1,h1m,λhne=>?_⟩;obtain⟨b,o,rfl,h3,h4⟩:=h2 hne;exact⟨b,o,rfl,Nat.lt_of_lt_of_le h3 hb.size,λj x hx=>⟨(hb.cell (p:=⟨b,o+j*2,none⟩) h3).trans (h4 j x hx).1,(hb.cell (p:=⟨b,o+j*2+1,none⟩) h3).trans (h4 j x hx).2⟩⟩
def Zan (x:StepS) (vs:List ValT) (w:World) (e:Ending) (w':World):Prop:=e = .returned (valE (doV x vs))/\Below w.heap.size w w'
theorem Zlw (x:StepS) (a1 a2:Option Addr) (c1 c2:Nat) (v:Value) (vs:List ValT) (w:World) (ha:IsStrs w (.slice a1 x.args.length c1) x.args) (hl:IsStrs w (.slice a2 x.lits.length c2) x.lits) (hv:Zbb w v vs) (hn:vs.length<=1000000000) (hb:∀u∈vs,u.2.size<=100000000) (hG:Glob w):
  Calls Tryz.prog 53 #[.agg (Zbny x a1 a2 c1 c2),v] w (Zan x vs w):=by
 have hB:=chgB w x a1 a2 c1 c2;obtain⟨R,hR⟩:∃R,doV x vs=R:=⟨_,rfl⟩;unfold Zan;rw[hR];obtain⟨W1,hW1⟩:∃W1,(w.alloc (.cells (Zbny x a1 a2 c1 c2) 42)).alloc (.cells #[.bool false,.string ⟨#[]⟩] 28)=W1:=⟨_,rfl⟩;obtain⟨d0,d1,d2,d3,d4⟩:=hB.cells _ (Below.refl _ _);rw[hW1]at hB;have cM:=Zbnr x a1 a2 c1 c2 W1 (ha.below hB.below) (hl.below hB.below);have HB:=hid hB;have HW:=hid hW1;have CM:=hid cM;obtain⟨va,vc,rfl,hvl,hvm,_⟩:=id hv;obtain⟨_,_,ea,hal,ham,_⟩:=Zua ha
 cases ea
 have ham':x.args.length<=maxLen:=Nat.le_trans hal ham;have hbw:=hB.below;have HC:Hid (∀W,Below W1.heap.size W1 W->Calls Tryz.prog 85 #[.slice va vs.length vc] W (Zak W vs)):=by
  show ∀W,_;exact λW h=>Zko _ vs W (Zbsi hv (hbw.trans (h.mono hbw.size))) hn
 have HY:Hid (mayB x=true->vs.length=x.args.length->∀v' W,Below W1.heap.size W1 W->IsStrs W v' (Zbrm vs)->Calls Tryz.prog 86 #[.agg (Zbny x a1 a2 c1 c2),v'] W (Zck x (Zbrm vs) W)):=by
  show mayB x=true->vs.length=x.args.length->∀v' W,_;intro hm hlen v' W h hs;have hbW:=hbw.trans (h.mono hbw.size);exact Zbuq x a1 a2 c1 c2 v' (Zbrm vs) W hm (by unfold Zbrm;rw[List.length_map];exact hlen) (λb hb'=>by
   obtain⟨u,hu,rfl⟩:=List.mem_map.1 hb';exact hb u hu) hs (hl.below hbW) (hG.below hbW)
 have HR:=hid hR;unfold maxLen at hvm ham';clear hB hW1 cM hv ha hl hG hbw hR hb;obtain⟨q,hq⟩:∃q,mayB x=q:=⟨_,rfl⟩;have CM':=CM.out;rw[hq]at CM';have CM2:=hid CM';have HQ:=hid hq;clear CM' CM hq;have HNO:Hid ((mayB x&&decide (vs.length=x.args.length)&&vs.all (·.1))=false->R=(false,⟨#[]⟩)):=by
  show _->_;intro h;rw[<-HR.out];unfold doV;rw[h];rfl
 have HY':=hid HY.out;obtain⟨out,op,args,lits,n⟩:=x;simp only[Zbny]at d0 d1 d2 d3 d4 CM2 HC HY HW HNO HR ham' HQ⊢;have fin:∀(w2:World) (ok:Bool) (t:ByteArray),Below W1.heap.size W1 w2->Below w.heap.size w ((w2.setCell ⟨w.heap.size+1,0,none⟩ (.bool ok)).setCell ⟨w.heap.size+1,1,none⟩ (.string t)):=λw2 ok t h=>
  ((HB.out.below.trans (h.mono HB.out.below.size)).setCell (p:=⟨w.heap.size+1,0,none⟩) (Nat.le_succ _) _).setCell (p:=⟨w.heap.size+1,1,none⟩) (Nat.le_succ _) _
 have FIN:=hid fin;clear fin
 cases q
 ·have HRR:=hid (HNO.out (by rw[HQ.out];rfl))
  go_enter Tryz.func53,Tryz.ntmps53
  go_wp2_with fail
  rw[HW.out];refine CM2.out.mono ?_;rintro e w2 ⟨rfl,hb2⟩;have H2:=hid hb2;clear hb2 d0 d1 d2 d3 d4;obtain⟨g0,g1,g2,g3⟩:=HB.out.val H2.out;have HX:=hid (HB.out.res _ H2.out);go_wp2;refine bodyPost_ret (Zbhl rfl _ _ (w.heap.size+1) _ _ _ _ rfl (heap_set _ _ (heap_set _ _ HX.out)) Tryz.underlying28 rfl (by kernel_rfl)) rfl ?_;exact⟨by rw[HRR.out];rfl,FIN.out _ _ _ H2.out⟩
 by_cases hlen:vs.length=args.length
 ·have HLEN:=hid hlen
  have hle:(vs.length:Int)=(args.length:Int):=by omega
  clear hlen
  go_enter Tryz.func53,Tryz.ntmps53
  go_wp2_with fail
  rw[HW.out];refine CM2.out.mono ?_;rintro e w2 ⟨rfl,hb2⟩;have H2:=hid hb2;clear hb2 d0 d1 d2 d3 d4;obtain⟨d0,d1,d2,d3,d4⟩:=HB.out.cells w2 H2.out
  go_wp2_with fail
  refine(HC.out _ H2.out).mono ?_;rintro e w3 ⟨v',rfl,hst,hb3⟩;have H3:=hid (H2.out.trans (hb3.mono H2.out.size));have HST:=hid hst;clear hb3 hst d0 d1 d2 d3 d4 hle;obtain⟨al,hal⟩:∃b,(vs.all (·.1))=b:=⟨_,rfl⟩;have HAL:=hid hal;rw[hal];clear hal;obtain⟨d0,d1,d2,d3,d4⟩:=HB.out.cells w3 H3.out
  cases al
  ·have HRR:=hid (HNO.out (by rw[HAL.out,Bool.and_false]))
   obtain⟨g0,g1,g2,g3⟩:=HB.out.val H3.out;have HX:=hid (HB.out.res _ H3.out);go_wp2;refine bodyPost_ret (Zbhl rfl _ _ (w.heap.size+1) _ _ _ _ rfl (heap_set _ _ (heap_set _ _ HX.out)) Tryz.underlying28 rfl (by kernel_rfl)) rfl ?_;exact⟨by rw[HRR.out];rfl,FIN.out _ _ _ H3.out⟩
  ·have cY:=HY.out HQ.out HLEN.out v' w3 H3.out (HST.out HAL.out)
   unfold Zck at cY;have e:outV (doT ⟨out,op,args,lits,n⟩ ((Zbrm vs).map (·.data.toList)))=R:=by
    rw[<-HR.out];unfold doV;rw[HQ.out,decide_eq_true HLEN.out,HAL.out];unfold Zbrm;rw[List.map_map];rfl
   rw[e]at cY;obtain⟨ok,t,e1,e2⟩:=Zbrz (v:=R);rw[e2]at cY;have CY:=hid cY;have HE:=hid e1;clear cY e e1 e2
   go_wp2_with fail
   refine CY.out.mono ?_;rintro e w4 ⟨rfl,hb4⟩;have H4:=hid (H3.out.trans (hb4.mono H3.out.size));clear hb4;obtain⟨g0,g1,g2,g3⟩:=HB.out.val H4.out;have HX:=hid (HB.out.res _ H4.out);go_wp2;refine bodyPost_ret (Zbhl rfl _ _ (w.heap.size+1) _ _ _ _ rfl (heap_set _ _ (heap_set _ _ HX.out)) Tryz.underlying28 rfl (by kernel_rfl)) rfl ?_;exact⟨by rw[HE.out];rfl,FIN.out _ _ _ H4.out⟩
 ·have HRR:=hid (HNO.out (by rw[HQ.out,decide_eq_false hlen];rfl))
  have hle:¬(vs.length:Int)=(args.length:Int):=by omega
  go_enter Tryz.func53,Tryz.ntmps53
  go_wp2_with fail
  rw[HW.out];refine CM2.out.mono ?_;rintro e w2 ⟨rfl,hb2⟩;have H2:=hid hb2;clear hb2 d0 d1 d2 d3 d4;obtain⟨d0,d1,d2,d3,d4⟩:=HB.out.cells w2 H2.out;obtain⟨g0,g1,g2,g3⟩:=HB.out.val H2.out;have HX:=hid (HB.out.res _ H2.out);go_wp2;refine bodyPost_ret (Zbhl rfl _ _ (w.heap.size+1) _ _ _ _ rfl (heap_set _ _ (heap_set _ _ HX.out)) Tryz.underlying28 rfl (by kernel_rfl)) rfl ?_;exact⟨by rw[HRR.out];rfl,FIN.out _ _ _ H2.out⟩
end Go.Proofs.YtmgcaldphpnfgaaGreatDoor
