import Derived.Deep.RegionHeld3
import Derived.Deep.RegionLaw
import Derived.Test.YtmgcaldphpnfgaaGreatDoorMbt
namespace Go.Proofs.YtmgcaldphpnfgaaGreatDoor.lawRunPart
open Go.Lib (hid)
open Go.RowKit Go.Shelf Go.Maps
theorem Zcbi {w:World} {v:Value} {xs:List Nat} (h:IsInts w v xs):∃a c,v = .slice a xs.length c/\xs.length<=c/\c<=maxLen/\∀(j:Nat) x,xs[j]? =some x->∃b o,a=some ⟨b,o,none⟩/\b<w.heap.size/\∀V,Below w.heap.size w V->V.cell? ⟨b,o+j,none⟩=some (.int .i64 (x:Int)):=by
 obtain⟨a,c,rfl,h1,h2,h3⟩:=h;refine⟨a,c,rfl,h1,h2,λj x hx=>?_⟩;obtain⟨b,o,e,hb,hc⟩:=h3 (by rintro rfl;simp at hx);exact⟨b,o,e,hb,λV hV=>(hV.cell (p:=⟨b,o+j,none⟩) hb).trans (hc j x hx)⟩
theorem Zcjg {y:RuleS} {vs:List ValT} (h:vs.length=y.ins.length):(runP y vs).length=y.outs.length:=by
 unfold runP;rw[if_neg (by omega),List.length_map]
theorem Zcjv {y:RuleS} {vs:List ValT} (h:vs.length=y.ins.length) {i:Nat} {o:ByteArray} (ho:y.outs[i]? =some o):(runP y vs)[i]? =some (Zbbt (Zbom y.steps (byE y.ins vs λ_=>noV) o)):=by
 unfold runP;rw[if_neg (by omega),List.getElem?_map,ho];rfl
structure PartL (W3 W:World) (X:Nat) (nm:ByteArray) (vi vo vf vv:Value) (rs:List (List Value)) (ys:List StepS) (wr:World):Prop where
 fr:Fr (λb=>b=X) W wr
 record:wr.heap[X]? =some (.cells #[.string nm,vi,vo,vf,vv] 25)
 own:wr.ownsRow W.heap.size 42 5 vv rs.length rs.flatten
 all:AllA (Zcc W3) rs ys
theorem Zcju {w:World} {X i:Nat} {nm:ByteArray} {a1 a2 a3:Option Addr} {n1 n2 n3 c1 c2 c3 n4 c4:Nat} {a4:Option Addr} {t:TypeId} {z:Int} (hx:w.heap[X]? =some (.cells #[.string nm,.slice a1 n1 c1,.slice a2 n2 c2,.slice a3 n3 c3,.slice a4 n4 c4] t)) (h:w.cell? ⟨X,i,none⟩=some (.int .i64 z)):False:=by
 simp only[World.cell?,hx,Option.isSome_none,Bool.false_eq_true,if_false]at h
 match i,h with
 | 0,h=>simp at h
 | 1,h=>simp at h
 | 2,h=>simp at h
 | 3,h=>simp at h
 | 4,h=>simp at h
 | i+5,h=>simp at h
theorem PartL.grow {W3 W wr w':World} {X:Nat} {nm:ByteArray} {vi vo vf vv:Value} {rs:List (List Value)} {ys:List StepS} {r:List Value} {y:StepS} {a n c:_} (h:PartL W3 W X nm vi vo vf vv rs ys wr) (hX:X<W.heap.size) (hgr:wr.grownBy w' vv.ownBlock) (hr:Zcc W3 r y)
  (ho:w'.ownsRow W.heap.size 42 5 (.slice a n c) (rs.length+1) (rs.flatten++r)):PartL W3 W X nm vi vo vf (.slice a n c) (rs ++ [r]) (ys ++ [y]) (w'.setCell ⟨X,4,none⟩ (.slice a n c)):=by
 have hown:∀k,vv.ownBlock=some k->W.heap.size<=k:=λk hk=>(h.own.lt k hk).1
 have hfr:Fr (λb=>b=X) W w':=⟨hgr.os.trans h.fr.os,hgr.tape.trans h.fr.tape,hgr.output.trans h.fr.output,Nat.le_trans h.fr.size hgr.size,λk hk hn=>(hgr.block k (Nat.lt_of_lt_of_le hk h.fr.size) (λe=>by have:=hown k e.symm;omega)).trans (h.fr.block k hk hn)⟩;refine⟨hfr.trans (Zpy (Av:=λb=>b=X) (a:=⟨X,4,none⟩) rfl _),heap_set 4 _ ((hgr.block X (Nat.lt_of_lt_of_le hX h.fr.size) (λe=>by have:=hown X e.symm;omega)).trans h.record),?_,h.all.snoc hr⟩;have h1:=ownsRow_setCell_below (a:=⟨X,4,none⟩) ho hX (.slice a n c);rw[List.length_append,List.flatten_append];simpa using h1
theorem PartL.kept {W3 W wr WA w':World} {X:Nat} {nm:ByteArray} {vi vo vf vv:Value} {rs:List (List Value)} {ys:List StepS} (h:PartL W3 W X nm vi vo vf vv rs ys wr) (hX:X<W.heap.size) (hb:Below wr.heap.size wr WA) (hgr:WA.grownBy w' vv.ownBlock):w'.heap[X]? =some (.cells #[.string nm,vi,vo,vf,vv] 25):=by
 have h1:=Nat.lt_of_lt_of_le hX h.fr.size;exact(hgr.block X (Nat.lt_of_lt_of_le h1 hb.size) (λe=>by have:=(h.own.lt X e.symm).1;omega)).trans ((hb.block X h1).trans h.record)
theorem PartL.later {W3 W wr w':World} {X:Nat} {nm:ByteArray} {vi vo vf vv:Value} {rs:List (List Value)} {ys:List StepS} (h:PartL W3 W X nm vi vo vf vv rs ys wr) (hX:X<W.heap.size) (hb:Below wr.heap.size wr w'):PartL W3 W X nm vi vo vf vv rs ys w':=
 ⟨h.fr.trans (Zpv hb),(hb.block X (Nat.lt_of_lt_of_le hX h.fr.size)).trans h.record,World.ownsRow.kept (row:=none) h.own ⟨hb.os,hb.tape,hb.output,hb.size,λk hk _=>hb.block k hk⟩ (by cases Value.ownBlock _<;>simp),h.all⟩
set_option maxHeartbeats 16000000
set_option maxRecDepth 100000
theorem law (x:RuleS) (a1 a2 a3 a4:Option Addr) (c1 c2 c3 c4:Nat) (v:Value) (us:List ValT) (w:World) (hI:RuleI w [.string x.name,.slice a1 x.ins.length c1,.slice a2 x.outs.length c2,.slice a3 x.after.length c3,.slice a4 x.steps.length c4] x) (hs:SmallR x 1048576) (hV:Zbb w v us) (hvs:∀z∈us,z.2.size<=1048576) (hG:GP w.heap.size w):
  Calls Tryz.prog 4 #[.agg (Zbiz x a1 a2 a3 a4 c1 c2 c3 c4),v] w λe w'=>e = .returned (.bool true)/\Below w.heap.size w w':=by
 have mixed:Tryz.prog.follows .mixedOrders=true:=by kernel_rfl
 obtain⟨W0,hW0⟩:∃V,w.alloc (.cells (Zbiz x a1 a2 a3 a4 c1 c2 c3 c4) 25)=V:=⟨_,rfl⟩;obtain⟨B,hB⟩:∃m,w.heap.size=m:=⟨_,rfl⟩;have hb0:Below B w W0:=by rw[<-hW0,<-hB];exact(Below.refl _ _).alloc (Nat.le_refl _) _
 have hs0:W0.heap.size=B+1:=by rw[<-hW0];simp[hB]
 have hx0:W0.heap[B]? =some (.cells (Zbiz x a1 a2 a3 a4 c1 c2 c3 c4) 25):=by rw[<-hW0,<-hB];exact alloc_at w _
 rw[hB]at hG;have CB:=hid (Zfc W0 ((hG.below hb0).up (by omega)));have HFIN:Hid (∀V,Below B w V->Below w.heap.size w V):=hid (by rw[hB];exact λ_ h=>h);have HGL:Hid (∀V,Below B w V->Glob V):=hid λV hV=>(hG.below hV).glob
 have CL:Hid (∀V,Below B w V->Calls Tryz.prog 13 #[.agg (Zbiz x a1 a2 a3 a4 c1 c2 c3 c4)] V (Zcbb x V)):=hid λV hV=>Zcbh x a1 a2 a3 a4 c1 c2 c3 c4 V (hI.below (by rw[hB];exact hV)) hs
 have HVS:Hid (∀V,Below B w V->Zbb V v us):=hid λV hb=>Zbsi hV (by rw[hB];exact hb)
 unfold Zcbb at CL;obtain⟨y,hy⟩:∃y,cutR x=y:=⟨_,rfl⟩;have hym:SmallR y 1048576:=by rw[<-hy];exact Zbma hs
 have hyh:ShortR y:=by rw[<-hy];exact Zbkv x
 have HYM:=hid hym;have HYH:=hid hyh;rw[hy]at CL;obtain⟨D,hD⟩:∃D,decide (Zbip y=0)=D:=⟨_,rfl⟩;rw[hD]at CL;have HDD:=hid hD;have HW0:=hid hW0;have HB:=hid hB;have HB0:=hid hb0;have HS0:=hid hs0;have HVZ:=hid hvs;have HXD:Hid (∀V,Below W0.heap.size W0 V->V.heap[B]? =some (.cells (Zbiz x a1 a2 a3 a4 c1 c2 c3 c4) 25)):=hid λV hV=>(hV.block B (by omega)).trans hx0
 obtain⟨n,hnn⟩:∃n,y.ins.length=n:=⟨_,rfl⟩;have hn10:n<=10:=by rw[<-hnn];exact hyh.1
 have HNN:=hid hnn;clear hI hs hG hW0 hB hb0 hs0 hx0 hy hym hyh hD hV hvs hnn
 go_enter Tryz.func4,Tryz.ntmps4
 go_wp2_with fail
 rw[HW0.out,HB.out];refine CB.out.mono ?_;rintro e w1 ⟨rfl,hb1⟩;have h01:Below B w w1:=HB0.out.trans (hb1.mono (by have:=HS0.out;omega));have hs1:B+1<=w1.heap.size:=by have:=hb1.size;have:=HS0.out;omega
 obtain⟨d0,d1,d2,d3,d4,_⟩:=cells5 (HXD.out w1 hb1);have H01:=hid h01;have HS1:=hid hs1;have H1:=hid hb1;clear h01 hs1 hb1
 go_wp2_with fail
 refine(CL.out w1 H01.out).mono ?_;rintro e w2 ⟨b1,b2,b3,b4,e1,e2,e3,e4,rfl,hra,hb2⟩;have hx2:=HXD.out w2 (H1.out.trans (hb2.mono H1.out.size));have h02:Below B w w2:=H01.out.trans (hb2.mono (by have:=HS1.out;omega));obtain⟨hbR,hxR,hR⟩:=Zgd hra hx2 HS1.out;obtain⟨f0,f1,f2,f3,f4,_⟩:=cells5 hx2;obtain⟨w3,hw3⟩:∃V,boxR w2 B y.name (.slice b1 y.ins.length e1) (.slice b2 y.outs.length e2) (.slice b3 y.after.length e3) (.slice b4 y.steps.length e4)=V:=⟨_,rfl⟩;rw[hw3]at hbR hxR hR;unfold boxR at hw3;have h03:Below B w w3:=h02.trans hbR;have H03:=hid h03;have HS3:Hid (B+1<=w3.heap.size):=hid (by have:=HS1.out;have:=hb2.size;have:=hbR.size;omega);obtain⟨_,_,_,_,q,_,hi2,_,hi4⟩:=id hR;simp only[List.cons.injEq,and_true,true_and]at q;obtain⟨rfl,rfl,rfl,rfl⟩:=q;obtain⟨_,_,q,hol,hom,hO⟩:=Zua hi2;injection q with q1 q2 q3
 subst q1 q3;have HO:=hid hO;have HI4:=hid hi4;have HD:Hid (∀V,Below w3.heap.size w3 V->Below B w V/\(V.cell? ⟨B,0,none⟩=some (.string y.name)/\V.cell? ⟨B,1,none⟩=some (.slice b1 y.ins.length e1)/\V.cell? ⟨B,2,none⟩=some (.slice b2 y.outs.length e2)/\V.cell? ⟨B,3,none⟩=some (.slice b3 y.after.length e3)/\V.cell? ⟨B,4,none⟩=some (.slice b4 y.steps.length e4))/\
   RuleI V [.string y.name,.slice b1 y.ins.length e1,.slice b2 y.outs.length e2,.slice b3 y.after.length e3,.slice b4 y.steps.length e4] y):=by
  show ∀V,_;intro V hV;have hs:=HS3.out;obtain⟨g0,g1,g2,g3,g4,_⟩:=cells5 ((hV.block B (by omega)).trans hxR);exact⟨H03.out.trans (hV.mono (by omega)),⟨g0,g1,g2,g3,g4⟩,hR.below hV⟩
 have hno:=HYM.out.outs.1;have hns:=HYM.out.few;unfold maxLen at hom;clear hra hb2 hx2 h02 hbR hxR hR d0 d1 d2 d3 d4 h03 hi2 hi4 hO q2
 go_upto_region 5 with fail
 try rw[hw3]
 clear hw3 f0 f1 f2 f3 f4;obtain⟨_,⟨g0,g1,g2,g3,g4⟩,_⟩:=HD.out w3 (Below.refl _ _)
 cases D with
 | false=>
  go_wp2;go_ret;exact⟨rfl,HFIN.out _ H03.out⟩
 | true=>
 have hR0:Zbip y=0:=of_decide_eq_true HDD.out;have HR0:=hid hR0;clear hR0 HDD;have CI:Hid (∀V,Below w3.heap.size w3 V->Calls Tryz.prog 14 #[.agg (Zbiz y b1 b2 b3 b4 e1 e2 e3 e4),v] V (Zciw y.ins.length us V)):=by
  show ∀V,_;exact λV hV=>Zcjb y b1 b2 b3 b4 e1 e2 e3 e4 v us V (HVS.out V (HD.out V hV).1) (by rw[HNN.out];omega)
 go_wp2_with fail
 refine(CI.out w3 (Below.refl _ _)).mono ?_;rintro e w4 ⟨g,rfl,hrow,hg,hb4⟩;obtain⟨A,hA⟩:∃A,insV y.ins.length us=A:=⟨_,rfl⟩;have hAL:A.length=y.ins.length:=by rw[<-hA,Zciz]
 have hAS:∀z∈A,z.2.size<=100000000:=by rw[<-hA];exact Zcja (by decide) λz hz=>by have:=HVZ.out z hz;omega
 rw[hA]at hrow;have hva:Zbb w4 (.slice (some ⟨g,0,none⟩) y.ins.length y.ins.length) A:=by have:=hrow.vals (by rw[hAL,HNN.out];unfold maxLen;omega);rw[hAL]at this;exact this
 have HVA:Hid (∀V,Below w4.heap.size w4 V->Zbb V (.slice (some ⟨g,0,none⟩) y.ins.length y.ins.length) A):=hid λV hV=>Zbsi hva hV
 have HAL:=hid hAL;have HAS:=hid hAS;have HB34:=hid hb4;obtain⟨_,⟨g0,g1,g2,g3,g4⟩,_⟩:=HD.out w4 hb4;clear hA hAL hAS hrow hg hb4 hva CI;have CO:Hid (∀V,Below w4.heap.size w4 V->Calls Tryz.prog 16 #[.agg (Zbiz y b1 b2 b3 b4 e1 e2 e3 e4),.slice (some ⟨g,0,none⟩) y.ins.length y.ins.length] V (Zbn y A V)):=by
  show ∀V,_;intro V hV;obtain⟨h1,_,h2⟩:=HD.out V (HB34.out.trans (hV.mono HB34.out.size));exact Zbcd y b1 b2 b3 b4 e1 e2 e3 e4 _ A V h2 HYM.out (HVA.out V hV) (by rw[HAL.out,HNN.out];omega) HAS.out (HGL.out V h1)
 unfold Zbn at CO;have hL:(runP y A).length=y.outs.length:=Zcjg HAL.out;have hGET:∀(i:Nat) o,y.outs[i]? =some o->(runP y A)[i]? =some (Zbbt (Zbom y.steps (byE y.ins A λ_=>noV) o)):=λi o ho=>Zcjv HAL.out ho
 obtain⟨L,hLL⟩:∃L,runP y A=L:=⟨_,rfl⟩;rw[hLL]at CO hL hGET;have HGET:=hid hGET
 go_wp2_with fail
 refine(CO.out w4 (Below.refl _ _)).mono ?_;rintro e w5 ⟨lv,rfl,hlv,hb5⟩;obtain⟨la,lc,rfl,hlc,hlm,hlx⟩:=Zcjm hlv;rw[hL]at hlc;rw[hL];have HLX:=hid hlx;have HB45:=hid hb5;have HL:=hid hL;have HB35:=hid (HB34.out.trans (hb5.mono HB34.out.size));unfold maxLen at hlm;clear hGET hLL hlv hlx hb5 CO hL;obtain⟨_,⟨g0,g1,g2,g3,g4⟩,_⟩:=HD.out w5 HB35.out;go_wp2
 go_loopw [40] (λiv wr=>∃i:Nat,i<=y.outs.length/\iv = .int .i64 (i:Int)/\Below w5.heap.size w5 wr) (λiv _=>y.outs.length-(intOf iv).toNat)
 case atStart=>exact⟨0,Nat.zero_le _,rfl,Below.refl _ _⟩
 case round=>
  obtain⟨i,hi,rfl,hbr⟩:=hrel;obtain⟨WR,rfl⟩:∃V,V=wr:=⟨_,rfl⟩;have hb3:Below w3.heap.size w3 WR:=HB35.out.trans (hbr.mono HB35.out.size)
  by_cases hlt:i<y.outs.length
  rotate_left
  ·have hi1:¬(i:Int)<(y.outs.length:Int):=by omega
   have hf:=HFIN.out _ (HD.out WR hb3).1;have HF:=hid hf;clear hbr hb3 hf;go_wp2;go_ret;exact⟨rfl,HF.out⟩
  obtain⟨o,ho⟩:∃o,y.outs[i]? =some o:=⟨y.outs[i]'hlt,List.getElem?_eq_getElem _⟩;have hom2:=List.mem_of_getElem? ho;have hos:=HYM.out.outs.2 o hom2;obtain⟨ob,oo,q,hc⟩:=HO.out i o ho;subst q;have hc:=hc _ hb3;obtain⟨lb,lo,q,hlx⟩:=HLX.out i _ (HGET.out i o ho);subst q;obtain⟨z,hz⟩:∃z,Zbbt (Zbom y.steps (byE y.ins A λ_=>noV) o)=z:=⟨_,rfl⟩;rw[hz]at hlx;have HLI:=hid hlx;have hrun:runP (Zcjo y o) A = [z]:=by rw[Zcjq y A o HAL.out,hz]
  have hpok:Zbip (Zcjo y o)=0:=Zcjp HR0.out hom2;have hi1:(i:Int)<(y.outs.length:Int):=by omega
  have hi0:(0:Int)<=(i:Int):=by omega
  obtain⟨_,⟨g0,g1,g2,g3,g4⟩,hRI⟩:=HD.out WR hb3;have CC:=hid (Zkp y _ _ _ _ WR hRI HYM.out);have HRUN:=hid hrun;have HPOK:=hid hpok;have HBR:=hid hbr;have HB3:=hid hb3;have HOS:=hid hos;clear ho hom2 hz hrun hpok hbr hb3 hos hRI hlx
  go_wp2_with fail
  refine CC.out.mono ?_;rintro e w6 ⟨hpost,hb6⟩;obtain⟨p1,n1,m1,p2,n2,m2,p3,n3,m3,p4,n4,m4,rfl,hra⟩:=Zbir hpost.e;obtain⟨q1,q2,q3,q4⟩:=Zbio hra;subst q1 q2 q3 q4;have HRA:=hid hra;have HB6:=hid hb6;clear hpost hra hb6
  go_upto_region 16 with fail
  obtain⟨X,hX⟩:∃m,w6.heap.size=m:=⟨_,rfl⟩;obtain⟨w7,hw7⟩:∃V,(w6.alloc (.cells #[.string y.name,.slice p1 y.ins.length m1,.slice (some ⟨w6.heap.size+1,0,none⟩) 1 1,.slice p3 y.after.length m3,.slice none 0 0] 25)).alloc (.cells #[.string o] 9)=V:=⟨_,rfl⟩;have hb67:Below w6.heap.size w6 w7:=by rw[<-hw7];exact((Below.refl _ _).alloc (Nat.le_refl _) _).alloc (by simp) _
  have hx7:w7.heap[X]? =some (.cells #[.string y.name,.slice p1 y.ins.length m1,.slice (some ⟨X+1,0,none⟩) 1 1,.slice p3 y.after.length m3,.slice none 0 0] 25):=by rw[<-hw7,Below.heap_alloc _ _ _ (by simp[hX]),<-hX];exact alloc_at w6 _
  have ho7:w7.heap[X+1]? =some (.cells #[.string o] 9):=by
   have:=alloc_at (w6.alloc (.cells #[.string y.name,.slice p1 y.ins.length m1,.slice (some ⟨w6.heap.size+1,0,none⟩) 1 1,.slice p3 y.after.length m3,.slice none 0 0] 25)) (.cells #[.string o] 9);rw[World.size_alloc,hX]at this;rw[<-hw7,hX];exact this
  rw[hw7,hX];have hs7:w7.heap.size=X+2:=by rw[<-hw7];simp[hX]
  have hb37:Below w3.heap.size w3 w7:=HB3.out.trans ((HB6.out.trans (hb67.mono HB6.out.size)).mono HB3.out.size);have hWX:WR.heap.size<=X:=by rw[<-hX];exact HB6.out.size
  obtain⟨_,⟨g0,g1,g2,g3,g4⟩,hRI7⟩:=HD.out w7 hb37;have CS:=Zblu y b1 (some ⟨ob,oo,none⟩) b3 b4 e1 e2 e3 e4 o w7 hRI7 HYM.out (by have:=HOS.out;unfold maxLen;omega);rw[Zcbp]at CS;have hML:=Zcjn [o] y.steps;have hprt:(Zcjo y o).steps=Zcjy y.steps (whL true 0 (Zcbl [o] y.steps)):=rfl;obtain⟨KS,hKS⟩:∃l,whL true 0 (Zcbl [o] y.steps)=l:=⟨_,rfl⟩;have hKlt:∀k∈KS,k<y.steps.length:=by rw[<-hKS];intro k hk;have:=Zbst true _ k hk;omega
  have hKl:KS.length<=y.steps.length:=by rw[<-hKS];have:=Zbss true (Zcbl [o] y.steps) 0;omega
  rw[hKS]at CS hprt;unfold Zce at CS;obtain⟨_,_,_,_,q,k1,_,k3,_⟩:=HRA.out;simp only[List.cons.injEq,and_true,true_and]at q;obtain⟨rfl,rfl,rfl,rfl⟩:=q;have kk1:StrsA (λb=>b=X) w7 (.slice p1 y.ins.length m1) y.ins:=RowA.keep (⟨k1.1,λb e=>⟨(k1.2 b e).1,λh=>by have:=(k1.2 b e).1;omega⟩⟩:StrsA (λb=>b=X) w6 (.slice p1 y.ins.length m1) y.ins) (Zpv hb67);have kk3:StrsA (λb=>b=X) w7 (.slice p3 y.after.length m3) y.after:=RowA.keep (⟨k3.1,λb e=>⟨(k3.2 b e).1,λh=>by have:=(k3.2 b e).1;omega⟩⟩:StrsA (λb=>b=X) w6 (.slice p3 y.after.length m3) y.after) (Zpv hb67);have kk2:StrsA (λb=>b=X) w7 (.slice (some ⟨X+1,0,none⟩) 1 1) [o]:=⟨Zbil (rows:=[[.string o]]) ho7 (by intro r hr;simp only[List.mem_cons,List.not_mem_nil,or_false]at hr;subst hr;rfl) (by show 1<=maxLen;decide),λb e=>by
   simp only[Value.ownBlock,Option.some.injEq]at e;omega⟩
  have HKK:Hid (StrsA (λb=>b=X) w7 (.slice p1 y.ins.length m1) y.ins/\StrsA (λb=>b=X) w7 (.slice (some ⟨X+1,0,none⟩) 1 1) [o]/\StrsA (λb=>b=X) w7 (.slice p3 y.after.length m3) y.after):=hid ⟨kk1,kk2,kk3⟩;have HX7:=hid hx7;have HS7:=hid hs7;have HB37:=hid hb37;have HCS:=hid CS;have HPRT:=hid hprt;have HKLT:=hid hKlt;have hb57:Below w5.heap.size w5 w7:=HBR.out.trans ((HB6.out.trans (hb67.mono HB6.out.size)).mono HBR.out.size);have HB57:=hid hb57;have HWX:=hid hWX;clear hX hw7 hb67 hx7 ho7 hs7 hb37 hb57 hWX hRI7 CS hML hprt hKS hKlt k1 k3 kk1 kk2 kk3
  go_wp2_with fail
  refine HCS.out.mono ?_;rintro e w8 ⟨kv,rfl,hin,hb8⟩;obtain⟨ka,kc,rfl,hkc,hkm,hKC⟩:=Zcbi hin;have hx8:=(hb8.block X (by have:=HS7.out;omega)).trans HX7.out;have H0:Hid (PartL w3 w8 X y.name (.slice p1 y.ins.length m1) (.slice (some ⟨X+1,0,none⟩) 1 1) (.slice p3 y.after.length m3) (.slice none 0 0) [] [] w8):=hid ⟨Fr.refl _ _,hx8,World.ownsRow_nil _ _ _ _,AllA.nil _⟩;have HXL:Hid (X<w8.heap.size):=hid (by have:=HS7.out;have:=hb8.size;omega);have HB8:=hid hb8;have HUP8:Hid (∀V,Fr (λb=>b=X) w8 V->Below w3.heap.size w3 V/\Below w5.heap.size w5 V):=by
   show ∀V,_;intro V hV;have h1:=HWX.out;have h2:=HB3.out.size;have h3:=HBR.out.size;have h4:=HXL.out;exact⟨HB37.out.trans ((HB8.out.mono HB37.out.size).trans (hV.below (by omega) (λk hk e=>by omega))),HB57.out.trans ((HB8.out.mono HB57.out.size).trans (hV.below (by omega) (λk hk e=>by omega)))⟩
  have HKC2:Hid (∀(j:Nat) k,KS[j]? =some k->∃b' o',ka=some ⟨b',o',none⟩/\∀V,Fr (λb=>b=X) w8 V->V.cell? ⟨b',o'+j,none⟩=some (.int .i64 (k:Int))):=by
   show ∀(j:Nat) k,_;intro j k hk;obtain⟨b',o',e,hb,hc⟩:=hKC j k hk;have h0:=hc w8 (Below.refl _ _);have hne:b'≠X:=by
    rintro rfl;exact Zcju hx8 h0
   exact⟨b',o',e,λV hV=>(World.cell?_of_block (w:=w8) (hV.block b' hb hne)).trans h0⟩
  unfold maxLen at hkm;have hkl:KS.length<=9223372036854775807:=by omega
  obtain⟨i0,hi0',hi1',hi2',hi3'⟩:=Zsv Zsx;clear hin hKC hb8 hx8;have HSTEP:Hid (∀(k:Nat) s,y.steps[k]? =some s->∃b' o' q1 d1 q2 d2,b4=some ⟨b',o',none⟩/\Zcc w3 [.string s.out,.int .i64 s.op,.slice q1 s.args.length d1,.slice q2 s.lits.length d2,.int .i64 s.n] s/\∀w',Below w3.heap.size w3 w'->w'.cell? ⟨b',o'+k*5,none⟩=some (.string s.out)/\w'.cell? ⟨b',o'+k*5+1,none⟩=some (.int .i64 s.op)/\w'.cell? ⟨b',o'+k*5+2,none⟩=some (.slice q1 s.args.length d1)/\w'.cell? ⟨b',o'+k*5+3,none⟩=some (.slice q2 s.lits.length d2)/\w'.cell? ⟨b',o'+k*5+4,none⟩=some (.int .i64 s.n)):=by
   show ∀(k:Nat) s,_;obtain⟨_,_,q,_,_,hcs⟩:=Zbpc HI4.out;injection q with q1 q2 q3
   subst q1;intro k s hs;obtain⟨b',o',q1,d1,q2,d2,e,hst,_,hc⟩:=hcs k s hs;exact⟨b',o',q1,d1,q2,d2,e,hst,hc⟩
  go_wp2
  go_loopw [55] (λjv wq=>∃(j:Nat) (rs:List (List Value)) (av:Option Addr) (cv:Nat),j<=KS.length/\jv = .int .i64 (j:Int)/\PartL w3 w8 X y.name (.slice p1 y.ins.length m1) (.slice (some ⟨X+1,0,none⟩) 1 1) (.slice p3 y.after.length m3) (.slice av j cv) rs (Zcjy y.steps (KS.take j)) wq) (λjv _=>KS.length-(intOf jv).toNat)
  case atStart=>exact⟨0,[],none,0,Nat.zero_le _,rfl,H0.out⟩
  case round=>
   obtain⟨j,rs,av,cv,hj,rfl,hpl⟩:=hrel;obtain⟨WJ,rfl⟩:∃V,V=wr:=⟨_,rfl⟩;obtain⟨hbJ3,hbJ5⟩:=HUP8.out WJ hpl.fr;have hrsl:rs.length=j:=by
    rw[hpl.all.1,(Zcjz (λk hk=>HKLT.out k (List.mem_of_mem_take hk))).1,List.length_take];omega
   by_cases hjl:j<KS.length
   ·obtain⟨k,hk⟩:∃k,KS[j]? =some k:=⟨KS[j],List.getElem?_eq_getElem hjl⟩
    have hkl2:=HKLT.out k (List.mem_of_getElem? hk);obtain⟨s,hs⟩:∃s,y.steps[k]? =some s:=⟨y.steps[k],List.getElem?_eq_getElem hkl2⟩;obtain⟨kb,ko,q,hc⟩:=HKC2.out j k hk;subst q;have hc:=hc WJ hpl.fr;obtain⟨sb,so,q1,d1,q2,d2,q,hst,hcs⟩:=HSTEP.out k s hs;subst q;obtain⟨_,⟨g0,g1,g2,g3,g4⟩,_⟩:=HD.out WJ hbJ3;obtain⟨z0,z1,z2,z3,z4⟩:=hcs WJ hbJ3;have hnx:=Zcka (l:=y.steps) hk hs;have hj1:(j:Int)<(KS.length:Int):=by omega
    have hj0:(0:Int)<=(j:Int):=by omega
    have hk0:(0:Int)<=(k:Int):=by omega
    have hkn:¬(k:Int)<0:=by omega
    have hkL:(k:Int)<(y.steps.length:Int):=by omega
    have hkG:¬(y.steps.length:Int)<=(k:Int):=by omega
    have e1':decide ((k:Int)<0)=false:=decide_eq_false hkn;have e2':decide ((y.steps.length:Int)<=(k:Int))=false:=decide_eq_false hkG;obtain⟨r0,r1,r2,r3,r4,t0,t1,t2,t3,t4⟩:=cells5 hpl.record;have HPL:=hid hpl;have HST:=hid hst;have HNX:=hid hnx;have HRS:=hid hrsl;clear hk hs hcs hst hnx hpl
    go_upto_region 21 with fail
    clear hc;have HOW:Hid (WJ.ownsRow w8.heap.size 42 5 (.slice av j cv) rs.length rs.flatten):=hid HPL.out.own;rw[HRS.out]at HOW;have HBA:=hid (show j+1<=maxLen by unfold maxLen;omega);have HBB:=hid (show(j+1)*80<=140737488355328 by omega);have HSZ:=hid HPL.out.fr.size;have HBW:Hid (∀o,Below WJ.heap.size WJ (WJ.alloc o).drew/\Below WJ.heap.size WJ (WJ.drew.alloc o)):=hid λo=>⟨((Below.refl _ _).alloc (Nat.le_refl _) o).drew,(Below.refl _ _).drew.alloc (Nat.le_refl _) o⟩
    obtain⟨v0,v1,v2,v3,v4,_⟩:=cells5 (HPL.out.later HXL.out (HBW.out (.cells #[.string s.out,.int .i64 s.op,.slice q1 s.args.length d1,.slice q2 s.lits.length d2,.int .i64 s.n] 42)).1).record
    go_wp2_with fail
    go_region_law (first
     | (refine Zcjx (by rfl) _ _ _ (by rfl) w8.heap.size 42 i0 (.agg #[.string ByteArray.empty,.int .i64 0,.slice none 0 0,.slice none 0 0,.int .i64 0]) 5 80 Tryz.underlying23 hi0' hi1' hi2' hi3' rfl (by decide) (.slice av j cv) j rs.flatten (by rfl) (by first|exact HOW.out.drew.alloc _|exact(HOW.out.alloc _).drew) ⟨WJ.heap.size,0,none⟩ 1 1 [.string s.out,.int .i64 s.op,.slice q1 s.args.length d1,.slice q2 s.lits.length d2,.int .i64 s.n] (by rfl) rfl (World.news_of_block (cs:=#[.string s.out,.int .i64 s.op,.slice q1 s.args.length d1,.slice q2 s.lits.length d2,.int .i64 s.n]) (t:=42) (fr:=(0,0)) (heap_alloc_new WJ _)) (by simp[Value.oneCell']) HBA.out HBB.out (by have:=HSZ.out;simp;omega) ?_;intro v' w9 hA0 hgA hnew;obtain⟨aB,cB,rfl,_⟩:=Zbea hA0;have hx9:=HPL.out.kept HXL.out (by first|exact(HBW.out _).1|exact(HBW.out _).2) hgA;obtain⟨x0,x1,x2,x3,x4,y0,y1,y2,y3,y4⟩:=cells5 hx9)
     | fail)
    all_goals
     have hpl2:=(HPL.out.later HXL.out (HBW.out (.cells #[.string s.out,.int .i64 s.op,.slice q1 s.args.length d1,.slice q2 s.lits.length d2,.int .i64 s.n] 42)).1).grow HXL.out hgA HST.out (by rw[HRS.out];exact hA0);rw[<-HNX.out]at hpl2;have HP2:=hid hpl2;clear hpl2 hA0 hgA hnew hx9 x0 x1 x2 x3 x4 y0 y1 y2 y3 y4 v0 v1 v2 v3 v4 r0 r1 r2 r3 r4 t0 t1 t2 t3 t4 z0 z1 z2 z3 z4 g0 g1 g2 g3 g4;go_wp2;go_roundw
     case rel=>exact⟨j+1,_,aB,cB,by omega,by go_num,HP2.out⟩
     case measure=>simp[intOf];omega
   ·have hj1:¬(j:Int)<(KS.length:Int):=by omega
    obtain rfl:j=KS.length:=by omega
    rw[List.take_of_length_le (Nat.le_refl _),<-HPRT.out]at hpl;obtain⟨z1,z2⟩:=z;obtain⟨P,hP⟩:∃P,Zcjo y o=P:=⟨_,rfl⟩;have hPs:P.steps.length=KS.length:=by rw[<-hP,HPRT.out];exact(Zcjz HKLT.out).1
    have hsm:SmallR P 1048576:=by
     rw[<-hP];obtain⟨s0,s1,_,s3,s4,s5⟩:=HYM.out;exact⟨s0,s1,⟨by show 1<=1048576;decide,λa ha=>by rw[show a=o by simpa[Zcjo]using ha];exact HOS.out⟩,s3,by rw[hP,hPs];omega,λq hq=>by
      rw[HPRT.out]at hq;obtain⟨k,_,hk⟩:=List.mem_filterMap.1 (show q∈KS.filterMap λj=>y.steps[j]? from hq);exact s5 q (List.mem_of_getElem? hk)⟩
    have hrv:∀V,Below WJ.heap.size WJ V->RuleI V [.string P.name,.slice p1 P.ins.length m1,.slice (some ⟨X+1,0,none⟩) P.outs.length 1,.slice p3 P.after.length m3,.slice av P.steps.length cv] P:=by
     intro V hV;have hf:Fr (λb=>b=X) w7 V:=(Zpv HB8.out).trans (hpl.fr.trans (Zpv hV));have hrow:=Zbij hpl.own (hpl.all.len λr x h=>by obtain⟨_,_,rfl,_⟩:=h;rfl);have hst3:StepsI WJ (.slice av KS.length cv) P.steps:=by
      rw[<-hP];exact⟨rs,hrow,hpl.all.imp λr x h=>by obtain⟨a',b',e,h1,h2⟩:=h;exact⟨a',b',e,h1.below hbJ3,h2.below hbJ3⟩⟩
     rw[hPs];refine⟨_,_,_,_,rfl,?_,?_,?_,hst3.below hV⟩
     ·rw[<-hP];exact StrsA.isStrs (RowA.keep HKK.out.1 hf)
     ·rw[<-hP];exact StrsA.isStrs (RowA.keep HKK.out.2.1 hf)
     ·rw[<-hP];exact StrsA.isStrs (RowA.keep HKK.out.2.2 hf)
    have hrr:Zbiz P p1 (some ⟨X+1,0,none⟩) p3 av m1 1 m3 cv = #[.string y.name,.slice p1 y.ins.length m1,.slice (some ⟨X+1,0,none⟩) 1 1,.slice p3 y.after.length m3,.slice av KS.length cv]:=by
     unfold Zbiz;rw[hPs,<-hP];rfl
    have hwJ:Below B w WJ:=(HD.out WJ hbJ3).1;have hPin:P.ins.length=y.ins.length:=by rw[<-hP];rfl
    have CO2:Hid (∀V,Below WJ.heap.size WJ V->Calls Tryz.prog 16 #[.agg #[.string y.name,.slice p1 y.ins.length m1,.slice (some ⟨X+1,0,none⟩) 1 1,.slice p3 y.after.length m3,.slice av KS.length cv],.slice (some ⟨g,0,none⟩) y.ins.length y.ins.length] V λe w'=>∃ov' oc,e = .returned (.slice ov' 1 oc)/\Zbb w' (.slice ov' 1 oc) [(z1,z2)]/\Below V.heap.size V w'):=by
     show ∀V,_;intro V hV;rw[<-hrr];have hb4V:Below w4.heap.size w4 V:=HB45.out.trans ((hbJ5.trans (hV.mono hbJ5.size)).mono HB45.out.size);refine(Zbcd P p1 (some ⟨X+1,0,none⟩) p3 av m1 1 m3 cv _ A V (hrv V hV) hsm (HVA.out V hb4V) (by rw[HAL.out,HNN.out];omega) HAS.out (HGL.out V (hwJ.trans (hV.mono (by have h1:=hwJ.size;have h2:=HB.out;omega))))).mono ?_;rintro e w' ⟨v',rfl,h1,h2⟩;rw[<-hP,HRUN.out]at h1;obtain⟨a',c',rfl,_⟩:=id h1;exact⟨a',c',rfl,h1,h2⟩
    have CKR:Hid (∀V,Below WJ.heap.size WJ V->Calls Tryz.prog 21 #[.agg #[.string y.name,.slice p1 y.ins.length m1,.slice (some ⟨X+1,0,none⟩) 1 1,.slice p3 y.after.length m3,.slice av KS.length cv]] V λe w'=>e = .returned (.int .i64 0)/\Below V.heap.size V w'):=by
     show ∀V,_;intro V hV;rw[<-hrr];have:=Zir P p1 (some ⟨X+1,0,none⟩) p3 av m1 1 m3 cv V (hrv V hV) hsm (HGL.out V (hwJ.trans (hV.mono (by have h1:=hwJ.size;have h2:=HB.out;omega)))).max;rw[<-hP,HPOK.out,hP]at this;exact this
    have hXJ:X<WJ.heap.size:=Nat.lt_of_lt_of_le HXL.out hpl.fr.size;have hrec:=hpl.record;have HREC:Hid (∀V,Below WJ.heap.size WJ V->V.cell? ⟨X,0,none⟩=some (.string y.name)/\V.cell? ⟨X,1,none⟩=some (.slice p1 y.ins.length m1)/\V.cell? ⟨X,2,none⟩=some (.slice (some ⟨X+1,0,none⟩) 1 1)/\V.cell? ⟨X,3,none⟩=some (.slice p3 y.after.length m3)/\V.cell? ⟨X,4,none⟩=some (.slice av KS.length cv)):=by
     show ∀V,_;intro V hV;obtain⟨k0,k1,k2,k3,k4,_⟩:=cells5 ((hV.block X hXJ).trans hrec);exact⟨k0,k1,k2,k3,k4⟩
    have HJ5:=hid hbJ5;obtain⟨r0,r1,r2,r3,r4⟩:=HREC.out WJ (Below.refl _ _);clear hpl hbJ3 hbJ5 hP hPs hsm hrv hrr hwJ hPin hXJ hrec
    go_wp2_with fail
    refine(CO2.out WJ (Below.refl _ _)).mono ?_;rintro e WO ⟨ov',oc,rfl,hov,hbO⟩;obtain⟨_,_,q,hoc1,hoc2,hox⟩:=Zcjm hov;injection q with q1 q2 q3
    subst q1 q3;clear q2;obtain⟨vb,vo,q,hox1⟩:=hox 0 _ rfl;subst q;simp only[Nat.zero_mul,Nat.add_zero]at hox1;have HUPO:Hid (∀V,Below WO.heap.size WO V->Below WJ.heap.size WJ V):=hid λV hV=>hbO.trans (hV.mono hbO.size)
    have HLI2:Hid (∀V,Below WO.heap.size WO V->Below w5.heap.size w5 V):=hid λV hV=>HJ5.out.trans ((HUPO.out V hV).mono HJ5.out.size)
    have hx0:∀V,Below WO.heap.size WO V->V.cell? ⟨X,0,none⟩=some (.string y.name):=λV hV=>(HREC.out V (HUPO.out V hV)).1
    have hx1:∀V,Below WO.heap.size WO V->V.cell? ⟨X,1,none⟩=some (.slice p1 y.ins.length m1):=λV hV=>(HREC.out V (HUPO.out V hV)).2.1
    have hx2:∀V,Below WO.heap.size WO V->V.cell? ⟨X,2,none⟩=some (.slice (some ⟨X+1,0,none⟩) 1 1):=λV hV=>(HREC.out V (HUPO.out V hV)).2.2.1
    have hx3:∀V,Below WO.heap.size WO V->V.cell? ⟨X,3,none⟩=some (.slice p3 y.after.length m3):=λV hV=>(HREC.out V (HUPO.out V hV)).2.2.2.1
    have hx4:∀V,Below WO.heap.size WO V->V.cell? ⟨X,4,none⟩=some (.slice av KS.length cv):=λV hV=>(HREC.out V (HUPO.out V hV)).2.2.2.2
    have ho0:∀V,Below WO.heap.size WO V->V.cell? ⟨vb,vo,none⟩=some (.bool z1):=λV hV=>(hox1 V hV).1
    have ho1:∀V,Below WO.heap.size WO V->V.cell? ⟨vb,vo+1,none⟩=some (.string z2):=λV hV=>(hox1 V hV).2
    have hl0:∀V,Below WO.heap.size WO V->V.cell? ⟨lb,lo+i*2,none⟩=some (.bool z1):=λV hV=>(HLI.out V (HLI2.out V hV)).1
    have hl1:∀V,Below WO.heap.size WO V->V.cell? ⟨lb,lo+i*2+1,none⟩=some (.string z2):=λV hV=>(HLI.out V (HLI2.out V hV)).2
    have HS0:Hid (Below WO.heap.size WO WO.drew):=hid (Below.refl _ _).drew;have HCK:=hid (CKR.out WO.drew (HUPO.out _ HS0.out));have hnq:=Zcjd z1 z2;have hgd:=Zcit;clear hov hox hox1 hoc1 hbO r0 r1 r2 r3 r4 CO2 CKR
    go_wp2_with fail
    go_region_held3 (λw'=>Below WO.heap.size WO w') (first|assumption|exact HS0.out)
     (first
      | (go_at_call 21;refine HCK.out.mono ?_;rintro e w12 ⟨rfl,hSn⟩;have hSn:=HS0.out.trans (hSn.mono HS0.out.size))
      | fail)
    have HSN:=hid hSn;clear hSn hx0 hx1 hx2 hx3 hx4 ho0 ho1 hl0 hl1;go_wp2;go_roundw
    case rel=>exact⟨i+1,by omega,by go_num,HLI2.out _ HSN.out⟩
    case measure=>simp[intOf];omega
end Go.Proofs.YtmgcaldphpnfgaaGreatDoor.lawRunPart
