import Derived.Test.YthkehhphnbckaaaGreatDoorMcb
namespace Go.Proofs.YthkehhphnbckaaaGreatDoor.lawStepFail
open Go.RowKit Go.Shelf
theorem Zbwz (n:Int) (d:Nat) (hd:0<d) (hd2:d<1000):∃N:Nat,(wrap64 (n.tmod (d:Int)+(d:Int))).tmod (d:Int)=(N:Int)∧N<d:=by
 have h1:=Int.tmod_lt_of_pos n (show(0:Int)<(d:Int) by omega)
 have h2:=Int.lt_tmod_of_pos n (show(0:Int)<(d:Int) by omega)
 have h3:wrap64 (n.tmod d+d)=n.tmod d+d:=by unfold wrap64;omega
 rw[h3]
 have h4:=Int.tmod_lt_of_pos (n.tmod d+d) (show(0:Int)<(d:Int) by omega)
 have h5:=Int.tmod_nonneg (d:Int) (show 0≤n.tmod d+d by omega)
 exact⟨((n.tmod d+d).tmod d).toNat,by omega,by omega⟩
def boxW (w:World) (B:Nat) (x:StepS) (b1 b2:Option Addr) (m1 m2:Nat):World:=
 ((((w.setCell ⟨B,0,none⟩ (.string x.out)).setCell ⟨B,1,none⟩ (.int .i64 x.op)).setCell ⟨B,2,none⟩ (.slice b1 x.args.length m1)).setCell ⟨B,3,none⟩ (.slice b2 x.lits.length m2)).setCell ⟨B,4,none⟩ (.int .i64 x.n)
theorem Zbvi (w:World) (B:Nat) (x:StepS) (b1 b2:Option Addr) (m1 m2:Nat):Below B w (boxW w B x b1 b2 m1 m2):=
 (((((Below.refl _ _).setCell (p:=⟨B,0,none⟩) (Nat.le_refl _) _).setCell (p:=⟨B,1,none⟩) (Nat.le_refl _) _).setCell (p:=⟨B,2,none⟩) (Nat.le_refl _) _).setCell (p:=⟨B,3,none⟩) (Nat.le_refl _) _).setCell (p:=⟨B,4,none⟩) (Nat.le_refl _) _
theorem Zbvj (w:World) (B:Nat) (x:StepS) (b1 b2:Option Addr) (m1 m2 k:Nat) (h:k≠B):(boxW w B x b1 b2 m1 m2).heap[k]? =w.heap[k]?:=by
 unfold boxW
 rw[Below.heap_setCell _ _ _ _ h,Below.heap_setCell _ _ _ _ h,Below.heap_setCell _ _ _ _ h,Below.heap_setCell _ _ _ _ h,Below.heap_setCell _ _ _ _ h]
theorem Zbvh (w:World) (B:Nat) (x:StepS) (b1 b2:Option Addr) (m1 m2:Nat) {a b c d e:Value} (h:w.heap[B]? =some (.cells #[a,b,c,d,e] 39)):(boxW w B x b1 b2 m1 m2).heap[B]? =some (.cells (Zbny x b1 b2 m1 m2) 39):=
 heap_set _ _ (heap_set _ _ (heap_set _ _ (heap_set _ _ (heap_set _ _ h))))
theorem Zbvk {w w':World} {k o:Nat} (h:w'.heap[k]? =w.heap[k]?):w'.cell? ⟨k,o,none⟩=w.cell? ⟨k,o,none⟩:=by simp only[World.cell?,h]
theorem Zbwj {w w':World} {k o:Nat} (h:w'.heap[k]? =w.heap[k]?):w'.frozen? ⟨k,o,none⟩=w.frozen? ⟨k,o,none⟩:=by simp only[World.frozen?,h]
set_option maxHeartbeats 8000000
set_option maxRecDepth 100000
theorem law (x:StepS) (a1 a2:Option Addr) (c1 c2:Nat) (v:Value) (us:List (Bool×ByteArray)) (n:Int) (w:World) (h1:IsStrs w (.slice a1 x.args.length c1) x.args) (h2:IsStrs w (.slice a2 x.lits.length c2) x.lits) (hs:SmallS x 1048576)
  (hV0:Zbb w v us) (hz:∀u∈us,u.2.size≤1048576) (hG:GP w.heap.size w):
  Calls Tryz.prog 5 #[.agg (Zbny x a1 a2 c1 c2),v,.int .i64 n] w fun e w'=>e = .returned (.bool true)∧Below w.heap.size w w':=by
 obtain⟨W0,hW0⟩:∃V,w.alloc (.cells (Zbny x a1 a2 c1 c2) 39)=V:=⟨_,rfl⟩
 obtain⟨B,hB⟩:∃m,w.heap.size=m:=⟨_,rfl⟩
 have hb0:Below B w W0:=by rw[←hW0,←hB];exact(Below.refl _ _).alloc (Nat.le_refl _) _
 have hs0:W0.heap.size=B+1:=by rw[←hW0];simp[hB]
 have hx0:W0.heap[B]? =some (.cells (Zbny x a1 a2 c1 c2) 39):=by rw[←hW0,←hB];exact alloc_at w _
 rw[hB]at hG
 have CB:=Lib.hid (Zfc W0 ((hG.below hb0).up (by omega)))
 have HBsz:Hid (w.heap.size=B):=Lib.hid hB
 have HFIN:Hid (∀V,Below B w V→Below w.heap.size w V):=Lib.hid (by rw[hB];exact fun _ h=>h)
 have HGL:Hid (∀V,Below B w V→Glob V):=Lib.hid fun V hV=>(hG.below hV).glob
 have ha1:∀V,Below B w V→IsStrs V (.slice a1 x.args.length c1) x.args:=fun V hV=>h1.below (by rw[hB];exact hV)
 have ha2:∀V,Below B w V→IsStrs V (.slice a2 x.lits.length c2) x.lits:=fun V hV=>h2.below (by rw[hB];exact hV)
 have hav:∀V,Below B w V→Zbb V v us:=fun V hV=>Zbsi hV0 (by rw[hB];exact hV)
 have hxl:(cutS x).args.length≤8:=by show(x.args.take 8).length≤8;rw[List.length_take];omega
 have CS:Hid (∀V,Below B w V→B+1≤V.heap.size→Calls Tryz.prog 18 #[.agg (Zbny x a1 a2 c1 c2)] V (Zbuy x V)):=Lib.hid fun V hV _=>Zbxx x a1 a2 c1 c2 V (ha1 V hV) (ha2 V hV) hs
 have CV:Hid (∀V,Below B w V→Calls Tryz.prog 19 #[v] V (Zbuz V (tenV us))):=Lib.hid fun V hV=>Zbyb v us V (hav V hV)
 have hten:∀u∈tenV us,u.2.size≤1048576:=by
  intro u hu
  unfold tenV at hu
  obtain⟨u0,h0,rfl⟩:=List.mem_map.1 hu
  have:=hz u0 (List.mem_of_mem_take h0)
  unfold oneV
  simp only
  split
  ·exact this
  ·exact Nat.zero_le _
 have htl:(tenV us).length≤10:=by unfold tenV;rw[List.length_map,List.length_take];omega
 obtain⟨y,hy⟩:∃y,cutS x=y:=⟨_,rfl⟩
 obtain⟨vs,hvs⟩:∃y,tenV us=y:=⟨_,rfl⟩
 unfold Zbuy at CS
 unfold Zbuz at CV
 rw[hy]at hxl CS
 rw[hvs]at hten htl CV
 have HW0:=Lib.hid hW0;have HB:=Lib.hid hB;have HB0:=Lib.hid hb0;have HS0:=Lib.hid hs0;have HX0:=Lib.hid hx0;have HTEN:=Lib.hid hten
 have HXD:Hid (∀V,Below W0.heap.size W0 V→V.heap[B]? =some (.cells (Zbny x a1 a2 c1 c2) 39)):=Lib.hid fun V hV=>(hV.block B (by omega)).trans hx0
 clear h1 h2 hs hV0 hz hG hW0 hB hb0 hs0 hx0 ha1 ha2 hav hten hy hvs
 go_enter Tryz.func5,Tryz.ntmps5
 go_wp2_with fail
 rw[HW0.out,HB.out]
 refine CB.out.mono ?_
 rintro e w1 ⟨rfl,hb1⟩
 have h01:Below B w w1:=HB0.out.trans (hb1.mono (by have:=HS0.out;omega))
 have hs1:B+1≤w1.heap.size:=by have:=hb1.size;have:=HS0.out;omega
 obtain⟨d0,d1,d2,d3,d4,_⟩:=cells5 (HXD.out w1 hb1)
 have H01:=Lib.hid h01;have HS1:=Lib.hid hs1;have H1:=Lib.hid hb1
 clear h01 hs1 hb1
 go_wp2_with fail
 refine(CS.out w1 H01.out HS1.out).mono ?_
 rintro e w2 ⟨b1,m1,b2,m2,rfl,hya,hyl,hb2⟩
 have H02:=Lib.hid (H01.out.trans (hb2.mono (by have:=HS1.out;omega)))
 have HYA:=Lib.hid hya;have HYL:=Lib.hid hyl;have H12:=Lib.hid hb2
 clear hya hyl hb2 d0 d1 d2 d3 d4
 go_wp2_with fail
 refine(CV.out w2 H02.out).mono ?_
 rintro e w3 ⟨v3,rfl,hown,hb3⟩
 have hB2:B+1≤w2.heap.size:=Nat.le_trans HS1.out H12.out.size
 have hx3:=HXD.out w3 (H1.out.trans ((H12.out.mono H1.out.size).trans (hb3.mono (Nat.le_trans H1.out.size H12.out.size))))
 have hfr:Fr (fun k=>k<w1.heap.size) w2 (boxW w3 B y b1 b2 m1 m2):=by
  have hbx:=Zbvi w3 B y b1 b2 m1 m2
  refine⟨hbx.os.trans hb3.os,hbx.tape.trans hb3.tape,hbx.output.trans hb3.output,Nat.le_trans hb3.size hbx.size,fun k hk hn=>?_⟩
  rw[Zbvj _ _ _ _ _ _ _ _ (by intro e;apply hn;show k<_;have:=HS1.out;omega)]
  exact hb3.block k hk
 have h34:Below B w3 (boxW w3 B y b1 b2 m1 m2):=Zbvi _ _ _ _ _ _ _
 have h04:Below B w (boxW w3 B y b1 b2 m1 m2):=(H02.out.trans (hb3.mono (by omega))).trans h34
 have hsA:=StrsA.isStrs (Av:=fun k=>k<w1.heap.size) (RowA.keep HYA.out hfr)
 have hsL:=StrsA.isStrs (Av:=fun k=>k<w1.heap.size) (RowA.keep HYL.out hfr)
 have hx4:=Zbvh w3 B y b1 b2 m1 m2 hx3
 have hoth:∀k,k≠B→(boxW w3 B y b1 b2 m1 m2).heap[k]? =w3.heap[k]?:=fun k hk=>Zbvj _ _ _ _ _ _ _ _ hk
 obtain⟨w4,hw4⟩:∃V,boxW w3 B y b1 b2 m1 m2=V:=⟨_,rfl⟩
 rw[hw4]at hfr h34 h04 hsA hsL hx4 hoth
 have hw4':=hw4
 unfold boxW at hw4'
 obtain⟨e0,e1,e2,e3,e4,_⟩:=cells5 hx3
 obtain⟨f0,f1,f2,f3,f4,_⟩:=cells5 hx4
 have H34s:=Lib.hid h34.size
 have HW4:=Lib.hid hw4';have HX4:=Lib.hid hx4;have H04:=Lib.hid h04;have HSA:=Lib.hid hsA;have HSL:=Lib.hid hsL
 obtain⟨lv,cv,rfl,hcv⟩:∃a c,v3 = .slice a vs.length c∧vs.length≤c∧c≤maxLen:=by
  obtain⟨a,c,e,h1,h2,_⟩:=Zbyj hown
  exact⟨a,c,e,h1,h2⟩
 have hcv1:=hcv.1
 have hcv2:=hcv.2
 have hvin:=Zbyj hown
 obtain⟨g,hg⟩:∃g,vs≠[]→lv=some ⟨g,0,none⟩∧w2.heap.size≤g∧g<w3.heap.size∧∀o,w3.frozen? ⟨g,o,none⟩=false:=by
  rcases hown with⟨_,⟨_,h0⟩|⟨g,cap,cur,e,hgb,hgh,_⟩⟩
  ·exact⟨0,fun h=>absurd (List.eq_nil_of_length_eq_zero h0) h⟩
  ·obtain⟨ea,_,_⟩:=Value.slice.inj e
   exact⟨g,fun _=>⟨ea,hgb,(Array.getElem?_eq_some_iff.1 hgh).1,fun o=>by simp[World.frozen?,hgh]⟩⟩
 have hvc:∀(j:Nat) u,vs[j]? =some u→w3.cell? ⟨g,j*2,none⟩=some (.bool u.1)∧w3.cell? ⟨g,j*2+1,none⟩=some (.string u.2):=by
  intro j u hu
  obtain⟨a,c,e,_,_,h⟩:=hvin
  obtain⟨ea,_,_⟩:=Value.slice.inj e
  have hne:vs≠[]:=by rintro rfl;simp at hu
  obtain⟨b,o,eb,_,hc⟩:=h hne
  rw[←ea,(hg hne).1]at eb
  injection eb with eb
  injection eb with eb1 eb2
  subst eb1 eb2
  have:=hc j u hu
  simpa using this
 have HG:=Lib.hid hg;have HVC:=Lib.hid hvc;have HOTH:=Lib.hid hoth;have H3:=Lib.hid hb3;have HB2:=Lib.hid hB2;have HFR:=Lib.hid hfr
 clear hown hvin hvc hg hcv hx3 hx4 hfr h34 h04 hsA hsL hoth hw4 hw4' hb3 hB2
 unfold maxLen at hcv2
 go_upto_region 5 with fail
 rw[HW4.out]
 by_cases hA:vs.length<y.args.length
 ·have hAi:(vs.length:Int)<(y.args.length:Int):=by omega
  go_wp2
  go_ret
  exact⟨rfl,HFIN.out _ H04.out⟩
 ·have hAi:¬(vs.length:Int)<(y.args.length:Int):=by omega
  by_cases hZ:y.args.length=0
  ·have hZi:(y.args.length:Int)=0:=by omega
   go_wp2
   go_ret
   exact⟨rfl,HFIN.out _ H04.out⟩
  ·have hZi:¬(y.args.length:Int)=0:=by omega
   have hne:vs≠[]:=by
    intro e
    have:vs.length=0:=by rw[e];rfl
    omega
   obtain⟨rfl,hg1,hg2,hg3⟩:=HG.out hne
   obtain⟨P,hP,hPl⟩:=Zbwz n y.args.length (by omega) (by omega)
   obtain⟨u,hu⟩:∃u,vs[P]? =some u:=⟨vs[P]'(by omega),List.getElem?_eq_getElem _⟩
   have hgB:g≠B:=by have:=HB2.out;omega
   have q0:w4.cell? ⟨g,P*2,none⟩=some (.bool u.1):=(Zbvk (HOTH.out g hgB)).trans (HVC.out P u hu).1
   have q1:w4.cell? ⟨g,P*2+1,none⟩=some (.string u.2):=(Zbvk (HOTH.out g hgB)).trans (HVC.out P u hu).2
   have r0:w4.frozen? ⟨g,P*2,none⟩=false:=(Zbwj (HOTH.out g hgB)).trans (hg3 _)
   have r1:w4.frozen? ⟨g,P*2+1,none⟩=false:=(Zbwj (HOTH.out g hgB)).trans (hg3 _)
   obtain⟨w5,hw5⟩:∃V,(w4.setCell ⟨g,P*2,none⟩ (.bool false)).setCell ⟨g,P*2+1,none⟩ (.string ⟨#[]⟩)=V:=⟨_,rfl⟩
   have h45:∀k,k≠g→w5.heap[k]? =w4.heap[k]?:=fun k hk=>by rw[←hw5,Below.heap_setCell _ _ _ _ hk,Below.heap_setCell _ _ _ _ hk]
   have hb45:Below g w4 w5:=by
    rw[←hw5]
    exact((Below.refl _ _).setCell (p:=⟨g,P*2,none⟩) (Nat.le_refl _) _).setCell (p:=⟨g,P*2+1,none⟩) (Nat.le_refl _) _
   have h05:Below B w w5:=H04.out.trans (hb45.mono (by have:=HB2.out;omega))
   have hfr5:Fr (fun k=>k<w1.heap.size) w2 w5:=by
    refine⟨h05.os.trans H02.out.os.symm,h05.tape.trans H02.out.tape.symm,h05.output.trans H02.out.output.symm,Nat.le_trans HFR.out.size hb45.size,fun k hk hn=>?_⟩
    rw[h45 k (by omega)]
    exact HFR.out.block k hk hn
   have k1:=StrsA.isStrs (Av:=fun k=>k<w1.heap.size) (RowA.keep HYA.out hfr5)
   have k2:=StrsA.isStrs (Av:=fun k=>k<w1.heap.size) (RowA.keep HYL.out hfr5)
   have hlen:((vs.take y.args.length).set P noV).length=y.args.length:=by rw[List.length_set,List.length_take];omega
   have k3:Zbb w5 (.slice (some ⟨g,0,none⟩) y.args.length cv) ((vs.take y.args.length).set P noV):=by
    refine⟨_,cv,by rw[hlen],by rw[hlen];omega,by unfold maxLen;exact hcv2,fun _=>⟨g,0,rfl,Nat.lt_of_lt_of_le hg2 (Nat.le_trans H34s.out hb45.size),fun j z hj=>?_⟩⟩
    rw[Nat.zero_add]
    by_cases e:j=P
    ·subst e
     rw[List.getElem?_set_self (by rw[List.length_take];omega)]at hj
     obtain rfl:noV=z:=by simpa using hj
     rw[←hw5]
     refine⟨?_,?_⟩
     ·rw[World.cell?_setCell_other (w:=w4.setCell ⟨g,j*2,none⟩ (.bool false)) (a:=⟨g,j*2+1,none⟩) (b:=⟨g,j*2,none⟩) (h:=fun e'=>by have:=congrArg Addr.off e';simp at this),World.cell?_setCell_same _ _ _ q0]
      rfl
     ·exact World.cell?_setCell_same _ _ _ (show(w4.setCell ⟨g,j*2,none⟩ (.bool false)).cell? ⟨g,j*2+1,none⟩=some (.string u.2) by rw[World.cell?_setCell_other (w:=w4) (a:=⟨g,j*2,none⟩) (b:=⟨g,j*2+1,none⟩) (h:=fun e'=>by have:=congrArg Addr.off e';simp at this)];exact q1)
    ·rw[List.getElem?_set_ne (fun e'=>e e'.symm)]at hj
     have hj2:vs[j]? =some z:=by
      rw[List.getElem?_take]at hj
      split at hj
      ·exact hj
      ·cases hj
     have hh:=HVC.out j z hj2
     rw[←hw5]
     have o:∀i b,(i=0∨i=1)→w3.cell? ⟨g,j*2+i,none⟩=some b→((w4.setCell ⟨g,P*2,none⟩ (.bool false)).setCell ⟨g,P*2+1,none⟩ (.string ⟨#[]⟩)).cell? ⟨g,j*2+i,none⟩=some b:=by
      intro i b hi hc
      rw[World.cell?_setCell_other (w:=w4.setCell ⟨g,P*2,none⟩ (.bool false)) (a:=⟨g,P*2+1,none⟩) (b:=⟨g,j*2+i,none⟩) (h:=fun e'=>by have:=congrArg Addr.off e';simp only at this;omega),World.cell?_setCell_other (w:=w4) (a:=⟨g,P*2,none⟩) (b:=⟨g,j*2+i,none⟩) (h:=fun e'=>by have:=congrArg Addr.off e';simp only at this;omega),Zbvk (HOTH.out g hgB)]
      exact hc
     exact⟨o 0 _ (.inl rfl) hh.1,o 1 _ (.inr rfl) hh.2⟩
   have hdo:=Zlw y b1 b2 m1 m2 _ _ w5 k1 k2 k3 (by rw[hlen];omega) (by
    intro z hz
    rcases List.mem_or_eq_of_mem_set hz with h|rfl
    ·have:=HTEN.out z (List.mem_of_mem_take h);omega
    ·exact Nat.zero_le _) (HGL.out _ h05)
   unfold Zan at hdo
   rw[Zbwa (v:=noV) (List.mem_set (by rw[List.length_take];omega) _) rfl]at hdo
   have HDO:Hid (Calls Tryz.prog 20 #[.agg (Zbny y b1 b2 m1 m2),.slice (some ⟨g,0,none⟩) y.args.length cv] w5 fun e w'=>e = .returned (.agg #[.bool false,.string ⟨#[]⟩])∧Below w5.heap.size w5 w'):=Lib.hid hdo
   have f5:w5.heap[B]? =w4.heap[B]?:=h45 B (fun e=>hgB e.symm)
   have HX5:=Lib.hid (f5.trans HX4.out)
   have H05:=Lib.hid h05;have HW5:=Lib.hid hw5
   clear h45 hb45 h05 hfr5 k1 k2 k3 hdo f5 hw5 hlen hu
   go_upto_region 9 with fail
   rw[HW5.out]
   obtain⟨i0,i1,i2,i3,i4,_⟩:=cells5 HX5.out
   clear f0 f1 f2 f3 f4 q0 q1 r0 r1
   go_wp2_with fail
   refine HDO.out.mono ?_
   rintro e w6 ⟨rfl,hb6⟩
   have H06:=Lib.hid (HFIN.out _ (H05.out.trans (hb6.mono (by have:=H05.out.size;have:=HBsz.out;omega))))
   clear hb6 i0 i1 i2 i3 i4
   go_wp2
   go_ret
   exact⟨rfl,H06.out⟩
end Go.Proofs.YthkehhphnbckaaaGreatDoor.lawStepFail
