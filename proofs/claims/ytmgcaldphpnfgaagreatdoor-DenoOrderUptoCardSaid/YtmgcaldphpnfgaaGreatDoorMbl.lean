import Derived.Test.YtmgcaldphpnfgaaGreatDoorMbj
import Derived.Test.YtmgcaldphpnfgaaGreatDoorMbk
import Derived.Deep.RegionLaw
import Derived.Lib.ItoaLen
import Derived.Deep.RegionHeld3
import Derived.Lib.ItoaNum
import Derived.Lib.AtoiAllCases
namespace Go.Proofs.YtmgcaldphpnfgaaGreatDoor
open Go.Lib (hid)
open Go.RowKit Go.Shelf
structure LawL (W5:World) (B:Nat) (x:RuleS) (vi vo vf vs:Value) (ys:List StepS) (wr:World):Prop where
 below:Below B W5 wr
 ins:StrsA (λb=>b<B) wr vi (cutQ x).ins
 outs:StrsA (λb=>b<B) wr vo (cutQ x).outs
 after:StrsA (λb=>b<B) wr vf (cutQ x).after
 steps:StepsA (λb=>b<B) wr vs ys
 canw:OpenV wr vs
set_option maxHeartbeats 8000000 in
set_option maxRecDepth 100000 in
theorem Zwx (x:RuleS) (vi vo vf vs:Value) (w:World) (h:RuleI w [.string x.name,vi,vo,vf,vs] x) (hf:SmallR x 1048576):
  Calls Tryz.prog 51 #[.agg #[.string x.name,vi,vo,vf,vs]] w λe w'=>Zbu w w' (cutR x) e/\Below w.heap.size w w':=by
 obtain⟨_,_,_,_,q,h1,h2,h3,h4⟩:=h
 cases q
 obtain⟨a1,c1,rfl,hle1,hmx1,_⟩:=id h1;obtain⟨a2,c2,rfl,hle2,hmx2,_⟩:=id h2;obtain⟨a3,c3,rfl,hle3,hmx3,_⟩:=id h3;obtain⟨rows,hrow,hall⟩:=id h4;obtain⟨a4,c4,rfl,hle4,hmx4,_⟩:=id hrow;obtain⟨ob,hob⟩:∃o:Obj,o = .cells #[.string x.name,.slice a1 x.ins.length c1,.slice a2 x.outs.length c2,.slice a3 x.after.length c3,.slice a4 rows.length c4] 25:=⟨_,rfl⟩;obtain⟨W1,hW1⟩:∃W1,(w.alloc ob).alloc (.cells #[.string ⟨#[]⟩,.slice none 0 0,.slice none 0 0,.slice none 0 0,.slice none 0 0] 25)=W1:=⟨_,rfl⟩;have hb1:Below w.heap.size w W1:=by rw[<-hW1];exact((Below.refl _ _).alloc (Nat.le_refl _) _).alloc (by simp) _
 have hs1:W1.heap.size=w.heap.size+2:=by rw[<-hW1];simp
 have hx1:W1.heap[w.heap.size]? =some ob:=by rw[<-hW1,Below.heap_alloc _ _ _ (by simp)];exact alloc_at w ob
 have hx2:W1.heap[w.heap.size+1]? =some (.cells #[.string ⟨#[]⟩,.slice none 0 0,.slice none 0 0,.slice none 0 0,.slice none 0 0] 25):=by
  rw[<-hW1];have:=alloc_at (w.alloc ob) (.cells #[.string ⟨#[]⟩,.slice none 0 0,.slice none 0 0,.slice none 0 0,.slice none 0 0] 25);simpa using this
 subst hob;have hcell:∀w',Below W1.heap.size W1 w'->_:=λw' (hb:Below W1.heap.size W1 w')=>cells5 ((hb.block w.heap.size (by omega)).trans hx1)
 have hc0:=λw' hb=>(hcell w' hb).1
 have hc1:=λw' hb=>(hcell w' hb).2.1
 have hc2:=λw' hb=>(hcell w' hb).2.2.1
 have hc3:=λw' hb=>(hcell w' hb).2.2.2.1
 have hc4:=λw' hb=>(hcell w' hb).2.2.2.2.1
 have HC4:=hid hc4;have HS0:Hid (Below W1.heap.size W1 W1.drew):=by show Below _ _ _;exact(Below.refl _ _).drew
 have HU:Hid (∀w' o,Below W1.heap.size W1 w'->Below W1.heap.size W1 (w'.alloc o)):=by show ∀w' o,_;exact λw' o h=>h.alloc h.size o
 have HUD:Hid (∀o,Below W1.heap.size W1 (W1.alloc o).drew):=by show ∀o,_;exact λo=>((Below.refl _ _).alloc (Nat.le_refl _) o).drew
 have HB1:=hid hb1;have H1:Hid (∀w',Below W1.heap.size W1 w'->IsStrs w' (.slice a1 x.ins.length c1) x.ins):=by show ∀w',_;exact λw' hb=>h1.below (hb1.trans (hb.mono hb1.size))
 have H2:Hid (∀w',Below W1.heap.size W1 w'->IsStrs w' (.slice a2 x.outs.length c2) x.outs):=by show ∀w',_;exact λw' hb=>h2.below (hb1.trans (hb.mono hb1.size))
 have H3:Hid (∀w',Below W1.heap.size W1 w'->IsStrs w' (.slice a3 x.after.length c3) x.after):=by show ∀w',_;exact λw' hb=>h3.below (hb1.trans (hb.mono hb1.size))
 have H4:=hid h4;have HX2:=hid hx2;have HW1:=hid hW1;have N1:=hid hf.ins.1;have N2:=hid hf.outs.1;have N3:=hid hf.after.1;have HFS:=hid hf;have HS1:=hid hs1;clear hcell h1 h2 h3 h4 hb1 hs1 hx1 hx2 hc4 hf hrow hW1;have e1:=take_len x.ins.length 10 10 rfl;have e2:=take_len x.outs.length 6 6 rfl;have e3:=take_len x.after.length 10 10 rfl;have e4:=take_len rows.length 14 14 rfl;have k1:(0:Int)<=min (x.ins.length:Int) 10:=by omega
 have k2:(0:Int)<=min (x.outs.length:Int) 6:=by omega
 have k3:(0:Int)<=min (x.after.length:Int) 10:=by omega
 have k4:(0:Int)<=min (rows.length:Int) 14:=by omega
 have m1:min (x.ins.length:Int) 10<=(c1:Int):=by omega
 have m2:min (x.outs.length:Int) 6<=(c2:Int):=by omega
 have m3:min (x.after.length:Int) 10<=(c3:Int):=by omega
 have m4:min (rows.length:Int) 14<=(c4:Int):=by omega
 have hc4:=HC4.out;unfold maxLen at hmx1 hmx2 hmx3 hmx4
 go_enter Tryz.func51,Tryz.ntmps51
 go_upto_region 1 with fail
 rw[HW1.out];refine wp_region_held_drew (S:=λw'=>Below W1.heap.size W1 w') (by kernel_rfl) ?_ (λhHeld=>?_)
 ·exact HS0.out
 refine tkK 0 ?_;refine tkK 1 ?_;refine tkK 2 ?_;refine tkK 3 ?_;refine tkK 4 ?_;refine tkK 5 ?_;refine tkK 6 ?_;refine tkK 7 ?_;refine tkK 8 ?_;refine tkK 9 ?_;refine tkK 10 ?_;refine tkK 11 ?_;refine tkK 12 ?_;refine tkK 13 ?_;refine tkK 14 ?_;refine tkK 15 ?_;refine tkK 16 ?_;refine tkK 17 ?_;refine tkK 18 ?_;refine tkK 19 ?_;refine tkK 20 ?_;refine tkK 21 ?_;refine tkK 22 ?_;refine tkK 23 ?_;refine tkK 24 ?_;refine tkK 25 ?_;refine tkK 26 ?_;refine tkK 27 ?_;refine tkK 28 ?_;refine tkK 29 ?_;refine tkK 30 ?_
 try simp only[Act.put,List.setIfInBounds_toArray,List.set_cons_zero,List.set_cons_succ]
 refine rdH [31] ?_;refine rcH (λK hK=>?_) ?_
 ·go_simp
  refine hK.out _ _ ?_ (λhHeld=>?_)
  ·try dsimp only
   first|exact HU.out _ _ (by assumption)
  clear hK K
  try simp only[Act.put,List.setIfInBounds_toArray,List.set_cons_zero,List.set_cons_succ]
  refine rdH [32] ?_;refine rcH (λK hK=>?_) ?_
  ·go_simp
   refine hK.out _ _ ?_ (λhHeld=>?_)
   ·try dsimp only
    exact HUD.out _
   clear hK K
   try simp only[Act.put,List.setIfInBounds_toArray,List.set_cons_zero,List.set_cons_succ]
   refine wpAnyH_done (by kernel_rfl) ?_ _;have hx3:((W1.alloc (.cells #[.string x.name,.slice a1 (min 10 x.ins.length) c1,.slice a2 (min 6 x.outs.length) c2,.slice a3 (min 10 x.after.length) c3,.slice a4 (min 14 rows.length) c4] 25)).drew).heap[W1.heap.size]? =some (.cells #[.string x.name,.slice a1 (min 10 x.ins.length) c1,.slice a2 (min 6 x.outs.length) c2,.slice a3 (min 10 x.after.length) c3,.slice a4 (min 14 rows.length) c4] 25):=alloc_at W1 _;obtain⟨W3,hW3⟩:∃V,(W1.alloc (.cells #[.string x.name,.slice a1 (min 10 x.ins.length) c1,.slice a2 (min 6 x.outs.length) c2,.slice a3 (min 10 x.after.length) c3,.slice a4 (min 14 rows.length) c4] 25)).drew=V:=⟨_,rfl⟩;rw[hW3]at hx3 hHeld⊢;have hs3:W1.heap.size<W3.heap.size:=by rw[<-hW3];simp only[Zlx,Zdj];omega
   have HH3:=hid hHeld;have HX3:=hid hx3;have HS3:=hid hs3;obtain⟨y0,y1,y2,y3,y4,fz0,fz1,fz2,fz3,fz4⟩:=cells5 hx3;have hrl:rows.length=x.steps.length:=hall.1;have hRI:RuleI W3 [.string (cutQ x).name,.slice a1 (min 10 x.ins.length) c1,.slice a2 (min 6 x.outs.length) c2,.slice a3 (min 10 x.after.length) c3,.slice a4 (min 14 rows.length) c4] (cutQ x):=by
    refine⟨_,_,_,_,rfl,Zuf (H1.out _ hHeld) 10,Zuf (H2.out _ hHeld) 6,Zuf (H3.out _ hHeld) 10,?_⟩;exact Zbow (StepsI.below H4.out (HB1.out.trans (hHeld.mono HB1.out.size))) 14
   have hQ:SmallR (cutQ x) 1048576:=by
    have hf:=HFS.out;have tk:∀ {l:List ByteArray} (m:Nat),SmallL l 1048576->SmallL (l.take m) 1048576:=λm h=>⟨by rw[List.length_take];have:=h.1;omega,λz hz=>h.2 z (List.mem_of_mem_take hz)⟩
    exact⟨hf.name,tk 10 hf.ins,tk 6 hf.outs,tk 10 hf.after,by show(x.steps.take 14).length<=_;rw[List.length_take];have:=hf.few;omega,λy hy=>hf.steps y (List.mem_of_mem_take hy)⟩
   have hCP:=Zkp (cutQ x) _ _ _ _ W3 hRI hQ;have CPY:Hid (Calls Tryz.prog 19 #[.agg #[.string x.name,.slice a1 (min 10 x.ins.length) c1,.slice a2 (min 6 x.outs.length) c2,.slice a3 (min 10 x.after.length) c3,.slice a4 (min 14 rows.length) c4]] W3 λe w'=>RuleO W3 w' (cutQ x) e/\Below W3.heap.size W3 w'):=hCP;clear hCP hRI hQ hHeld hW3 hx3 hs3 hc0 hc1 hc2 hc3 hc4 e1 e2 e3 e4 k1 k2 k3 k4 m1 m2 m3 m4 hall hrl
   go_wp2_with fail
   refine CPY.out.mono ?_;rintro e w4 ⟨hRE,hb4⟩;obtain⟨vi,vo,vf,vs,he,⟨hvi,_⟩,⟨hvo,_⟩,⟨hvf,_⟩,hvs,hop⟩:=hRE;obtain⟨i1,i2,i3,q⟩:=Zbig hvi;subst q;obtain⟨j1,j2,j3,q⟩:=Zbig hvo;subst q;obtain⟨l1,l2,l3,q⟩:=Zbig hvf;subst q;obtain⟨s1,s3,q,hsn,hsm⟩:=Zboi hvs;subst q;obtain⟨ys,hys⟩:∃ys,(cutQ x).steps=ys:=⟨_,rfl⟩;rw[hys]at hvs hsn hop;have he2:e = .returned (.agg #[.string x.name,.slice i1 i2 i3,.slice j1 j2 j3,.slice l1 l2 l3,.slice s1 ys.length s3]):=by rw[he,hys];rfl
   clear he;subst he2;have HYS:=hid hys;have hx4:=(hb4.block _ HS3.out).trans HX3.out;have hz5:=Zrs hx4 (.string x.name) (.slice i1 i2 i3) (.slice j1 j2 j3) (.slice l1 l2 l3) (.slice s1 ys.length s3);obtain⟨x0,x1,x2,x3,x4,v0,v1,v2,v3,v4⟩:=cells5 hx4;obtain⟨W5,hW5⟩:∃V,((((w4.setCell ⟨W1.heap.size,0,none⟩ (.string x.name)).setCell ⟨W1.heap.size,1,none⟩ (.slice i1 i2 i3)).setCell ⟨W1.heap.size,2,none⟩ (.slice j1 j2 j3)).setCell ⟨W1.heap.size,3,none⟩ (.slice l1 l2 l3)).setCell ⟨W1.heap.size,4,none⟩ (.slice s1 ys.length s3)=V:=⟨_,rfl⟩;rw[hW5]at hz5;have hfr:Fr (λb=>b<W3.heap.size) w4 W5:=by
    rw[<-hW5];exact Zpz (Av:=λb=>b<W3.heap.size) (w:=w4) HS3.out (.string x.name) (.slice i1 i2 i3) (.slice j1 j2 j3) (.slice l1 l2 l3) (.slice s1 ys.length s3)
   have hb04:=(HB1.out.trans (HH3.out.mono HB1.out.size)).trans (hb4.mono (HB1.out.trans (HH3.out.mono HB1.out.size)).size);have hb5:Below w.heap.size w W5:=by
    rw[<-hW5];exact Zfn hb04 HB1.out.size _ _ _ _ _
   have hout5:W5.heap[w.heap.size+1]? =some (.cells #[.string ⟨#[]⟩,.slice none 0 0,.slice none 0 0,.slice none 0 0,.slice none 0 0] 25):=by
    have h1:=HS1.out;have h2:=((hb4.block _ (by have:=HS3.out;omega)).trans (HH3.out.block _ (by omega))).trans HX2.out;rw[<-hW5];refine Eq.trans ?_ h2;have hne:w.heap.size+1≠W1.heap.size:=by omega
    exact((((Below.heap_setCell _ _ _ _ hne).trans (Below.heap_setCell _ _ _ _ hne)).trans (Below.heap_setCell _ _ _ _ hne)).trans (Below.heap_setCell _ _ _ _ hne)).trans (Below.heap_setCell _ _ _ _ hne)
   have HW5:=hid hW5;have h0:LawL W5 W3.heap.size x (.slice i1 i2 i3) (.slice j1 j2 j3) (.slice l1 l2 l3) (.slice s1 ys.length s3) ys W5:=
    ⟨Below.refl _ _,RowA.keep hvi hfr,RowA.keep hvo hfr,RowA.keep hvf hfr,StepsA.keep hvs hfr,hop.keep (Zbog hvs) hfr⟩
   have H0:=hid h0;have HB3:Hid (W1.heap.size<W3.heap.size/\w.heap.size+2=W1.heap.size):=by show _/\_;exact⟨HS3.out,by have:=HS1.out;omega⟩
   have HZ5:=hid hz5;have HO5:=hid hout5;have HB5:=hid hb5;have HS45:=hid (show W3.heap.size<=W5.heap.size from Nat.le_trans hb4.size hfr.size);have hyl:ys.length<=1048576:=by rw[<-hys];show(x.steps.take 14).length<=_;rw[List.length_take];have:=HFS.out.few;omega
   have HSZ:=HB1.out.size;unfold maxLen at hsm;clear hW5 hb4 hvi hvo hvf hvs hop hx4 hz5 hfr hb5 h0 hys hb04 hout5 y0 y1 y2 y3 y4 fz0 fz1 fz2 fz3 fz4
   go_wp2_with fail
   rw[HW5.out];clear x0 x1 x2 x3 x4 v0 v1 v2 v3 v4;have hrec:∀wr,Below W3.heap.size W5 wr->_:=λwr hb=>cells5 ((hb.block W1.heap.size HS3.out).trans HZ5.out)
   have HREC:=hid hrec;obtain⟨y0,y1,y2,y3,y4,fz0,fz1,fz2,fz3,fz4⟩:=hrec _ (Below.refl _ _);clear hrec
   go_wp2_with fail
   go_loopw [41] (λi wr=>∃k:Nat,k<=ys.length/\i = .int .i64 (k:Int)/\LawL W5 W3.heap.size x (.slice i1 i2 i3) (.slice j1 j2 j3) (.slice l1 l2 l3) (.slice s1 ys.length s3) (mixS k ys) wr) (λi _=>ys.length-(intOf i).toNat)
   case atStart=>exact⟨0,Nat.zero_le _,rfl,H0.out⟩
   case round=>
    clear y0 y1 y2 y3 y4 fz0 fz1 fz2 fz3 fz4;obtain⟨k,hk,rfl,hL⟩:=hrel;have HL:=hid hL;obtain⟨y0,y1,y2,y3,y4,fz0,fz1,fz2,fz3,fz4⟩:=HREC.out _ hL.below
    by_cases hlt:k<ys.length
    ·obtain⟨y,hy⟩:∃y,ys[k]? =some y:=⟨ys[k],List.getElem?_eq_getElem hlt⟩
     have hfz:=hL.canw;obtain⟨b0,o,p1,c5,q1,d1,hs,hqn,hnb,hbl,g1,g2,g3,g4,g5,g6,z2,z3⟩:=Zbof hL.steps (Zzf hy);have HY:=hid hy;have HZ2:=hid z2;have HZ3:=hid z3;have HNB:=hid hnb;have hnx:=Zbok (by rw[hs]at hL;exact hL.steps) (Zzf hy) z2 z3 8 3;have HNX:=hid hnx;have HNE:Hid (b0≠W1.heap.size):=by show _≠_;have:=HS3.out;intro e;exact hnb (by omega)
     subst hs;have hz2:=hfz _ rfl (o+k*5+2);have hz3:=hfz _ rfl (o+k*5+3);clear hfz;have hi1:(k:Int)<(ys.length:Int):=by omega
     have hi0:(0:Int)<=(k:Int):=by omega
     have e1:=take_len y.args.length 8 8 rfl;have e2:=take_len y.lits.length 3 3 rfl;have k1:(0:Int)<=min (y.args.length:Int) 8:=by omega
     have k2:(0:Int)<=min (y.lits.length:Int) 3:=by omega
     have m1:min (y.args.length:Int) 8<=(c5:Int):=by omega
     have m2:min (y.lits.length:Int) 3<=(d1:Int):=by omega
     have zd2:(wr.drew).cell? ⟨b0,o+k*5+2,none⟩=some (.slice p1 y.args.length c5):=z2;have zd3:(wr.drew).cell? ⟨b0,o+k*5+3,none⟩=some (.slice q1 y.lits.length d1):=z3;have yd4:(wr.drew).cell? ⟨W1.heap.size,4,none⟩=some (.slice (some ⟨b0,o,none⟩) ys.length s3):=y4;unfold maxLen at g2 g4 g6;clear hL hy hnx hnb hqn
     go_wp2_with fail
     refine Zbuk (S:=λb w'=>(b=false->w'=wr.drew)/\w'.cell? ⟨W1.heap.size,4,none⟩=some (.slice (some ⟨b0,o,none⟩) ys.length s3)) (st:=38) (by kernel_rfl) ?_ (λhHeld=>?_)
     ·exact⟨λ_=>rfl,y4⟩
     refine tkS 0 ?_;refine tkS 1 ?_;refine tkS 2 ?_;refine tkZ 3 ?_;refine tkZ 4 ?_;refine tkZ 5 ?_;refine tkS 6 ?_;refine tkS 7 ?_;refine tkS 8 ?_;refine tkS 9 ?_;refine tkS 10 ?_;refine tkS 11 ?_;refine tkS 12 ?_;refine tkS 13 ?_;refine tkS 14 ?_;refine tkS 15 ?_;refine tkS 16 ?_;refine tkS 17 ?_;refine tkS 18 ?_;refine tkS 19 ?_;refine tkS 20 ?_;refine tkS 21 ?_;refine tkS 22 ?_;refine tkS 23 ?_;refine tkS 24 ?_;refine tkS 25 ?_;refine tkS 26 ?_;refine tkS 27 ?_;refine tkS 28 ?_;refine tkS 29 ?_;refine tkS 30 ?_;refine tkS 31 ?_;refine tkS 32 ?_;refine tkZ 33 ?_;refine tkZ 34 ?_;refine tkZ 35 ?_;refine tkS 36 ?_;refine tkS 37 ?_
     try simp only[Act.put,List.setIfInBounds_toArray,List.set_cons_zero,List.set_cons_succ]
     refine Zbtx (rs:=[38]) (by kernel_rfl) (by simp) ?_;refine AllReadyS.cons (b:=true) (o:=_) (by simp only[List.getElem?_toArray,List.getElem?_cons_succ,List.getElem?_cons_zero];rfl) (by kernel_rfl) (λK hK=>?_) ?_
     ·go_simp
      refine hK.out _ _ ?_ (λhHeld=>?_)
      ·try dsimp only
       exact⟨λe=>(by cases e),by rw[Zid,World.cell?_setCell_far _ _ _ _ HNE.out];exact y4⟩
      clear hK K
      try simp only[Act.put,List.setIfInBounds_toArray,List.set_cons_zero,List.set_cons_succ]
      refine tkZ 39 ?_;refine tkZ 40 ?_
      try simp only[Act.put,List.setIfInBounds_toArray,List.set_cons_zero,List.set_cons_succ]
      refine Zbtx (rs:=[41]) (by kernel_rfl) (by simp) ?_;refine AllReadyS.cons (b:=true) (o:=_) (by simp only[List.getElem?_toArray,List.getElem?_cons_succ,List.getElem?_cons_zero];rfl) (by kernel_rfl) (λK hK=>?_) ?_
      ·go_simp
       refine hK.out _ _ ?_ (λhHeld=>?_)
       ·try dsimp only
        exact⟨λe=>(by cases e),by rw[Zid,World.cell?_setCell_far _ _ _ _ HNE.out];exact hHeld.2⟩
       clear hK K
       try simp only[Act.put,List.setIfInBounds_toArray,List.set_cons_zero,List.set_cons_succ]
       refine Zbtu (by kernel_rfl) ?_ _;have hwr:=HL.out.below;obtain⟨W7,hW7⟩:∃V,((wr.setCell ⟨b0,o+k*5+2,none⟩ (.slice p1 (min 8 y.args.length) c5)).setCell ⟨b0,o+k*5+3,none⟩ (.slice q1 (min 3 y.lits.length) d1)).drew=V:=⟨_,rfl⟩;have hfr:Fr (λb=>b=b0) wr W7:=by
        rw[<-hW7];exact((Zpy (Av:=λb=>b=b0) (a:=⟨b0,o+k*5+2,none⟩) rfl _).trans (Zpy (Av:=λb=>b=b0) (a:=⟨b0,o+k*5+3,none⟩) rfl _)).trans (Zpw _ _)
       have h7:LawL W5 W3.heap.size x (.slice i1 i2 i3) (.slice j1 j2 j3) (.slice l1 l2 l3) (.slice (some ⟨b0,o,none⟩) ys.length s3) (mixS (k+1) ys) W7:=by
        have hset:∀ {v:Value} {xs:List ByteArray},StrsA (λb=>b<W3.heap.size) wr v xs->StrsA (λb=>b<W3.heap.size) W7 v xs:=λh=>by
         rw[<-hW7];refine RowA.keep (w:=(wr.setCell ⟨b0,o+k*5+2,none⟩ (.slice p1 (min 8 y.args.length) c5)).setCell ⟨b0,o+k*5+3,none⟩ (.slice q1 (min 3 y.lits.length) d1)) ?_ (Zpw _ _);exact Zbqg (Zbqg h HZ2.out (by intro s e;cases e) _) (by rw[World.cell?_setCell_other _ _ _ _ (by simp)];exact HZ3.out) (by intro s e;cases e) _
        refine⟨hwr.trans (hfr.below (Nat.le_trans HS45.out hwr.size) λb hb e=>by subst e;exact HNB.out hb),hset HL.out.ins,hset HL.out.outs,hset HL.out.after,?_,λb e i=>?_⟩
        ·have:=HNX.out
         rw[<-Zzg HY.out,<-hW7];exact StepsA.keep this (Zpw _ _)
        ·rw[<-hW7]
         have h1:=HL.out.canw b e i;rw[Zqb,World.frozen?_setCell,World.frozen?_setCell];exact h1
       have H7:=hid h7;rw[hW7];clear hwr hW7 hfr h7 hHeld hz2 hz3 y0 y1 y2 y3 y4 fz0 fz1 fz2 fz3 fz4 z2 z3 zd2 zd3 yd4 e1 e2 k1 k2 m1 m2;go_wp2;go_roundw
       case rel=>exact⟨k+1,by omega,by go_num,H7.out⟩
       case measure=>simp[intOf];omega
      exact AllReadyS.nil
     exact AllReadyS.nil
    ·obtain rfl:k=ys.length:=by omega
     have hi1:¬(ys.length:Int)<(ys.length:Int):=by omega
     have hout:=(hL.below.block _ (by have:=HB3.out;omega)).trans HO5.out;have HOUT:=hid hout;obtain⟨d0,d1,d2,d3,d4,e0,e1,e2,e3,e4⟩:=cells5 hout;clear hL hout;go_wp2;refine bodyPost_ret (Zbhl rfl _ _ (w.heap.size+1) _ _ _ _ rfl (Zrs HOUT.out _ _ _ _ _) Tryz.underlying25 rfl (by kernel_rfl)) rfl ?_;have hL:=HL.out;have hS:=HB3.out;have hS5:=HS45.out;have hfs:∀u0 u1 u2 u3 u4,Fr (λb=>b<W3.heap.size) wr _:=λu0 u1 u2 u3 u4=>Zpz (Av:=λb=>b<W3.heap.size) (w:=wr) (g:=w.heap.size+1) (by omega) u0 u1 u2 u3 u4
     have hst:=hL.steps;rw[Zze _ (Nat.le_refl _)]at hst;have hys:(cutR x).steps=ys.map cutS:=by rw[<-HYS.out];rfl
     refine⟨⟨_,_,_,_,rfl,RowA.mono (RowA.keep hL.ins (hfs _ _ _ _ _)) λb _ hb=>by omega,RowA.mono (RowA.keep hL.outs (hfs _ _ _ _ _)) λb _ hb=>by omega,RowA.mono (RowA.keep hL.after (hfs _ _ _ _ _)) λb _ hb=>by omega,?_⟩,
      Zfn (HB5.out.trans (hL.below.mono (by omega))) (by omega) _ _ _ _ _⟩
     rw[hys];exact(hst.keep (hfs _ _ _ _ _)).mono λb _ hb=>by omega
  exact AllReadyH.nil
 exact AllReadyH.nil
theorem Zbir {w w':World} {x:RuleS} {e:Ending} (h:Zbu w w' x e):∃b1 m1 e1 b2 m2 e2 b3 m3 e3 b4 m4 e4,e = .returned (.agg #[.string x.name,.slice b1 m1 e1,.slice b2 m2 e2,.slice b3 m3 e3,.slice b4 m4 e4])/\
  RuleA (λb=>b<w.heap.size) w' [.string x.name,.slice b1 m1 e1,.slice b2 m2 e2,.slice b3 m3 e3,.slice b4 m4 e4] x:=by
 obtain⟨vi,vo,vf,vs,rfl,h1,h2,h3,h4⟩:=h;obtain⟨b1,m1,e1,q1⟩:=Zbig h1;obtain⟨b2,m2,e2,q2⟩:=Zbig h2;obtain⟨b3,m3,e3,q3⟩:=Zbig h3;obtain⟨b4,e4,q4,_,_⟩:=Zboi h4;subst q1 q2 q3 q4;exact⟨b1,m1,e1,b2,m2,e2,b3,m3,e3,b4,_,e4,rfl,⟨_,_,_,_,rfl,h1,h2,h3,h4⟩⟩
def Zbvw (k:Nat) (xs:List RuleS):List RuleS:=(xs.take k).map cutR
theorem Zbvz {xs:List RuleS} {k:Nat} {x:RuleS} (h:xs[k]? =some x):Zbvw (k+1) xs=Zbvw k xs ++ [cutR x]:=by
 unfold Zbvw;rw[List.take_add_one,h,List.map_append];rfl
theorem Zbvy (k:Nat) (xs:List RuleS):(Zbvw k xs).length=min k xs.length:=by unfold Zbvw;rw[List.length_map,List.length_take]
theorem Zbvx {k m:Nat} {xs:List RuleS} (h:xs.length<=k) (h2:xs.length<=m):Zbvw k xs=Zbvw m xs:=by
 unfold Zbvw;rw[List.take_of_length_le h,List.take_of_length_le h2]
set_option maxHeartbeats 8000000 in
set_option maxRecDepth 100000 in
theorem Zbwl (v:Value) (xs:List RuleS) (w:World) (h:RulesI w v xs) (hs:∀x∈xs,SmallR x 1048576):
  Calls Tryz.prog 25 #[v] w (Zbz w (Zbvw 42 xs)):=by
 obtain⟨sa,sc,hv,hs1,hs2⟩:=Zbjn h;subst hv;have HCS:Hid (∀(k:Nat) x,xs[k]? =some x->_):=hid (λk x hx=>Zbjm h (k:=k) (x:=x) hx);have HSM:=hid hs;unfold maxLen at hs2;have HO1:Hid (OwnRules w.heap.size w (.slice none 0 0) []):=Zbxk _ _;clear h hs
 go_enter Tryz.func25,Tryz.ntmps25
 go_wp2
 go_loopw [3,4] (λvv i wr=>∃k:Nat,k<=xs.length/\k<=42/\i = .int .i64 k/\OwnRules w.heap.size wr vv (Zbvw k xs)/\Below w.heap.size w wr)
  (λ_ i _=>xs.length-(intOf i).toNat)
 case atStart=>exact⟨0,Nat.zero_le _,Nat.zero_le _,rfl,HO1.out,Below.refl _ _⟩
 case round=>
  obtain⟨k,hk,hk42,rfl,hown,hnx⟩:=hrel;have hsz:=hnx.size;have HO:=hid hown;have HNX:=hid hnx;clear hown hnx
  by_cases hlt:k<xs.length
  ·by_cases h42:k<42
   ·obtain⟨x,hx⟩:∃x,xs[k]? =some x:=⟨xs[k],List.getElem?_eq_getElem hlt⟩
    obtain⟨g,o,cap,a1,c1,a2,c2,a3,c3,a4,c4,hv,hg,hR,hc⟩:=HCS.out k x hx;have hi1:(k:Int)<(xs.length:Int):=by omega
    have hi2:(k:Int)<42:=by omega
    have hi0:(0:Int)<=(k:Int):=by omega
    have hfx:=HSM.out x (List.mem_of_getElem? hx);have htk:=Zbvz hx;obtain⟨d0,d1,d2,d3,d4⟩:=hc _ HNX.out;have HTK:=hid htk
    cases hv
    have cA:=Zwx x _ _ _ _ wr (hR.below HNX.out) hfx;have CA:=hid cA;clear hc hx htk hR hfx cA
    go_wp2_with fail
    refine CA.out.mono ?_;rintro e w2 ⟨hpost,hb2⟩;obtain⟨b1,m1,e1,b2,m2,e2,b3,m3,e3,b4,m4,e4,rfl,hra⟩:=Zbir hpost;have hO2:=HO.out.below hb2;have hlow:=λb hb=>(HO.out.lt b hb).2
    have hra2:=RuleA.mono (Av':=AvOf w.heap.size _) hra λb _ e=>by
     rcases e with e|e
     ·show b<wr.heap.size;omega
     ·exact hlow b e
    have HO2:=hid hO2;have HR2:=hid hra2;have HN2:=hid (HNX.out.trans (hb2.mono hsz));have HTL:Hid ((Zbvw k xs).length<=1000000000):=by show _<=_;rw[Zbvy];omega
    have HS2:=hid (Nat.le_trans hsz hb2.size);clear hra hb2 hO2 hlow hra2 d0 d1 d2 d3 d4 hpost
    go_wp2_with (at_builtin;refine Zbuh (by rfl) _ _ (by rfl) w.heap.size _ (Zbvw k xs) (cutR x) b1 b2 b3 b4 m1 e1 m2 e2 m3 e3 m4 e4 (by rfl) HO2.out HS2.out HTL.out HR2.out _ (by rfl) (by simp) ?_)
    intro v' w6 hown6 hb6 _ _;have HO6:Hid (OwnRules w.heap.size w6 v' (Zbvw (k+1) xs)):=by show OwnRules _ _ _ _;rw[HTK.out];exact hown6
    have HN6:=hid (HN2.out.trans hb6);clear hown6 hb6;go_wp2;go_roundw
    case rel=>exact⟨k+1,by omega,by omega,by go_num,HO6.out,HN6.out⟩
    case measure=>simp[intOf];omega
   ·obtain rfl:k=42:=by omega
    have hi1:(42:Int)<(xs.length:Int):=by omega
    have hi2:((42:Nat):Int)<(xs.length:Int):=by omega
    obtain⟨a,c,q⟩:=HO.out.len;subst q;go_wp2;go_ret;exact⟨_,_,_,rfl,HO.out,HNX.out⟩
  ·have hfull:Zbvw k xs=Zbvw 42 xs:=Zbvx (by omega) (by omega)
   have hi1:¬(k:Int)<(xs.length:Int):=by omega
   have hO3:=HO.out;rw[hfull]at hO3;obtain⟨a,c,q⟩:=hO3.len;subst q;have HO3:=hid hO3;clear hfull hO3;go_wp2;go_ret;exact⟨_,_,_,rfl,HO3.out,HNX.out⟩
theorem Zbma {x:RuleS} {m:Nat} (h:SmallR x m):SmallR (cutR x) m:=by
 have tk:∀ {l:List ByteArray} (k:Nat),SmallL l m->SmallL (l.take k) m:=λk h=>⟨by rw[List.length_take];have:=h.1;omega,λz hz=>h.2 z (List.mem_of_mem_take hz)⟩
 exact⟨h.name,tk 10 h.ins,tk 6 h.outs,tk 10 h.after,by show((x.steps.take 14).map cutS).length<=m;rw[List.length_map,List.length_take];have:=h.few;omega,λy hy=>by
  obtain⟨z,hz,rfl⟩:=List.mem_map.1 (show y∈(x.steps.take 14).map cutS from hy);have:=h.steps z (List.mem_of_mem_take hz);exact⟨this.out,tk 8 this.args,tk 3 this.lits,this.op,this.n⟩⟩
def IsRT (w:World) (B b:Nat) (r:Option Nat) (fs:List F2):Prop:=
 B<=b/\Sorted fs/\fs.length<=60/\∃v,w.heap[b]? =some (.cells #[v] 96 (0,0))/\RowAt w B v fs/\r=v.ownBlock
theorem IsRT.below {w w':World} {B b:Nat} {r:Option Nat} {fs:List F2} (h:IsRT w B b r fs) (hb:Below w.heap.size w w'):IsRT w' B b r fs:=by
 obtain⟨h1,h2,h3,v,h4,h5,h6⟩:=h;exact⟨h1,h2,h3,v,(hb.block b (block_lt h4)).trans h4,h5.below hb,h6⟩
theorem IsRT.ptr {w:World} {B b:Nat} {r:Option Nat} {fs:List F2} (h:IsRT w B b r fs):∃a c,w.heap[b]? =some (.cells #[.slice a fs.length c] 96 (0,0))/\OwnF w B r (.slice a fs.length c) fs/\fs.length<=c/\c<=maxLen:=by
 obtain⟨_,_,_,v,hb,hown,hr⟩:=h;have ho:OwnF w B r v fs:= .inl ⟨hown,hr⟩;obtain⟨a,c,rfl,h1,h2⟩:=ho.shape;exact⟨a,c,hb,ho,h1,h2⟩
theorem IsRT.row {w:World} {B b:Nat} {r:Option Nat} {fs:List F2} (h:IsRT w B b r fs):
  (fs = []/\r=none/\w.heap[b]? =some (.cells #[.slice none 0 0] 96 (0,0)))∨
  ∃g c,r=some g/\w.heap[b]? =some (.cells #[.slice (some ⟨g,0,none⟩) fs.length c] 96 (0,0))/\RowAt w B (.slice (some ⟨g,0,none⟩) fs.length c) fs/\fs.length<=c/\c<=maxLen/\B<=g/\g<w.heap.size/\
   (∀(j:Nat) u,(Znm fs)[j]? =some u->w.cell? ⟨g,j,none⟩=some u)/\∃cur,w.heap[g]? =some (.cells cur 80 (0,0))/\cur.size=c*2:=by
 obtain⟨_,_,_,v,hb,hown,hr⟩:=h;have hown':=hown;obtain⟨_,⟨hv,h0⟩|⟨g,cap,cur,hv,hgB,hgh,hnc,hcm,hcs,htk⟩⟩:=hown'
 ·refine .inl ⟨List.eq_nil_of_length_eq_zero h0,by rw[hr,hv];rfl,by rw[<-hv];exact hb⟩
 ·refine .inr ⟨g,cap,by rw[hr,hv];rfl,by rw[<-hv];exact hb,by rw[<-hv];exact hown,hnc,hcm,hgB,block_lt hgh,λj u hu=>?_,cur,hgh,hcs⟩
  rw[<-htk,List.getElem?_take]at hu;split at hu
  ·simp only[World.cell?,hgh];simpa using hu
  ·cases hu
theorem IsRT.rlt {w:World} {B b:Nat} {r:Option Nat} {fs:List F2} (h:IsRT w B b r fs):(∀k,r=some k->B<=k/\k<w.heap.size)/\B<=b/\b<w.heap.size:=by
 obtain⟨h1,_,_,v,h4,h5,h6⟩:=h;exact⟨λk hk=>World.ownsRow.lt h5 k (by rw[<-h6];exact hk),h1,block_lt h4⟩
def Zchk (w:World) (B b:Nat) (r:Option Nat) (code:Int) (fs:List F2) (e:Ending) (w':World):Prop:=
 ∃r',e = .returned (.int .i64 code)/\IsRT w' B b r' fs/\Frame2 w w' b r/\(r'=r∨r'=none∨∃k,r'=some k/\w.heap.size<=k)
theorem Zchx:∀a b:List UInt8,Op.bytesLess a b=decide (Lib.compareBytes a b<0)
 | [],[]=>rfl
 | _::_,[]=>rfl
 | [],_::_=>rfl
 | a::x,b::y=>by
  unfold Op.bytesLess Lib.compareBytes
  by_cases h:a<b
  ·rw[if_pos h];simp[h]
  ·by_cases h':b<a
   ·have hne:¬a=b:=λe=>h (by rw[e]at h'⊢;exact h')
    rw[if_neg h,if_pos h'];simp[h,hne]
   ·have he:a=b:=UInt8.toNat_inj.1 (by rw[UInt8.lt_iff_toNat_lt]at h h';omega)
    rw[if_neg h,if_neg h',Zchx x y];simp[he]
theorem Zcic {fs:List F2} (hs:Sorted fs) {x:ByteArray} {k:Nat} {f:F2} (hf:fs[k]? =some f) (h:cmpF f x<0):k+1<=Zbff fs x:=by
 have h2:=(Zbfj x hs).2
 rcases Nat.lt_or_ge k (Zbff fs x)with h'|h'
 ·omega
 ·exact absurd h (h2 k f h' hf)
theorem Zcid {fs:List F2} (hs:Sorted fs) {x:ByteArray} {k:Nat} {f:F2} (hf:fs[k]? =some f) (hk:k<=Zbff fs x) (h:¬cmpF f x<0):k=Zbff fs x:=by
 have h1:=(Zbfj x hs).1
 rcases Nat.lt_or_ge k (Zbff fs x)with h'|h'
 ·exact absurd (h1 k f h' hf) h
 ·omega
theorem Zchs {fs:List F2} (hs:Sorted fs) {x:ByteArray} {f:F2} (hf:fs[Zbff fs x]? =some f):(f.1.toList==x.toList)=hasF fs x:=by
 have h:=Zrk hs (Zbfj x hs).1 (Zbfj x hs).2;rw[Bool.eq_iff_iff,<-h,beq_iff_eq,Lib.toList_data,Lib.toList_data];constructor
 ·intro e
  have:f.1=x:=ByteArray.ext (Array.toList_inj.1 e);exact⟨f,hf,by rw[<-this];exact Zjs f⟩
 ·rintro⟨g,hg,h0⟩
  rw[hf]at hg;injection hg with hg
  subst hg;rw[Zju h0]
theorem Zcht {fs:List F2} (hs:Sorted fs) {x:ByteArray} (h:fs.length<=Zbff fs x):hasF fs x=false:=by
 have h':=Zrk hs (Zbfj x hs).1 (Zbfj x hs).2;rw[Bool.eq_false_iff];intro e;obtain⟨f,hf,_⟩:=h'.2 e;have:=(List.getElem?_eq_some_iff.1 hf).1;omega
set_option maxHeartbeats 4000000 in
set_option maxRecDepth 100000 in
theorem Zchm (B b:Nat) (r:Option Nat) (fs:List F2) (x:ByteArray) (w:World) (h:IsRT w B b r fs):
  Calls Tryz.prog 109 #[.pointer (some ⟨b,0,none⟩),.string x] w λe w'=>e = .returned (.tuple #[.int .i64 (Zbff fs x:Nat),.bool (hasF fs x)])/\Below w.heap.size w w':=by
 obtain⟨a,c,hb,hown,hc,hcm⟩:=h.ptr;have hcell:w.cell? ⟨b,0,none⟩=some (.slice a fs.length c):=by simp[World.cell?,hb]
 obtain⟨a',c',hv,_,_,hcs⟩:=hown.files
 cases hv
 have HS:=hid h.2.1;have hl:=h.2.2.1;have HCS:=hid hcs;have hple:=Zbfi fs x;obtain⟨p,hp⟩:∃p,Zbff fs x=p:=⟨_,rfl⟩;obtain⟨q,hq⟩:∃q,hasF fs x=q:=⟨_,rfl⟩;rw[hp]at hple;rw[hp,hq];have HP:=hid hp;have HQ:=hid hq;unfold maxLen at hcm;clear hp hq hcs hb hown h
 go_enter Tryz.func109,Tryz.ntmps109
 go_wp2
 go_loop [6] (λi=>∃k:Nat,k<=p/\i = .int .i64 k) (λi=>fs.length-(intOf i).toNat)
 case atStart=>exact⟨0,Nat.zero_le _,rfl⟩
 case round=>
  obtain⟨k,hk,rfl⟩:=hrel
  by_cases hlt:k<fs.length
  ·obtain⟨f,hf⟩:∃f,fs[k]? =some f:=⟨fs[k],List.getElem?_eq_getElem hlt⟩
   obtain⟨gb,go,rfl,hgb,hgc⟩:=HCS.out (by rintro rfl;simp at hlt);obtain⟨hf0,_⟩:=hgc k f hf;have HF:=hid hf;have hk0:(0:Int)<=(k:Int):=by omega
   have hk1:(k:Int)<(fs.length:Int):=by omega
   clear hgc hf;obtain⟨lt,hlt2⟩:∃lt,Op.bytesLess f.1.toList x.toList=lt:=⟨_,rfl⟩;have hlc:lt=decide (cmpF f x<0):=by rw[<-hlt2,Zchx,Lib.toList_data,Lib.toList_data];rfl
   have HLC:=hid hlc;clear hlc
   cases lt
   ·have hnc:¬cmpF f x<0:=of_decide_eq_false HLC.out.symm
    have hkp:k=p:=by rw[<-HP.out];exact Zcid HS.out HF.out (by rw[HP.out];exact hk) hnc
    subst hkp;have hat:(f.1.toList==x.toList)=q:=by
     have:=HF.out;rw[<-HP.out]at this;rw[Zchs HS.out this,HQ.out]
    clear hnc
    go_wp2_with fail
    go_quiet (fail)
    go_wp2
    go_ret2
    exact⟨rfl,below_drewN (Below.refl _ _) _⟩
   ·have hcl:cmpF f x<0:=of_decide_eq_true HLC.out.symm
    have hkp:k+1<=p:=by rw[<-HP.out];exact Zcic HS.out HF.out hcl
    clear hcl;go_wp2
    go_round
    case rel=>exact⟨k+1,hkp,by go_num⟩
    case measure=>simp[intOf];omega
  ·have hkp:k=p:=by omega
   have hqf:q=false:=by rw[<-HQ.out];exact Zcht HS.out (by rw[HP.out];omega)
   subst hqf;have HKP:=hid hkp;have hd:decide ((k:Int)<(fs.length:Int))=false:=by simp;omega
   clear hkp
   go_wp2_with fail
   go_quiet (fail)
   go_wp2
   go_ret2
   exact⟨Zbhq (by rw[HKP.out]) rfl,below_drewN (Below.refl _ _) _⟩
theorem Zcir {W w:World} {o:Obj} (h:Below W.heap.size W w):Below W.heap.size W (w.alloc o):=h.alloc h.size o
theorem Zcim {w:World} {B b:Nat} {v v0:Value} {fs:List F2} (hB:B<=b) (hs:Sorted fs) (hl:fs.length<=60) (hb:w.heap[b]? =some (.cells #[v0] 96 (0,0))) (h:RowAt w B v fs):
  IsRT (w.setCell ⟨b,0,none⟩ v) B b v.ownBlock fs:=by
 have hne:v.ownBlock≠some b:=by
  intro e;obtain⟨_,⟨hv,_⟩|⟨g,cap,cur,hv,_,hg,_⟩⟩:=h
  ·rw[hv]at e;cases e
  ·rw[hv]at e
   injection e with e
   subst e;rw[hb]at hg;simp at hg
 refine⟨hB,hs,hl,v,?_,?_,rfl⟩
 ·rw[setCell_eq_setRow w b 0 #[v0] _ (0,0) _ hb]
  exact setRow_heap w b _ _ _ _ hb
 ·obtain⟨h1,h2|⟨g,cap,cur,hv,hgB,hg,rest⟩⟩:=h
  ·exact⟨h1,.inl h2⟩
  ·refine⟨h1,.inr ⟨g,cap,cur,hv,hgB,?_,rest⟩⟩
   rw[Below.heap_setCell w _ _ g (λe=>hne (by rw[hv,e];rfl))];exact hg
theorem Zcik {w wz:World} {B b:Nat} {r:Option Nat} {v0 v:Value} {fs:List F2} (hB:B<=b) (hBw:B<=w.heap.size) (hs:Sorted fs) (hl:fs.length<=60) (hblt:b<w.heap.size) (hb:w.heap[b]? =some (.cells #[v0] 96 (0,0)))
  (hx:Below w.heap.size w wz) (h:RowAt wz w.heap.size v fs):IsRT (wz.setCell ⟨b,0,none⟩ v) B b v.ownBlock fs/\Frame2 w (wz.setCell ⟨b,0,none⟩ v) b r/\(v.ownBlock=none∨∃k,v.ownBlock=some k/\w.heap.size<=k):=by
 refine⟨Zcim hB hs hl ((hx.block b hblt).trans hb) (Zbdv h hBw),⟨hx.os,hx.tape,hx.output,by simpa[World.setCell]using hx.size,λk hk hkb _=>?_⟩,?_⟩
 ·rw[Below.heap_setCell wz _ _ k hkb]
  exact hx.block k hk
 ·cases hv:v.ownBlock with
  | none=>exact .inl rfl
  | some k=>exact .inr ⟨k,rfl,(World.ownsRow.lt h k hv).1⟩
structure InsAt (w:World) (b g c:Nat) (fs:List F2):Prop where
 cell:∀w',Below w.heap.size w w'->w'.cell? ⟨b,0,none⟩=some (.slice (some ⟨g,0,none⟩) fs.length c)
 cells:∀w',Below w.heap.size w w'->∀(j:Nat) u,(Znm fs)[j]? =some u->w'.cell? ⟨g,j,none⟩=some u
theorem InsAt.take {w:World} {b g c:Nat} {fs:List F2} (h:InsAt w b g c fs) (k:Nat) (w':World) (hw:Below w.heap.size w w'):∀(j:Nat) u,(Znm (fs.take k))[j]? =some u->w'.cell? ((⟨g,0,none⟩:Addr).add j)=some u:=by
 intro j u hu;rw[<-Znv,List.getElem?_take]at hu;split at hu
 ·rw[Addr.add_lit,Nat.zero_add]
  exact h.cells w' hw _ u hu
 ·cases hu
theorem InsAt.drop {w:World} {b g c:Nat} {fs:List F2} (h:InsAt w b g c fs) (k:Nat) (w':World) (hw:Below w.heap.size w w'):∀(j:Nat) u,(Znm (fs.drop k))[j]? =some u->w'.cell? ((⟨g,k*2,none⟩:Addr).add j)=some u:=by
 intro j u hu;rw[<-Znq,List.getElem?_drop]at hu;rw[Addr.add_lit];exact h.cells w' hw _ u hu
theorem row_zero {w:World} {B n:Nat} {v:Value} {cs:List Value} (h:w.ownsRow B 80 2 v (0+n) ([]++cs)):w.ownsRow B 80 2 v n cs:=by simpa using h
theorem Zcil {w w2 wz:World} {B b:Nat} {r:Option Nat} {v0 v:Value} {fs:List F2} (hx2:Below w.heap.size w w2) (hB:B<=b) (hBw:B<=w.heap.size) (hs:Sorted fs) (hl:fs.length<=60) (hblt:b<w.heap.size) (hb:w.heap[b]? =some (.cells #[v0] 96 (0,0)))
  (hx:Below w2.heap.size w2 wz) (h:RowAt wz w2.heap.size v fs):Zchk w B b r 0 fs (.returned (.int .i64 0)) (wz.setCell ⟨b,0,none⟩ v):=by
 obtain⟨h1,h2,h3⟩:=Zcik (r:=r) hB (Nat.le_trans hBw hx2.size) hs hl (Nat.lt_of_lt_of_le hblt hx2.size) ((hx2.block b hblt).trans hb) hx h;refine⟨_,rfl,h1,(Frame2.of_below hx2 b r).trans h2 (.inl rfl),.inr ?_⟩
 rcases h3 with h|⟨k,h,h'⟩
 ·exact .inl h
 ·exact .inr ⟨k,h,Nat.le_trans hx2.size h'⟩
theorem Zcij {w:World} {B p m:Nat} {v:Value} {A C:List F2} {x y:ByteArray} (h:w.ownsRow B 80 2 v (p+1+m) (Znm A ++ [.string x,.string y]++Znm C)) (hA:A.length=p) (hC:C.length=m):RowAt w B v (A++(x,y)::C):=by
 unfold RowAt;have e1:(A++(x,y)::C).length=p+1+m:=by simp[hA,hC];omega
 have e2:Znm (A++(x,y)::C)=Znm A ++ [.string x,.string y]++Znm C:=by rw[Znn,Znp,List.append_assoc];rfl
 rw[e1,e2];exact h
end Go.Proofs.YtmgcaldphpnfgaaGreatDoor
