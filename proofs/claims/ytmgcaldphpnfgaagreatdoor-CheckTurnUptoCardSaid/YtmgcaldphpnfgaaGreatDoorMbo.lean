import Derived.Test.YtmgcaldphpnfgaaGreatDoorMbn
import Derived.Test.YtmgcaldphpnfgaaGreatDoorMbh
import Derived.Deep.RegionHeld3
namespace Go.Proofs.YtmgcaldphpnfgaaGreatDoor
open Go.Lib (hid)
open Go.RowKit Go.Shelf
structure LawL (W5:World) (B:Nat) (x:RuleS) (vi vo vf vs:Value) (ys:List StepS) (wr:World):Prop where
 below:Below B W5 wr
 ins:StrsA (λb=>b<B) wr vi (cutQ x).ins
 outs:StrsA (λb=>b<B) wr vo (cutQ x).outs
 after:StrsA (λb=>b<B) wr vf (cutQ x).after
 steps:StepsA (λb=>b<B) wr vs ys
 canw:OpenV wr vs
set_option maxHeartbeats 8000000 in
set_option maxRecDepth 100000 in
theorem Zwx (x:RuleS) (vi vo vf vs:Value) (w:World) (h:RuleI w [.string x.name,vi,vo,vf,vs] x) (hf:SmallR x 1048576):
  Calls Tryz.prog 51 #[.agg #[.string x.name,vi,vo,vf,vs]] w λe w'=>Zbu w w' (cutR x) e/\Below w.heap.size w w':=by
 obtain⟨_,_,_,_,q,h1,h2,h3,h4⟩:=h
 cases q
 obtain⟨a1,c1,rfl,hle1,hmx1,_⟩:=id h1;obtain⟨a2,c2,rfl,hle2,hmx2,_⟩:=id h2;obtain⟨a3,c3,rfl,hle3,hmx3,_⟩:=id h3;obtain⟨rows,hrow,hall⟩:=id h4;obtain⟨a4,c4,rfl,hle4,hmx4,_⟩:=id hrow;obtain⟨ob,hob⟩:∃o:Obj,o = .cells #[.string x.name,.slice a1 x.ins.length c1,.slice a2 x.outs.length c2,.slice a3 x.after.length c3,.slice a4 rows.length c4] 25:=⟨_,rfl⟩;obtain⟨W1,hW1⟩:∃W1,(w.alloc ob).alloc (.cells #[.string ⟨#[]⟩,.slice none 0 0,.slice none 0 0,.slice none 0 0,.slice none 0 0] 25)=W1:=⟨_,rfl⟩;have hb1:Below w.heap.size w W1:=by rw[<-hW1];exact((Below.refl _ _).alloc (Nat.le_refl _) _).alloc (by simp) _
 have hs1:W1.heap.size=w.heap.size+2:=by rw[<-hW1];simp
 have hx1:W1.heap[w.heap.size]? =some ob:=by rw[<-hW1,Below.heap_alloc _ _ _ (by simp)];exact alloc_at w ob
 have hx2:W1.heap[w.heap.size+1]? =some (.cells #[.string ⟨#[]⟩,.slice none 0 0,.slice none 0 0,.slice none 0 0,.slice none 0 0] 25):=by
  rw[<-hW1];have:=alloc_at (w.alloc ob) (.cells #[.string ⟨#[]⟩,.slice none 0 0,.slice none 0 0,.slice none 0 0,.slice none 0 0] 25);simpa using this
 subst hob;have hcell:∀w',Below W1.heap.size W1 w'->_:=λw' (hb:Below W1.heap.size W1 w')=>cells5 ((hb.block w.heap.size (by omega)).trans hx1)
 have hc0:=λw' hb=>(hcell w' hb).1
 have hc1:=λw' hb=>(hcell w' hb).2.1
 have hc2:=λw' hb=>(hcell w' hb).2.2.1
 have hc3:=λw' hb=>(hcell w' hb).2.2.2.1
 have hc4:=λw' hb=>(hcell w' hb).2.2.2.2.1
 have HC4:=hid hc4;have HS0:Hid (Below W1.heap.size W1 W1.drew):=by show Below _ _ _;exact(Below.refl _ _).drew
 have HU:Hid (∀w' o,Below W1.heap.size W1 w'->Below W1.heap.size W1 (w'.alloc o)):=by show ∀w' o,_;exact λw' o h=>h.alloc h.size o
 have HUD:Hid (∀o,Below W1.heap.size W1 (W1.alloc o).drew):=by show ∀o,_;exact λo=>((Below.refl _ _).alloc (Nat.le_refl _) o).drew
 have HB1:=hid hb1;have H1:Hid (∀w',Below W1.heap.size W1 w'->IsStrs w' (.slice a1 x.ins.length c1) x.ins):=by show ∀w',_;exact λw' hb=>h1.below (hb1.trans (hb.mono hb1.size))
 have H2:Hid (∀w',Below W1.heap.size W1 w'->IsStrs w' (.slice a2 x.outs.length c2) x.outs):=by show ∀w',_;exact λw' hb=>h2.below (hb1.trans (hb.mono hb1.size))
 have H3:Hid (∀w',Below W1.heap.size W1 w'->IsStrs w' (.slice a3 x.after.length c3) x.after):=by show ∀w',_;exact λw' hb=>h3.below (hb1.trans (hb.mono hb1.size))
 have H4:=hid h4;have HX2:=hid hx2;have HW1:=hid hW1;have N1:=hid hf.ins.1;have N2:=hid hf.outs.1;have N3:=hid hf.after.1;have HFS:=hid hf;have HS1:=hid hs1;clear hcell h1 h2 h3 h4 hb1 hs1 hx1 hx2 hc4 hf hrow hW1;have e1:=take_len x.ins.length 10 10 rfl;have e2:=take_len x.outs.length 6 6 rfl;have e3:=take_len x.after.length 10 10 rfl;have e4:=take_len rows.length 14 14 rfl;have k1:(0:Int)<=min (x.ins.length:Int) 10:=by omega
 have k2:(0:Int)<=min (x.outs.length:Int) 6:=by omega
 have k3:(0:Int)<=min (x.after.length:Int) 10:=by omega
 have k4:(0:Int)<=min (rows.length:Int) 14:=by omega
 have m1:min (x.ins.length:Int) 10<=(c1:Int):=by omega
 have m2:min (x.outs.length:Int) 6<=(c2:Int):=by omega
 have m3:min (x.after.length:Int) 10<=(c3:Int):=by omega
 have m4:min (rows.length:Int) 14<=(c4:Int):=by omega
 have hc4:=HC4.out;unfold maxLen at hmx1 hmx2 hmx3 hmx4
 go_enter Tryz.func51,Tryz.ntmps51
 go_upto_region 1 with fail
 rw[HW1.out];refine wp_region_held_drew (S:=λw'=>Below W1.heap.size W1 w') (by kernel_rfl) ?_ (λhHeld=>?_)
 ·exact HS0.out
 refine tkK 0 ?_;refine tkK 1 ?_;refine tkK 2 ?_;refine tkK 3 ?_;refine tkK 4 ?_;refine tkK 5 ?_;refine tkK 6 ?_;refine tkK 7 ?_;refine tkK 8 ?_;refine tkK 9 ?_;refine tkK 10 ?_;refine tkK 11 ?_;refine tkK 12 ?_;refine tkK 13 ?_;refine tkK 14 ?_;refine tkK 15 ?_;refine tkK 16 ?_;refine tkK 17 ?_;refine tkK 18 ?_;refine tkK 19 ?_;refine tkK 20 ?_;refine tkK 21 ?_;refine tkK 22 ?_;refine tkK 23 ?_;refine tkK 24 ?_;refine tkK 25 ?_;refine tkK 26 ?_;refine tkK 27 ?_;refine tkK 28 ?_;refine tkK 29 ?_;refine tkK 30 ?_
 try simp only[Act.put,List.setIfInBounds_toArray,List.set_cons_zero,List.set_cons_succ]
 refine rdH [31] ?_;refine rcH (λK hK=>?_) ?_
 ·go_simp
  refine hK.out _ _ ?_ (λhHeld=>?_)
  ·try dsimp only
   first|exact HU.out _ _ (by assumption)
  clear hK K
  try simp only[Act.put,List.setIfInBounds_toArray,List.set_cons_zero,List.set_cons_succ]
  refine rdH [32] ?_;refine rcH (λK hK=>?_) ?_
  ·go_simp
   refine hK.out _ _ ?_ (λhHeld=>?_)
   ·try dsimp only
    exact HUD.out _
   clear hK K
   try simp only[Act.put,List.setIfInBounds_toArray,List.set_cons_zero,List.set_cons_succ]
   refine wpAnyH_done (by kernel_rfl) ?_ _;have hx3:((W1.alloc (.cells #[.string x.name,.slice a1 (min 10 x.ins.length) c1,.slice a2 (min 6 x.outs.length) c2,.slice a3 (min 10 x.after.length) c3,.slice a4 (min 14 rows.length) c4] 25)).drew).heap[W1.heap.size]? =some (.cells #[.string x.name,.slice a1 (min 10 x.ins.length) c1,.slice a2 (min 6 x.outs.length) c2,.slice a3 (min 10 x.after.length) c3,.slice a4 (min 14 rows.length) c4] 25):=alloc_at W1 _;obtain⟨W3,hW3⟩:∃V,(W1.alloc (.cells #[.string x.name,.slice a1 (min 10 x.ins.length) c1,.slice a2 (min 6 x.outs.length) c2,.slice a3 (min 10 x.after.length) c3,.slice a4 (min 14 rows.length) c4] 25)).drew=V:=⟨_,rfl⟩;rw[hW3]at hx3 hHeld⊢;have hs3:W1.heap.size<W3.heap.size:=by rw[<-hW3];simp only[Zlx,Zdj];omega
   have HH3:=hid hHeld;have HX3:=hid hx3;have HS3:=hid hs3;obtain⟨y0,y1,y2,y3,y4,fz0,fz1,fz2,fz3,fz4⟩:=cells5 hx3;have hrl:rows.length=x.steps.length:=hall.1;have hRI:RuleI W3 [.string (cutQ x).name,.slice a1 (min 10 x.ins.length) c1,.slice a2 (min 6 x.outs.length) c2,.slice a3 (min 10 x.after.length) c3,.slice a4 (min 14 rows.length) c4] (cutQ x):=by
    refine⟨_,_,_,_,rfl,Zuf (H1.out _ hHeld) 10,Zuf (H2.out _ hHeld) 6,Zuf (H3.out _ hHeld) 10,?_⟩;exact Zbow (StepsI.below H4.out (HB1.out.trans (hHeld.mono HB1.out.size))) 14
   have hQ:SmallR (cutQ x) 1048576:=by
    have hf:=HFS.out;have tk:∀ {l:List ByteArray} (m:Nat),SmallL l 1048576->SmallL (l.take m) 1048576:=λm h=>⟨by rw[List.length_take];have:=h.1;omega,λz hz=>h.2 z (List.mem_of_mem_take hz)⟩
    exact⟨hf.name,tk 10 hf.ins,tk 6 hf.outs,tk 10 hf.after,by show(x.steps.take 14).length<=_;rw[List.length_take];have:=hf.few;omega,λy hy=>hf.steps y (List.mem_of_mem_take hy)⟩
   have hCP:=Zkp (cutQ x) _ _ _ _ W3 hRI hQ;have CPY:Hid (Calls Tryz.prog 19 #[.agg #[.string x.name,.slice a1 (min 10 x.ins.length) c1,.slice a2 (min 6 x.outs.length) c2,.slice a3 (min 10 x.after.length) c3,.slice a4 (min 14 rows.length) c4]] W3 λe w'=>RuleO W3 w' (cutQ x) e/\Below W3.heap.size W3 w'):=hCP;clear hCP hRI hQ hHeld hW3 hx3 hs3 hc0 hc1 hc2 hc3 hc4 e1 e2 e3 e4 k1 k2 k3 k4 m1 m2 m3 m4 hall hrl
   go_wp2_with fail
   refine CPY.out.mono ?_;rintro e w4 ⟨hRE,hb4⟩;obtain⟨vi,vo,vf,vs,he,⟨hvi,_⟩,⟨hvo,_⟩,⟨hvf,_⟩,hvs,hop⟩:=hRE;obtain⟨i1,i2,i3,q⟩:=Zbig hvi;subst q;obtain⟨j1,j2,j3,q⟩:=Zbig hvo;subst q;obtain⟨l1,l2,l3,q⟩:=Zbig hvf;subst q;obtain⟨s1,s3,q,hsn,hsm⟩:=Zboi hvs;subst q;obtain⟨ys,hys⟩:∃ys,(cutQ x).steps=ys:=⟨_,rfl⟩;rw[hys]at hvs hsn hop;have he2:e = .returned (.agg #[.string x.name,.slice i1 i2 i3,.slice j1 j2 j3,.slice l1 l2 l3,.slice s1 ys.length s3]):=by rw[he,hys];rfl
   clear he;subst he2;have HYS:=hid hys;have hx4:=(hb4.block _ HS3.out).trans HX3.out;have hz5:=Zrs hx4 (.string x.name) (.slice i1 i2 i3) (.slice j1 j2 j3) (.slice l1 l2 l3) (.slice s1 ys.length s3);obtain⟨x0,x1,x2,x3,x4,v0,v1,v2,v3,v4⟩:=cells5 hx4;obtain⟨W5,hW5⟩:∃V,((((w4.setCell ⟨W1.heap.size,0,none⟩ (.string x.name)).setCell ⟨W1.heap.size,1,none⟩ (.slice i1 i2 i3)).setCell ⟨W1.heap.size,2,none⟩ (.slice j1 j2 j3)).setCell ⟨W1.heap.size,3,none⟩ (.slice l1 l2 l3)).setCell ⟨W1.heap.size,4,none⟩ (.slice s1 ys.length s3)=V:=⟨_,rfl⟩;rw[hW5]at hz5;have hfr:Fr (λb=>b<W3.heap.size) w4 W5:=by
    rw[<-hW5];exact Zpz (Av:=λb=>b<W3.heap.size) (w:=w4) HS3.out (.string x.name) (.slice i1 i2 i3) (.slice j1 j2 j3) (.slice l1 l2 l3) (.slice s1 ys.length s3)
   have hb04:=(HB1.out.trans (HH3.out.mono HB1.out.size)).trans (hb4.mono (HB1.out.trans (HH3.out.mono HB1.out.size)).size);have hb5:Below w.heap.size w W5:=by
    rw[<-hW5];exact Zfn hb04 HB1.out.size _ _ _ _ _
   have hout5:W5.heap[w.heap.size+1]? =some (.cells #[.string ⟨#[]⟩,.slice none 0 0,.slice none 0 0,.slice none 0 0,.slice none 0 0] 25):=by
    have h1:=HS1.out;have h2:=((hb4.block _ (by have:=HS3.out;omega)).trans (HH3.out.block _ (by omega))).trans HX2.out;rw[<-hW5];refine Eq.trans ?_ h2;have hne:w.heap.size+1≠W1.heap.size:=by omega
    exact((((Below.heap_setCell _ _ _ _ hne).trans (Below.heap_setCell _ _ _ _ hne)).trans (Below.heap_setCell _ _ _ _ hne)).trans (Below.heap_setCell _ _ _ _ hne)).trans (Below.heap_setCell _ _ _ _ hne)
   have HW5:=hid hW5;have h0:LawL W5 W3.heap.size x (.slice i1 i2 i3) (.slice j1 j2 j3) (.slice l1 l2 l3) (.slice s1 ys.length s3) ys W5:=
    ⟨Below.refl _ _,RowA.keep hvi hfr,RowA.keep hvo hfr,RowA.keep hvf hfr,StepsA.keep hvs hfr,hop.keep (Zbog hvs) hfr⟩
   have H0:=hid h0;have HB3:Hid (W1.heap.size<W3.heap.size/\w.heap.size+2=W1.heap.size):=by show _/\_;exact⟨HS3.out,by have:=HS1.out;omega⟩
   have HZ5:=hid hz5;have HO5:=hid hout5;have HB5:=hid hb5;have HS45:=hid (show W3.heap.size<=W5.heap.size from Nat.le_trans hb4.size hfr.size);have hyl:ys.length<=1048576:=by rw[<-hys];show(x.steps.take 14).length<=_;rw[List.length_take];have:=HFS.out.few;omega
   have HSZ:=HB1.out.size;unfold maxLen at hsm;clear hW5 hb4 hvi hvo hvf hvs hop hx4 hz5 hfr hb5 h0 hys hb04 hout5 y0 y1 y2 y3 y4 fz0 fz1 fz2 fz3 fz4
   go_wp2_with fail
   rw[HW5.out];clear x0 x1 x2 x3 x4 v0 v1 v2 v3 v4;have hrec:∀wr,Below W3.heap.size W5 wr->_:=λwr hb=>cells5 ((hb.block W1.heap.size HS3.out).trans HZ5.out)
   have HREC:=hid hrec;obtain⟨y0,y1,y2,y3,y4,fz0,fz1,fz2,fz3,fz4⟩:=hrec _ (Below.refl _ _);clear hrec
   go_wp2_with fail
   go_loopw [41] (λi wr=>∃k:Nat,k<=ys.length/\i = .int .i64 (k:Int)/\LawL W5 W3.heap.size x (.slice i1 i2 i3) (.slice j1 j2 j3) (.slice l1 l2 l3) (.slice s1 ys.length s3) (mixS k ys) wr) (λi _=>ys.length-(intOf i).toNat)
   case atStart=>exact⟨0,Nat.zero_le _,rfl,H0.out⟩
   case round=>
    clear y0 y1 y2 y3 y4 fz0 fz1 fz2 fz3 fz4;obtain⟨k,hk,rfl,hL⟩:=hrel;have HL:=hid hL;obtain⟨y0,y1,y2,y3,y4,fz0,fz1,fz2,fz3,fz4⟩:=HREC.out _ hL.below
    by_cases hlt:k<ys.length
    ·obtain⟨y,hy⟩:∃y,ys[k]? =some y:=⟨ys[k],List.getElem?_eq_getElem hlt⟩
     have hfz:=hL.canw;obtain⟨b0,o,p1,c5,q1,d1,hs,hqn,hnb,hbl,g1,g2,g3,g4,g5,g6,z2,z3⟩:=Zbof hL.steps (Zzf hy);have HY:=hid hy;have HZ2:=hid z2;have HZ3:=hid z3;have HNB:=hid hnb;have hnx:=Zbok (by rw[hs]at hL;exact hL.steps) (Zzf hy) z2 z3 8 3;have HNX:=hid hnx;have HNE:Hid (b0≠W1.heap.size):=by show _≠_;have:=HS3.out;intro e;exact hnb (by omega)
     subst hs;have hz2:=hfz _ rfl (o+k*5+2);have hz3:=hfz _ rfl (o+k*5+3);clear hfz;have hi1:(k:Int)<(ys.length:Int):=by omega
     have hi0:(0:Int)<=(k:Int):=by omega
     have e1:=take_len y.args.length 8 8 rfl;have e2:=take_len y.lits.length 3 3 rfl;have k1:(0:Int)<=min (y.args.length:Int) 8:=by omega
     have k2:(0:Int)<=min (y.lits.length:Int) 3:=by omega
     have m1:min (y.args.length:Int) 8<=(c5:Int):=by omega
     have m2:min (y.lits.length:Int) 3<=(d1:Int):=by omega
     have zd2:(wr.drew).cell? ⟨b0,o+k*5+2,none⟩=some (.slice p1 y.args.length c5):=z2;have zd3:(wr.drew).cell? ⟨b0,o+k*5+3,none⟩=some (.slice q1 y.lits.length d1):=z3;have yd4:(wr.drew).cell? ⟨W1.heap.size,4,none⟩=some (.slice (some ⟨b0,o,none⟩) ys.length s3):=y4;unfold maxLen at g2 g4 g6;clear hL hy hnx hnb hqn
     go_wp2_with fail
     refine Zbuk (S:=λb w'=>(b=false->w'=wr.drew)/\w'.cell? ⟨W1.heap.size,4,none⟩=some (.slice (some ⟨b0,o,none⟩) ys.length s3)) (st:=38) (by kernel_rfl) ?_ (λhHeld=>?_)
     ·exact⟨λ_=>rfl,y4⟩
     refine tkS 0 ?_;refine tkS 1 ?_;refine tkS 2 ?_;refine tkZ 3 ?_;refine tkZ 4 ?_;refine tkZ 5 ?_;refine tkS 6 ?_;refine tkS 7 ?_;refine tkS 8 ?_;refine tkS 9 ?_;refine tkS 10 ?_;refine tkS 11 ?_;refine tkS 12 ?_;refine tkS 13 ?_;refine tkS 14 ?_;refine tkS 15 ?_;refine tkS 16 ?_;refine tkS 17 ?_;refine tkS 18 ?_;refine tkS 19 ?_;refine tkS 20 ?_;refine tkS 21 ?_;refine tkS 22 ?_;refine tkS 23 ?_;refine tkS 24 ?_;refine tkS 25 ?_;refine tkS 26 ?_;refine tkS 27 ?_;refine tkS 28 ?_;refine tkS 29 ?_;refine tkS 30 ?_;refine tkS 31 ?_;refine tkS 32 ?_;refine tkZ 33 ?_;refine tkZ 34 ?_;refine tkZ 35 ?_;refine tkS 36 ?_;refine tkS 37 ?_
     try simp only[Act.put,List.setIfInBounds_toArray,List.set_cons_zero,List.set_cons_succ]
     refine Zbtx (rs:=[38]) (by kernel_rfl) (by simp) ?_;refine AllReadyS.cons (b:=true) (o:=_) (by simp only[List.getElem?_toArray,List.getElem?_cons_succ,List.getElem?_cons_zero];rfl) (by kernel_rfl) (λK hK=>?_) ?_
     ·go_simp
      refine hK.out _ _ ?_ (λhHeld=>?_)
      ·try dsimp only
       exact⟨λe=>(by cases e),by rw[Zid,World.cell?_setCell_far _ _ _ _ HNE.out];exact y4⟩
      clear hK K
      try simp only[Act.put,List.setIfInBounds_toArray,List.set_cons_zero,List.set_cons_succ]
      refine tkZ 39 ?_;refine tkZ 40 ?_
      try simp only[Act.put,List.setIfInBounds_toArray,List.set_cons_zero,List.set_cons_succ]
      refine Zbtx (rs:=[41]) (by kernel_rfl) (by simp) ?_;refine AllReadyS.cons (b:=true) (o:=_) (by simp only[List.getElem?_toArray,List.getElem?_cons_succ,List.getElem?_cons_zero];rfl) (by kernel_rfl) (λK hK=>?_) ?_
      ·go_simp
       refine hK.out _ _ ?_ (λhHeld=>?_)
       ·try dsimp only
        exact⟨λe=>(by cases e),by rw[Zid,World.cell?_setCell_far _ _ _ _ HNE.out];exact hHeld.2⟩
       clear hK K
       try simp only[Act.put,List.setIfInBounds_toArray,List.set_cons_zero,List.set_cons_succ]
       refine Zbtu (by kernel_rfl) ?_ _;have hwr:=HL.out.below;obtain⟨W7,hW7⟩:∃V,((wr.setCell ⟨b0,o+k*5+2,none⟩ (.slice p1 (min 8 y.args.length) c5)).setCell ⟨b0,o+k*5+3,none⟩ (.slice q1 (min 3 y.lits.length) d1)).drew=V:=⟨_,rfl⟩;have hfr:Fr (λb=>b=b0) wr W7:=by
        rw[<-hW7];exact((Zpy (Av:=λb=>b=b0) (a:=⟨b0,o+k*5+2,none⟩) rfl _).trans (Zpy (Av:=λb=>b=b0) (a:=⟨b0,o+k*5+3,none⟩) rfl _)).trans (Zpw _ _)
       have h7:LawL W5 W3.heap.size x (.slice i1 i2 i3) (.slice j1 j2 j3) (.slice l1 l2 l3) (.slice (some ⟨b0,o,none⟩) ys.length s3) (mixS (k+1) ys) W7:=by
        have hset:∀ {v:Value} {xs:List ByteArray},StrsA (λb=>b<W3.heap.size) wr v xs->StrsA (λb=>b<W3.heap.size) W7 v xs:=λh=>by
         rw[<-hW7];refine RowA.keep (w:=(wr.setCell ⟨b0,o+k*5+2,none⟩ (.slice p1 (min 8 y.args.length) c5)).setCell ⟨b0,o+k*5+3,none⟩ (.slice q1 (min 3 y.lits.length) d1)) ?_ (Zpw _ _);exact Zbqg (Zbqg h HZ2.out (by intro s e;cases e) _) (by rw[World.cell?_setCell_other _ _ _ _ (by simp)];exact HZ3.out) (by intro s e;cases e) _
        refine⟨hwr.trans (hfr.below (Nat.le_trans HS45.out hwr.size) λb hb e=>by subst e;exact HNB.out hb),hset HL.out.ins,hset HL.out.outs,hset HL.out.after,?_,λb e i=>?_⟩
        ·have:=HNX.out
         rw[<-Zzg HY.out,<-hW7];exact StepsA.keep this (Zpw _ _)
        ·rw[<-hW7]
         have h1:=HL.out.canw b e i;rw[Zqb,World.frozen?_setCell,World.frozen?_setCell];exact h1
       have H7:=hid h7;rw[hW7];clear hwr hW7 hfr h7 hHeld hz2 hz3 y0 y1 y2 y3 y4 fz0 fz1 fz2 fz3 fz4 z2 z3 zd2 zd3 yd4 e1 e2 k1 k2 m1 m2;go_wp2;go_roundw
       case rel=>exact⟨k+1,by omega,by go_num,H7.out⟩
       case measure=>simp[intOf];omega
      exact AllReadyS.nil
     exact AllReadyS.nil
    ·obtain rfl:k=ys.length:=by omega
     have hi1:¬(ys.length:Int)<(ys.length:Int):=by omega
     have hout:=(hL.below.block _ (by have:=HB3.out;omega)).trans HO5.out;have HOUT:=hid hout;obtain⟨d0,d1,d2,d3,d4,e0,e1,e2,e3,e4⟩:=cells5 hout;clear hL hout;go_wp2;refine bodyPost_ret (Zbhl rfl _ _ (w.heap.size+1) _ _ _ _ rfl (Zrs HOUT.out _ _ _ _ _) Tryz.underlying25 rfl (by kernel_rfl)) rfl ?_;have hL:=HL.out;have hS:=HB3.out;have hS5:=HS45.out;have hfs:∀u0 u1 u2 u3 u4,Fr (λb=>b<W3.heap.size) wr _:=λu0 u1 u2 u3 u4=>Zpz (Av:=λb=>b<W3.heap.size) (w:=wr) (g:=w.heap.size+1) (by omega) u0 u1 u2 u3 u4
     have hst:=hL.steps;rw[Zze _ (Nat.le_refl _)]at hst;have hys:(cutR x).steps=ys.map cutS:=by rw[<-HYS.out];rfl
     refine⟨⟨_,_,_,_,rfl,RowA.mono (RowA.keep hL.ins (hfs _ _ _ _ _)) λb _ hb=>by omega,RowA.mono (RowA.keep hL.outs (hfs _ _ _ _ _)) λb _ hb=>by omega,RowA.mono (RowA.keep hL.after (hfs _ _ _ _ _)) λb _ hb=>by omega,?_⟩,
      Zfn (HB5.out.trans (hL.below.mono (by omega))) (by omega) _ _ _ _ _⟩
     rw[hys];exact(hst.keep (hfs _ _ _ _ _)).mono λb _ hb=>by omega
  exact AllReadyH.nil
 exact AllReadyH.nil
theorem Zbir {w w':World} {x:RuleS} {e:Ending} (h:Zbu w w' x e):∃b1 m1 e1 b2 m2 e2 b3 m3 e3 b4 m4 e4,e = .returned (.agg #[.string x.name,.slice b1 m1 e1,.slice b2 m2 e2,.slice b3 m3 e3,.slice b4 m4 e4])/\
  RuleA (λb=>b<w.heap.size) w' [.string x.name,.slice b1 m1 e1,.slice b2 m2 e2,.slice b3 m3 e3,.slice b4 m4 e4] x:=by
 obtain⟨vi,vo,vf,vs,rfl,h1,h2,h3,h4⟩:=h;obtain⟨b1,m1,e1,q1⟩:=Zbig h1;obtain⟨b2,m2,e2,q2⟩:=Zbig h2;obtain⟨b3,m3,e3,q3⟩:=Zbig h3;obtain⟨b4,e4,q4,_,_⟩:=Zboi h4;subst q1 q2 q3 q4;exact⟨b1,m1,e1,b2,m2,e2,b3,m3,e3,b4,_,e4,rfl,⟨_,_,_,_,rfl,h1,h2,h3,h4⟩⟩
theorem Zbcl {l:List ByteArray}:Zbck l=true↔l.Nodup:=by
 unfold Zbck;rw[decide_eq_true_eq];constructor
 ·intro h;exact(Zcn (L:=[]) (by simpa using h)).1
 ·intro h
  have:∀(l L:List ByteArray),l.Nodup->(∀k∈l,k∉L)->(addS L l).length=L.length+l.length:=by
   intro l
   induction l with
   | nil=>intro L _ _;simp[addS]
   | cons k ks ih=>
    intro L h1 h2;have hk:insS L k=L ++ [k]:=by unfold insS;rw[if_neg (λh=>h2 k (by simp) (Zsj.1 h))]
    have e:addS L (k::ks)=addS (insS L k) ks:=rfl;obtain⟨n1,n2⟩:=List.nodup_cons.1 h1;rw[e,hk,ih _ n2]
    ·simp;omega
    ·intro a ha hm
     rcases List.mem_append.1 hm with hm|hm
     ·exact h2 a (by simp[ha]) hm
     ·obtain rfl:a=k:=by simpa using hm
      exact n1 ha
  simpa using this l [] h (by simp)
theorem Zbrq {l:List ByteArray}:Zch l↔¬l.Nodup:=by
 constructor
 ·rintro⟨i,j,hj,hi,e⟩ hn
  have h1:j<l.length:=by omega
  rw[List.getElem?_eq_getElem h1,List.getElem?_eq_getElem hi]at e;exact List.pairwise_iff_getElem.1 hn j i h1 hi hj (Option.some.inj e)
 ·intro h
  refine Classical.byContradiction λhx=>h ?_
  refine List.pairwise_iff_getElem.2 λj i h1 hi hj e=>hx ⟨i,j,hj,hi,?_⟩
  rw[List.getElem?_eq_getElem h1,List.getElem?_eq_getElem hi,e]
theorem Zpq (x:RuleS):Zpo x=true↔Zav x:=by
 unfold Zpo Zav nmsR nmsS;rw[List.take_length];simp only[Bool.and_eq_true,List.all_eq_true,decide_eq_true_eq,Zbnm,Zyt,List.mem_append,List.mem_singleton,List.mem_flatten,List.mem_map,okN];constructor
 ·rintro⟨⟨⟨⟨⟨h1,h2⟩,h3⟩,h4⟩,h5⟩,h6⟩
  refine⟨?_,λj y hy=>(h6 y (List.mem_of_getElem? hy)).1.1,by omega⟩;rintro y ((((rfl|h)|h)|h)|⟨l,⟨s,hs,rfl⟩,h⟩)
  ·exact h1
  ·exact h2 y h
  ·exact h4 y h
  ·exact h5 y h
  ·rcases List.mem_cons.1 h with rfl|h
   ·exact(h6 s hs).1.2
   ·exact(h6 s hs).2 y h
 ·rintro⟨h1,h2,h3⟩
  refine⟨⟨⟨⟨⟨h1 _ (by simp),λy hy=>h1 y (by simp[hy])⟩,by omega⟩,λy hy=>h1 y (by simp[hy])⟩,λy hy=>h1 y (by simp[hy])⟩,λs hs=>⟨⟨?_,?_⟩,λa ha=>?_⟩⟩
  ·obtain⟨j,hj⟩:=List.getElem?_of_mem hs
   exact h2 j s hj
  ·exact h1 _ (.inr ⟨_,⟨s,hs,rfl⟩,by simp⟩)
  ·exact h1 _ (.inr ⟨_,⟨s,hs,rfl⟩,by simp[ha]⟩)
theorem Zfs (x:RuleS):Zbkx x=true↔¬BigX x:=by
 unfold Zbkx BigX;simp only[Bool.and_eq_true,decide_eq_true_eq];omega
theorem Zpn (outs:List ByteArray):∀(l:List StepS) (T M:List ByteArray),Zpm outs T M l=true↔
  (∀(k:Nat) y,l[k]? =some y->(∀a∈y.args,a∈T∨a∈(l.take k).map StepS.out)/\y.out∉T/\y.out∉(l.take k).map StepS.out)/\∀a∈outs,a∈M∨a∈l.map StepS.out
 | [],T,M=>by
  unfold Zpm;simp only[List.all_eq_true,Zsj,List.getElem?_nil,reduceCtorEq,false_implies,implies_true,true_and,List.map_nil,List.not_mem_nil,or_false]
 | s::r,T,M=>by
  have hT:∀a,a∈addS T [s.out]↔a∈T∨a=s.out:=λa=>by rw[Zcp];simp
  have hM:∀a,a∈addS M [s.out]↔a∈M∨a=s.out:=λa=>by rw[Zcp];simp
  unfold Zpm
  by_cases h:s.args.all (inS T)=true/\inS T s.out=false
  ·rw[if_pos h,Zpn outs r]
   obtain⟨h1,h2⟩:=h;simp only[List.all_eq_true,Zsj]at h1;have h2':s.out∉T:=λhm=>by rw[Zsj.2 hm]at h2;cases h2
   constructor
   ·rintro⟨a1,a2⟩
    refine⟨λk y hy=>?_,λa ha=>?_⟩
    ·cases k with
     | zero=>
          obtain rfl:s=y:=by simpa using hy
          exact⟨λa ha=> .inl (h1 a ha),h2',by simp⟩
     | succ k=>
      obtain⟨b1,b2,b3⟩:=a1 k y (by simpa using hy);refine⟨λa ha=>?_,λhm=>b2 ((hT _).2 (.inl hm)),?_⟩
      ·rcases b1 a ha with h|h
       ·rcases(hT a).1 h with h|h
        ·exact .inl h
        ·right;rw[List.take_succ_cons,List.map_cons];simp[h]
       ·right;rw[List.take_succ_cons,List.map_cons];exact List.mem_cons_of_mem _ h
      ·rw[List.take_succ_cons,List.map_cons]
       intro hm
       rcases List.mem_cons.1 hm with h|h
       ·exact b2 ((hT _).2 (.inr h))
       ·exact b3 h
    ·rcases a2 a ha with h|h
     ·rcases(hM a).1 h with h|h
      ·exact .inl h
      ·right;simp[h]
     ·right;rw[List.map_cons];exact List.mem_cons_of_mem _ h
   ·rintro⟨a1,a2⟩
    refine⟨λk y hy=>?_,λa ha=>?_⟩
    ·obtain⟨b1,b2,b3⟩:=a1 (k+1) y (by simpa using hy)
     rw[List.take_succ_cons,List.map_cons]at b1 b3;refine⟨λa ha=>?_,λhm=>?_,λhm=>b3 (List.mem_cons_of_mem _ hm)⟩
     ·rcases b1 a ha with h|h
      ·exact .inl ((hT a).2 (.inl h))
      ·rcases List.mem_cons.1 h with h|h
       ·exact .inl ((hT a).2 (.inr h))
       ·exact .inr h
     ·rcases(hT _).1 hm with h|h
      ·exact b2 h
      ·exact b3 (by rw[h];simp)
    ·rcases a2 a ha with h|h
     ·exact .inl ((hM a).2 (.inl h))
     ·rw[List.map_cons]at h
      rcases List.mem_cons.1 h with h|h
      ·exact .inl ((hM a).2 (.inr h))
      ·exact .inr h
  ·rw[if_neg h]
   refine⟨λh=>absurd h (by decide),λ⟨a1,_⟩=>absurd ?_ h⟩;obtain⟨b1,b2,_⟩:=a1 0 s rfl;refine⟨?_,?_⟩
   ·simp only[List.all_eq_true,Zsj]
    intro a ha
    rcases b1 a ha with h|h
    ·exact h
    ·simp at h
   ·cases hi:inS T s.out with
    | false=>rfl
    | true=>exact absurd (Zsj.1 hi) b2
theorem Zbaf (x:RuleS):Zbac x=true↔Zbj x:=by
 have hA:∀(l:List ByteArray) a,a∈addS [] l↔a∈l:=λl a=>by rw[Zcp];simp
 unfold Zbac Zbj Zcd Zbdi;simp only[Bool.and_eq_true,Zbcl,Zbrq,Classical.not_not,Zok,Zpn,Bool.not_eq_true',Zoj,List.take_length];have hI:inS (addS [] x.after) x.name=false↔x.name∉x.after:=by
  cases h:inS (addS [] x.after) x.name with
  | true=>exact⟨λh=>(by cases h),λh'=>absurd ((hA _ _).1 (Zsj.1 h)) h'⟩
  | false=>exact⟨λ_ hm=>(by rw[Zsj.2 ((hA _ _).2 hm)]at h;cases h),λ_=>rfl⟩
 rw[hI];constructor
 ·rintro⟨⟨⟨⟨h1,h2⟩,h3⟩,h4⟩,h5,h6⟩
  refine⟨h1,h2,h3,h4,λk y hy=>?_,λa ha=>?_⟩
  ·obtain⟨b1,b2,b3⟩:=h5 k y hy
   refine⟨λhm=>b2 ((hA _ _).2 hm),b3,λa ha=>?_⟩;rintro⟨c1,c2⟩
   rcases b1 a ha with h|h
   ·exact c1 ((hA _ _).1 h)
   ·exact c2 h
  ·have hm:a∈x.steps.map StepS.out:=by
    rcases h6 a ha with h|h
    ·simp at h
    ·exact h
   refine⟨λhi=>?_,hm⟩;obtain⟨s,hs,rfl⟩:=List.mem_map.1 hm;obtain⟨k,hk⟩:=List.getElem?_of_mem hs;exact(h5 k s hk).2.1 ((hA _ _).2 hi)
 ·rintro⟨h1,h2,h3,h4,h5,h6⟩
  refine⟨⟨⟨⟨h1,h2⟩,h3⟩,h4⟩,λk y hy=>?_,λa ha=> .inr (h6 a ha).2⟩;obtain⟨b1,b2,b3⟩:=h5 k y hy;refine⟨λa ha=>?_,λhm=>b1 ((hA _ _).1 hm),b2⟩
  by_cases hi:a∈x.ins
  ·exact .inl ((hA _ _).2 hi)
  ·exact .inr (Classical.byContradiction λhk=>b3 a ha ⟨hi,hk⟩)
theorem Zbiq (x:RuleS):RuleC x (Zbip x):=by
 unfold Zbip RuleC;have f:=Zpq x;have s:=Zfs x;have n:=Zbaf x
 cases h1:Zpo x with
 | false=>rw[h1]at f;exact .inl ⟨λh=>absurd (f.2 h) (by decide),by simp⟩
 | true=>
  rw[h1]at f
  cases h2:Zbkx x with
  | false=>rw[h2]at s;exact .inr (.inl ⟨f.1 rfl,Classical.byContradiction λh=>absurd (s.2 h) (by decide),by simp⟩)
  | true=>
   rw[h2]at s
   cases h3:Zbac x with
   | false=>rw[h3]at n;exact .inr (.inr (.inl ⟨f.1 rfl,s.1 rfl,λh=>absurd (n.2 h) (by decide),by simp⟩))
   | true=>rw[h3]at n;exact .inr (.inr (.inr ⟨f.1 rfl,s.1 rfl,n.1 rfl,by simp⟩))
theorem Zbkv (x:RuleS):ShortR (cutR x):=
 ⟨by show(x.ins.take 10).length<=10;rw[List.length_take];omega,by show(x.outs.take 6).length<=6;rw[List.length_take];omega,by show(x.after.take 10).length<=10;rw[List.length_take];omega,
  by show((x.steps.take 14).map cutS).length<=14;rw[List.length_map,List.length_take];omega,λy hy=>by
   obtain⟨z,hz,rfl⟩:=List.mem_map.1 (show y∈(x.steps.take 14).map cutS from hy);exact⟨by show(z.args.take 8).length<=8;rw[List.length_take];omega,by show(z.lits.take 3).length<=3;rw[List.length_take];omega⟩⟩
theorem Zbma {x:RuleS} {m:Nat} (h:SmallR x m):SmallR (cutR x) m:=by
 have tk:∀ {l:List ByteArray} (k:Nat),SmallL l m->SmallL (l.take k) m:=λk h=>⟨by rw[List.length_take];have:=h.1;omega,λz hz=>h.2 z (List.mem_of_mem_take hz)⟩
 exact⟨h.name,tk 10 h.ins,tk 6 h.outs,tk 10 h.after,by show((x.steps.take 14).map cutS).length<=m;rw[List.length_map,List.length_take];have:=h.few;omega,λy hy=>by
  obtain⟨z,hz,rfl⟩:=List.mem_map.1 (show y∈(x.steps.take 14).map cutS from hy);have:=h.steps z (List.mem_of_mem_take hz);exact⟨this.out,tk 8 this.args,tk 3 this.lits,this.op,this.n⟩⟩
def boxR (w:World) (B:Nat) (s:ByteArray) (v1 v2 v3 v4:Value):World:=
 ((((w.setCell ⟨B,0,none⟩ (.string s)).setCell ⟨B,1,none⟩ v1).setCell ⟨B,2,none⟩ v2).setCell ⟨B,3,none⟩ v3).setCell ⟨B,4,none⟩ v4
theorem Zgf (w:World) (B:Nat) (s:ByteArray) (v1 v2 v3 v4:Value):Below B w (boxR w B s v1 v2 v3 v4):=
 (((((Below.refl _ _).setCell (p:=⟨B,0,none⟩) (Nat.le_refl _) _).setCell (p:=⟨B,1,none⟩) (Nat.le_refl _) _).setCell (p:=⟨B,2,none⟩) (Nat.le_refl _) _).setCell (p:=⟨B,3,none⟩) (Nat.le_refl _) _).setCell (p:=⟨B,4,none⟩) (Nat.le_refl _) _
theorem Zgg (w:World) (B:Nat) (s:ByteArray) (v1 v2 v3 v4:Value) (k:Nat) (h:k≠B):(boxR w B s v1 v2 v3 v4).heap[k]? =w.heap[k]?:=by
 unfold boxR;rw[Below.heap_setCell _ _ _ _ h,Below.heap_setCell _ _ _ _ h,Below.heap_setCell _ _ _ _ h,Below.heap_setCell _ _ _ _ h,Below.heap_setCell _ _ _ _ h]
theorem Zge (w:World) (B:Nat) (s:ByteArray) (v1 v2 v3 v4:Value) {a b c d e:Value} {T:TypeId} (h:w.heap[B]? =some (.cells #[a,b,c,d,e] T)):(boxR w B s v1 v2 v3 v4).heap[B]? =some (.cells #[.string s,v1,v2,v3,v4] T):=
 heap_set _ _ (heap_set _ _ (heap_set _ _ (heap_set _ _ (heap_set _ _ h))))
theorem Zgd {w1 w2:World} {B:Nat} {y:RuleS} {v1 v2 v3 v4:Value} {a b c d e:Value} {T:TypeId} (hra:RuleA (λk=>k<w1.heap.size) w2 [.string y.name,v1,v2,v3,v4] y) (hx:w2.heap[B]? =some (.cells #[a,b,c,d,e] T)) (hB:B+1<=w1.heap.size):
  Below B w2 (boxR w2 B y.name v1 v2 v3 v4)/\(boxR w2 B y.name v1 v2 v3 v4).heap[B]? =some (.cells #[.string y.name,v1,v2,v3,v4] T)/\RuleI (boxR w2 B y.name v1 v2 v3 v4) [.string y.name,v1,v2,v3,v4] y:=by
 have hb:=Zgf w2 B y.name v1 v2 v3 v4;refine⟨hb,Zge _ _ _ _ _ _ _ hx,(hra.keep (w':=boxR w2 B y.name v1 v2 v3 v4) ⟨hb.os,hb.tape,hb.output,hb.size,λk hk hn=>?_⟩).ruleI⟩;exact Zgg _ _ _ _ _ _ _ _ (λe=>hn (by show k<_;omega))
theorem Zbio {Av:Nat->Prop} {w:World} {s:ByteArray} {b1 b2 b3 b4:Option Addr} {m1 m2 m3 m4 e1 e2 e3 e4:Nat} {y:RuleS} (h:RuleA Av w [.string s,.slice b1 m1 e1,.slice b2 m2 e2,.slice b3 m3 e3,.slice b4 m4 e4] y):m1=y.ins.length/\m2=y.outs.length/\m3=y.after.length/\m4=y.steps.length:=by
 obtain⟨vi,vo,vf,vs,q,h1,h2,h3,h4⟩:=h.ruleI;simp only[List.cons.injEq,and_true]at q;obtain⟨_,rfl,rfl,rfl,rfl⟩:=q;obtain⟨_,_,g1⟩:=Zue h1;obtain⟨_,_,g2⟩:=Zue h2;obtain⟨_,_,g3⟩:=Zue h3;obtain⟨_,_,g4⟩:=Zbov h4;exact⟨(Value.slice.inj g1).2.1,(Value.slice.inj g2).2.1,(Value.slice.inj g3).2.1,(Value.slice.inj g4).2.1⟩
theorem Zcbs {P:Program} {fn:Func} {p u:Tmp} {ty:TypeId} (h:fn.results = #[.cell p ty,.tmp u]) (tmps:Array Value) (w:World) (g:Nat) (t:TypeId) (cs:Array Value) (fr:Nat×Nat) (d:TypeDesc)
  (hp:tmps.getD p undef = .pointer (some ⟨g,0,none⟩)) (hg:w.heap[g]? =some (.cells cs t fr))
  (hu:P.underlying ty=some d) (hd:(match d with | .struct _ | .array _ _=>true|_=>false)=true) (hi:(P.info? ty).map (·.size)=some cs.size):
  (results fn tmps).run P w = .ok (.tuple #[.agg cs,tmps.getD u undef]) w:=by
 have hp':tmps[p]?.getD undef = .pointer (some ⟨g,0,none⟩):=by simpa using hp
 simp[results,h,hp',asAddr,run_loadVar_row w g t ty cs fr d hg hu hd hi]
def Zcbb (x:RuleS) (w:World) (e:Ending) (w':World):Prop:=∃b1 b2 b3 b4 e1 e2 e3 e4,e = .returned (.tuple #[.agg (Zbiz (cutR x) b1 b2 b3 b4 e1 e2 e3 e4),.bool (decide (Zbip (cutR x)=0))])/\
 RuleA (λk=>k<w.heap.size) w' [.string (cutR x).name,.slice b1 (cutR x).ins.length e1,.slice b2 (cutR x).outs.length e2,.slice b3 (cutR x).after.length e3,.slice b4 (cutR x).steps.length e4] (cutR x)/\Below w.heap.size w w'
theorem Zcbg {V:World} {B:Nat} {v0 v1 v2 v3 v4 x0 x1 x2 x3 x4:Value} (h:V.cell? ⟨B,0,none⟩=some v0/\V.cell? ⟨B,1,none⟩=some v1/\V.cell? ⟨B,2,none⟩=some v2/\V.cell? ⟨B,3,none⟩=some v3/\V.cell? ⟨B,4,none⟩=some v4):
  ∀W,W=((((V.setCell ⟨B+1,0,none⟩ x0).setCell ⟨B+1,1,none⟩ x1).setCell ⟨B+1,2,none⟩ x2).setCell ⟨B+1,3,none⟩ x3).setCell ⟨B+1,4,none⟩ x4->W.cell? ⟨B,0,none⟩=some v0/\W.cell? ⟨B,1,none⟩=some v1/\W.cell? ⟨B,2,none⟩=some v2/\W.cell? ⟨B,3,none⟩=some v3/\W.cell? ⟨B,4,none⟩=some v4:=by
 rintro W rfl;have e:∀o,(((((V.setCell ⟨B+1,0,none⟩ x0).setCell ⟨B+1,1,none⟩ x1).setCell ⟨B+1,2,none⟩ x2).setCell ⟨B+1,3,none⟩ x3).setCell ⟨B+1,4,none⟩ x4).cell? ⟨B,o,none⟩=V.cell? ⟨B,o,none⟩:=λo=>by
  have hn:∀(W:World) i x,(W.setCell ⟨B+1,i,none⟩ x).heap[B]? =W.heap[B]?:=λW i x=>Below.heap_setCell _ _ _ _ (by show B≠B+1;omega)
  simp only[World.cell?,hn]
 rw[e,e,e,e,e];exact h
set_option maxHeartbeats 8000000
set_option maxRecDepth 100000
theorem Zcbh (x:RuleS) (a1 a2 a3 a4:Option Addr) (c1 c2 c3 c4:Nat) (w:World) (hI:RuleI w [.string x.name,.slice a1 x.ins.length c1,.slice a2 x.outs.length c2,.slice a3 x.after.length c3,.slice a4 x.steps.length c4] x) (hs:SmallR x 1048576):
  Calls Tryz.prog 13 #[.agg (Zbiz x a1 a2 a3 a4 c1 c2 c3 c4)] w (Zcbb x w):=by
 have mixed:Tryz.prog.follows .mixedOrders=true:=by kernel_rfl
 obtain⟨W0,hW0⟩:∃V,(w.alloc (.cells (Zbiz x a1 a2 a3 a4 c1 c2 c3 c4) 25)).alloc (.cells Zbur 25)=V:=⟨_,rfl⟩;obtain⟨B,hB⟩:∃m,w.heap.size=m:=⟨_,rfl⟩;have hb0:Below B w W0:=by rw[<-hW0,<-hB];exact((Below.refl _ _).alloc (Nat.le_refl _) _).alloc (by simp) _
 have hs0:W0.heap.size=B+2:=by rw[<-hW0];simp[hB]
 have hx0:W0.heap[B]? =some (.cells (Zbiz x a1 a2 a3 a4 c1 c2 c3 c4) 25):=by rw[<-hW0,<-hB,Below.heap_alloc _ _ _ (by simp)];exact alloc_at w _
 have hz0:W0.heap[B+1]? =some (.cells Zbur 25):=by
  have:=alloc_at (w.alloc (.cells (Zbiz x a1 a2 a3 a4 c1 c2 c3 c4) 25)) (.cells Zbur 25);rw[World.size_alloc,hB]at this;rw[<-hW0];exact this
 have CL:Hid (Calls Tryz.prog 51 #[.agg (Zbiz x a1 a2 a3 a4 c1 c2 c3 c4)] W0 λe w'=>Zbu W0 w' (cutR x) e/\Below W0.heap.size W0 w'):=hid (Zwx x _ _ _ _ W0 (hI.below (by rw[hB];exact hb0)) hs);unfold Zcbb;obtain⟨y,hy⟩:∃y,cutR x=y:=⟨_,rfl⟩;have hym:SmallR y 1048576:=by rw[<-hy];exact Zbma hs
 have hyh:ShortR y:=by rw[<-hy];exact Zbkv x
 have HYM:=hid hym;have HYH:=hid hyh;rw[hy]at CL⊢;obtain⟨c,hc⟩:∃c,Zbip y=c:=⟨_,rfl⟩;have HCC:=hid hc;rw[hc];clear hc;have HW0:=hid hW0;have HB:=hid hB;have HB0:=hid hb0;have HS0:=hid hs0;have HXD:Hid (∀V,Below W0.heap.size W0 V->V.heap[B]? =some (.cells (Zbiz x a1 a2 a3 a4 c1 c2 c3 c4) 25)):=hid λV hV=>(hV.block B (by omega)).trans hx0
 have HZD:Hid (∀V,Below W0.heap.size W0 V->V.heap[B+1]? =some (.cells Zbur 25)):=hid λV hV=>(hV.block (B+1) (by omega)).trans hz0
 clear hI hs hW0 hb0 hs0 hz0 hy hym hyh;obtain⟨d0,d1,d2,d3,d4,_⟩:=cells5 hx0;clear hx0
 go_enter Tryz.func13,Tryz.ntmps13
 go_upto_region 1 with fail
 unfold Zbur at HW0
 try rw[HB.out]
 try rw[HW0.out]
 go_wp2_with fail
 refine CL.out.mono ?_;rintro e w2 ⟨hpost,hb2⟩;obtain⟨b1,m1,e1,b2,m2,e2,b3,m3,e3,b4,m4,e4,rfl,hra⟩:=Zbir hpost;have hx2:=HXD.out w2 hb2;have hz2:=HZD.out w2 hb2;have h02:Below B w w2:=HB0.out.trans (hb2.mono (by have:=HS0.out;omega));obtain⟨q1,q2,q3,q4⟩:=Zbio hra;subst q1 q2 q3 q4;obtain⟨f0,f1,f2,f3,f4,_⟩:=cells5 hx2;have hbR:=Zgf w2 B y.name (.slice b1 y.ins.length e1) (.slice b2 y.outs.length e2) (.slice b3 y.after.length e3) (.slice b4 y.steps.length e4);have hxR:=Zge w2 B y.name (.slice b1 y.ins.length e1) (.slice b2 y.outs.length e2) (.slice b3 y.after.length e3) (.slice b4 y.steps.length e4) hx2;have hzR:=(Zgg w2 B y.name (.slice b1 y.ins.length e1) (.slice b2 y.outs.length e2) (.slice b3 y.after.length e3) (.slice b4 y.steps.length e4) (B+1) (by omega)).trans hz2;have hR:=hra.keep (w':=boxR w2 B y.name (.slice b1 y.ins.length e1) (.slice b2 y.outs.length e2) (.slice b3 y.after.length e3) (.slice b4 y.steps.length e4)) ⟨hbR.os,hbR.tape,hbR.output,hbR.size,λk hk hn=>Zgg _ _ _ _ _ _ _ _ (λe=>hn (by show k<_;have:=HS0.out;omega))⟩;obtain⟨w3,hw3⟩:∃V,boxR w2 B y.name (.slice b1 y.ins.length e1) (.slice b2 y.outs.length e2) (.slice b3 y.after.length e3) (.slice b4 y.steps.length e4)=V:=⟨_,rfl⟩;rw[hw3]at hbR hxR hzR hR;unfold boxR at hw3;have h03:Below B w w3:=h02.trans hbR;have HS3:Hid (B+2<=w3.heap.size):=hid (by have:=HS0.out;have:=hb2.size;have:=hbR.size;omega);have hR0:RuleA (λk=>k<B) w3 [.string y.name,.slice b1 y.ins.length e1,.slice b2 y.outs.length e2,.slice b3 y.after.length e3,.slice b4 y.steps.length e4] y/\RuleA (λk=>k<B+2) w3 [.string y.name,.slice b1 y.ins.length e1,.slice b2 y.outs.length e2,.slice b3 y.after.length e3,.slice b4 y.steps.length e4] y:=by
  have:=HS0.out;exact⟨hR.mono λb _ e=>by show b<_;have e':b<B:=e;omega,hR.mono λb _ e=>by show b<_;have e':b<B+2:=e;omega⟩
 have H03:=hid h03;have HR0:=hid hR0;have HD:Hid (∀V,Below w3.heap.size w3 V->V.heap[B+1]? =some (.cells Zbur 25)/\(V.cell? ⟨B,0,none⟩=some (.string y.name)/\V.cell? ⟨B,1,none⟩=some (.slice b1 y.ins.length e1)/\V.cell? ⟨B,2,none⟩=some (.slice b2 y.outs.length e2)/\V.cell? ⟨B,3,none⟩=some (.slice b3 y.after.length e3)/\V.cell? ⟨B,4,none⟩=some (.slice b4 y.steps.length e4))):=by
  show ∀V,_;intro V hV;have hs:=HS3.out;obtain⟨g0,g1,g2,g3,g4,_⟩:=cells5 ((hV.block B (by omega)).trans hxR);exact⟨(hV.block (B+1) (by omega)).trans hzR,g0,g1,g2,g3,g4⟩
 have CR:Hid (∀V,Below w3.heap.size w3 V->Calls Tryz.prog 24 #[.agg (Zbiz y b1 b2 b3 b4 e1 e2 e3 e4)] V λe w'=>e = .returned (.int .i64 c)/\Below V.heap.size V w'):=by
  show ∀V,_;intro V hV;refine(Zhk y _ _ _ _ V (HR0.out.1.ruleI.below hV) HYM.out HYH.out).mono ?_;rintro e w' ⟨⟨c',rfl,hc'⟩,hb⟩;exact⟨by rw[hc'.one (Zbiq y),HCC.out],hb⟩
 clear hpost hb2 hra hx2 hz2 h02 hbR hxR hzR hR d0 d1 d2 d3 d4 h03 hR0
 go_upto_region 2 with fail
 try rw[hw3]
 clear hw3 f0 f1 f2 f3 f4;refine wp_region_held_drew (S:=λV=>V.cell? ⟨B,0,none⟩=some (.string y.name)/\V.cell? ⟨B,1,none⟩=some (.slice b1 y.ins.length e1)/\V.cell? ⟨B,2,none⟩=some (.slice b2 y.outs.length e2)/\V.cell? ⟨B,3,none⟩=some (.slice b3 y.after.length e3)/\V.cell? ⟨B,4,none⟩=some (.slice b4 y.steps.length e4)) (by kernel_rfl) ?_ (λhHeld=>?_)
 ·exact(HD.out _ (below_drewN (Below.refl _ _) 1)).2
 refine tkH 0 (v:=?_) ?_ ?_;rotate_left
 ·intro w hSw;obtain⟨p0,p1,p2,p3,p4⟩:=hSw;go_simp;try with_reducible rfl
 try simp only[Act.put,List.setIfInBounds_toArray,List.set_cons_zero,List.set_cons_succ]
 refine tkH 1 (v:=?_) ?_ ?_;rotate_left
 ·intro w hSw;obtain⟨p0,p1,p2,p3,p4⟩:=hSw;go_simp;try with_reducible rfl
 try simp only[Act.put,List.setIfInBounds_toArray,List.set_cons_zero,List.set_cons_succ]
 refine rdH [2] ?_;refine rcH (λK hK=>?_) ?_
 ·go_simp;refine(CR.out _ (below_drewN (Below.refl _ _) 1)).mono ?_;rintro e w4 ⟨rfl,hb4⟩;have HB4:Hid (Below w3.heap.size w3 w4):=hid ((below_drewN (Below.refl _ _) 1).trans (hb4.mono (by simp)));have HZ4:=hid (HD.out w4 HB4.out).1;clear hb4;dsimp only
  refine hK.out _ _ ?_ (λhHeld=>?_)
  ·try dsimp only
   exact(HD.out w4 HB4.out).2
  clear hK K
  try simp only[Act.put,List.setIfInBounds_toArray,List.set_cons_zero,List.set_cons_succ]
  refine tkK 3 ?_
  try simp only[Act.put,List.setIfInBounds_toArray,List.set_cons_zero,List.set_cons_succ]
  refine rdH [4] ?_;refine rcH (λK hK=>?_) ?_
  ·obtain⟨y0,y1,y2,y3,y4,u0,u1,u2,u3,u4⟩:=cells5 (show w4.heap[B+1]? =some (.cells #[.string ⟨#[]⟩,.slice none 0 0,.slice none 0 0,.slice none 0 0,.slice none 0 0] _)from HZ4.out);go_simp
   refine hK.out _ _ ?_ (λhHeld=>?_)
   ·try dsimp only
    exact Zcbg hHeld _ rfl
   clear hK K
   try simp only[Act.put,List.setIfInBounds_toArray,List.set_cons_zero,List.set_cons_succ]
   have hS5:=hHeld;have hb5:Below (B+1) w4 _:=Zgf w4 (B+1) y.name (.slice b1 y.ins.length e1) (.slice b2 y.outs.length e2) (.slice b3 y.after.length e3) (.slice b4 y.steps.length e4);have hz5:=Zge w4 (B+1) y.name (.slice b1 y.ins.length e1) (.slice b2 y.outs.length e2) (.slice b3 y.after.length e3) (.slice b4 y.steps.length e4) HZ4.out;have ho5:=Zgg w4 (B+1) y.name (.slice b1 y.ins.length e1) (.slice b2 y.outs.length e2) (.slice b3 y.after.length e3) (.slice b4 y.steps.length e4);obtain⟨w5,hw5⟩:∃V,boxR w4 (B+1) y.name (.slice b1 y.ins.length e1) (.slice b2 y.outs.length e2) (.slice b3 y.after.length e3) (.slice b4 y.steps.length e4)=V:=⟨_,rfl⟩;rw[hw5]at hb5 hz5 ho5;unfold boxR at hw5;rw[hw5]at hS5⊢;have HB5:=hid hb5;have HZ5:=hid hz5;have HO5:=hid ho5;clear hb5 hz5 ho5 hw5;refine rdH [5] ?_;refine rcH (λK hK=>?_) ?_
   ·go_simp
    refine hK.out _ _ ?_ (λhHeld=>?_)
    ·try dsimp only
     exact hS5
    clear hK K
    try simp only[Act.put,List.setIfInBounds_toArray,List.set_cons_zero,List.set_cons_succ]
    refine wpAnyH_done (by kernel_rfl) ?_ _;go_wp2;have hfr:Fr (λk=>k<B+2) w3 w5:=⟨HB5.out.os.trans HB4.out.os,HB5.out.tape.trans HB4.out.tape,HB5.out.output.trans HB4.out.output,Nat.le_trans HB4.out.size HB5.out.size,λk hk hn=>(HO5.out k (λe=>hn (by show k<_;omega))).trans (HB4.out.block k hk)⟩;refine bodyPost_ret (Zcbs rfl _ _ (B+1) _ _ _ _ rfl HZ5.out Tryz.underlying25 rfl (by kernel_rfl)) rfl ?_;exact⟨b1,b2,b3,b4,e1,e2,e3,e4,by first|rfl|simp,(HR0.out.2.keep hfr).mono (λb _ hb=>by show b<_;have:b<w.heap.size:=hb;have:=HB.out;omega),by rw[HB.out];exact H03.out.trans ((HB4.out.mono (by have:=HS3.out;omega)).trans (HB5.out.mono (by omega)))⟩
   exact AllReadyH.nil
  exact AllReadyH.nil
 exact AllReadyH.nil
end Go.Proofs.YtmgcaldphpnfgaaGreatDoor
