import Derived.Test.YtokogjhcidkckaaGreatDoorMbb
namespace Go.Proofs.YtokogjhcidkckaaGreatDoor
open Go.Lib (hid)
open Go.Proofs.Tryz
open Go.RowKit Go.Shelf
structure LawL (W5:World) (B:Nat) (x:RuleS) (vi vo vf vs:Value) (ys:List StepS) (wr:World):Prop where
 below:Below B W5 wr
 ins:StrsA (λb=>b<B) wr vi (cutQ x).ins
 outs:StrsA (λb=>b<B) wr vo (cutQ x).outs
 after:StrsA (λb=>b<B) wr vf (cutQ x).after
 steps:StepsA (λb=>b<B) wr vs ys
 canw:OpenV wr vs
set_option maxHeartbeats 8000000 in
set_option maxRecDepth 100000 in
theorem Zwx (x:RuleS) (vi vo vf vs:Value) (w:World) (h:RuleI w [.string x.name,vi,vo,vf,vs] x) (hf:SmallR x 1048576):
  Calls prog 49 #[.agg #[.string x.name,vi,vo,vf,vs]] w λe w'=>Zbu w w' (cutR x) e/\Below w.heap.size w w':=by
 obtain⟨_,_,_,_,q,h1,h2,h3,h4⟩:=h
 cases q
 obtain⟨a1,c1,rfl,hle1,hmx1,_⟩:=id h1;obtain⟨a2,c2,rfl,hle2,hmx2,_⟩:=id h2;obtain⟨a3,c3,rfl,hle3,hmx3,_⟩:=id h3;obtain⟨rows,hrow,hall⟩:=id h4;obtain⟨a4,c4,rfl,hle4,hmx4,_⟩:=id hrow;obtain⟨ob,hob⟩:∃o:Obj,o = .cells #[.string x.name,.slice a1 x.ins.length c1,.slice a2 x.outs.length c2,.slice a3 x.after.length c3,.slice a4 rows.length c4] 50:=⟨_,rfl⟩;obtain⟨W1,hW1⟩:∃W1,(w.alloc ob).alloc (.cells #[.string ⟨#[]⟩,.slice none 0 0,.slice none 0 0,.slice none 0 0,.slice none 0 0] 50)=W1:=⟨_,rfl⟩;have hb1:Below w.heap.size w W1:=by rw[<-hW1];exact((Below.refl _ _).alloc (Nat.le_refl _) _).alloc (by simp) _
 have hs1:W1.heap.size=w.heap.size+2:=by rw[<-hW1];simp
 have hx1:W1.heap[w.heap.size]? =some ob:=by rw[<-hW1,Below.heap_alloc _ _ _ (by simp)];exact alloc_at w ob
 have hx2:W1.heap[w.heap.size+1]? =some (.cells #[.string ⟨#[]⟩,.slice none 0 0,.slice none 0 0,.slice none 0 0,.slice none 0 0] 50):=by
  rw[<-hW1];have:=alloc_at (w.alloc ob) (.cells #[.string ⟨#[]⟩,.slice none 0 0,.slice none 0 0,.slice none 0 0,.slice none 0 0] 50);simpa using this
 subst hob;have hcell:∀w',Below W1.heap.size W1 w'->_:=λw' (hb:Below W1.heap.size W1 w')=>cells5 ((hb.block w.heap.size (by omega)).trans hx1)
 have hc0:=λw' hb=>(hcell w' hb).1
 have hc1:=λw' hb=>(hcell w' hb).2.1
 have hc2:=λw' hb=>(hcell w' hb).2.2.1
 have hc3:=λw' hb=>(hcell w' hb).2.2.2.1
 have hc4:=λw' hb=>(hcell w' hb).2.2.2.2.1
 have HC4:=hid hc4;have HS0:Hid (Below W1.heap.size W1 W1.drew):=by show Below _ _ _;exact(Below.refl _ _).drew
 have HU:Hid (∀w' o,Below W1.heap.size W1 w'->Below W1.heap.size W1 (w'.alloc o)):=by show ∀w' o,_;exact λw' o h=>h.alloc h.size o
 have HUD:Hid (∀o,Below W1.heap.size W1 (W1.alloc o).drew):=by show ∀o,_;exact λo=>((Below.refl _ _).alloc (Nat.le_refl _) o).drew
 have HB1:=hid hb1;have H1:Hid (∀w',Below W1.heap.size W1 w'->IsStrs w' (.slice a1 x.ins.length c1) x.ins):=by show ∀w',_;exact λw' hb=>h1.below (hb1.trans (hb.mono hb1.size))
 have H2:Hid (∀w',Below W1.heap.size W1 w'->IsStrs w' (.slice a2 x.outs.length c2) x.outs):=by show ∀w',_;exact λw' hb=>h2.below (hb1.trans (hb.mono hb1.size))
 have H3:Hid (∀w',Below W1.heap.size W1 w'->IsStrs w' (.slice a3 x.after.length c3) x.after):=by show ∀w',_;exact λw' hb=>h3.below (hb1.trans (hb.mono hb1.size))
 have H4:=hid h4;have HX2:=hid hx2;have HW1:=hid hW1;have N1:=hid hf.ins.1;have N2:=hid hf.outs.1;have N3:=hid hf.after.1;have HFS:=hid hf;have HS1:=hid hs1;clear hcell h1 h2 h3 h4 hb1 hs1 hx1 hx2 hc4 hf hrow hW1;have e1:=take_len x.ins.length 10 10 rfl;have e2:=take_len x.outs.length 6 6 rfl;have e3:=take_len x.after.length 10 10 rfl;have e4:=take_len rows.length 14 14 rfl;have k1:(0:Int)<=min (x.ins.length:Int) 10:=by omega
 have k2:(0:Int)<=min (x.outs.length:Int) 6:=by omega
 have k3:(0:Int)<=min (x.after.length:Int) 10:=by omega
 have k4:(0:Int)<=min (rows.length:Int) 14:=by omega
 have m1:min (x.ins.length:Int) 10<=(c1:Int):=by omega
 have m2:min (x.outs.length:Int) 6<=(c2:Int):=by omega
 have m3:min (x.after.length:Int) 10<=(c3:Int):=by omega
 have m4:min (rows.length:Int) 14<=(c4:Int):=by omega
 have hc4:=HC4.out;unfold maxLen at hmx1 hmx2 hmx3 hmx4
 go_enter func49,ntmps49
 go_upto_region 1 with fail
 rw[HW1.out];refine wp_region_held_drew (S:=λw'=>Below W1.heap.size W1 w') (by kernel_rfl) ?_ (λhHeld=>?_)
 ·exact HS0.out
 refine tkK 0 ?_;refine tkK 1 ?_;refine tkK 2 ?_;refine tkK 3 ?_;refine tkK 4 ?_;refine tkK 5 ?_;refine tkK 6 ?_;refine tkK 7 ?_;refine tkK 8 ?_;refine tkK 9 ?_;refine tkK 10 ?_;refine tkK 11 ?_;refine tkK 12 ?_;refine tkK 13 ?_;refine tkK 14 ?_;refine tkK 15 ?_;refine tkK 16 ?_;refine tkK 17 ?_;refine tkK 18 ?_;refine tkK 19 ?_;refine tkK 20 ?_;refine tkK 21 ?_;refine tkK 22 ?_;refine tkK 23 ?_;refine tkK 24 ?_;refine tkK 25 ?_;refine tkK 26 ?_;refine tkK 27 ?_;refine tkK 28 ?_;refine tkK 29 ?_;refine tkK 30 ?_
 try simp only[Act.put,sA,sZ,sS]
 refine rdH [31] ?_;refine rcH (λK hK=>?_) ?_
 ·go_simp
  refine hK.out _ _ ?_ (λhHeld=>?_)
  ·try dsimp only
   first|exact HU.out _ _ (by assumption)
  clear hK K
  try simp only[Act.put,sA,sZ,sS]
  refine rdH [32] ?_;refine rcH (λK hK=>?_) ?_
  ·go_simp
   refine hK.out _ _ ?_ (λhHeld=>?_)
   ·try dsimp only
    exact HUD.out _
   clear hK K
   try simp only[Act.put,sA,sZ,sS]
   refine wpAnyH_done (by kernel_rfl) ?_ _;have hx3:((W1.alloc (.cells #[.string x.name,.slice a1 (min 10 x.ins.length) c1,.slice a2 (min 6 x.outs.length) c2,.slice a3 (min 10 x.after.length) c3,.slice a4 (min 14 rows.length) c4] 50)).drew).heap[W1.heap.size]? =some (.cells #[.string x.name,.slice a1 (min 10 x.ins.length) c1,.slice a2 (min 6 x.outs.length) c2,.slice a3 (min 10 x.after.length) c3,.slice a4 (min 14 rows.length) c4] 50):=alloc_at W1 _;obtain⟨W3,hW3⟩:∃V,(W1.alloc (.cells #[.string x.name,.slice a1 (min 10 x.ins.length) c1,.slice a2 (min 6 x.outs.length) c2,.slice a3 (min 10 x.after.length) c3,.slice a4 (min 14 rows.length) c4] 50)).drew=V:=⟨_,rfl⟩;rw[hW3]at hx3 hHeld⊢;have hs3:W1.heap.size<W3.heap.size:=by rw[<-hW3];simp only[Zlx,Zdj];omega
   have HH3:=hid hHeld;have HX3:=hid hx3;have HS3:=hid hs3;obtain⟨y0,y1,y2,y3,y4,fz0,fz1,fz2,fz3,fz4⟩:=cells5 hx3;have hrl:rows.length=x.steps.length:=hall.1;have hRI:RuleI W3 [.string (cutQ x).name,.slice a1 (min 10 x.ins.length) c1,.slice a2 (min 6 x.outs.length) c2,.slice a3 (min 10 x.after.length) c3,.slice a4 (min 14 rows.length) c4] (cutQ x):=by
    refine⟨_,_,_,_,rfl,Zuf (H1.out _ hHeld) 10,Zuf (H2.out _ hHeld) 6,Zuf (H3.out _ hHeld) 10,?_⟩;exact Zbow (StepsI.below H4.out (HB1.out.trans (hHeld.mono HB1.out.size))) 14
   have hQ:SmallR (cutQ x) 1048576:=by
    have hf:=HFS.out;have tk:∀ {l:List ByteArray} (m:Nat),SmallL l 1048576->SmallL (l.take m) 1048576:=λm h=>⟨by rw[List.length_take];have:=h.1;omega,λz hz=>h.2 z (List.mem_of_mem_take hz)⟩
    exact⟨hf.name,tk 10 hf.ins,tk 6 hf.outs,tk 10 hf.after,by show(x.steps.take 14).length<=_;rw[List.length_take];have:=hf.few;omega,λy hy=>hf.steps y (List.mem_of_mem_take hy)⟩
   have hCP:=Zkp (cutQ x) _ _ _ _ W3 hRI hQ;have CPY:Hid (Calls prog 55 #[.agg #[.string x.name,.slice a1 (min 10 x.ins.length) c1,.slice a2 (min 6 x.outs.length) c2,.slice a3 (min 10 x.after.length) c3,.slice a4 (min 14 rows.length) c4]] W3 λe w'=>RuleO W3 w' (cutQ x) e/\Below W3.heap.size W3 w'):=hCP;clear hCP hRI hQ hHeld hW3 hx3 hs3 hc0 hc1 hc2 hc3 hc4 e1 e2 e3 e4 k1 k2 k3 k4 m1 m2 m3 m4 hall hrl
   go_wp2_with fail
   refine CPY.out.mono ?_;rintro e w4 ⟨hRE,hb4⟩;obtain⟨vi,vo,vf,vs,he,⟨hvi,_⟩,⟨hvo,_⟩,⟨hvf,_⟩,hvs,hop⟩:=hRE;obtain⟨i1,i2,i3,q⟩:=Zbig hvi;subst q;obtain⟨j1,j2,j3,q⟩:=Zbig hvo;subst q;obtain⟨l1,l2,l3,q⟩:=Zbig hvf;subst q;obtain⟨s1,s3,q,hsn,hsm⟩:=Zboi hvs;subst q;obtain⟨ys,hys⟩:∃ys,(cutQ x).steps=ys:=⟨_,rfl⟩;rw[hys]at hvs hsn hop;have he2:e = .returned (.agg #[.string x.name,.slice i1 i2 i3,.slice j1 j2 j3,.slice l1 l2 l3,.slice s1 ys.length s3]):=by rw[he,hys];rfl
   clear he;subst he2;have HYS:=hid hys;have hx4:=(hb4.block _ HS3.out).trans HX3.out;have hz5:=Zrs hx4 (.string x.name) (.slice i1 i2 i3) (.slice j1 j2 j3) (.slice l1 l2 l3) (.slice s1 ys.length s3);obtain⟨x0,x1,x2,x3,x4,v0,v1,v2,v3,v4⟩:=cells5 hx4;obtain⟨W5,hW5⟩:∃V,((((w4.setCell ⟨W1.heap.size,0,none⟩ (.string x.name)).setCell ⟨W1.heap.size,1,none⟩ (.slice i1 i2 i3)).setCell ⟨W1.heap.size,2,none⟩ (.slice j1 j2 j3)).setCell ⟨W1.heap.size,3,none⟩ (.slice l1 l2 l3)).setCell ⟨W1.heap.size,4,none⟩ (.slice s1 ys.length s3)=V:=⟨_,rfl⟩;rw[hW5]at hz5;have hfr:Fr (λb=>b<W3.heap.size) w4 W5:=by
    rw[<-hW5];exact Zpz (Av:=λb=>b<W3.heap.size) (w:=w4) HS3.out (.string x.name) (.slice i1 i2 i3) (.slice j1 j2 j3) (.slice l1 l2 l3) (.slice s1 ys.length s3)
   have hb04:=(HB1.out.trans (HH3.out.mono HB1.out.size)).trans (hb4.mono (HB1.out.trans (HH3.out.mono HB1.out.size)).size);have hb5:Below w.heap.size w W5:=by
    rw[<-hW5];exact Zfn hb04 HB1.out.size _ _ _ _ _
   have hout5:W5.heap[w.heap.size+1]? =some (.cells #[.string ⟨#[]⟩,.slice none 0 0,.slice none 0 0,.slice none 0 0,.slice none 0 0] 50):=by
    have h1:=HS1.out;have h2:=((hb4.block _ (by have:=HS3.out;omega)).trans (HH3.out.block _ (by omega))).trans HX2.out;rw[<-hW5];refine Eq.trans ?_ h2;have hne:w.heap.size+1≠W1.heap.size:=by omega
    exact((((Below.heap_setCell _ _ _ _ hne).trans (Below.heap_setCell _ _ _ _ hne)).trans (Below.heap_setCell _ _ _ _ hne)).trans (Below.heap_setCell _ _ _ _ hne)).trans (Below.heap_setCell _ _ _ _ hne)
   have HW5:=hid hW5;have h0:LawL W5 W3.heap.size x (.slice i1 i2 i3) (.slice j1 j2 j3) (.slice l1 l2 l3) (.slice s1 ys.length s3) ys W5:=
    ⟨Below.refl _ _,RowA.keep hvi hfr,RowA.keep hvo hfr,RowA.keep hvf hfr,StepsA.keep hvs hfr,hop.keep (Zbog hvs) hfr⟩
   have H0:=hid h0;have HB3:Hid (W1.heap.size<W3.heap.size/\w.heap.size+2=W1.heap.size):=by show _/\_;exact⟨HS3.out,by have:=HS1.out;omega⟩
   have HZ5:=hid hz5;have HO5:=hid hout5;have HB5:=hid hb5;have HS45:=hid (show W3.heap.size<=W5.heap.size from Nat.le_trans hb4.size hfr.size);have hyl:ys.length<=1048576:=by rw[<-hys];show(x.steps.take 14).length<=_;rw[List.length_take];have:=HFS.out.few;omega
   have HSZ:=HB1.out.size;unfold maxLen at hsm;clear hW5 hb4 hvi hvo hvf hvs hop hx4 hz5 hfr hb5 h0 hys hb04 hout5 y0 y1 y2 y3 y4 fz0 fz1 fz2 fz3 fz4
   go_wp2_with fail
   rw[HW5.out];clear x0 x1 x2 x3 x4 v0 v1 v2 v3 v4;have hrec:∀wr,Below W3.heap.size W5 wr->_:=λwr hb=>cells5 ((hb.block W1.heap.size HS3.out).trans HZ5.out)
   have HREC:=hid hrec;obtain⟨y0,y1,y2,y3,y4,fz0,fz1,fz2,fz3,fz4⟩:=hrec _ (Below.refl _ _);clear hrec
   go_wp2_with fail
   go_loopw [41] (λi wr=>∃k:Nat,k<=ys.length/\i = .int .i64 (k:Int)/\LawL W5 W3.heap.size x (.slice i1 i2 i3) (.slice j1 j2 j3) (.slice l1 l2 l3) (.slice s1 ys.length s3) (mixS k ys) wr) (λi _=>ys.length-(intOf i).toNat)
   case atStart=>exact⟨0,Nat.zero_le _,rfl,H0.out⟩
   case round=>
    clear y0 y1 y2 y3 y4 fz0 fz1 fz2 fz3 fz4;obtain⟨k,hk,rfl,hL⟩:=hrel;have HL:=hid hL;obtain⟨y0,y1,y2,y3,y4,fz0,fz1,fz2,fz3,fz4⟩:=HREC.out _ hL.below
    by_cases hlt:k<ys.length
    ·obtain⟨y,hy⟩:∃y,ys[k]? =some y:=⟨ys[k],List.getElem?_eq_getElem hlt⟩
     have hfz:=hL.canw;obtain⟨b0,o,p1,c5,q1,d1,hs,hqn,hnb,hbl,g1,g2,g3,g4,g5,g6,z2,z3⟩:=Zbof hL.steps (Zzf hy);have HY:=hid hy;have HZ2:=hid z2;have HZ3:=hid z3;have HNB:=hid hnb;have hnx:=Zbok (by rw[hs]at hL;exact hL.steps) (Zzf hy) z2 z3 8 3;have HNX:=hid hnx;have HNE:Hid (b0≠W1.heap.size):=by show _≠_;have:=HS3.out;intro e;exact hnb (by omega)
     subst hs;have hz2:=hfz _ rfl (o+k*5+2);have hz3:=hfz _ rfl (o+k*5+3);clear hfz;have hi1:(k:Int)<(ys.length:Int):=by omega
     have hi0:(0:Int)<=(k:Int):=by omega
     have e1:=take_len y.args.length 8 8 rfl;have e2:=take_len y.lits.length 3 3 rfl;have k1:(0:Int)<=min (y.args.length:Int) 8:=by omega
     have k2:(0:Int)<=min (y.lits.length:Int) 3:=by omega
     have m1:min (y.args.length:Int) 8<=(c5:Int):=by omega
     have m2:min (y.lits.length:Int) 3<=(d1:Int):=by omega
     have zd2:(wr.drew).cell? ⟨b0,o+k*5+2,none⟩=some (.slice p1 y.args.length c5):=z2;have zd3:(wr.drew).cell? ⟨b0,o+k*5+3,none⟩=some (.slice q1 y.lits.length d1):=z3;have yd4:(wr.drew).cell? ⟨W1.heap.size,4,none⟩=some (.slice (some ⟨b0,o,none⟩) ys.length s3):=y4;unfold maxLen at g2 g4 g6;clear hL hy hnx hnb hqn
     go_wp2_with fail
     refine Zbuk (S:=λb w'=>(b=false->w'=wr.drew)/\w'.cell? ⟨W1.heap.size,4,none⟩=some (.slice (some ⟨b0,o,none⟩) ys.length s3)) (st:=38) (by kernel_rfl) ?_ (λhHeld=>?_)
     ·exact⟨λ_=>rfl,y4⟩
     refine tkS 0 ?_;refine tkS 1 ?_;refine tkS 2 ?_;refine tkZ 3 ?_;refine tkZ 4 ?_;refine tkZ 5 ?_;refine tkS 6 ?_;refine tkS 7 ?_;refine tkS 8 ?_;refine tkS 9 ?_;refine tkS 10 ?_;refine tkS 11 ?_;refine tkS 12 ?_;refine tkS 13 ?_;refine tkS 14 ?_;refine tkS 15 ?_;refine tkS 16 ?_;refine tkS 17 ?_;refine tkS 18 ?_;refine tkS 19 ?_;refine tkS 20 ?_;refine tkS 21 ?_;refine tkS 22 ?_;refine tkS 23 ?_;refine tkS 24 ?_;refine tkS 25 ?_;refine tkS 26 ?_;refine tkS 27 ?_;refine tkS 28 ?_;refine tkS 29 ?_;refine tkS 30 ?_;refine tkS 31 ?_;refine tkS 32 ?_;refine tkZ 33 ?_;refine tkZ 34 ?_;refine tkZ 35 ?_;refine tkS 36 ?_;refine tkS 37 ?_
     try simp only[Act.put,sA,sZ,sS]
     refine Zbtx (rs:=[38]) (by kernel_rfl) (by simp) ?_;refine AllReadyS.cons (b:=true) (o:=_) (by simp only[List.getElem?_toArray,List.getElem?_cons_succ,List.getElem?_cons_zero];rfl) (by kernel_rfl) (λK hK=>?_) ?_
     ·go_simp
      refine hK.out _ _ ?_ (λhHeld=>?_)
      ·try dsimp only
       exact⟨λe=>(by cases e),by rw[Zid,World.cell?_setCell_far _ _ _ _ HNE.out];exact y4⟩
      clear hK K
      try simp only[Act.put,sA,sZ,sS]
      refine tkZ 39 ?_;refine tkZ 40 ?_
      try simp only[Act.put,sA,sZ,sS]
      refine Zbtx (rs:=[41]) (by kernel_rfl) (by simp) ?_;refine AllReadyS.cons (b:=true) (o:=_) (by simp only[List.getElem?_toArray,List.getElem?_cons_succ,List.getElem?_cons_zero];rfl) (by kernel_rfl) (λK hK=>?_) ?_
      ·go_simp
       refine hK.out _ _ ?_ (λhHeld=>?_)
       ·try dsimp only
        exact⟨λe=>(by cases e),by rw[Zid,World.cell?_setCell_far _ _ _ _ HNE.out];exact hHeld.2⟩
       clear hK K
       try simp only[Act.put,sA,sZ,sS]
       refine Zbtu (by kernel_rfl) ?_ _;have hwr:=HL.out.below;obtain⟨W7,hW7⟩:∃V,((wr.setCell ⟨b0,o+k*5+2,none⟩ (.slice p1 (min 8 y.args.length) c5)).setCell ⟨b0,o+k*5+3,none⟩ (.slice q1 (min 3 y.lits.length) d1)).drew=V:=⟨_,rfl⟩;have hfr:Fr (λb=>b=b0) wr W7:=by
        rw[<-hW7];exact((Zpy (Av:=λb=>b=b0) (a:=⟨b0,o+k*5+2,none⟩) rfl _).trans (Zpy (Av:=λb=>b=b0) (a:=⟨b0,o+k*5+3,none⟩) rfl _)).trans (Zpw _ _)
       have h7:LawL W5 W3.heap.size x (.slice i1 i2 i3) (.slice j1 j2 j3) (.slice l1 l2 l3) (.slice (some ⟨b0,o,none⟩) ys.length s3) (mixS (k+1) ys) W7:=by
        have hset:∀ {v:Value} {xs:List ByteArray},StrsA (λb=>b<W3.heap.size) wr v xs->StrsA (λb=>b<W3.heap.size) W7 v xs:=λh=>by
         rw[<-hW7];refine RowA.keep (w:=(wr.setCell ⟨b0,o+k*5+2,none⟩ (.slice p1 (min 8 y.args.length) c5)).setCell ⟨b0,o+k*5+3,none⟩ (.slice q1 (min 3 y.lits.length) d1)) ?_ (Zpw _ _);exact Zbqg (Zbqg h HZ2.out (by intro s e;cases e) _) (by rw[World.cell?_setCell_other _ _ _ _ (by simp)];exact HZ3.out) (by intro s e;cases e) _
        refine⟨hwr.trans (hfr.below (Nat.le_trans HS45.out hwr.size) λb hb e=>by subst e;exact HNB.out hb),hset HL.out.ins,hset HL.out.outs,hset HL.out.after,?_,λb e i=>?_⟩
        ·have:=HNX.out
         rw[<-Zzg HY.out,<-hW7];exact StepsA.keep this (Zpw _ _)
        ·rw[<-hW7]
         have h1:=HL.out.canw b e i;rw[Zqb,World.frozen?_setCell,World.frozen?_setCell];exact h1
       have H7:=hid h7;rw[hW7];clear hwr hW7 hfr h7 hHeld hz2 hz3 y0 y1 y2 y3 y4 fz0 fz1 fz2 fz3 fz4 z2 z3 zd2 zd3 yd4 e1 e2 k1 k2 m1 m2;go_wp2;go_roundw
       case rel=>exact⟨k+1,by omega,by go_num,H7.out⟩
       case measure=>simp[intOf];omega
      exact AllReadyS.nil
     exact AllReadyS.nil
    ·obtain rfl:k=ys.length:=by omega
     have hi1:¬(ys.length:Int)<(ys.length:Int):=by omega
     have hout:=(hL.below.block _ (by have:=HB3.out;omega)).trans HO5.out;have HOUT:=hid hout;obtain⟨d0,d1,d2,d3,d4,e0,e1,e2,e3,e4⟩:=cells5 hout;clear hL hout;go_wp2;refine bodyPost_ret (Zbhl rfl _ _ (w.heap.size+1) _ _ _ _ rfl (Zrs HOUT.out _ _ _ _ _) underlying50 rfl (by kernel_rfl)) rfl ?_;have hL:=HL.out;have hS:=HB3.out;have hS5:=HS45.out;have hfs:∀u0 u1 u2 u3 u4,Fr (λb=>b<W3.heap.size) wr _:=λu0 u1 u2 u3 u4=>Zpz (Av:=λb=>b<W3.heap.size) (w:=wr) (g:=w.heap.size+1) (by omega) u0 u1 u2 u3 u4
     have hst:=hL.steps;rw[Zze _ (Nat.le_refl _)]at hst;have hys:(cutR x).steps=ys.map cutS:=by rw[<-HYS.out];rfl
     refine⟨⟨_,_,_,_,rfl,RowA.mono (RowA.keep hL.ins (hfs _ _ _ _ _)) λb _ hb=>by omega,RowA.mono (RowA.keep hL.outs (hfs _ _ _ _ _)) λb _ hb=>by omega,RowA.mono (RowA.keep hL.after (hfs _ _ _ _ _)) λb _ hb=>by omega,?_⟩,
      Zfn (HB5.out.trans (hL.below.mono (by omega))) (by omega) _ _ _ _ _⟩
     rw[hys];exact(hst.keep (hfs _ _ _ _ _)).mono λb _ hb=>by omega
  exact AllReadyH.nil
 exact AllReadyH.nil
theorem Zbir {w w':World} {x:RuleS} {e:Ending} (h:Zbu w w' x e):∃b1 m1 e1 b2 m2 e2 b3 m3 e3 b4 m4 e4,e = .returned (.agg #[.string x.name,.slice b1 m1 e1,.slice b2 m2 e2,.slice b3 m3 e3,.slice b4 m4 e4])/\
  RuleA (λb=>b<w.heap.size) w' [.string x.name,.slice b1 m1 e1,.slice b2 m2 e2,.slice b3 m3 e3,.slice b4 m4 e4] x:=by
 obtain⟨vi,vo,vf,vs,rfl,h1,h2,h3,h4⟩:=h;obtain⟨b1,m1,e1,q1⟩:=Zbig h1;obtain⟨b2,m2,e2,q2⟩:=Zbig h2;obtain⟨b3,m3,e3,q3⟩:=Zbig h3;obtain⟨b4,e4,q4,_,_⟩:=Zboi h4;subst q1 q2 q3 q4;exact⟨b1,m1,e1,b2,m2,e2,b3,m3,e3,b4,_,e4,rfl,⟨_,_,_,_,rfl,h1,h2,h3,h4⟩⟩
def Zbvw (k:Nat) (xs:List RuleS):List RuleS:=(xs.take k).map cutR
theorem Zbvz {xs:List RuleS} {k:Nat} {x:RuleS} (h:xs[k]? =some x):Zbvw (k+1) xs=Zbvw k xs ++ [cutR x]:=by
 unfold Zbvw;rw[List.take_add_one,h,List.map_append];rfl
theorem Zbvy (k:Nat) (xs:List RuleS):(Zbvw k xs).length=min k xs.length:=by unfold Zbvw;rw[List.length_map,List.length_take]
theorem Zbvx {k m:Nat} {xs:List RuleS} (h:xs.length<=k) (h2:xs.length<=m):Zbvw k xs=Zbvw m xs:=by
 unfold Zbvw;rw[List.take_of_length_le h,List.take_of_length_le h2]
set_option maxHeartbeats 8000000 in
set_option maxRecDepth 100000 in
theorem Zbwl (v:Value) (xs:List RuleS) (w:World) (h:RulesI w v xs) (hs:∀x∈xs,SmallR x 1048576):
  Calls prog 7 #[v] w (Zbz w (Zbvw 42 xs)):=by
 obtain⟨sa,sc,hv,hs1,hs2⟩:=Zbjn h;subst hv;have HCS:Hid (∀(k:Nat) x,xs[k]? =some x->_):=hid (λk x hx=>Zbjm h (k:=k) (x:=x) hx);have HSM:=hid hs;unfold maxLen at hs2;have HO1:Hid (OwnRules w.heap.size w (.slice none 0 0) []):=Zbxk _ _;clear h hs
 go_enter func7,ntmps7
 go_wp2
 go_loopw [3,4] (λvv i wr=>∃k:Nat,k<=xs.length/\k<=42/\i = .int .i64 k/\OwnRules w.heap.size wr vv (Zbvw k xs)/\Below w.heap.size w wr)
  (λ_ i _=>xs.length-(intOf i).toNat)
 case atStart=>exact⟨0,Nat.zero_le _,Nat.zero_le _,rfl,HO1.out,Below.refl _ _⟩
 case round=>
  obtain⟨k,hk,hk42,rfl,hown,hnx⟩:=hrel;have hsz:=hnx.size;have HO:=hid hown;have HNX:=hid hnx;clear hown hnx
  by_cases hlt:k<xs.length
  ·by_cases h42:k<42
   ·obtain⟨x,hx⟩:∃x,xs[k]? =some x:=⟨xs[k],List.getElem?_eq_getElem hlt⟩
    obtain⟨g,o,cap,a1,c1,a2,c2,a3,c3,a4,c4,hv,hg,hR,hc⟩:=HCS.out k x hx;have hi1:(k:Int)<(xs.length:Int):=by omega
    have hi2:(k:Int)<42:=by omega
    have hi0:(0:Int)<=(k:Int):=by omega
    have hfx:=HSM.out x (List.mem_of_getElem? hx);have htk:=Zbvz hx;obtain⟨d0,d1,d2,d3,d4⟩:=hc _ HNX.out;have HTK:=hid htk
    cases hv
    have cA:=Zwx x _ _ _ _ wr (hR.below HNX.out) hfx;have CA:=hid cA;clear hc hx htk hR hfx cA
    go_wp2_with fail
    refine CA.out.mono ?_;rintro e w2 ⟨hpost,hb2⟩;obtain⟨b1,m1,e1,b2,m2,e2,b3,m3,e3,b4,m4,e4,rfl,hra⟩:=Zbir hpost;have hO2:=HO.out.below hb2;have hlow:=λb hb=>(HO.out.lt b hb).2
    have hra2:=RuleA.mono (Av':=AvOf w.heap.size _) hra λb _ e=>by
     rcases e with e|e
     ·show b<wr.heap.size;omega
     ·exact hlow b e
    have HO2:=hid hO2;have HR2:=hid hra2;have HN2:=hid (HNX.out.trans (hb2.mono hsz));have HTL:Hid ((Zbvw k xs).length<=1000000000):=by show _<=_;rw[Zbvy];omega
    have HS2:=hid (Nat.le_trans hsz hb2.size);clear hra hb2 hO2 hlow hra2 d0 d1 d2 d3 d4 hpost
    go_wp2_with (at_builtin;refine Zbuh (by rfl) _ _ (by rfl) w.heap.size _ (Zbvw k xs) (cutR x) b1 b2 b3 b4 m1 e1 m2 e2 m3 e3 m4 e4 (by rfl) HO2.out HS2.out HTL.out HR2.out _ (by rfl) (by simp) ?_)
    intro v' w6 hown6 hb6 _ _;have HO6:Hid (OwnRules w.heap.size w6 v' (Zbvw (k+1) xs)):=by show OwnRules _ _ _ _;rw[HTK.out];exact hown6
    have HN6:=hid (HN2.out.trans hb6);clear hown6 hb6;go_wp2;go_roundw
    case rel=>exact⟨k+1,by omega,by omega,by go_num,HO6.out,HN6.out⟩
    case measure=>simp[intOf];omega
   ·obtain rfl:k=42:=by omega
    have hi1:(42:Int)<(xs.length:Int):=by omega
    have hi2:((42:Nat):Int)<(xs.length:Int):=by omega
    obtain⟨a,c,q⟩:=HO.out.len;subst q;go_wp2;go_ret;exact⟨_,_,_,rfl,HO.out,HNX.out⟩
  ·have hfull:Zbvw k xs=Zbvw 42 xs:=Zbvx (by omega) (by omega)
   have hi1:¬(k:Int)<(xs.length:Int):=by omega
   have hO3:=HO.out;rw[hfull]at hO3;obtain⟨a,c,q⟩:=hO3.len;subst q;have HO3:=hid hO3;clear hfull hO3;go_wp2;go_ret;exact⟨_,_,_,rfl,HO3.out,HNX.out⟩
theorem Zdbq {w:World} {a:Option Addr} {n c:Nat} {xs:List ByteArray} (h:IsStrs w (.slice a n c) xs) {k:Nat} {x:ByteArray} (hx:xs[k]? =some x):
  ∃b oo,a=some ⟨b,oo,none⟩/\b<w.heap.size/\∀w',Below w.heap.size w w'->w'.cell? ⟨b,oo+k,none⟩=some (.string x):=by
 obtain⟨a',c',e,_,_,hcell⟩:=h
 cases e
 obtain⟨b,o,e,hb,hc⟩:=hcell (by rintro rfl;simp at hx);exact⟨b,o,e,hb,λw' hw=>(hw.cell (p:=⟨b,o+k,none⟩) hb).trans (hc k x hx)⟩
def nilV:Value:= .slice none 0 0
def Zdej (n:ByteArray) (M:SKV) (x:ByteArray):SKV:=putA M x (lv (true,n))
def Zdel (M:SKV) (r:RuleS):SKV:=r.outs.foldl (Zdej r.name) M
def mkM (rs:List RuleS):SKV:=rs.foldl Zdel []
abbrev RdL:=List (ByteArray×ByteArray)
def Zdgq (r:RuleS):RdL:=r.ins.map λx=>(x,r.name)
def Zdgj (rs:List RuleS):RdL:=rs.flatMap Zdgq
def rdOf (qs:RdL) (k:ByteArray):List Lb:=(qs.filter λq=>decide (q.1=k)).map λq=>(true,q.2)
theorem Zdgn (qs:RdL) (x n k:ByteArray):rdOf (qs ++ [(x,n)]) k=rdOf qs k++(if x=k then [(true,n)]else []):=by
 unfold rdOf;rw[List.filter_append,List.map_append]
 by_cases h:x=k<;>simp[h]
theorem Zdgo (qs:RdL) (k:ByteArray):(rdOf qs k).length<=qs.length:=by
 unfold rdOf;rw[List.length_map];exact List.length_filter_le _ _
def AvR (B C:Nat) (R:SKV):Nat->Prop:=λb=>(B<=b/\b<C)∨∃k,(getA R k nilV).ownBlock=some b
structure RIs (w:World) (C:Nat) (R:SKV) (qs:RdL):Prop where
 row:∀k,OwnL C w (getA R k nilV) (rdOf qs k)
 key:∀k,hasA R k=true↔∃q∈qs,q.1=k
 one:∀k k' b,(getA R k nilV).ownBlock=some b->(getA R k' nilV).ownBlock=some b->k=k'
 sl:SliVs R
def AIs (Av:Nat->Prop) (w:World) (A:SKV) (rs:List RuleS):Prop:=A.length=rs.length/\∀(j:Nat) e r,A[j]? =some e->rs[j]? =some r->e.1=r.name/\∃vi vo vf vs,e.2 = .agg #[.string r.name,vi,vo,vf,vs]/\RuleA Av w [.string r.name,vi,vo,vf,vs] r
structure Stp (B C:Nat) (R R':SKV) (w w':World):Prop where
 fr:Fr (AvR B C R) w w'
 av:∀b,b<w.heap.size->AvR B C R' b->AvR B C R b
theorem Stp.refl (B C:Nat) (R:SKV) (w:World):Stp B C R R w w:=⟨Fr.refl _ _,λ_ _ h=>h⟩
theorem Stp.trans {B C:Nat} {R R1 R2:SKV} {w w1 w2:World} (h:Stp B C R R1 w w1) (k:Stp B C R1 R2 w1 w2):Stp B C R R2 w w2:=
 ⟨⟨k.fr.os.trans h.fr.os,k.fr.tape.trans h.fr.tape,k.fr.output.trans h.fr.output,Nat.le_trans h.fr.size k.fr.size,λi hi hn=>(k.fr.block i (Nat.lt_of_lt_of_le hi h.fr.size) λha=>hn (h.av i hi ha)).trans (h.fr.block i hi hn)⟩,
  λb hb ha=>h.av b hb (k.av b (Nat.lt_of_lt_of_le hb h.fr.size) ha)⟩
theorem Stp.below {B C:Nat} {R:SKV} {w w':World} (h:Below w.heap.size w w'):Stp B C R R w w':=⟨Zpv h,λ_ _ h=>h⟩
theorem RuleA.stp {B C:Nat} {R R':SKV} {w w':World} {row:List Value} {r:RuleS} (h:RuleA (AvR B C R) w row r) (hs:Stp B C R R' w w'):RuleA (AvR B C R') w' row r:=
 ((h.mono (Av':=λb=>AvR B C R b∨AvR B C R' b) λb hb ha=>ha.elim id (hs.av b hb)).keep (hs.fr.mono λ_ _ ha=> .inl ha)).mono λ_ _ ha=> .inr ha
theorem StrsA.stp {B C:Nat} {R R':SKV} {w w':World} {v:Value} {xs:List ByteArray} (h:StrsA (AvR B C R) w v xs) (hs:Stp B C R R' w w'):StrsA (AvR B C R') w' v xs:=
 ((RowA.mono h (Av':=λb=>AvR B C R b∨AvR B C R' b) λb hb ha=>ha.elim id (hs.av b hb)).keep (hs.fr.mono λ_ _ ha=> .inl ha)).mono λ_ _ ha=> .inr ha
theorem AIs.stp {B C:Nat} {R R':SKV} {w w':World} {A:SKV} {rs:List RuleS} (h:AIs (AvR B C R) w A rs) (hs:Stp B C R R' w w'):AIs (AvR B C R') w' A rs:=
 ⟨h.1,λj e r he hr=>by
  obtain⟨h1,vi,vo,vf,vs,h2,h3⟩:=h.2 j e r he hr;exact⟨h1,vi,vo,vf,vs,h2,h3.stp hs⟩⟩
theorem Stp.under {B C:Nat} {R R':SKV} {w w':World} (h:Stp B C R R' w w') (hB:B<=w.heap.size) (hr:∀k b,(getA R k nilV).ownBlock=some b->B<=b):Below B w w':=
 h.fr.below hB λk hk ha=>ha.elim (λh1=>by omega) (λ⟨x,h1⟩=>by have:=hr x k h1;omega)
theorem AIs.keys {Av:Nat->Prop} {w:World} {A:SKV} {rs:List RuleS} (h:AIs Av w A rs):A.map (·.1)=rs.map (·.name):=by
 apply List.ext_getElem?;intro j;rw[List.getElem?_map,List.getElem?_map]
 rcases Nat.lt_or_ge j A.length with hj|hj
 ·have hk:j<rs.length:=by rw[<-h.1];exact hj
  rw[List.getElem?_eq_getElem hj,List.getElem?_eq_getElem hk];simp[(h.2 j _ _ (List.getElem?_eq_getElem hj) (List.getElem?_eq_getElem hk)).1]
 ·have hk:rs.length<=j:=by rw[<-h.1];exact hj
  rw[List.getElem?_eq_none hj,List.getElem?_eq_none hk];rfl
theorem Zdgd {k:ByteArray} {v:Value}:∀ {L:SKV},hasA L k=false->putA L k v=L ++ [(k,v)]
 | [],_=>rfl
 | e::L,h=>by
  unfold hasA at h;unfold putA
  by_cases he:e.1=k
  ·simp[he]at h
  ·rw[if_neg he]at h
   rw[if_neg he,Zdgd h];rfl
theorem AIs.add {Av:Nat->Prop} {w:World} {A:SKV} {rs:List RuleS} (h:AIs Av w A rs) {r:RuleS} {vi vo vf vs:Value} (hr:RuleA Av w [.string r.name,vi,vo,vf,vs] r):AIs Av w (A ++ [(r.name,.agg #[.string r.name,vi,vo,vf,vs])]) (rs ++ [r]):=by
 refine⟨by rw[List.length_append,List.length_append,h.1];rfl,λj e x he hx=>?_⟩
 rcases Nat.lt_or_ge j A.length with hj|hj
 ·rw[List.getElem?_append_left hj]at he
  rw[List.getElem?_append_left (by rw[<-h.1];exact hj)]at hx;exact h.2 j e x he hx
 ·rw[List.getElem?_append_right hj]at he
  rw[List.getElem?_append_right (by rw[<-h.1];exact hj),<-h.1]at hx
  match hd:j-A.length,he,hx with
  | 0,he,hx=>
   simp only[List.getElem?_cons_zero,Option.some.injEq]at he hx;subst he;subst hx;exact⟨rfl,vi,vo,vf,vs,rfl,hr⟩
  | n+1,he,_=>simp at he
theorem Zdgf {P:Value->Prop} {L:SKV} (h:∀e∈L,P e.2) {k:ByteArray} {v:Value} (hv:P v):∀e∈putA L k v,P e.2:=by
 induction L with
 | nil=>intro e he;simp[putA]at he;subst he;exact hv
 | cons a L ih=>
  intro e he;unfold putA at he;split at he
  ·rcases List.mem_cons.1 he with rfl|he
   ·exact hv
   ·exact h e (List.mem_cons_of_mem _ he)
  ·rcases List.mem_cons.1 he with rfl|he
   ·exact h _ List.mem_cons_self
   ·exact ih (λe he=>h e (List.mem_cons_of_mem _ he)) e he
theorem SliVs.put {L:SKV} (h:SliVs L) (k:ByteArray) (a:Option Addr) (n c:Nat):SliVs (putA L k (.slice a n c)):=Zdgf (P:=λv=>∃a n c,v = .slice a n c) h ⟨a,n,c,rfl⟩
theorem LabVs.put {L:SKV} (h:LabVs L) (k:ByteArray) (l:Lb):LabVs (putA L k (lv l)):=Zdgf (P:=λv=>∃p s,v = .agg #[.bool p,.string s]) h ⟨l.1,l.2,rfl⟩
theorem Zdcc (n:ByteArray):∀(xs:List ByteArray) (M:SKV),LabVs M->LabVs (xs.foldl (Zdej n) M)
 | [],_,h=>h
 | x::xs,_,h=>Zdcc n xs _ (h.put x _)
theorem Zdcd:∀(rs:List RuleS) (M:SKV),LabVs M->LabVs (rs.foldl Zdel M)
 | [],_,h=>h
 | r::rs,M,h=>Zdcd rs _ (Zdcc r.name r.outs M h)
theorem Zdce (rs:List RuleS):LabVs (mkM rs):=Zdcd rs [] (by intro e he;cases he)
theorem AIs.rulVs {Av:Nat->Prop} {w:World} {A:SKV} {rs:List RuleS} (h:AIs Av w A rs):RulVs A:=by
 intro e he;obtain⟨j,hj,hje⟩:=List.mem_iff_getElem.1 he;have hk:j<rs.length:=by rw[<-h.1];exact hj
 obtain⟨_,vi,vo,vf,vs,h2,h3⟩:=h.2 j e _ (by rw[List.getElem?_eq_getElem hj,hje]) (List.getElem?_eq_getElem hk);obtain⟨_,_,_,_,h4,h5,h6,h7,h8⟩:=h3;simp only[List.cons.injEq,and_true,true_and]at h4;obtain⟨rfl,rfl,rfl,rfl⟩:=h4;obtain⟨a1,c1,rfl⟩:=Zue h5.isStrs;obtain⟨a2,c2,rfl⟩:=Zue h6.isStrs;obtain⟨a3,c3,rfl⟩:=Zue h7.isStrs;obtain⟨rows,hrow,hall⟩:=h8;obtain⟨a4,c4,rfl,_⟩:=hrow.1;exact⟨_,_,_,_,_,_,_,_,_,_,_,_,_,h2⟩
structure GrS (w:World) (B C p mr mm md:Nat) (A M R:SKV) (rs:List RuleS) (qs:RdL):Prop where
 blk:w.heap[p]? =some (.cells #[.map (some mr),.map (some mm),.map (some md)] 91)
 qa:MpS w mr A
 qm:MpS w mm M
 qr:MpS w md R
 lo:B<=mr/\B<=mm/\B<=md/\B<=p
 hi:mr<C/\mm<C/\md<C/\p<C
 ne:mr≠mm/\mr≠md/\mm≠md/\p≠mr/\p≠mm/\p≠md
 ai:AIs (AvR B C R) w A rs
 ri:RIs w C R qs
 lm:LabVs M
 sz:C<=w.heap.size
section
variable {w w':World} {B C p mr mm md:Nat} {A M R:SKV} {rs:List RuleS} {qs:RdL}
theorem RIs.grown (h:RIs w C R qs) {row:Option Nat} (hg:w.grownBy w' row) (hr:∀b,row=some b->b<C):RIs w' C R qs:=
 ⟨λk=>World.ownsRow.kept (h.row k) hg (by
  cases e:(getA R k nilV).ownBlock with
  | none=>exact .inl rfl
  | some b=>
   have:=(World.ownsRow.lt (h.row k) b e).1;exact .inr λe2=>by have:=hr b e2.symm;omega),h.key,h.one,h.sl⟩
theorem GrS.graph (h:GrS w B C p mr mm md A M R rs qs):GrM w p A M R:=⟨⟨mr,mm,md,h.blk,h.qa,h.qm,h.qr⟩,h.ai.rulVs,h.lm,h.ri.sl⟩
theorem GrS.below (h:GrS w B C p mr mm md A M R rs qs) (hb:Below w.heap.size w w'):GrS w' B C p mr mm md A M R rs qs:=
 ⟨(hb.block p h.graph.lt).trans h.blk,h.qa.below hb h.qa.lt,h.qm.below hb h.qm.lt,h.qr.below hb h.qr.lt,h.lo,h.hi,h.ne,h.ai.stp (Stp.below hb),
  h.ri.grown (row:=none) ⟨hb.os,hb.tape,hb.output,hb.size,λk hk _=>hb.block k hk⟩ (λ_ e=>by cases e),h.lm,Nat.le_trans h.sz hb.size⟩
theorem Zdih (w:World) (m:Nat) (o:Obj) {b:Nat} (hb:b≠m):({ w with heap:=w.heap.setIfInBounds m o }:World).heap[b]? =w.heap[b]?:=by
 show(w.heap.setIfInBounds m o)[b]? =_;rw[Array.getElem?_setIfInBounds];simp[Ne.symm hb]
theorem Zdij (w:World) (m:Nat) (o:Obj):w.grownBy { w with heap:=w.heap.setIfInBounds m o } (some m):=
 ⟨rfl,rfl,rfl,by simp,λk _ hk=>Zdih w m o (λe=>hk (by rw[e]))⟩
theorem Zdji (R:SKV) (w:World) {m:Nat} (o:Obj) (hm:B<=m/\m<C):Stp B C R R w { w with heap:=w.heap.setIfInBounds m o }:=
 ⟨Zpx (Zdij w m o) (λk e=>by cases e;exact .inl hm),λ_ _ h=>h⟩
theorem GrS.putRule (h:GrS w B C p mr mm md A M R rs qs) {r:RuleS} {vi vo vf vs:Value} (hr:RuleA (AvR B C R) w [.string r.name,vi,vo,vf,vs] r) (hn:r.name∉rs.map (·.name)) {o:Obj}
  (hm:MpS { w with heap:=w.heap.setIfInBounds mr o } mr (putA A r.name (.agg #[.string r.name,vi,vo,vf,vs]))):
  GrS { w with heap:=w.heap.setIfInBounds mr o } B C p mr mm md (A ++ [(r.name,.agg #[.string r.name,vi,vo,vf,vs])]) M R (rs ++ [r]) qs:=by
 have hs:Stp B C R R w { w with heap:=w.heap.setIfInBounds mr o }:=Zdji R w o ⟨h.lo.1,h.hi.1⟩;have hA:hasA A r.name=false:=by
  rw[Bool.eq_false_iff];intro hc;rw[Zdax,h.ai.keys]at hc;exact hn hc
 rw[Zdgd hA]at hm;exact⟨(Zdih _ _ _ h.ne.2.2.2.1).trans h.blk,hm,h.qm.heap (Zdih _ _ _ h.ne.1.symm),h.qr.heap (Zdih _ _ _ h.ne.2.1.symm),h.lo,h.hi,h.ne,(h.ai.stp hs).add (hr.stp hs),
  h.ri.grown (Zdij w mr o) (λb e=>by cases e;exact h.hi.1),h.lm,by simpa using h.sz⟩
theorem GrS.putMaker (h:GrS w B C p mr mm md A M R rs qs) (x n:ByteArray) {o:Obj} (hm:MpS { w with heap:=w.heap.setIfInBounds mm o } mm (putA M x (lv (true,n)))):
  GrS { w with heap:=w.heap.setIfInBounds mm o } B C p mr mm md A (Zdej n M x) R rs qs:=by
 have hs:Stp B C R R w { w with heap:=w.heap.setIfInBounds mm o }:=Zdji R w o ⟨h.lo.2.1,h.hi.2.1⟩;exact⟨(Zdih _ _ _ h.ne.2.2.2.2.1).trans h.blk,h.qa.heap (Zdih _ _ _ h.ne.1),hm,h.qr.heap (Zdih _ _ _ h.ne.2.2.1.symm),h.lo,h.hi,h.ne,h.ai.stp hs,
  h.ri.grown (Zdij w mm o) (λb e=>by cases e;exact h.hi.2.1),h.lm.put x _,by simpa using h.sz⟩
theorem GrS.putReader (h:GrS w B C p mr mm md A M R rs qs) (x n:ByteArray) {v':Value} (ho:OwnL C w' v' (rdOf qs x ++ [(true,n)])) (hg:w.grownBy w' (getA R x nilV).ownBlock)
  (hnew:∀b,v'.ownBlock=some b->(getA R x nilV).ownBlock=some b∨w.heap.size<=b) {o:Obj} (hm:MpS { w' with heap:=w'.heap.setIfInBounds md o } md (putA R x v')):
  GrS { w' with heap:=w'.heap.setIfInBounds md o } B C p mr mm md A M (putA R x v') rs (qs ++ [(x,n)])/\Stp B C R (putA R x v') w { w' with heap:=w'.heap.setIfInBounds md o }:=by
 have hown:∀b,(getA R x nilV).ownBlock=some b->C<=b:=λb e=>(World.ownsRow.lt (h.ri.row x) b e).1
 have hav:∀b,b<w.heap.size->AvR B C (putA R x v') b->AvR B C R b:=by
  rintro b hb (h1|⟨k,h1⟩)
  ·exact .inl h1
  ·by_cases hk:k=x
   ·subst hk
    rw[Zdak]at h1
    rcases hnew b h1 with h2|h2
    ·exact .inr ⟨_,h2⟩
    ·omega
   ·rw[Zdaj hk]at h1
    exact .inr ⟨_,h1⟩
 have hs:Stp B C R (putA R x v') w { w' with heap:=w'.heap.setIfInBounds md o }:=by
  refine⟨(Zpx hg λk e=> .inr ⟨x,e⟩).trans (Zpx (Zdij w' md o) (λk e=>by cases e;exact .inl ⟨h.lo.2.2.1,h.hi.2.2.1⟩)),hav⟩
 have hblk:∀b,b<C->b≠md->({ w' with heap:=w'.heap.setIfInBounds md o }:World).heap[b]? =w.heap[b]?:=λb hb hne=>
  (Zdih _ _ _ hne).trans (hg.block b (Nat.lt_of_lt_of_le hb h.sz) (λe=>by have:=hown b e.symm;omega))
 obtain⟨av,cv,hv',_⟩:=Zdfu ho;refine⟨⟨(hblk _ h.hi.2.2.2 h.ne.2.2.2.2.2).trans h.blk,h.qa.heap (hblk _ h.hi.1 h.ne.2.1),h.qm.heap (hblk _ h.hi.2.1 h.ne.2.2.1),hm,h.lo,h.hi,h.ne,h.ai.stp hs,⟨λk=>?_,λk=>?_,λk k' b h1 h2=>?_,?_⟩,h.lm,?_⟩,hs⟩
 ·have hsg:=Zdij w' md o
  rw[Zdgn]
  by_cases hk:x=k
  ·subst hk
   rw[Zdak,if_pos rfl];exact Zdfr ho hsg h.hi.2.2.1
  ·rw[Zdaj (Ne.symm hk),if_neg hk,List.append_nil]
   refine Zdfr (World.ownsRow.kept (h.ri.row k) hg ?_) hsg h.hi.2.2.1
   cases e:(getA R k nilV).ownBlock with
   | none=>exact .inl rfl
   | some b=>
    exact .inr λe2=>hk (h.ri.one x k b e2.symm e)
 ·rw[Zday,Bool.or_eq_true,decide_eq_true_iff,h.ri.key]
  constructor
  ·rintro(h1|⟨q,h1,h2⟩)
   ·exact⟨(x,n),by simp,h1⟩
   ·exact⟨q,by simp[h1],h2⟩
  ·rintro⟨q,h1,h2⟩
   rcases List.mem_append.1 h1 with h1|h1
   ·exact .inr ⟨q,h1,h2⟩
   ·simp only[List.mem_singleton]at h1
    subst h1;exact .inl h2
 ·have hlt:∀k b,(getA R k nilV).ownBlock=some b->b<w.heap.size:=λk b e=>(World.ownsRow.lt (h.ri.row k) b e).2
  by_cases hk:k=x
  ·by_cases hk':k'=x
   ·rw[hk,hk']
   ·subst hk
    rw[Zdak]at h1;rw[Zdaj hk']at h2
    rcases hnew b h1 with h3|h3
    ·exact h.ri.one _ _ b h3 h2
    ·have:=hlt _ _ h2;omega
  ·rw[Zdaj hk]at h1
   by_cases hk':k'=x
   ·subst hk'
    rw[Zdak]at h2
    rcases hnew b h2 with h3|h3
    ·exact h.ri.one _ _ b h1 h3
    ·have:=hlt _ _ h1;omega
   ·rw[Zdaj hk']at h2
    exact h.ri.one _ _ b h1 h2
 ·rw[hv']
  exact h.ri.sl.put x av _ cv
 ·have:=Nat.le_trans h.sz hg.size
  simpa using this
end
end Go.Proofs.YtokogjhcidkckaaGreatDoor
