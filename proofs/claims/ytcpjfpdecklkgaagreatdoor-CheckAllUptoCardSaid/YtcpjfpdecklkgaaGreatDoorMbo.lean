import Derived.Test.YtcpjfpdecklkgaaGreatDoorMbm
import Derived.Test.YtcpjfpdecklkgaaGreatDoorMbn
import Derived.Deep.CutBlock
import Derived.Deep.DeepCutAuto
import Derived.Laws.MakeOwn
namespace Go.Proofs.YtcpjfpdecklkgaaGreatDoor
open Go.Lib (hid)
open Go.Proofs.Tryz
open Go.RowKit Go.Shelf
structure LawL (W5:World) (B:Nat) (x:RuleS) (vi vo vf vs:Value) (ys:List StepS) (wr:World):Prop where
 below:Below B W5 wr
 ins:StrsA (λb=>b<B) wr vi (cutQ x).ins
 outs:StrsA (λb=>b<B) wr vo (cutQ x).outs
 after:StrsA (λb=>b<B) wr vf (cutQ x).after
 steps:StepsA (λb=>b<B) wr vs ys
 canw:OpenV wr vs
set_option maxHeartbeats 8000000 in
set_option maxRecDepth 100000 in
theorem Zwx (x:RuleS) (vi vo vf vs:Value) (w:World) (h:RuleI w [.string x.name,vi,vo,vf,vs] x) (hf:SmallR x 1048576):
  Calls prog 28 #[.agg #[.string x.name,vi,vo,vf,vs]] w λe w'=>Zbu w w' (cutR x) e/\Below w.heap.size w w':=by
 obtain⟨_,_,_,_,q,h1,h2,h3,h4⟩:=h
 cases q
 obtain⟨a1,c1,rfl,hle1,hmx1,_⟩:=id h1;obtain⟨a2,c2,rfl,hle2,hmx2,_⟩:=id h2;obtain⟨a3,c3,rfl,hle3,hmx3,_⟩:=id h3;obtain⟨rows,hrow,hall⟩:=id h4;obtain⟨a4,c4,rfl,hle4,hmx4,_⟩:=id hrow;obtain⟨ob,hob⟩:∃o:Obj,o = .cells #[.string x.name,.slice a1 x.ins.length c1,.slice a2 x.outs.length c2,.slice a3 x.after.length c3,.slice a4 rows.length c4] 37:=⟨_,rfl⟩;obtain⟨W1,hW1⟩:∃W1,(w.alloc ob).alloc (.cells #[.string ⟨#[]⟩,.slice none 0 0,.slice none 0 0,.slice none 0 0,.slice none 0 0] 37)=W1:=⟨_,rfl⟩;have hb1:Below w.heap.size w W1:=by rw[<-hW1];exact((Below.refl _ _).alloc (Nat.le_refl _) _).alloc (by simp) _
 have hs1:W1.heap.size=w.heap.size+2:=by rw[<-hW1];simp
 have hx1:W1.heap[w.heap.size]? =some ob:=by rw[<-hW1,Below.heap_alloc _ _ _ (by simp)];exact alloc_at w ob
 have hx2:W1.heap[w.heap.size+1]? =some (.cells #[.string ⟨#[]⟩,.slice none 0 0,.slice none 0 0,.slice none 0 0,.slice none 0 0] 37):=by
  rw[<-hW1];have:=alloc_at (w.alloc ob) (.cells #[.string ⟨#[]⟩,.slice none 0 0,.slice none 0 0,.slice none 0 0,.slice none 0 0] 37);simpa using this
 subst hob;have hcell:∀w',Below W1.heap.size W1 w'->_:=λw' (hb:Below W1.heap.size W1 w')=>cells5 ((hb.block w.heap.size (by omega)).trans hx1)
 have hc0:=λw' hb=>(hcell w' hb).1
 have hc1:=λw' hb=>(hcell w' hb).2.1
 have hc2:=λw' hb=>(hcell w' hb).2.2.1
 have hc3:=λw' hb=>(hcell w' hb).2.2.2.1
 have hc4:=λw' hb=>(hcell w' hb).2.2.2.2.1
 have HC4:=hid hc4;have HS0:Hid (Below W1.heap.size W1 W1.drew):=by show Below _ _ _;exact(Below.refl _ _).drew
 have HU:Hid (∀w' o,Below W1.heap.size W1 w'->Below W1.heap.size W1 (w'.alloc o)):=by show ∀w' o,_;exact λw' o h=>h.alloc h.size o
 have HUD:Hid (∀o,Below W1.heap.size W1 (W1.alloc o).drew):=by show ∀o,_;exact λo=>((Below.refl _ _).alloc (Nat.le_refl _) o).drew
 have HB1:=hid hb1;have H1:Hid (∀w',Below W1.heap.size W1 w'->IsStrs w' (.slice a1 x.ins.length c1) x.ins):=by show ∀w',_;exact λw' hb=>h1.below (hb1.trans (hb.mono hb1.size))
 have H2:Hid (∀w',Below W1.heap.size W1 w'->IsStrs w' (.slice a2 x.outs.length c2) x.outs):=by show ∀w',_;exact λw' hb=>h2.below (hb1.trans (hb.mono hb1.size))
 have H3:Hid (∀w',Below W1.heap.size W1 w'->IsStrs w' (.slice a3 x.after.length c3) x.after):=by show ∀w',_;exact λw' hb=>h3.below (hb1.trans (hb.mono hb1.size))
 have H4:=hid h4;have HX2:=hid hx2;have HW1:=hid hW1;have N1:=hid hf.ins.1;have N2:=hid hf.outs.1;have N3:=hid hf.after.1;have HFS:=hid hf;have HS1:=hid hs1;clear hcell h1 h2 h3 h4 hb1 hs1 hx1 hx2 hc4 hf hrow hW1;have e1:=take_len x.ins.length 10 10 rfl;have e2:=take_len x.outs.length 6 6 rfl;have e3:=take_len x.after.length 10 10 rfl;have e4:=take_len rows.length 14 14 rfl;have k1:(0:Int)<=min (x.ins.length:Int) 10:=by omega
 have k2:(0:Int)<=min (x.outs.length:Int) 6:=by omega
 have k3:(0:Int)<=min (x.after.length:Int) 10:=by omega
 have k4:(0:Int)<=min (rows.length:Int) 14:=by omega
 have m1:min (x.ins.length:Int) 10<=(c1:Int):=by omega
 have m2:min (x.outs.length:Int) 6<=(c2:Int):=by omega
 have m3:min (x.after.length:Int) 10<=(c3:Int):=by omega
 have m4:min (rows.length:Int) 14<=(c4:Int):=by omega
 have hc4:=HC4.out;unfold maxLen at hmx1 hmx2 hmx3 hmx4
 go_enter func28,ntmps28
 go_upto_region 1 with fail
 rw[HW1.out];refine wp_region_held_drew (S:=λw'=>Below W1.heap.size W1 w') (by kernel_rfl) ?_ (λhHeld=>?_)
 ·exact HS0.out
 refine tkK 0 ?_;refine tkK 1 ?_;refine tkK 2 ?_;refine tkK 3 ?_;refine tkK 4 ?_;refine tkK 5 ?_;refine tkK 6 ?_;refine tkK 7 ?_;refine tkK 8 ?_;refine tkK 9 ?_;refine tkK 10 ?_;refine tkK 11 ?_;refine tkK 12 ?_;refine tkK 13 ?_;refine tkK 14 ?_;refine tkK 15 ?_;refine tkK 16 ?_;refine tkK 17 ?_;refine tkK 18 ?_;refine tkK 19 ?_;refine tkK 20 ?_;refine tkK 21 ?_;refine tkK 22 ?_;refine tkK 23 ?_;refine tkK 24 ?_;refine tkK 25 ?_;refine tkK 26 ?_;refine tkK 27 ?_;refine tkK 28 ?_;refine tkK 29 ?_;refine tkK 30 ?_
 try simp only[Act.put,List.setIfInBounds_toArray,List.set_cons_zero,List.set_cons_succ]
 refine rdH [31] ?_;refine rcH (λK hK=>?_) ?_
 ·go_simp
  refine hK.out _ _ ?_ (λhHeld=>?_)
  ·try dsimp only
   first|exact HU.out _ _ (by assumption)
  clear hK K
  try simp only[Act.put,List.setIfInBounds_toArray,List.set_cons_zero,List.set_cons_succ]
  refine rdH [32] ?_;refine rcH (λK hK=>?_) ?_
  ·go_simp
   refine hK.out _ _ ?_ (λhHeld=>?_)
   ·try dsimp only
    exact HUD.out _
   clear hK K
   try simp only[Act.put,List.setIfInBounds_toArray,List.set_cons_zero,List.set_cons_succ]
   refine wpAnyH_done (by kernel_rfl) ?_ _;have hx3:((W1.alloc (.cells #[.string x.name,.slice a1 (min 10 x.ins.length) c1,.slice a2 (min 6 x.outs.length) c2,.slice a3 (min 10 x.after.length) c3,.slice a4 (min 14 rows.length) c4] 37)).drew).heap[W1.heap.size]? =some (.cells #[.string x.name,.slice a1 (min 10 x.ins.length) c1,.slice a2 (min 6 x.outs.length) c2,.slice a3 (min 10 x.after.length) c3,.slice a4 (min 14 rows.length) c4] 37):=alloc_at W1 _;obtain⟨W3,hW3⟩:∃V,(W1.alloc (.cells #[.string x.name,.slice a1 (min 10 x.ins.length) c1,.slice a2 (min 6 x.outs.length) c2,.slice a3 (min 10 x.after.length) c3,.slice a4 (min 14 rows.length) c4] 37)).drew=V:=⟨_,rfl⟩;rw[hW3]at hx3 hHeld⊢;have hs3:W1.heap.size<W3.heap.size:=by rw[<-hW3];simp only[Zlx,Zdj];omega
   have HH3:=hid hHeld;have HX3:=hid hx3;have HS3:=hid hs3;obtain⟨y0,y1,y2,y3,y4,fz0,fz1,fz2,fz3,fz4⟩:=cells5 hx3;have hrl:rows.length=x.steps.length:=hall.1;have hRI:RuleI W3 [.string (cutQ x).name,.slice a1 (min 10 x.ins.length) c1,.slice a2 (min 6 x.outs.length) c2,.slice a3 (min 10 x.after.length) c3,.slice a4 (min 14 rows.length) c4] (cutQ x):=by
    refine⟨_,_,_,_,rfl,Zuf (H1.out _ hHeld) 10,Zuf (H2.out _ hHeld) 6,Zuf (H3.out _ hHeld) 10,?_⟩;exact Zbow (StepsI.below H4.out (HB1.out.trans (hHeld.mono HB1.out.size))) 14
   have hQ:SmallR (cutQ x) 1048576:=by
    have hf:=HFS.out;have tk:∀ {l:List ByteArray} (m:Nat),SmallL l 1048576->SmallL (l.take m) 1048576:=λm h=>⟨by rw[List.length_take];have:=h.1;omega,λz hz=>h.2 z (List.mem_of_mem_take hz)⟩
    exact⟨hf.name,tk 10 hf.ins,tk 6 hf.outs,tk 10 hf.after,by show(x.steps.take 14).length<=_;rw[List.length_take];have:=hf.few;omega,λy hy=>hf.steps y (List.mem_of_mem_take hy)⟩
   have hCP:=Zkp (cutQ x) _ _ _ _ W3 hRI hQ;have CPY:Hid (Calls prog 53 #[.agg #[.string x.name,.slice a1 (min 10 x.ins.length) c1,.slice a2 (min 6 x.outs.length) c2,.slice a3 (min 10 x.after.length) c3,.slice a4 (min 14 rows.length) c4]] W3 λe w'=>RuleO W3 w' (cutQ x) e/\Below W3.heap.size W3 w'):=hCP;clear hCP hRI hQ hHeld hW3 hx3 hs3 hc0 hc1 hc2 hc3 hc4 e1 e2 e3 e4 k1 k2 k3 k4 m1 m2 m3 m4 hall hrl
   go_wp2_with fail
   refine CPY.out.mono ?_;rintro e w4 ⟨hRE,hb4⟩;obtain⟨vi,vo,vf,vs,he,⟨hvi,_⟩,⟨hvo,_⟩,⟨hvf,_⟩,hvs,hop⟩:=hRE;obtain⟨i1,i2,i3,q⟩:=Zbig hvi;subst q;obtain⟨j1,j2,j3,q⟩:=Zbig hvo;subst q;obtain⟨l1,l2,l3,q⟩:=Zbig hvf;subst q;obtain⟨s1,s3,q,hsn,hsm⟩:=Zboi hvs;subst q;obtain⟨ys,hys⟩:∃ys,(cutQ x).steps=ys:=⟨_,rfl⟩;rw[hys]at hvs hsn hop;have he2:e = .returned (.agg #[.string x.name,.slice i1 i2 i3,.slice j1 j2 j3,.slice l1 l2 l3,.slice s1 ys.length s3]):=by rw[he,hys];rfl
   clear he;subst he2;have HYS:=hid hys;have hx4:=(hb4.block _ HS3.out).trans HX3.out;have hz5:=Zrs hx4 (.string x.name) (.slice i1 i2 i3) (.slice j1 j2 j3) (.slice l1 l2 l3) (.slice s1 ys.length s3);obtain⟨x0,x1,x2,x3,x4,v0,v1,v2,v3,v4⟩:=cells5 hx4;obtain⟨W5,hW5⟩:∃V,((((w4.setCell ⟨W1.heap.size,0,none⟩ (.string x.name)).setCell ⟨W1.heap.size,1,none⟩ (.slice i1 i2 i3)).setCell ⟨W1.heap.size,2,none⟩ (.slice j1 j2 j3)).setCell ⟨W1.heap.size,3,none⟩ (.slice l1 l2 l3)).setCell ⟨W1.heap.size,4,none⟩ (.slice s1 ys.length s3)=V:=⟨_,rfl⟩;rw[hW5]at hz5;have hfr:Fr (λb=>b<W3.heap.size) w4 W5:=by
    rw[<-hW5];exact Zpz (Av:=λb=>b<W3.heap.size) (w:=w4) HS3.out (.string x.name) (.slice i1 i2 i3) (.slice j1 j2 j3) (.slice l1 l2 l3) (.slice s1 ys.length s3)
   have hb04:=(HB1.out.trans (HH3.out.mono HB1.out.size)).trans (hb4.mono (HB1.out.trans (HH3.out.mono HB1.out.size)).size);have hb5:Below w.heap.size w W5:=by
    rw[<-hW5];exact Zfn hb04 HB1.out.size _ _ _ _ _
   have hout5:W5.heap[w.heap.size+1]? =some (.cells #[.string ⟨#[]⟩,.slice none 0 0,.slice none 0 0,.slice none 0 0,.slice none 0 0] 37):=by
    have h1:=HS1.out;have h2:=((hb4.block _ (by have:=HS3.out;omega)).trans (HH3.out.block _ (by omega))).trans HX2.out;rw[<-hW5];refine Eq.trans ?_ h2;have hne:w.heap.size+1≠W1.heap.size:=by omega
    exact((((Below.heap_setCell _ _ _ _ hne).trans (Below.heap_setCell _ _ _ _ hne)).trans (Below.heap_setCell _ _ _ _ hne)).trans (Below.heap_setCell _ _ _ _ hne)).trans (Below.heap_setCell _ _ _ _ hne)
   have HW5:=hid hW5;have h0:LawL W5 W3.heap.size x (.slice i1 i2 i3) (.slice j1 j2 j3) (.slice l1 l2 l3) (.slice s1 ys.length s3) ys W5:=
    ⟨Below.refl _ _,RowA.keep hvi hfr,RowA.keep hvo hfr,RowA.keep hvf hfr,StepsA.keep hvs hfr,hop.keep (Zbog hvs) hfr⟩
   have H0:=hid h0;have HB3:Hid (W1.heap.size<W3.heap.size/\w.heap.size+2=W1.heap.size):=by show _/\_;exact⟨HS3.out,by have:=HS1.out;omega⟩
   have HZ5:=hid hz5;have HO5:=hid hout5;have HB5:=hid hb5;have HS45:=hid (show W3.heap.size<=W5.heap.size from Nat.le_trans hb4.size hfr.size);have hyl:ys.length<=1048576:=by rw[<-hys];show(x.steps.take 14).length<=_;rw[List.length_take];have:=HFS.out.few;omega
   have HSZ:=HB1.out.size;unfold maxLen at hsm;clear hW5 hb4 hvi hvo hvf hvs hop hx4 hz5 hfr hb5 h0 hys hb04 hout5 y0 y1 y2 y3 y4 fz0 fz1 fz2 fz3 fz4
   go_wp2_with fail
   rw[HW5.out];clear x0 x1 x2 x3 x4 v0 v1 v2 v3 v4;have hrec:∀wr,Below W3.heap.size W5 wr->_:=λwr hb=>cells5 ((hb.block W1.heap.size HS3.out).trans HZ5.out)
   have HREC:=hid hrec;obtain⟨y0,y1,y2,y3,y4,fz0,fz1,fz2,fz3,fz4⟩:=hrec _ (Below.refl _ _);clear hrec
   go_wp2_with fail
   go_loopw [41] (λi wr=>∃k:Nat,k<=ys.length/\i = .int .i64 (k:Int)/\LawL W5 W3.heap.size x (.slice i1 i2 i3) (.slice j1 j2 j3) (.slice l1 l2 l3) (.slice s1 ys.length s3) (mixS k ys) wr) (λi _=>ys.length-(intOf i).toNat)
   case atStart=>exact⟨0,Nat.zero_le _,rfl,H0.out⟩
   case round=>
    clear y0 y1 y2 y3 y4 fz0 fz1 fz2 fz3 fz4;obtain⟨k,hk,rfl,hL⟩:=hrel;have HL:=hid hL;obtain⟨y0,y1,y2,y3,y4,fz0,fz1,fz2,fz3,fz4⟩:=HREC.out _ hL.below
    by_cases hlt:k<ys.length
    ·obtain⟨y,hy⟩:∃y,ys[k]? =some y:=⟨ys[k],List.getElem?_eq_getElem hlt⟩
     have hfz:=hL.canw;obtain⟨b0,o,p1,c5,q1,d1,hs,hqn,hnb,hbl,g1,g2,g3,g4,g5,g6,z2,z3⟩:=Zbof hL.steps (Zzf hy);have HY:=hid hy;have HZ2:=hid z2;have HZ3:=hid z3;have HNB:=hid hnb;have hnx:=Zbok (by rw[hs]at hL;exact hL.steps) (Zzf hy) z2 z3 8 3;have HNX:=hid hnx;have HNE:Hid (b0≠W1.heap.size):=by show _≠_;have:=HS3.out;intro e;exact hnb (by omega)
     subst hs;have hz2:=hfz _ rfl (o+k*5+2);have hz3:=hfz _ rfl (o+k*5+3);clear hfz;have hi1:(k:Int)<(ys.length:Int):=by omega
     have hi0:(0:Int)<=(k:Int):=by omega
     have e1:=take_len y.args.length 8 8 rfl;have e2:=take_len y.lits.length 3 3 rfl;have k1:(0:Int)<=min (y.args.length:Int) 8:=by omega
     have k2:(0:Int)<=min (y.lits.length:Int) 3:=by omega
     have m1:min (y.args.length:Int) 8<=(c5:Int):=by omega
     have m2:min (y.lits.length:Int) 3<=(d1:Int):=by omega
     have zd2:(wr.drew).cell? ⟨b0,o+k*5+2,none⟩=some (.slice p1 y.args.length c5):=z2;have zd3:(wr.drew).cell? ⟨b0,o+k*5+3,none⟩=some (.slice q1 y.lits.length d1):=z3;have yd4:(wr.drew).cell? ⟨W1.heap.size,4,none⟩=some (.slice (some ⟨b0,o,none⟩) ys.length s3):=y4;unfold maxLen at g2 g4 g6;clear hL hy hnx hnb hqn
     go_wp2_with fail
     refine Zbuk (S:=λb w'=>(b=false->w'=wr.drew)/\w'.cell? ⟨W1.heap.size,4,none⟩=some (.slice (some ⟨b0,o,none⟩) ys.length s3)) (st:=38) (by kernel_rfl) ?_ (λhHeld=>?_)
     ·exact⟨λ_=>rfl,y4⟩
     refine tkS 0 ?_;refine tkS 1 ?_;refine tkS 2 ?_;refine tkZ 3 ?_;refine tkZ 4 ?_;refine tkZ 5 ?_;refine tkS 6 ?_;refine tkS 7 ?_;refine tkS 8 ?_;refine tkS 9 ?_;refine tkS 10 ?_;refine tkS 11 ?_;refine tkS 12 ?_;refine tkS 13 ?_;refine tkS 14 ?_;refine tkS 15 ?_;refine tkS 16 ?_;refine tkS 17 ?_;refine tkS 18 ?_;refine tkS 19 ?_;refine tkS 20 ?_;refine tkS 21 ?_;refine tkS 22 ?_;refine tkS 23 ?_;refine tkS 24 ?_;refine tkS 25 ?_;refine tkS 26 ?_;refine tkS 27 ?_;refine tkS 28 ?_;refine tkS 29 ?_;refine tkS 30 ?_;refine tkS 31 ?_;refine tkS 32 ?_;refine tkZ 33 ?_;refine tkZ 34 ?_;refine tkZ 35 ?_;refine tkS 36 ?_;refine tkS 37 ?_
     try simp only[Act.put,List.setIfInBounds_toArray,List.set_cons_zero,List.set_cons_succ]
     refine Zbtx (rs:=[38]) (by kernel_rfl) (by simp) ?_;refine AllReadyS.cons (b:=true) (o:=_) (by simp only[List.getElem?_toArray,List.getElem?_cons_succ,List.getElem?_cons_zero];rfl) (by kernel_rfl) (λK hK=>?_) ?_
     ·go_simp
      refine hK.out _ _ ?_ (λhHeld=>?_)
      ·try dsimp only
       exact⟨λe=>(by cases e),by rw[Zid,World.cell?_setCell_far _ _ _ _ HNE.out];exact y4⟩
      clear hK K
      try simp only[Act.put,List.setIfInBounds_toArray,List.set_cons_zero,List.set_cons_succ]
      refine tkZ 39 ?_;refine tkZ 40 ?_
      try simp only[Act.put,List.setIfInBounds_toArray,List.set_cons_zero,List.set_cons_succ]
      refine Zbtx (rs:=[41]) (by kernel_rfl) (by simp) ?_;refine AllReadyS.cons (b:=true) (o:=_) (by simp only[List.getElem?_toArray,List.getElem?_cons_succ,List.getElem?_cons_zero];rfl) (by kernel_rfl) (λK hK=>?_) ?_
      ·go_simp
       refine hK.out _ _ ?_ (λhHeld=>?_)
       ·try dsimp only
        exact⟨λe=>(by cases e),by rw[Zid,World.cell?_setCell_far _ _ _ _ HNE.out];exact hHeld.2⟩
       clear hK K
       try simp only[Act.put,List.setIfInBounds_toArray,List.set_cons_zero,List.set_cons_succ]
       refine Zbtu (by kernel_rfl) ?_ _;have hwr:=HL.out.below;obtain⟨W7,hW7⟩:∃V,((wr.setCell ⟨b0,o+k*5+2,none⟩ (.slice p1 (min 8 y.args.length) c5)).setCell ⟨b0,o+k*5+3,none⟩ (.slice q1 (min 3 y.lits.length) d1)).drew=V:=⟨_,rfl⟩;have hfr:Fr (λb=>b=b0) wr W7:=by
        rw[<-hW7];exact((Zpy (Av:=λb=>b=b0) (a:=⟨b0,o+k*5+2,none⟩) rfl _).trans (Zpy (Av:=λb=>b=b0) (a:=⟨b0,o+k*5+3,none⟩) rfl _)).trans (Zpw _ _)
       have h7:LawL W5 W3.heap.size x (.slice i1 i2 i3) (.slice j1 j2 j3) (.slice l1 l2 l3) (.slice (some ⟨b0,o,none⟩) ys.length s3) (mixS (k+1) ys) W7:=by
        have hset:∀ {v:Value} {xs:List ByteArray},StrsA (λb=>b<W3.heap.size) wr v xs->StrsA (λb=>b<W3.heap.size) W7 v xs:=λh=>by
         rw[<-hW7];refine RowA.keep (w:=(wr.setCell ⟨b0,o+k*5+2,none⟩ (.slice p1 (min 8 y.args.length) c5)).setCell ⟨b0,o+k*5+3,none⟩ (.slice q1 (min 3 y.lits.length) d1)) ?_ (Zpw _ _);exact Zbqg (Zbqg h HZ2.out (by intro s e;cases e) _) (by rw[World.cell?_setCell_other _ _ _ _ (by simp)];exact HZ3.out) (by intro s e;cases e) _
        refine⟨hwr.trans (hfr.below (Nat.le_trans HS45.out hwr.size) λb hb e=>by subst e;exact HNB.out hb),hset HL.out.ins,hset HL.out.outs,hset HL.out.after,?_,λb e i=>?_⟩
        ·have:=HNX.out
         rw[<-Zzg HY.out,<-hW7];exact StepsA.keep this (Zpw _ _)
        ·rw[<-hW7]
         have h1:=HL.out.canw b e i;rw[Zqb,World.frozen?_setCell,World.frozen?_setCell];exact h1
       have H7:=hid h7;rw[hW7];clear hwr hW7 hfr h7 hHeld hz2 hz3 y0 y1 y2 y3 y4 fz0 fz1 fz2 fz3 fz4 z2 z3 zd2 zd3 yd4 e1 e2 k1 k2 m1 m2;go_wp2;go_roundw
       case rel=>exact⟨k+1,by omega,by go_num,H7.out⟩
       case measure=>simp[intOf];omega
      exact AllReadyS.nil
     exact AllReadyS.nil
    ·obtain rfl:k=ys.length:=by omega
     have hi1:¬(ys.length:Int)<(ys.length:Int):=by omega
     have hout:=(hL.below.block _ (by have:=HB3.out;omega)).trans HO5.out;have HOUT:=hid hout;obtain⟨d0,d1,d2,d3,d4,e0,e1,e2,e3,e4⟩:=cells5 hout;clear hL hout;go_wp2;refine bodyPost_ret (Zbhl rfl _ _ (w.heap.size+1) _ _ _ _ rfl (Zrs HOUT.out _ _ _ _ _) underlying37 rfl (by kernel_rfl)) rfl ?_;have hL:=HL.out;have hS:=HB3.out;have hS5:=HS45.out;have hfs:∀u0 u1 u2 u3 u4,Fr (λb=>b<W3.heap.size) wr _:=λu0 u1 u2 u3 u4=>Zpz (Av:=λb=>b<W3.heap.size) (w:=wr) (g:=w.heap.size+1) (by omega) u0 u1 u2 u3 u4
     have hst:=hL.steps;rw[Zze _ (Nat.le_refl _)]at hst;have hys:(cutR x).steps=ys.map cutS:=by rw[<-HYS.out];rfl
     refine⟨⟨_,_,_,_,rfl,RowA.mono (RowA.keep hL.ins (hfs _ _ _ _ _)) λb _ hb=>by omega,RowA.mono (RowA.keep hL.outs (hfs _ _ _ _ _)) λb _ hb=>by omega,RowA.mono (RowA.keep hL.after (hfs _ _ _ _ _)) λb _ hb=>by omega,?_⟩,
      Zfn (HB5.out.trans (hL.below.mono (by omega))) (by omega) _ _ _ _ _⟩
     rw[hys];exact(hst.keep (hfs _ _ _ _ _)).mono λb _ hb=>by omega
  exact AllReadyH.nil
 exact AllReadyH.nil
theorem Zbir {w w':World} {x:RuleS} {e:Ending} (h:Zbu w w' x e):∃b1 m1 e1 b2 m2 e2 b3 m3 e3 b4 m4 e4,e = .returned (.agg #[.string x.name,.slice b1 m1 e1,.slice b2 m2 e2,.slice b3 m3 e3,.slice b4 m4 e4])/\
  RuleA (λb=>b<w.heap.size) w' [.string x.name,.slice b1 m1 e1,.slice b2 m2 e2,.slice b3 m3 e3,.slice b4 m4 e4] x:=by
 obtain⟨vi,vo,vf,vs,rfl,h1,h2,h3,h4⟩:=h;obtain⟨b1,m1,e1,q1⟩:=Zbig h1;obtain⟨b2,m2,e2,q2⟩:=Zbig h2;obtain⟨b3,m3,e3,q3⟩:=Zbig h3;obtain⟨b4,e4,q4,_,_⟩:=Zboi h4;subst q1 q2 q3 q4;exact⟨b1,m1,e1,b2,m2,e2,b3,m3,e3,b4,_,e4,rfl,⟨_,_,_,_,rfl,h1,h2,h3,h4⟩⟩
def Zbvw (k:Nat) (xs:List RuleS):List RuleS:=(xs.take k).map cutR
theorem Zbvz {xs:List RuleS} {k:Nat} {x:RuleS} (h:xs[k]? =some x):Zbvw (k+1) xs=Zbvw k xs ++ [cutR x]:=by
 unfold Zbvw;rw[List.take_add_one,h,List.map_append];rfl
theorem Zbvy (k:Nat) (xs:List RuleS):(Zbvw k xs).length=min k xs.length:=by unfold Zbvw;rw[List.length_map,List.length_take]
theorem Zbvx {k m:Nat} {xs:List RuleS} (h:xs.length<=k) (h2:xs.length<=m):Zbvw k xs=Zbvw m xs:=by
 unfold Zbvw;rw[List.take_of_length_le h,List.take_of_length_le h2]
set_option maxHeartbeats 8000000 in
set_option maxRecDepth 100000 in
theorem Zbwl (v:Value) (xs:List RuleS) (w:World) (h:RulesI w v xs) (hs:∀x∈xs,SmallR x 1048576):
  Calls prog 6 #[v] w (Zbz w (Zbvw 42 xs)):=by
 obtain⟨sa,sc,hv,hs1,hs2⟩:=Zbjn h;subst hv;have HCS:Hid (∀(k:Nat) x,xs[k]? =some x->_):=hid (λk x hx=>Zbjm h (k:=k) (x:=x) hx);have HSM:=hid hs;unfold maxLen at hs2;have HO1:Hid (OwnRules w.heap.size w (.slice none 0 0) []):=Zbxk _ _;clear h hs
 go_enter func6,ntmps6
 go_wp2
 go_loopw [3,4] (λvv i wr=>∃k:Nat,k<=xs.length/\k<=42/\i = .int .i64 k/\OwnRules w.heap.size wr vv (Zbvw k xs)/\Below w.heap.size w wr)
  (λ_ i _=>xs.length-(intOf i).toNat)
 case atStart=>exact⟨0,Nat.zero_le _,Nat.zero_le _,rfl,HO1.out,Below.refl _ _⟩
 case round=>
  obtain⟨k,hk,hk42,rfl,hown,hnx⟩:=hrel;have hsz:=hnx.size;have HO:=hid hown;have HNX:=hid hnx;clear hown hnx
  by_cases hlt:k<xs.length
  ·by_cases h42:k<42
   ·obtain⟨x,hx⟩:∃x,xs[k]? =some x:=⟨xs[k],List.getElem?_eq_getElem hlt⟩
    obtain⟨g,o,cap,a1,c1,a2,c2,a3,c3,a4,c4,hv,hg,hR,hc⟩:=HCS.out k x hx;have hi1:(k:Int)<(xs.length:Int):=by omega
    have hi2:(k:Int)<42:=by omega
    have hi0:(0:Int)<=(k:Int):=by omega
    have hfx:=HSM.out x (List.mem_of_getElem? hx);have htk:=Zbvz hx;obtain⟨d0,d1,d2,d3,d4⟩:=hc _ HNX.out;have HTK:=hid htk
    cases hv
    have cA:=Zwx x _ _ _ _ wr (hR.below HNX.out) hfx;have CA:=hid cA;clear hc hx htk hR hfx cA
    go_wp2_with fail
    refine CA.out.mono ?_;rintro e w2 ⟨hpost,hb2⟩;obtain⟨b1,m1,e1,b2,m2,e2,b3,m3,e3,b4,m4,e4,rfl,hra⟩:=Zbir hpost;have hO2:=HO.out.below hb2;have hlow:=λb hb=>(HO.out.lt b hb).2
    have hra2:=RuleA.mono (Av':=AvOf w.heap.size _) hra λb _ e=>by
     rcases e with e|e
     ·show b<wr.heap.size;omega
     ·exact hlow b e
    have HO2:=hid hO2;have HR2:=hid hra2;have HN2:=hid (HNX.out.trans (hb2.mono hsz));have HTL:Hid ((Zbvw k xs).length<=1000000000):=by show _<=_;rw[Zbvy];omega
    have HS2:=hid (Nat.le_trans hsz hb2.size);clear hra hb2 hO2 hlow hra2 d0 d1 d2 d3 d4 hpost
    go_wp2_with (at_builtin;refine Zbuh (by rfl) _ _ (by rfl) w.heap.size _ (Zbvw k xs) (cutR x) b1 b2 b3 b4 m1 e1 m2 e2 m3 e3 m4 e4 (by rfl) HO2.out HS2.out HTL.out HR2.out _ (by rfl) (by simp) ?_)
    intro v' w6 hown6 hb6 _ _;have HO6:Hid (OwnRules w.heap.size w6 v' (Zbvw (k+1) xs)):=by show OwnRules _ _ _ _;rw[HTK.out];exact hown6
    have HN6:=hid (HN2.out.trans hb6);clear hown6 hb6;go_wp2;go_roundw
    case rel=>exact⟨k+1,by omega,by omega,by go_num,HO6.out,HN6.out⟩
    case measure=>simp[intOf];omega
   ·obtain rfl:k=42:=by omega
    have hi1:(42:Int)<(xs.length:Int):=by omega
    have hi2:((42:Nat):Int)<(xs.length:Int):=by omega
    obtain⟨a,c,q⟩:=HO.out.len;subst q;go_wp2;go_ret;exact⟨_,_,_,rfl,HO.out,HNX.out⟩
  ·have hfull:Zbvw k xs=Zbvw 42 xs:=Zbvx (by omega) (by omega)
   have hi1:¬(k:Int)<(xs.length:Int):=by omega
   have hO3:=HO.out;rw[hfull]at hO3;obtain⟨a,c,q⟩:=hO3.len;subst q;have HO3:=hid hO3;clear hfull hO3;go_wp2;go_ret;exact⟨_,_,_,rfl,HO3.out,HNX.out⟩
set_option maxHeartbeats 2000000 in
theorem Zbwb (v1 v2:Value) (xs:List ByteArray) (w:World) (h1:IsStrs w v1 xs) (h2:IsStrs w v2 xs):
  Calls prog 9 #[v1,v2] w λe w'=>e = .returned (.bool true)/\Below w.heap.size w w':=by
 obtain⟨a1,c1,rfl,_,hm1,hc1⟩:=h1;obtain⟨a2,c2,rfl,_,hm2,hc2⟩:=h2;have hlm:xs.length<=maxLen:=by omega
 unfold maxLen at hlm;have HC1:=hid hc1;have HC2:=hid hc2;clear hc1 hc2
 go_enter func9,ntmps9
 go_wp2
 go_loopw [5] (λi wr=>∃k:Nat,k<=xs.length/\i = .int .i64 k/\Below w.heap.size w wr)
  (λi _=>xs.length-(intOf i).toNat)
 case atStart=>exact⟨0,Nat.zero_le _,rfl,Below.refl _ _⟩
 case round=>
  obtain⟨k,hk,rfl,hnx⟩:=hrel;have HNX:=hid hnx;clear hnx
  by_cases hlt:k<xs.length
  ·obtain⟨x,hx⟩:∃x,xs[k]? =some x:=⟨xs[k],List.getElem?_eq_getElem hlt⟩
   obtain⟨b1,o1,q1,hb1,hk1⟩:=HC1.out (by rintro e;rw[e]at hlt;simp at hlt);obtain⟨b2,o2,q2,hb2,hk2⟩:=HC2.out (by rintro e;rw[e]at hlt;simp at hlt);subst q1 q2;have e1:wr.cell? ⟨b1,o1+k,none⟩=some (.string x):=(HNX.out.cell (p:=⟨b1,o1+k,none⟩) hb1).trans (hk1 k x hx);have e2:wr.cell? ⟨b2,o2+k,none⟩=some (.string x):=(HNX.out.cell (p:=⟨b2,o2+k,none⟩) hb2).trans (hk2 k x hx);have hi1:(k:Int)<(xs.length:Int):=by omega
   have hi0:(0:Int)<=(k:Int):=by omega
   have hN:Hid (∀n,Below w.heap.size w (wr.drewN n)):=by show ∀n,_;exact λn=>below_drewN HNX.out n
   clear hk1 hk2 hx
   go_wp2_with fail
   go_quiet (fail)
   all_goals go_wp2
   all_goals go_roundw
   case rel=>exact⟨k+1,by omega,by go_num,hN.out _⟩
   case measure=>simp[intOf];omega
  ·have hi1:¬(k:Int)<(xs.length:Int):=by omega
   go_wp2;go_ret;exact⟨rfl,HNX.out⟩
theorem Zbkv (x:RuleS):ShortR (cutR x):=
 ⟨by show(x.ins.take 10).length<=10;rw[List.length_take];omega,by show(x.outs.take 6).length<=6;rw[List.length_take];omega,by show(x.after.take 10).length<=10;rw[List.length_take];omega,
  by show((x.steps.take 14).map cutS).length<=14;rw[List.length_map,List.length_take];omega,λy hy=>by
   obtain⟨z,hz,rfl⟩:=List.mem_map.1 (show y∈(x.steps.take 14).map cutS from hy);exact⟨by show(z.args.take 8).length<=8;rw[List.length_take];omega,by show(z.lits.take 3).length<=3;rw[List.length_take];omega⟩⟩
theorem Zbma {x:RuleS} {m:Nat} (h:SmallR x m):SmallR (cutR x) m:=by
 have tk:∀ {l:List ByteArray} (k:Nat),SmallL l m->SmallL (l.take k) m:=λk h=>⟨by rw[List.length_take];have:=h.1;omega,λz hz=>h.2 z (List.mem_of_mem_take hz)⟩
 exact⟨h.name,tk 10 h.ins,tk 6 h.outs,tk 10 h.after,by show((x.steps.take 14).map cutS).length<=m;rw[List.length_map,List.length_take];have:=h.few;omega,λy hy=>by
  obtain⟨z,hz,rfl⟩:=List.mem_map.1 (show y∈(x.steps.take 14).map cutS from hy);have:=h.steps z (List.mem_of_mem_take hz);exact⟨this.out,tk 8 this.args,tk 3 this.lits,this.op,this.n⟩⟩
theorem Zbwe {n:Nat} {p:Nat->Bool} (h:∀k,k<n->p k=false):(List.range n).find? p=none:=by
 rw[List.find?_eq_none];intro k hk;rw[h k (by simpa using hk)];decide
theorem Zbvb:∀ {ks L:List ByteArray},ks.Nodup->(∀k∈ks,k∉L)->(addS L ks).length=L.length+ks.length
 | [],L,_,_=>by simp[addS]
 | k::ks,L,hn,hd=>by
  have e:addS L (k::ks)=addS (insS L k) ks:=rfl;have hi:insS L k=L ++ [k]:=by unfold insS;rw[if_neg (λh=>hd k (by simp) (Zsj.1 h))]
  obtain⟨h1,h2⟩:=List.nodup_cons.1 hn;rw[e,Zbvb h2 (λa ha hm=>?_),hi]
  ·simp only[List.length_append,List.length_cons,List.length_nil];omega
  ·rw[hi]at hm
   rcases List.mem_append.1 hm with hm|hm
   ·exact hd a (by simp[ha]) hm
   ·obtain rfl:a=k:=by simpa using hm
    exact h1 ha
theorem Zbya {rs:List RuleS} {k:Nat} {x:RuleS} (h:x∈rs.take k):∃i,i<k/\rs[i]? =some x:=by
 obtain⟨i,hi⟩:=List.getElem?_of_mem h;rw[List.getElem?_take]at hi;split at hi
 ·exact⟨i,by assumption,hi⟩
 ·cases hi
theorem Zbxz {rs:List RuleS} (hn:∀(i j:Nat) x y,rs[i]? =some x->rs[j]? =some y->i<j->x.name≠y.name) (ho:∀r∈rs,r.outs.Nodup) (hf:∀(i j:Nat) x y,rs[i]? =some x->rs[j]? =some y->i<j->∀a∈x.outs,a∉y.outs):(List.range rs.length).find? (takP rs)=none:=by
 refine Zbwe λk hk=>?_
 have hx:=List.getElem?_eq_getElem hk;unfold takP;rw[hx];simp only[Option.map_some,Option.getD_some];unfold takB;rw[Bool.or_eq_false_iff];constructor
 ·cases e:inS (nmS (rs.take k)) rs[k].name with
  | false=>rfl
  | true=>
   obtain⟨y,hy,he⟩:=Zbbb.1 (Zsj.1 e);obtain⟨i,hik,hi⟩:=Zbya hy;exact absurd he.symm (hn i k y _ hi hx hik)
 ·rw[Zbvb (ho _ (List.getElem_mem _)) (λa ha hm=>?_)]
  ·simp
  ·obtain⟨y,hy,he⟩:=Zpk.1 hm
   obtain⟨i,hik,hi⟩:=Zbya hy;exact hf i k y _ hi hx hik a he ha
theorem Zbxq {rs:List RuleS} (h:∀r∈rs,Zbip r=0):rs.find? (λr=> !decide (Zbip r=0))=none:=by
 rw[List.find?_eq_none];intro r hr;simp[h r hr]
theorem OkTog.before {rs:List RuleS} (h:OkTog rs):Zet rs=(0,⟨#[]⟩):=by
 unfold Zet;rw[Zbxq h.each];simp only;rw[if_neg (by have:=h.few;omega),Zbxz h.names h.own h.files];simp only;have ha:(List.range rs.length).find? (astP rs)=none:=by
  refine Zbwe λk hk=>?_
  unfold astP;rw[List.getElem?_eq_getElem hk];simp only[Option.map_some,Option.getD_some,Bool.not_eq_false',List.all_eq_true];intro a hm;exact Zsj.2 (Zbbb.2 (h.after _ (List.getElem_mem _) a hm))
 rw[ha]
theorem Zbxe {rs:List RuleS}:(Zet rs).1=0↔OkTog rs:=⟨Zbcj,λh=>by rw[h.before]⟩
theorem Zbxp (r:RuleS):Zbip r=0∨Zbip r=1∨Zbip r=2∨Zbip r=4:=by
 unfold Zbip
 repeat' split
 all_goals simp
theorem Zbve (rs:List RuleS):(Zet rs).1=0∨(Zet rs).1=1∨(Zet rs).1=2∨(Zet rs).1=4:=by
 unfold Zet;split
 ·exact Zbxp _
 ·split
  ·exact .inr (.inr (.inr rfl))
  ·split
   ·exact .inr (.inr (.inl rfl))
   ·split
    ·exact .inr (.inr (.inl rfl))
    ·exact .inl rfl
theorem Zbxv (rs:List RuleS):Zac (Zbng rs):=by
 have htr:∀(a b c:RuleS),nmLe a b=true->nmLe b c=true->nmLe a c=true:=by
  intro a b c h1 h2;exact pre5.2 (a.name,(none,0,0),(none,0,0),(none,0,0),(none,0,0)) (b.name,(none,0,0),(none,0,0),(none,0,0),(none,0,0)) (c.name,(none,0,0),(none,0,0),(none,0,0),(none,0,0)) h1 h2
 have hto:∀(a b:RuleS),(nmLe a b||nmLe b a)=true:=by
  intro a b;unfold nmLe;have:=Zjv a.name.data.toList b.name.data.toList;rw[Bool.or_eq_true,decide_eq_true_eq,decide_eq_true_eq];omega
 exact(List.pairwise_mergeSort htr hto rs).imp λh=>of_decide_eq_true h
def Zbvn (rs:List RuleS):Int:=(allB rs (Zot (Zbng rs))).1
theorem Zbvp {rs:List RuleS} (h:(Zet rs).1≠0):allB rs (Zot (Zbng rs))=Zet rs:=by
 unfold allB;rw[if_neg h]
theorem Zbvr {rs:List RuleS} (h:OkTog rs):Zbvn rs=if Zot (Zbng rs) = []then 0 else 3:=by
 unfold Zbvn allB;rw[if_pos (Zbxe.2 h)]
 cases Zot (Zbng rs)with
 | nil=>rfl
 | cons x l=>rfl
theorem Zbvq (rs:List RuleS):(OkTog rs/\(Zbvn rs=0∨Zbvn rs=3))∨(¬OkTog rs/\Zbvn rs≠0/\Zbvn rs≠3):=by
 by_cases h:OkTog rs
 ·refine .inl ⟨h,?_⟩
  rw[Zbvr h];split<;>simp
 ·have h0:(Zet rs).1≠0:=λe=>h (Zbxe.1 e)
  refine .inr ⟨h,?_⟩;unfold Zbvn;rw[Zbvp h0];have:=Zbve rs;omega
theorem Zbxb {s:Nat} {way:List Nat}:∀ {xs:List Nat} {q:List (List Nat)} {r:List Bool},Zbax s way xs q r=none->s∈xs
 | [],_,_,h=>by simp[Zbax]at h
 | x::xs,q,r,h=>by
  unfold Zbax at h;split at h
  ·rename_i e;exact e▸List.mem_cons_self
  ·split at h<;>exact List.mem_cons_of_mem _ (Zbxb h)
theorem Zbxc {s:Nat} {way:List Nat} {P:Nat->Prop}:∀ {xs:List Nat} {q:List (List Nat)} {r:List Bool} {q':List (List Nat)} {r':List Bool},Zbax s way xs q r=some (q',r')->(∀x∈xs,P x)->(∀w∈q,P (w.getLastD 0))->∀w∈q',P (w.getLastD 0)
 | [],q,r,q',r',h,_,hq=>by
  simp only[Zbax,Option.some.injEq,Prod.mk.injEq]at h;rw[<-h.1];exact hq
 | x::xs,q,r,q',r',h,hx,hq=>by
  unfold Zbax at h;split at h
  ·cases h
  ·split at h
   ·exact Zbxc h (λy hy=>hx y (by simp[hy])) hq
   ·refine Zbxc h (λy hy=>hx y (by simp[hy])) (λw hw=>?_)
    rcases List.mem_append.1 hw with hw|hw
    ·exact hq w hw
    ·obtain rfl:w=way ++ [x]:=by simpa using hw
     have:(way ++ [x]).getLastD 0=x:=by simp
     rw[this];exact hx x (by simp)
theorem Zbvf {s:Nat} {nd:Nat->List Nat}:∀(n:Nat) (q:List (List Nat)) (r:List Bool),(∀w∈q,w.getLastD 0=s∨Rch nd s (w.getLastD 0))->bfsF s nd n q r≠[]->Rch nd s s
 | 0,_,_,_,h=>absurd (by simp[bfsF]) h
 | _+1,[],_,_,h=>absurd (by simp[bfsF]) h
 | n+1,w::q,r,hq,h=>by
  rw[Zfp]at h;have hw:=hq w (by simp);have hn:∀x∈nd (w.getLastD 0),x=s∨Rch nd s x:=by
   intro x hx
   rcases hw with e|e
   ·rw[e]at hx;exact .inr (.one hx)
   ·exact .inr (.more e hx)
  cases e:Zbax s w (nd (w.getLastD 0)) q r with
  | none=>
   have hs:=Zbxb e
   rcases hw with e2|e2
   ·rw[e2]at hs;exact .one hs
   ·exact .more e2 hs
  | some p=>
   rw[e]at h;obtain⟨q',r'⟩:=p;exact Zbvf n q' r' (Zbxc (P:=λx=>x=s∨Rch nd s x) e hn (λw hw=>hq w (by simp[hw]))) h
theorem Zbxn {s N:Nat} {nd:Nat->List Nat} (h:Zbhz s nd N≠[]):Rch nd s s:=by
 refine Zbvf _ _ _ (λw hw=>?_) h;obtain rfl:w = [s]:=by simpa using hw
 exact .inl rfl
theorem Zbwc {nd:Nat->List Nat} {N:Nat}:∀ {l:List Nat},(∀s∈l,Zbhz s nd N = [])->fcL nd N l = []
 | [],_=>rfl
 | a::l,h=>by
  unfold fcL;rw[if_pos (h a (by simp))];exact Zbwc λs hs=>h s (by simp[hs])
theorem Zcgz {w:World} {v:Value} {xs:List RuleS} (h:RulesI w v xs):∃a c,v = .slice a xs.length c/\xs.length<=c/\c<=maxLen/\∀(k:Nat) x,xs[k]? =some x->∃b o a1 c1 a2 c2 a3 c3 a4 c4,a=some ⟨b,o,none⟩/\RuleI w [.string x.name,.slice a1 x.ins.length c1,.slice a2 x.outs.length c2,.slice a3 x.after.length c3,.slice a4 x.steps.length c4] x/\∀w',Below w.heap.size w w'->
  w'.cell? ⟨b,o+k*5,none⟩=some (.string x.name)/\w'.cell? ⟨b,o+k*5+1,none⟩=some (.slice a1 x.ins.length c1)/\w'.cell? ⟨b,o+k*5+2,none⟩=some (.slice a2 x.outs.length c2)/\w'.cell? ⟨b,o+k*5+3,none⟩=some (.slice a3 x.after.length c3)/\w'.cell? ⟨b,o+k*5+4,none⟩=some (.slice a4 x.steps.length c4):=by
 obtain⟨a,c,rfl,h1,h2⟩:=Zbjn h;refine⟨a,c,rfl,h1,h2,λk x hx=>?_⟩;obtain⟨g,o,cap,a1,c1,a2,c2,a3,c3,a4,c4,e,_,hr,hc⟩:=Zbjm h hx;injection e with e1 _ _
 exact⟨g,o,a1,c1,a2,c2,a3,c3,a4,c4,e1,hr,hc⟩
set_option maxHeartbeats 2000000 in
theorem Zcct (v:Value) (xs:List RuleS) (s:ByteArray) (w:World) (h:RulesI w v xs):
  Calls prog 14 #[v,.string s] w λe w'=>Zat (xs.map (·.name)) s e/\w=w':=by
 obtain⟨a1,c1,rfl,_,hm1,hc1⟩:=Zcgz h;have hlm:xs.length<=maxLen:=by omega
 unfold maxLen at hlm;have HC1:=hid hc1;clear hc1 h
 go_enter func14,ntmps14
 go_wp2
 go_loopw [5] (λi wr=>∃k:Nat,k<=xs.length/\i = .int .i64 k/\(∀j<k,(xs.map (·.name))[j]? ≠some s)/\w=wr)
  (λi _=>xs.length-(intOf i).toNat)
 case atStart=>exact⟨0,Nat.zero_le _,rfl,λj hj=>absurd hj (by omega),rfl⟩
 case round=>
  obtain⟨k,hk,rfl,hno,rfl⟩:=hrel;have HNX:=hid (Below.refl w.heap.size w);have HNO:=hid hno;clear hno
  by_cases hlt:k<xs.length
  ·obtain⟨x,hx⟩:∃x,xs[k]? =some x:=⟨xs[k],List.getElem?_eq_getElem hlt⟩
   obtain⟨b1,o1,_,_,_,_,_,_,_,_,q1,_,hk1⟩:=HC1.out k x hx;subst q1;have HX:Hid ((xs.map (·.name))[k]? =some x.name):=by show(xs.map (·.name))[k]? =_;rw[List.getElem?_map,hx];rfl
   obtain⟨e1,_⟩:=hk1 _ HNX.out;obtain⟨n,hn⟩:∃n,x.name=n:=⟨_,rfl⟩;rw[hn]at e1 HX;have hi1:(k:Int)<(xs.length:Int):=by omega
   have hi0:(0:Int)<=(k:Int):=by omega
   obtain⟨q,hq⟩:∃q,(n.toList==s.toList)=q:=⟨_,rfl⟩;have HQ:=hid hq;clear hk1 hx hn
   cases q
   ·go_wp2
    all_goals go_roundw
    case rel=>exact⟨k+1,by omega,by go_num,λj hj=>by
     rcases Nat.lt_or_ge j k with h|h
     ·exact HNO.out j h
     ·obtain rfl:j=k:=by omega
      rw[HX.out];exact λe=>Zgz HQ.out (Option.some.inj e),trivial⟩
    case measure=>simp[intOf];omega
   ·go_wp2
    go_ret;exact⟨Zoh (by rw[HX.out,Zgx HQ.out]) HNO.out,rfl⟩
  ·have hi1:¬(k:Int)<(xs.length:Int):=by omega
   have HKL:Hid ((xs.map (·.name)).length<=k):=by show(xs.map (·.name)).length<=k;rw[List.length_map];omega
   go_wp2;go_ret;exact⟨Zog HKL.out HNO.out,rfl⟩
def BoolRow (w:World) (b n:Nat):Prop:=∃cur:Array Value,w.heap[b]? =some (.cells cur 4 (0,0))/\n<=cur.size/\∀k<n,∃x,cur[k]? =some (.bool x)
def Mat (B:Nat) (w:World) (g n i:Nat):Prop:=B<=g/\∃cur:Array Value,w.heap[g]? =some (.cells cur 40 (0,0))/\cur.size=n/\∀j<i,∃b c,cur[j]? =some (.slice (some ⟨b,0,none⟩) n c)/\n<=c/\c<=maxLen/\B<=b/\BoolRow w b n
theorem BoolRow.lt {w:World} {b n:Nat} (h:BoolRow w b n):b<w.heap.size:=by
 obtain⟨cur,h1,_⟩:=h;exact Zfy h1
theorem BoolRow.keep {w w':World} {b n:Nat} (h:BoolRow w b n) (hk:w'.heap[b]? =w.heap[b]?):BoolRow w' b n:=by
 obtain⟨cur,h1,h2⟩:=h;exact⟨cur,hk.trans h1,h2⟩
theorem BoolRow.set {w:World} {b n k:Nat} {x:Bool} (h:BoolRow w b n):BoolRow (w.setCell ⟨b,k,none⟩ (.bool x)) b n:=by
 obtain⟨cur,h1,h2,h3⟩:=h;refine⟨_,heap_set k (.bool x) h1,by simpa using h2,λj hj=>?_⟩;obtain⟨y,hy⟩:=h3 j hj;rw[Array.getElem?_setIfInBounds];split
 ·rename_i e
  subst e;rw[if_pos (by omega)];exact⟨x,rfl⟩
 ·exact⟨y,hy⟩
theorem BoolRow.cell {w:World} {b n k:Nat} (h:BoolRow w b n) (hk:k<n):∃x,w.cell? ⟨b,k,none⟩=some (.bool x)/\w.frozen? ⟨b,k,none⟩=false:=by
 obtain⟨cur,h1,h2,h3⟩:=h;obtain⟨x,hx⟩:=h3 k hk;exact⟨x,by simp[World.cell?,h1,hx],by simp[World.frozen?,h1]⟩
theorem Mat.lt {B:Nat} {w:World} {g n i:Nat} (h:Mat B w g n i):g<w.heap.size:=by
 obtain⟨_,cur,h1,_⟩:=h;exact Zfy h1
theorem Mat.keep {B:Nat} {w w':World} {g n i:Nat} (h:Mat B w g n i) (hk:∀k,k<w.heap.size->w'.heap[k]? =w.heap[k]?):Mat B w' g n i:=by
 have hg:=h.lt;obtain⟨h0,cur,h1,h2,h3⟩:=h;refine⟨h0,cur,(hk g hg).trans h1,h2,λj hj=>?_⟩;obtain⟨b,c,e,e1,e2,e3,e4⟩:=h3 j hj;exact⟨b,c,e,e1,e2,e3,e4.keep (hk b e4.lt)⟩
theorem Mat.below {B:Nat} {w w':World} {g n i:Nat} (h:Mat B w g n i) (hb:Below w.heap.size w w'):Mat B w' g n i:=h.keep λk hk=>hb.block k hk
theorem Mat.ne {B:Nat} {w:World} {g n i b m:Nat} (h:Mat B w g n i) (hb:BoolRow w b m):g≠b:=by
 rintro rfl;obtain⟨_,cur,h1,_⟩:=h;obtain⟨cur',h2,_⟩:=hb;rw[h1]at h2;injection h2 with h2
 injection h2 with _ h2 _
 exact absurd h2 (by decide)
theorem Mat.setRow {B:Nat} {w:World} {g n i b c:Nat} (h:Mat B w g n i) (hb:BoolRow w b n) (hB:B<=b) (hc:n<=c) (hm:c<=maxLen) (hi:i<n):Mat B (w.setCell ⟨g,i,none⟩ (.slice (some ⟨b,0,none⟩) n c)) g n (i+1):=by
 have hgb:∀b' m,BoolRow w b' m->b'≠g:=λb' m h'=>(h.ne h').symm
 obtain⟨h0,cur,h1,h2,h3⟩:=h;refine⟨h0,_,heap_set i _ h1,by simpa using h2,λj hj=>?_⟩;rw[Array.getElem?_setIfInBounds];split
 ·rename_i e
  subst e;rw[if_pos (by omega)];exact⟨b,c,rfl,hc,hm,hB,hb.keep (Below.heap_setCell _ _ _ _ (hgb _ _ hb))⟩
 ·rename_i e
  obtain⟨b',c',e0,e1,e2,e3,e4⟩:=h3 j (by omega);exact⟨b',c',e0,e1,e2,e3,e4.keep (Below.heap_setCell _ _ _ _ (hgb _ _ e4))⟩
theorem Mat.cell {B:Nat} {w:World} {g n i j:Nat} (h:Mat B w g n i) (hj:j<i):∃b c,w.cell? ⟨g,j,none⟩=some (.slice (some ⟨b,0,none⟩) n c)/\n<=c/\c<=maxLen/\B<=b/\BoolRow w b n:=by
 obtain⟨h0,cur,h1,h2,h3⟩:=h;obtain⟨b,c,e,e1⟩:=h3 j hj;exact⟨b,c,by simp[World.cell?,h1,e],e1⟩
theorem Mat.slot {B:Nat} {w:World} {g n i j:Nat} (h:Mat B w g n i) (hj:j<n):∃u,w.cell? ⟨g,j,none⟩=some u/\w.frozen? ⟨g,j,none⟩=false:=by
 obtain⟨h0,cur,h1,h2,h3⟩:=h;exact⟨cur[j]'(by omega),by simp[World.cell?,h1,h2,hj],by simp[World.frozen?,h1]⟩
theorem Mat.begin {B:Nat} {w:World} {cur:Array Value} {n:Nat} (hB:B<=w.heap.size) (hc:cur.size=n):Mat B (w.alloc (.cells cur 40)) w.heap.size n 0:=⟨hB,cur,alloc_at w _,hc,λj hj=>absurd hj (by omega)⟩
theorem Zcfa:(prog.info? 4).map (λi=>(i.zero,i.size,i.bytes))=some (some (.bool false),1,1):=by kernel_rfl
theorem Zcfb:(prog.info? 40).map (λi=>(i.zero,i.size,i.bytes))=some (some (.slice none 0 0),1,24):=by kernel_rfl
theorem Zcfl (n:Nat) (hn:n<=1000) (w:World):(Instr.makeSlice 40 (.int .i64 (n:Int)) (.int .i64 (n:Int))).run prog w = .ok (.slice (some ⟨w.heap.size,0,none⟩) n n) (w.alloc (.cells (madeCells #[.bool false] n) 4)):=by
 obtain⟨i0,hi,hz,hs,hb⟩:=Zsv Zcfa;have:=run_make (P:=prog) w 40 4 i0 (.bool false) underlying40 hi hz .i64 .i64 n n (by omega) (Int.le_refl _) (by rw[hb];omega) (by omega);rw[hs,show(Value.bool false).cells = #[.bool false]from rfl]at this;simpa using this
theorem Zcfn (n:Nat) (hn:n<=1000) (w:World):(Instr.makeSlice 38 (.int .i64 (n:Int)) (.int .i64 (n:Int))).run prog w = .ok (.slice (some ⟨w.heap.size,0,none⟩) n n) (w.alloc (.cells (madeCells #[.slice none 0 0] n) 40)):=by
 obtain⟨i0,hi,hz,hs,hb⟩:=Zsv Zcfb;have:=run_make (P:=prog) w 38 40 i0 (.slice none 0 0) underlying38 hi hz .i64 .i64 n n (by omega) (Int.le_refl _) (by rw[hb];omega) (by omega);rw[hs,show(Value.slice none 0 0).cells = #[.slice none 0 0]from rfl]at this;simpa using this
end Go.Proofs.YtcpjfpdecklkgaaGreatDoor
