import Derived.Test.YtmgcaldphpnfgaaGreatDoorMbk
import Derived.Test.YtmgcaldphpnfgaaGreatDoorMar
namespace Go.Proofs.YtmgcaldphpnfgaaGreatDoor
open Go.Lib (hid)
open Go.RowKit Go.Shelf
structure LawL (W5:World) (B:Nat) (x:RuleS) (vi vo vf vs:Value) (ys:List StepS) (wr:World):Prop where
 below:Below B W5 wr
 ins:StrsA (λb=>b<B) wr vi (cutQ x).ins
 outs:StrsA (λb=>b<B) wr vo (cutQ x).outs
 after:StrsA (λb=>b<B) wr vf (cutQ x).after
 steps:StepsA (λb=>b<B) wr vs ys
 canw:OpenV wr vs
set_option maxHeartbeats 8000000 in
set_option maxRecDepth 100000 in
theorem Zwx (x:RuleS) (vi vo vf vs:Value) (w:World) (h:RuleI w [.string x.name,vi,vo,vf,vs] x) (hf:SmallR x 1048576):
  Calls Tryz.prog 51 #[.agg #[.string x.name,vi,vo,vf,vs]] w λe w'=>Zbu w w' (cutR x) e/\Below w.heap.size w w':=by
 obtain⟨_,_,_,_,q,h1,h2,h3,h4⟩:=h
 cases q
 obtain⟨a1,c1,rfl,hle1,hmx1,_⟩:=id h1;obtain⟨a2,c2,rfl,hle2,hmx2,_⟩:=id h2;obtain⟨a3,c3,rfl,hle3,hmx3,_⟩:=id h3;obtain⟨rows,hrow,hall⟩:=id h4;obtain⟨a4,c4,rfl,hle4,hmx4,_⟩:=id hrow;obtain⟨ob,hob⟩:∃o:Obj,o = .cells #[.string x.name,.slice a1 x.ins.length c1,.slice a2 x.outs.length c2,.slice a3 x.after.length c3,.slice a4 rows.length c4] 25:=⟨_,rfl⟩;obtain⟨W1,hW1⟩:∃W1,(w.alloc ob).alloc (.cells #[.string ⟨#[]⟩,.slice none 0 0,.slice none 0 0,.slice none 0 0,.slice none 0 0] 25)=W1:=⟨_,rfl⟩;have hb1:Below w.heap.size w W1:=by rw[<-hW1];exact((Below.refl _ _).alloc (Nat.le_refl _) _).alloc (by simp) _
 have hs1:W1.heap.size=w.heap.size+2:=by rw[<-hW1];simp
 have hx1:W1.heap[w.heap.size]? =some ob:=by rw[<-hW1,Below.heap_alloc _ _ _ (by simp)];exact alloc_at w ob
 have hx2:W1.heap[w.heap.size+1]? =some (.cells #[.string ⟨#[]⟩,.slice none 0 0,.slice none 0 0,.slice none 0 0,.slice none 0 0] 25):=by
  rw[<-hW1];have:=alloc_at (w.alloc ob) (.cells #[.string ⟨#[]⟩,.slice none 0 0,.slice none 0 0,.slice none 0 0,.slice none 0 0] 25);simpa using this
 subst hob;have hcell:∀w',Below W1.heap.size W1 w'->_:=λw' (hb:Below W1.heap.size W1 w')=>cells5 ((hb.block w.heap.size (by omega)).trans hx1)
 have hc0:=λw' hb=>(hcell w' hb).1
 have hc1:=λw' hb=>(hcell w' hb).2.1
 have hc2:=λw' hb=>(hcell w' hb).2.2.1
 have hc3:=λw' hb=>(hcell w' hb).2.2.2.1
 have hc4:=λw' hb=>(hcell w' hb).2.2.2.2.1
 have HC4:=hid hc4;have HS0:Hid (Below W1.heap.size W1 W1.drew):=by show Below _ _ _;exact(Below.refl _ _).drew
 have HU:Hid (∀w' o,Below W1.heap.size W1 w'->Below W1.heap.size W1 (w'.alloc o)):=by show ∀w' o,_;exact λw' o h=>h.alloc h.size o
 have HUD:Hid (∀o,Below W1.heap.size W1 (W1.alloc o).drew):=by show ∀o,_;exact λo=>((Below.refl _ _).alloc (Nat.le_refl _) o).drew
 have HB1:=hid hb1;have H1:Hid (∀w',Below W1.heap.size W1 w'->IsStrs w' (.slice a1 x.ins.length c1) x.ins):=by show ∀w',_;exact λw' hb=>h1.below (hb1.trans (hb.mono hb1.size))
 have H2:Hid (∀w',Below W1.heap.size W1 w'->IsStrs w' (.slice a2 x.outs.length c2) x.outs):=by show ∀w',_;exact λw' hb=>h2.below (hb1.trans (hb.mono hb1.size))
 have H3:Hid (∀w',Below W1.heap.size W1 w'->IsStrs w' (.slice a3 x.after.length c3) x.after):=by show ∀w',_;exact λw' hb=>h3.below (hb1.trans (hb.mono hb1.size))
 have H4:=hid h4;have HX2:=hid hx2;have HW1:=hid hW1;have N1:=hid hf.ins.1;have N2:=hid hf.outs.1;have N3:=hid hf.after.1;have HFS:=hid hf;have HS1:=hid hs1;clear hcell h1 h2 h3 h4 hb1 hs1 hx1 hx2 hc4 hf hrow hW1;have e1:=take_len x.ins.length 10 10 rfl;have e2:=take_len x.outs.length 6 6 rfl;have e3:=take_len x.after.length 10 10 rfl;have e4:=take_len rows.length 14 14 rfl;have k1:(0:Int)<=min (x.ins.length:Int) 10:=by omega
 have k2:(0:Int)<=min (x.outs.length:Int) 6:=by omega
 have k3:(0:Int)<=min (x.after.length:Int) 10:=by omega
 have k4:(0:Int)<=min (rows.length:Int) 14:=by omega
 have m1:min (x.ins.length:Int) 10<=(c1:Int):=by omega
 have m2:min (x.outs.length:Int) 6<=(c2:Int):=by omega
 have m3:min (x.after.length:Int) 10<=(c3:Int):=by omega
 have m4:min (rows.length:Int) 14<=(c4:Int):=by omega
 have hc4:=HC4.out;unfold maxLen at hmx1 hmx2 hmx3 hmx4
 go_enter Tryz.func51,Tryz.ntmps51
 go_upto_region 1 with fail
 rw[HW1.out];refine wp_region_held_drew (S:=λw'=>Below W1.heap.size W1 w') (by kernel_rfl) ?_ (λhHeld=>?_)
 ·exact HS0.out
 refine tkH 0 (v:=?_) ?_ ?_;rotate_left
 ·intro w hSw;go_simp;try with_reducible rfl
 try simp only[Act.put,List.setIfInBounds_toArray,List.set_cons_zero,List.set_cons_succ]
 refine tkH 1 (v:=?_) ?_ ?_;rotate_left
 ·intro w hSw;go_simp;try with_reducible rfl
 try simp only[Act.put,List.setIfInBounds_toArray,List.set_cons_zero,List.set_cons_succ]
 refine tkH 2 (v:=?_) ?_ ?_;rotate_left
 ·intro w hSw;go_simp;try with_reducible rfl
 try simp only[Act.put,List.setIfInBounds_toArray,List.set_cons_zero,List.set_cons_succ]
 refine tkH 3 (v:=?_) ?_ ?_;rotate_left
 ·intro w hSw;go_simp;try with_reducible rfl
 try simp only[Act.put,List.setIfInBounds_toArray,List.set_cons_zero,List.set_cons_succ]
 refine tkH 4 (v:=?_) ?_ ?_;rotate_left
 ·intro w hSw;go_simp;try with_reducible rfl
 try simp only[Act.put,List.setIfInBounds_toArray,List.set_cons_zero,List.set_cons_succ]
 refine tkH 5 (v:=?_) ?_ ?_;rotate_left
 ·intro w hSw;go_simp;try with_reducible rfl
 try simp only[Act.put,List.setIfInBounds_toArray,List.set_cons_zero,List.set_cons_succ]
 refine tkH 6 (v:=?_) ?_ ?_;rotate_left
 ·intro w hSw;go_simp;try with_reducible rfl
 try simp only[Act.put,List.setIfInBounds_toArray,List.set_cons_zero,List.set_cons_succ]
 refine tkH 7 (v:=?_) ?_ ?_;rotate_left
 ·intro w hSw;go_simp;try with_reducible rfl
 try simp only[Act.put,List.setIfInBounds_toArray,List.set_cons_zero,List.set_cons_succ]
 refine tkH 8 (v:=?_) ?_ ?_;rotate_left
 ·intro w hSw;go_simp;try with_reducible rfl
 try simp only[Act.put,List.setIfInBounds_toArray,List.set_cons_zero,List.set_cons_succ]
 refine tkH 9 (v:=?_) ?_ ?_;rotate_left
 ·intro w hSw;go_simp;try with_reducible rfl
 try simp only[Act.put,List.setIfInBounds_toArray,List.set_cons_zero,List.set_cons_succ]
 refine tkH 10 (v:=?_) ?_ ?_;rotate_left
 ·intro w hSw;go_simp;try with_reducible rfl
 try simp only[Act.put,List.setIfInBounds_toArray,List.set_cons_zero,List.set_cons_succ]
 refine tkH 11 (v:=?_) ?_ ?_;rotate_left
 ·intro w hSw;go_simp;try with_reducible rfl
 try simp only[Act.put,List.setIfInBounds_toArray,List.set_cons_zero,List.set_cons_succ]
 refine tkH 12 (v:=?_) ?_ ?_;rotate_left
 ·intro w hSw;go_simp;try with_reducible rfl
 try simp only[Act.put,List.setIfInBounds_toArray,List.set_cons_zero,List.set_cons_succ]
 refine tkH 13 (v:=?_) ?_ ?_;rotate_left
 ·intro w hSw;go_simp;try with_reducible rfl
 try simp only[Act.put,List.setIfInBounds_toArray,List.set_cons_zero,List.set_cons_succ]
 refine tkH 14 (v:=?_) ?_ ?_;rotate_left
 ·intro w hSw;go_simp;try with_reducible rfl
 try simp only[Act.put,List.setIfInBounds_toArray,List.set_cons_zero,List.set_cons_succ]
 refine tkH 15 (v:=?_) ?_ ?_;rotate_left
 ·intro w hSw;go_simp;try with_reducible rfl
 try simp only[Act.put,List.setIfInBounds_toArray,List.set_cons_zero,List.set_cons_succ]
 refine tkH 16 (v:=?_) ?_ ?_;rotate_left
 ·intro w hSw;go_simp;try with_reducible rfl
 try simp only[Act.put,List.setIfInBounds_toArray,List.set_cons_zero,List.set_cons_succ]
 refine tkH 17 (v:=?_) ?_ ?_;rotate_left
 ·intro w hSw;go_simp;try with_reducible rfl
 try simp only[Act.put,List.setIfInBounds_toArray,List.set_cons_zero,List.set_cons_succ]
 refine tkH 18 (v:=?_) ?_ ?_;rotate_left
 ·intro w hSw;go_simp;try with_reducible rfl
 try simp only[Act.put,List.setIfInBounds_toArray,List.set_cons_zero,List.set_cons_succ]
 refine tkH 19 (v:=?_) ?_ ?_;rotate_left
 ·intro w hSw;go_simp;try with_reducible rfl
 try simp only[Act.put,List.setIfInBounds_toArray,List.set_cons_zero,List.set_cons_succ]
 refine tkH 20 (v:=?_) ?_ ?_;rotate_left
 ·intro w hSw;go_simp;try with_reducible rfl
 try simp only[Act.put,List.setIfInBounds_toArray,List.set_cons_zero,List.set_cons_succ]
 refine tkH 21 (v:=?_) ?_ ?_;rotate_left
 ·intro w hSw;go_simp;try with_reducible rfl
 try simp only[Act.put,List.setIfInBounds_toArray,List.set_cons_zero,List.set_cons_succ]
 refine tkH 22 (v:=?_) ?_ ?_;rotate_left
 ·intro w hSw;go_simp;try with_reducible rfl
 try simp only[Act.put,List.setIfInBounds_toArray,List.set_cons_zero,List.set_cons_succ]
 refine tkH 23 (v:=?_) ?_ ?_;rotate_left
 ·intro w hSw;go_simp;try with_reducible rfl
 try simp only[Act.put,List.setIfInBounds_toArray,List.set_cons_zero,List.set_cons_succ]
 refine tkH 24 (v:=?_) ?_ ?_;rotate_left
 ·intro w hSw;go_simp;try with_reducible rfl
 try simp only[Act.put,List.setIfInBounds_toArray,List.set_cons_zero,List.set_cons_succ]
 refine tkH 25 (v:=?_) ?_ ?_;rotate_left
 ·intro w hSw;go_simp;try with_reducible rfl
 try simp only[Act.put,List.setIfInBounds_toArray,List.set_cons_zero,List.set_cons_succ]
 refine tkH 26 (v:=?_) ?_ ?_;rotate_left
 ·intro w hSw;go_simp;try with_reducible rfl
 try simp only[Act.put,List.setIfInBounds_toArray,List.set_cons_zero,List.set_cons_succ]
 refine tkH 27 (v:=?_) ?_ ?_;rotate_left
 ·intro w hSw;go_simp;try with_reducible rfl
 try simp only[Act.put,List.setIfInBounds_toArray,List.set_cons_zero,List.set_cons_succ]
 refine tkH 28 (v:=?_) ?_ ?_;rotate_left
 ·intro w hSw;go_simp;try with_reducible rfl
 try simp only[Act.put,List.setIfInBounds_toArray,List.set_cons_zero,List.set_cons_succ]
 refine tkH 29 (v:=?_) ?_ ?_;rotate_left
 ·intro w hSw;go_simp;try with_reducible rfl
 try simp only[Act.put,List.setIfInBounds_toArray,List.set_cons_zero,List.set_cons_succ]
 refine tkH 30 (v:=?_) ?_ ?_;rotate_left
 ·intro w hSw;go_simp;try with_reducible rfl
 try simp only[Act.put,List.setIfInBounds_toArray,List.set_cons_zero,List.set_cons_succ]
 refine wpAnyH_ready (rs:=[31]) (by kernel_rfl) (by simp) ?_;refine AllReadyH.cons (o:=_) (by simp only[List.getElem?_toArray,List.getElem?_cons_succ,List.getElem?_cons_zero];rfl) (λK hK=>?_) ?_
 ·go_simp
  refine hK.out _ _ ?_ (λhHeld=>?_)
  ·try dsimp only
   first|exact HU.out _ _ (by assumption)
  clear hK K
  try simp only[Act.put,List.setIfInBounds_toArray,List.set_cons_zero,List.set_cons_succ]
  refine wpAnyH_ready (rs:=[32]) (by kernel_rfl) (by simp) ?_;refine AllReadyH.cons (o:=_) (by simp only[List.getElem?_toArray,List.getElem?_cons_succ,List.getElem?_cons_zero];rfl) (λK hK=>?_) ?_
  ·go_simp
   refine hK.out _ _ ?_ (λhHeld=>?_)
   ·try dsimp only
    exact HUD.out _
   clear hK K
   try simp only[Act.put,List.setIfInBounds_toArray,List.set_cons_zero,List.set_cons_succ]
   refine wpAnyH_done (by kernel_rfl) ?_ _;have hx3:((W1.alloc (.cells #[.string x.name,.slice a1 (min 10 x.ins.length) c1,.slice a2 (min 6 x.outs.length) c2,.slice a3 (min 10 x.after.length) c3,.slice a4 (min 14 rows.length) c4] 25)).drew).heap[W1.heap.size]? =some (.cells #[.string x.name,.slice a1 (min 10 x.ins.length) c1,.slice a2 (min 6 x.outs.length) c2,.slice a3 (min 10 x.after.length) c3,.slice a4 (min 14 rows.length) c4] 25):=alloc_at W1 _;obtain⟨W3,hW3⟩:∃V,(W1.alloc (.cells #[.string x.name,.slice a1 (min 10 x.ins.length) c1,.slice a2 (min 6 x.outs.length) c2,.slice a3 (min 10 x.after.length) c3,.slice a4 (min 14 rows.length) c4] 25)).drew=V:=⟨_,rfl⟩;rw[hW3]at hx3 hHeld⊢;have hs3:W1.heap.size<W3.heap.size:=by rw[<-hW3];simp only[Zlx,Zdj];omega
   have HH3:=hid hHeld;have HX3:=hid hx3;have HS3:=hid hs3;obtain⟨y0,y1,y2,y3,y4,fz0,fz1,fz2,fz3,fz4⟩:=cells5 hx3;have hrl:rows.length=x.steps.length:=hall.1;have hRI:RuleI W3 [.string (cutQ x).name,.slice a1 (min 10 x.ins.length) c1,.slice a2 (min 6 x.outs.length) c2,.slice a3 (min 10 x.after.length) c3,.slice a4 (min 14 rows.length) c4] (cutQ x):=by
    refine⟨_,_,_,_,rfl,Zuf (H1.out _ hHeld) 10,Zuf (H2.out _ hHeld) 6,Zuf (H3.out _ hHeld) 10,?_⟩;exact Zbow (StepsI.below H4.out (HB1.out.trans (hHeld.mono HB1.out.size))) 14
   have hQ:SmallR (cutQ x) 1048576:=by
    have hf:=HFS.out;have tk:∀ {l:List ByteArray} (m:Nat),SmallL l 1048576->SmallL (l.take m) 1048576:=λm h=>⟨by rw[List.length_take];have:=h.1;omega,λz hz=>h.2 z (List.mem_of_mem_take hz)⟩
    exact⟨hf.name,tk 10 hf.ins,tk 6 hf.outs,tk 10 hf.after,by show(x.steps.take 14).length<=_;rw[List.length_take];have:=hf.few;omega,λy hy=>hf.steps y (List.mem_of_mem_take hy)⟩
   have hCP:=Zkp (cutQ x) _ _ _ _ W3 hRI hQ;have CPY:Hid (Calls Tryz.prog 19 #[.agg #[.string x.name,.slice a1 (min 10 x.ins.length) c1,.slice a2 (min 6 x.outs.length) c2,.slice a3 (min 10 x.after.length) c3,.slice a4 (min 14 rows.length) c4]] W3 λe w'=>RuleO W3 w' (cutQ x) e/\Below W3.heap.size W3 w'):=hCP;clear hCP hRI hQ hHeld hW3 hx3 hs3 hc0 hc1 hc2 hc3 hc4 e1 e2 e3 e4 k1 k2 k3 k4 m1 m2 m3 m4 hall hrl
   go_wp2_with fail
   refine CPY.out.mono ?_;rintro e w4 ⟨hRE,hb4⟩;obtain⟨vi,vo,vf,vs,he,⟨hvi,_⟩,⟨hvo,_⟩,⟨hvf,_⟩,hvs,hop⟩:=hRE;obtain⟨i1,i2,i3,q⟩:=Zbig hvi;subst q;obtain⟨j1,j2,j3,q⟩:=Zbig hvo;subst q;obtain⟨l1,l2,l3,q⟩:=Zbig hvf;subst q;obtain⟨s1,s3,q,hsn,hsm⟩:=Zboi hvs;subst q;obtain⟨ys,hys⟩:∃ys,(cutQ x).steps=ys:=⟨_,rfl⟩;rw[hys]at hvs hsn hop;have he2:e = .returned (.agg #[.string x.name,.slice i1 i2 i3,.slice j1 j2 j3,.slice l1 l2 l3,.slice s1 ys.length s3]):=by rw[he,hys];rfl
   clear he;subst he2;have HYS:=hid hys;have hx4:=(hb4.block _ HS3.out).trans HX3.out;have hz5:=Zrs hx4 (.string x.name) (.slice i1 i2 i3) (.slice j1 j2 j3) (.slice l1 l2 l3) (.slice s1 ys.length s3);obtain⟨x0,x1,x2,x3,x4,v0,v1,v2,v3,v4⟩:=cells5 hx4;obtain⟨W5,hW5⟩:∃V,((((w4.setCell ⟨W1.heap.size,0,none⟩ (.string x.name)).setCell ⟨W1.heap.size,1,none⟩ (.slice i1 i2 i3)).setCell ⟨W1.heap.size,2,none⟩ (.slice j1 j2 j3)).setCell ⟨W1.heap.size,3,none⟩ (.slice l1 l2 l3)).setCell ⟨W1.heap.size,4,none⟩ (.slice s1 ys.length s3)=V:=⟨_,rfl⟩;rw[hW5]at hz5;have hfr:Fr (λb=>b<W3.heap.size) w4 W5:=by
    rw[<-hW5];exact Zpz (Av:=λb=>b<W3.heap.size) (w:=w4) HS3.out (.string x.name) (.slice i1 i2 i3) (.slice j1 j2 j3) (.slice l1 l2 l3) (.slice s1 ys.length s3)
   have hb04:=(HB1.out.trans (HH3.out.mono HB1.out.size)).trans (hb4.mono (HB1.out.trans (HH3.out.mono HB1.out.size)).size);have hb5:Below w.heap.size w W5:=by
    rw[<-hW5];exact Zfn hb04 HB1.out.size _ _ _ _ _
   have hout5:W5.heap[w.heap.size+1]? =some (.cells #[.string ⟨#[]⟩,.slice none 0 0,.slice none 0 0,.slice none 0 0,.slice none 0 0] 25):=by
    have h1:=HS1.out;have h2:=((hb4.block _ (by have:=HS3.out;omega)).trans (HH3.out.block _ (by omega))).trans HX2.out;rw[<-hW5];refine Eq.trans ?_ h2;have hne:w.heap.size+1≠W1.heap.size:=by omega
    exact((((Below.heap_setCell _ _ _ _ hne).trans (Below.heap_setCell _ _ _ _ hne)).trans (Below.heap_setCell _ _ _ _ hne)).trans (Below.heap_setCell _ _ _ _ hne)).trans (Below.heap_setCell _ _ _ _ hne)
   have HW5:=hid hW5;have h0:LawL W5 W3.heap.size x (.slice i1 i2 i3) (.slice j1 j2 j3) (.slice l1 l2 l3) (.slice s1 ys.length s3) ys W5:=
    ⟨Below.refl _ _,RowA.keep hvi hfr,RowA.keep hvo hfr,RowA.keep hvf hfr,StepsA.keep hvs hfr,hop.keep (Zbog hvs) hfr⟩
   have H0:=hid h0;have HB3:Hid (W1.heap.size<W3.heap.size/\w.heap.size+2=W1.heap.size):=by show _/\_;exact⟨HS3.out,by have:=HS1.out;omega⟩
   have HZ5:=hid hz5;have HO5:=hid hout5;have HB5:=hid hb5;have HS45:=hid (show W3.heap.size<=W5.heap.size from Nat.le_trans hb4.size hfr.size);have hyl:ys.length<=1048576:=by rw[<-hys];show(x.steps.take 14).length<=_;rw[List.length_take];have:=HFS.out.few;omega
   have HSZ:=HB1.out.size;unfold maxLen at hsm;clear hW5 hb4 hvi hvo hvf hvs hop hx4 hz5 hfr hb5 h0 hys hb04 hout5 y0 y1 y2 y3 y4 fz0 fz1 fz2 fz3 fz4
   go_wp2_with fail
   rw[HW5.out];clear x0 x1 x2 x3 x4 v0 v1 v2 v3 v4;have hrec:∀wr,Below W3.heap.size W5 wr->_:=λwr hb=>cells5 ((hb.block W1.heap.size HS3.out).trans HZ5.out)
   have HREC:=hid hrec;obtain⟨y0,y1,y2,y3,y4,fz0,fz1,fz2,fz3,fz4⟩:=hrec _ (Below.refl _ _);clear hrec
   go_wp2_with fail
   go_loopw [41] (λi wr=>∃k:Nat,k<=ys.length/\i = .int .i64 (k:Int)/\LawL W5 W3.heap.size x (.slice i1 i2 i3) (.slice j1 j2 j3) (.slice l1 l2 l3) (.slice s1 ys.length s3) (mixS k ys) wr) (λi _=>ys.length-(intOf i).toNat)
   case atStart=>exact⟨0,Nat.zero_le _,rfl,H0.out⟩
   case round=>
    clear y0 y1 y2 y3 y4 fz0 fz1 fz2 fz3 fz4;obtain⟨k,hk,rfl,hL⟩:=hrel;have HL:=hid hL;obtain⟨y0,y1,y2,y3,y4,fz0,fz1,fz2,fz3,fz4⟩:=HREC.out _ hL.below
    by_cases hlt:k<ys.length
    ·obtain⟨y,hy⟩:∃y,ys[k]? =some y:=⟨ys[k],List.getElem?_eq_getElem hlt⟩
     have hfz:=hL.canw;obtain⟨b0,o,p1,c5,q1,d1,hs,hqn,hnb,hbl,g1,g2,g3,g4,g5,g6,z2,z3⟩:=Zbof hL.steps (Zzf hy);have HY:=hid hy;have HZ2:=hid z2;have HZ3:=hid z3;have HNB:=hid hnb;have hnx:=Zbok (by rw[hs]at hL;exact hL.steps) (Zzf hy) z2 z3 8 3;have HNX:=hid hnx;have HNE:Hid (b0≠W1.heap.size):=by show _≠_;have:=HS3.out;intro e;exact hnb (by omega)
     subst hs;have hz2:=hfz _ rfl (o+k*5+2);have hz3:=hfz _ rfl (o+k*5+3);clear hfz;have hi1:(k:Int)<(ys.length:Int):=by omega
     have hi0:(0:Int)<=(k:Int):=by omega
     have e1:=take_len y.args.length 8 8 rfl;have e2:=take_len y.lits.length 3 3 rfl;have k1:(0:Int)<=min (y.args.length:Int) 8:=by omega
     have k2:(0:Int)<=min (y.lits.length:Int) 3:=by omega
     have m1:min (y.args.length:Int) 8<=(c5:Int):=by omega
     have m2:min (y.lits.length:Int) 3<=(d1:Int):=by omega
     have zd2:(wr.drew).cell? ⟨b0,o+k*5+2,none⟩=some (.slice p1 y.args.length c5):=z2;have zd3:(wr.drew).cell? ⟨b0,o+k*5+3,none⟩=some (.slice q1 y.lits.length d1):=z3;have yd4:(wr.drew).cell? ⟨W1.heap.size,4,none⟩=some (.slice (some ⟨b0,o,none⟩) ys.length s3):=y4;unfold maxLen at g2 g4 g6;clear hL hy hnx hnb hqn
     go_wp2_with fail
     refine Zbuk (S:=λb w'=>(b=false->w'=wr.drew)/\w'.cell? ⟨W1.heap.size,4,none⟩=some (.slice (some ⟨b0,o,none⟩) ys.length s3)) (st:=38) (by kernel_rfl) ?_ (λhHeld=>?_)
     ·exact⟨λ_=>rfl,y4⟩
     refine Zbty (i:=0) (oi:=_) (v:=?_) (by simp only[List.getElem?_toArray,List.getElem?_cons_zero];rfl) (by kernel_rfl) (by kernel_rfl) (f:=20) (by kernel_rfl) (by kernel_rfl) (by kernel_rfl) (by kernel_rfl) (by exact λ_ _ _ h=>h) (by kernel_rfl) (Or.inl ⟨by rfl,?_⟩) (by assumption) ?_;rotate_left
     ·intro w hSw;obtain⟨hw1,_⟩:=hSw;obtain rfl:=hw1 rfl;clear hw1;go_simp;try with_reducible rfl
     try simp only[Act.put,List.setIfInBounds_toArray,List.set_cons_zero,List.set_cons_succ]
     refine Zbty (i:=1) (oi:=_) (v:=?_) (by simp only[List.getElem?_toArray,List.getElem?_cons_succ,List.getElem?_cons_zero];rfl) (by kernel_rfl) (by kernel_rfl) (f:=20) (by kernel_rfl) (by kernel_rfl) (by kernel_rfl) (by kernel_rfl) (by exact λ_ _ _ h=>h) (by kernel_rfl) (Or.inl ⟨by rfl,?_⟩) (by assumption) ?_;rotate_left
     ·intro w hSw;obtain⟨hw1,_⟩:=hSw;obtain rfl:=hw1 rfl;clear hw1;go_simp;try with_reducible rfl
     try simp only[Act.put,List.setIfInBounds_toArray,List.set_cons_zero,List.set_cons_succ]
     refine Zbty (i:=2) (oi:=_) (v:=?_) (by simp only[List.getElem?_toArray,List.getElem?_cons_succ,List.getElem?_cons_zero];rfl) (by kernel_rfl) (by kernel_rfl) (f:=20) (by kernel_rfl) (by kernel_rfl) (by kernel_rfl) (by kernel_rfl) (by exact λ_ _ _ h=>h) (by kernel_rfl) (Or.inl ⟨by rfl,?_⟩) (by assumption) ?_;rotate_left
     ·intro w hSw;obtain⟨hw1,_⟩:=hSw;obtain rfl:=hw1 rfl;clear hw1;go_simp;try with_reducible rfl
     try simp only[Act.put,List.setIfInBounds_toArray,List.set_cons_zero,List.set_cons_succ]
     refine Zbtz (i:=3) (oi:=_) (v:=?_) (by simp only[List.getElem?_toArray,List.getElem?_cons_succ,List.getElem?_cons_zero];rfl) (by kernel_rfl) (by kernel_rfl) (by kernel_rfl) (by kernel_rfl) (by exact λ_ _ _ h=>h) (by kernel_rfl) (Or.inl ⟨by rfl,?_⟩) (by assumption) ?_;rotate_left
     ·intro w hSw;obtain⟨_,_,hw2⟩:=hSw;go_simp;try with_reducible rfl
     try simp only[Act.put,List.setIfInBounds_toArray,List.set_cons_zero,List.set_cons_succ]
     refine Zbtz (i:=4) (oi:=_) (v:=?_) (by simp only[List.getElem?_toArray,List.getElem?_cons_succ,List.getElem?_cons_zero];rfl) (by kernel_rfl) (by kernel_rfl) (by kernel_rfl) (by kernel_rfl) (by exact λ_ _ _ h=>h) (by kernel_rfl) (Or.inl ⟨by rfl,?_⟩) (by assumption) ?_;rotate_left
     ·intro w hSw;obtain⟨_,_,hw2⟩:=hSw;go_simp;try with_reducible rfl
     try simp only[Act.put,List.setIfInBounds_toArray,List.set_cons_zero,List.set_cons_succ]
     refine Zbtz (i:=5) (oi:=_) (v:=?_) (by simp only[List.getElem?_toArray,List.getElem?_cons_succ,List.getElem?_cons_zero];rfl) (by kernel_rfl) (by kernel_rfl) (by kernel_rfl) (by kernel_rfl) (by exact λ_ _ _ h=>h) (by kernel_rfl) (Or.inl ⟨by rfl,?_⟩) (by assumption) ?_;rotate_left
     ·intro w hSw;obtain⟨_,_,hw2⟩:=hSw;go_simp;try with_reducible rfl
     try simp only[Act.put,List.setIfInBounds_toArray,List.set_cons_zero,List.set_cons_succ]
     refine Zbty (i:=6) (oi:=_) (v:=?_) (by simp only[List.getElem?_toArray,List.getElem?_cons_succ,List.getElem?_cons_zero];rfl) (by kernel_rfl) (by kernel_rfl) (f:=20) (by kernel_rfl) (by kernel_rfl) (by kernel_rfl) (by kernel_rfl) (by exact λ_ _ _ h=>h) (by kernel_rfl) (Or.inl ⟨by rfl,?_⟩) (by assumption) ?_;rotate_left
     ·intro w hSw;obtain⟨hw1,_⟩:=hSw;obtain rfl:=hw1 rfl;clear hw1;go_simp;try with_reducible rfl
     try simp only[Act.put,List.setIfInBounds_toArray,List.set_cons_zero,List.set_cons_succ]
     refine Zbty (i:=7) (oi:=_) (v:=?_) (by simp only[List.getElem?_toArray,List.getElem?_cons_succ,List.getElem?_cons_zero];rfl) (by kernel_rfl) (by kernel_rfl) (f:=20) (by kernel_rfl) (by kernel_rfl) (by kernel_rfl) (by kernel_rfl) (by exact λ_ _ _ h=>h) (by kernel_rfl) (Or.inl ⟨by rfl,?_⟩) (by assumption) ?_;rotate_left
     ·intro w hSw;obtain⟨hw1,_⟩:=hSw;obtain rfl:=hw1 rfl;clear hw1;go_simp;try with_reducible rfl
     try simp only[Act.put,List.setIfInBounds_toArray,List.set_cons_zero,List.set_cons_succ]
     refine Zbty (i:=8) (oi:=_) (v:=?_) (by simp only[List.getElem?_toArray,List.getElem?_cons_succ,List.getElem?_cons_zero];rfl) (by kernel_rfl) (by kernel_rfl) (f:=20) (by kernel_rfl) (by kernel_rfl) (by kernel_rfl) (by kernel_rfl) (by exact λ_ _ _ h=>h) (by kernel_rfl) (Or.inl ⟨by rfl,?_⟩) (by assumption) ?_;rotate_left
     ·intro w hSw;obtain⟨hw1,_⟩:=hSw;obtain rfl:=hw1 rfl;clear hw1;go_simp;try with_reducible rfl
     try simp only[Act.put,List.setIfInBounds_toArray,List.set_cons_zero,List.set_cons_succ]
     refine Zbty (i:=9) (oi:=_) (v:=?_) (by simp only[List.getElem?_toArray,List.getElem?_cons_succ,List.getElem?_cons_zero];rfl) (by kernel_rfl) (by kernel_rfl) (f:=20) (by kernel_rfl) (by kernel_rfl) (by kernel_rfl) (by kernel_rfl) (by exact λ_ _ _ h=>h) (by kernel_rfl) (Or.inl ⟨by rfl,?_⟩) (by assumption) ?_;rotate_left
     ·intro w hSw;obtain⟨hw1,_⟩:=hSw;obtain rfl:=hw1 rfl;clear hw1;go_simp;try with_reducible rfl
     try simp only[Act.put,List.setIfInBounds_toArray,List.set_cons_zero,List.set_cons_succ]
     refine Zbty (i:=10) (oi:=_) (v:=?_) (by simp only[List.getElem?_toArray,List.getElem?_cons_succ,List.getElem?_cons_zero];rfl) (by kernel_rfl) (by kernel_rfl) (f:=20) (by kernel_rfl) (by kernel_rfl) (by kernel_rfl) (by kernel_rfl) (by exact λ_ _ _ h=>h) (by kernel_rfl) (Or.inl ⟨by rfl,?_⟩) (by assumption) ?_;rotate_left
     ·intro w hSw;obtain⟨hw1,_⟩:=hSw;obtain rfl:=hw1 rfl;clear hw1;go_simp;try with_reducible rfl
     try simp only[Act.put,List.setIfInBounds_toArray,List.set_cons_zero,List.set_cons_succ]
     refine Zbty (i:=11) (oi:=_) (v:=?_) (by simp only[List.getElem?_toArray,List.getElem?_cons_succ,List.getElem?_cons_zero];rfl) (by kernel_rfl) (by kernel_rfl) (f:=20) (by kernel_rfl) (by kernel_rfl) (by kernel_rfl) (by kernel_rfl) (by exact λ_ _ _ h=>h) (by kernel_rfl) (Or.inl ⟨by rfl,?_⟩) (by assumption) ?_;rotate_left
     ·intro w hSw;obtain⟨hw1,_⟩:=hSw;obtain rfl:=hw1 rfl;clear hw1;go_simp;try with_reducible rfl
     try simp only[Act.put,List.setIfInBounds_toArray,List.set_cons_zero,List.set_cons_succ]
     refine Zbty (i:=12) (oi:=_) (v:=?_) (by simp only[List.getElem?_toArray,List.getElem?_cons_succ,List.getElem?_cons_zero];rfl) (by kernel_rfl) (by kernel_rfl) (f:=20) (by kernel_rfl) (by kernel_rfl) (by kernel_rfl) (by kernel_rfl) (by exact λ_ _ _ h=>h) (by kernel_rfl) (Or.inl ⟨by rfl,?_⟩) (by assumption) ?_;rotate_left
     ·intro w hSw;obtain⟨hw1,_⟩:=hSw;obtain rfl:=hw1 rfl;clear hw1;go_simp;try with_reducible rfl
     try simp only[Act.put,List.setIfInBounds_toArray,List.set_cons_zero,List.set_cons_succ]
     refine Zbty (i:=13) (oi:=_) (v:=?_) (by simp only[List.getElem?_toArray,List.getElem?_cons_succ,List.getElem?_cons_zero];rfl) (by kernel_rfl) (by kernel_rfl) (f:=20) (by kernel_rfl) (by kernel_rfl) (by kernel_rfl) (by kernel_rfl) (by exact λ_ _ _ h=>h) (by kernel_rfl) (Or.inl ⟨by rfl,?_⟩) (by assumption) ?_;rotate_left
     ·intro w hSw;obtain⟨hw1,_⟩:=hSw;obtain rfl:=hw1 rfl;clear hw1;go_simp;try with_reducible rfl
     try simp only[Act.put,List.setIfInBounds_toArray,List.set_cons_zero,List.set_cons_succ]
     refine Zbty (i:=14) (oi:=_) (v:=?_) (by simp only[List.getElem?_toArray,List.getElem?_cons_succ,List.getElem?_cons_zero];rfl) (by kernel_rfl) (by kernel_rfl) (f:=20) (by kernel_rfl) (by kernel_rfl) (by kernel_rfl) (by kernel_rfl) (by exact λ_ _ _ h=>h) (by kernel_rfl) (Or.inl ⟨by rfl,?_⟩) (by assumption) ?_;rotate_left
     ·intro w hSw;obtain⟨hw1,_⟩:=hSw;obtain rfl:=hw1 rfl;clear hw1;go_simp;try with_reducible rfl
     try simp only[Act.put,List.setIfInBounds_toArray,List.set_cons_zero,List.set_cons_succ]
     refine Zbty (i:=15) (oi:=_) (v:=?_) (by simp only[List.getElem?_toArray,List.getElem?_cons_succ,List.getElem?_cons_zero];rfl) (by kernel_rfl) (by kernel_rfl) (f:=20) (by kernel_rfl) (by kernel_rfl) (by kernel_rfl) (by kernel_rfl) (by exact λ_ _ _ h=>h) (by kernel_rfl) (Or.inl ⟨by rfl,?_⟩) (by assumption) ?_;rotate_left
     ·intro w hSw;obtain⟨hw1,_⟩:=hSw;obtain rfl:=hw1 rfl;clear hw1;go_simp;try with_reducible rfl
     try simp only[Act.put,List.setIfInBounds_toArray,List.set_cons_zero,List.set_cons_succ]
     refine Zbty (i:=16) (oi:=_) (v:=?_) (by simp only[List.getElem?_toArray,List.getElem?_cons_succ,List.getElem?_cons_zero];rfl) (by kernel_rfl) (by kernel_rfl) (f:=20) (by kernel_rfl) (by kernel_rfl) (by kernel_rfl) (by kernel_rfl) (by exact λ_ _ _ h=>h) (by kernel_rfl) (Or.inl ⟨by rfl,?_⟩) (by assumption) ?_;rotate_left
     ·intro w hSw;obtain⟨hw1,_⟩:=hSw;obtain rfl:=hw1 rfl;clear hw1;go_simp;try with_reducible rfl
     try simp only[Act.put,List.setIfInBounds_toArray,List.set_cons_zero,List.set_cons_succ]
     refine Zbty (i:=17) (oi:=_) (v:=?_) (by simp only[List.getElem?_toArray,List.getElem?_cons_succ,List.getElem?_cons_zero];rfl) (by kernel_rfl) (by kernel_rfl) (f:=20) (by kernel_rfl) (by kernel_rfl) (by kernel_rfl) (by kernel_rfl) (by exact λ_ _ _ h=>h) (by kernel_rfl) (Or.inl ⟨by rfl,?_⟩) (by assumption) ?_;rotate_left
     ·intro w hSw;obtain⟨hw1,_⟩:=hSw;obtain rfl:=hw1 rfl;clear hw1;go_simp;try with_reducible rfl
     try simp only[Act.put,List.setIfInBounds_toArray,List.set_cons_zero,List.set_cons_succ]
     refine Zbty (i:=18) (oi:=_) (v:=?_) (by simp only[List.getElem?_toArray,List.getElem?_cons_succ,List.getElem?_cons_zero];rfl) (by kernel_rfl) (by kernel_rfl) (f:=20) (by kernel_rfl) (by kernel_rfl) (by kernel_rfl) (by kernel_rfl) (by exact λ_ _ _ h=>h) (by kernel_rfl) (Or.inl ⟨by rfl,?_⟩) (by assumption) ?_;rotate_left
     ·intro w hSw;obtain⟨hw1,_⟩:=hSw;obtain rfl:=hw1 rfl;clear hw1;go_simp;try with_reducible rfl
     try simp only[Act.put,List.setIfInBounds_toArray,List.set_cons_zero,List.set_cons_succ]
     refine Zbty (i:=19) (oi:=_) (v:=?_) (by simp only[List.getElem?_toArray,List.getElem?_cons_succ,List.getElem?_cons_zero];rfl) (by kernel_rfl) (by kernel_rfl) (f:=20) (by kernel_rfl) (by kernel_rfl) (by kernel_rfl) (by kernel_rfl) (by exact λ_ _ _ h=>h) (by kernel_rfl) (Or.inl ⟨by rfl,?_⟩) (by assumption) ?_;rotate_left
     ·intro w hSw;obtain⟨hw1,_⟩:=hSw;obtain rfl:=hw1 rfl;clear hw1;go_simp;try with_reducible rfl
     try simp only[Act.put,List.setIfInBounds_toArray,List.set_cons_zero,List.set_cons_succ]
     refine Zbty (i:=20) (oi:=_) (v:=?_) (by simp only[List.getElem?_toArray,List.getElem?_cons_succ,List.getElem?_cons_zero];rfl) (by kernel_rfl) (by kernel_rfl) (f:=20) (by kernel_rfl) (by kernel_rfl) (by kernel_rfl) (by kernel_rfl) (by exact λ_ _ _ h=>h) (by kernel_rfl) (Or.inl ⟨by rfl,?_⟩) (by assumption) ?_;rotate_left
     ·intro w hSw;obtain⟨hw1,_⟩:=hSw;obtain rfl:=hw1 rfl;clear hw1;go_simp;try with_reducible rfl
     try simp only[Act.put,List.setIfInBounds_toArray,List.set_cons_zero,List.set_cons_succ]
     refine Zbty (i:=21) (oi:=_) (v:=?_) (by simp only[List.getElem?_toArray,List.getElem?_cons_succ,List.getElem?_cons_zero];rfl) (by kernel_rfl) (by kernel_rfl) (f:=20) (by kernel_rfl) (by kernel_rfl) (by kernel_rfl) (by kernel_rfl) (by exact λ_ _ _ h=>h) (by kernel_rfl) (Or.inl ⟨by rfl,?_⟩) (by assumption) ?_;rotate_left
     ·intro w hSw;obtain⟨hw1,_⟩:=hSw;obtain rfl:=hw1 rfl;clear hw1;go_simp;try with_reducible rfl
     try simp only[Act.put,List.setIfInBounds_toArray,List.set_cons_zero,List.set_cons_succ]
     refine Zbty (i:=22) (oi:=_) (v:=?_) (by simp only[List.getElem?_toArray,List.getElem?_cons_succ,List.getElem?_cons_zero];rfl) (by kernel_rfl) (by kernel_rfl) (f:=20) (by kernel_rfl) (by kernel_rfl) (by kernel_rfl) (by kernel_rfl) (by exact λ_ _ _ h=>h) (by kernel_rfl) (Or.inl ⟨by rfl,?_⟩) (by assumption) ?_;rotate_left
     ·intro w hSw;obtain⟨hw1,_⟩:=hSw;obtain rfl:=hw1 rfl;clear hw1;go_simp;try with_reducible rfl
     try simp only[Act.put,List.setIfInBounds_toArray,List.set_cons_zero,List.set_cons_succ]
     refine Zbty (i:=23) (oi:=_) (v:=?_) (by simp only[List.getElem?_toArray,List.getElem?_cons_succ,List.getElem?_cons_zero];rfl) (by kernel_rfl) (by kernel_rfl) (f:=20) (by kernel_rfl) (by kernel_rfl) (by kernel_rfl) (by kernel_rfl) (by exact λ_ _ _ h=>h) (by kernel_rfl) (Or.inl ⟨by rfl,?_⟩) (by assumption) ?_;rotate_left
     ·intro w hSw;obtain⟨hw1,_⟩:=hSw;obtain rfl:=hw1 rfl;clear hw1;go_simp;try with_reducible rfl
     try simp only[Act.put,List.setIfInBounds_toArray,List.set_cons_zero,List.set_cons_succ]
     refine Zbty (i:=24) (oi:=_) (v:=?_) (by simp only[List.getElem?_toArray,List.getElem?_cons_succ,List.getElem?_cons_zero];rfl) (by kernel_rfl) (by kernel_rfl) (f:=20) (by kernel_rfl) (by kernel_rfl) (by kernel_rfl) (by kernel_rfl) (by exact λ_ _ _ h=>h) (by kernel_rfl) (Or.inl ⟨by rfl,?_⟩) (by assumption) ?_;rotate_left
     ·intro w hSw;obtain⟨hw1,_⟩:=hSw;obtain rfl:=hw1 rfl;clear hw1;go_simp;try with_reducible rfl
     try simp only[Act.put,List.setIfInBounds_toArray,List.set_cons_zero,List.set_cons_succ]
     refine Zbty (i:=25) (oi:=_) (v:=?_) (by simp only[List.getElem?_toArray,List.getElem?_cons_succ,List.getElem?_cons_zero];rfl) (by kernel_rfl) (by kernel_rfl) (f:=20) (by kernel_rfl) (by kernel_rfl) (by kernel_rfl) (by kernel_rfl) (by exact λ_ _ _ h=>h) (by kernel_rfl) (Or.inl ⟨by rfl,?_⟩) (by assumption) ?_;rotate_left
     ·intro w hSw;obtain⟨hw1,_⟩:=hSw;obtain rfl:=hw1 rfl;clear hw1;go_simp;try with_reducible rfl
     try simp only[Act.put,List.setIfInBounds_toArray,List.set_cons_zero,List.set_cons_succ]
     refine Zbty (i:=26) (oi:=_) (v:=?_) (by simp only[List.getElem?_toArray,List.getElem?_cons_succ,List.getElem?_cons_zero];rfl) (by kernel_rfl) (by kernel_rfl) (f:=20) (by kernel_rfl) (by kernel_rfl) (by kernel_rfl) (by kernel_rfl) (by exact λ_ _ _ h=>h) (by kernel_rfl) (Or.inl ⟨by rfl,?_⟩) (by assumption) ?_;rotate_left
     ·intro w hSw;obtain⟨hw1,_⟩:=hSw;obtain rfl:=hw1 rfl;clear hw1;go_simp;try with_reducible rfl
     try simp only[Act.put,List.setIfInBounds_toArray,List.set_cons_zero,List.set_cons_succ]
     refine Zbty (i:=27) (oi:=_) (v:=?_) (by simp only[List.getElem?_toArray,List.getElem?_cons_succ,List.getElem?_cons_zero];rfl) (by kernel_rfl) (by kernel_rfl) (f:=20) (by kernel_rfl) (by kernel_rfl) (by kernel_rfl) (by kernel_rfl) (by exact λ_ _ _ h=>h) (by kernel_rfl) (Or.inl ⟨by rfl,?_⟩) (by assumption) ?_;rotate_left
     ·intro w hSw;obtain⟨hw1,_⟩:=hSw;obtain rfl:=hw1 rfl;clear hw1;go_simp;try with_reducible rfl
     try simp only[Act.put,List.setIfInBounds_toArray,List.set_cons_zero,List.set_cons_succ]
     refine Zbty (i:=28) (oi:=_) (v:=?_) (by simp only[List.getElem?_toArray,List.getElem?_cons_succ,List.getElem?_cons_zero];rfl) (by kernel_rfl) (by kernel_rfl) (f:=20) (by kernel_rfl) (by kernel_rfl) (by kernel_rfl) (by kernel_rfl) (by exact λ_ _ _ h=>h) (by kernel_rfl) (Or.inl ⟨by rfl,?_⟩) (by assumption) ?_;rotate_left
     ·intro w hSw;obtain⟨hw1,_⟩:=hSw;obtain rfl:=hw1 rfl;clear hw1;go_simp;try with_reducible rfl
     try simp only[Act.put,List.setIfInBounds_toArray,List.set_cons_zero,List.set_cons_succ]
     refine Zbty (i:=29) (oi:=_) (v:=?_) (by simp only[List.getElem?_toArray,List.getElem?_cons_succ,List.getElem?_cons_zero];rfl) (by kernel_rfl) (by kernel_rfl) (f:=20) (by kernel_rfl) (by kernel_rfl) (by kernel_rfl) (by kernel_rfl) (by exact λ_ _ _ h=>h) (by kernel_rfl) (Or.inl ⟨by rfl,?_⟩) (by assumption) ?_;rotate_left
     ·intro w hSw;obtain⟨hw1,_⟩:=hSw;obtain rfl:=hw1 rfl;clear hw1;go_simp;try with_reducible rfl
     try simp only[Act.put,List.setIfInBounds_toArray,List.set_cons_zero,List.set_cons_succ]
     refine Zbty (i:=30) (oi:=_) (v:=?_) (by simp only[List.getElem?_toArray,List.getElem?_cons_succ,List.getElem?_cons_zero];rfl) (by kernel_rfl) (by kernel_rfl) (f:=20) (by kernel_rfl) (by kernel_rfl) (by kernel_rfl) (by kernel_rfl) (by exact λ_ _ _ h=>h) (by kernel_rfl) (Or.inl ⟨by rfl,?_⟩) (by assumption) ?_;rotate_left
     ·intro w hSw;obtain⟨hw1,_⟩:=hSw;obtain rfl:=hw1 rfl;clear hw1;go_simp;try with_reducible rfl
     try simp only[Act.put,List.setIfInBounds_toArray,List.set_cons_zero,List.set_cons_succ]
     refine Zbty (i:=31) (oi:=_) (v:=?_) (by simp only[List.getElem?_toArray,List.getElem?_cons_succ,List.getElem?_cons_zero];rfl) (by kernel_rfl) (by kernel_rfl) (f:=20) (by kernel_rfl) (by kernel_rfl) (by kernel_rfl) (by kernel_rfl) (by exact λ_ _ _ h=>h) (by kernel_rfl) (Or.inl ⟨by rfl,?_⟩) (by assumption) ?_;rotate_left
     ·intro w hSw;obtain⟨hw1,_⟩:=hSw;obtain rfl:=hw1 rfl;clear hw1;go_simp;try with_reducible rfl
     try simp only[Act.put,List.setIfInBounds_toArray,List.set_cons_zero,List.set_cons_succ]
     refine Zbty (i:=32) (oi:=_) (v:=?_) (by simp only[List.getElem?_toArray,List.getElem?_cons_succ,List.getElem?_cons_zero];rfl) (by kernel_rfl) (by kernel_rfl) (f:=20) (by kernel_rfl) (by kernel_rfl) (by kernel_rfl) (by kernel_rfl) (by exact λ_ _ _ h=>h) (by kernel_rfl) (Or.inl ⟨by rfl,?_⟩) (by assumption) ?_;rotate_left
     ·intro w hSw;obtain⟨hw1,_⟩:=hSw;obtain rfl:=hw1 rfl;clear hw1;go_simp;try with_reducible rfl
     try simp only[Act.put,List.setIfInBounds_toArray,List.set_cons_zero,List.set_cons_succ]
     refine Zbtz (i:=33) (oi:=_) (v:=?_) (by simp only[List.getElem?_toArray,List.getElem?_cons_succ,List.getElem?_cons_zero];rfl) (by kernel_rfl) (by kernel_rfl) (by kernel_rfl) (by kernel_rfl) (by exact λ_ _ _ h=>h) (by kernel_rfl) (Or.inl ⟨by rfl,?_⟩) (by assumption) ?_;rotate_left
     ·intro w hSw;obtain⟨_,_,hw2⟩:=hSw;go_simp;try with_reducible rfl
     try simp only[Act.put,List.setIfInBounds_toArray,List.set_cons_zero,List.set_cons_succ]
     refine Zbtz (i:=34) (oi:=_) (v:=?_) (by simp only[List.getElem?_toArray,List.getElem?_cons_succ,List.getElem?_cons_zero];rfl) (by kernel_rfl) (by kernel_rfl) (by kernel_rfl) (by kernel_rfl) (by exact λ_ _ _ h=>h) (by kernel_rfl) (Or.inl ⟨by rfl,?_⟩) (by assumption) ?_;rotate_left
     ·intro w hSw;obtain⟨_,_,hw2⟩:=hSw;go_simp;try with_reducible rfl
     try simp only[Act.put,List.setIfInBounds_toArray,List.set_cons_zero,List.set_cons_succ]
     refine Zbtz (i:=35) (oi:=_) (v:=?_) (by simp only[List.getElem?_toArray,List.getElem?_cons_succ,List.getElem?_cons_zero];rfl) (by kernel_rfl) (by kernel_rfl) (by kernel_rfl) (by kernel_rfl) (by exact λ_ _ _ h=>h) (by kernel_rfl) (Or.inl ⟨by rfl,?_⟩) (by assumption) ?_;rotate_left
     ·intro w hSw;obtain⟨_,_,hw2⟩:=hSw;go_simp;try with_reducible rfl
     try simp only[Act.put,List.setIfInBounds_toArray,List.set_cons_zero,List.set_cons_succ]
     refine Zbty (i:=36) (oi:=_) (v:=?_) (by simp only[List.getElem?_toArray,List.getElem?_cons_succ,List.getElem?_cons_zero];rfl) (by kernel_rfl) (by kernel_rfl) (f:=20) (by kernel_rfl) (by kernel_rfl) (by kernel_rfl) (by kernel_rfl) (by exact λ_ _ _ h=>h) (by kernel_rfl) (Or.inl ⟨by rfl,?_⟩) (by assumption) ?_;rotate_left
     ·intro w hSw;obtain⟨hw1,_⟩:=hSw;obtain rfl:=hw1 rfl;clear hw1;go_simp;try with_reducible rfl
     try simp only[Act.put,List.setIfInBounds_toArray,List.set_cons_zero,List.set_cons_succ]
     refine Zbty (i:=37) (oi:=_) (v:=?_) (by simp only[List.getElem?_toArray,List.getElem?_cons_succ,List.getElem?_cons_zero];rfl) (by kernel_rfl) (by kernel_rfl) (f:=20) (by kernel_rfl) (by kernel_rfl) (by kernel_rfl) (by kernel_rfl) (by exact λ_ _ _ h=>h) (by kernel_rfl) (Or.inl ⟨by rfl,?_⟩) (by assumption) ?_;rotate_left
     ·intro w hSw;obtain⟨hw1,_⟩:=hSw;obtain rfl:=hw1 rfl;clear hw1;go_simp;try with_reducible rfl
     try simp only[Act.put,List.setIfInBounds_toArray,List.set_cons_zero,List.set_cons_succ]
     refine Zbtx (rs:=[38]) (by kernel_rfl) (by simp) ?_;refine AllReadyS.cons (b:=true) (o:=_) (by simp only[List.getElem?_toArray,List.getElem?_cons_succ,List.getElem?_cons_zero];rfl) (by kernel_rfl) (λK hK=>?_) ?_
     ·go_simp
      refine hK.out _ _ ?_ (λhHeld=>?_)
      ·try dsimp only
       exact⟨λe=>(by cases e),by rw[Zid,World.cell?_setCell_far _ _ _ _ HNE.out];exact y4⟩
      clear hK K
      try simp only[Act.put,List.setIfInBounds_toArray,List.set_cons_zero,List.set_cons_succ]
      refine Zbtz (i:=39) (oi:=_) (v:=?_) (by simp only[List.getElem?_toArray,List.getElem?_cons_succ,List.getElem?_cons_zero];rfl) (by kernel_rfl) (by kernel_rfl) (by kernel_rfl) (by kernel_rfl) (by exact λ_ _ _ h=>h) (by kernel_rfl) (Or.inl ⟨by rfl,?_⟩) (by assumption) ?_;rotate_left
      ·intro w hSw;obtain⟨_,_,hw2⟩:=hSw;go_simp;try with_reducible rfl
      try simp only[Act.put,List.setIfInBounds_toArray,List.set_cons_zero,List.set_cons_succ]
      refine Zbtz (i:=40) (oi:=_) (v:=?_) (by simp only[List.getElem?_toArray,List.getElem?_cons_succ,List.getElem?_cons_zero];rfl) (by kernel_rfl) (by kernel_rfl) (by kernel_rfl) (by kernel_rfl) (by exact λ_ _ _ h=>h) (by kernel_rfl) (Or.inl ⟨by rfl,?_⟩) (by assumption) ?_;rotate_left
      ·intro w hSw;obtain⟨_,_,hw2⟩:=hSw;go_simp;try with_reducible rfl
      try simp only[Act.put,List.setIfInBounds_toArray,List.set_cons_zero,List.set_cons_succ]
      refine Zbtx (rs:=[41]) (by kernel_rfl) (by simp) ?_;refine AllReadyS.cons (b:=true) (o:=_) (by simp only[List.getElem?_toArray,List.getElem?_cons_succ,List.getElem?_cons_zero];rfl) (by kernel_rfl) (λK hK=>?_) ?_
      ·go_simp
       refine hK.out _ _ ?_ (λhHeld=>?_)
       ·try dsimp only
        exact⟨λe=>(by cases e),by rw[Zid,World.cell?_setCell_far _ _ _ _ HNE.out];exact hHeld.2⟩
       clear hK K
       try simp only[Act.put,List.setIfInBounds_toArray,List.set_cons_zero,List.set_cons_succ]
       refine Zbtu (by kernel_rfl) ?_ _;have hwr:=HL.out.below;obtain⟨W7,hW7⟩:∃V,((wr.setCell ⟨b0,o+k*5+2,none⟩ (.slice p1 (min 8 y.args.length) c5)).setCell ⟨b0,o+k*5+3,none⟩ (.slice q1 (min 3 y.lits.length) d1)).drew=V:=⟨_,rfl⟩;have hfr:Fr (λb=>b=b0) wr W7:=by
        rw[<-hW7];exact((Zpy (Av:=λb=>b=b0) (a:=⟨b0,o+k*5+2,none⟩) rfl _).trans (Zpy (Av:=λb=>b=b0) (a:=⟨b0,o+k*5+3,none⟩) rfl _)).trans (Zpw _ _)
       have h7:LawL W5 W3.heap.size x (.slice i1 i2 i3) (.slice j1 j2 j3) (.slice l1 l2 l3) (.slice (some ⟨b0,o,none⟩) ys.length s3) (mixS (k+1) ys) W7:=by
        have hset:∀ {v:Value} {xs:List ByteArray},StrsA (λb=>b<W3.heap.size) wr v xs->StrsA (λb=>b<W3.heap.size) W7 v xs:=λh=>by
         rw[<-hW7];refine RowA.keep (w:=(wr.setCell ⟨b0,o+k*5+2,none⟩ (.slice p1 (min 8 y.args.length) c5)).setCell ⟨b0,o+k*5+3,none⟩ (.slice q1 (min 3 y.lits.length) d1)) ?_ (Zpw _ _);exact Zbqg (Zbqg h HZ2.out (by intro s e;cases e) _) (by rw[World.cell?_setCell_other _ _ _ _ (by simp)];exact HZ3.out) (by intro s e;cases e) _
        refine⟨hwr.trans (hfr.below (Nat.le_trans HS45.out hwr.size) λb hb e=>by subst e;exact HNB.out hb),hset HL.out.ins,hset HL.out.outs,hset HL.out.after,?_,λb e i=>?_⟩
        ·have:=HNX.out
         rw[<-Zzg HY.out,<-hW7];exact StepsA.keep this (Zpw _ _)
        ·rw[<-hW7]
         have h1:=HL.out.canw b e i;rw[Zqb,World.frozen?_setCell,World.frozen?_setCell];exact h1
       have H7:=hid h7;rw[hW7];clear hwr hW7 hfr h7 hHeld hz2 hz3 y0 y1 y2 y3 y4 fz0 fz1 fz2 fz3 fz4 z2 z3 zd2 zd3 yd4 e1 e2 k1 k2 m1 m2;go_wp2;go_roundw
       case rel=>exact⟨k+1,by omega,by go_num,H7.out⟩
       case measure=>simp[intOf];omega
      exact AllReadyS.nil
     exact AllReadyS.nil
    ·obtain rfl:k=ys.length:=by omega
     have hi1:¬(ys.length:Int)<(ys.length:Int):=by omega
     have hout:=(hL.below.block _ (by have:=HB3.out;omega)).trans HO5.out;have HOUT:=hid hout;obtain⟨d0,d1,d2,d3,d4,e0,e1,e2,e3,e4⟩:=cells5 hout;clear hL hout;go_wp2;refine bodyPost_ret (Zbhl rfl _ _ (w.heap.size+1) _ _ _ _ rfl (Zrs HOUT.out _ _ _ _ _) Tryz.underlying25 rfl (by kernel_rfl)) rfl ?_;have hL:=HL.out;have hS:=HB3.out;have hS5:=HS45.out;have hfs:∀u0 u1 u2 u3 u4,Fr (λb=>b<W3.heap.size) wr _:=λu0 u1 u2 u3 u4=>Zpz (Av:=λb=>b<W3.heap.size) (w:=wr) (g:=w.heap.size+1) (by omega) u0 u1 u2 u3 u4
     have hst:=hL.steps;rw[Zze _ (Nat.le_refl _)]at hst;have hys:(cutR x).steps=ys.map cutS:=by rw[<-HYS.out];rfl
     refine⟨⟨_,_,_,_,rfl,RowA.mono (RowA.keep hL.ins (hfs _ _ _ _ _)) λb _ hb=>by omega,RowA.mono (RowA.keep hL.outs (hfs _ _ _ _ _)) λb _ hb=>by omega,RowA.mono (RowA.keep hL.after (hfs _ _ _ _ _)) λb _ hb=>by omega,?_⟩,
      Zfn (HB5.out.trans (hL.below.mono (by omega))) (by omega) _ _ _ _ _⟩
     rw[hys];exact(hst.keep (hfs _ _ _ _ _)).mono λb _ hb=>by omega
  exact AllReadyH.nil
 exact AllReadyH.nil
end Go.Proofs.YtmgcaldphpnfgaaGreatDoor
