import Derived.Test.YtokogjhcidkckaaGreatDoorMbc
namespace Go.Proofs.YtokogjhcidkckaaGreatDoor
open Go.Lib (hid)
open Go.Proofs.Tryz
open Go.RowKit Go.Shelf
set_option maxHeartbeats 16000000
set_option maxRecDepth 100000
def TwoB (p g mr mm md:Nat) (u0 u1 u2 u3 u4:Value) (V:World):Prop:=
 V.heap[p]? =some (.cells #[.map (some mr),.map (some mm),.map (some md)] 91)/\V.heap[g]? =some (.cells #[u0,u1,u2,u3,u4] 50)
theorem TwoB.cells {p g mr mm md:Nat} {u0 u1 u2 u3 u4:Value} {V:World} (h:TwoB p g mr mm md u0 u1 u2 u3 u4 V):
  (V.cell? { block:=p,off:=0 } =some (.map (some mr))/\V.cell? { block:=p,off:=1 } =some (.map (some mm))/\V.cell? { block:=p,off:=2 } =some (.map (some md)))/\
  (V.cell? { block:=g,off:=0 } =some u0/\V.cell? { block:=g,off:=1 } =some u1/\V.cell? { block:=g,off:=2 } =some u2/\V.cell? { block:=g,off:=3 } =some u3/\V.cell? { block:=g,off:=4 } =some u4):=by
 obtain⟨h1,h2⟩:=h;exact⟨⟨by simp[World.cell?,h1],by simp[World.cell?,h1],by simp[World.cell?,h1]⟩,by simp[World.cell?,h2],by simp[World.cell?,h2],by simp[World.cell?,h2],by simp[World.cell?,h2],by simp[World.cell?,h2]⟩
theorem TwoB.below {p g mr mm md:Nat} {u0 u1 u2 u3 u4:Value} {V V':World} (h:TwoB p g mr mm md u0 u1 u2 u3 u4 V) (hb:Below V.heap.size V V'):TwoB p g mr mm md u0 u1 u2 u3 u4 V':=
 ⟨(hb.block p (Array.getElem?_eq_some_iff.1 h.1).1).trans h.1,(hb.block g (Array.getElem?_eq_some_iff.1 h.2).1).trans h.2⟩
theorem Zdag (B C p mr mm md:Nat) (A M R:SKV) (rs:List RuleS) (qs:RdL) (r:RuleS) (vi vo vf vs:Value) (w:World) (h:GrS w B C p mr mm md A M R rs qs) (hr:RuleA (AvR B C R) w [.string r.name,vi,vo,vf,vs] r)
  (hn:r.name∉rs.map (·.name)) (hq:qs.length+r.ins.length<=1000000) (ho:r.outs.length<=1000000):
  Calls prog 53 #[.pointer (some { block:=p,off:=0 }),.agg #[.string r.name,vi,vo,vf,vs]] w λe w'=>(∃u,e = .returned u)/\∃A' R',GrS w' B C p mr mm md A' (Zdel M r) R' (rs ++ [r]) (qs++Zdgq r)/\Stp B C R R' w w':=by
 have mixed:prog.follows .mixedOrders=true:=by kernel_rfl
 obtain⟨W0,hW0⟩:∃V,V=w.alloc (.cells #[.string r.name,vi,vo,vf,vs] 50):=⟨_,rfl⟩;obtain⟨g,hg⟩:∃g,g=w.heap.size:=⟨_,rfl⟩;have hb0:Below w.heap.size w W0:=by rw[hW0];exact(Below.refl _ _).alloc (Nat.le_refl _) _
 have hbx:W0.heap[g]? =some (.cells #[.string r.name,vi,vo,vf,vs] 50):=by rw[hW0,hg];exact alloc_at w _
 have hG0:=h.below hb0;have hr0:=hr.stp (Stp.below hb0);have hCg:C<=g:=by rw[hg];exact h.sz
 have hgav:¬AvR B C R g:=by
  rintro(h1|⟨k,h1⟩)
  ·omega
  ·have:=(World.ownsRow.lt (h.ri.row k) g h1).2;omega
 have HST:=hid (Stp.below (B:=B) (C:=C) (R:=R) hb0);have HP:=hid h.hi;have HLO:=hid h.lo;obtain⟨_,_,_,_,e4,hI1,hI2,_,_⟩:=id hr0;simp only[List.cons.injEq,and_true,true_and]at e4;obtain⟨rfl,rfl,rfl,rfl⟩:=e4;obtain⟨a1,c1,rfl⟩:=Zue hI1.isStrs;obtain⟨a2,c2,rfl⟩:=Zue hI2.isStrs;have HI1:=hid hI1;have HI2:=hid hI2;have HR0:=hid hr0;have HN:=hid hn;have HQ:=hid hq;have HGAV:=hid hgav;have HCG:=hid hCg;obtain⟨V0,hV0⟩:∃V,V=W0.drew:=⟨_,rfl⟩;have hbV:Below W0.heap.size W0 V0:=by rw[hV0];exact(Below.refl _ _).drew
 have hGV:=hG0.below hbV;obtain⟨ob,hput,hmp⟩:=hGV.qa.put (P:=prog) underlying87 underlying9 r.name (.agg #[.string r.name,.slice a1 r.ins.length c1,.slice a2 r.outs.length c2,vf,vs]);have hG1:=hGV.putRule (hr0.stp (Stp.below hbV)) hn hmp;have hst1:Stp B C R R V0 _:=Zdji R V0 ob ⟨h.lo.1,h.hi.1⟩;have HS0:=hid (show TwoB p g mr mm md _ _ _ _ _ V0 from TwoB.below ⟨hG0.blk,hbx⟩ hbV);have HS1:=hid (show TwoB p g mr mm md _ _ _ _ _ _ from⟨hG1.blk,(Zdih V0 mr ob (by have:=h.hi.1;omega)).trans HS0.out.2⟩);have HSTA:=hid ((HST.out.trans (Stp.below hbV)).trans hst1);have HRV:=hid ((hr0.stp (Stp.below hbV)).stp hst1);obtain⟨V1,hV1⟩:∃V,V=({ V0 with heap:=V0.heap.setIfInBounds mr ob }:World):=⟨_,rfl⟩;rw[<-hV1]at hput hG1 HS1 HSTA HRV;obtain⟨A',hA'⟩:∃A',A'=A ++ [(r.name,Value.agg #[.string r.name,.slice a1 r.ins.length c1,.slice a2 r.outs.length c2,vf,vs])]:=⟨_,rfl⟩;rw[<-hA']at hG1;have HP1:=hid hput;have HG1:=hid hG1;have HW:=hid hW0;have HGE:=hid hg;clear h hr hn hq hb0 hbx hG0 hr0 hCg hgav hI1 hI2 hbV hGV hput hmp hG1 hst1 hV1 hA' hg
 go_enter func53,ntmps53
 go_wp2_with fail
 rw[<-hW0,<-HGE.out];clear hW0;refine wp_region_held_drew (S:=λV=>TwoB p g mr mm md (.string r.name) (.slice a1 r.ins.length c1) (.slice a2 r.outs.length c2) vf vs V) (by kernel_rfl) ?_ (λhHeld=>?_)
 ·rw[<-hV0];exact HS0.out
 rw[<-hV0]at hHeld⊢;clear hV0;refine tkK 0 ?_;refine tkK 1 ?_;refine tkK 2 ?_
 try simp only[Act.put,sA,sZ,sS]
 refine tkH 3 (v:=?_) ?_ ?_;rotate_left
 ·intro w hSw;obtain⟨⟨b0,b1,b2⟩,d0,d1,d2,d3,d4⟩:=TwoB.cells hSw;go_simp;try with_reducible rfl
 try simp only[Act.put,sA,sZ,sS]
 refine tkK 4 ?_
 try simp only[Act.put,sA,sZ,sS]
 refine tkH 5 (v:=?_) ?_ ?_;rotate_left
 ·intro w hSw;obtain⟨⟨b0,b1,b2⟩,d0,d1,d2,d3,d4⟩:=TwoB.cells hSw;go_simp;try with_reducible rfl
 try simp only[Act.put,sA,sZ,sS]
 refine tkH 6 (v:=?_) ?_ ?_;rotate_left
 ·intro w hSw;obtain⟨⟨b0,b1,b2⟩,d0,d1,d2,d3,d4⟩:=TwoB.cells hSw;go_simp;try with_reducible rfl
 try simp only[Act.put,sA,sZ,sS]
 refine rdH [7] ?_;refine rcH (λK hK=>?_) ?_
 ·have hrun:=HP1.out;go_simp
  refine hK.out _ _ ?_ (λhHeld=>?_)
  ·try dsimp only
   exact HS1.out
  clear hK K
  try simp only[Act.put,sA,sZ,sS]
  refine wpAnyH_done (by kernel_rfl) ?_ _;obtain⟨⟨b0,b1,b2⟩,d0,d1,d2,d3,d4⟩:=TwoB.cells HS1.out
  go_wp2_with fail
  clear b0 b1 b2 d0 d1 d2 d3 d4
  go_loopw [18] (λiv wr=>∃k:Nat,k<=r.outs.length/\iv = .int .i64 (k:Int)/\GrS wr B C p mr mm md A' ((r.outs.take k).foldl (Zdej r.name) M) R (rs ++ [r]) qs/\Stp B C R R w wr/\TwoB p g mr mm md (.string r.name) (.slice a1 r.ins.length c1) (.slice a2 r.outs.length c2) vf vs wr/\RuleA (AvR B C R) wr [.string r.name,.slice a1 r.ins.length c1,.slice a2 r.outs.length c2,vf,vs] r) (λiv _=>r.outs.length-(intOf iv).toNat)
  case atStart=>exact⟨0,Nat.zero_le _,rfl,HG1.out,HSTA.out,HS1.out,HRV.out⟩
  case round=>
   obtain⟨k,hk,rfl,hG,hst,htw,hru⟩:=hrel;clear HS1 HSTA HRV HG1 HP1 HS0;have HG:=hid hG;have HST2:=hid hst;have HTW:=hid htw;have HRU:=hid hru;clear hG hst htw hru
   by_cases hlt:k<r.outs.length
   ·obtain⟨x,hx⟩:∃x,r.outs[k]? =some x:=⟨r.outs[k],List.getElem?_eq_getElem hlt⟩
    have hi:(k:Int)<(r.outs.length:Int):=by omega
    have hk0:(0:Int)<=(k:Int):=by omega
    obtain⟨_,_,_,_,e4,_,hI2,_,_⟩:=id HRU.out;simp only[List.cons.injEq,and_true,true_and]at e4;obtain⟨rfl,rfl,rfl,rfl⟩:=e4;obtain⟨b,oo,rfl,hblt,hc⟩:=Zdbq hI2.isStrs hx;have hcx:=hc wr (Below.refl _ _);clear hc hI2;obtain⟨V2,hV2⟩:∃V,V=wr.drew:=⟨_,rfl⟩;have hbV:Below wr.heap.size wr V2:=by rw[hV2];exact(Below.refl _ _).drew
    have HBV:=hid hbV;have HS2:=hid (HTW.out.below hbV);have HX:=hid hx;clear hbV hx
    go_wp2_with fail
    refine wp_region_held_drew (S:=λV=>TwoB p g mr mm md (.string r.name) (.slice a1 r.ins.length c1) (.slice (some ⟨b,oo,none⟩) r.outs.length c2) vf vs V) (by kernel_rfl) ?_ (λhHeld=>?_)
    ·rw[<-hV2];exact HS2.out
    rw[<-hV2]at hHeld⊢;clear hV2;refine tkK 0 ?_;refine tkK 1 ?_;refine tkK 2 ?_
    try simp only[Act.put,sA,sZ,sS]
    refine tkH 3 (v:=?_) ?_ ?_;rotate_left
    ·intro w hSw;obtain⟨⟨b0,b1,b2⟩,d0,d1,d2,d3,d4⟩:=TwoB.cells hSw;go_simp;try with_reducible rfl
    try simp only[Act.put,sA,sZ,sS]
    refine tkK 4 ?_;refine tkK 5 ?_
    try simp only[Act.put,sA,sZ,sS]
    refine tkH 6 (v:=?_) ?_ ?_;rotate_left
    ·intro w hSw;obtain⟨⟨b0,b1,b2⟩,d0,d1,d2,d3,d4⟩:=TwoB.cells hSw;go_simp;try with_reducible rfl
    try simp only[Act.put,sA,sZ,sS]
    refine rdH [7] ?_;refine rcH (λK hK=>?_) ?_
    ·go_simp;refine(Zdhw r.name _).mono ?_;rintro e V3 ⟨rfl,hb3⟩;dsimp only
     refine hK.out _ _ ?_ (λhHeld=>?_)
     ·try dsimp only
      exact TwoB.below HS2.out hb3
     clear hK K
     try simp only[Act.put,sA,sZ,sS]
     obtain⟨ob,hput,hmp⟩:=(HG.out.below (HBV.out.trans (hb3.mono HBV.out.size))).qm.put (P:=prog) underlying88 underlying9 x (lv (true,r.name));have hG3:=(HG.out.below (HBV.out.trans (hb3.mono HBV.out.size))).putMaker x r.name hmp;have hst3:Stp B C R R V3 _:=Zdji R V3 ob ⟨HLO.out.2.1,HP.out.2.1⟩;have HTW3:=hid (show TwoB p g mr mm md (.string r.name) (.slice a1 r.ins.length c1) (.slice (some ⟨b,oo,none⟩) r.outs.length c2) vf vs _ from⟨hG3.blk,(Zdih V3 mm ob (by have:=HP.out.2.1;have:=HCG.out;omega)).trans hHeld.2⟩);have HST3:=hid ((HST2.out.trans (Stp.below (HBV.out.trans (hb3.mono HBV.out.size)))).trans hst3);have HRU3:=hid ((HRU.out.stp (Stp.below (HBV.out.trans (hb3.mono HBV.out.size)))).stp hst3);have hnx:Zdej r.name ((r.outs.take k).foldl (Zdej r.name) M) x=(r.outs.take (k+1)).foldl (Zdej r.name) M:=by rw[List.take_add_one,HX.out,List.foldl_append];rfl
     rw[hnx]at hG3;have HG3:=hid hG3;have HPU:=hid hput;clear hput hmp hG3 hst3 hnx;refine rdH [8] ?_;refine rcH (λK hK=>?_) ?_
     ·have hrun:=HPU.out;unfold lv at hrun;go_simp
      refine hK.out _ _ ?_ (λhHeld=>?_)
      ·try dsimp only
       exact HTW3.out
      clear hK K
      try simp only[Act.put,sA,sZ,sS]
      refine wpAnyH_done (by kernel_rfl) ?_ _;go_wp2;go_roundw
      case rel=>exact⟨k+1,by omega,by go_num,HG3.out,HST3.out,HTW3.out,HRU3.out⟩
      case measure=>simp only[intOf];omega
     exact AllReadyH.nil
    exact AllReadyH.nil
   ·obtain rfl:k=r.outs.length:=by omega
    have hi:¬(r.outs.length:Int)<(r.outs.length:Int):=by omega
    rw[List.take_length]at HG;obtain⟨⟨b0,b1,b2⟩,d0,d1,d2,d3,d4⟩:=TwoB.cells HTW.out;have hil:r.ins.length<=1000000:=by have:=HQ.out;omega
    go_wp2_with fail
    clear b0 b1 b2 d0 d1 d2 d3 d4
    go_loopw [34] (λiv wr=>∃(k:Nat) (R2:SKV),k<=r.ins.length/\iv = .int .i64 (k:Int)/\GrS wr B C p mr mm md A' (Zdel M r) R2 (rs ++ [r]) (qs++(Zdgq r).take k)/\Stp B C R R2 w wr/\TwoB p g mr mm md (.string r.name) (.slice a1 r.ins.length c1) (.slice a2 r.outs.length c2) vf vs wr/\RuleA (AvR B C R2) wr [.string r.name,.slice a1 r.ins.length c1,.slice a2 r.outs.length c2,vf,vs] r/\g<wr.heap.size/\¬AvR B C R2 g) (λiv _=>r.ins.length-(intOf iv).toNat)
    case atStart=>exact⟨0,R,Nat.zero_le _,rfl,by rw[List.take_zero,List.append_nil];exact HG.out,HST2.out,HTW.out,HRU.out,(Array.getElem?_eq_some_iff.1 HTW.out.2).1,HGAV.out⟩
    case round=>
     obtain⟨k,R2,hk,rfl,hG,hst,htw,hru,hgs,hga⟩:=hrel;replace HG:=hid hG;replace HST2:=hid hst;replace HTW:=hid htw;replace HRU:=hid hru;have HGS:=hid hgs;replace HGAV:=hid hga;clear hG hst htw hru hgs hga hi
     by_cases hlt:k<r.ins.length
     ·obtain⟨x,hx⟩:∃x,r.ins[k]? =some x:=⟨r.ins[k],List.getElem?_eq_getElem hlt⟩
      have hi:(k:Int)<(r.ins.length:Int):=by omega
      have hk0:(0:Int)<=(k:Int):=by omega
      obtain⟨_,_,_,_,e4,hI1,_,_,_⟩:=id HRU.out;simp only[List.cons.injEq,and_true,true_and]at e4;obtain⟨rfl,rfl,rfl,rfl⟩:=e4;obtain⟨b,oo,rfl,hblt,hc⟩:=Zdbq hI1.isStrs hx;have hcx:=hc wr (Below.refl _ _);clear hc hI1;obtain⟨V2,hV2⟩:∃V,V=wr.drew:=⟨_,rfl⟩;have hbV:Below wr.heap.size wr V2:=by rw[hV2];exact(Below.refl _ _).drew
      have HBV:=hid hbV;have HS2:=hid (HTW.out.below hbV);have hGV:=HG.out.below hbV;obtain⟨av,nv,cv,hgv⟩:=hGV.ri.sl.get x;have hlk:∀V,Below V2.heap.size V2 V->(Instr.lookup 89 (.map (some md)) (.string x) false).run prog V = .ok (.slice av nv cv) V:=by
       intro V hV;have:=(hGV.below hV).qr.get (P:=prog) underlying89 underlying9 (Zdka V) x;rw[hgv]at this;exact this
      have HLK:=hid hlk;have HX:=hid hx;have HGV:=hid hGV;have HGT:=hid (show getA R2 x nilV = .slice av nv cv from hgv);clear hbV hx hGV hlk hgv
      go_wp2_with fail
      refine Zbuk (S:=λb0 V=>TwoB p g mr mm md (.string r.name) (.slice (some ⟨b,oo,none⟩) r.ins.length c1) (.slice a2 r.outs.length c2) vf vs V/\(b0=false->Below V2.heap.size V2 V)) (st:=15) (by kernel_rfl) ?_ (λhHeld=>?_)
      ·rw[<-hV2];exact⟨HS2.out,λ_=>Below.refl _ _⟩
      rw[<-hV2]at hHeld⊢;clear hV2;refine Zbtz (i:=0) (oi:=_) (v:=?_) (by simp only[List.getElem?_toArray,List.getElem?_cons_zero];rfl) (by kernel_rfl) (by kernel_rfl) (by kernel_rfl) (by kernel_rfl) (by exact λ_ _ _ h=>h) (by kernel_rfl) (Or.inl ⟨by rfl,?_⟩) (by assumption) ?_;rotate_left
      ·intro w hSw;obtain⟨_,hT,_⟩:=hSw;obtain⟨⟨b0,b1,b2⟩,d0,d1,d2,d3,d4⟩:=TwoB.cells hT;go_simp;try with_reducible rfl
      try simp only[Act.put,sA,sZ,sS]
      refine Zbtz (i:=1) (oi:=_) (v:=?_) (by simp only[List.getElem?_toArray,List.getElem?_cons_succ,List.getElem?_cons_zero];rfl) (by kernel_rfl) (by kernel_rfl) (by kernel_rfl) (by kernel_rfl) (by exact λ_ _ _ h=>h) (by kernel_rfl) (Or.inl ⟨by rfl,?_⟩) (by assumption) ?_;rotate_left
      ·intro w hSw;obtain⟨_,hT,_⟩:=hSw;obtain⟨⟨b0,b1,b2⟩,d0,d1,d2,d3,d4⟩:=TwoB.cells hT;go_simp;try with_reducible rfl
      try simp only[Act.put,sA,sZ,sS]
      refine Zbtz (i:=2) (oi:=_) (v:=?_) (by simp only[List.getElem?_toArray,List.getElem?_cons_succ,List.getElem?_cons_zero];rfl) (by kernel_rfl) (by kernel_rfl) (by kernel_rfl) (by kernel_rfl) (by exact λ_ _ _ h=>h) (by kernel_rfl) (Or.inl ⟨by rfl,?_⟩) (by assumption) ?_;rotate_left
      ·intro w hSw;obtain⟨_,hT,_⟩:=hSw;obtain⟨⟨b0,b1,b2⟩,d0,d1,d2,d3,d4⟩:=TwoB.cells hT;go_simp;try with_reducible rfl
      try simp only[Act.put,sA,sZ,sS]
      refine Zbtz (i:=3) (oi:=_) (v:=?_) (by simp only[List.getElem?_toArray,List.getElem?_cons_succ,List.getElem?_cons_zero];rfl) (by kernel_rfl) (by kernel_rfl) (by kernel_rfl) (by kernel_rfl) (by exact λ_ _ _ h=>h) (by kernel_rfl) (Or.inl ⟨by rfl,?_⟩) (by assumption) ?_;rotate_left
      ·intro w hSw;obtain⟨_,hT,_⟩:=hSw;obtain⟨⟨b0,b1,b2⟩,d0,d1,d2,d3,d4⟩:=TwoB.cells hT;go_simp;try with_reducible rfl
      try simp only[Act.put,sA,sZ,sS]
      refine Zbtz (i:=4) (oi:=_) (v:=?_) (by simp only[List.getElem?_toArray,List.getElem?_cons_succ,List.getElem?_cons_zero];rfl) (by kernel_rfl) (by kernel_rfl) (by kernel_rfl) (by kernel_rfl) (by exact λ_ _ _ h=>h) (by kernel_rfl) (Or.inl ⟨by rfl,?_⟩) (by assumption) ?_;rotate_left
      ·intro w hSw;obtain⟨_,hT,_⟩:=hSw;obtain⟨⟨b0,b1,b2⟩,d0,d1,d2,d3,d4⟩:=TwoB.cells hT;go_simp;try with_reducible rfl
      try simp only[Act.put,sA,sZ,sS]
      refine Zbty (i:=5) (oi:=_) (v:=?_) (by simp only[List.getElem?_toArray,List.getElem?_cons_succ,List.getElem?_cons_zero];rfl) (by kernel_rfl) (by kernel_rfl) (f:=20) (by kernel_rfl) (by kernel_rfl) (by kernel_rfl) (by kernel_rfl) (by exact λ_ _ _ h=>h) (by kernel_rfl) (Or.inl ⟨by rfl,?_⟩) (by assumption) ?_;rotate_left
      ·intro w hSw;obtain⟨hT,hB⟩:=hSw;obtain⟨⟨b0,b1,b2⟩,d0,d1,d2,d3,d4⟩:=TwoB.cells hT;go_simp;try with_reducible rfl
      try simp only[Act.put,sA,sZ,sS]
      refine Zbty (i:=6) (oi:=_) (v:=?_) (by simp only[List.getElem?_toArray,List.getElem?_cons_succ,List.getElem?_cons_zero];rfl) (by kernel_rfl) (by kernel_rfl) (f:=20) (by kernel_rfl) (by kernel_rfl) (by kernel_rfl) (by kernel_rfl) (by exact λ_ _ _ h=>h) (by kernel_rfl) (Or.inl ⟨by rfl,?_⟩) (by assumption) ?_;rotate_left
      ·intro w hSw;obtain⟨hT,hB⟩:=hSw;obtain⟨⟨b0,b1,b2⟩,d0,d1,d2,d3,d4⟩:=TwoB.cells hT;go_simp;try with_reducible rfl
      try simp only[Act.put,sA,sZ,sS]
      refine Zbty (i:=7) (oi:=_) (v:=?_) (by simp only[List.getElem?_toArray,List.getElem?_cons_succ,List.getElem?_cons_zero];rfl) (by kernel_rfl) (by kernel_rfl) (f:=20) (by kernel_rfl) (by kernel_rfl) (by kernel_rfl) (by kernel_rfl) (by exact λ_ _ _ h=>h) (by kernel_rfl) (Or.inl ⟨by rfl,?_⟩) (by assumption) ?_;rotate_left
      ·intro w hSw;obtain⟨hT,hB⟩:=hSw;obtain⟨⟨b0,b1,b2⟩,d0,d1,d2,d3,d4⟩:=TwoB.cells hT;go_simp;try with_reducible rfl
      try simp only[Act.put,sA,sZ,sS]
      refine Zbty (i:=8) (oi:=_) (v:=?_) (by simp only[List.getElem?_toArray,List.getElem?_cons_succ,List.getElem?_cons_zero];rfl) (by kernel_rfl) (by kernel_rfl) (f:=20) (by kernel_rfl) (by kernel_rfl) (by kernel_rfl) (by kernel_rfl) (by exact λ_ _ _ h=>h) (by kernel_rfl) (Or.inl ⟨by rfl,?_⟩) (by assumption) ?_;rotate_left
      ·intro w hSw;obtain⟨hT,hB⟩:=hSw;obtain⟨⟨b0,b1,b2⟩,d0,d1,d2,d3,d4⟩:=TwoB.cells hT;go_simp;try with_reducible rfl
      try simp only[Act.put,sA,sZ,sS]
      refine Zbty (i:=9) (oi:=_) (v:=?_) (by simp only[List.getElem?_toArray,List.getElem?_cons_succ,List.getElem?_cons_zero];rfl) (by kernel_rfl) (by kernel_rfl) (f:=20) (by kernel_rfl) (by kernel_rfl) (by kernel_rfl) (by kernel_rfl) (by exact λ_ _ _ h=>h) (by kernel_rfl) (Or.inl ⟨by rfl,?_⟩) (by assumption) ?_;rotate_left
      ·intro w hSw;obtain⟨hT,hB⟩:=hSw;obtain⟨⟨b0,b1,b2⟩,d0,d1,d2,d3,d4⟩:=TwoB.cells hT;go_simp;try with_reducible rfl
      try simp only[Act.put,sA,sZ,sS]
      refine Zbty (i:=10) (oi:=_) (v:=?_) (by simp only[List.getElem?_toArray,List.getElem?_cons_succ,List.getElem?_cons_zero];rfl) (by kernel_rfl) (by kernel_rfl) (f:=20) (by kernel_rfl) (by kernel_rfl) (by kernel_rfl) (by kernel_rfl) (by exact λ_ _ _ h=>h) (by kernel_rfl) (Or.inl ⟨by rfl,?_⟩) (by assumption) ?_;rotate_left
      ·intro w hSw;obtain⟨hT,hB⟩:=hSw;have hlk:=HLK.out _ (hB rfl);go_simp;try with_reducible rfl
      try simp only[Act.put,sA,sZ,sS]
      refine Zbty (i:=11) (oi:=_) (v:=?_) (by simp only[List.getElem?_toArray,List.getElem?_cons_succ,List.getElem?_cons_zero];rfl) (by kernel_rfl) (by kernel_rfl) (f:=20) (by kernel_rfl) (by kernel_rfl) (by kernel_rfl) (by kernel_rfl) (by exact λ_ _ _ h=>h) (by kernel_rfl) (Or.inl ⟨by rfl,?_⟩) (by assumption) ?_;rotate_left
      ·intro w hSw;obtain⟨hT,hB⟩:=hSw;obtain⟨⟨b0,b1,b2⟩,d0,d1,d2,d3,d4⟩:=TwoB.cells hT;go_simp;try with_reducible rfl
      try simp only[Act.put,sA,sZ,sS]
      refine Zbty (i:=12) (oi:=_) (v:=?_) (by simp only[List.getElem?_toArray,List.getElem?_cons_succ,List.getElem?_cons_zero];rfl) (by kernel_rfl) (by kernel_rfl) (f:=20) (by kernel_rfl) (by kernel_rfl) (by kernel_rfl) (by kernel_rfl) (by exact λ_ _ _ h=>h) (by kernel_rfl) (Or.inl ⟨by rfl,?_⟩) (by assumption) ?_;rotate_left
      ·intro w hSw;obtain⟨hT,hB⟩:=hSw;obtain⟨⟨b0,b1,b2⟩,d0,d1,d2,d3,d4⟩:=TwoB.cells hT;go_simp;try with_reducible rfl
      try simp only[Act.put,sA,sZ,sS]
      refine Zbtx (rs:=[13]) (by kernel_rfl) (by simp) ?_;refine AllReadyS.cons (b:=false) (o:=_) (by simp only[List.getElem?_toArray,List.getElem?_cons_succ,List.getElem?_cons_zero];rfl) (by kernel_rfl) (λK hK=>?_) ?_
      ·go_simp;refine(Zdhw r.name _).mono ?_;rintro e V3 ⟨rfl,hb3⟩;dsimp only
       refine hK.out _ _ ?_ (λhHeld=>?_)
       ·try dsimp only
        exact⟨TwoB.below HS2.out hb3,λ_=>hb3⟩
       clear hK K
       try simp only[Act.put,sA,sZ,sS]
       obtain⟨V4,hV4⟩:∃V,V=V3.alloc (.cells #[.bool true,.string r.name] 24):=⟨_,rfl⟩;have hb4:Below V2.heap.size V2 V4:=by rw[hV4];exact hb3.alloc hb3.size _
       have hz4:V4.heap[V3.heap.size]? =some (.cells #[.bool ((true,r.name):Lb).1,.string ((true,r.name):Lb).2] 24):=by rw[hV4];exact alloc_at V3 _
       have HB4:=hid hb4;have HZ4:=hid hz4;clear hb4 hz4 hb3;refine Zbtx (rs:=[14]) (by kernel_rfl) (by simp) ?_;refine AllReadyS.cons (b:=false) (o:=_) (by simp only[List.getElem?_toArray,List.getElem?_cons_succ,List.getElem?_cons_zero];rfl) (by kernel_rfl) (λK hK=>?_) ?_
       ·go_simp;rw[<-hV4];clear hV4
        refine hK.out _ _ ?_ (λhHeld=>?_)
        ·try dsimp only
         exact⟨TwoB.below HS2.out HB4.out,λ_=>HB4.out⟩
        clear hK K
        try simp only[Act.put,sA,sZ,sS]
        have hb4:=HB4.out;have hG4:=HGV.out.below hb4;have hrow:=hG4.ri.row x;rw[HGT.out]at hrow;have hlen:(rdOf (qs++(Zdgq r).take k) x).length<=1000000:=by
         have h1:=Zdgo (qs++(Zdgq r).take k) x;have h2:((Zdgq r).take k).length<=r.ins.length:=by rw[List.length_take];unfold Zdgq;rw[List.length_map];omega
         rw[List.length_append]at h1;have:=HQ.out;omega
        obtain⟨v5,V5,hr5,ho5,hg5,hn5⟩:=Zdib (ty:=35) (ys:=[(true,r.name)]) hrow (Zdhq HZ4.out) (by simp only[List.length_cons,List.length_nil];omega) hG4.sz;have hown:∀b,(Value.slice av nv cv).ownBlock=some b->C<=b:=λb e=>(World.ownsRow.lt hrow b e).1
        have hmd5:MpS V5 md R2:=hG4.qr.heap (hg5.block md hG4.qr.lt (λe=>by have h1:=hown md e.symm;have h2:=HP.out.2.2.1;omega));obtain⟨ob,hput,hmp⟩:=hmd5.put (P:=prog) underlying89 underlying9 x v5;have hgt:=HGT.out;rw[<-hgt]at hg5 hn5;obtain⟨hG6,hst6⟩:=hG4.putReader x r.name ho5 hg5 hn5 hmp;have hgs4:g<V4.heap.size:=Nat.lt_of_lt_of_le HGS.out (HBV.out.trans (hb4.mono HBV.out.size)).size;have HTW6:=hid (show TwoB p g mr mm md (.string r.name) (.slice (some ⟨b,oo,none⟩) r.ins.length c1) (.slice a2 r.outs.length c2) vf vs _ from⟨hG6.blk,(hst6.fr.block g hgs4 HGAV.out).trans (TwoB.below HS2.out hb4).2⟩);have HST6:=hid ((HST2.out.trans (Stp.below (HBV.out.trans (hb4.mono HBV.out.size)))).trans hst6);have HRU6:=hid ((HRU.out.stp (Stp.below (HBV.out.trans (hb4.mono HBV.out.size)))).stp hst6);have HGS6:=hid (Nat.lt_of_lt_of_le hgs4 hst6.fr.size);have HGA6:=hid (λha=>HGAV.out (hst6.av g hgs4 ha));have hnx:(qs++(Zdgq r).take k) ++ [(x,r.name)]=qs++(Zdgq r).take (k+1):=by
         rw[List.append_assoc,List.take_add_one,show(Zdgq r)[k]? =some (x,r.name)from by unfold Zdgq;rw[List.getElem?_map,HX.out];rfl];rfl
        rw[hnx]at hG6;have HG6:=hid hG6;have HPU:=hid hput;have HR5:=hid hr5;have HT5:=hid (show TwoB p g mr mm md (.string r.name) (.slice (some ⟨b,oo,none⟩) r.ins.length c1) (.slice a2 r.outs.length c2) vf vs V5 from⟨(hg5.block p hG4.graph.lt (λe=>by have h1:=(World.ownsRow.lt (hG4.ri.row x) p e.symm).1;have h2:=HP.out.2.2.2;omega)).trans hG4.blk,(hg5.block g hgs4 (λe=>HGAV.out (.inr ⟨x,e.symm⟩))).trans (TwoB.below HS2.out hb4).2⟩);clear hb4 hG4 hrow hlen hr5 ho5 hg5 hn5 hown hmd5 hput hmp hgt hG6 hst6 hgs4 hnx;refine Zbtx (rs:=[15]) (by kernel_rfl) (by simp) ?_;refine AllReadyS.cons (b:=true) (o:=_) (by simp only[List.getElem?_toArray,List.getElem?_cons_succ,List.getElem?_cons_zero];rfl) (by kernel_rfl) (λK hK=>?_) ?_
        ·refine Zbxy rfl _ _ _ rfl rfl rfl HR5.out ?_
         refine hK.out _ _ ?_ (λhHeld=>?_)
         ·try dsimp only
          exact⟨HT5.out,λh=>absurd h (by simp)⟩
         clear hK K
         try simp only[Act.put,sA,sZ,sS]
         refine Zbtx (rs:=[16]) (by kernel_rfl) (by simp) ?_;refine AllReadyS.cons (b:=true) (o:=_) (by simp only[List.getElem?_toArray,List.getElem?_cons_succ,List.getElem?_cons_zero];rfl) (by kernel_rfl) (λK hK=>?_) ?_
         ·have hrun:=HPU.out;go_simp
          refine hK.out _ _ ?_ (λhHeld=>?_)
          ·try dsimp only
           exact⟨HTW6.out,λh=>absurd h (by simp)⟩
          clear hK K
          try simp only[Act.put,sA,sZ,sS]
          refine Zbtu (by kernel_rfl) ?_ _;go_wp2;go_roundw
          case rel=>exact⟨k+1,_,by omega,by go_num,HG6.out,HST6.out,HTW6.out,HRU6.out,HGS6.out,HGA6.out⟩
          case measure=>simp only[intOf];omega
         exact AllReadyS.nil
        exact AllReadyS.nil
       exact AllReadyS.nil
      exact AllReadyS.nil
     ·obtain rfl:k=r.ins.length:=by omega
      have hi:¬(r.ins.length:Int)<(r.ins.length:Int):=by omega
      rw[show(Zdgq r).take r.ins.length=Zdgq r from List.take_of_length_le (by simp[Zdgq])]at HG;go_wp2
      go_end0
      exact⟨⟨_,rfl⟩,A',R2,HG.out,HST2.out⟩
 exact AllReadyH.nil
theorem Zckm {r:RuleS} (h:Zbip r=0):r.ins.length<=8/\r.outs.length<=4/\r.after.length<=8/\r.steps.length<=12:=by
 unfold Zbip at h;split at h
 ·cases h
 split at h
 ·cases h
 rename_i h2
 have h2:Zbkx r=true:=by simpa using h2
 unfold Zbkx at h2;simp only[Bool.and_eq_true,decide_eq_true_eq]at h2;exact⟨h2.1.1.1,h2.1.1.2,h2.1.2,h2.2⟩
def GrX (w:World) (B0 p:Nat) (rs:List RuleS):Prop:=∃B C mr mm md A R,B0<=B/\GrS w B C p mr mm md A (mkM rs) R rs (Zdgj rs)
theorem GrX.below {w w':World} {B p:Nat} {rs:List RuleS} (h:GrX w B p rs) (hb:Below w.heap.size w w'):GrX w' B p rs:=by
 obtain⟨B1,C,mr,mm,md,A,R,h0,h⟩:=h;exact⟨B1,C,mr,mm,md,A,R,h0,h.below hb⟩
theorem Zdgk {rs:List RuleS} (h:∀r∈rs,r.ins.length<=8):(Zdgj rs).length<=rs.length*8:=by
 induction rs with
 | nil=>simp[Zdgj]
 | cons r rs ih=>
  have h1:=ih λr hr=>h r (List.mem_cons_of_mem _ hr)
  have h2:=h r List.mem_cons_self;unfold Zdgj at h1⊢;rw[List.flatMap_cons,List.length_append,List.length_cons,Nat.succ_mul];have h3:(Zdgq r).length=r.ins.length:=List.length_map _;omega
theorem Zdeh {rs:List RuleS} {k:Nat} {r:RuleS} (h:rs[k]? =some r):mkM (rs.take (k+1))=Zdel (mkM (rs.take k)) r:=by
 unfold mkM;rw[List.take_add_one,h,List.foldl_append];rfl
theorem Zdgm {rs:List RuleS} {k:Nat} {r:RuleS} (h:rs[k]? =some r):Zdgj (rs.take (k+1))=Zdgj (rs.take k)++Zdgq r:=by
 unfold Zdgj;rw[List.take_add_one,h,List.flatMap_append];simp
theorem Zdjr {rs:List RuleS} {k:Nat} {r:RuleS} (h:rs[k]? =some r):rs.take (k+1)=rs.take k ++ [r]:=by
 rw[List.take_add_one,h];rfl
theorem OkTog.fresh {rs:List RuleS} (h:OkTog rs) {k:Nat} {r:RuleS} (hr:rs[k]? =some r):r.name∉(rs.take k).map (·.name):=by
 intro hc;obtain⟨x,hx,he⟩:=List.mem_map.1 hc;obtain⟨i,hi,hxi⟩:=Zbya hx;exact h.names i k x r hxi hr hi he
theorem Zddz (w:World):(((w.alloc (.map #[] 0)).alloc (.map #[] 0)).alloc (.map #[] 0)).heap.size=w.heap.size+3:=by simp
theorem Zdhr {B C:Nat} {R:SKV} {W w':World} {x:RuleS} {e:Ending} (h:Zbu W w' x e) (hC:C<=W.heap.size) (ho:∀k b,(getA R k nilV).ownBlock=some b->b<W.heap.size):
  ∃vi vo vf vs,e = .returned (.agg #[.string x.name,vi,vo,vf,vs])/\RuleA (AvR B C R) w' [.string x.name,vi,vo,vf,vs] x:=by
 obtain⟨b1,m1,e1,b2,m2,e2,b3,m3,e3,b4,m4,e4,rfl,hra⟩:=Zbir h;refine⟨_,_,_,_,rfl,RuleA.mono hra ?_⟩;rintro b _ (h1|⟨k,h1⟩)
 ·show b<W.heap.size;omega
 ·exact ho k b h1
set_option maxHeartbeats 16000000
set_option maxRecDepth 100000
theorem Zdap (v:Value) (rs:List RuleS) (w:World) (hv:RulesI w v rs) (hs:∀r∈rs,SmallR r 1048576) (hn:rs.length<=1000) (ha:∀r∈rs,∀y∈r.steps,y.args.length<=1000000/\y.lits.length<=1000000) (hm:MayW w):
  Calls prog 9 #[v] w λe w'=>((Zbvn rs=0/\∃p,e = .returned (.pointer (some { block:=p,off:=0 }))/\GrX w' w.heap.size p rs)∨(Zbvn rs≠0/\e = .returned (.pointer none)))/\Below w.heap.size w w':=by
 have HC:=hid (Zja v rs w hv hs hn hm);obtain⟨sa,sc,hvv,hs1,hs2⟩:=Zbjn hv;subst hvv;unfold maxLen at hs2;have HCS:Hid (∀(k:Nat) x,rs[k]? =some x->_):=hid (λk x hx=>Zbjm hv (k:=k) (x:=x) hx);have HAR:=hid ha;obtain⟨cd,hcd⟩:∃c,(allB rs (Zot (Zbng rs))).1=c:=⟨_,rfl⟩;have hca:Zbvn rs=cd:=hcd;rw[hcd]at HC;rw[hca];have HCA:=hid hca;clear hv hs ha hm hcd hca
 go_enter func9,ntmps9
 go_wp2_with fail
 refine HC.out.mono ?_;rintro e w1 ⟨rfl,hb1⟩;have HB1:=hid hb1;clear hb1 HC
 by_cases h0:cd=0
 ·subst h0
  have hT:OkTog rs:=by
   rcases Zbvq rs with h|h
   ·exact h.1
   ·exact absurd HCA.out h.2.1
  have hsz:∀r∈rs,r.ins.length<=8/\r.outs.length<=4/\r.after.length<=8/\r.steps.length<=12:=λr hr=>Zckm (hT.each r hr)
  have hrl:=Zdgk λr hr=>(hsz r hr).1
  have hf:=hT.few;have HT:=hid hT;have HSZ:=hid hsz;have HRL:=hid hrl;obtain⟨W1,hW1⟩:∃W,W=(((w1.alloc (.map #[] 0)).alloc (.map #[] 0)).alloc (.map #[] 0)).alloc (.cells #[.map (some w1.heap.size),.map (some (w1.heap.size+1)),.map (some (w1.heap.size+2))] 91):=⟨_,rfl⟩;have hbW:Below w1.heap.size w1 W1:=by rw[hW1];exact((((Below.refl _ _).alloc (Nat.le_refl _) _).alloc (by simp<;>omega) _).alloc (by simp<;>omega) _).alloc (by simp<;>omega) _
  have hG0:GrS W1 w1.heap.size (w1.heap.size+4) (w1.heap.size+3) w1.heap.size (w1.heap.size+1) (w1.heap.size+2) [] [] [] [] []:=by
   have hz3:=Zddz w1;have k3:W1.heap[w1.heap.size+3]? =some (.cells #[.map (some w1.heap.size),.map (some (w1.heap.size+1)),.map (some (w1.heap.size+2))] 91):=by
    have:=alloc_at (((w1.alloc (.map #[] 0)).alloc (.map #[] 0)).alloc (.map #[] 0)) (.cells #[.map (some w1.heap.size),.map (some (w1.heap.size+1)),.map (some (w1.heap.size+2))] 91);rw[hz3]at this;rw[hW1];exact this
   have m0:MpS W1 w1.heap.size []:=by
    rw[hW1];exact(MpS.made w1).below ((((Below.refl _ _).alloc (Nat.le_refl _) _).alloc (by simp<;>omega) _).alloc (by simp<;>omega) _) (by simp)
   have m1:MpS W1 (w1.heap.size+1) []:=by
    have h:=MpS.made (w1.alloc (.map #[] 0));rw[World.size_alloc]at h;rw[hW1];exact h.below (((Below.refl _ _).alloc (Nat.le_refl _) _).alloc (by simp<;>omega) _) (by simp)
   have m2:MpS W1 (w1.heap.size+2) []:=by
    have h:=MpS.made ((w1.alloc (.map #[] 0)).alloc (.map #[] 0));rw[World.size_alloc,World.size_alloc]at h;rw[hW1];exact h.below ((Below.refl _ _).alloc (Nat.le_refl _) _) (by simp)
   refine⟨k3,m0,m1,m2,by omega,by omega,by omega,⟨rfl,λj e r he=>by simp at he⟩,⟨λk=>Zdfs _ _,λk=>by simp[hasA],λk k' b h=>(by cases h),λe he=>(by cases he)⟩,λe he=>(by cases he),?_⟩;rw[hW1,World.size_alloc,hz3];exact Nat.le_refl _
  have HG0:=hid hG0;have HBW:=hid (HB1.out.trans (hbW.mono HB1.out.size));have hk1:(Instr.makeMap 87 none).run prog w1 = .ok (.map (some w1.heap.size)) (w1.alloc (.map #[] 0)):=rfl;have hk2:(Instr.makeMap 88 none).run prog (w1.alloc (.map #[] 0)) = .ok (.map (some (w1.heap.size+1))) ((w1.alloc (.map #[] 0)).alloc (.map #[] 0)):=by
   have h:(Instr.makeMap 88 none).run prog (w1.alloc (.map #[] 0)) = .ok (.map (some (w1.alloc (.map #[] 0)).heap.size)) ((w1.alloc (.map #[] 0)).alloc (.map #[] 0)):=rfl;rw[World.size_alloc]at h;exact h
  have hk3:(Instr.makeMap 89 none).run prog ((w1.alloc (.map #[] 0)).alloc (.map #[] 0)) = .ok (.map (some (w1.heap.size+2))) (((w1.alloc (.map #[] 0)).alloc (.map #[] 0)).alloc (.map #[] 0)):=by
   have h:(Instr.makeMap 89 none).run prog ((w1.alloc (.map #[] 0)).alloc (.map #[] 0)) = .ok (.map (some ((w1.alloc (.map #[] 0)).alloc (.map #[] 0)).heap.size)) (((w1.alloc (.map #[] 0)).alloc (.map #[] 0)).alloc (.map #[] 0)):=rfl;rw[World.size_alloc,World.size_alloc]at h;exact h
  clear hT hsz hrl hbW hG0
  go_wp2_with fail
  go_loopw [22] (λiv wr=>∃(k:Nat) (A R:SKV),k<=rs.length/\iv = .int .i64 (k:Int)/\GrS wr w1.heap.size (w1.heap.size+4) (w1.heap.size+3) w1.heap.size (w1.heap.size+1) (w1.heap.size+2) A (mkM (rs.take k)) R (rs.take k) (Zdgj (rs.take k))/\Below w.heap.size w wr) (λiv _=>rs.length-(intOf iv).toNat)
  case atStart=>rw[<-hW1];exact⟨0,[],[],Nat.zero_le _,rfl,HG0.out,HBW.out⟩
  case round=>
   obtain⟨k,A,R,hk,rfl,hG,hbw⟩:=hrel;have HG:=hid hG;have HB:=hid hbw;clear hG hbw
   by_cases hlt:k<rs.length
   ·obtain⟨x,hx⟩:∃x,rs[k]? =some x:=⟨rs[k],List.getElem?_eq_getElem hlt⟩
    have hi1:(k:Int)<(rs.length:Int):=by omega
    have hi0:(0:Int)<=(k:Int):=by omega
    obtain⟨g,o,cap,a1,c1,a2,c2,a3,c3,a4,c4,hv,hg,hR,hc⟩:=HCS.out k x hx;obtain⟨d0,d1,d2,d3,d4⟩:=hc _ HB.out
    cases hv
    obtain⟨V1,hV1⟩:∃V,V=wr.alloc (.cells #[.string x.name,.slice a1 x.ins.length c1,.slice a2 x.outs.length c2,.slice a3 x.after.length c3,.slice a4 x.steps.length c4] 50):=⟨_,rfl⟩;have hbV:Below wr.heap.size wr V1:=by rw[hV1];exact(Below.refl _ _).alloc (Nat.le_refl _) _
    have hR1:=hR.below (HB.out.trans (hbV.mono HB.out.size));obtain⟨_,_,_,_,e4,q1,q2,q3,q4⟩:=hR1;simp only[List.cons.injEq,and_true,true_and]at e4;obtain⟨rfl,rfl,rfl,rfl⟩:=e4;have hxm:=List.mem_of_getElem? hx;have hz:=HSZ.out x hxm;have cC:=Zcxx x a1 a2 a3 a4 _ c1 _ c2 _ c3 _ c4 V1 q1 q2 q3 q4 (by omega) (by omega) (by omega) (by omega) (HAR.out x hxm);have CC:=hid cC;have HX:=hid hx;have HV:=hid hbV;have HZ:=hid hz;clear hc hR q1 q2 q3 q4 hxm hz cC hx hbV hg
    go_wp2_with fail
    rw[<-hV1];clear hV1;refine CC.out.mono ?_;rintro e w2 ⟨hE,hb2⟩;have hB2:Below wr.heap.size wr w2:=HV.out.trans (hb2.mono HV.out.size);have hG2:=HG.out.below hB2;obtain⟨vi,vo,vf,vs,rfl,hru⟩:=Zdhr (B:=w1.heap.size) (C:=w1.heap.size+4) (R:=R) hE (Nat.le_trans HG.out.sz HV.out.size) (λk b h=>Nat.lt_of_lt_of_le (World.ownsRow.lt (HG.out.ri.row k) b h).2 HV.out.size);have hq:(Zdgj (rs.take k)).length+x.ins.length<=1000000:=by
     have h1:=Zdgk (rs:=rs.take k) (λr hr=>(HSZ.out r (List.mem_of_mem_take hr)).1);rw[List.length_take]at h1;have:=HZ.out;omega
    have cA:=Zdag w1.heap.size (w1.heap.size+4) (w1.heap.size+3) w1.heap.size (w1.heap.size+1) (w1.heap.size+2) A (mkM (rs.take k)) R (rs.take k) (Zdgj (rs.take k)) x vi vo vf vs w2 hG2 hru (HT.out.fresh HX.out) hq (by have:=HZ.out;omega);have CA:=hid cA;have HB2:=hid hB2;clear CC hE hb2 hB2 hG2 hru hq cA
    go_wp2_with fail
    refine CA.out.mono ?_;rintro e w3 ⟨⟨u,rfl⟩,A',R',hG3,hst3⟩;rw[<-Zdeh HX.out,<-Zdgm HX.out,<-Zdjr HX.out]at hG3;have hB3:Below w1.heap.size w2 w3:=hst3.under (Nat.le_trans (Nat.le_trans (Nat.le_add_right _ 4) HG.out.sz) HB2.out.size) (λk b h=>by have:=(World.ownsRow.lt (HG.out.ri.row k) b h).1;omega);have HG3:=hid hG3;have HB3:=hid ((HB.out.trans (HB2.out.mono HB.out.size)).trans (hB3.mono HB1.out.size));clear CA hG3 hst3 hB3;go_wp2;go_roundw
    case rel=>exact⟨k+1,A',R',by omega,by go_num,HG3.out,HB3.out⟩
    case measure=>simp only[intOf];omega
   ·obtain rfl:k=rs.length:=by omega
    have hi1:¬(rs.length:Int)<(rs.length:Int):=by omega
    rw[List.take_length]at HG;go_wp2;go_ret;exact⟨⟨_,rfl,_,_,_,_,_,_,_,HB1.out.size,HG.out⟩,HB.out⟩
 ·go_wp2
  go_ret;exact⟨.inr ⟨h0,rfl⟩,HB1.out⟩
def labR (r:RuleS):List Lb:=(true,r.name)::(Zcyo r.ins++Zcyo r.outs)
def labE (rs:List RuleS) (n:ByteArray):List Lb:=match rs.find? (λr=>decide (r.name=n))with
 | some r=>labR r
 | none=>[]
def labS (rs:List RuleS) (S:SKV):List Lb:=S.flatMap λe=>labE rs e.1
theorem Zcwt (ls xs ys:List Lb):Zcws ls (xs++ys)=Zcws (Zcws ls xs) ys:=by unfold Zcws;rw[List.foldl_append]
theorem Zdim {L:SKV} {k v:Value} (h:(k,v)∈skv L):∃e∈L,k = .string e.1/\v=e.2:=by
 obtain⟨x,hx,e⟩:=List.mem_map.1 h
 cases e
 exact⟨x,hx,rfl,rfl⟩
theorem Zdik {S L:SKV} (hp:(skv S).Perm (skv L)):(S.map (·.1)).Perm (L.map (·.1)):=by
 have hnames:∀M:SKV,(skv M).map (λp:KV=>match p.1 with | .string s=>s|_=>(⟨#[]⟩:ByteArray))=M.map (·.1):=λM=>by
  unfold skv;rw[List.map_map];rfl
 have:=hp.map (λp:KV=>match p.1 with | .string s=>s|_=>(⟨#[]⟩:ByteArray))
 rwa [hnames,hnames]at this
theorem Zczl {rs:List RuleS} (hn:(rs.map (·.name)).Nodup) {r:RuleS} (hr:r∈rs):rs.find? (λx=>decide (x.name=r.name))=some r:=by
 induction rs with
 | nil=>cases hr
 | cons a rs ih=>
  rw[List.map_cons,List.nodup_cons]at hn;rw[List.find?_cons]
  rcases List.mem_cons.1 hr with rfl|hr
  ·simp
  ·have:a.name≠r.name:=λe=>hn.1 (by rw[e];exact List.mem_map_of_mem hr)
   rw[decide_eq_false this];exact ih hn.2 hr
theorem OkTog.nodup {rs:List RuleS} (h:OkTog rs):(rs.map (·.name)).Nodup:=by
 unfold List.Nodup;rw[List.pairwise_iff_getElem];intro i j hi hj hij;rw[List.length_map]at hi hj;rw[List.getElem_map,List.getElem_map];exact h.names i j _ _ (List.getElem?_eq_getElem hi) (List.getElem?_eq_getElem hj) hij
theorem Zdbx {rs:List RuleS} (hn:(rs.map (·.name)).Nodup) {r:RuleS} (hr:r∈rs):labE rs r.name=labR r:=by
 unfold labE;rw[Zczl hn hr]
theorem Zdcb {rs:List RuleS} {S:SKV} (hn:(rs.map (·.name)).Nodup) (hp:(S.map (·.1)).Perm (rs.map (·.name))):setL (labS rs S)=setL (rs.flatMap labR):=by
 refine Zdhk (Zdhm _) (Zdhm _) λx=>?_
 rw[Zdef,Zdef];unfold labS;rw[List.mem_flatMap,List.mem_flatMap];constructor
 ·rintro⟨e,he,hx⟩
  obtain⟨r,hr,e1⟩:=List.mem_map.1 (hp.mem_iff.1 (List.mem_map_of_mem he));rw[<-e1,Zdbx hn hr]at hx;exact⟨r,hr,hx⟩
 ·rintro⟨r,hr,hx⟩
  obtain⟨e,he,e1⟩:=List.mem_map.1 (hp.mem_iff.2 (List.mem_map_of_mem hr));refine⟨e,he,?_⟩;rw[e1,Zdbx hn hr];exact hx
theorem Zdca {rs:List RuleS} (h:∀r∈rs,r.ins.length<=8/\r.outs.length<=4):∀(S:SKV),(labS rs S).length<=S.length*13
 | []=>by simp[labS]
 | e::S=>by
  have h1:=Zdca h S;unfold labS at h1⊢;rw[List.flatMap_cons,List.length_append,List.length_cons,Nat.succ_mul];have h2:(labE rs e.1).length<=13:=by
   unfold labE;split
   ·rename_i r hr
    have:=h r (List.mem_of_find?_eq_some hr);unfold labR;rw[List.length_cons,List.length_append,Zcyp,Zcyp];omega
   ·simp
  omega
theorem AIs.entry {Av:Nat->Prop} {w:World} {A:SKV} {rs:List RuleS} (h:AIs Av w A rs) {e:ByteArray×Value} (he:e∈A):
  ∃r∈rs,e.1=r.name/\∃a1 c1 a2 c2 a3 n3 c3 a4 n4 c4,e.2 = .agg #[.string r.name,.slice a1 r.ins.length c1,.slice a2 r.outs.length c2,.slice a3 n3 c3,.slice a4 n4 c4]/\IsStrs w (.slice a1 r.ins.length c1) r.ins/\IsStrs w (.slice a2 r.outs.length c2) r.outs:=by
 obtain⟨j,hj,hje⟩:=List.mem_iff_getElem.1 he;have hk:j<rs.length:=by rw[<-h.1];exact hj
 obtain⟨h1,vi,vo,vf,vs,h2,h3⟩:=h.2 j e _ (by rw[List.getElem?_eq_getElem hj,hje]) (List.getElem?_eq_getElem hk);refine⟨_,List.getElem_mem hk,h1,?_⟩;obtain⟨_,_,_,_,h4,h5,h6,h7,h8⟩:=h3;simp only[List.cons.injEq,and_true,true_and]at h4;obtain⟨rfl,rfl,rfl,rfl⟩:=h4;obtain⟨a1,c1,e1⟩:=Zue h5.isStrs;obtain⟨a2,c2,e2⟩:=Zue h6.isStrs;obtain⟨a3,c3,rfl⟩:=Zue h7.isStrs;subst e1;subst e2;obtain⟨rows,hrow,hall⟩:=h8;obtain⟨a4,c4,rfl,_⟩:=hrow.1;exact⟨a1,c1,a2,c2,a3,_,c3,a4,_,c4,h2,h5.isStrs,h6.isStrs⟩
structure AlS (w0:World) (mr it:Nat) (A S:SKV) (ls:List Lb) (W:World):Prop where
 c:W.cell? { block:=w0.heap.size,off:=0 } =some (.map (some (w0.heap.size+1)))
 lm:LM W (w0.heap.size+1) ls
 ri:RI W mr it (skv A) (skv S)
 b:Below w0.heap.size w0 W
section
variable {w0 W W':World} {mr it:Nat} {A S:SKV} {ls:List Lb}
theorem AlS.below (h:AlS w0 mr it A S ls W) (hb:Below W.heap.size W W'):AlS w0 mr it A S ls W':=
 ⟨(hb.cell (World.block_lt_of_cell? _ _ h.c)).trans h.c,h.lm.below hb h.lm.1.lt,h.ri.below hb h.ri.rm.lt h.ri.lt,h.b.trans (hb.mono h.b.size)⟩
theorem AlS.add (h:AlS w0 mr it A S ls W) (hit:w0.heap.size+1<it) (hmr:mr<w0.heap.size) {ls':List Lb} (hc:W'.cell? { block:=w0.heap.size,off:=0 } =some (.map (some (w0.heap.size+1)))) (hl:LM W' (w0.heap.size+1) ls') (hk:KeepBut W.heap.size (w0.heap.size+1) W W'):AlS w0 mr it A S ls' W':=by
 have hl1:=h.ri.lt;have hl2:=h.ri.rm.lt;have hg:W.grownBy W' (some (w0.heap.size+1)):=hk.grown (Nat.le_refl _);exact⟨hc,hl,h.ri.heap (hg.block mr hl2 (by simp;omega)) (hg.block it hl1 (by simp;omega)),h.b.grown hg h.b.size (λk e=>by cases e;omega)⟩
theorem AlS.set (h:AlS w0 mr it A S ls W):SetM W w0.heap.size ls:=⟨w0.heap.size+1,h.c,by omega,h.lm⟩
end
set_option maxHeartbeats 16000000
set_option maxRecDepth 100000
theorem Zdah (B p:Nat) (rs:List RuleS) (w:World) (h:GrX w B p rs) (hT:OkTog rs):
  Calls prog 13 #[.pointer (some { block:=p,off:=0 })] w λe w'=>∃v',e = .returned v'/\OwnL w.heap.size w' v' (setL (rs.flatMap labR))/\Below w.heap.size w w':=by
 obtain⟨B1,C,mr,mm,md,A,R,_,hG⟩:=h;have hsz:∀r∈rs,r.ins.length<=8/\r.outs.length<=4:=λr hr=>⟨(Zckm (hT.each r hr)).1,(Zckm (hT.each r hr)).2.1⟩
 have HEN:=hid (λe he=>hG.ai.entry (e:=e) he);have HSZ:=hid hsz;have hAl:A.length<=40:=by rw[hG.ai.1];exact hT.few
 have hnd:=hT.nodup;have hkeys:=hG.ai.keys;have HND:=hid hnd;have HKEYS:=hid hkeys;have hmr:=hG.qa.lt;have hplt:=hG.graph.lt;have HMA:=hid hG.qa.1;have HBK:=hid hG.blk;have hq:=λw=>Zcym (b:=p) w
 have HCN:=hid (Zdci [] none 0 w (λi x hx=>by simp at hx) (by simp));clear hG hsz hnd hkeys hT
 go_enter func13,ntmps13
 go_wp2_with fail
 refine HCN.out.mono ?_;rintro e w1 ⟨rfl,hc1,hl1,hb1⟩;have hs1:w.heap.size+1<w1.heap.size:=hl1.1.lt;have hbk1:=(hb1.block p hplt).trans HBK.out;have b0:w1.cell? { block:=p,off:=0 } =some (.map (some mr)):=by simp[World.cell?,hbk1]
 obtain⟨ob,hrng,hri⟩:=(RM.below HMA.out hb1 hmr).range (P:=prog) underlying87;have hA0:AlS w mr w1.heap.size A [] [] (w1.alloc ob):=by
  have hb:=(Below.refl w1.heap.size w1).alloc (Nat.le_refl _) ob;exact⟨(hb.cell (World.block_lt_of_cell? _ _ hc1)).trans hc1,hl1.below hb hl1.1.lt,hri,hb1.trans (hb.mono hb1.size)⟩
 have HA0:=hid hA0;clear HCN HMA HBK hc1 hl1 hb1 hbk1 hri hA0
 go_wp2_with fail
 go_loopw [14] (λ_ wr=>∃S:SKV,(∀e∈S,e∈A)/\AlS w mr w1.heap.size A S (Zcws [] (labS rs S)) wr) (λ_ wr=>A.length-seenN wr w1.heap.size)
 case atStart=>exact⟨[],λe he=>(by cases he),HA0.out⟩
 case round=>
  obtain⟨S,hSA,hS⟩:=hrel;obtain⟨WR,rfl⟩:∃V,V=wr:=⟨_,rfl⟩;have hsn:=hS.ri.seenN
  rcases hS.ri.next (P:=prog) 0 with⟨hperm,hrun⟩|⟨k,v,W2,hkv,hlt,hrun,hri2,hgr,hsz,hen⟩
  ·have hpk:=Zdik hperm
   rw[HKEYS.out]at hpk;have hset:=Zdcb HND.out hpk;have hSl:S.length<=40:=by
    have h1:=hperm.length_eq;rw[Zdil,Zdil]at h1;omega
   have hll:=(Zcwu [] (labS rs S)).2;have hl2:=Zdca HSZ.out S;simp only[List.length_nil,Nat.zero_add]at hll;have CA:=Zdch w.heap.size (Zcws [] (labS rs S)) WR hS.set (by omega);rw[Zdio,hset]at CA;have HCA:=hid CA;have HB:=hid hS.b;clear hpk hset hll hl2 CA hS hperm hsn hSA hSl
   go_wp2_with fail
   refine HCA.out.mono ?_;rintro e w2 ⟨v,rfl,ho,hb2⟩;have HO:=hid (Zbdt ho HB.out.size);have HB2:=hid (HB.out.trans (hb2.mono HB.out.size));clear ho hb2;go_wp2;go_ret;exact⟨_,rfl,HO.out,HB2.out⟩
  ·obtain⟨e,he,rfl,rfl⟩:=Zdim hkv
   obtain⟨r,hr,hen1,a1,c1,a2,c2,a3,n3,c3,a4,n4,c4,hev,hi1,hi2⟩:=HEN.out e he;have hlt2:S.length<40:=by rw[Zdil,Zdil]at hlt;omega
   have hll:=(Zcwu [] (labS rs S)).2;have hl2:=Zdca HSZ.out S;simp only[List.length_nil,Nat.zero_add]at hll;have hrz:=HSZ.out r hr;have hlab:labS rs (S ++ [e])=labS rs S++([(true,r.name)]++Zcyo r.ins++Zcyo r.outs):=by
    unfold labS;rw[List.flatMap_append];simp only[List.flatMap_cons,List.flatMap_nil,List.append_nil];rw[hen1,Zdbx HND.out hr];rfl
   rw[show skv S ++ [(Value.string e.1,e.2)]=skv (S ++ [e]) by simp[skv]]at hri2;have hS2:AlS w mr w1.heap.size A (S ++ [e]) (Zcws [] (labS rs S)) W2:=by
    have h1:w1.heap.size≠w.heap.size:=by omega
    exact⟨(World.cell?_of_block (hgr.block w.heap.size (World.block_lt_of_cell? _ _ hS.c) (by simp;omega))).trans hS.c,⟨hS.lm.1.heap (hgr.block _ hS.lm.1.lt (by simp;omega)),hS.lm.2⟩,hri2,hS.b.grown hgr hS.b.size (λk e=>by cases e;omega)⟩
   have hsn2:=hri2.seenN;have hin2:∀x∈S ++ [e],x∈A:=λx hx=>by
    rcases List.mem_append.1 hx with hx|hx
    ·exact hSA x hx
    ·simp at hx;subst hx;exact he
   have hsl2:(S ++ [e]).length<=A.length:=by rw[Zdil,Zdil]at hlt;rw[List.length_append];simp;omega
   have HM:Hid (A.length-seenN W2 w1.heap.size<A.length-seenN WR w1.heap.size):=by
    show _<_;rw[hsn,hsn2,Zdil,Zdil];rw[List.length_append]at hsl2⊢;simp only[List.length_cons,List.length_nil]at hsl2⊢;omega
   obtain⟨W3,hW3⟩:∃V,V=W2.alloc (.cells #[.string r.name,.slice a1 r.ins.length c1,.slice a2 r.outs.length c2,.slice a3 n3 c3,.slice a4 n4 c4] 50):=⟨_,rfl⟩;have hb23:Below W2.heap.size W2 W3:=by rw[hW3];exact(Below.refl _ _).alloc (Nat.le_refl _) _
   have hbx:W3.heap[W2.heap.size]? =some (.cells #[.string r.name,.slice a1 r.ins.length c1,.slice a2 r.outs.length c2,.slice a3 n3 c3,.slice a4 n4 c4] 50):=by rw[hW3];exact alloc_at W2 _
   have hit:w.heap.size+1<w1.heap.size:=hs1;have hsz2:w1.heap.size<W2.heap.size:=hri2.lt;have HBX:=hid hbx;have HS3:=hid (hS2.below hb23);have HI1:=hid hi1;have HI2:=hid hi2;have HIN2:=hid hin2;have HLAB:=hid hlab;have HLL:=hid (Nat.le_trans hll hl2);have HRZ:=hid hrz;have HSL:=hid hlt2;have hsn2':=hid hsn2;rw[hen1,hev]at hen;clear hS hkv hlt hri2 hgr hsz hsn hsn2 hS2 hb23 hbx hi1 hi2 hin2 hlab hll hl2 hrz hlt2 hsl2 hev hen1 he hr
   go_wp2_with fail
   rw[<-hW3];clear hW3;refine(Zdhw r.name W3).mono ?_;rintro e4 W4 ⟨rfl,hb4⟩;obtain⟨W5,hW5⟩:∃V,V=W4.alloc (.cells #[.bool true,.string r.name] 24):=⟨_,rfl⟩;have hb35:Below W3.heap.size W3 W5:=by rw[hW5];exact hb4.alloc hb4.size _
   have hz5:W5.heap[W4.heap.size]? =some (.cells #[.bool ((true,r.name):Lb).1,.string ((true,r.name):Lb).2] 24):=by rw[hW5];exact alloc_at W4 _
   have hlt4:W4.heap.size<W5.heap.size:=(Array.getElem?_eq_some_iff.1 hz5).1;have hr5:RowL W5 (some ⟨W4.heap.size,0,none⟩) [(true,r.name)]:=by
    obtain⟨a,c,q,_,_,h1,_⟩:=Zdfu (Zdft (B:=0) hz5 (Nat.zero_le _))
    cases q
    exact h1
   have hA5:=HS3.out.below hb35;have hw3:=(Array.getElem?_eq_some_iff.1 HBX.out).1;have h34:=hb4.size;have cA5:=Zdcf w.heap.size (w.heap.size+1) _ [(true,r.name)] (some ⟨W4.heap.size,0,none⟩) 1 W5 hA5.c (by omega) hA5.lm hr5 (λ_ b e=>by cases e;constructor<;>(show W4.heap.size≠_;omega)) (by have:=HLL.out;have:=HSL.out;simp only[List.length_cons,List.length_nil];omega);have hbx5:=(hb35.block _ hw3).trans HBX.out;have HA5:=hid hA5;have CA5:=hid cA5;have HBX5:=hid hbx5;have HWS:=hid (show W2.heap.size<W5.heap.size from Nat.lt_of_lt_of_le hw3 (Nat.le_trans h34 (Nat.le_of_lt hlt4)));clear hb4 hb35 hz5 hlt4 hr5 hA5 hw3 h34 cA5 hbx5 HS3 HBX
   go_wp2_with fail
   rw[<-hW5];clear hW5;refine CA5.out.mono ?_;rintro e6 W6 ⟨rfl,hc6,hl6,hk6⟩;have hA6:=HA5.out.add hit hmr hc6 hl6 hk6;have hbx6:=(hk6.block W2.heap.size HWS.out (by have:=HWS.out;omega) (by omega)).trans HBX5.out;have d1:W6.cell? { block:=W2.heap.size,off:=1 } =some (.slice a1 r.ins.length c1):=by simp[World.cell?,hbx6]
   have cF:=Zcyn _ r.ins W6 (HI1.out.below hA6.b) (by have:=HRZ.out;omega);have CF:=hid cF;have HL6:=hid (show(Zcws (Zcws [] (labS rs S)) [(true,r.name)]).length<=600 from by have h1:=(Zcwu (Zcws [] (labS rs S)) [(true,r.name)]).2;have h2:=HLL.out;have h3:=HSL.out;simp only[List.length_cons,List.length_nil]at h1;omega);have HZ6:=hid (show W2.heap.size<W6.heap.size from Nat.lt_of_lt_of_le HWS.out hk6.size);have HA6:=hid hA6;have HBX6:=hid hbx6;clear hc6 hl6 hk6 hA6 hbx6 cF CA5 HA5 HBX5
   go_wp2_with fail
   refine CF.out.mono ?_;rintro e7 W7 ⟨v7,rfl,ho7,hb7⟩;obtain⟨a7,k7,q7,_,_,hr7,ha7⟩:=Zdfu ho7;subst q7;have hA7:=HA6.out.below hb7;have hz6:=HZ6.out;have h67:=hb7.size;have cA7:=Zdcf w.heap.size (w.heap.size+1) _ (Zcyo r.ins) a7 k7 W7 hA7.c (by omega) hA7.lm hr7 (λ_ b e=>by have:=(ha7 b e).1;constructor<;>omega) (by have:=HL6.out;have:=HRZ.out;rw[Zcyp];omega);have hbx7:=(hb7.block _ hz6).trans HBX6.out;have HA7:=hid hA7;have CA7:=hid cA7;have HBX7:=hid hbx7;have HZ7:=hid (show W2.heap.size<W7.heap.size from Nat.lt_of_lt_of_le hz6 h67);clear ho7 hb7 hr7 ha7 hA7 hz6 h67 cA7 hbx7 CF HA6 HBX6
   go_wp2_with fail
   refine CA7.out.mono ?_;rintro e8 W8 ⟨rfl,hc8,hl8,hk8⟩;have hA8:=HA7.out.add hit hmr hc8 hl8 hk8;have hbx8:=(hk8.block W2.heap.size HZ7.out (by have:=HZ7.out;omega) (by omega)).trans HBX7.out;have d2:W8.cell? { block:=W2.heap.size,off:=2 } =some (.slice a2 r.outs.length c2):=by simp[World.cell?,hbx8]
   have cG:=Zcyn _ r.outs W8 (HI2.out.below hA8.b) (by have:=HRZ.out;omega);have CG:=hid cG;have HL8:=hid (show(Zcws (Zcws (Zcws [] (labS rs S)) [(true,r.name)]) (Zcyo r.ins)).length<=700 from by have h1:=(Zcwu (Zcws (Zcws [] (labS rs S)) [(true,r.name)]) (Zcyo r.ins)).2;have h2:=HL6.out;have h3:=HRZ.out;rw[Zcyp]at h1;omega);have HZ8:=hid (show W2.heap.size<W8.heap.size from Nat.lt_of_lt_of_le HZ7.out hk8.size);have HA8:=hid hA8;clear hc8 hl8 hk8 hA8 hbx8 cG CA7 HA7 HBX7 d1
   go_wp2_with fail
   refine CG.out.mono ?_;rintro e9 W9 ⟨v9,rfl,ho9,hb9⟩;obtain⟨a9,k9,q9,_,_,hr9,ha9⟩:=Zdfu ho9;subst q9;have hA9:=HA8.out.below hb9;have hz8:=HZ8.out;have h89:=hb9.size;have cA9:=Zdcf w.heap.size (w.heap.size+1) _ (Zcyo r.outs) a9 k9 W9 hA9.c (by omega) hA9.lm hr9 (λ_ b e=>by have:=(ha9 b e).1;constructor<;>omega) (by have:=HL8.out;have:=HRZ.out;rw[Zcyp];omega);have HA9:=hid hA9;have CA9:=hid cA9;clear ho9 hb9 hr9 ha9 hA9 hz8 h89 cA9 CG HA8 d2
   go_wp2_with fail
   refine CA9.out.mono ?_;rintro e10 W10 ⟨rfl,hc10,hl10,hk10⟩;have hA10:=HA9.out.add hit hmr hc10 hl10 hk10;rw[<-Zcwt,<-Zcwt,<-Zcwt,<-List.append_assoc [(true,r.name)],<-HLAB.out]at hA10;have hsn10:=hA10.ri.seenN;have HA10:=hid hA10;have HM10:Hid (A.length-seenN W10 w1.heap.size<A.length-seenN WR w1.heap.size):=by
    show _<_;have:=HM.out;rw[hsn2'.out]at this;rw[hsn10];exact this
   clear hc10 hl10 hk10 hA10 hsn10 CA9 HA9;go_wp2;go_roundw
   case rel=>exact⟨S ++ [e],HIN2.out,HA10.out⟩
   case measure=>exact HM10.out
end Go.Proofs.YtokogjhcidkckaaGreatDoor
