import Derived.Test.YtphjfaoghphleaaGreatDoorMba
set_option maxRecDepth 100000
set_option maxHeartbeats 16000000
namespace Go.Proofs.YtphjfaoghphleaaGreatDoor
open Go.Lib (hid)
open Go.Proofs.Tryz Go.RowKit Go.Shelf
def TwoB (p g mr mm md:Nat) (u0 u1 u2 u3 u4:Value) (V:World):Prop:=
 V.heap[p]? =some (.cells #[.map (some mr),.map (some mm),.map (some md)] 90)/\V.heap[g]? =some (.cells #[u0,u1,u2,u3,u4] 50)
theorem TwoB.cells {p g e d c:Nat} {u0 u1 u2 u3 u4:Value} {V:World} (h:TwoB p g e d c u0 u1 u2 u3 u4 V):
  (V.cell? { block:=p,off:=0 } =some (.map (some e))/\V.cell? { block:=p,off:=1 } =some (.map (some d))/\V.cell? { block:=p,off:=2 } =some (.map (some c)))/\
  (V.cell? { block:=g,off:=0 } =some u0/\V.cell? { block:=g,off:=1 } =some u1/\V.cell? { block:=g,off:=2 } =some u2/\V.cell? { block:=g,off:=3 } =some u3/\V.cell? { block:=g,off:=4 } =some u4):=by
 obtain⟨b,a⟩:=h;exact⟨⟨by simp[World.cell?,b],by simp[World.cell?,b],by simp[World.cell?,b]⟩,by simp[World.cell?,a],by simp[World.cell?,a],by simp[World.cell?,a],by simp[World.cell?,a],by simp[World.cell?,a]⟩
theorem TwoB.below {p g d c b:Nat} {u0 u1 u2 u3 u4:Value} {V V':World} (h:TwoB p g d c b u0 u1 u2 u3 u4 V) (a:Below V.heap.size V V'):TwoB p g d c b u0 u1 u2 u3 u4 V':=
 ⟨(a.block p (Array.getElem?_eq_some_iff.1 h.1).1).trans h.1,(a.block g (Array.getElem?_eq_some_iff.1 h.2).1).trans h.2⟩
theorem Zdag (B C p U X H:Nat) (A M R:SKV) (rs:List RuleS) (qs:RdL) (r:RuleS) (vi vo W vs:Value) (w:World) (h:GrS w B C p U X H A M R rs qs) (hr:RuleA (AvR B C R) w [.string r.name,vi,vo,W,vs] r)
  (hn:r.name∉rs.map (·.name)) (hq:qs.length+r.ins.length<=1000000) (ho:r.outs.length<=1000000):
  Calls prog 51 #[.pointer (some { block:=p,off:=0 }),.agg #[.string r.name,vi,vo,W,vs]] w λe w'=>(∃u,e = .returned u)/\∃A' R',GrS w' B C p U X H A' (Zdel M r) R' (rs ++ [r]) (qs++Zdgq r)/\Stp B C R R' w w':=by
 have mixed:prog.follows .mixedOrders=true:=by kernel_rfl
 obtain⟨W0,ah⟩:∃V,V=w.alloc (.cells #[.string r.name,vi,vo,W,vs] 50):=⟨_,rfl⟩;obtain⟨g,hg⟩:∃g,g=w.heap.size:=⟨_,rfl⟩;have ax:Below w.heap.size w W0:=by rw[ah];exact(Below.refl _ _).alloc (Nat.le_refl _) _
 have aS:W0.heap[g]? =some (.cells #[.string r.name,vi,vo,W,vs] 50):=by rw[ah,hg];exact alloc_at w _
 have a9:=h.below ax;have aj:=hr.stp (Stp.below ax);have aP:C<=g:=by rw[hg];exact h.sz
 have a0:¬AvR B C R g:=by
  rintro(h1|⟨k,h1⟩)
  ·omega
  ·have:=(World.ownsRow.lt (h.ri.row k) g h1).2;omega
 have bj:=hid (Stp.below (B:=B) (C:=C) (R:=R) ax);have HP:=hid h.hi;have bh:=hid h.lo;obtain⟨_,_,_,_,e4,ab,ac,_,_⟩:=id aj;simp only[List.cons.injEq,and_true,true_and]at e4;obtain⟨rfl,rfl,rfl,rfl⟩:=e4;obtain⟨a1,c1,rfl⟩:=Zue ab.isStrs;obtain⟨a2,c2,rfl⟩:=Zue ac.isStrs;have bo:=hid ab;have bp:=hid ac;have bq:=hid aj;have HN:=hid hn;have HQ:=hid hq;have I:=hid a0;have ba:=hid aP;obtain⟨V0,au⟩:∃V,V=W0.drew:=⟨_,rfl⟩;have d:Below W0.heap.size W0 V0:=by rw[au];exact(Below.refl _ _).drew
 have O:=a9.below d;obtain⟨ob,f,T⟩:=O.qa.put (P:=prog) underlying86 underlying9 r.name (.agg #[.string r.name,.slice a1 r.ins.length c1,.slice a2 r.outs.length c2,W,vs]);have ag:=O.putRule (aj.stp (Stp.below d)) hn T;have an:Stp B C R R V0 _:=Zdji R V0 ob ⟨h.lo.1,h.hi.1⟩;have a8:=hid (show TwoB p g U X H _ _ _ _ _ V0 from TwoB.below ⟨a9.blk,aS⟩ d);have ae:=hid (show TwoB p g U X H _ _ _ _ _ _ from⟨ag.blk,(Zdih V0 U ob (by have:=h.hi.1;omega)).trans a8.out.2⟩);have af:=hid ((bj.out.trans (Stp.below d)).trans an);have a7:=hid ((aj.stp (Stp.below d)).stp an);obtain⟨V1,aQ⟩:∃V,V=({ V0 with heap:=V0.heap.setIfInBounds U ob }:World):=⟨_,rfl⟩;rw[<-aQ]at f ag ae af a7;obtain⟨A',aO⟩:∃A',A'=A ++ [(r.name,Value.agg #[.string r.name,.slice a1 r.ins.length c1,.slice a2 r.outs.length c2,W,vs])]:=⟨_,rfl⟩;rw[<-aO]at ag;have aJ:=hid f;have aE:=hid ag;have HW:=hid ah;have bd:=hid hg;clear h hr hn hq ax aS a9 aj aP a0 ab ac d O f T ag an aQ aO hg
 go_enter func51,ntmps51
 go_wp2_with fail
 rw[<-ah,<-bd.out];clear ah;refine wp_region_held_drew (S:=λV=>TwoB p g U X H (.string r.name) (.slice a1 r.ins.length c1) (.slice a2 r.outs.length c2) W vs V) (by kernel_rfl) ?_ (λhHeld=>?_)
 ·rw[<-au];exact a8.out
 rw[<-au]at hHeld⊢;clear au;refine tkK 0 ?_;refine tkK 1 ?_;refine tkK 2 ?_
 try simp only[Act.put,sA,sZ,sS]
 refine tkH 3 (v:=?_) ?_ ?_;rotate_left
 ·intro w a;obtain⟨⟨l,n,o⟩,q,s,t,y,z⟩:=TwoB.cells a;go_simp;try with_reducible rfl
 try simp only[Act.put,sA,sZ,sS]
 refine tkK 4 ?_
 try simp only[Act.put,sA,sZ,sS]
 refine tkH 5 (v:=?_) ?_ ?_;rotate_left
 ·intro w a;obtain⟨⟨l,n,o⟩,q,s,t,y,z⟩:=TwoB.cells a;go_simp;try with_reducible rfl
 try simp only[Act.put,sA,sZ,sS]
 refine tkH 6 (v:=?_) ?_ ?_;rotate_left
 ·intro w a;obtain⟨⟨l,n,o⟩,q,s,t,y,z⟩:=TwoB.cells a;go_simp;try with_reducible rfl
 try simp only[Act.put,sA,sZ,sS]
 refine rdH [7] ?_;refine rcH (λK D=>?_) ?_
 ·have al:=aJ.out;go_simp
  refine D.out _ _ ?_ (λhHeld=>?_)
  ·try dsimp only
   exact ae.out
  clear D K
  try simp only[Act.put,sA,sZ,sS]
  refine wpAnyH_done (by kernel_rfl) ?_ _;obtain⟨⟨l,n,o⟩,q,s,t,y,z⟩:=TwoB.cells ae.out
  go_wp2_with fail
  clear l n o q s t y z
  go_loopw [18] (λiv wr=>∃k:Nat,k<=r.outs.length/\iv = .int .i64 (k:Int)/\GrS wr B C p U X H A' ((r.outs.take k).foldl (Zdej r.name) M) R (rs ++ [r]) qs/\Stp B C R R w wr/\TwoB p g U X H (.string r.name) (.slice a1 r.ins.length c1) (.slice a2 r.outs.length c2) W vs wr/\RuleA (AvR B C R) wr [.string r.name,.slice a1 r.ins.length c1,.slice a2 r.outs.length c2,W,vs] r) (λiv _=>r.outs.length-(intOf iv).toNat)
  case atStart=>exact⟨0,Nat.zero_le _,rfl,aE.out,af.out,ae.out,a7.out⟩
  case round=>
   obtain⟨k,hk,rfl,hG,am,ap,ak⟩:=hrel;clear ae af a7 aE aJ a8;have HG:=hid hG;have L:=hid am;have aa:=hid ap;have Z:=hid ak;clear hG am ap ak
   by_cases aC:k<r.outs.length
   ·obtain⟨x,hx⟩:∃x,r.outs[k]? =some x:=⟨r.outs[k],List.getElem?_eq_getElem aC⟩
    have hi:(k:Int)<(r.outs.length:Int):=by omega
    have bn:(0:Int)<=(k:Int):=by omega
    obtain⟨_,_,_,_,e4,_,ac,_,_⟩:=id Z.out;simp only[List.cons.injEq,and_true,true_and]at e4;obtain⟨rfl,rfl,rfl,rfl⟩:=e4;obtain⟨b,oo,rfl,aR,hc⟩:=Zdbq ac.isStrs hx;have bm:=hc wr (Below.refl _ _);clear hc ac;obtain⟨V2,G⟩:∃V,V=wr.drew:=⟨_,rfl⟩;have d:Below wr.heap.size wr V2:=by rw[G];exact(Below.refl _ _).drew
    have c:=hid d;have J:=hid (aa.out.below d);have HX:=hid hx;clear d hx
    go_wp2_with fail
    refine wp_region_held_drew (S:=λV=>TwoB p g U X H (.string r.name) (.slice a1 r.ins.length c1) (.slice (some ⟨b,oo,none⟩) r.outs.length c2) W vs V) (by kernel_rfl) ?_ (λhHeld=>?_)
    ·rw[<-G];exact J.out
    rw[<-G]at hHeld⊢;clear G;refine tkK 0 ?_;refine tkK 1 ?_;refine tkK 2 ?_
    try simp only[Act.put,sA,sZ,sS]
    refine tkH 3 (v:=?_) ?_ ?_;rotate_left
    ·intro w a;obtain⟨⟨l,n,o⟩,q,s,t,y,z⟩:=TwoB.cells a;go_simp;try with_reducible rfl
    try simp only[Act.put,sA,sZ,sS]
    refine tkK 4 ?_;refine tkK 5 ?_
    try simp only[Act.put,sA,sZ,sS]
    refine tkH 6 (v:=?_) ?_ ?_;rotate_left
    ·intro w a;obtain⟨⟨l,n,o⟩,q,s,t,y,z⟩:=TwoB.cells a;go_simp;try with_reducible rfl
    try simp only[Act.put,sA,sZ,sS]
    refine rdH [7] ?_;refine rcH (λK D=>?_) ?_
    ·go_simp;refine(Zdhw r.name _).mono ?_;rintro e V3 ⟨rfl,j⟩;dsimp only
     refine D.out _ _ ?_ (λhHeld=>?_)
     ·try dsimp only
      exact TwoB.below J.out j
     clear D K
     try simp only[Act.put,sA,sZ,sS]
     obtain⟨ob,f,T⟩:=(HG.out.below (c.out.trans (j.mono c.out.size))).qm.put (P:=prog) underlying87 underlying9 x (lv (true,r.name));have aq:=(HG.out.below (c.out.trans (j.mono c.out.size))).putMaker x r.name T;have ao:Stp B C R R V3 _:=Zdji R V3 ob ⟨bh.out.2.1,HP.out.2.1⟩;have ay:=hid (show TwoB p g U X H (.string r.name) (.slice a1 r.ins.length c1) (.slice (some ⟨b,oo,none⟩) r.outs.length c2) W vs _ from⟨aq.blk,(Zdih V3 X ob (by have:=HP.out.2.1;have:=ba.out;omega)).trans hHeld.2⟩);have aM:=hid ((L.out.trans (Stp.below (c.out.trans (j.mono c.out.size)))).trans ao);have aK:=hid ((Z.out.stp (Stp.below (c.out.trans (j.mono c.out.size)))).stp ao);have ai:Zdej r.name ((r.outs.take k).foldl (Zdej r.name) M) x=(r.outs.take (k+1)).foldl (Zdej r.name) M:=by rw[List.take_add_one,HX.out,List.foldl_append];rfl
     rw[ai]at aq;have bb:=hid aq;have a6:=hid f;clear f T aq ao ai;refine rdH [8] ?_;refine rcH (λK D=>?_) ?_
     ·have al:=a6.out;unfold lv at al;go_simp
      refine D.out _ _ ?_ (λhHeld=>?_)
      ·try dsimp only
       exact ay.out
      clear D K
      try simp only[Act.put,sA,sZ,sS]
      refine wpAnyH_done (by kernel_rfl) ?_ _;go_wp2;go_roundw
      case rel=>exact⟨k+1,by omega,by go_num,bb.out,aM.out,ay.out,aK.out⟩
      case measure=>simp only[intOf];omega
     exact AllReadyH.nil
    exact AllReadyH.nil
   ·obtain rfl:k=r.outs.length:=by omega
    have hi:¬(r.outs.length:Int)<(r.outs.length:Int):=by omega
    rw[List.take_length]at HG;obtain⟨⟨l,n,o⟩,q,s,t,y,z⟩:=TwoB.cells aa.out;have br:r.ins.length<=1000000:=by have:=HQ.out;omega
    go_wp2_with fail
    clear l n o q s t y z
    go_loopw [34] (λiv wr=>∃(k:Nat) (R2:SKV),k<=r.ins.length/\iv = .int .i64 (k:Int)/\GrS wr B C p U X H A' (Zdel M r) R2 (rs ++ [r]) (qs++(Zdgq r).take k)/\Stp B C R R2 w wr/\TwoB p g U X H (.string r.name) (.slice a1 r.ins.length c1) (.slice a2 r.outs.length c2) W vs wr/\RuleA (AvR B C R2) wr [.string r.name,.slice a1 r.ins.length c1,.slice a2 r.outs.length c2,W,vs] r/\g<wr.heap.size/\¬AvR B C R2 g) (λiv _=>r.ins.length-(intOf iv).toNat)
    case atStart=>exact⟨0,R,Nat.zero_le _,rfl,by rw[List.take_zero,List.append_nil];exact HG.out,L.out,aa.out,Z.out,(Array.getElem?_eq_some_iff.1 aa.out.2).1,I.out⟩
    case round=>
     obtain⟨k,R2,hk,rfl,hG,am,ap,ak,aU,aT⟩:=hrel;replace HG:=hid hG;replace L:=hid am;replace aa:=hid ap;replace Z:=hid ak;have be:=hid aU;replace I:=hid aT;clear hG am ap ak aU aT hi
     by_cases aC:k<r.ins.length
     ·obtain⟨x,hx⟩:∃x,r.ins[k]? =some x:=⟨r.ins[k],List.getElem?_eq_getElem aC⟩
      have hi:(k:Int)<(r.ins.length:Int):=by omega
      have bn:(0:Int)<=(k:Int):=by omega
      obtain⟨_,_,_,_,e4,ab,_,_,_⟩:=id Z.out;simp only[List.cons.injEq,and_true,true_and]at e4;obtain⟨rfl,rfl,rfl,rfl⟩:=e4;obtain⟨b,oo,rfl,aR,hc⟩:=Zdbq ab.isStrs hx;have bm:=hc wr (Below.refl _ _);clear hc ab;obtain⟨V2,G⟩:∃V,V=wr.drew:=⟨_,rfl⟩;have d:Below wr.heap.size wr V2:=by rw[G];exact(Below.refl _ _).drew
      have c:=hid d;have J:=hid (aa.out.below d);have O:=HG.out.below d;obtain⟨av,nv,cv,aA⟩:=O.ri.sl.get x;have aB:∀V,Below V2.heap.size V2 V->(Instr.lookup 88 (.map (some H)) (.string x) false).run prog V = .ok (.slice av nv cv) V:=by
       intro V hV;have:=(O.below hV).qr.get (P:=prog) underlying88 underlying9 (Zdka V) x;rw[aA]at this;exact this
      have bg:=hid aB;have HX:=hid hx;have bf:=hid O;have aI:=hid (show getA R2 x nilV = .slice av nv cv from aA);clear d hx O aB aA
      go_wp2_with fail
      refine Zbuk (S:=λl V=>TwoB p g U X H (.string r.name) (.slice (some ⟨b,oo,none⟩) r.ins.length c1) (.slice a2 r.outs.length c2) W vs V/\(l=false->Below V2.heap.size V2 V)) (st:=15) (by kernel_rfl) ?_ (λhHeld=>?_)
      ·rw[<-G];exact⟨J.out,λ_=>Below.refl _ _⟩
      rw[<-G]at hHeld⊢;clear G;refine zS 0 (v:=?_) ?_ ?_;rotate_left
      ·intro w a;obtain⟨_,i,_⟩:=a;obtain⟨⟨l,n,o⟩,q,s,t,y,z⟩:=TwoB.cells i;go_simp;try with_reducible rfl
      try simp only[Act.put,sA,sZ,sS]
      refine zS 1 (v:=?_) ?_ ?_;rotate_left
      ·intro w a;obtain⟨_,i,_⟩:=a;obtain⟨⟨l,n,o⟩,q,s,t,y,z⟩:=TwoB.cells i;go_simp;try with_reducible rfl
      try simp only[Act.put,sA,sZ,sS]
      refine zS 2 (v:=?_) ?_ ?_;rotate_left
      ·intro w a;obtain⟨_,i,_⟩:=a;obtain⟨⟨l,n,o⟩,q,s,t,y,z⟩:=TwoB.cells i;go_simp;try with_reducible rfl
      try simp only[Act.put,sA,sZ,sS]
      refine zS 3 (v:=?_) ?_ ?_;rotate_left
      ·intro w a;obtain⟨_,i,_⟩:=a;obtain⟨⟨l,n,o⟩,q,s,t,y,z⟩:=TwoB.cells i;go_simp;try with_reducible rfl
      try simp only[Act.put,sA,sZ,sS]
      refine zS 4 (v:=?_) ?_ ?_;rotate_left
      ·intro w a;obtain⟨_,i,_⟩:=a;obtain⟨⟨l,n,o⟩,q,s,t,y,z⟩:=TwoB.cells i;go_simp;try with_reducible rfl
      try simp only[Act.put,sA,sZ,sS]
      refine tS 5 (v:=?_) ?_ ?_;rotate_left
      ·intro w a;obtain⟨i,hB⟩:=a;obtain⟨⟨l,n,o⟩,q,s,t,y,z⟩:=TwoB.cells i;go_simp;try with_reducible rfl
      try simp only[Act.put,sA,sZ,sS]
      refine tS 6 (v:=?_) ?_ ?_;rotate_left
      ·intro w a;obtain⟨i,hB⟩:=a;obtain⟨⟨l,n,o⟩,q,s,t,y,z⟩:=TwoB.cells i;go_simp;try with_reducible rfl
      try simp only[Act.put,sA,sZ,sS]
      refine tS 7 (v:=?_) ?_ ?_;rotate_left
      ·intro w a;obtain⟨i,hB⟩:=a;obtain⟨⟨l,n,o⟩,q,s,t,y,z⟩:=TwoB.cells i;go_simp;try with_reducible rfl
      try simp only[Act.put,sA,sZ,sS]
      refine tS 8 (v:=?_) ?_ ?_;rotate_left
      ·intro w a;obtain⟨i,hB⟩:=a;obtain⟨⟨l,n,o⟩,q,s,t,y,z⟩:=TwoB.cells i;go_simp;try with_reducible rfl
      try simp only[Act.put,sA,sZ,sS]
      refine tS 9 (v:=?_) ?_ ?_;rotate_left
      ·intro w a;obtain⟨i,hB⟩:=a;obtain⟨⟨l,n,o⟩,q,s,t,y,z⟩:=TwoB.cells i;go_simp;try with_reducible rfl
      try simp only[Act.put,sA,sZ,sS]
      refine tS 10 (v:=?_) ?_ ?_;rotate_left
      ·intro w a;obtain⟨i,hB⟩:=a;have aB:=bg.out _ (hB rfl);go_simp;try with_reducible rfl
      try simp only[Act.put,sA,sZ,sS]
      refine tS 11 (v:=?_) ?_ ?_;rotate_left
      ·intro w a;obtain⟨i,hB⟩:=a;obtain⟨⟨l,n,o⟩,q,s,t,y,z⟩:=TwoB.cells i;go_simp;try with_reducible rfl
      try simp only[Act.put,sA,sZ,sS]
      refine tS 12 (v:=?_) ?_ ?_;rotate_left
      ·intro w a;obtain⟨i,hB⟩:=a;obtain⟨⟨l,n,o⟩,q,s,t,y,z⟩:=TwoB.cells i;go_simp;try with_reducible rfl
      try simp only[Act.put,sA,sZ,sS]
      refine rdS [13] ?_;refine rcS false (λK D=>?_) ?_
      ·go_simp;refine(Zdhw r.name _).mono ?_;rintro e V3 ⟨rfl,j⟩;dsimp only
       refine D.out _ _ ?_ (λhHeld=>?_)
       ·try dsimp only
        exact⟨TwoB.below J.out j,λ_=>j⟩
       clear D K
       try simp only[Act.put,sA,sZ,sS]
       obtain⟨V4,aw⟩:∃V,V=V3.alloc (.cells #[.bool true,.string r.name] 24):=⟨_,rfl⟩;have m:Below V2.heap.size V2 V4:=by rw[aw];exact j.alloc j.size _
       have aZ:V4.heap[V3.heap.size]? =some (.cells #[.bool ((true,r.name):Lb).1,.string ((true,r.name):Lb).2] 24):=by rw[aw];exact alloc_at V3 _
       have a5:=hid m;have bl:=hid aZ;clear m aZ j;refine rdS [14] ?_;refine rcS false (λK D=>?_) ?_
       ·go_simp;rw[<-aw];clear aw
        refine D.out _ _ ?_ (λhHeld=>?_)
        ·try dsimp only
         exact⟨TwoB.below J.out a5.out,λ_=>a5.out⟩
        clear D K
        try simp only[Act.put,sA,sZ,sS]
        have m:=a5.out;have F:=bf.out.below m;have Y:=F.ri.row x;rw[aI.out]at Y;have aW:(rdOf (qs++(Zdgq r).take k) x).length<=1000000:=by
         have h1:=Zdgo (qs++(Zdgq r).take k) x;have h2:((Zdgq r).take k).length<=r.ins.length:=by rw[List.length_take];unfold Zdgq;rw[List.length_map];omega
         rw[List.length_append]at h1;have:=HQ.out;omega
        obtain⟨v5,V5,aY,aX,ad,aD⟩:=Zdib (ty:=35) (ys:=[(true,r.name)]) Y (Zdhq bl.out) (by simp only[List.length_cons,List.length_nil];omega) F.sz;have a4:∀b,(Value.slice av nv cv).ownBlock=some b->C<=b:=λb e=>(World.ownsRow.lt Y b e).1
        have a3:MpS V5 H R2:=F.qr.heap (ad.block H F.qr.lt (λe=>by have h1:=a4 H e.symm;have h2:=HP.out.2.2.1;omega));obtain⟨ob,f,T⟩:=a3.put (P:=prog) underlying88 underlying9 x v5;have aV:=aI.out;rw[<-aV]at ad aD;obtain⟨ar,E⟩:=F.putReader x r.name aX ad aD T;have Q:g<V4.heap.size:=Nat.lt_of_lt_of_le be.out (c.out.trans (m.mono c.out.size)).size;have az:=hid (show TwoB p g U X H (.string r.name) (.slice (some ⟨b,oo,none⟩) r.ins.length c1) (.slice a2 r.outs.length c2) W vs _ from⟨ar.blk,(E.fr.block g Q I.out).trans (TwoB.below J.out m).2⟩);have aN:=hid ((L.out.trans (Stp.below (c.out.trans (m.mono c.out.size)))).trans E);have aL:=hid ((Z.out.stp (Stp.below (c.out.trans (m.mono c.out.size)))).stp E);have aH:=hid (Nat.lt_of_lt_of_le Q E.fr.size);have aF:=hid (λha=>I.out (E.av g Q ha));have ai:(qs++(Zdgq r).take k) ++ [(x,r.name)]=qs++(Zdgq r).take (k+1):=by
         rw[List.append_assoc,List.take_add_one,show(Zdgq r)[k]? =some (x,r.name)from by unfold Zdgq;rw[List.getElem?_map,HX.out];rfl];rfl
        rw[ai]at ar;have bc:=hid ar;have a6:=hid f;have bi:=hid aY;have bk:=hid (show TwoB p g U X H (.string r.name) (.slice (some ⟨b,oo,none⟩) r.ins.length c1) (.slice a2 r.outs.length c2) W vs V5 from⟨(ad.block p F.graph.lt (λe=>by have h1:=(World.ownsRow.lt (F.ri.row x) p e.symm).1;have h2:=HP.out.2.2.2;omega)).trans F.blk,(ad.block g Q (λe=>I.out (.inr ⟨x,e.symm⟩))).trans (TwoB.below J.out m).2⟩);clear m F Y aW aY aX ad aD a4 a3 f T aV ar E Q ai;refine rdS [15] ?_;refine rcS true (λK D=>?_) ?_
        ·refine Zbxy rfl _ _ _ rfl rfl rfl bi.out ?_
         refine D.out _ _ ?_ (λhHeld=>?_)
         ·try dsimp only
          exact⟨bk.out,λh=>absurd h (by simp)⟩
         clear D K
         try simp only[Act.put,sA,sZ,sS]
         refine rdS [16] ?_;refine rcS true (λK D=>?_) ?_
         ·have al:=a6.out;go_simp
          refine D.out _ _ ?_ (λhHeld=>?_)
          ·try dsimp only
           exact⟨az.out,λh=>absurd h (by simp)⟩
          clear D K
          try simp only[Act.put,sA,sZ,sS]
          refine Zbtu (by kernel_rfl) ?_ _;go_wp2;go_roundw
          case rel=>exact⟨k+1,_,by omega,by go_num,bc.out,aN.out,az.out,aL.out,aH.out,aF.out⟩
          case measure=>simp only[intOf];omega
         exact AllReadyS.nil
        exact AllReadyS.nil
       exact AllReadyS.nil
      exact AllReadyS.nil
     ·obtain rfl:k=r.ins.length:=by omega
      have hi:¬(r.ins.length:Int)<(r.ins.length:Int):=by omega
      rw[show(Zdgq r).take r.ins.length=Zdgq r from List.take_of_length_le (by simp[Zdgq])]at HG;go_wp2
      go_end0
      exact⟨⟨_,rfl⟩,A',R2,HG.out,L.out⟩
 exact AllReadyH.nil
theorem Zckm {r:RuleS} (h:Zbip r=0):r.ins.length<=8/\r.outs.length<=4/\r.after.length<=8/\r.steps.length<=12:=by
 unfold Zbip at h;split at h
 ·cases h
 split at h
 ·cases h
 rename_i a
 have a:Zbkx r=true:=by simpa using a
 unfold Zbkx at a;simp only[Bool.and_eq_true,decide_eq_true_eq]at a;exact⟨a.1.1.1,a.1.1.2,a.1.2,a.2⟩
def GrX (w:World) (B0 p:Nat) (rs:List RuleS):Prop:=∃B C mr mm md A R,B0<=B/\GrS w B C p mr mm md A (mkM rs) R rs (Zdgj rs)
theorem GrX.below {w w':World} {B p:Nat} {rs:List RuleS} (h:GrX w B p rs) (c:Below w.heap.size w w'):GrX w' B p rs:=by
 obtain⟨a,C,f,e,d,A,R,b,h⟩:=h;exact⟨a,C,f,e,d,A,R,b,h.below c⟩
theorem Zdgk {rs:List RuleS} (h:∀r∈rs,r.ins.length<=8):(Zdgj rs).length<=rs.length*8:=by
 induction rs with
 | nil=>simp[Zdgj]
 | cons r rs c=>
  have a:=c λr b=>h r (List.mem_cons_of_mem _ b)
  have d:=h r List.mem_cons_self;unfold Zdgj at a⊢;rw[List.flatMap_cons,List.length_append,List.length_cons,Nat.succ_mul];have e:(Zdgq r).length=r.ins.length:=List.length_map _;omega
theorem Zdeh {rs:List RuleS} {k:Nat} {r:RuleS} (h:rs[k]? =some r):mkM (rs.take (k+1))=Zdel (mkM (rs.take k)) r:=by
 unfold mkM;rw[List.take_add_one,h,List.foldl_append];rfl
theorem Zdgm {rs:List RuleS} {k:Nat} {r:RuleS} (h:rs[k]? =some r):Zdgj (rs.take (k+1))=Zdgj (rs.take k)++Zdgq r:=by
 unfold Zdgj;rw[List.take_add_one,h,List.flatMap_append];simp
theorem Zdjr {rs:List RuleS} {k:Nat} {r:RuleS} (h:rs[k]? =some r):rs.take (k+1)=rs.take k ++ [r]:=by
 rw[List.take_add_one,h];rfl
theorem OkTog.fresh {rs:List RuleS} (h:OkTog rs) {k:Nat} {r:RuleS} (e:rs[k]? =some r):r.name∉(rs.take k).map (·.name):=by
 intro b;obtain⟨x,hx,c⟩:=List.mem_map.1 b;obtain⟨i,d,a⟩:=Zbya hx;exact h.names i k x r a e d c
theorem Zddz (w:World):(((w.alloc (.map #[] 0)).alloc (.map #[] 0)).alloc (.map #[] 0)).heap.size=w.heap.size+3:=by simp
theorem Zdhr {B C:Nat} {R:SKV} {W w':World} {x:RuleS} {e:Ending} (h:Zbu W w' x e) (s:C<=W.heap.size) (i:∀k b,(getA R k nilV).ownBlock=some b->b<W.heap.size):
  ∃f g d vs,e = .returned (.agg #[.string x.name,f,g,d,vs])/\RuleA (AvR B C R) w' [.string x.name,f,g,d,vs] x:=by
 obtain⟨j,t,o,l,u,p,m,v,q,n,w,r,rfl,a⟩:=Zbir h;refine⟨_,_,_,_,rfl,RuleA.mono a ?_⟩;rintro b _ (c|⟨k,c⟩)
 ·show b<W.heap.size;omega
 ·exact i k b c
theorem Zdap (v:Value) (rs:List RuleS) (w:World) (G:RulesI w v rs) (hs:∀r∈rs,SmallR r 1048576) (hn:rs.length<=1000) (ha:∀r∈rs,∀y∈r.steps,y.args.length<=1000000/\y.lits.length<=1000000) (hm:MayW w):
  Calls prog 8 #[v] w λe w'=>((Zbvn rs=0/\∃p,e = .returned (.pointer (some { block:=p,off:=0 }))/\GrX w' w.heap.size p rs)\/(Zbvn rs≠0/\e = .returned (.pointer none)))/\Below w.heap.size w w':=by
 have HC:=hid (Zja v rs w G hs hn hm);obtain⟨sa,sc,al,au,ak⟩:=Zbjn G;subst al;unfold maxLen at ak;have ae:Hid (∀(k:Nat) x,rs[k]? =some x->_):=hid (λk x hx=>Zbjm G (k:=k) (x:=x) hx);have aa:=hid ha;obtain⟨cd,z⟩:∃c,(allB rs (Zot (Zbng rs))).1=c:=⟨_,rfl⟩;have t:Zbvn rs=cd:=z;rw[z]at HC;rw[t];have ad:=hid t;clear G hs ha hm z t
 go_enter func8,ntmps8
 go_wp2_with fail
 refine HC.out.mono ?_;rintro e a ⟨rfl,M⟩;have f:=hid M;clear M HC
 by_cases h0:cd=0
 ·subst h0
  have hT:OkTog rs:=by
   rcases Zbvq rs with h|h
   ·exact h.1
   ·exact absurd ad.out h.2.1
  have D:∀r∈rs,r.ins.length<=8/\r.outs.length<=4/\r.after.length<=8/\r.steps.length<=12:=λr T=>Zckm (hT.each r T)
  have U:=Zdgk λr T=>(D r T).1
  have hf:=hT.few;have HT:=hid hT;have I:=hid D;have am:=hid U;obtain⟨W1,d⟩:∃W,W=(((a.alloc (.map #[] 0)).alloc (.map #[] 0)).alloc (.map #[] 0)).alloc (.cells #[.map (some a.heap.size),.map (some (a.heap.size+1)),.map (some (a.heap.size+2))] 90):=⟨_,rfl⟩;have P:Below a.heap.size a W1:=by rw[d];exact((((Below.refl _ _).alloc (Nat.le_refl _) _).alloc (by simp<;>omega) _).alloc (by simp<;>omega) _).alloc (by simp<;>omega) _
  have K:GrS W1 a.heap.size (a.heap.size+4) (a.heap.size+3) a.heap.size (a.heap.size+1) (a.heap.size+2) [] [] [] [] []:=by
   have Y:=Zddz a;have k3:W1.heap[a.heap.size+3]? =some (.cells #[.map (some a.heap.size),.map (some (a.heap.size+1)),.map (some (a.heap.size+2))] 90):=by
    have:=alloc_at (((a.alloc (.map #[] 0)).alloc (.map #[] 0)).alloc (.map #[] 0)) (.cells #[.map (some a.heap.size),.map (some (a.heap.size+1)),.map (some (a.heap.size+2))] 90);rw[Y]at this;rw[d];exact this
   have m0:MpS W1 a.heap.size []:=by
    rw[d];exact(MpS.made a).below ((((Below.refl _ _).alloc (Nat.le_refl _) _).alloc (by simp<;>omega) _).alloc (by simp<;>omega) _) (by simp)
   have m1:MpS W1 (a.heap.size+1) []:=by
    have h:=MpS.made (a.alloc (.map #[] 0));rw[World.size_alloc]at h;rw[d];exact h.below (((Below.refl _ _).alloc (Nat.le_refl _) _).alloc (by simp<;>omega) _) (by simp)
   have m2:MpS W1 (a.heap.size+2) []:=by
    have h:=MpS.made ((a.alloc (.map #[] 0)).alloc (.map #[] 0));rw[World.size_alloc,World.size_alloc]at h;rw[d];exact h.below ((Below.refl _ _).alloc (Nat.le_refl _) _) (by simp)
   refine⟨k3,m0,m1,m2,by omega,by omega,by omega,⟨rfl,λj e r S=>by simp at S⟩,⟨λk=>Zdfs _ _,λk=>by simp[hasA],λk k' b h=>(by cases h),λe S=>(by cases S)⟩,λe S=>(by cases S),?_⟩;rw[d,World.size_alloc,Y];exact Nat.le_refl _
  have af:=hid K;have ac:=hid (f.out.trans (P.mono f.out.size));have ap:(Instr.makeMap 86 none).run prog a = .ok (.map (some a.heap.size)) (a.alloc (.map #[] 0)):=rfl;have aq:(Instr.makeMap 87 none).run prog (a.alloc (.map #[] 0)) = .ok (.map (some (a.heap.size+1))) ((a.alloc (.map #[] 0)).alloc (.map #[] 0)):=by
   have h:(Instr.makeMap 87 none).run prog (a.alloc (.map #[] 0)) = .ok (.map (some (a.alloc (.map #[] 0)).heap.size)) ((a.alloc (.map #[] 0)).alloc (.map #[] 0)):=rfl;rw[World.size_alloc]at h;exact h
  have ar:(Instr.makeMap 88 none).run prog ((a.alloc (.map #[] 0)).alloc (.map #[] 0)) = .ok (.map (some (a.heap.size+2))) (((a.alloc (.map #[] 0)).alloc (.map #[] 0)).alloc (.map #[] 0)):=by
   have h:(Instr.makeMap 88 none).run prog ((a.alloc (.map #[] 0)).alloc (.map #[] 0)) = .ok (.map (some ((a.alloc (.map #[] 0)).alloc (.map #[] 0)).heap.size)) (((a.alloc (.map #[] 0)).alloc (.map #[] 0)).alloc (.map #[] 0)):=rfl;rw[World.size_alloc,World.size_alloc]at h;exact h
  clear hT D U P K
  go_wp2_with fail
  go_loopw [22] (λiv wr=>∃(k:Nat) (A R:SKV),k<=rs.length/\iv = .int .i64 (k:Int)/\GrS wr a.heap.size (a.heap.size+4) (a.heap.size+3) a.heap.size (a.heap.size+1) (a.heap.size+2) A (mkM (rs.take k)) R (rs.take k) (Zdgj (rs.take k))/\Below w.heap.size w wr) (λiv _=>rs.length-(intOf iv).toNat)
  case atStart=>rw[<-d];exact⟨0,[],[],Nat.zero_le _,rfl,af.out,ac.out⟩
  case round=>
   obtain⟨k,A,R,hk,rfl,hG,Q⟩:=hrel;have l:=hid hG;have F:=hid Q;clear hG Q
   by_cases aj:k<rs.length
   ·obtain⟨x,hx⟩:∃x,rs[k]? =some x:=⟨rs[k],List.getElem?_eq_getElem aj⟩
    have ai:(k:Int)<(rs.length:Int):=by omega
    have ao:(0:Int)<=(k:Int):=by omega
    obtain⟨g,o,an,a1,c1,a2,c2,a3,c3,a4,c4,G,hg,hR,hc⟩:=ae.out k x hx;obtain⟨d0,d1,d2,d3,d4⟩:=hc _ F.out
    cases G
    obtain⟨V1,q⟩:∃V,V=wr.alloc (.cells #[.string x.name,.slice a1 x.ins.length c1,.slice a2 x.outs.length c2,.slice a3 x.after.length c3,.slice a4 x.steps.length c4] 50):=⟨_,rfl⟩;have s:Below wr.heap.size wr V1:=by rw[q];exact(Below.refl _ _).alloc (Nat.le_refl _) _
    have ah:=hR.below (F.out.trans (s.mono F.out.size));obtain⟨_,_,_,_,e4,q1,q2,q3,q4⟩:=ah;simp only[List.cons.injEq,and_true,true_and]at e4;obtain⟨rfl,rfl,rfl,rfl⟩:=e4;have E:=List.mem_of_getElem? hx;have hz:=I.out x E;have cC:=Zcxx x a1 a2 a3 a4 _ c1 _ c2 _ c3 _ c4 V1 q1 q2 q3 q4 (by omega) (by omega) (by omega) (by omega) (aa.out x E);have CC:=hid cC;have HX:=hid hx;have Z:=hid s;have HZ:=hid hz;clear hc hR q1 q2 q3 q4 E hz cC hx s hg
    go_wp2_with fail
    rw[<-q];clear q;refine CC.out.mono ?_;rintro e w2 ⟨hE,O⟩;have m:Below wr.heap.size wr w2:=Z.out.trans (O.mono Z.out.size);have L:=l.out.below m;obtain⟨vi,vo,vf,vs,rfl,X⟩:=Zdhr (B:=a.heap.size) (C:=a.heap.size+4) (R:=R) hE (Nat.le_trans l.out.sz Z.out.size) (λk b h=>Nat.lt_of_lt_of_le (World.ownsRow.lt (l.out.ri.row k) b h).2 Z.out.size);have hq:(Zdgj (rs.take k)).length+x.ins.length<=1000000:=by
     have h1:=Zdgk (rs:=rs.take k) (λr T=>(I.out r (List.mem_of_mem_take T)).1);rw[List.length_take]at h1;have:=HZ.out;omega
    have cA:=Zdag a.heap.size (a.heap.size+4) (a.heap.size+3) a.heap.size (a.heap.size+1) (a.heap.size+2) A (mkM (rs.take k)) R (rs.take k) (Zdgj (rs.take k)) x vi vo vf vs w2 L X (HT.out.fresh HX.out) hq (by have:=HZ.out;omega);have CA:=hid cA;have H:=hid m;clear CC hE O m L X hq cA
    go_wp2_with fail
    refine CA.out.mono ?_;rintro e w3 ⟨⟨u,rfl⟩,A',R',n,i⟩;rw[<-Zdeh HX.out,<-Zdgm HX.out,<-Zdjr HX.out]at n;have J:Below a.heap.size w2 w3:=i.under (Nat.le_trans (Nat.le_trans (Nat.le_add_right _ 4) l.out.sz) H.out.size) (λk b h=>by have:=(World.ownsRow.lt (l.out.ri.row k) b h).1;omega);have ag:=hid n;have ab:=hid ((F.out.trans (H.out.mono F.out.size)).trans (J.mono f.out.size));clear CA n i J;go_wp2;go_roundw
    case rel=>exact⟨k+1,A',R',by omega,by go_num,ag.out,ab.out⟩
    case measure=>simp only[intOf];omega
   ·obtain rfl:k=rs.length:=by omega
    have ai:¬(rs.length:Int)<(rs.length:Int):=by omega
    rw[List.take_length]at l;go_wp2;go_ret;exact⟨⟨_,rfl,_,_,_,_,_,_,_,f.out.size,l.out⟩,F.out⟩
 ·go_wp2
  go_ret;exact⟨.inr ⟨h0,rfl⟩,f.out⟩
def labR (r:RuleS):List Lb:=(true,r.name)::(Zcyo r.ins++Zcyo r.outs)
def labE (rs:List RuleS) (n:ByteArray):List Lb:=match rs.find? (λr=>decide (r.name=n))with
 | some r=>labR r
 | none=>[]
def labS (rs:List RuleS) (S:SKV):List Lb:=S.flatMap λe=>labE rs e.1
theorem Zcwt (ls xs ys:List Lb):Zcws ls (xs++ys)=Zcws (Zcws ls xs) ys:=by unfold Zcws;rw[List.foldl_append]
theorem Zdim {L:SKV} {k v:Value} (h:(k,v)∈skv L):∃e∈L,k = .string e.1/\v=e.2:=by
 obtain⟨x,hx,e⟩:=List.mem_map.1 h
 cases e
 exact⟨x,hx,rfl,rfl⟩
theorem Zdik {S L:SKV} (b:(skv S).Perm (skv L)):(S.map (·.1)).Perm (L.map (·.1)):=by
 have a:∀M:SKV,(skv M).map (λp:KV=>match p.1 with | .string s=>s|_=>(⟨#[]⟩:ByteArray))=M.map (·.1):=λM=>by
  unfold skv;rw[List.map_map];rfl
 have:=b.map (λp:KV=>match p.1 with | .string s=>s|_=>(⟨#[]⟩:ByteArray))
 rwa [a,a]at this
theorem Zczl {rs:List RuleS} (c:(rs.map (·.name)).Nodup) {r:RuleS} (b:r∈rs):rs.find? (λx=>decide (x.name=r.name))=some r:=by
 induction rs with
 | nil=>cases b
 | cons a rs d=>
  rw[List.map_cons,List.nodup_cons]at c;rw[List.find?_cons]
  rcases List.mem_cons.1 b with rfl|b
  ·simp
  ·have:a.name≠r.name:=λe=>c.1 (by rw[e];exact List.mem_map_of_mem b)
   rw[decide_eq_false this];exact d c.2 b
theorem OkTog.nodup {rs:List RuleS} (h:OkTog rs):(rs.map (·.name)).Nodup:=by
 unfold List.Nodup;rw[List.pairwise_iff_getElem];intro i j b c a;rw[List.length_map]at b c;rw[List.getElem_map,List.getElem_map];exact h.names i j _ _ (List.getElem?_eq_getElem b) (List.getElem?_eq_getElem c) a
theorem Zdbx {rs:List RuleS} (a:(rs.map (·.name)).Nodup) {r:RuleS} (b:r∈rs):labE rs r.name=labR r:=by
 unfold labE;rw[Zczl a b]
theorem Zdcb {rs:List RuleS} {S:SKV} (d:(rs.map (·.name)).Nodup) (f:(S.map (·.1)).Perm (rs.map (·.name))):setL (labS rs S)=setL (rs.flatMap labR):=by
 refine Zdhk (Zdhm _) (Zdhm _) λx=>?_
 rw[Zdef,Zdef];unfold labS;rw[List.mem_flatMap,List.mem_flatMap];constructor
 ·rintro⟨e,c,hx⟩
  obtain⟨r,a,b⟩:=List.mem_map.1 (f.mem_iff.1 (List.mem_map_of_mem c));rw[<-b,Zdbx d a]at hx;exact⟨r,a,hx⟩
 ·rintro⟨r,a,hx⟩
  obtain⟨e,c,b⟩:=List.mem_map.1 (f.mem_iff.2 (List.mem_map_of_mem a));refine⟨e,c,?_⟩;rw[b,Zdbx d a];exact hx
theorem Zdca {rs:List RuleS} (h:∀r∈rs,r.ins.length<=8/\r.outs.length<=4):∀(S:SKV),(labS rs S).length<=S.length*13
 | []=>by simp[labS]
 | e::S=>by
  have a:=Zdca h S;unfold labS at a⊢;rw[List.flatMap_cons,List.length_append,List.length_cons,Nat.succ_mul];have c:(labE rs e.1).length<=13:=by
   unfold labE;split
   ·rename_i r b
    have:=h r (List.mem_of_find?_eq_some b);unfold labR;rw[List.length_cons,List.length_append,Zcyp,Zcyp];omega
   ·simp
  omega
theorem AIs.entry {Av:Nat->Prop} {w:World} {A:SKV} {rs:List RuleS} (h:AIs Av w A rs) {e:ByteArray×Value} (E:e∈A):
  ∃r∈rs,e.1=r.name/\∃b d c f g F k i G l,e.2 = .agg #[.string r.name,.slice b r.ins.length d,.slice c r.outs.length f,.slice g F k,.slice i G l]/\IsStrs w (.slice b r.ins.length d) r.ins/\IsStrs w (.slice c r.outs.length f) r.outs:=by
 obtain⟨j,s,m⟩:=List.mem_iff_getElem.1 E;have t:j<rs.length:=by rw[<-h.1];exact s
 obtain⟨y,I,J,H,K,z,B⟩:=h.2 j e _ (by rw[List.getElem?_eq_getElem s,m]) (List.getElem?_eq_getElem t);refine⟨_,List.getElem_mem t,y,?_⟩;obtain⟨_,_,_,_,n,o,p,C,D⟩:=B;simp only[List.cons.injEq,and_true,true_and]at n;obtain⟨rfl,rfl,rfl,rfl⟩:=n;obtain⟨b,d,v⟩:=Zue o.isStrs;obtain⟨c,f,x⟩:=Zue p.isStrs;obtain⟨g,k,rfl⟩:=Zue C.isStrs;subst v;subst x;obtain⟨u,a,q⟩:=D;obtain⟨i,l,rfl,_⟩:=a.1;exact⟨b,d,c,f,g,_,k,i,_,l,z,o.isStrs,p.isStrs⟩
structure AlS (w0:World) (mr it:Nat) (A S:SKV) (ls:List Lb) (W:World):Prop where
 c:W.cell? { block:=w0.heap.size,off:=0 } =some (.map (some (w0.heap.size+1)))
 lm:LM W (w0.heap.size+1) ls
 ri:RI W mr it (skv A) (skv S)
 b:Below w0.heap.size w0 W
section
variable {w0 W W':World} {mr it:Nat} {A S:SKV} {ls:List Lb}
theorem AlS.below (h:AlS w0 mr it A S ls W) (a:Below W.heap.size W W'):AlS w0 mr it A S ls W':=
 ⟨(a.cell (World.block_lt_of_cell? _ _ h.c)).trans h.c,h.lm.below a h.lm.1.lt,h.ri.below a h.ri.rm.lt h.ri.lt,h.b.trans (a.mono h.b.size)⟩
theorem AlS.add (h:AlS w0 mr it A S ls W) (i:w0.heap.size+1<it) (m:mr<w0.heap.size) {a:List Lb} (g:W'.cell? { block:=w0.heap.size,off:=0 } =some (.map (some (w0.heap.size+1)))) (l:LM W' (w0.heap.size+1) a) (j:KeepBut W.heap.size (w0.heap.size+1) W W'):AlS w0 mr it A S a W':=by
 have d:=h.ri.lt;have f:=h.ri.rm.lt;have c:W.grownBy W' (some (w0.heap.size+1)):=j.grown (Nat.le_refl _);exact⟨g,l,h.ri.heap (c.block mr f (by simp;omega)) (c.block it d (by simp;omega)),h.b.grown c h.b.size (λk e=>by cases e;omega)⟩
theorem AlS.set (h:AlS w0 mr it A S ls W):SetM W w0.heap.size ls:=⟨w0.heap.size+1,h.c,by omega,h.lm⟩
end
theorem Zdah (B p:Nat) (rs:List RuleS) (w:World) (h:GrX w B p rs) (hT:OkTog rs):
  Calls prog 12 #[.pointer (some { block:=p,off:=0 })] w λe w'=>∃v',e = .returned v'/\OwnL w.heap.size w' v' (setL (rs.flatMap labR))/\Below w.heap.size w w':=by
 obtain⟨B1,C,mr,mm,md,A,R,_,hG⟩:=h;have Y:∀r∈rs,r.ins.length<=8/\r.outs.length<=4:=λr hr=>⟨(Zckm (hT.each r hr)).1,(Zckm (hT.each r hr)).2.1⟩
 have b9:=hid (λe he=>hG.ai.entry (e:=e) he);have au:=hid Y;have bP:A.length<=40:=by rw[hG.ai.1];exact hT.few
 have bu:=hT.nodup;have y:=hG.ai.keys;have aW:=hid bu;have ar:=hid y;have X:=hG.qa.lt;have bx:=hG.graph.lt;have aV:=hid hG.qa.1;have aO:=hid hG.blk;have hq:=λw=>Zcym (b:=p) w
 have aP:=hid (Zdci [] none 0 w (λi x hx=>by simp at hx) (by simp));clear hG Y bu y hT
 go_enter func12,ntmps12
 go_wp2_with fail
 refine aP.out.mono ?_;rintro e f ⟨rfl,a0,T,o⟩;have bK:w.heap.size+1<f.heap.size:=T.1.lt;have ad:=(o.block p bx).trans aO.out;have b0:f.cell? { block:=p,off:=0 } =some (.map (some mr)):=by simp[World.cell?,ad]
 obtain⟨ob,bM,b3⟩:=(RM.below aV.out o X).range (P:=prog) underlying86;have be:AlS w mr f.heap.size A [] [] (f.alloc ob):=by
  have hb:=(Below.refl f.heap.size f).alloc (Nat.le_refl _) ob;exact⟨(hb.cell (World.block_lt_of_cell? _ _ a0)).trans a0,T.below hb T.1.lt,b3,o.trans (hb.mono o.size)⟩
 have b6:=hid be;clear aP aV aO a0 T o ad b3 be
 go_wp2_with fail
 go_loopw [14] (λ_ wr=>∃S:SKV,(∀e∈S,e∈A)/\AlS w mr f.heap.size A S (Zcws [] (labS rs S)) wr) (λ_ wr=>A.length-seenN wr f.heap.size)
 case atStart=>exact⟨[],λe he=>(by cases he),b6.out⟩
 case round=>
  obtain⟨S,bg,l⟩:=hrel;obtain⟨WR,rfl⟩:∃V,V=wr:=⟨_,rfl⟩;have aA:=l.ri.seenN
  rcases l.ri.next (P:=prog) 0 with⟨g,b4⟩|⟨k,v,W2,bq,a6,b4,d,M,Y,bJ⟩
  ·have a8:=Zdik g
   rw[ar.out]at a8;have ap:=Zdcb aW.out a8;have bI:S.length<=40:=by
    have h1:=g.length_eq;rw[Zdil,Zdil]at h1;omega
   have m:=(Zcwu [] (labS rs S)).2;have U:=Zdca au.out S;simp only[List.length_nil,Nat.zero_add]at m;have CA:=Zdch w.heap.size (Zcws [] (labS rs S)) WR l.set (by omega);rw[Zdio,ap]at CA;have b8:=hid CA;have HB:=hid l.b;clear a8 ap m U CA l g aA bg bI
   go_wp2_with fail
   refine b8.out.mono ?_;rintro e w2 ⟨v,rfl,ho,bj⟩;have HO:=hid (Zbdt ho HB.out.size);have b7:=hid (HB.out.trans (bj.mono HB.out.size));clear ho bj;go_wp2;go_ret;exact⟨_,rfl,HO.out,b7.out⟩
  ·obtain⟨e,he,rfl,rfl⟩:=Zdim bq
   obtain⟨r,hr,u,a1,c1,a2,c2,a3,n3,c3,a4,n4,c4,bn,bo,bp⟩:=b9.out e he;have an:S.length<40:=by rw[Zdil,Zdil]at a6;omega
   have m:=(Zcwu [] (labS rs S)).2;have U:=Zdca au.out S;simp only[List.length_nil,Nat.zero_add]at m;have b5:=au.out r hr;have am:labS rs (S ++ [e])=labS rs S++([(true,r.name)]++Zcyo r.ins++Zcyo r.outs):=by
    unfold labS;rw[List.flatMap_append];simp only[List.flatMap_cons,List.flatMap_nil,List.append_nil];rw[u,Zdbx aW.out hr];rfl
   rw[show skv S ++ [(Value.string e.1,e.2)]=skv (S ++ [e]) by simp[skv]]at d;have bf:AlS w mr f.heap.size A (S ++ [e]) (Zcws [] (labS rs S)) W2:=by
    have h1:f.heap.size≠w.heap.size:=by omega
    exact⟨(World.cell?_of_block (M.block w.heap.size (World.block_lt_of_cell? _ _ l.c) (by simp;omega))).trans l.c,⟨l.lm.1.heap (M.block _ l.lm.1.lt (by simp;omega)),l.lm.2⟩,d,l.b.grown M l.b.size (λk e=>by cases e;omega)⟩
   have E:=d.seenN;have aj:∀x∈S ++ [e],x∈A:=λx hx=>by
    rcases List.mem_append.1 hx with hx|hx
    ·exact bg x hx
    ·simp at hx;subst hx;exact he
   have z:(S ++ [e]).length<=A.length:=by rw[Zdil,Zdil]at a6;rw[List.length_append];simp;omega
   have HM:Hid (A.length-seenN W2 f.heap.size<A.length-seenN WR f.heap.size):=by
    show _<_;rw[aA,E,Zdil,Zdil];rw[List.length_append]at z⊢;simp only[List.length_cons,List.length_nil]at z⊢;omega
   obtain⟨W3,I⟩:∃V,V=W2.alloc (.cells #[.string r.name,.slice a1 r.ins.length c1,.slice a2 r.outs.length c2,.slice a3 n3 c3,.slice a4 n4 c4] 50):=⟨_,rfl⟩;have ac:Below W2.heap.size W2 W3:=by rw[I];exact(Below.refl _ _).alloc (Nat.le_refl _) _
   have bk:W3.heap[W2.heap.size]? =some (.cells #[.string r.name,.slice a1 r.ins.length c1,.slice a2 r.outs.length c2,.slice a3 n3 c3,.slice a4 n4 c4] 50):=by rw[I];exact alloc_at W2 _
   have a5:w.heap.size+1<f.heap.size:=bK;have bN:f.heap.size<W2.heap.size:=d.lt;have aq:=hid bk;have aX:=hid (bf.below ac);have bA:=hid bo;have bB:=hid bp;have aQ:=hid aj;have aS:=hid am;have aT:=hid (Nat.le_trans m U);have n:=hid b5;have aY:=hid an;have aB:=hid E;rw[u,bn]at bJ;clear l bq a6 d M Y aA E bf ac bk bo bp aj am m U b5 an z bn u he hr
   go_wp2_with fail
   rw[<-I];clear I;refine(Zdhw r.name W3).mono ?_;rintro e4 W4 ⟨rfl,K⟩;obtain⟨W5,J⟩:∃V,V=W4.alloc (.cells #[.bool true,.string r.name] 24):=⟨_,rfl⟩;have s:Below W3.heap.size W3 W5:=by rw[J];exact K.alloc K.size _
   have hz5:W5.heap[W4.heap.size]? =some (.cells #[.bool ((true,r.name):Lb).1,.string ((true,r.name):Lb).2] 24):=by rw[J];exact alloc_at W4 _
   have ao:W4.heap.size<W5.heap.size:=(Array.getElem?_eq_some_iff.1 hz5).1;have bz:RowL W5 (some ⟨W4.heap.size,0,none⟩) [(true,r.name)]:=by
    obtain⟨a,c,q,_,_,h1,_⟩:=Zdfu (Zdft (B:=0) hz5 (Nat.zero_le _))
    cases q
    exact h1
   have F:=aX.out.below s;have aC:=(Array.getElem?_eq_some_iff.1 aq.out).1;have bc:=K.size;have aZ:=Zdcf w.heap.size (w.heap.size+1) _ [(true,r.name)] (some ⟨W4.heap.size,0,none⟩) 1 W5 F.c (by omega) F.lm bz (λ_ b e=>by cases e;constructor<;>(show W4.heap.size≠_;omega)) (by have:=aT.out;have:=aY.out;simp only[List.length_cons,List.length_nil];omega);have ae:=(s.block _ aC).trans aq.out;have aJ:=hid F;have aE:=hid aZ;have Z:=hid ae;have av:=hid (show W2.heap.size<W5.heap.size from Nat.lt_of_lt_of_le aC (Nat.le_trans bc (Nat.le_of_lt ao)));clear K s hz5 ao bz F aC bc aZ ae aX aq
   go_wp2_with fail
   rw[<-J];clear J;refine aE.out.mono ?_;rintro e6 W6 ⟨rfl,bl,br,O⟩;have ax:=aJ.out.add a5 X bl br O;have t:=(O.block W2.heap.size av.out (by have:=av.out;omega) (by omega)).trans Z.out;have d1:W6.cell? { block:=W2.heap.size,off:=1 } =some (.slice a1 r.ins.length c1):=by simp[World.cell?,t]
   have cF:=Zcyn _ r.ins W6 (bA.out.below ax.b) (by have:=n.out;omega);have CF:=hid cF;have aR:=hid (show(Zcws (Zcws [] (labS rs S)) [(true,r.name)]).length<=600 from by have h1:=(Zcwu (Zcws [] (labS rs S)) [(true,r.name)]).2;have h2:=aT.out;have h3:=aY.out;simp only[List.length_cons,List.length_nil]at h1;omega);have bD:=hid (show W2.heap.size<W6.heap.size from Nat.lt_of_lt_of_le av.out O.size);have aK:=hid ax;have aa:=hid t;clear bl br O ax t cF aE aJ Z
   go_wp2_with fail
   refine CF.out.mono ?_;rintro e7 W7 ⟨v7,rfl,bv,L⟩;obtain⟨a7,k7,q7,_,_,b1,bh⟩:=Zdfu bv;subst q7;have G:=aK.out.below L;have aD:=bD.out;have bd:=L.size;have ba:=Zdcf w.heap.size (w.heap.size+1) _ (Zcyo r.ins) a7 k7 W7 G.c (by omega) G.lm b1 (λ_ b e=>by have:=(bh b e).1;constructor<;>omega) (by have:=aR.out;have:=n.out;rw[Zcyp];omega);have af:=(L.block _ aD).trans aa.out;have aL:=hid G;have aF:=hid ba;have ab:=hid af;have aw:=hid (show W2.heap.size<W7.heap.size from Nat.lt_of_lt_of_le aD bd);clear bv L b1 bh G aD bd ba af CF aK aa
   go_wp2_with fail
   refine aF.out.mono ?_;rintro e8 W8 ⟨rfl,bm,bt,Q⟩;have ay:=aL.out.add a5 X bm bt Q;have ag:=(Q.block W2.heap.size aw.out (by have:=aw.out;omega) (by omega)).trans ab.out;have d2:W8.cell? { block:=W2.heap.size,off:=2 } =some (.slice a2 r.outs.length c2):=by simp[World.cell?,ag]
   have cG:=Zcyn _ r.outs W8 (bB.out.below ay.b) (by have:=n.out;omega);have CG:=hid cG;have bC:=hid (show(Zcws (Zcws (Zcws [] (labS rs S)) [(true,r.name)]) (Zcyo r.ins)).length<=700 from by have h1:=(Zcwu (Zcws (Zcws [] (labS rs S)) [(true,r.name)]) (Zcyo r.ins)).2;have h2:=aR.out;have h3:=n.out;rw[Zcyp]at h1;omega);have bE:=hid (show W2.heap.size<W8.heap.size from Nat.lt_of_lt_of_le aw.out Q.size);have aM:=hid ay;clear bm bt Q ay ag cG aF aL ab d1
   go_wp2_with fail
   refine CG.out.mono ?_;rintro e9 W9 ⟨v9,rfl,bw,az⟩;obtain⟨a9,k9,q9,_,_,b2,bi⟩:=Zdfu bw;subst q9;have H:=aM.out.below az;have bL:=bE.out;have bH:=az.size;have bb:=Zdcf w.heap.size (w.heap.size+1) _ (Zcyo r.outs) a9 k9 W9 H.c (by omega) H.lm b2 (λ_ b e=>by have:=(bi b e).1;constructor<;>omega) (by have:=bC.out;have:=n.out;rw[Zcyp];omega);have aN:=hid H;have aH:=hid bb;clear bw az b2 bi H bL bH bb CG aM d2
   go_wp2_with fail
   refine aH.out.mono ?_;rintro bO bG ⟨rfl,ah,al,ak⟩;have j:=aN.out.add a5 X ah al ak;rw[<-Zcwt,<-Zcwt,<-Zcwt,<-List.append_assoc [(true,r.name)],<-aS.out]at j;have D:=j.ri.seenN;have aI:=hid j;have aU:Hid (A.length-seenN bG f.heap.size<A.length-seenN WR f.heap.size):=by
    show _<_;have:=HM.out;rw[aB.out]at this;rw[D];exact this
   clear ah al ak j D aH aN;go_wp2;go_roundw
   case rel=>exact⟨S ++ [e],aQ.out,aI.out⟩
   case measure=>exact aU.out
