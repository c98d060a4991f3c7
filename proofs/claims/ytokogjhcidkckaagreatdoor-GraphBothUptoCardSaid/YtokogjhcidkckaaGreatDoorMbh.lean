import Derived.Test.YtokogjhcidkckaaGreatDoorMbg
import Derived.Test.YtokogjhcidkckaaGreatDoorRows
import Derived.Deep.Slices
import Derived.Deep.Strs
import Derived.ProofKit
namespace Go.Proofs.YtokogjhcidkckaaGreatDoor
open Go.Lib (hid)
open Go.Proofs.Tryz
open Go.RowKit Go.Shelf
theorem Zcyc:Zbvn []=0:=by
 have hT:OkTog []:=⟨by simp,by simp,by simp,by simp,by simp,by simp⟩;rw[Zbvr hT,if_pos];unfold Zbng;simp[Zot,fcL]
structure FinP (ys out:List RuleS):Prop where
 code:Zbvn out=0
 few:out.length<=14
 mem:∀y∈out,y∈ys
theorem FinP.tog {ys out:List RuleS} (h:FinP ys out):OkTog out:=(Zbvs.1 h.code).1
theorem Zdar {a b c:World} (h:a.grownBy b none) (k:b.grownBy c none):a.grownBy c none:=
 ⟨k.os.trans h.os,k.tape.trans h.tape,k.output.trans h.output,Nat.le_trans h.size k.size,λi hi hn=>(k.block i (Nat.lt_of_lt_of_le hi h.size) hn).trans (h.block i hi hn)⟩
theorem Zdaq {a b:World} (h:a.grownBy b none):Below a.heap.size a b:=⟨h.os,h.tape,h.output,h.size,λk hk=>h.block k hk (by simp)⟩
theorem Zcxf {a b c:World} {row:Option Nat} (h:a.grownBy b none) (k:b.grownBy c row) (hr:∀x,row=some x->a.heap.size<=x):a.grownBy c none:=
 ⟨k.os.trans h.os,k.tape.trans h.tape,k.output.trans h.output,Nat.le_trans h.size k.size,λi hi _=>(k.block i (Nat.lt_of_lt_of_le hi h.size) (λe=>by have:=hr i e.symm;omega)).trans (h.block i hi (by simp))⟩
theorem Zdhx {Av:Nat->Prop} {w:World} {v:Value} {xs:List RuleS} (h:RulesA Av w v xs) {k:Nat} {x:RuleS} (hx:xs[k]? =some x):
  ∃g o cap a1 c1 a2 c2 a3 c3 a4 c4,v = .slice (some ⟨g,o,none⟩) xs.length cap/\g<w.heap.size/\RuleA Av w [.string x.name,.slice a1 x.ins.length c1,.slice a2 x.outs.length c2,.slice a3 x.after.length c3,.slice a4 x.steps.length c4] x/\∀w',Below w.heap.size w w'->
   w'.cell? ⟨g,o+k*5,none⟩=some (.string x.name)/\w'.cell? ⟨g,o+k*5+1,none⟩=some (.slice a1 x.ins.length c1)/\w'.cell? ⟨g,o+k*5+2,none⟩=some (.slice a2 x.outs.length c2)/\w'.cell? ⟨g,o+k*5+3,none⟩=some (.slice a3 x.after.length c3)/\w'.cell? ⟨g,o+k*5+4,none⟩=some (.slice a4 x.steps.length c4):=by
 obtain⟨rows,⟨⟨a,c,rfl,_,_,h2⟩,_⟩,hall⟩:=h;have hk:k<rows.length:=by rw[hall.1];exact(List.getElem?_eq_some_iff.1 hx).1
 have hR:=hall.2 k _ x (List.getElem?_eq_getElem hk) hx;obtain⟨b,o,rfl,hb,hc⟩:=h2 (by rintro rfl;simp at hk);obtain⟨vi,vo,vf,vs,e,h1,h2,h3,h4⟩:=id hR;obtain⟨a1,c1,q1⟩:=Zue h1.isStrs;obtain⟨a2,c2,q2⟩:=Zue h2.isStrs;obtain⟨a3,c3,q3⟩:=Zue h3.isStrs;obtain⟨a4,c4,q4⟩:∃a c,vs = .slice a x.steps.length c:=by
  obtain⟨rw4,hr4,ha4⟩:=h4;obtain⟨a4,c4,q,_⟩:=hr4.1;exact⟨a4,c4,by rw[q,ha4.1]⟩
 subst q1 q2 q3 q4;rw[e]at hR;refine⟨b,o,c,a1,c1,a2,c2,a3,c3,a4,c4,by rw[hall.1],hb,hR,λw' hw=>?_⟩;have key:∀(i:Nat) u,rows[k][i]? =some u->w'.cell? ⟨b,o+k*5+i,none⟩=some u:=λi u hu=>(hw.cell (p:=⟨b,o+k*5+i,none⟩) hb).trans (hc k _ (List.getElem?_eq_getElem hk) i u hu)
 rw[e]at key;exact⟨key 0 _ rfl,key 1 _ rfl,key 2 _ rfl,key 3 _ rfl,key 4 _ rfl⟩
theorem Zdhy {Av:Nat->Prop} {w:World} {g:Nat} {x:RuleS} {u1 u2 u3 u4:Value} (hz:w.heap[g]? =some (.cells #[.string x.name,u1,u2,u3,u4] 50)) (hr:RuleA Av w [.string x.name,u1,u2,u3,u4] x) (hg:¬Av g):
  RulesA Av w (.slice (some ⟨g,0,none⟩) 1 1) [x]:=by
 refine⟨[[.string x.name,u1,u2,u3,u4]],⟨⟨some ⟨g,0,none⟩,1,rfl,by simp,by unfold maxLen;omega,λ_=>⟨g,0,rfl,(Array.getElem?_eq_some_iff.1 hz).1,λj r hj i u hu=>?_⟩⟩,λb e=>?_⟩,⟨rfl,λj r y hj hy=>?_⟩⟩
 ·match j,hj with
  | 0,hj=>
   simp only[List.getElem?_cons_zero,Option.some.injEq]at hj;subst hj
   match i,hu with
   | 0,hu=>simp at hu;subst hu;simp[World.cell?,hz]
   | 1,hu=>simp at hu;subst hu;simp[World.cell?,hz]
   | 2,hu=>simp at hu;subst hu;simp[World.cell?,hz]
   | 3,hu=>simp at hu;subst hu;simp[World.cell?,hz]
   | 4,hu=>simp at hu;subst hu;simp[World.cell?,hz]
   | n+5,hu=>simp at hu
  | n+1,hj=>simp at hj
 ·cases e
  exact⟨(Array.getElem?_eq_some_iff.1 hz).1,hg⟩
 ·match j,hj,hy with
  | 0,hj,hy=>
   simp only[List.getElem?_cons_zero,Option.some.injEq]at hj hy;subst hj;subst hy;exact hr
  | n+1,hj,_=>simp at hj
theorem Zdhz {V A2 W:World} {out:List RuleS} {x:RuleS} {rows:List (List Value)} {v1 v2:Value} {rows2:List (List Value)} (hall:AllA (RuleA (λb=>V.heap.size<=b) V) rows out) (hg1:V.grownBy A2 none)
  (ho1:A2.ownsRow V.heap.size 50 5 v1 rows.length rows.flatten) (hall2:AllA (RuleA (λb=>v1.ownBlock=some b) A2) rows2 [x]) (hg2:A2.grownBy W v1.ownBlock) (ho2:W.ownsRow V.heap.size 50 5 v2 (out.length + [x].length) (rows.flatten++rows2.flatten)):RulesI W v2 (out ++ [x]):=by
 have h1:AllA (RuleA (λb=>v1.ownBlock=some b) V) rows out:=hall.imp λr y h=>h.mono λb _ e=>(World.ownsRow.lt ho1 b e).1
 exact(Zbxt h1 hall2 hg1 hg2 ho2 (λb e=>e)).rulesI
set_option maxHeartbeats 16000000
set_option maxRecDepth 100000
theorem Zczm (v:Value) (xs:List RuleS) (w:World) (h:RulesI w v xs) (hs:∀x∈xs,SmallR x 1048576) (hsr:∀x∈Zbvw 42 xs,SmallR x 1048576/\ShortR x):
  Calls prog 10 #[v] w λe w'=>∃rs,Zbz w rs e w'/\FinP (Zbvw 42 xs) rs:=by
 have mixed:prog.follows .mixedOrders=true:=by kernel_rfl
 have HC:=hid (Zbwl v xs w h hs);obtain⟨ys,hys⟩:∃ys,Zbvw 42 xs=ys:=⟨_,rfl⟩;rw[hys]at HC hsr⊢;have hyl:ys.length<=42:=by rw[<-hys,Zbvy];exact Nat.min_le_left _ _
 have HSR:=hid hsr;obtain⟨sa,sc,hv,hs1,hs2⟩:=Zbjn h;subst hv;clear h hs hsr hys
 go_enter func10,ntmps10
 go_wp2_with fail
 refine HC.out.mono ?_;rintro e w1 ⟨ra,rn,rc,rfl,hraw,hb1⟩;obtain⟨_,_,q⟩:=hraw.len
 cases q
 have hA:RulesA (λb=>b<w.heap.size∨w1.heap.size<=b) w1 (.slice ra ys.length rc) ys:=hraw.rulesA.mono λb hb ha=>by
  rcases ha with ha|ha
  ·exact ha
  ·omega
 have HCS:Hid (∀(k:Nat) x,ys[k]? =some x->_):=hid (λk x hx=>Zdhx hA (k:=k) (x:=x) hx);have HB1:=hid hb1;have hs11:=hb1.size;have HO0:=hid (Zbxk w.heap.size w1);clear HC hraw hA hb1
 go_wp2_with fail
 go_loopw [3,11] (λov iv wr=>∃(k:Nat) (out:List RuleS),k<=ys.length/\iv = .int .i64 (k:Int)/\OwnRules w.heap.size wr ov out/\FinP ys out/\(∀b,ov.ownBlock=some b->w1.heap.size<=b)/\Below w1.heap.size w1 wr) (λ_ iv _=>ys.length-(intOf iv).toNat)
 case atStart=>exact⟨0,[],Nat.zero_le _,rfl,HO0.out,⟨Zcyc,by simp,by simp⟩,λb e=>(by cases e),Below.refl _ _⟩
 case round=>
  obtain⟨k,out,hk,rfl,hown,hfin,hob,hbw⟩:=hrel;have HFI:=hid hfin;have HO:=hid hown;have HOB:=hid hob;have HB:=hid hbw;obtain⟨oa,oc,q⟩:=hown.len;subst q;clear hown hob hbw hfin
  by_cases hlt:k<ys.length
  ·obtain⟨x,hx⟩:∃x,ys[k]? =some x:=⟨ys[k],List.getElem?_eq_getElem hlt⟩
   have hi1:(k:Int)<(ys.length:Int):=by omega
   have hi0:(0:Int)<=(k:Int):=by omega
   obtain⟨gr,ro,cap,a1,c1,a2,c2,a3,c3,a4,c4,hv,hgr,hR,hc⟩:=HCS.out k x hx;obtain⟨d0,d1,d2,d3,d4⟩:=hc _ HB.out
   cases hv
   have hol:out.length<=14:=HFI.out.few;have hxm:=List.mem_of_getElem? hx;have hsml:∀y∈out ++ [x],SmallR y 1048576/\ShortR y:=λy hy=>by
    rcases List.mem_append.1 hy with hy|hy
    ·exact HSR.out y (HFI.out.mem y hy)
    ·simp at hy
     subst hy;exact HSR.out _ hxm
   obtain⟨V1,hV1⟩:∃V,V=(wr.alloc (.cells #[.string x.name,.slice a1 x.ins.length c1,.slice a2 x.outs.length c2,.slice a3 x.after.length c3,.slice a4 x.steps.length c4] 50)).drew:=⟨_,rfl⟩;have hbV:Below wr.heap.size wr V1:=by rw[hV1];exact((Below.refl _ _).alloc (Nat.le_refl _) _).drew
   have hbx:V1.heap[wr.heap.size]? =some (.cells #[.string x.name,.slice a1 x.ins.length c1,.slice a2 x.outs.length c2,.slice a3 x.after.length c3,.slice a4 x.steps.length c4] 50):=by rw[hV1];exact alloc_at wr _
   have hR0:RuleA (λb=>b<w.heap.size∨w1.heap.size<=b) V1 [.string x.name,.slice a1 x.ins.length c1,.slice a2 x.outs.length c2,.slice a3 x.after.length c3,.slice a4 x.steps.length c4] x:=
    (hR.keep (Zpv HB.out)).keep (Zpv hbV)
   have hw1r:=HB.out.size;have hRV:RuleA (λb=>V1.heap.size<=b) V1 [.string x.name,.slice a1 x.ins.length c1,.slice a2 x.outs.length c2,.slice a3 x.after.length c3,.slice a4 x.steps.length c4] x:=hR0.mono λb hb ha=>by omega
   have hOV:=HO.out.below hbV;have hOA:RulesA (λb=>V1.heap.size<=b) V1 (.slice oa out.length oc) out:=hOV.rulesA.mono λb hb ha=>by omega
   have HBX:=hid hbx;have HR0:=hid hR0;have HRV:=hid hRV;have HOV:=hid hOV;have HOA:=hid hOA;have HXM:=hid hxm;have HSML:=hid hsml;have HBV:=hid hbV;clear hc hR hbV hbx hR0 hRV hOV hOA hsml hx hxm hgr
   go_wp2_with fail
   refine wp_region_held_drew (S:=λV=>Below V1.heap.size V1 V) (by kernel_rfl) ?_ (λhHeld=>?_)
   ·rw[<-hV1];exact Below.refl _ _
   rw[<-hV1]at hHeld⊢;clear hV1;refine tkK 0 ?_
   try simp only[Act.put,sA,sZ,sS]
   refine tkH 2 (v:=?_) ?_ ?_;rotate_left
   ·intro w hSw;have hbx:=(hSw.block _ (Array.getElem?_eq_some_iff.1 HBX.out).1).trans HBX.out;obtain⟨⟨b0,b1,b2,b3,b4⟩,_⟩:=Zdhi hbx;go_simp;try with_reducible rfl
   try simp only[Act.put,sA,sZ,sS]
   obtain⟨rows,v1,A1,hr1,ho1,hg1,hl1,hall1⟩:=Zbxu (ty:=22) (v0:= .slice none 0 0) (World.ownsRow_nil V1 V1.heap.size 50 5) HOA.out (Nat.le_refl _) (by omega);rw[List.nil_append,Nat.zero_add]at ho1;have HR1:=hid hr1;obtain⟨Z1,hZ1⟩:∃V,V=V1.alloc (.cells #[.string x.name,.slice a1 x.ins.length c1,.slice a2 x.outs.length c2,.slice a3 x.after.length c3,.slice a4 x.steps.length c4] 50):=⟨_,rfl⟩;refine rdH [1,3] ?_;refine rcH (λK hK=>?_) ?_
   ·clear hZ1;refine Zbxy rfl _ _ _ rfl rfl rfl HR1.out ?_
    refine hK.out _ _ ?_ (λhHeld=>?_)
    ·try dsimp only
     exact Zdaq hg1
    clear hK K
    try simp only[Act.put,sA,sZ,sS]
    obtain⟨A2,hA2⟩:∃V,V=A1.alloc (.cells #[.string x.name,.slice a1 x.ins.length c1,.slice a2 x.outs.length c2,.slice a3 x.after.length c3,.slice a4 x.steps.length c4] 50):=⟨_,rfl⟩;have hgA:A1.grownBy A2 none:=by rw[hA2];exact⟨rfl,rfl,rfl,by simp,λk hk _=>Below.heap_alloc _ _ _ hk⟩
    have hzg:A2.heap[A1.heap.size]? =some (.cells #[.string x.name,.slice a1 x.ins.length c1,.slice a2 x.outs.length c2,.slice a3 x.after.length c3,.slice a4 x.steps.length c4] 50):=by rw[hA2];exact alloc_at A1 _
    obtain⟨gx,hgx⟩:∃g,A1.heap.size=g:=⟨_,rfl⟩;rw[hgx]at hzg;have hg2:V1.grownBy A2 none:=Zdar hg1 hgA;have hgv:=hg2;have hsv:=Nat.le_refl V1.heap.size;have hng:¬v1.ownBlock=some gx:=λe=>by have:=(World.ownsRow.lt ho1 gx e).2;omega
    replace ho1:=World.ownsRow.kept ho1 hgA (by cases v1.ownBlock<;>simp);have HGV:=hid hgv;have HSV:=hid hsv;have HO1:=hid ho1;have HL1:=hid hl1;have HG2:=hid hg2;have HZG:=hid hzg;have HNG:=hid hng;have HALL1:=hid hall1;clear ho1 hl1 hall1 hg1 hgA hzg hng hr1 hg2 hgv hsv;refine rdH [3] ?_;refine rcH (λK hK=>?_) ?_
    ·go_simp;rw[<-hA2];try rw[hgx];clear hA2 hgx
     refine hK.out _ _ ?_ (λhHeld=>?_)
     ·try dsimp only
      exact Zdaq HGV.out
     clear hK K
     try simp only[Act.put,sA,sZ,sS]
     have hrx2:RulesA (λb=>v1.ownBlock=some b) A2 (.slice (some ⟨gx,0,none⟩) 1 1) [x]:=Zdhy HZG.out (((HRV.out.mono (Av':=λb=>V1.heap.size<=b) λb _ h=>h).keep (Zpx HGV.out (λk e=>by cases e))).mono λb _ e=>Nat.le_trans HSV.out (World.ownsRow.lt HO1.out b e).1) HNG.out;obtain⟨rows2,v2,A3,hr2,ho2,hg2,hl2,hall2⟩:=Zbxu (ty:=22) HO1.out hrx2 (HG2.out.size) (by have:=HL1.out;simp only[List.length_cons,List.length_nil];omega);have hRI:RulesI A3 v2 (out ++ [x]):=Zdhz HALL1.out HG2.out (by rw[HL1.out];exact HO1.out) hall2 hg2 ho2;have hbA3:Below V1.heap.size V1 A3:=Zfj (Below.refl _ _) (Zcxf HGV.out hg2 (λb e=>Nat.le_trans HSV.out (World.ownsRow.lt HO1.out b e).1)) (Nat.le_refl _);have hcall:=Zccs v2 (out ++ [x]) A3 hRI (by rw[List.length_append];simp only[List.length_cons,List.length_nil];omega) HSML.out;have CC:=hid hcall;have HBA3:=hid hbA3;have HR2:=hid hr2;clear hrx2 hr2 ho2 hg2 hl2 hall2 hRI hbA3 hcall;refine rdH [4] ?_;refine rcH (λK hK=>?_) ?_
     ·refine Zbxy rfl _ _ _ rfl rfl rfl HR2.out ?_
      refine hK.out _ _ ?_ (λhHeld=>?_)
      ·try dsimp only
       exact HBA3.out
      clear hK K
      try simp only[Act.put,sA,sZ,sS]
      refine rdH [5] ?_;refine rcH (λK hK=>?_) ?_
      ·go_simp;refine CC.out.mono ?_;rintro e W4 ⟨⟨c,s,rfl,hall⟩,hb4⟩;dsimp only
       refine hK.out _ _ ?_ (λhHeld=>?_)
       ·try dsimp only
        exact HBA3.out.trans (hb4.mono HBA3.out.size)
       clear hK K
       try simp only[Act.put,sA,sZ,sS]
       refine tkK 6 ?_;refine tkK 7 ?_;refine tkK 8 ?_;refine tkK 9 ?_;refine tkK 10 ?_
       try simp only[Act.put,sA,sZ,sS]
       refine wpAnyH_done (by kernel_rfl) ?_ _;have hbW:=hHeld;have hbx:=(hbW.block _ (Array.getElem?_eq_some_iff.1 HBX.out).1).trans HBX.out;have hOW:=HOV.out.below hbW;have hRW:=HR0.out.keep (Zpv hbW);have hszV:=HBV.out.size;have hszW:=hbW.size;have hbB:Below w1.heap.size w1 W4:=HB.out.trans ((HBV.out.trans (hbW.mono HBV.out.size)).mono HB.out.size);have HBX2:=hid hbx;have HOW:=hid hOW;have HRW:=hid hRW;have HBB:=hid hbB;clear hbx hOW hRW hszV hszW hbB hbW HBX HOV HR0 HRV HOA HSML HBV HO
       by_cases h0:c=0
       ·subst h0
        have HF2:=hid (Zdke hall);clear hall
        by_cases h14:out.length<14
        ·have h14i:(out.length:Int)<14:=by omega
         obtain⟨⟨b0,b1,b2,b3,b4⟩,_⟩:=Zdhi HBX2.out;have hra:RuleA (AvOf w.heap.size (.slice oa out.length oc)) W4 [.string x.name,.slice a1 x.ins.length c1,.slice a2 x.outs.length c2,.slice a3 x.after.length c3,.slice a4 x.steps.length c4] x:=HRW.out.mono λb _ e=>by
          rcases e with e|e
          ·exact .inl e
          ·exact .inr (HOB.out b e)
         have HRA:=hid hra;have hw0:w.heap.size<=W4.heap.size:=Nat.le_trans hs11 HBB.out.size;clear hra
         go_wp2_with (at_builtin;refine Zbuh (by rfl) _ _ (by rfl) w.heap.size _ out x a1 a2 a3 a4 _ c1 _ c2 _ c3 _ c4 (by rfl) HOW.out hw0 (by omega) HRA.out _ (by rfl) (by simp) ?_)
         intro v' w6 hown6 hb6 hfr6 hnew6;have HO6:=hid hown6;have HF6:=hid (show FinP ys (out ++ [x])from⟨HF2.out,by rw[List.length_append];simp;omega,λy hy=>by
          rcases List.mem_append.1 hy with hy|hy
          ·exact HFI.out.mem y hy
          ·simp at hy;subst hy;exact HXM.out⟩)
         have HB6:=hid (HBB.out.trans ((hfr6.below HBB.out.size λb hb e=>by have:=HOB.out b e;omega)));have HN6:=hid (show ∀b,v'.ownBlock=some b->w1.heap.size<=b from λb e=>by
          rcases hnew6 b e with h|h
          ·exact HOB.out b h
          ·have:=HBB.out.size;omega)
         clear hown6 hb6 hfr6 hnew6;go_wp2;go_roundw
         case rel=>exact⟨k+1,_,by omega,by go_num,HO6.out,HF6.out,HN6.out,HB6.out⟩
         case measure=>simp only[intOf];omega
        ·have h14i:¬(out.length:Int)<14:=by omega
         go_wp2;go_roundw
         case rel=>exact⟨k+1,out,by omega,by go_num,HOW.out,HFI.out,HOB.out,HBB.out⟩
         case measure=>simp only[intOf];omega
       ·clear hall
        go_wp2;go_roundw
        case rel=>exact⟨k+1,out,by omega,by go_num,HOW.out,HFI.out,HOB.out,HBB.out⟩
        case measure=>simp only[intOf];omega
      exact AllReadyH.nil
     exact AllReadyH.nil
    exact AllReadyH.nil
   refine rcH (λK hK=>?_) ?_
   ·go_simp;rw[<-hZ1]
    refine hK.out _ _ ?_ (λhHeld=>?_)
    ·try dsimp only
     rw[hZ1];exact(Below.refl _ _).alloc (Nat.le_refl _) _
    clear hK K
    try simp only[Act.put,sA,sZ,sS]
    have hgA:V1.grownBy Z1 none:=by rw[hZ1];exact⟨rfl,rfl,rfl,by simp,λk hk _=>Below.heap_alloc _ _ _ hk⟩
    have hsA:V1.heap.size<=Z1.heap.size:=hgA.size;have hzg0:Z1.heap[V1.heap.size]? =some (.cells #[.string x.name,.slice a1 x.ins.length c1,.slice a2 x.outs.length c2,.slice a3 x.after.length c3,.slice a4 x.steps.length c4] 50):=by rw[hZ1];exact alloc_at V1 _
    have hOA1:RulesA (λb=>V1.heap.size<=b) Z1 (.slice oa out.length oc) out:=HOA.out.keep (Zpx hgA (λk e=>by cases e));clear hZ1 hr1 ho1 hg1 hl1 hall1 HR1;obtain⟨rows,v1,A2,hr1,ho1,hg1,hl1,hall1⟩:=Zbxu (ty:=22) (v0:= .slice none 0 0) (World.ownsRow_nil Z1 Z1.heap.size 50 5) hOA1 (Nat.le_refl _) (by omega);rw[List.nil_append,Nat.zero_add]at ho1;have hzl:=(Array.getElem?_eq_some_iff.1 hzg0).1;have hng:¬v1.ownBlock=some V1.heap.size:=λe=>by have:=(World.ownsRow.lt ho1 _ e).1;omega
    have hzg:A2.heap[V1.heap.size]? =some (.cells #[.string x.name,.slice a1 x.ins.length c1,.slice a2 x.outs.length c2,.slice a3 x.after.length c3,.slice a4 x.steps.length c4] 50):=(hg1.block _ hzl (by simp[Value.ownBlock])).trans hzg0;have hgv:V1.grownBy A2 none:=Zdar hgA hg1;have hg2:=hg1;have hsv:=hsA;replace hall1:=hall1.imp λr y h=>RuleA.mono (Av':=λb=>Z1.heap.size<=b) h λb _ e=>Nat.le_trans hsA e
    have HGV:=hid hgv;have HSV:=hid hsv;have HO1:=hid ho1;have HL1:=hid hl1;have HG2:=hid hg2;have HZG:=hid hzg;have HNG:=hid hng;have HALL1:=hid hall1;have HR1:=hid hr1;clear ho1 hl1 hall1 hg1 hgA hsA hzg0 hzg hng hg2 hOA1 hzl hr1 hgv hsv;refine rdH [1] ?_;refine rcH (λK hK=>?_) ?_
    ·refine Zbxy rfl _ _ _ rfl rfl rfl HR1.out ?_
     refine hK.out _ _ ?_ (λhHeld=>?_)
     ·try dsimp only
      exact Zdaq HGV.out
     clear hK K
     try simp only[Act.put,sA,sZ,sS]
     have hrx2:RulesA (λb=>v1.ownBlock=some b) A2 (.slice (some ⟨V1.heap.size,0,none⟩) 1 1) [x]:=Zdhy HZG.out (((HRV.out.mono (Av':=λb=>V1.heap.size<=b) λb _ h=>h).keep (Zpx HGV.out (λk e=>by cases e))).mono λb _ e=>Nat.le_trans HSV.out (World.ownsRow.lt HO1.out b e).1) HNG.out;obtain⟨rows2,v2,A3,hr2,ho2,hg2,hl2,hall2⟩:=Zbxu (ty:=22) HO1.out hrx2 (HG2.out.size) (by have:=HL1.out;simp only[List.length_cons,List.length_nil];omega);have hRI:RulesI A3 v2 (out ++ [x]):=Zdhz HALL1.out HG2.out (by rw[HL1.out];exact HO1.out) hall2 hg2 ho2;have hbA3:Below V1.heap.size V1 A3:=Zfj (Below.refl _ _) (Zcxf HGV.out hg2 (λb e=>Nat.le_trans HSV.out (World.ownsRow.lt HO1.out b e).1)) (Nat.le_refl _);have hcall:=Zccs v2 (out ++ [x]) A3 hRI (by rw[List.length_append];simp only[List.length_cons,List.length_nil];omega) HSML.out;have CC:=hid hcall;have HBA3:=hid hbA3;have HR2:=hid hr2;clear hrx2 hr2 ho2 hg2 hl2 hall2 hRI hbA3 hcall;refine rdH [4] ?_;refine rcH (λK hK=>?_) ?_
     ·refine Zbxy rfl _ _ _ rfl rfl rfl HR2.out ?_
      refine hK.out _ _ ?_ (λhHeld=>?_)
      ·try dsimp only
       exact HBA3.out
      clear hK K
      try simp only[Act.put,sA,sZ,sS]
      refine rdH [5] ?_;refine rcH (λK hK=>?_) ?_
      ·go_simp;refine CC.out.mono ?_;rintro e W4 ⟨⟨c,s,rfl,hall⟩,hb4⟩;dsimp only
       refine hK.out _ _ ?_ (λhHeld=>?_)
       ·try dsimp only
        exact HBA3.out.trans (hb4.mono HBA3.out.size)
       clear hK K
       try simp only[Act.put,sA,sZ,sS]
       refine tkK 6 ?_;refine tkK 7 ?_;refine tkK 8 ?_;refine tkK 9 ?_;refine tkK 10 ?_
       try simp only[Act.put,sA,sZ,sS]
       refine wpAnyH_done (by kernel_rfl) ?_ _;have hbW:=hHeld;have hbx:=(hbW.block _ (Array.getElem?_eq_some_iff.1 HBX.out).1).trans HBX.out;have hOW:=HOV.out.below hbW;have hRW:=HR0.out.keep (Zpv hbW);have hszV:=HBV.out.size;have hszW:=hbW.size;have hbB:Below w1.heap.size w1 W4:=HB.out.trans ((HBV.out.trans (hbW.mono HBV.out.size)).mono HB.out.size);have HBX2:=hid hbx;have HOW:=hid hOW;have HRW:=hid hRW;have HBB:=hid hbB;clear hbx hOW hRW hszV hszW hbB hbW HBX HOV HR0 HRV HOA HSML HBV HO
       by_cases h0:c=0
       ·subst h0
        have HF2:=hid (Zdke hall);clear hall
        by_cases h14:out.length<14
        ·have h14i:(out.length:Int)<14:=by omega
         obtain⟨⟨b0,b1,b2,b3,b4⟩,_⟩:=Zdhi HBX2.out;have hra:RuleA (AvOf w.heap.size (.slice oa out.length oc)) W4 [.string x.name,.slice a1 x.ins.length c1,.slice a2 x.outs.length c2,.slice a3 x.after.length c3,.slice a4 x.steps.length c4] x:=HRW.out.mono λb _ e=>by
          rcases e with e|e
          ·exact .inl e
          ·exact .inr (HOB.out b e)
         have HRA:=hid hra;have hw0:w.heap.size<=W4.heap.size:=Nat.le_trans hs11 HBB.out.size;clear hra
         go_wp2_with (at_builtin;refine Zbuh (by rfl) _ _ (by rfl) w.heap.size _ out x a1 a2 a3 a4 _ c1 _ c2 _ c3 _ c4 (by rfl) HOW.out hw0 (by omega) HRA.out _ (by rfl) (by simp) ?_)
         intro v' w6 hown6 hb6 hfr6 hnew6;have HO6:=hid hown6;have HF6:=hid (show FinP ys (out ++ [x])from⟨HF2.out,by rw[List.length_append];simp;omega,λy hy=>by
          rcases List.mem_append.1 hy with hy|hy
          ·exact HFI.out.mem y hy
          ·simp at hy;subst hy;exact HXM.out⟩)
         have HB6:=hid (HBB.out.trans ((hfr6.below HBB.out.size λb hb e=>by have:=HOB.out b e;omega)));have HN6:=hid (show ∀b,v'.ownBlock=some b->w1.heap.size<=b from λb e=>by
          rcases hnew6 b e with h|h
          ·exact HOB.out b h
          ·have:=HBB.out.size;omega)
         clear hown6 hb6 hfr6 hnew6;go_wp2;go_roundw
         case rel=>exact⟨k+1,_,by omega,by go_num,HO6.out,HF6.out,HN6.out,HB6.out⟩
         case measure=>simp only[intOf];omega
        ·have h14i:¬(out.length:Int)<14:=by omega
         go_wp2;go_roundw
         case rel=>exact⟨k+1,out,by omega,by go_num,HOW.out,HFI.out,HOB.out,HBB.out⟩
         case measure=>simp only[intOf];omega
       ·clear hall
        go_wp2;go_roundw
        case rel=>exact⟨k+1,out,by omega,by go_num,HOW.out,HFI.out,HOB.out,HBB.out⟩
        case measure=>simp only[intOf];omega
      exact AllReadyH.nil
     exact AllReadyH.nil
    exact AllReadyH.nil
   exact AllReadyH.nil
  ·obtain rfl:k=ys.length:=by omega
   have hi1:¬(ys.length:Int)<(ys.length:Int):=by omega
   have hbb:Below w.heap.size w wr:=HB1.out.trans (HB.out.mono hs11);have HBB:=hid hbb;clear hbb;go_wp2;go_ret;exact⟨out,⟨_,_,_,rfl,HO.out,HBB.out⟩,HFI.out⟩
theorem Zbkv (x:RuleS):ShortR (cutR x):=
 ⟨by show(x.ins.take 10).length<=10;rw[List.length_take];omega,by show(x.outs.take 6).length<=6;rw[List.length_take];omega,by show(x.after.take 10).length<=10;rw[List.length_take];omega,
  by show((x.steps.take 14).map cutS).length<=14;rw[List.length_map,List.length_take];omega,λy hy=>by
   obtain⟨z,hz,rfl⟩:=List.mem_map.1 (show y∈(x.steps.take 14).map cutS from hy);exact⟨by show(z.args.take 8).length<=8;rw[List.length_take];omega,by show(z.lits.take 3).length<=3;rw[List.length_take];omega⟩⟩
theorem Zbma {x:RuleS} {m:Nat} (h:SmallR x m):SmallR (cutR x) m:=by
 have tk:∀ {l:List ByteArray} (k:Nat),SmallL l m->SmallL (l.take k) m:=λk h=>⟨by rw[List.length_take];have:=h.1;omega,λz hz=>h.2 z (List.mem_of_mem_take hz)⟩
 exact⟨h.name,tk 10 h.ins,tk 6 h.outs,tk 10 h.after,by show((x.steps.take 14).map cutS).length<=m;rw[List.length_map,List.length_take];have:=h.few;omega,λy hy=>by
  obtain⟨z,hz,rfl⟩:=List.mem_map.1 (show y∈(x.steps.take 14).map cutS from hy);have:=h.steps z (List.mem_of_mem_take hz);exact⟨this.out,tk 8 this.args,tk 3 this.lits,this.op,this.n⟩⟩
theorem Zgo {H:Type} {d:DataW H} {l:List (DataW H)} (h:d∈l):Rows.uptoBulk d<=Rows.uptoBulkAll l:=by
 induction l with
 | nil=>cases h
 | cons x r ih=>
  simp only[Rows.uptoBulkAll]
  cases List.mem_cons.1 h with
  | inl e=>subst e;omega
  | inr e=>have:=ih e;omega
theorem Zgp {H:Type} (elems spare:List (DataW H)):Rows.uptoBulkAll elems+1<=Rows.uptoBulk (.slice elems spare):=by
 simp only[Rows.uptoBulk];omega
open Go.ChangeShapes Go.WideShapes Go.ChangeAt Go.Deep
theorem Zgn {H:Type} (d:DataW H):1<=Rows.uptoBulk d:=by
 cases d with
 | lit l=>cases l<;>simp[Rows.uptoBulk]
 | _=>simp[Rows.uptoBulk]
theorem Zgm {H:Type}:∀l:List (DataW H),l.length<=Rows.uptoBulkAll l
 | []=>by simp[Rows.uptoBulkAll]
 | d::l=>by
  have h1:=Zgn d;have h2:=Zgm l;simp only[List.length_cons,Rows.uptoBulkAll];omega
section
variable {H:Type} {enc:TypeId×Value->H} {W:World} {base:Nat} {sp:Nat->Bool} {held:Bool}
theorem Zbcw {t e:TypeId} {k fuel:Nat} {cs:List Value} {x:DataW H×List MemPlace} {α:Type} [Inhabited α] (Pr:List Value->α->Prop) (Qb:α->Nat->Prop) (ht:prog.underlying t=some (.slice e)) (hk:prog.cellsOf e=k) (hk0:0<k)
  (elem:∀n cs' y,cs'.length=k->DataW.trod enc prog W base sp held n e cs'=some y->∃a:α,Pr cs' a/\Qb a (Rows.uptoBulk y.1)) (mono:∀a m m',Qb a m->m<=m'->Qb a m')
  (h:DataW.trod enc prog W base sp held fuel t cs=some x):∃v rows xs,cs = [v]/\IsRow W v k rows/\AllA Pr rows xs/\xs.length<=Rows.uptoBulk x.1/\∀a∈xs,Qb a (Rows.uptoBulk x.1):=by
 rcases open_slice ht h with⟨hcs,_⟩|⟨a',len,cap,m,nn,D,Pl,hcs,hb,hl,hm,hmm,hx,hall⟩
 ·exact⟨.slice none 0 0,[],[],hcs,⟨none,0,rfl,by simp,by simp[maxLen],λh=>absurd rfl h⟩,AllA.nil _,by simp,by simp⟩
 ·rw[hk]at hall
  have hnm:len<=m:=by rw[hmm];split<;>omega
  have each:∀i,i<len->∃p:List Value×α,p.1.length=k/\(∀j,j<k->W.cell? (a'.add (i*k+j))=p.1[j]?)/\Pr p.1 p.2/\Qb p.2 (Rows.uptoBulk (D i)):=by
   intro i hi;obtain⟨cs',h1,h2⟩:=hall i (by omega);obtain⟨_,hlen,hcell⟩:=World.cells?_some h1;obtain⟨a,ha,hq⟩:=elem _ _ _ hlen h2;refine⟨(cs',a),hlen,λj hj=>?_,ha,hq⟩;have:=hcell j hj;rw[add_add]at this;exact this
  obtain⟨X,hX⟩:=choose_lt each;have hbk:Rows.uptoBulkAll ((List.range len).map D)+1<=Rows.uptoBulk x.1:=by rw[hx];exact Zgp _ _
  have hbl:=Zgm ((List.range len).map D);simp only[List.length_map,List.length_range]at hbl;refine⟨.slice (some a') len cap,(List.range len).map λi=>(X i).1,(List.range len).map λi=>(X i).2,hcs,⟨some a',cap,by simp,by simpa using hl,hm,λhne=>?_⟩,⟨by simp,λj r y hr hy=>?_⟩,by simp only[List.length_map,List.length_range];omega,λa ha=>?_⟩
  ·have hn:0<len:=by
    rcases Nat.eq_zero_or_pos len with h0|h0
    ·subst h0;simp at hne
    ·exact h0
   obtain⟨b,o,sp'⟩:=a';obtain⟨hl0,hc0,_⟩:=hX 0 hn;have h0:=hc0 0 hk0;rw[List.getElem?_eq_getElem (by rw[hl0];exact hk0)]at h0;have hs:sp'=none:=by simpa[Addr.add]using World.cell?_spot h0
   subst hs;refine⟨b,o,rfl,?_,λj r hr i u hu=>?_⟩
   ·simpa[Addr.add]using Zie h0
   ·have hj:j<len:=by have:=(List.getElem?_eq_some_iff.1 hr).1;simpa using this
    rw[List.getElem?_map,List.getElem?_range hj]at hr;simp at hr;subst hr;obtain⟨hl1,hc1,_⟩:=hX j hj;have hi:i<k:=by rw[<-hl1];exact(List.getElem?_eq_some_iff.1 hu).1
    have:=hc1 i hi;rw[hu,Addr.add_lit,<-Nat.add_assoc]at this;exact this
  ·have hj:j<len:=by have:=(List.getElem?_eq_some_iff.1 hr).1;simpa using this
   rw[List.getElem?_map,List.getElem?_range hj]at hr hy;simp at hr hy;subst hr hy;exact(hX j hj).2.2.1
  ·obtain⟨i,hi,rfl⟩:=List.mem_map.1 ha
   have hi':=List.mem_range.1 hi;refine mono _ _ _ (hX i hi').2.2.2 ?_;have:=Zgo (show D i∈(List.range len).map D from List.mem_map.2 ⟨i,hi,rfl⟩);omega
theorem Zbqr {w:World} {v:Value} {xs:List ByteArray} (h:IsRow w v 1 (Zbpk xs)):IsStrs w v xs:=by
 obtain⟨a,c,hv,h1,h2,h3⟩:=h;rw[Zbpo]at h1 hv;refine⟨a,c,hv,h1,h2,λhne=>?_⟩;obtain⟨b,o,e,hb,hc⟩:=h3 (by intro e;apply hne;cases xs with
  | nil=>rfl
  | cons x xs=>simp[Zbpk]at e)
 refine⟨b,o,e,hb,λk x hx=>?_⟩;have:=hc k [.string x] (by unfold Zbpk;rw[List.getElem?_map,hx];rfl) 0 (.string x) rfl;simpa using this
instance:Inhabited StepS:=⟨⟨ByteArray.empty,0,[],[],0⟩⟩
instance:Inhabited RuleS:=⟨⟨ByteArray.empty,[],[],[],[]⟩⟩
theorem Zbdb {fuel:Nat} {cs:List Value} {x:DataW H×List MemPlace} (h:DataW.trod enc prog W base sp held fuel 47 cs=some x):∃v xs,cs = [v]/\IsStrs W v xs/\SmallL xs (Rows.uptoBulk x.1):=by
 obtain⟨v,rows,xs,hcs,hrow,hall,hlen,hsm⟩:=Zbcw (α:=ByteArray) (λcs' y=>cs' = [.string y]) (λy m=>y.size<=m) underlying47 (k:=1) (by kernel_rfl) (by decide)
  (λn cs' y _ hy=>by
   obtain⟨s,e1,e2,_⟩:=DataW.trod_string underlying9 hy;refine⟨s,e1,?_⟩;rw[e2];simp only[Rows.uptoBulk];rw[Lib.size_eq];omega) (λ_ _ _ h1 h2=>Nat.le_trans h1 h2) h
 have hrows:rows=Zbpk xs:=by
  apply List.ext_getElem?;intro j;unfold Zbpk;rw[List.getElem?_map]
  rcases Nat.lt_or_ge j xs.length with hj|hj
  ·have:=hall.2 j (rows[j]'(by rw[hall.1];exact hj)) xs[j] (List.getElem?_eq_getElem _) (List.getElem?_eq_getElem hj)
   rw[List.getElem?_eq_getElem (by rw[hall.1];exact hj),List.getElem?_eq_getElem hj,this];rfl
  ·rw[List.getElem?_eq_none (by rw[hall.1];exact hj),List.getElem?_eq_none hj];rfl
 subst hrows;exact⟨v,xs,hcs,Zbqr hrow,hlen,hsm⟩
theorem Ztk {n:Int} (h:(Lit.int .i64 n).wf=true):Zba n:=by
 have h2:=of_decide_eq_true (by simpa[Lit.wf]using h:decide (IntKind.i64.min<=n/\n<=IntKind.i64.max)=true);have e1:IntKind.i64.min = -9223372036854775808:=by decide
 have e2:IntKind.i64.max=9223372036854775807:=by decide
 unfold Zba;omega
set_option maxRecDepth 100000 in
theorem Zbcz {fuel:Nat} {cs:List Value} {x:DataW H×List MemPlace} (hl:cs.length=5) (h:DataW.trod enc prog W base sp held fuel 60 cs=some x):∃y:StepS,Zcc W cs y/\SmallS y (Rows.uptoBulk x.1):=by
 obtain⟨xs,n,_,hx,_,hxl,hf⟩:=DataW.trod_struct underlying60 h;have c0:prog.cellsOf 9=1:=by kernel_rfl
 have c1:prog.cellsOf 3=1:=by kernel_rfl
 have c2:prog.cellsOf 47=1:=by kernel_rfl
 match xs,hxl,cs,hl with
 | [y0,y1,y2,y3,y4],_,[v0,v1,v2,v3,v4],_=>
  have g0:=hf 0 _ rfl;have g1:=hf 1 _ rfl;have g2:=hf 2 _ rfl;have g3:=hf 3 _ rfl;have g4:=hf 4 _ rfl;simp[c0,c1,c2]at g0 g1 g2 g3 g4;obtain⟨s0,f0,e0,_⟩:=DataW.trod_string underlying9 g0;obtain⟨n1,f1,e1,w1⟩:=DataW.trod_int underlying3 g1;obtain⟨u2,l2,f2,i2,m2⟩:=Zbdb g2;obtain⟨u3,l3,f3,i3,m3⟩:=Zbdb g3;obtain⟨n4,f4,e4,w4⟩:=DataW.trod_int underlying3 g4;simp at f0 f1 f2 f3 f4;subst f0 f1 f2 f3 f4;have hb:Rows.uptoBulk x.1=Rows.uptoBulk y0.1+(Rows.uptoBulk y1.1+(Rows.uptoBulk y2.1+(Rows.uptoBulk y3.1+(Rows.uptoBulk y4.1+0))))+1:=by rw[hx];rfl
  have hs:s0.size<=Rows.uptoBulk y0.1:=by rw[e0];simp only[Rows.uptoBulk];rw[Lib.size_eq];omega
  exact⟨⟨s0,n1,l2,l3,n4⟩,⟨_,_,rfl,i2,i3⟩,⟨by show s0.size<=_;omega,m2.mono (by omega),m3.mono (by omega),Ztk w1,Ztk w4⟩⟩
set_option maxRecDepth 100000 in
theorem Zbda {fuel:Nat} {cs:List Value} {x:DataW H×List MemPlace} (h:DataW.trod enc prog W base sp held fuel 48 cs=some x):∃v xs,cs = [v]/\StepsI W v xs/\xs.length<=Rows.uptoBulk x.1/\∀y∈xs,SmallS y (Rows.uptoBulk x.1):=by
 obtain⟨v,rows,xs,hcs,hrow,hall,hlen,hsm⟩:=Zbcw (α:=StepS) (Zcc W) SmallS underlying48 (k:=5) (by kernel_rfl) (by decide) (λn cs' y hl hy=>Zbcz hl hy) (λ_ _ _ h1 h2=>h1.mono h2) h;exact⟨v,xs,hcs,⟨rows,hrow,hall⟩,hlen,hsm⟩
set_option maxRecDepth 100000 in
theorem Zbcx {fuel:Nat} {cs:List Value} {x:DataW H×List MemPlace} (hl:cs.length=5) (h:DataW.trod enc prog W base sp held fuel 50 cs=some x):∃y:RuleS,RuleI W cs y/\SmallR y (Rows.uptoBulk x.1):=by
 obtain⟨xs,n,_,hx,_,hxl,hf⟩:=DataW.trod_struct underlying50 h;have c0:prog.cellsOf 9=1:=by kernel_rfl
 have c1:prog.cellsOf 48=1:=by kernel_rfl
 have c2:prog.cellsOf 47=1:=by kernel_rfl
 match xs,hxl,cs,hl with
 | [y0,y1,y2,y3,y4],_,[v0,v1,v2,v3,v4],_=>
  have g0:=hf 0 _ rfl;have g1:=hf 1 _ rfl;have g2:=hf 2 _ rfl;have g3:=hf 3 _ rfl;have g4:=hf 4 _ rfl;simp[c0,c1,c2]at g0 g1 g2 g3 g4;obtain⟨s0,f0,e0,_⟩:=DataW.trod_string underlying9 g0;obtain⟨u1,l1,f1,i1,m1⟩:=Zbdb g1;obtain⟨u2,l2,f2,i2,m2⟩:=Zbdb g2;obtain⟨u3,l3,f3,i3,m3⟩:=Zbdb g3;obtain⟨u4,l4,f4,i4,m4,k4⟩:=Zbda g4;simp at f0 f1 f2 f3 f4;subst f0 f1 f2 f3 f4;have hb:Rows.uptoBulk x.1=Rows.uptoBulk y0.1+(Rows.uptoBulk y1.1+(Rows.uptoBulk y2.1+(Rows.uptoBulk y3.1+(Rows.uptoBulk y4.1+0))))+1:=by rw[hx];rfl
  have hs:s0.size<=Rows.uptoBulk y0.1:=by rw[e0];simp only[Rows.uptoBulk];rw[Lib.size_eq];omega
  exact⟨⟨s0,l1,l2,l3,l4⟩,⟨_,_,_,_,rfl,i1,i2,i3,i4⟩,⟨by show s0.size<=_;omega,m1.mono (by omega),m2.mono (by omega),m3.mono (by omega),by show l4.length<=_;omega,λy hy=>(k4 y hy).mono (by omega)⟩⟩
end
set_option maxRecDepth 100000 in
theorem Zbxh {H:Type} {enc:TypeId×Value->H} {W:World} {base:Nat} {r:Reach} {b0:Nat} {sp:Nat->Bool} {held:Bool} {v:Value} {d:DataW H} {ps:List MemPlace}
  (hval:Value.okWide prog W r b0 22 v) (h:DataW.Trod enc prog W base sp held 22 v d ps):
  ∃xs:List RuleS,RulesI W v xs/\xs.length<=Rows.uptoBulk d/\∀y∈xs,SmallR y (Rows.uptoBulk d):=by
 obtain⟨a,n,c,rfl⟩:=okWide_slice underlying22 hval;obtain⟨fuel,hf⟩:=h;obtain⟨v',rows,xs,hcs,hrow,hall,hlen,hsm⟩:=Zbcw (α:=RuleS) (RuleI W) SmallR underlying22 (k:=5) (by kernel_rfl) (by decide) (λn cs' y hl hy=>Zbcx hl hy) (λ_ _ _ h1 h2=>h1.mono h2) hf;simp[Value.cells]at hcs;subst hcs;exact⟨xs,⟨rows,hrow,hall⟩,hlen,hsm⟩
end Go.Proofs.YtokogjhcidkckaaGreatDoor
