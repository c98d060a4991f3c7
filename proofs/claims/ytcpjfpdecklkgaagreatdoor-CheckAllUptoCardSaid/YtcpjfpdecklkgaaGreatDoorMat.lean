import Derived.Deep.CutBlock
import Derived.Deep.DeepCutAuto
import Derived.Test.YtcpjfpdecklkgaaGreatDoorMas
namespace Go.Proofs.YtcpjfpdecklkgaaGreatDoor
open Go.Lib (hid)
open Go.Proofs.Tryz
open Go.RowKit Go.Shelf
def Zav (x:RuleS):Prop:=(∀y∈nmsR x x.steps.length,Zbcf y.data.toList=true)/\(∀(j:Nat) y,x.steps[j]? =some y->MayX y)/\(0:Int)<(x.outs.length:Int)
def Zaw (x:RuleS) (e:Ending):Prop:=∃b,e = .returned (.bool b)/\(b=true↔Zav x)
theorem Zpr {x:RuleS} (h:¬Zav x):Zaw x (.returned (.bool false)):=⟨false,rfl,(λe=>by cases e),λh'=>(h h').elim⟩
theorem Zps {x:RuleS} (h:Zav x):Zaw x (.returned (.bool true)):=⟨true,rfl,λ_=>h,λ_=>rfl⟩
set_option maxHeartbeats 8000000 in
set_option maxRecDepth 100000 in
theorem Zhf (x:RuleS) (vi vo vf vs:Value) (w:World) (h:RuleI w [.string x.name,vi,vo,vf,vs] x) (hs:SmallR x 1048576) (hsh:ShortR x):
  Calls prog 63 #[.agg #[.string x.name,vi,vo,vf,vs]] w λe w'=>Zaw x e/\Below w.heap.size w w':=by
 obtain⟨_,_,_,_,q,h1,h2,h3,h4⟩:=h;simp only[List.cons.injEq,and_true,true_and]at q;obtain⟨rfl,rfl,rfl,rfl⟩:=q;obtain⟨a1,c1,rfl,_,_,_⟩:=Zua h1;obtain⟨a2,c2,rfl,_,hm2,_⟩:=Zua h2;obtain⟨a3,c3,rfl,_,_,_⟩:=Zua h3;obtain⟨a4,c4,rfl,hl4,hm4,hst⟩:=Zbpc h4;obtain⟨o1,ho1⟩:∃o:Obj,o = .cells #[.string x.name,.slice a1 x.ins.length c1,.slice a2 x.outs.length c2,.slice a3 x.after.length c3,.slice a4 x.steps.length c4] 37:=⟨_,rfl⟩;have hb0:Below w.heap.size w (w.alloc o1):=(Below.refl _ _).alloc (Nat.le_refl _) _;have hx1:=alloc_at w o1;have hlt:=Zfy hx1;obtain⟨W1,hW1⟩:∃W1,w.alloc o1=W1:=⟨_,rfl⟩;rw[hW1]at hx1 hb0 hlt;rw[ho1]at hx1 hW1;have HCE:Hid (∀w',Below W1.heap.size W1 w'->w'.cell? ⟨w.heap.size,0,none⟩=some (.string x.name)/\w'.cell? ⟨w.heap.size,1,none⟩=some (.slice a1 x.ins.length c1)/\w'.cell? ⟨w.heap.size,2,none⟩=some (.slice a2 x.outs.length c2)/\w'.cell? ⟨w.heap.size,3,none⟩=some (.slice a3 x.after.length c3)/\w'.cell? ⟨w.heap.size,4,none⟩=some (.slice a4 x.steps.length c4)):=by
  show ∀w',_;intro w' hb;obtain⟨d0,d1,d2,d3,d4,_⟩:=cells5 ((hb.block _ hlt).trans hx1);exact⟨d0,d1,d2,d3,d4⟩
 have up:∀w',Below W1.heap.size W1 w'->Below w.heap.size w w':=λw' hw=>hb0.trans (hw.mono hb0.size)
 have H1:Hid (∀w',Below W1.heap.size W1 w'->IsRow w' (.slice a1 x.ins.length c1) 1 (Zbpk x.ins)):=by show ∀w',_;exact λw' hw=>Zud (h1.below (up w' hw))
 have H2:Hid (∀w',Below W1.heap.size W1 w'->IsRow w' (.slice a2 x.outs.length c2) 1 (Zbpk x.outs)):=by show ∀w',_;exact λw' hw=>Zud (h2.below (up w' hw))
 have H3:Hid (∀w',Below W1.heap.size W1 w'->IsRow w' (.slice a3 x.after.length c3) 1 (Zbpk x.after)):=by show ∀w',_;exact λw' hw=>Zud (h3.below (up w' hw))
 have HST:Hid (∀(k:Nat) y,x.steps[k]? =some y->∃b o b1 e1 b2 e2,a4=some ⟨b,o,none⟩/\(∀w',Below W1.heap.size W1 w'->Calls prog 109 #[.agg #[.string y.out,.int .i64 y.op,.slice b1 y.args.length e1,.slice b2 y.lits.length e2,.int .i64 y.n]] w' λe w''=>Zbg y e/\Below w'.heap.size w' w'')/\(∀w',Below W1.heap.size W1 w'->IsRow w' (.slice b1 y.args.length e1) 1 (Zbpk y.args))/\∀w',Below W1.heap.size W1 w'->
   w'.cell? ⟨b,o+k*5,none⟩=some (.string y.out)/\w'.cell? ⟨b,o+k*5+1,none⟩=some (.int .i64 y.op)/\w'.cell? ⟨b,o+k*5+2,none⟩=some (.slice b1 y.args.length e1)/\w'.cell? ⟨b,o+k*5+3,none⟩=some (.slice b2 y.lits.length e2)/\w'.cell? ⟨b,o+k*5+4,none⟩=some (.int .i64 y.n)):=by
  show ∀(k:Nat) y,_;intro k y hy;obtain⟨b,o,b1,e1,b2,e2,ha,hI,hA,hc⟩:=hst k y hy;exact⟨b,o,b1,e1,b2,e2,ha,λw' hw=>Zhi y _ _ w' (by obtain⟨va,vl,q,ha,hl⟩:=hI;exact⟨va,vl,q,ha.below (up w' hw),hl.below (up w' hw)⟩) (hs.steps y (List.mem_of_getElem? hy)),λw' hw=>Zud (hA.below (up w' hw)),λw' hw=>hc w' (up w' hw)⟩
 have HUP:Hid (∀w',Below W1.heap.size W1 w'->Below w.heap.size w w'):=by show ∀w',_;exact up
 have HW1:=hid hW1;have HS:=hid hs;have HSH:=hid hsh;have HN0:=hid (Zbbg x);have HO0:Hid (OwnStrs W1.heap.size (W1.alloc (.cells #[.string x.name] 9)).drew (.slice (some ⟨W1.heap.size,0,none⟩) 1 1) [x.name]):=hid (Zbdx (alloc_at W1 _) (Nat.le_refl _));have HS0:Hid (Below W1.heap.size W1 W1.drew):=by show Below _ _ _;exact(Below.refl _ _).drew
 have HU:Hid (∀w' o,Below W1.heap.size W1 w'->Below W1.heap.size W1 (w'.alloc o)):=by show ∀w' o,_;exact λw' o h=>h.alloc h.size o
 have HUD:Hid (∀w' o,Below W1.heap.size W1 w'->Below W1.heap.size W1 (w'.alloc o).drew):=by show ∀w' o,_;exact λw' o h=>(h.alloc h.size o).drew
 have HMAY:Hid (∀(k:Nat) y w',y∈nmsR x k->Calls prog 110 #[.string y] w' λe w''=>e = .returned (.bool (Zbcf y.data.toList))/\Below w'.heap.size w' w''):=by
  show ∀(k:Nat) y w',_;exact λk y w' hy=>Zyw y w' (by have:=Zbbf hs k y hy;unfold maxLen;omega)
 have hlen:x.ins.length<=10/\x.outs.length<=6/\x.after.length<=10/\x.steps.length<=14:=⟨hsh.ins,hsh.outs,hsh.after,hsh.steps⟩;obtain⟨n1,n2,n3,n4⟩:=hlen;unfold maxLen at hm4 hm2;clear h1 h2 h3 h4 hst hb0 hx1 hlt hW1 ho1 o1 up hs hsh
 go_enter func63,ntmps63
 go_wp2_with fail
 rw[HW1.out];refine wp_region_held_drew (S:=λw'=>Below W1.heap.size W1 w') (by kernel_rfl) ?_ (λhHeld=>?_)
 ·exact HS0.out
 refine tkH 0 (v:=?_) ?_ ?_;rotate_left
 ·intro w hSw;obtain⟨y0,y1,y2,y3,y4⟩:=HCE.out _ hSw;go_simp;try with_reducible rfl
 try simp only[Act.put,List.setIfInBounds_toArray,List.set_cons_zero,List.set_cons_succ]
 refine tkH 1 (v:=?_) ?_ ?_;rotate_left
 ·intro w hSw;obtain⟨y0,y1,y2,y3,y4⟩:=HCE.out _ hSw;go_simp;try with_reducible rfl
 try simp only[Act.put,List.setIfInBounds_toArray,List.set_cons_zero,List.set_cons_succ]
 refine tkH 3 (v:=?_) ?_ ?_;rotate_left
 ·intro w hSw;obtain⟨y0,y1,y2,y3,y4⟩:=HCE.out _ hSw;go_simp;try with_reducible rfl
 try simp only[Act.put,List.setIfInBounds_toArray,List.set_cons_zero,List.set_cons_succ]
 refine tkH 4 (v:=?_) ?_ ?_;rotate_left
 ·intro w hSw;obtain⟨y0,y1,y2,y3,y4⟩:=HCE.out _ hSw;go_simp;try with_reducible rfl
 try simp only[Act.put,List.setIfInBounds_toArray,List.set_cons_zero,List.set_cons_succ]
 refine tkH 6 (v:=?_) ?_ ?_;rotate_left
 ·intro w hSw;obtain⟨y0,y1,y2,y3,y4⟩:=HCE.out _ hSw;go_simp;try with_reducible rfl
 try simp only[Act.put,List.setIfInBounds_toArray,List.set_cons_zero,List.set_cons_succ]
 refine tkH 7 (v:=?_) ?_ ?_;rotate_left
 ·intro w hSw;obtain⟨y0,y1,y2,y3,y4⟩:=HCE.out _ hSw;go_simp;try with_reducible rfl
 try simp only[Act.put,List.setIfInBounds_toArray,List.set_cons_zero,List.set_cons_succ]
 refine tkH 9 (v:=?_) ?_ ?_;rotate_left
 ·intro w hSw;obtain⟨y0,y1,y2,y3,y4⟩:=HCE.out _ hSw;go_simp;try with_reducible rfl
 try simp only[Act.put,List.setIfInBounds_toArray,List.set_cons_zero,List.set_cons_succ]
 refine tkH 10 (v:=?_) ?_ ?_;rotate_left
 ·intro w hSw;obtain⟨y0,y1,y2,y3,y4⟩:=HCE.out _ hSw;go_simp;try with_reducible rfl
 try simp only[Act.put,List.setIfInBounds_toArray,List.set_cons_zero,List.set_cons_succ]
 refine rdH [2] ?_;refine rcH (λK hK=>?_) ?_
 ·go_simp
  refine hK.out _ _ ?_ (λhHeld=>?_)
  ·try dsimp only
   exact HUD.out _ _ (Below.refl _ _)
  clear hK K
  try simp only[Act.put,List.setIfInBounds_toArray,List.set_cons_zero,List.set_cons_succ]
  refine rdH [5] ?_;refine rcH (λK hK=>?_) ?_
  ·refine Zbob (by rfl) _ _ (by rfl) W1.heap.size _ _ ([x.name]) (x.ins) (by rfl) (by rfl) (HO0.out) (H1.out _ (by assumption)) (by have:=n1;have:=n2;have:=n3;simp only[List.length_cons,List.length_nil];omega) (Below.size (by assumption)) ?_;intro v1 w1 ho1 hg1 _;have hS1:=Zfl (show Below W1.heap.size W1 _ by assumption) hg1 (Below.size (by assumption)) (λk hk=>(World.ownsRow.lt HO0.out k hk).1);have HO1:=hid ho1;clear ho1
   refine hK.out _ _ ?_ (λhHeld=>?_)
   ·try dsimp only
    assumption
   clear hK K
   try simp only[Act.put,List.setIfInBounds_toArray,List.set_cons_zero,List.set_cons_succ]
   refine rdH [8] ?_;refine rcH (λK hK=>?_) ?_
   ·refine Zbob (by rfl) _ _ (by rfl) W1.heap.size _ _ ([x.name]++x.ins) (x.outs) (by rfl) (by rfl) (HO1.out) (H2.out _ (by assumption)) (by have:=n1;have:=n2;have:=n3;simp only[List.length_append,List.length_cons,List.length_nil];omega) (Below.size (by assumption)) ?_;intro v2 w2 ho2 hg2 _;have hS2:=Zfl (show Below W1.heap.size W1 _ by assumption) hg2 (Below.size (by assumption)) (λk hk=>(World.ownsRow.lt HO1.out k hk).1);have HO2:=hid ho2;clear ho2
    refine hK.out _ _ ?_ (λhHeld=>?_)
    ·try dsimp only
     assumption
    clear hK K
    try simp only[Act.put,List.setIfInBounds_toArray,List.set_cons_zero,List.set_cons_succ]
    refine rdH [11] ?_;refine rcH (λK hK=>?_) ?_
    ·refine Zbob (by rfl) _ _ (by rfl) W1.heap.size _ _ ([x.name]++x.ins++x.outs) (x.after) (by rfl) (by rfl) (HO2.out) (H3.out _ (by assumption)) (by have:=n1;have:=n2;have:=n3;simp only[List.length_append,List.length_cons,List.length_nil];omega) (Below.size (by assumption)) ?_;intro v3 w3 ho3 hg3 _;have hS3:=Zfl (show Below W1.heap.size W1 _ by assumption) hg3 (Below.size (by assumption)) (λk hk=>(World.ownsRow.lt HO2.out k hk).1);have HO3:=hid ho3;clear ho3
     refine hK.out _ _ ?_ (λhHeld=>?_)
     ·try dsimp only
      assumption
     clear hK K
     try simp only[Act.put,List.setIfInBounds_toArray,List.set_cons_zero,List.set_cons_succ]
     refine tkK 12 ?_
     try simp only[Act.put,List.setIfInBounds_toArray,List.set_cons_zero,List.set_cons_succ]
     refine wpAnyH_done (by kernel_rfl) ?_ _;have hB3:Below W1.heap.size W1 w3:=by assumption
     have HOW:Hid (OwnStrs W1.heap.size w3 v3 (nmsR x 0)):=by show OwnStrs _ _ _ _;rw[HN0.out];exact HO3.out
     obtain⟨W3,hW3⟩:∃V,w3=V:=⟨_,rfl⟩;rw[hW3]at hB3 HOW⊢;have HB3:=hid hB3;clear hW3 hB3 hS1 hS2 hS3 hHeld HO1 HO2 HO3
     go_wp2_with fail
     go_loopw [3,4] (λlv iv wr=>∃k:Nat,k<=x.steps.length/\iv = .int .i64 (k:Int)/\OwnStrs W1.heap.size wr lv (nmsR x k)/\(∀(j:Nat) y,j<k->x.steps[j]? =some y->MayX y)/\Below W1.heap.size W1 wr) (λ_ iv _=>x.steps.length-(intOf iv).toNat)
     case atStart=>exact⟨0,Nat.zero_le _,rfl,HOW.out,λj y hj=>absurd hj (by omega),HB3.out⟩
     case round=>
      obtain⟨k,hk,rfl,hown,hmay,hbr⟩:=hrel;obtain⟨WR,hWR⟩:∃V,wr=V:=⟨_,rfl⟩;rw[hWR]at hown hbr⊢;clear hWR;have HBR:=hid hbr;have HOWN:=hid hown;have HMS:=hid hmay;obtain⟨_,_,y2,_,y4⟩:=HCE.out _ hbr;obtain⟨la,lc,q,_,hllc,hlcm⟩:=Zbea hown;subst q;have hnl:=Zbbd HSH.out k;unfold maxLen at hlcm;clear hbr hown hmay
      by_cases hlt:k<x.steps.length
      ·obtain⟨y,hy⟩:∃y,x.steps[k]? =some y:=⟨x.steps[k],List.getElem?_eq_getElem hlt⟩
       obtain⟨b,o,b1,e1,b2,e2,hab,hcm,hrow,hcs⟩:=HST.out k y hy;have HCM:=hid (hcm _ HBR.out);have HROW:=hid hrow;have HCS:=hid hcs;have HY:=hid hy;have HYA:=hid ((HSH.out).each y (List.mem_of_getElem? hy)).1;have HNX:=hid (Zbbe hy);obtain⟨z0,z1,z2,z3,z4⟩:=hcs _ HBR.out;have hi1:(k:Int)<(x.steps.length:Int):=by omega
       have hi0:(0:Int)<=(k:Int):=by omega
       subst hab;clear hcm hrow hcs hy
       go_wp2_with fail
       refine HCM.out.mono ?_;rintro e w5 ⟨⟨bb,rfl,hbb⟩,hb5⟩;have HBB:=hid hbb;have HB5:=hid (HBR.out.trans (hb5.mono HBR.out.size));have HO5:Hid (OwnStrs W1.heap.size w5 (.slice la (nmsR x k).length lc) (nmsR x k)):=by show OwnStrs _ _ _ _;exact HOWN.out.below hb5
       clear hbb hb5 z0 z1 z2 z3 z4
       cases bb
       ·go_wp2
        go_ret;exact⟨Zpr (λh=>absurd (HBB.out.2 (h.2.1 k y HY.out)) (by decide)),HUP.out _ HB5.out⟩
       ·have HS5:Hid (Below W1.heap.size W1 w5.drew):=by show Below _ _ _;exact HB5.out.drew
        go_wp2_with fail
        refine wp_region_held_drew (S:=λw'=>Below W1.heap.size W1 w') (by kernel_rfl) ?_ (λhHeld=>?_)
        ·exact HS5.out
        refine tkH 0 (v:=?_) ?_ ?_;rotate_left
        ·intro w hSw;obtain⟨y0,y1,y2,y3,y4⟩:=HCE.out _ hSw;obtain⟨z0,z1,z2,z3,z4⟩:=HCS.out _ hSw;go_simp;try with_reducible rfl
        try simp only[Act.put,List.setIfInBounds_toArray,List.set_cons_zero,List.set_cons_succ]
        refine tkH 1 (v:=?_) ?_ ?_;rotate_left
        ·intro w hSw;obtain⟨y0,y1,y2,y3,y4⟩:=HCE.out _ hSw;obtain⟨z0,z1,z2,z3,z4⟩:=HCS.out _ hSw;go_simp;try with_reducible rfl
        try simp only[Act.put,List.setIfInBounds_toArray,List.set_cons_zero,List.set_cons_succ]
        refine tkH 2 (v:=?_) ?_ ?_;rotate_left
        ·intro w hSw;obtain⟨y0,y1,y2,y3,y4⟩:=HCE.out _ hSw;obtain⟨z0,z1,z2,z3,z4⟩:=HCS.out _ hSw;go_simp;try with_reducible rfl
        try simp only[Act.put,List.setIfInBounds_toArray,List.set_cons_zero,List.set_cons_succ]
        refine tkH 3 (v:=?_) ?_ ?_;rotate_left
        ·intro w hSw;obtain⟨y0,y1,y2,y3,y4⟩:=HCE.out _ hSw;obtain⟨z0,z1,z2,z3,z4⟩:=HCS.out _ hSw;go_simp;try with_reducible rfl
        try simp only[Act.put,List.setIfInBounds_toArray,List.set_cons_zero,List.set_cons_succ]
        refine tkH 4 (v:=?_) ?_ ?_;rotate_left
        ·intro w hSw;obtain⟨y0,y1,y2,y3,y4⟩:=HCE.out _ hSw;obtain⟨z0,z1,z2,z3,z4⟩:=HCS.out _ hSw;go_simp;try with_reducible rfl
        try simp only[Act.put,List.setIfInBounds_toArray,List.set_cons_zero,List.set_cons_succ]
        refine tkH 5 (v:=?_) ?_ ?_;rotate_left
        ·intro w hSw;obtain⟨y0,y1,y2,y3,y4⟩:=HCE.out _ hSw;obtain⟨z0,z1,z2,z3,z4⟩:=HCS.out _ hSw;go_simp;try with_reducible rfl
        try simp only[Act.put,List.setIfInBounds_toArray,List.set_cons_zero,List.set_cons_succ]
        refine tkH 6 (v:=?_) ?_ ?_;rotate_left
        ·intro w hSw;obtain⟨y0,y1,y2,y3,y4⟩:=HCE.out _ hSw;obtain⟨z0,z1,z2,z3,z4⟩:=HCS.out _ hSw;go_simp;try with_reducible rfl
        try simp only[Act.put,List.setIfInBounds_toArray,List.set_cons_zero,List.set_cons_succ]
        refine tkH 9 (v:=?_) ?_ ?_;rotate_left
        ·intro w hSw;obtain⟨y0,y1,y2,y3,y4⟩:=HCE.out _ hSw;obtain⟨z0,z1,z2,z3,z4⟩:=HCS.out _ hSw;go_simp;try with_reducible rfl
        try simp only[Act.put,List.setIfInBounds_toArray,List.set_cons_zero,List.set_cons_succ]
        refine tkH 10 (v:=?_) ?_ ?_;rotate_left
        ·intro w hSw;obtain⟨y0,y1,y2,y3,y4⟩:=HCE.out _ hSw;obtain⟨z0,z1,z2,z3,z4⟩:=HCS.out _ hSw;go_simp;try with_reducible rfl
        try simp only[Act.put,List.setIfInBounds_toArray,List.set_cons_zero,List.set_cons_succ]
        refine tkH 11 (v:=?_) ?_ ?_;rotate_left
        ·intro w hSw;obtain⟨y0,y1,y2,y3,y4⟩:=HCE.out _ hSw;obtain⟨z0,z1,z2,z3,z4⟩:=HCS.out _ hSw;go_simp;try with_reducible rfl
        try simp only[Act.put,List.setIfInBounds_toArray,List.set_cons_zero,List.set_cons_succ]
        refine tkH 12 (v:=?_) ?_ ?_;rotate_left
        ·intro w hSw;obtain⟨y0,y1,y2,y3,y4⟩:=HCE.out _ hSw;obtain⟨z0,z1,z2,z3,z4⟩:=HCS.out _ hSw;go_simp;try with_reducible rfl
        try simp only[Act.put,List.setIfInBounds_toArray,List.set_cons_zero,List.set_cons_succ]
        refine tkH 13 (v:=?_) ?_ ?_;rotate_left
        ·intro w hSw;obtain⟨y0,y1,y2,y3,y4⟩:=HCE.out _ hSw;obtain⟨z0,z1,z2,z3,z4⟩:=HCS.out _ hSw;go_simp;try with_reducible rfl
        try simp only[Act.put,List.setIfInBounds_toArray,List.set_cons_zero,List.set_cons_succ]
        refine tkH 14 (v:=?_) ?_ ?_;rotate_left
        ·intro w hSw;obtain⟨y0,y1,y2,y3,y4⟩:=HCE.out _ hSw;obtain⟨z0,z1,z2,z3,z4⟩:=HCS.out _ hSw;go_simp;try with_reducible rfl
        try simp only[Act.put,List.setIfInBounds_toArray,List.set_cons_zero,List.set_cons_succ]
        refine rdH [7] ?_;refine rcH (λK hK=>?_) ?_
        ·go_simp
         refine hK.out _ _ ?_ (λhHeld=>?_)
         ·try dsimp only
          exact HUD.out _ _ HB5.out
         clear hK K
         try simp only[Act.put,List.setIfInBounds_toArray,List.set_cons_zero,List.set_cons_succ]
         refine rdH [8] ?_;refine rcH (λK hK=>?_) ?_
         ·refine Zbob (by rfl) _ _ (by rfl) W1.heap.size _ _ (nmsR x k) ([y.out]) (by rfl) (by rfl) (HO5.out.below ((Below.refl _ _).alloc (Nat.le_refl _) _).drew) (Zbik (alloc_at w5 _)) (by have h1:=Zbbd HSH.out k;simp only[List.length_cons,List.length_nil];omega) (Below.size (by assumption)) ?_;intro v7 w7 ho7 hg7 _;have hS7:=Zfl (show Below W1.heap.size W1 _ by assumption) hg7 (Below.size (by assumption)) (λk hk=>(World.ownsRow.lt HO5.out k hk).1);have HO7:=hid ho7;clear ho7
          refine hK.out _ _ ?_ (λhHeld=>?_)
          ·try dsimp only
           assumption
          clear hK K
          try simp only[Act.put,List.setIfInBounds_toArray,List.set_cons_zero,List.set_cons_succ]
          refine rdH [15] ?_;refine rcH (λK hK=>?_) ?_
          ·refine Zbob (by rfl) _ _ (by rfl) W1.heap.size _ _ (nmsR x k ++ [y.out]) (y.args) (by rfl) (by rfl) (HO7.out) (HROW.out _ (by assumption)) (by have h1:=Zbbd HSH.out k;have h2:=HYA.out;simp only[List.length_append,List.length_cons,List.length_nil];omega) (Below.size (by assumption)) ?_;intro v8 w8 ho8 hg8 _;have hS8:=Zfl (show Below W1.heap.size W1 _ by assumption) hg8 (Below.size (by assumption)) (λk hk=>(World.ownsRow.lt HO7.out k hk).1);have HO8:=hid ho8;clear ho8
           refine hK.out _ _ ?_ (λhHeld=>?_)
           ·try dsimp only
            assumption
           clear hK K
           try simp only[Act.put,List.setIfInBounds_toArray,List.set_cons_zero,List.set_cons_succ]
           refine tkK 16 ?_
           try simp only[Act.put,List.setIfInBounds_toArray,List.set_cons_zero,List.set_cons_succ]
           refine wpAnyH_done (by kernel_rfl) ?_ _;have hB8:Below W1.heap.size W1 w8:=by assumption
           have HO9:Hid (OwnStrs W1.heap.size w8 v8 (nmsR x (k+1))):=by show OwnStrs _ _ _ _;rw[HNX.out];exact HO8.out
           have HB8:=hid hB8;have HMN:Hid (∀(j:Nat) z,j<k+1->x.steps[j]? =some z->MayX z):=by
            show ∀(j:Nat) z,_;intro j z hj hz
            rcases Nat.lt_or_ge j k with h|h
            ·exact HMS.out j z h hz
            ·obtain rfl:j=k:=by omega
             rw[HY.out]at hz;injection hz with hz
             rw[<-hz];exact HBB.out.1 (by trivial)
           clear hS7 hS8 hHeld hB8;go_wp2;go_roundw
           case rel=>exact⟨k+1,by omega,by go_num,HO9.out,HMN.out,HB8.out⟩
           case measure=>simp[intOf];omega
          exact AllReadyH.nil
         exact AllReadyH.nil
        exact AllReadyH.nil
      ·obtain rfl:k=x.steps.length:=by omega
       have HIT:Hid (∀(j:Nat) z,(nmsR x x.steps.length)[j]? =some z->∃b o,la=some ⟨b,o,none⟩/\∀w',Below WR.heap.size WR w'->w'.cell? ⟨b,o+j,none⟩=some (.string z)):=by
        show ∀(j:Nat) z,_;intro j z hz;obtain⟨a',c',q,_,_,h3⟩:=Zua HOWN.out.strsA.isStrs;injection q with q1 q2 q3
        subst q1;exact h3 j z hz
       obtain⟨L,hL⟩:∃L,nmsR x x.steps.length=L:=⟨_,rfl⟩;have HL:=hid hL;rw[hL]at HIT hnl hllc⊢;have hi1:¬(x.steps.length:Int)<(x.steps.length:Int):=by omega
       clear hL hlt hk
       go_wp2_with fail
       go_loopw [5] (λiv wr=>∃j:Nat,j<=L.length/\iv = .int .i64 (j:Int)/\(∀z∈L.take j,Zbcf z.data.toList=true)/\Below WR.heap.size WR wr) (λiv _=>L.length-(intOf iv).toNat)
       case atStart=>exact⟨0,Nat.zero_le _,rfl,λz hz=>by simp at hz,Below.refl _ _⟩
       case round=>
        obtain⟨j,hj,rfl,hok,hnx⟩:=hrel;have HOK:=hid hok;have HNX:=hid hnx;clear hok
        by_cases hjl:j<L.length
        ·obtain⟨z,hz⟩:∃z,L[j]? =some z:=⟨L[j],List.getElem?_eq_getElem hjl⟩
         obtain⟨b,o,hab,hc⟩:=HIT.out j z hz;have z0:=hc _ hnx;subst hab;have HZ:=hid hz;have CM:=hid (HMAY.out x.steps.length z wr (by rw[HL.out];exact List.mem_of_getElem? hz));obtain⟨q,hq⟩:∃q,Zbcf z.data.toList=q:=⟨_,rfl⟩;rw[hq]at CM;have HQ:=hid hq;have hj1:(j:Int)<(L.length:Int):=by omega
         have hj0:(0:Int)<=(j:Int):=by omega
         clear hc hnx hz hq
         go_wp2_with fail
         refine CM.out.mono ?_;rintro e w6 ⟨rfl,hb6⟩;have HB6:=hid (HNX.out.trans (hb6.mono HNX.out.size));clear hb6
         cases q
         ·go_wp2
          go_ret;exact⟨Zpr (λh=>by have:=h.1 z (by rw[HL.out];exact List.mem_of_getElem? HZ.out);rw[HQ.out]at this;cases this),HUP.out _ (HBR.out.trans (HB6.out.mono HBR.out.size))⟩
         ·have hzok:Hid (∀z∈L.take (j+1),Zbcf z.data.toList=true):=by
           show ∀z∈L.take (j+1),_;intro u hu;rw[List.take_add_one,HZ.out]at hu
           rcases List.mem_append.1 hu with hu|hu
           ·exact HOK.out u hu
           ·have:u=z:=by simpa using hu
            rw[this];exact HQ.out
          go_wp2;go_roundw
          case rel=>exact⟨j+1,by omega,by go_num,hzok.out,HB6.out⟩
          case measure=>simp[intOf];omega
        ·have hj1:¬(j:Int)<(L.length:Int):=by omega
         have HBE:=hid (HBR.out.trans (hnx.mono HBR.out.size));obtain⟨_,_,u2,_,_⟩:=HCE.out _ HBE.out;have HALL:Hid (∀z∈L,Zbcf z.data.toList=true):=by show ∀z∈L,_;have:=HOK.out;rw[List.take_of_length_le (by omega)]at this;exact this
         clear hnx
         by_cases hpos:(0:Int)<(x.outs.length:Int)
         ·have HR:Hid (Zav x):=hid ⟨by rw[HL.out];exact HALL.out,λj y hy=>HMS.out j y (List.getElem?_eq_some_iff.1 hy).1 hy,hpos⟩
          go_wp2;go_ret
          first|exact⟨Zps HR.out,HUP.out _ HBE.out⟩|exact⟨⟨_,rfl,λ_=>HR.out,λ_=>by simpa using hpos⟩,HUP.out _ HBE.out⟩
         ·have HR:Hid (¬Zav x):=hid λh=>hpos h.2.2
          go_wp2;go_ret
          first|exact⟨Zpr HR.out,HUP.out _ HBE.out⟩|exact⟨⟨_,rfl,λe=>absurd (of_decide_eq_true e) (by simpa using hpos),λh=>(HR.out h).elim⟩,HUP.out _ HBE.out⟩
    exact AllReadyH.nil
   exact AllReadyH.nil
  exact AllReadyH.nil
 exact AllReadyH.nil
end Go.Proofs.YtcpjfpdecklkgaaGreatDoor
