import Derived.Deep.CutBlock
import Derived.Deep.DeepCutAuto
import Derived.Test.YtokogjhcidkckaaGreatDoorMan
import Derived.Lib.ItoaLen
import Derived.Lib.ReplaceLaws
import Derived.Lib.SplitLaws
namespace Go.Proofs.YtokogjhcidkckaaGreatDoor
open Go.Lib (hid)
open Go.Proofs.Tryz
open Go.RowKit Go.Shelf
def Zav (x:RuleS):Prop:=(∀y∈nmsR x x.steps.length,Zbcf y.data.toList=true)/\(∀(j:Nat) y,x.steps[j]? =some y->MayX y)/\(0:Int)<(x.outs.length:Int)
def Zaw (x:RuleS) (e:Ending):Prop:=∃b,e = .returned (.bool b)/\(b=true↔Zav x)
theorem Zpr {x:RuleS} (h:¬Zav x):Zaw x (.returned (.bool false)):=⟨false,rfl,(λe=>by cases e),λh'=>(h h').elim⟩
theorem Zps {x:RuleS} (h:Zav x):Zaw x (.returned (.bool true)):=⟨true,rfl,λ_=>h,λ_=>rfl⟩
set_option maxHeartbeats 8000000 in
set_option maxRecDepth 100000 in
theorem Zhf (x:RuleS) (vi vo vf vs:Value) (w:World) (h:RuleI w [.string x.name,vi,vo,vf,vs] x) (hs:SmallR x 1048576) (hsh:ShortR x):
  Calls prog 83 #[.agg #[.string x.name,vi,vo,vf,vs]] w λe w'=>Zaw x e/\Below w.heap.size w w':=by
 obtain⟨_,_,_,_,q,h1,h2,h3,h4⟩:=h;simp only[List.cons.injEq,and_true,true_and]at q;obtain⟨rfl,rfl,rfl,rfl⟩:=q;obtain⟨a1,c1,rfl,_,_,_⟩:=Zua h1;obtain⟨a2,c2,rfl,_,hm2,_⟩:=Zua h2;obtain⟨a3,c3,rfl,_,_,_⟩:=Zua h3;obtain⟨a4,c4,rfl,hl4,hm4,hst⟩:=Zbpc h4;obtain⟨o1,ho1⟩:∃o:Obj,o = .cells #[.string x.name,.slice a1 x.ins.length c1,.slice a2 x.outs.length c2,.slice a3 x.after.length c3,.slice a4 x.steps.length c4] 50:=⟨_,rfl⟩;have hb0:Below w.heap.size w (w.alloc o1):=(Below.refl _ _).alloc (Nat.le_refl _) _;have hx1:=alloc_at w o1;have hlt:=Zfy hx1;obtain⟨W1,hW1⟩:∃W1,w.alloc o1=W1:=⟨_,rfl⟩;rw[hW1]at hx1 hb0 hlt;rw[ho1]at hx1 hW1;have HCE:Hid (∀w',Below W1.heap.size W1 w'->w'.cell? ⟨w.heap.size,0,none⟩=some (.string x.name)/\w'.cell? ⟨w.heap.size,1,none⟩=some (.slice a1 x.ins.length c1)/\w'.cell? ⟨w.heap.size,2,none⟩=some (.slice a2 x.outs.length c2)/\w'.cell? ⟨w.heap.size,3,none⟩=some (.slice a3 x.after.length c3)/\w'.cell? ⟨w.heap.size,4,none⟩=some (.slice a4 x.steps.length c4)):=by
  show ∀w',_;intro w' hb;obtain⟨d0,d1,d2,d3,d4,_⟩:=cells5 ((hb.block _ hlt).trans hx1);exact⟨d0,d1,d2,d3,d4⟩
 have up:∀w',Below W1.heap.size W1 w'->Below w.heap.size w w':=λw' hw=>hb0.trans (hw.mono hb0.size)
 have H1:Hid (∀w',Below W1.heap.size W1 w'->IsRow w' (.slice a1 x.ins.length c1) 1 (Zbpk x.ins)):=by show ∀w',_;exact λw' hw=>Zud (h1.below (up w' hw))
 have H2:Hid (∀w',Below W1.heap.size W1 w'->IsRow w' (.slice a2 x.outs.length c2) 1 (Zbpk x.outs)):=by show ∀w',_;exact λw' hw=>Zud (h2.below (up w' hw))
 have H3:Hid (∀w',Below W1.heap.size W1 w'->IsRow w' (.slice a3 x.after.length c3) 1 (Zbpk x.after)):=by show ∀w',_;exact λw' hw=>Zud (h3.below (up w' hw))
 have HST:Hid (∀(k:Nat) y,x.steps[k]? =some y->∃b o b1 e1 b2 e2,a4=some ⟨b,o,none⟩/\(∀w',Below W1.heap.size W1 w'->Calls prog 119 #[.agg #[.string y.out,.int .i64 y.op,.slice b1 y.args.length e1,.slice b2 y.lits.length e2,.int .i64 y.n]] w' λe w''=>Zbg y e/\Below w'.heap.size w' w'')/\(∀w',Below W1.heap.size W1 w'->IsRow w' (.slice b1 y.args.length e1) 1 (Zbpk y.args))/\∀w',Below W1.heap.size W1 w'->
   w'.cell? ⟨b,o+k*5,none⟩=some (.string y.out)/\w'.cell? ⟨b,o+k*5+1,none⟩=some (.int .i64 y.op)/\w'.cell? ⟨b,o+k*5+2,none⟩=some (.slice b1 y.args.length e1)/\w'.cell? ⟨b,o+k*5+3,none⟩=some (.slice b2 y.lits.length e2)/\w'.cell? ⟨b,o+k*5+4,none⟩=some (.int .i64 y.n)):=by
  show ∀(k:Nat) y,_;intro k y hy;obtain⟨b,o,b1,e1,b2,e2,ha,hI,hA,hc⟩:=hst k y hy;exact⟨b,o,b1,e1,b2,e2,ha,λw' hw=>Zhi y _ _ w' (by obtain⟨va,vl,q,ha,hl⟩:=hI;exact⟨va,vl,q,ha.below (up w' hw),hl.below (up w' hw)⟩) (hs.steps y (List.mem_of_getElem? hy)),λw' hw=>Zud (hA.below (up w' hw)),λw' hw=>hc w' (up w' hw)⟩
 have HUP:Hid (∀w',Below W1.heap.size W1 w'->Below w.heap.size w w'):=by show ∀w',_;exact up
 have HW1:=hid hW1;have HS:=hid hs;have HSH:=hid hsh;have HN0:=hid (Zbbg x);have HO0:Hid (OwnStrs W1.heap.size (W1.alloc (.cells #[.string x.name] 9)).drew (.slice (some ⟨W1.heap.size,0,none⟩) 1 1) [x.name]):=hid (Zbdx (alloc_at W1 _) (Nat.le_refl _));have HS0:Hid (Below W1.heap.size W1 W1.drew):=by show Below _ _ _;exact(Below.refl _ _).drew
 have HU:Hid (∀w' o,Below W1.heap.size W1 w'->Below W1.heap.size W1 (w'.alloc o)):=by show ∀w' o,_;exact λw' o h=>h.alloc h.size o
 have HUD:Hid (∀w' o,Below W1.heap.size W1 w'->Below W1.heap.size W1 (w'.alloc o).drew):=by show ∀w' o,_;exact λw' o h=>(h.alloc h.size o).drew
 have HMAY:Hid (∀(k:Nat) y w',y∈nmsR x k->Calls prog 120 #[.string y] w' λe w''=>e = .returned (.bool (Zbcf y.data.toList))/\Below w'.heap.size w' w''):=by
  show ∀(k:Nat) y w',_;exact λk y w' hy=>Zyw y w' (by have:=Zbbf hs k y hy;unfold maxLen;omega)
 have hlen:x.ins.length<=10/\x.outs.length<=6/\x.after.length<=10/\x.steps.length<=14:=⟨hsh.ins,hsh.outs,hsh.after,hsh.steps⟩;obtain⟨n1,n2,n3,n4⟩:=hlen;unfold maxLen at hm4 hm2;clear h1 h2 h3 h4 hst hb0 hx1 hlt hW1 ho1 o1 up hs hsh
 go_enter func83,ntmps83
 go_wp2_with fail
 rw[HW1.out];refine wp_region_held_drew (S:=λw'=>Below W1.heap.size W1 w') (by kernel_rfl) ?_ (λhHeld=>?_)
 ·exact HS0.out
 refine tkH 0 (v:=?_) ?_ ?_;rotate_left
 ·intro w hSw;obtain⟨y0,y1,y2,y3,y4⟩:=HCE.out _ hSw;go_simp;try with_reducible rfl
 try simp only[Act.put,sA,sZ,sS]
 refine tkH 1 (v:=?_) ?_ ?_;rotate_left
 ·intro w hSw;obtain⟨y0,y1,y2,y3,y4⟩:=HCE.out _ hSw;go_simp;try with_reducible rfl
 try simp only[Act.put,sA,sZ,sS]
 refine tkH 3 (v:=?_) ?_ ?_;rotate_left
 ·intro w hSw;obtain⟨y0,y1,y2,y3,y4⟩:=HCE.out _ hSw;go_simp;try with_reducible rfl
 try simp only[Act.put,sA,sZ,sS]
 refine tkH 4 (v:=?_) ?_ ?_;rotate_left
 ·intro w hSw;obtain⟨y0,y1,y2,y3,y4⟩:=HCE.out _ hSw;go_simp;try with_reducible rfl
 try simp only[Act.put,sA,sZ,sS]
 refine tkH 6 (v:=?_) ?_ ?_;rotate_left
 ·intro w hSw;obtain⟨y0,y1,y2,y3,y4⟩:=HCE.out _ hSw;go_simp;try with_reducible rfl
 try simp only[Act.put,sA,sZ,sS]
 refine tkH 7 (v:=?_) ?_ ?_;rotate_left
 ·intro w hSw;obtain⟨y0,y1,y2,y3,y4⟩:=HCE.out _ hSw;go_simp;try with_reducible rfl
 try simp only[Act.put,sA,sZ,sS]
 refine tkH 9 (v:=?_) ?_ ?_;rotate_left
 ·intro w hSw;obtain⟨y0,y1,y2,y3,y4⟩:=HCE.out _ hSw;go_simp;try with_reducible rfl
 try simp only[Act.put,sA,sZ,sS]
 refine tkH 10 (v:=?_) ?_ ?_;rotate_left
 ·intro w hSw;obtain⟨y0,y1,y2,y3,y4⟩:=HCE.out _ hSw;go_simp;try with_reducible rfl
 try simp only[Act.put,sA,sZ,sS]
 refine rdH [2] ?_;refine rcH (λK hK=>?_) ?_
 ·go_simp
  refine hK.out _ _ ?_ (λhHeld=>?_)
  ·try dsimp only
   exact HUD.out _ _ (Below.refl _ _)
  clear hK K
  try simp only[Act.put,sA,sZ,sS]
  refine rdH [5] ?_;refine rcH (λK hK=>?_) ?_
  ·refine Zbob (by rfl) _ _ (by rfl) W1.heap.size _ _ ([x.name]) (x.ins) (by rfl) (by rfl) (HO0.out) (H1.out _ (by assumption)) (by have:=n1;have:=n2;have:=n3;simp only[List.length_cons,List.length_nil];omega) (Below.size (by assumption)) ?_;intro v1 w1 ho1 hg1 _;have hS1:=Zfl (show Below W1.heap.size W1 _ by assumption) hg1 (Below.size (by assumption)) (λk hk=>(World.ownsRow.lt HO0.out k hk).1);have HO1:=hid ho1;clear ho1
   refine hK.out _ _ ?_ (λhHeld=>?_)
   ·try dsimp only
    assumption
   clear hK K
   try simp only[Act.put,sA,sZ,sS]
   refine rdH [8] ?_;refine rcH (λK hK=>?_) ?_
   ·refine Zbob (by rfl) _ _ (by rfl) W1.heap.size _ _ ([x.name]++x.ins) (x.outs) (by rfl) (by rfl) (HO1.out) (H2.out _ (by assumption)) (by have:=n1;have:=n2;have:=n3;simp only[List.length_append,List.length_cons,List.length_nil];omega) (Below.size (by assumption)) ?_;intro v2 w2 ho2 hg2 _;have hS2:=Zfl (show Below W1.heap.size W1 _ by assumption) hg2 (Below.size (by assumption)) (λk hk=>(World.ownsRow.lt HO1.out k hk).1);have HO2:=hid ho2;clear ho2
    refine hK.out _ _ ?_ (λhHeld=>?_)
    ·try dsimp only
     assumption
    clear hK K
    try simp only[Act.put,sA,sZ,sS]
    refine rdH [11] ?_;refine rcH (λK hK=>?_) ?_
    ·refine Zbob (by rfl) _ _ (by rfl) W1.heap.size _ _ ([x.name]++x.ins++x.outs) (x.after) (by rfl) (by rfl) (HO2.out) (H3.out _ (by assumption)) (by have:=n1;have:=n2;have:=n3;simp only[List.length_append,List.length_cons,List.length_nil];omega) (Below.size (by assumption)) ?_;intro v3 w3 ho3 hg3 _;have hS3:=Zfl (show Below W1.heap.size W1 _ by assumption) hg3 (Below.size (by assumption)) (λk hk=>(World.ownsRow.lt HO2.out k hk).1);have HO3:=hid ho3;clear ho3
     refine hK.out _ _ ?_ (λhHeld=>?_)
     ·try dsimp only
      assumption
     clear hK K
     try simp only[Act.put,sA,sZ,sS]
     refine tkK 12 ?_
     try simp only[Act.put,sA,sZ,sS]
     refine wpAnyH_done (by kernel_rfl) ?_ _;have hB3:Below W1.heap.size W1 w3:=by assumption
     have HOW:Hid (OwnStrs W1.heap.size w3 v3 (nmsR x 0)):=by show OwnStrs _ _ _ _;rw[HN0.out];exact HO3.out
     obtain⟨W3,hW3⟩:∃V,w3=V:=⟨_,rfl⟩;rw[hW3]at hB3 HOW⊢;have HB3:=hid hB3;clear hW3 hB3 hS1 hS2 hS3 hHeld HO1 HO2 HO3
     go_wp2_with fail
     go_loopw [3,4] (λlv iv wr=>∃k:Nat,k<=x.steps.length/\iv = .int .i64 (k:Int)/\OwnStrs W1.heap.size wr lv (nmsR x k)/\(∀(j:Nat) y,j<k->x.steps[j]? =some y->MayX y)/\Below W1.heap.size W1 wr) (λ_ iv _=>x.steps.length-(intOf iv).toNat)
     case atStart=>exact⟨0,Nat.zero_le _,rfl,HOW.out,λj y hj=>absurd hj (by omega),HB3.out⟩
     case round=>
      obtain⟨k,hk,rfl,hown,hmay,hbr⟩:=hrel;obtain⟨WR,hWR⟩:∃V,wr=V:=⟨_,rfl⟩;rw[hWR]at hown hbr⊢;clear hWR;have HBR:=hid hbr;have HOWN:=hid hown;have HMS:=hid hmay;obtain⟨_,_,y2,_,y4⟩:=HCE.out _ hbr;obtain⟨la,lc,q,_,hllc,hlcm⟩:=Zbea hown;subst q;have hnl:=Zbbd HSH.out k;unfold maxLen at hlcm;clear hbr hown hmay
      by_cases hlt:k<x.steps.length
      ·obtain⟨y,hy⟩:∃y,x.steps[k]? =some y:=⟨x.steps[k],List.getElem?_eq_getElem hlt⟩
       obtain⟨b,o,b1,e1,b2,e2,hab,hcm,hrow,hcs⟩:=HST.out k y hy;have HCM:=hid (hcm _ HBR.out);have HROW:=hid hrow;have HCS:=hid hcs;have HY:=hid hy;have HYA:=hid ((HSH.out).each y (List.mem_of_getElem? hy)).1;have HNX:=hid (Zbbe hy);obtain⟨z0,z1,z2,z3,z4⟩:=hcs _ HBR.out;have hi1:(k:Int)<(x.steps.length:Int):=by omega
       have hi0:(0:Int)<=(k:Int):=by omega
       subst hab;clear hcm hrow hcs hy
       go_wp2_with fail
       refine HCM.out.mono ?_;rintro e w5 ⟨⟨bb,rfl,hbb⟩,hb5⟩;have HBB:=hid hbb;have HB5:=hid (HBR.out.trans (hb5.mono HBR.out.size));have HO5:Hid (OwnStrs W1.heap.size w5 (.slice la (nmsR x k).length lc) (nmsR x k)):=by show OwnStrs _ _ _ _;exact HOWN.out.below hb5
       clear hbb hb5 z0 z1 z2 z3 z4
       cases bb
       ·go_wp2
        go_ret;exact⟨Zpr (λh=>absurd (HBB.out.2 (h.2.1 k y HY.out)) (by decide)),HUP.out _ HB5.out⟩
       ·have HS5:Hid (Below W1.heap.size W1 w5.drew):=by show Below _ _ _;exact HB5.out.drew
        go_wp2_with fail
        refine wp_region_held_drew (S:=λw'=>Below W1.heap.size W1 w') (by kernel_rfl) ?_ (λhHeld=>?_)
        ·exact HS5.out
        refine tkH 0 (v:=?_) ?_ ?_;rotate_left
        ·intro w hSw;obtain⟨y0,y1,y2,y3,y4⟩:=HCE.out _ hSw;obtain⟨z0,z1,z2,z3,z4⟩:=HCS.out _ hSw;go_simp;try with_reducible rfl
        try simp only[Act.put,sA,sZ,sS]
        refine tkH 1 (v:=?_) ?_ ?_;rotate_left
        ·intro w hSw;obtain⟨y0,y1,y2,y3,y4⟩:=HCE.out _ hSw;obtain⟨z0,z1,z2,z3,z4⟩:=HCS.out _ hSw;go_simp;try with_reducible rfl
        try simp only[Act.put,sA,sZ,sS]
        refine tkH 2 (v:=?_) ?_ ?_;rotate_left
        ·intro w hSw;obtain⟨y0,y1,y2,y3,y4⟩:=HCE.out _ hSw;obtain⟨z0,z1,z2,z3,z4⟩:=HCS.out _ hSw;go_simp;try with_reducible rfl
        try simp only[Act.put,sA,sZ,sS]
        refine tkH 3 (v:=?_) ?_ ?_;rotate_left
        ·intro w hSw;obtain⟨y0,y1,y2,y3,y4⟩:=HCE.out _ hSw;obtain⟨z0,z1,z2,z3,z4⟩:=HCS.out _ hSw;go_simp;try with_reducible rfl
        try simp only[Act.put,sA,sZ,sS]
        refine tkH 4 (v:=?_) ?_ ?_;rotate_left
        ·intro w hSw;obtain⟨y0,y1,y2,y3,y4⟩:=HCE.out _ hSw;obtain⟨z0,z1,z2,z3,z4⟩:=HCS.out _ hSw;go_simp;try with_reducible rfl
        try simp only[Act.put,sA,sZ,sS]
        refine tkH 5 (v:=?_) ?_ ?_;rotate_left
        ·intro w hSw;obtain⟨y0,y1,y2,y3,y4⟩:=HCE.out _ hSw;obtain⟨z0,z1,z2,z3,z4⟩:=HCS.out _ hSw;go_simp;try with_reducible rfl
        try simp only[Act.put,sA,sZ,sS]
        refine tkH 6 (v:=?_) ?_ ?_;rotate_left
        ·intro w hSw;obtain⟨y0,y1,y2,y3,y4⟩:=HCE.out _ hSw;obtain⟨z0,z1,z2,z3,z4⟩:=HCS.out _ hSw;go_simp;try with_reducible rfl
        try simp only[Act.put,sA,sZ,sS]
        refine tkH 9 (v:=?_) ?_ ?_;rotate_left
        ·intro w hSw;obtain⟨y0,y1,y2,y3,y4⟩:=HCE.out _ hSw;obtain⟨z0,z1,z2,z3,z4⟩:=HCS.out _ hSw;go_simp;try with_reducible rfl
        try simp only[Act.put,sA,sZ,sS]
        refine tkH 10 (v:=?_) ?_ ?_;rotate_left
        ·intro w hSw;obtain⟨y0,y1,y2,y3,y4⟩:=HCE.out _ hSw;obtain⟨z0,z1,z2,z3,z4⟩:=HCS.out _ hSw;go_simp;try with_reducible rfl
        try simp only[Act.put,sA,sZ,sS]
        refine tkH 11 (v:=?_) ?_ ?_;rotate_left
        ·intro w hSw;obtain⟨y0,y1,y2,y3,y4⟩:=HCE.out _ hSw;obtain⟨z0,z1,z2,z3,z4⟩:=HCS.out _ hSw;go_simp;try with_reducible rfl
        try simp only[Act.put,sA,sZ,sS]
        refine tkH 12 (v:=?_) ?_ ?_;rotate_left
        ·intro w hSw;obtain⟨y0,y1,y2,y3,y4⟩:=HCE.out _ hSw;obtain⟨z0,z1,z2,z3,z4⟩:=HCS.out _ hSw;go_simp;try with_reducible rfl
        try simp only[Act.put,sA,sZ,sS]
        refine tkH 13 (v:=?_) ?_ ?_;rotate_left
        ·intro w hSw;obtain⟨y0,y1,y2,y3,y4⟩:=HCE.out _ hSw;obtain⟨z0,z1,z2,z3,z4⟩:=HCS.out _ hSw;go_simp;try with_reducible rfl
        try simp only[Act.put,sA,sZ,sS]
        refine tkH 14 (v:=?_) ?_ ?_;rotate_left
        ·intro w hSw;obtain⟨y0,y1,y2,y3,y4⟩:=HCE.out _ hSw;obtain⟨z0,z1,z2,z3,z4⟩:=HCS.out _ hSw;go_simp;try with_reducible rfl
        try simp only[Act.put,sA,sZ,sS]
        refine rdH [7] ?_;refine rcH (λK hK=>?_) ?_
        ·go_simp
         refine hK.out _ _ ?_ (λhHeld=>?_)
         ·try dsimp only
          exact HUD.out _ _ HB5.out
         clear hK K
         try simp only[Act.put,sA,sZ,sS]
         refine rdH [8] ?_;refine rcH (λK hK=>?_) ?_
         ·refine Zbob (by rfl) _ _ (by rfl) W1.heap.size _ _ (nmsR x k) ([y.out]) (by rfl) (by rfl) (HO5.out.below ((Below.refl _ _).alloc (Nat.le_refl _) _).drew) (Zbik (alloc_at w5 _)) (by have h1:=Zbbd HSH.out k;simp only[List.length_cons,List.length_nil];omega) (Below.size (by assumption)) ?_;intro v7 w7 ho7 hg7 _;have hS7:=Zfl (show Below W1.heap.size W1 _ by assumption) hg7 (Below.size (by assumption)) (λk hk=>(World.ownsRow.lt HO5.out k hk).1);have HO7:=hid ho7;clear ho7
          refine hK.out _ _ ?_ (λhHeld=>?_)
          ·try dsimp only
           assumption
          clear hK K
          try simp only[Act.put,sA,sZ,sS]
          refine rdH [15] ?_;refine rcH (λK hK=>?_) ?_
          ·refine Zbob (by rfl) _ _ (by rfl) W1.heap.size _ _ (nmsR x k ++ [y.out]) (y.args) (by rfl) (by rfl) (HO7.out) (HROW.out _ (by assumption)) (by have h1:=Zbbd HSH.out k;have h2:=HYA.out;simp only[List.length_append,List.length_cons,List.length_nil];omega) (Below.size (by assumption)) ?_;intro v8 w8 ho8 hg8 _;have hS8:=Zfl (show Below W1.heap.size W1 _ by assumption) hg8 (Below.size (by assumption)) (λk hk=>(World.ownsRow.lt HO7.out k hk).1);have HO8:=hid ho8;clear ho8
           refine hK.out _ _ ?_ (λhHeld=>?_)
           ·try dsimp only
            assumption
           clear hK K
           try simp only[Act.put,sA,sZ,sS]
           refine tkK 16 ?_
           try simp only[Act.put,sA,sZ,sS]
           refine wpAnyH_done (by kernel_rfl) ?_ _;have hB8:Below W1.heap.size W1 w8:=by assumption
           have HO9:Hid (OwnStrs W1.heap.size w8 v8 (nmsR x (k+1))):=by show OwnStrs _ _ _ _;rw[HNX.out];exact HO8.out
           have HB8:=hid hB8;have HMN:Hid (∀(j:Nat) z,j<k+1->x.steps[j]? =some z->MayX z):=by
            show ∀(j:Nat) z,_;intro j z hj hz
            rcases Nat.lt_or_ge j k with h|h
            ·exact HMS.out j z h hz
            ·obtain rfl:j=k:=by omega
             rw[HY.out]at hz;injection hz with hz
             rw[<-hz];exact HBB.out.1 (by trivial)
           clear hS7 hS8 hHeld hB8;go_wp2;go_roundw
           case rel=>exact⟨k+1,by omega,by go_num,HO9.out,HMN.out,HB8.out⟩
           case measure=>simp[intOf];omega
          exact AllReadyH.nil
         exact AllReadyH.nil
        exact AllReadyH.nil
      ·obtain rfl:k=x.steps.length:=by omega
       have HIT:Hid (∀(j:Nat) z,(nmsR x x.steps.length)[j]? =some z->∃b o,la=some ⟨b,o,none⟩/\∀w',Below WR.heap.size WR w'->w'.cell? ⟨b,o+j,none⟩=some (.string z)):=by
        show ∀(j:Nat) z,_;intro j z hz;obtain⟨a',c',q,_,_,h3⟩:=Zua HOWN.out.strsA.isStrs;injection q with q1 q2 q3
        subst q1;exact h3 j z hz
       obtain⟨L,hL⟩:∃L,nmsR x x.steps.length=L:=⟨_,rfl⟩;have HL:=hid hL;rw[hL]at HIT hnl hllc⊢;have hi1:¬(x.steps.length:Int)<(x.steps.length:Int):=by omega
       clear hL hlt hk
       go_wp2_with fail
       go_loopw [5] (λiv wr=>∃j:Nat,j<=L.length/\iv = .int .i64 (j:Int)/\(∀z∈L.take j,Zbcf z.data.toList=true)/\Below WR.heap.size WR wr) (λiv _=>L.length-(intOf iv).toNat)
       case atStart=>exact⟨0,Nat.zero_le _,rfl,λz hz=>by simp at hz,Below.refl _ _⟩
       case round=>
        obtain⟨j,hj,rfl,hok,hnx⟩:=hrel;have HOK:=hid hok;have HNX:=hid hnx;clear hok
        by_cases hjl:j<L.length
        ·obtain⟨z,hz⟩:∃z,L[j]? =some z:=⟨L[j],List.getElem?_eq_getElem hjl⟩
         obtain⟨b,o,hab,hc⟩:=HIT.out j z hz;have z0:=hc _ hnx;subst hab;have HZ:=hid hz;have CM:=hid (HMAY.out x.steps.length z wr (by rw[HL.out];exact List.mem_of_getElem? hz));obtain⟨q,hq⟩:∃q,Zbcf z.data.toList=q:=⟨_,rfl⟩;rw[hq]at CM;have HQ:=hid hq;have hj1:(j:Int)<(L.length:Int):=by omega
         have hj0:(0:Int)<=(j:Int):=by omega
         clear hc hnx hz hq
         go_wp2_with fail
         refine CM.out.mono ?_;rintro e w6 ⟨rfl,hb6⟩;have HB6:=hid (HNX.out.trans (hb6.mono HNX.out.size));clear hb6
         cases q
         ·go_wp2
          go_ret;exact⟨Zpr (λh=>by have:=h.1 z (by rw[HL.out];exact List.mem_of_getElem? HZ.out);rw[HQ.out]at this;cases this),HUP.out _ (HBR.out.trans (HB6.out.mono HBR.out.size))⟩
         ·have hzok:Hid (∀z∈L.take (j+1),Zbcf z.data.toList=true):=by
           show ∀z∈L.take (j+1),_;intro u hu;rw[List.take_add_one,HZ.out]at hu
           rcases List.mem_append.1 hu with hu|hu
           ·exact HOK.out u hu
           ·have:u=z:=by simpa using hu
            rw[this];exact HQ.out
          go_wp2;go_roundw
          case rel=>exact⟨j+1,by omega,by go_num,hzok.out,HB6.out⟩
          case measure=>simp[intOf];omega
        ·have hj1:¬(j:Int)<(L.length:Int):=by omega
         have HBE:=hid (HBR.out.trans (hnx.mono HBR.out.size));obtain⟨_,_,u2,_,_⟩:=HCE.out _ HBE.out;have HALL:Hid (∀z∈L,Zbcf z.data.toList=true):=by show ∀z∈L,_;have:=HOK.out;rw[List.take_of_length_le (by omega)]at this;exact this
         clear hnx
         by_cases hpos:(0:Int)<(x.outs.length:Int)
         ·have HR:Hid (Zav x):=hid ⟨by rw[HL.out];exact HALL.out,λj y hy=>HMS.out j y (List.getElem?_eq_some_iff.1 hy).1 hy,hpos⟩
          go_wp2;go_ret
          first|exact⟨Zps HR.out,HUP.out _ HBE.out⟩|exact⟨⟨_,rfl,λ_=>HR.out,λ_=>by simpa using hpos⟩,HUP.out _ HBE.out⟩
         ·have HR:Hid (¬Zav x):=hid λh=>hpos h.2.2
          go_wp2;go_ret
          first|exact⟨Zpr HR.out,HUP.out _ HBE.out⟩|exact⟨⟨_,rfl,λe=>absurd (of_decide_eq_true e) (by simpa using hpos),λh=>(HR.out h).elim⟩,HUP.out _ HBE.out⟩
    exact AllReadyH.nil
   exact AllReadyH.nil
  exact AllReadyH.nil
 exact AllReadyH.nil
def Zbdi (x:RuleS) (k:Nat):List ByteArray:=(x.steps.take k).map StepS.out
theorem Zbdj {x:RuleS} {k:Nat} {y:StepS} (h:x.steps[k]? =some y):Zbdi x k ++ [y.out]=Zbdi x (k+1):=by
 unfold Zbdi;rw[List.take_add_one,h];simp
def BigX (x:RuleS):Prop:=(8:Int)<(x.ins.length:Int)∨(4:Int)<(x.outs.length:Int)∨(8:Int)<(x.after.length:Int)∨(12:Int)<(x.steps.length:Int)
def Zcd (x:RuleS) (k:Nat) (y:StepS):Prop:=Zoi x.ins y.out<0/\Zoi (Zbdi x k) y.out<0/\∀a∈y.args,¬(Zoi x.ins a<0/\Zoi (Zbdi x k) a<0)
def Zbj (x:RuleS):Prop:=¬Zch x.ins/\¬Zch x.outs/\¬Zch x.after/\Zoi x.after x.name<0/\(∀(k:Nat) y,x.steps[k]? =some y->Zcd x k y)/\∀a∈x.outs,Zoi x.ins a<0/\0<=Zoi (Zbdi x x.steps.length) a
def RuleC (x:RuleS) (c:Int):Prop:=(¬Zav x/\c=1)∨(Zav x/\BigX x/\c=4)∨(Zav x/\¬BigX x/\¬Zbj x/\c=2)∨(Zav x/\¬BigX x/\Zbj x/\c=0)
theorem RuleC.one {x:RuleS} {c d:Int} (h:RuleC x c) (h':RuleC x d):c=d:=by
 rcases h with⟨a,rfl⟩|⟨a,b,rfl⟩|⟨a,b,e,rfl⟩|⟨a,b,e,rfl⟩<;>rcases h' with⟨a',rfl⟩|⟨a',b',rfl⟩|⟨a',b',e',rfl⟩|⟨a',b',e',rfl⟩<;>first|rfl|contradiction
def Zbv (x:RuleS) (e:Ending):Prop:=∃c:Int,e = .returned (.int .i64 c)/\RuleC x c
theorem Zbjc {x:RuleS} (h:¬Zav x):Zbv x (.returned (.int .i64 1)):=⟨1,rfl,.inl ⟨h,rfl⟩⟩
theorem Zbjb {x:RuleS} (h:Zav x) (h':BigX x):Zbv x (.returned (.int .i64 4)):=⟨4,rfl,.inr (.inl ⟨h,h',rfl⟩)⟩
theorem Zbja {x:RuleS} (h:Zav x) (h':¬BigX x) (hn:¬Zbj x):Zbv x (.returned (.int .i64 2)):=⟨2,rfl,.inr (.inr (.inl ⟨h,h',hn,rfl⟩))⟩
theorem Zbjd {x:RuleS} (h:Zav x) (h':¬BigX x) (hn:Zbj x):Zbv x (.returned (.int .i64 0)):=⟨0,rfl,.inr (.inr (.inr ⟨h,h',hn,rfl⟩))⟩
set_option maxHeartbeats 16000000 in
set_option maxRecDepth 100000 in
theorem Zhk (x:RuleS) (vi vo vf vs:Value) (w:World) (h:RuleI w [.string x.name,vi,vo,vf,vs] x) (hs:SmallR x 1048576) (hsh:ShortR x):
  Calls prog 50 #[.agg #[.string x.name,vi,vo,vf,vs]] w λe w'=>Zbv x e/\Below w.heap.size w w':=by
 have hI:=h;obtain⟨_,_,_,_,q,h1,h2,h3,h4⟩:=h;simp only[List.cons.injEq,and_true,true_and]at q;obtain⟨rfl,rfl,rfl,rfl⟩:=q;obtain⟨a1,c1,rfl,_,hm1,_⟩:=Zua h1;obtain⟨a2,c2,rfl,_,hm2,ho2⟩:=Zua h2;obtain⟨a3,c3,rfl,_,hm3,_⟩:=Zua h3;obtain⟨a4,c4,rfl,hl4,hm4,hst⟩:=Zbpc h4;obtain⟨o1,ho1⟩:∃o:Obj,o = .cells #[.string x.name,.slice a1 x.ins.length c1,.slice a2 x.outs.length c2,.slice a3 x.after.length c3,.slice a4 x.steps.length c4] 50:=⟨_,rfl⟩;have hb0:Below w.heap.size w (w.alloc o1):=(Below.refl _ _).alloc (Nat.le_refl _) _;have hx1:=alloc_at w o1;have hlt:=Zfy hx1;obtain⟨W1,hW1⟩:∃W1,w.alloc o1=W1:=⟨_,rfl⟩;rw[hW1]at hx1 hb0 hlt;rw[ho1]at hx1 hW1;have HCE:Hid (∀w',Below W1.heap.size W1 w'->w'.cell? ⟨w.heap.size,0,none⟩=some (.string x.name)/\w'.cell? ⟨w.heap.size,1,none⟩=some (.slice a1 x.ins.length c1)/\w'.cell? ⟨w.heap.size,2,none⟩=some (.slice a2 x.outs.length c2)/\w'.cell? ⟨w.heap.size,3,none⟩=some (.slice a3 x.after.length c3)/\w'.cell? ⟨w.heap.size,4,none⟩=some (.slice a4 x.steps.length c4)):=by
  show ∀w',_;intro w' hb;obtain⟨d0,d1,d2,d3,d4,_⟩:=cells5 ((hb.block _ hlt).trans hx1);exact⟨d0,d1,d2,d3,d4⟩
 have up:∀w',Below W1.heap.size W1 w'->Below w.heap.size w w':=λw' hw=>hb0.trans (hw.mono hb0.size)
 have CFORM:Hid (∀w',Below W1.heap.size W1 w'->Calls prog 83 #[.agg #[.string x.name,.slice a1 x.ins.length c1,.slice a2 x.outs.length c2,.slice a3 x.after.length c3,.slice a4 x.steps.length c4]] w' λe w''=>Zaw x e/\Below w'.heap.size w' w''):=by
  show ∀w',_;exact λw' hw=>Zhf x _ _ _ _ w' (hI.below (up w' hw)) hs hsh
 have CT1:Hid (∀w',Below W1.heap.size W1 w'->Calls prog 84 #[.slice a1 x.ins.length c1] w' λe w''=>Zcg x.ins e/\Below w'.heap.size w' w''):=by show ∀w',_;exact λw' hw=>Zhm _ _ w' (h1.below (up w' hw))
 have CT2:Hid (∀w',Below W1.heap.size W1 w'->Calls prog 84 #[.slice a2 x.outs.length c2] w' λe w''=>Zcg x.outs e/\Below w'.heap.size w' w''):=by show ∀w',_;exact λw' hw=>Zhm _ _ w' (h2.below (up w' hw))
 have CT3:Hid (∀w',Below W1.heap.size W1 w'->Calls prog 84 #[.slice a3 x.after.length c3] w' λe w''=>Zcg x.after e/\Below w'.heap.size w' w''):=by show ∀w',_;exact λw' hw=>Zhm _ _ w' (h3.below (up w' hw))
 have CF1:Hid (∀s w',Below W1.heap.size W1 w'->Calls prog 65 #[.slice a1 x.ins.length c1,.string s] w' λe w''=>e = .returned (.int .i64 (Zoi x.ins s))/\w''=w'):=by show ∀s w',_;exact λs w' hw=>Zhe _ _ s w' (h1.below (up w' hw))
 have CF3:Hid (∀s w',Below W1.heap.size W1 w'->Calls prog 65 #[.slice a3 x.after.length c3,.string s] w' λe w''=>e = .returned (.int .i64 (Zoi x.after s))/\w''=w'):=by show ∀s w',_;exact λs w' hw=>Zhe _ _ s w' (h3.below (up w' hw))
 have HST:Hid (∀(k:Nat) y,x.steps[k]? =some y->∃b o b1 e1 b2 e2,a4=some ⟨b,o,none⟩/\(∀w',Below W1.heap.size W1 w'->IsStrs w' (.slice b1 y.args.length e1) y.args)/\∀w',Below W1.heap.size W1 w'->
   w'.cell? ⟨b,o+k*5,none⟩=some (.string y.out)/\w'.cell? ⟨b,o+k*5+1,none⟩=some (.int .i64 y.op)/\w'.cell? ⟨b,o+k*5+2,none⟩=some (.slice b1 y.args.length e1)/\w'.cell? ⟨b,o+k*5+3,none⟩=some (.slice b2 y.lits.length e2)/\w'.cell? ⟨b,o+k*5+4,none⟩=some (.int .i64 y.n)):=by
  show ∀(k:Nat) y,_;intro k y hy;obtain⟨b,o,b1,e1,b2,e2,ha,hI,hA,hc⟩:=hst k y hy;exact⟨b,o,b1,e1,b2,e2,ha,λw' hw=>hA.below (up w' hw),λw' hw=>hc w' (up w' hw)⟩
 have HOUT:Hid (∀(k:Nat) y,x.outs[k]? =some y->∃b o,a2=some ⟨b,o,none⟩/\∀w',Below W1.heap.size W1 w'->w'.cell? ⟨b,o+k,none⟩=some (.string y)):=by
  show ∀(k:Nat) y,_;intro k y hy;obtain⟨b,o,ha,hc⟩:=ho2 k y hy;exact⟨b,o,ha,λw' hw=>hc w' (up w' hw)⟩
 have HUP:Hid (∀w',Below W1.heap.size W1 w'->Below w.heap.size w w'):=by show ∀w',_;exact up
 have HW1:=hid hW1;have HSH:=hid hsh;have HU:Hid (∀w' o,Below W1.heap.size W1 w'->Below W1.heap.size W1 (w'.alloc o)):=by show ∀w' o,_;exact λw' o h=>h.alloc h.size o
 have hlen:x.ins.length<=10/\x.outs.length<=6/\x.after.length<=10/\x.steps.length<=14:=⟨hsh.ins,hsh.outs,hsh.after,hsh.steps⟩;obtain⟨n1,n2,n3,n4⟩:=hlen;unfold maxLen at hm4 hm2 hm1 hm3;clear h1 h2 h3 h4 hst hb0 hx1 hlt hW1 ho1 o1 up hs hsh hI ho2
 go_enter func50,ntmps50
 go_wp2_with fail
 rw[HW1.out];refine(CFORM.out _ (Below.refl _ _)).mono ?_;rintro e w2 ⟨⟨b,rfl,hb⟩,hb2⟩;have HB2:=hid hb2;have HOK:=hid hb;clear hb hb2
 cases b
 ·go_wp2
  go_ret;exact⟨Zbjc (λh=>absurd (HOK.out.2 h) (by decide)),HUP.out _ HB2.out⟩
 have HF:Hid (Zav x):=hid (HOK.out.1 (by trivial));clear HOK;obtain⟨y0,y1,y2,y3,y4⟩:=HCE.out _ HB2.out
 by_cases g1:(8:Int)<(x.ins.length:Int)
 ·go_wp2
  go_ret;exact⟨Zbjb HF.out (.inl g1),HUP.out _ HB2.out⟩
 by_cases g2:(4:Int)<(x.outs.length:Int)
 ·go_wp2
  go_ret;exact⟨Zbjb HF.out (.inr (.inl g2)),HUP.out _ HB2.out⟩
 by_cases g3:(8:Int)<(x.after.length:Int)
 ·go_wp2
  go_ret;exact⟨Zbjb HF.out (.inr (.inr (.inl g3))),HUP.out _ HB2.out⟩
 by_cases g4:(12:Int)<(x.steps.length:Int)
 ·go_wp2
  go_ret;exact⟨Zbjb HF.out (.inr (.inr (.inr g4))),HUP.out _ HB2.out⟩
 have HNB:Hid (¬BigX x):=hid λh=>h.elim g1 (λh=>h.elim g2 (λh=>h.elim g3 g4))
 go_wp2_with fail
 refine(CT1.out _ HB2.out).mono ?_;rintro e w3 ⟨⟨b,rfl,ht⟩,hb3⟩;have HT1:=hid ht;clear ht;have HB3:=hid (HB2.out.trans (hb3.mono HB2.out.size));clear hb3 y0 y1 y2 y3 y4;obtain⟨y0,y1,y2,y3,y4⟩:=HCE.out _ HB3.out
 cases b
 case true=>
  go_wp2;go_ret;exact⟨Zbja HF.out HNB.out (λh=>h.1 (HT1.out.1 (by trivial))),HUP.out _ HB3.out⟩
 have HN1:Hid (¬Zch x.ins):=hid λh=>absurd (HT1.out.2 h) (by decide)
 go_wp2_with fail
 refine(CT2.out _ HB3.out).mono ?_;rintro e w4 ⟨⟨b,rfl,ht⟩,hb4⟩;have HT2:=hid ht;clear ht;have HB4:=hid (HB3.out.trans (hb4.mono HB3.out.size));clear hb4 y0 y1 y2 y3 y4;obtain⟨y0,y1,y2,y3,y4⟩:=HCE.out _ HB4.out
 cases b
 case true=>
  go_wp2;go_ret;exact⟨Zbja HF.out HNB.out (λh=>h.2.1 (HT2.out.1 (by trivial))),HUP.out _ HB4.out⟩
 have HN2:Hid (¬Zch x.outs):=hid λh=>absurd (HT2.out.2 h) (by decide)
 go_wp2_with fail
 refine(CT3.out _ HB4.out).mono ?_;rintro e w5 ⟨⟨b,rfl,ht⟩,hb5⟩;have HT3:=hid ht;clear ht;have HB5:=hid (HB4.out.trans (hb5.mono HB4.out.size));clear hb5 y0 y1 y2 y3 y4;obtain⟨y0,y1,y2,y3,y4⟩:=HCE.out _ HB5.out
 cases b
 case true=>
  go_wp2;go_ret;exact⟨Zbja HF.out HNB.out (λh=>h.2.2.1 (HT3.out.1 (by trivial))),HUP.out _ HB5.out⟩
 have HN3:Hid (¬Zch x.after):=hid λh=>absurd (HT3.out.2 h) (by decide)
 go_wp2_with fail
 refine(CF3.out _ _ HB5.out).mono ?_;rintro e w6 ⟨rfl,rfl⟩;obtain⟨r,hr⟩:∃r,Zoi x.after x.name=r:=⟨_,rfl⟩;rw[hr];have HR5:=hid hr
 by_cases g5:0<=r
 ·go_wp2
  go_ret;exact⟨Zbja HF.out HNB.out (λh=>by have:=h.2.2.2.1;rw[HR5.out]at this;omega),HUP.out _ HB5.out⟩
 have HN5:Hid (Zoi x.after x.name<0):=by show Zoi _ _<0;rw[HR5.out];omega
 clear hr;have HK0:Hid (OwnStrs W1.heap.size w6 (.slice none 0 0) []):=Zbdk _ _
 go_wp2_with fail
 go_loopw [3,4] (λkv iv wr=>∃(k:Nat) (ks:List ByteArray),k<=x.steps.length/\ks.length=k/\iv = .int .i64 (k:Int)/\OwnStrs W1.heap.size wr kv ks/\Below W1.heap.size W1 wr/\ks=Zbdi x k/\∀(j:Nat) y,j<k->x.steps[j]? =some y->Zcd x j y) (λ_ iv _=>x.steps.length-(intOf iv).toNat)
 case atStart=>exact⟨0,[],Nat.zero_le _,rfl,rfl,HK0.out,HB5.out,rfl,λj y hj=>absurd hj (by omega)⟩
 case round=>
  obtain⟨k,ks,hk,hkl,rfl,hown,hbr,hkq,hsn⟩:=hrel;have HKQ:=hid hkq;have HSN:=hid hsn;clear hkq hsn;obtain⟨WR,hWR⟩:∃V,wr=V:=⟨_,rfl⟩;rw[hWR]at hown hbr⊢;clear hWR y0 y1 y2 y3 y4;have HBR:=hid hbr;have HOWN:=hid hown;have HKL:=hid hkl;have hks:ks.length<=1000:=by have:=n4;omega
  obtain⟨y0,y1,y2,y3,y4⟩:=HCE.out _ hbr;obtain⟨la,lc,q,_,hllc,hlcm⟩:=Zbea hown;subst q;unfold maxLen at hlcm;clear hbr hown hkl
  by_cases hlt:k<x.steps.length
  ·obtain⟨y,hy⟩:∃y,x.steps[k]? =some y:=⟨x.steps[k],List.getElem?_eq_getElem hlt⟩
   obtain⟨b,o,b1,e1,b2,e2,hab,hrow,hcs⟩:=HST.out k y hy;have HROW:=hid hrow;have HCS:=hid hcs;have HY:=hid hy;have HYA:=hid ((HSH.out).each y (List.mem_of_getElem? hy)).1;obtain⟨z0,z1,z2,z3,z4⟩:=hcs _ HBR.out;have hi1:(k:Int)<(x.steps.length:Int):=by omega
   have hi0:(0:Int)<=(k:Int):=by omega
   subst hab;clear hrow hcs hy
   go_upto_region 12 with fail
   obtain⟨W2,hW2⟩:∃V,WR.alloc (.cells #[.string y.out,.int .i64 y.op,.slice b1 y.args.length e1,.slice b2 y.lits.length e2,.int .i64 y.n] 60)=V:=⟨_,rfl⟩;have hx2:=alloc_at WR (.cells #[.string y.out,.int .i64 y.op,.slice b1 y.args.length e1,.slice b2 y.lits.length e2,.int .i64 y.n] 60);have hlt2:=Zfy hx2;have hb12:Below W1.heap.size W1 W2:=by rw[<-hW2];exact HU.out _ _ HBR.out
   have HO2:Hid (OwnStrs W1.heap.size W2 (.slice la ks.length lc) ks):=by show OwnStrs _ _ _ _;rw[<-hW2];exact HOWN.out.below ((Below.refl _ _).alloc (Nat.le_refl _) _)
   rw[hW2]at hx2 hlt2⊢;obtain⟨p2,hp2⟩:∃p,WR.heap.size=p:=⟨_,rfl⟩;rw[hp2]at hx2 hlt2⊢;have HC2:Hid (∀w',Below W2.heap.size W2 w'->w'.cell? ⟨p2,0,none⟩=some (.string y.out)/\w'.cell? ⟨p2,2,none⟩=some (.slice b1 y.args.length e1)):=by
    show ∀w',_;intro w' hb;obtain⟨d0,d1,d2,d3,d4,_⟩:=cells5 ((hb.block _ hlt2).trans hx2);exact⟨d0,d2⟩
   have HB12:=hid hb12;have HD2:Hid (∀n,Below W2.heap.size W2 (W2.drewN n)):=by show ∀n,_;exact λn=>below_drewN (Below.refl _ _) n
   have hea:=Zua (HROW.out _ hb12);obtain⟨b1',e1',q,_,hem,hea⟩:=hea;injection q with q1 q2 q3
   subst q1 q3;have HEA:=hid hea;have CK:Hid (∀s w',Below W2.heap.size W2 w'->Calls prog 65 #[.slice la ks.length lc,.string s] w' λe w''=>e = .returned (.int .i64 (Zoi ks s))/\w''=w'):=by show ∀s w',_;exact λs w' hw=>Zhe _ _ s w' (HO2.out.strsA.isStrs.below hw)
   have CI:Hid (∀s w',Below W2.heap.size W2 w'->Calls prog 65 #[.slice a1 x.ins.length c1,.string s] w' λe w''=>e = .returned (.int .i64 (Zoi x.ins s))/\w''=w'):=by show ∀s w',_;exact λs w' hw=>CF1.out s w' (HB12.out.trans (hw.mono HB12.out.size))
   have HUP2:Hid (∀w',Below W2.heap.size W2 w'->Below W1.heap.size W1 w'):=by show ∀w',_;exact λw' hw=>HB12.out.trans (hw.mono HB12.out.size)
   unfold maxLen at hem;clear hx2 hlt2 hb12 hW2 hea y0 y1 y2 y3 y4 z0 z1 z2 z3 z4 hp2;obtain⟨z0,z2⟩:=HC2.out _ (Below.refl _ _);obtain⟨y0,y1,y2,y3,y4⟩:=HCE.out _ HB12.out
   go_wp2_with fail
   refine(CI.out _ _ (Below.refl _ _)).mono ?_;rintro e w7 ⟨rfl,rfl⟩;obtain⟨r1,hr1⟩:∃r,Zoi x.ins y.out=r:=⟨_,rfl⟩;rw[hr1];have HR1:=hid hr1;clear hr1
   by_cases g6:0<=r1
   ·have hd:decide (0<=r1)=true:=decide_eq_true g6
    go_wp2;go_ret;exact⟨Zbja HF.out HNB.out (λh=>by have:=(h.2.2.2.2.1 k y HY.out).1;rw[HR1.out]at this;omega),HUP.out _ HB12.out⟩
   have hd:decide (0<=r1)=false:=decide_eq_false g6
   go_wp2_with fail
   refine(CK.out _ _ (Below.refl _ _)).mono ?_;rintro e w7 ⟨rfl,rfl⟩;obtain⟨r2,hr2⟩:∃r,Zoi ks y.out=r:=⟨_,rfl⟩;rw[hr2];have HR2:=hid hr2;clear hr2
   by_cases g7:0<=r2
   ·go_wp2
    go_ret;exact⟨Zbja HF.out HNB.out (λh=>by have:=(h.2.2.2.2.1 k y HY.out).2.1;rw[<-HKQ.out,HR2.out]at this;omega),HUP.out _ HB12.out⟩
   go_wp2_with fail
   go_loopw [6] (λjv wr=>∃j:Nat,j<=y.args.length/\jv = .int .i64 (j:Int)/\Below w7.heap.size w7 wr/\∀a∈y.args.take j,¬(Zoi x.ins a<0/\Zoi ks a<0)) (λjv _=>y.args.length-(intOf jv).toNat)
   case atStart=>exact⟨0,Nat.zero_le _,rfl,Below.refl _ _,λa ha=>by simp at ha⟩
   case round=>
    obtain⟨j,hj,rfl,hnx,har⟩:=hrel;have HAR:=hid har;clear har;have HNX:=hid hnx;clear z0 z2 y0 y1 y2 y3 y4;obtain⟨z0,z2⟩:=HC2.out _ hnx;obtain⟨y0,y1,y2,y3,y4⟩:=HCE.out _ (HUP2.out _ hnx);clear hnx
    by_cases hjl:j<y.args.length
    ·obtain⟨a,ha⟩:∃a,y.args[j]? =some a:=⟨y.args[j],List.getElem?_eq_getElem hjl⟩
     obtain⟨ab,ao,hab,hac⟩:=HEA.out j a ha;have z5:=hac _ HNX.out;subst hab;have hj1:(j:Int)<(y.args.length:Int):=by omega
     have hj0:(0:Int)<=(j:Int):=by omega
     have HDR:Hid (∀n,Below w7.heap.size w7 (wr.drewN n)):=by show ∀n,_;exact λn=>below_drewN HNX.out n
     obtain⟨r3,hr3⟩:∃r,Zoi x.ins a=r:=⟨_,rfl⟩;obtain⟨r4,hr4⟩:∃r,Zoi ks a=r:=⟨_,rfl⟩;have CI3:Hid (∀n,Calls prog 65 #[.slice a1 x.ins.length c1,.string a] (wr.drewN n) λe w''=>e = .returned (.int .i64 r3)/\w''=wr.drewN n):=by show ∀n,_;rw[<-hr3];exact λn=>CI.out a _ (HDR.out n)
     have CK3:Hid (∀n,Calls prog 65 #[.slice la ks.length lc,.string a] (wr.drewN n) λe w''=>e = .returned (.int .i64 r4)/\w''=wr.drewN n):=by show ∀n,_;rw[<-hr4];exact λn=>CK.out a _ (HDR.out n)
     have HA:=hid ha;have HR3:=hid hr3;have HR4:=hid hr4;clear hac ha hr3 hr4;have HNXA:Hid (¬(r3<0/\r4<0)->∀c∈y.args.take (j+1),¬(Zoi x.ins c<0/\Zoi ks c<0)):=by
      show ¬_->∀c∈y.args.take (j+1),_;intro hn c hc;rw[List.take_add_one,HA.out]at hc
      rcases List.mem_append.1 hc with hc|hc
      ·exact HAR.out c hc
      ·have:c=a:=by simpa using hc
       rw[this,HR3.out,HR4.out];exact hn
     by_cases g8:r3<0
     ·have hd3:decide (r3<0)=true:=decide_eq_true g8
      by_cases g9:r4<0
      ·go_wp2_with fail
       go_quiet ((go_at_call 65;first|with_reducible refine Calls.quiet_of_same (CI3.out _)|with_reducible refine Calls.quiet_of_same (CK3.out _)))
       all_goals go_wp2
       all_goals go_ret
       all_goals exact⟨Zbja HF.out HNB.out (λh=>(h.2.2.2.2.1 k y HY.out).2.2 a (List.mem_of_getElem? HA.out) ⟨by rw[HR3.out];exact g8,by rw[<-HKQ.out,HR4.out];exact g9⟩),HUP.out _ (HUP2.out _ (HDR.out _))⟩
      ·go_wp2_with fail
       go_quiet ((go_at_call 65;first|with_reducible refine Calls.quiet_of_same (CI3.out _)|with_reducible refine Calls.quiet_of_same (CK3.out _)))
       all_goals go_wp2
       all_goals go_roundw
       case rel=>exact⟨j+1,by omega,by go_num,HDR.out _,HNXA.out (λh=>by omega)⟩
       case measure=>simp[intOf];omega
     ·have hd3:decide (r3<0)=false:=decide_eq_false g8
      go_wp2_with fail
      go_quiet ((go_at_call 65;first|with_reducible refine Calls.quiet_of_same (CI3.out _)|with_reducible refine Calls.quiet_of_same (CK3.out _)))
      all_goals go_wp2
      all_goals go_roundw
      case rel=>exact⟨j+1,by omega,by go_num,HDR.out _,HNXA.out (λh=>by omega)⟩
      case measure=>simp[intOf];omega
    ·have hj1:¬(j:Int)<(y.args.length:Int):=by omega
     have HSK:Hid (∀(j:Nat) z,j<k+1->x.steps[j]? =some z->Zcd x j z):=by
      show ∀(j:Nat) z,_;intro i z hi hz
      rcases Nat.lt_or_ge i k with h|h
      ·exact HSN.out i z h hz
      ·obtain rfl:i=k:=by omega
       rw[HY.out]at hz;injection hz with hz
       rw[<-hz];refine⟨by rw[HR1.out];omega,by rw[<-HKQ.out,HR2.out];omega,?_⟩;rw[<-HKQ.out];have:=HAR.out;rw[List.take_of_length_le (by omega)]at this;exact this
     have hox:=HO2.out.below HNX.out;obtain⟨v9,w9,hr9,ho9,hg9⟩:=Zbka (w:=wr.alloc (.cells #[.string y.out] 9)) (ty:=47) (ys:=[y.out]) (hox.below ((Below.refl _ _).alloc (Nat.le_refl _) _)) (Zbik (alloc_at wr _)) (by have:=hks;simp only[List.length_cons,List.length_nil];omega) (HU.out _ (.cells #[.string y.out] 9) (HUP2.out _ HNX.out)).size;have HR9:=hid hr9;have HO9:=hid ho9;have HB9:Hid (Below W1.heap.size W1 w9):=by
      show Below _ _ _;exact Zfl (HU.out _ (.cells #[.string y.out] 9) (HUP2.out _ HNX.out)) hg9 (HU.out _ (.cells #[.string y.out] 9) (HUP2.out _ HNX.out)).size (λk hk=>(World.ownsRow.lt hox k hk).1)
     clear hr9 ho9 hg9 hox
     go_wp2_with (at_builtin;refine Zbud (by rfl) _ _ 47 (by rfl) (by rfl) (by rfl) HR9.out ?_)
     go_roundw
     case rel=>exact⟨k+1,ks ++ [y.out],by omega,by rw[List.length_append,HKL.out];rfl,by go_num,HO9.out,HB9.out,by rw[HKQ.out];exact Zbdj HY.out,HSK.out⟩
     case measure=>simp[intOf];omega
  ·have hi1:¬(k:Int)<(x.steps.length:Int):=by omega
   have CI:Hid (∀s w',Below WR.heap.size WR w'->Calls prog 65 #[.slice a1 x.ins.length c1,.string s] w' λe w''=>e = .returned (.int .i64 (Zoi x.ins s))/\w''=w'):=by show ∀s w',_;exact λs w' hw=>CF1.out s w' (HBR.out.trans (hw.mono HBR.out.size))
   have CK:Hid (∀s w',Below WR.heap.size WR w'->Calls prog 65 #[.slice la ks.length lc,.string s] w' λe w''=>e = .returned (.int .i64 (Zoi ks s))/\w''=w'):=by show ∀s w',_;exact λs w' hw=>Zhe _ _ s w' (HOWN.out.strsA.isStrs.below hw)
   have HUP2:Hid (∀w',Below WR.heap.size WR w'->Below W1.heap.size W1 w'):=by show ∀w',_;exact λw' hw=>HBR.out.trans (hw.mono HBR.out.size)
   go_wp2_with fail
   go_loopw [7] (λjv wr=>∃j:Nat,j<=x.outs.length/\jv = .int .i64 (j:Int)/\Below WR.heap.size WR wr/\∀a∈x.outs.take j,Zoi x.ins a<0/\0<=Zoi ks a) (λjv _=>x.outs.length-(intOf jv).toNat)
   case atStart=>exact⟨0,Nat.zero_le _,rfl,Below.refl _ _,λa ha=>by simp at ha⟩
   case round=>
    obtain⟨j,hj,rfl,hnx,har⟩:=hrel;have HAR:=hid har;clear har;have HNX:=hid hnx;clear y0 y1 y2 y3 y4;obtain⟨y0,y1,y2,y3,y4⟩:=HCE.out _ (HUP2.out _ hnx);clear hnx
    by_cases hjl:j<x.outs.length
    ·obtain⟨a,ha⟩:∃a,x.outs[j]? =some a:=⟨x.outs[j],List.getElem?_eq_getElem hjl⟩
     obtain⟨ab,ao,hab,hac⟩:=HOUT.out j a ha;have z5:=hac _ (HUP2.out _ HNX.out);subst hab;have hj1:(j:Int)<(x.outs.length:Int):=by omega
     have hj0:(0:Int)<=(j:Int):=by omega
     have HDR:Hid (∀n,Below WR.heap.size WR (wr.drewN n)):=by show ∀n,_;exact λn=>below_drewN HNX.out n
     obtain⟨r3,hr3⟩:∃r,Zoi x.ins a=r:=⟨_,rfl⟩;obtain⟨r4,hr4⟩:∃r,Zoi ks a=r:=⟨_,rfl⟩;have CI3:Hid (∀n,Calls prog 65 #[.slice a1 x.ins.length c1,.string a] (wr.drewN n) λe w''=>e = .returned (.int .i64 r3)/\w''=wr.drewN n):=by show ∀n,_;rw[<-hr3];exact λn=>CI.out a _ (HDR.out n)
     have CK3:Hid (∀n,Calls prog 65 #[.slice la ks.length lc,.string a] (wr.drewN n) λe w''=>e = .returned (.int .i64 r4)/\w''=wr.drewN n):=by show ∀n,_;rw[<-hr4];exact λn=>CK.out a _ (HDR.out n)
     have HA:=hid ha;have HR3:=hid hr3;have HR4:=hid hr4;have HKE:Hid (ks=Zbdi x x.steps.length):=by show ks=_;rw[HKQ.out];congr 1;omega
     clear hac ha hr3 hr4
     by_cases g8:0<=r3
     ·have hd3:decide (0<=r3)=true:=decide_eq_true g8
      go_wp2_with fail
      go_quiet ((go_at_call 65;first|with_reducible refine Calls.quiet_of_same (CI3.out _)|with_reducible refine Calls.quiet_of_same (CK3.out _)))
      all_goals go_wp2
      all_goals go_ret
      all_goals exact⟨Zbja HF.out HNB.out (λh=>by have:=(h.2.2.2.2.2 a (List.mem_of_getElem? HA.out)).1;rw[HR3.out]at this;omega),HUP.out _ (HUP2.out _ (HDR.out _))⟩
     ·have hd3:decide (0<=r3)=false:=decide_eq_false g8
      by_cases g9:r4<0
      ·go_wp2_with fail
       go_quiet ((go_at_call 65;first|with_reducible refine Calls.quiet_of_same (CI3.out _)|with_reducible refine Calls.quiet_of_same (CK3.out _)))
       all_goals go_wp2
       all_goals go_ret
       all_goals exact⟨Zbja HF.out HNB.out (λh=>by have:=(h.2.2.2.2.2 a (List.mem_of_getElem? HA.out)).2;rw[<-HKE.out,HR4.out]at this;omega),HUP.out _ (HUP2.out _ (HDR.out _))⟩
      ·go_wp2_with fail
       go_quiet ((go_at_call 65;first|with_reducible refine Calls.quiet_of_same (CI3.out _)|with_reducible refine Calls.quiet_of_same (CK3.out _)))
       all_goals go_wp2
       all_goals go_roundw
       case rel=>
        refine⟨j+1,by omega,by go_num,HDR.out _,?_⟩;intro c hc;rw[List.take_add_one,HA.out]at hc
        rcases List.mem_append.1 hc with hc|hc
        ·exact HAR.out c hc
        ·have:c=a:=by simpa using hc
         rw[this,HR3.out,HR4.out];exact⟨by omega,by omega⟩
       case measure=>simp[intOf];omega
    ·have hj1:¬(j:Int)<(x.outs.length:Int):=by omega
     go_wp2;go_ret;refine⟨Zbjd HF.out HNB.out ⟨HN1.out,HN2.out,HN3.out,HN5.out,λi z hz=>HSN.out i z (by have:=(List.getElem?_eq_some_iff.1 hz).1;omega) hz,?_⟩,HUP.out _ (HUP2.out _ HNX.out)⟩;rw[show Zbdi x x.steps.length=ks by rw[HKQ.out];congr 1;omega];have:=HAR.out;rw[List.take_of_length_le (by omega)]at this;exact this
open Go.Lib
abbrev ValT:=Bool×ByteArray
def noV:ValT:=(false,⟨#[]⟩)
def Zox:List ByteArray->Bool
 | []=>true
 | y::_=> !(y.toList==([]:List UInt8))
def mayB (x:StepS):Bool:=decide (1<=x.op/\x.op<=9)&&decide ((x.args.length:Int)=naF x.op x.args.length)&&decide ((x.lits.length:Int)=nlF x.op)&&(decide (x.op≠8)||Zox x.lits)&&decide (0<=x.n/\x.n<=2000) &&
 (decide (x.op=9)||decide (x.n=0))&&x.lits.all λl=>decide (l.size<=100)
theorem Zyt (x:StepS):mayB x=true↔MayX x:=by
 unfold mayB MayX;simp only[Bool.and_eq_true,decide_eq_true_eq,Bool.or_eq_true,List.all_eq_true];have e:(x.op≠8∨Zox x.lits=true)↔(x.op=8->∀y,x.lits[0]? =some y->(y.toList==([]:List UInt8))=false):=by
  by_cases h:x.op=8
  ·cases hl:x.lits with
   | nil=>simp[Zox]
   | cons y r=>simp[Zox,h]
  ·simp[h]
 rw[e];constructor
 ·rintro⟨⟨⟨⟨⟨⟨a,b⟩,c⟩,d⟩,f⟩,g⟩,i⟩;exact⟨a,b,c,d,f.1,f.2,g,i⟩
 ·rintro⟨a,b,c,d,f1,f2,g,i⟩;exact⟨⟨⟨⟨⟨⟨a,b⟩,c⟩,d⟩,⟨f1,f2⟩⟩,g⟩,i⟩
theorem Zok {xs:List ByteArray} {s:ByteArray}:Zoi xs s<0↔s∉xs:=by
 rcases Zom xs s with⟨h,h1⟩|⟨k,h,h1,_⟩
 ·rw[h];exact⟨λ_ hm=>by obtain⟨j,hj⟩:=List.getElem?_of_mem hm;exact h1 j hj,λ_=>by decide⟩
 ·rw[h];exact⟨λe=>absurd e (by omega),λe=>absurd (List.mem_of_getElem? h1) e⟩
theorem Zoj {xs:List ByteArray} {s:ByteArray}:0<=Zoi xs s↔s∈xs:=by
 have:=@Zok xs s;constructor
 ·intro h;exact Classical.byContradiction λe=>by have:=this.2 e;omega
 ·intro h;exact Int.not_lt.1 λe=>this.1 e h
theorem Zcdy {xs:List ByteArray} {s:ByteArray} (h:0<=Zoi xs s):xs[(Zoi xs s).toNat]? =some s/\∀j<(Zoi xs s).toNat,xs[j]? ≠some s:=by
 rcases Zom xs s with⟨h',_⟩|⟨k,h',h1,h2⟩
 ·omega
 ·rw[h'];exact⟨h1,h2⟩
theorem Zol {xs:List ByteArray} {s:ByteArray} {k:Nat} (h:xs[k]? =some s) (h2:∀j<k,xs[j]? ≠some s):Zoi xs s=(k:Int):=
 Zop (Zom xs s) (.inr ⟨k,rfl,h,h2⟩)
def setE (e:ByteArray->ValT) (k:ByteArray) (v:ValT):ByteArray->ValT:=λn=>if n=k then v else e n
def byE:List ByteArray->List ValT->(ByteArray->ValT)->ByteArray->ValT
 | k::ks,v::vs,e=>byE ks vs (setE e k v)
 | _,_,e=>e
end Go.Proofs.YtokogjhcidkckaaGreatDoor
