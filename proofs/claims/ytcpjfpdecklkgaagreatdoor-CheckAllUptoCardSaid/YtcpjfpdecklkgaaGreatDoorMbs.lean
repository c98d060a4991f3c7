import Derived.Deep.CutBlock
import Derived.Deep.DeepCutAuto
import Derived.Test.YtcpjfpdecklkgaaGreatDoorMbr
namespace Go.Proofs.YtcpjfpdecklkgaaGreatDoor
open Go.Lib (hid)
open Go.Proofs.Tryz
open Go.RowKit Go.Shelf
def Zcbz (xs:List RuleS) (e:Ending):Prop:=∃(c:Int) (s:ByteArray),e = .returned (.tuple #[.int .i64 c,.string s])/\AllC xs c s
theorem Zchj {xs:List RuleS} {P:Nat->RuleS->Prop} {i:Nat} {x:RuleS} (h:∀(j:Nat) y,j<i->xs[j]? =some y->P j y) (hx:xs[i]? =some x) (hp:P i x):∀(j:Nat) y,j<i+1->xs[j]? =some y->P j y:=by
 intro j y hj hy
 rcases Nat.lt_or_ge j i with h'|h'
 ·exact h j y h' hy
 ·obtain rfl:j=i:=by omega
  rw[hx]at hy;injection hy with hy
  rw[<-hy];exact hp
set_option maxHeartbeats 16000000 in
set_option maxRecDepth 100000 in
theorem Zccs (v:Value) (xs:List RuleS) (w:World) (h:RulesI w v xs) (hn:xs.length<=1000) (hs:∀x∈xs,SmallR x 1048576/\ShortR x):
  Calls prog 8 #[v] w λe w'=>Zcbz xs e/\Below w.heap.size w w':=by
 have HI:=hid h;obtain⟨a1,c1,rfl,_,hm1,hc1⟩:=Zcgz h;have HRU:Hid (∀(k:Nat) x,xs[k]? =some x->∃b o p1 q1 p2 q2 p3 q3 p4 q4,a1=some ⟨b,o,none⟩/\(∀w',Below w.heap.size w w'->Calls prog 31 #[.agg #[.string x.name,.slice p1 x.ins.length q1,.slice p2 x.outs.length q2,.slice p3 x.after.length q3,.slice p4 x.steps.length q4]] w' λe w''=>Zbv x e/\Below w'.heap.size w' w'')/\
   (∀w',Below w.heap.size w w'->w'.cell? ⟨b,o+k*5,none⟩=some (.string x.name)/\w'.cell? ⟨b,o+k*5+1,none⟩=some (.slice p1 x.ins.length q1)/\w'.cell? ⟨b,o+k*5+2,none⟩=some (.slice p2 x.outs.length q2)/\w'.cell? ⟨b,o+k*5+3,none⟩=some (.slice p3 x.after.length q3)/\w'.cell? ⟨b,o+k*5+4,none⟩=some (.slice p4 x.steps.length q4))/\
   (∀(j:Nat) s,x.outs[j]? =some s->∃b' o',p2=some ⟨b',o',none⟩/\∀w',Below w.heap.size w w'->w'.cell? ⟨b',o'+j,none⟩=some (.string s))/\(∀(j:Nat) s,x.after[j]? =some s->∃b' o',p3=some ⟨b',o',none⟩/\∀w',Below w.heap.size w w'->w'.cell? ⟨b',o'+j,none⟩=some (.string s))):=by
  show ∀(k:Nat) x,_;intro k x hx;obtain⟨b,o,p1,q1,p2,q2,p3,q3,p4,q4,ha,hr,hc⟩:=hc1 k x hx;obtain⟨hsm,hsh⟩:=hs x (List.mem_of_getElem? hx);have hr':=hr;obtain⟨vi,vo,vf,vs,q,h1,h2,h3,h4⟩:=hr;simp only[List.cons.injEq,and_true]at q;obtain⟨_,rfl,rfl,rfl,rfl⟩:=q;obtain⟨_,_,e2,_,_,s2⟩:=Zua h2;obtain⟨_,_,e3,_,_,s3⟩:=Zua h3;injection e2 with e2 _ e2'
  injection e3 with e3 _ e3'
  subst e2 e2' e3 e3';exact⟨b,o,p1,q1,p2,q2,p3,q3,p4,q4,ha,λw' hw=>Zhk x _ _ _ _ w' (hr'.below hw) hsm hsh,λw' hw=>hc w' hw,s2,s3⟩
 have CMK:Hid (∀s w',Below w.heap.size w w'->Calls prog 32 #[.slice a1 xs.length c1,.string s] w' λe w''=>(∃r:Int,e = .returned (.int .i64 r)/\Zcfo xs s=r/\-1<=r/\r<(xs.length:Int))/\w'=w''):=by
  show ∀s w',_;exact λs w' hw=>(Zccx _ _ s w' (HI.out.below hw)).mono (by rintro e w2 ⟨rfl,rfl⟩;exact⟨⟨_,rfl,rfl,Zcfp xs s⟩,rfl⟩)
 have CAT:Hid (∀s w',Below w.heap.size w w'->Calls prog 14 #[.slice a1 xs.length c1,.string s] w' λe w''=>(∃r:Int,e = .returned (.int .i64 r)/\Zoi (xs.map (·.name)) s=r/\-1<=r/\r<((xs.map (·.name)).length:Int))/\w'=w''):=by
  show ∀s w',_;exact λs w' hw=>(Zccu _ _ s w' (HI.out.below hw)).mono (by rintro e w2 ⟨rfl,rfl⟩;exact⟨⟨_,rfl,rfl,Zcdz _ s⟩,rfl⟩)
 have CCY:Hid (∀w',Below w.heap.size w w'->Calls prog 11 #[.slice a1 xs.length c1] w' λe w''=>CycX (Zcdi xs) w'' e/\Below w'.heap.size w' w''):=by show ∀w',_;exact λw' hw=>Zccw _ xs w' (HI.out.below hw) hn
 have HSH:Hid (∀(k:Nat) x,xs[k]? =some x->x.outs.length<=6/\x.after.length<=10):=by show ∀(k:Nat) x,_;exact λk x hx=>⟨(hs x (List.mem_of_getElem? hx)).2.outs,(hs x (List.mem_of_getElem? hx)).2.after⟩
 unfold maxLen at hm1;clear h hc1 hs
 go_enter func8,ntmps8
 go_wp2_with fail
 go_loopw [4] (λiv wr=>∃i:Nat,i<=xs.length/\iv = .int .i64 (i:Int)/\OkTo xs i/\Below w.heap.size w wr) (λiv _=>xs.length-(intOf iv).toNat)
 case atStart=>exact⟨0,Nat.zero_le _,rfl,λj y hj=>absurd hj (by omega),Below.refl _ _⟩
 case round=>
  obtain⟨i,hi,rfl,hok,hbr⟩:=hrel;obtain⟨WR,hWR⟩:∃V,wr=V:=⟨_,rfl⟩;rw[hWR]at hbr⊢;clear hWR;have HOK:=hid hok;have HBR:=hid hbr
  by_cases hlt:i<xs.length
  ·obtain⟨x,hx⟩:∃x,xs[i]? =some x:=⟨xs[i],List.getElem?_eq_getElem hlt⟩
   obtain⟨b,o,p1,q1,p2,q2,p3,q3,p4,q4,hab,hcr,hcs,_,_⟩:=HRU.out i x hx;have CR:=hid (hcr _ hbr);obtain⟨y0,y1,y2,y3,y4⟩:=hcs _ hbr;have HCS:=hid hcs;have HX:=hid hx;have hi1:(i:Int)<(xs.length:Int):=by omega
   have hi0:(0:Int)<=(i:Int):=by omega
   subst hab;clear hok hbr hcr hcs hx
   go_wp2_with fail
   refine CR.out.mono ?_;rintro e w5 ⟨⟨r,rfl,hr⟩,hb5⟩;have HB5:=hid (HBR.out.trans (hb5.mono HBR.out.size));have HR:=hid hr;clear hb5 hr y0 y1 y2 y3 y4;obtain⟨y0,_⟩:=HCS.out _ HB5.out
   by_cases hr0:r=0
   ·have HNX:Hid (OkTo xs (i+1)):=hid (Zchj HOK.out HX.out (by have:=HR.out;rw[hr0]at this;exact this))
    subst hr0;go_wp2;go_roundw
    case rel=>exact⟨i+1,by omega,by go_num,HNX.out,HB5.out⟩
    case measure=>simp[intOf];omega
   ·have HR0:=hid hr0
    have HDR:Hid (∀n,Below w.heap.size w (w5.drewN n)):=by show ∀n,_;exact λn=>below_drewN HB5.out n
    go_wp2_with fail
    go_quiet (fail)
    all_goals go_wp2
    all_goals go_ret2
    all_goals exact⟨⟨_,_,rfl,.inl ⟨i,x,HX.out,HOK.out,HR.out,HR0.out,rfl⟩⟩,HDR.out _⟩
  ·have hi1:¬(i:Int)<(xs.length:Int):=by omega
   have HALL:Hid (OkTo xs xs.length):=by show OkTo _ _;rw[show xs.length=i by omega];exact hok
   clear hok hbr
   by_cases h40:(40:Int)<(xs.length:Int)
   ·go_wp2
    go_ret2
    exact⟨⟨_,_,rfl,.inr (.inl ⟨HALL.out,h40,rfl,rfl⟩)⟩,HBR.out⟩
   have H40:Hid ((xs.length:Int)<=40):=hid (by omega)
   go_wp2_with fail
   go_loopw [6] (λiv wr=>∃i:Nat,i<=xs.length/\iv = .int .i64 (i:Int)/\Zcca xs i/\Below w.heap.size w wr) (λiv _=>xs.length-(intOf iv).toNat)
   case atStart=>exact⟨0,Nat.zero_le _,rfl,λa x ha=>absurd ha (by omega),HBR.out⟩
   case round=>
    obtain⟨i,hi,rfl,hon,hbr⟩:=hrel;obtain⟨WR,hWR⟩:∃V,wr=V:=⟨_,rfl⟩;rw[hWR]at hbr⊢;clear hWR HBR;have HON:=hid hon;have HBR:=hid hbr
    by_cases hlt:i<xs.length
    ·obtain⟨x,hx⟩:∃x,xs[i]? =some x:=⟨xs[i],List.getElem?_eq_getElem hlt⟩
     obtain⟨b,o,p1,q1,p2,q2,p3,q3,p4,q4,hab,_,hcs,hou,_⟩:=HRU.out i x hx;obtain⟨y0,y1,y2,y3,y4⟩:=hcs _ hbr;have HCS:=hid hcs;have HOU:=hid hou;have HX:=hid hx;have hsl:=(HSH.out i x hx).1;have hi1:(i:Int)<(xs.length:Int):=by omega
     have hi0:(0:Int)<=(i:Int):=by omega
     have CA:=hid (CAT.out x.name WR hbr);subst hab;clear hon hbr hcs hx hou
     go_wp2_with fail
     refine CA.out.mono ?_;rintro e w5 ⟨⟨r,rfl,hr,hr0,hr1⟩,rfl⟩;have HD:Hid (decide (r<(i:Int))=true↔(Zoi (xs.map (·.name)) x.name<(i:Int)∨∃o∈x.outs.take 0,Zcfo xs o<(i:Int))):=by
      show _↔_;rw[hr];simp
     obtain⟨bd,hbd⟩:∃bd,decide (r<(i:Int))=bd:=⟨_,rfl⟩;rw[hbd]at HD;clear hr hr0 hr1
     go_wp2_with fail
     go_loopw [7,57] (λbv jv wr=>∃(bb:Bool) (j:Nat),bv = .bool bb/\jv = .int .i64 (j:Int)/\j<=x.outs.length/\(bb=true↔(Zoi (xs.map (·.name)) x.name<(i:Int)∨∃o∈x.outs.take j,Zcfo xs o<(i:Int)))/\Below w.heap.size w wr) (λ_ jv _=>x.outs.length-(intOf jv).toNat)
     case atStart=>exact⟨bd,0,rfl,rfl,by omega,HD.out,HBR.out⟩
     case round=>
      obtain⟨bb,j,rfl,rfl,hj,hbb,hbj⟩:=hrel;obtain⟨WJ,hWJ⟩:∃V,wr=V:=⟨_,rfl⟩;rw[hWJ]at hbj⊢;clear hWJ y0 y1 y2 y3 y4;have HBJ:=hid hbj;have HBB:=hid hbb;obtain⟨y0,y1,y2,y3,y4⟩:=HCS.out _ hbj;clear hbb
      by_cases hjl:j<x.outs.length
      ·obtain⟨s,hs⟩:∃s,x.outs[j]? =some s:=⟨x.outs[j],List.getElem?_eq_getElem hjl⟩
       obtain⟨sb,so,hsb,hsc⟩:=HOU.out j s hs;have z0:=hsc _ hbj;subst hsb;have hj1:(j:Int)<(x.outs.length:Int):=by omega
       have hj0:(0:Int)<=(j:Int):=by omega
       have CM:=hid (CMK.out s WJ hbj);have HTK:Hid (∀P:ByteArray->Prop,(∃o∈x.outs.take (j+1),P o)↔(∃o∈x.outs.take j,P o)∨P s):=by
        show ∀P:ByteArray->Prop,_;intro P;rw[List.take_add_one,hs];simp only[Option.toList_some,List.mem_append,List.mem_singleton];constructor
        ·rintro⟨o,h|h,hp⟩
         ·exact .inl ⟨o,h,hp⟩
         ·exact .inr (h▸hp)
        ·rintro(⟨o,h,hp⟩|h)
         ·exact⟨o,.inl h,hp⟩
         ·exact⟨s,.inr rfl,h⟩
       clear hsc hs hbj
       cases bb
       ·go_wp2_with fail
        refine CM.out.mono ?_;rintro e w7 ⟨⟨r2,rfl,hr2,hr0,hr1⟩,rfl⟩;have HNB:Hid (decide (r2<(i:Int))=true↔(Zoi (xs.map (·.name)) x.name<(i:Int)∨∃o∈x.outs.take (j+1),Zcfo xs o<(i:Int))):=by
         show _↔_;have h1:¬(Zoi (xs.map (·.name)) x.name<(i:Int)∨∃o∈x.outs.take j,Zcfo xs o<(i:Int)):=λh=>absurd (HBB.out.2 h) (by decide)
         rw[HTK.out,hr2,decide_eq_true_iff];constructor
         ·exact λh=> .inr (.inr h)
         ·rintro(h|h|h)
          ·exact(h1 (.inl h)).elim
          ·exact(h1 (.inr h)).elim
          ·exact h
        clear hr2;go_wp2;go_roundw
        case rel=>exact⟨_,j+1,rfl,by go_num,by omega,HNB.out,HBJ.out⟩
        case measure=>simp[intOf];omega
       ·go_wp2
        go_roundw
        case rel=>exact⟨true,j+1,rfl,by go_num,by omega,⟨λ_=>(HBB.out.1 (by trivial)).elim .inl (λh=> .inr ((HTK.out _).2 (.inl h))),λ_=>by trivial⟩,HBJ.out⟩
        case measure=>simp[intOf];omega
      ·have hj1:¬(j:Int)<(x.outs.length:Int):=by omega
       have HDR:Hid (∀n,Below w.heap.size w (WJ.drewN n)):=by show ∀n,_;exact λn=>below_drewN HBJ.out n
       clear hbj;have HALLJ:Hid (x.outs.take j=x.outs):=hid (List.take_of_length_le (by omega))
       cases bb
       ·have HFN:Hid (Zcca xs (i+1)):=hid (Zchj (P:=λj y=>¬BadN xs j y) HON.out HX.out (λh=>absurd (HBB.out.2 (by rw[HALLJ.out];exact h)) (by decide)))
        go_wp2;go_roundw
        case rel=>exact⟨i+1,by omega,by go_num,HFN.out,HBJ.out⟩
        case measure=>simp[intOf];omega
       ·have HBD:Hid (BadN xs i x):=by show BadN _ _ _;have:=HBB.out.1 (by trivial);rw[HALLJ.out]at this;exact this
        go_wp2_with fail
        go_quiet (fail)
        all_goals go_wp2
        all_goals go_ret2
        all_goals exact⟨⟨_,_,rfl,.inr (.inr (.inl ⟨HALL.out,H40.out,i,x,HX.out,HON.out,HBD.out,rfl,rfl⟩))⟩,HDR.out _⟩
    ·have hi1:¬(i:Int)<(xs.length:Int):=by omega
     have HONE:Hid (Zcca xs xs.length):=by show Zcca _ _;rw[show xs.length=i by omega];exact hon
     clear hon hbr
     go_wp2_with fail
     go_loopw [10] (λiv wr=>∃i:Nat,i<=xs.length/\iv = .int .i64 (i:Int)/\Zccb xs i/\Below w.heap.size w wr) (λiv _=>xs.length-(intOf iv).toNat)
     case atStart=>exact⟨0,Nat.zero_le _,rfl,λa x ha=>absurd ha (by omega),HBR.out⟩
     case round=>
      obtain⟨i,hi,rfl,hfo,hbr⟩:=hrel;have HFO:=hid hfo;clear hfo;obtain⟨WR,hWR⟩:∃V,wr=V:=⟨_,rfl⟩;rw[hWR]at hbr⊢;clear hWR HBR;have HBR:=hid hbr
      by_cases hlt:i<xs.length
      ·obtain⟨x,hx⟩:∃x,xs[i]? =some x:=⟨xs[i],List.getElem?_eq_getElem hlt⟩
       obtain⟨b,o,p1,q1,p2,q2,p3,q3,p4,q4,hab,_,hcs,_,haf⟩:=HRU.out i x hx;obtain⟨y0,y1,y2,y3,y4⟩:=hcs _ hbr;have HX:=hid hx;have HCS:=hid hcs;have HAF:=hid haf;have hsl:=(HSH.out i x hx).2;have hi1:(i:Int)<(xs.length:Int):=by omega
       have hi0:(0:Int)<=(i:Int):=by omega
       subst hab;clear hbr hcs hx haf
       go_wp2_with fail
       go_loopw [88] (λjv wr=>∃j:Nat,jv = .int .i64 (j:Int)/\j<=x.after.length/\(∀a∈x.after.take j,0<=Zoi (xs.map (·.name)) a)/\Below w.heap.size w wr) (λjv _=>x.after.length-(intOf jv).toNat)
       case atStart=>exact⟨0,rfl,by omega,λa ha=>by simp at ha,HBR.out⟩
       case round=>
        obtain⟨j,rfl,hj,haf,hbj⟩:=hrel;have HAL:=hid haf;clear haf;obtain⟨WJ,hWJ⟩:∃V,wr=V:=⟨_,rfl⟩;rw[hWJ]at hbj⊢;clear hWJ y0 y1 y2 y3 y4;have HBJ:=hid hbj;obtain⟨y0,y1,y2,y3,y4⟩:=HCS.out _ hbj
        by_cases hjl:j<x.after.length
        ·obtain⟨s,hs⟩:∃s,x.after[j]? =some s:=⟨x.after[j],List.getElem?_eq_getElem hjl⟩
         obtain⟨sb,so,hsb,hsc⟩:=HAF.out j s hs;have z0:=hsc _ hbj;subst hsb;have hj1:(j:Int)<(x.after.length:Int):=by omega
         have hj0:(0:Int)<=(j:Int):=by omega
         have CA:=hid (CAT.out s WJ hbj);have HDR:Hid (∀n,Below w.heap.size w (WJ.drewN n)):=by show ∀n,_;exact λn=>below_drewN HBJ.out n
         have HSJ:=hid hs;clear hsc hs hbj
         go_wp2_with fail
         refine CA.out.mono ?_;rintro e w7 ⟨⟨r2,rfl,hr2,hr0,hr1⟩,rfl⟩;have HR2:=hid hr2;clear hr1 hr2
         by_cases hneg:r2<0
         ·have HLO:Hid (Zccc xs x):=hid ⟨s,List.mem_of_getElem? HSJ.out,by rw[HR2.out];exact hneg⟩
          go_wp2_with fail
          go_quiet (fail)
          all_goals go_wp2
          all_goals go_ret2
          all_goals exact⟨⟨_,_,rfl,.inr (.inr (.inr (.inl ⟨HALL.out,H40.out,HONE.out,i,x,HX.out,HFO.out,HLO.out,rfl,rfl⟩)))⟩,HDR.out _⟩
         ·have HAN:Hid (∀a∈x.after.take (j+1),0<=Zoi (xs.map (·.name)) a):=by
           show ∀a∈_,_;intro a ha;rw[List.take_add_one,HSJ.out]at ha
           rcases List.mem_append.1 ha with ha|ha
           ·exact HAL.out a ha
           ·have:a=s:=by simpa using ha
            rw[this,HR2.out];omega
          go_wp2;go_roundw
          case rel=>exact⟨j+1,by go_num,by omega,HAN.out,HBJ.out⟩
          case measure=>simp[intOf];omega
        ·have hj1:¬(j:Int)<(x.after.length:Int):=by omega
         clear hbj;go_wp2;go_roundw
         case rel=>exact⟨i+1,by omega,by go_num,Zchj (P:=λ_ y=>¬Zccc xs y) HFO.out HX.out (λ⟨a,ha,hl⟩=>by have:=HAL.out a (by rw[List.take_of_length_le (by omega)];exact ha);omega),HBJ.out⟩
         case measure=>simp[intOf];omega
      ·have hi1:¬(i:Int)<(xs.length:Int):=by omega
       have HFA:Hid (Zccb xs xs.length):=by show Zccb _ _;rw[show xs.length=i by omega];exact HFO.out
       have CY:=hid (CCY.out _ hbr);obtain⟨nms,hnms⟩:∃l,Zcdi xs=l:=⟨_,rfl⟩;have HNMS:=hid hnms;rw[hnms]at CY;clear hnms;clear hbr
       go_wp2_with fail
       refine CY.out.mono ?_;rintro e w8 ⟨⟨ca,cn,cc,rfl,hnm⟩,hb8⟩;obtain⟨ca',cc',q,_,hcm,hcell⟩:=Zua hnm;injection q with q1 q2 q3
       subst q1 q2 q3;have HB8:=hid (HBR.out.trans (hb8.mono HBR.out.size));have HDR:Hid (∀n,Below w.heap.size w (w8.drewN n)):=by show ∀n,_;exact λn=>below_drewN HB8.out n
       unfold maxLen at hcm;clear hnm hb8
       by_cases hpos:0<nms.length
       ·obtain⟨s,hs⟩:∃s,nms[0]? =some s:=⟨nms[0],List.getElem?_eq_getElem hpos⟩
        obtain⟨sb,so,hsb,hsc⟩:=hcell 0 s hs;have z0:=hsc _ (Below.refl _ _);rw[Nat.add_zero]at z0;subst hsb;have HHD:Hid (∃r,Zcdi xs=s::r):=by
         show ∃r,_;rw[HNMS.out]
         cases nms with
         | nil=>simp at hs
         | cons a r=>simp at hs;exact⟨r,by rw[hs]⟩
        have hp1:(0:Int)<(nms.length:Int):=by omega
        clear hsc hs hcell
        go_wp2_with fail
        go_quiet (fail)
        all_goals go_wp2
        all_goals go_ret2
        all_goals exact⟨⟨_,_,rfl,.inr (.inr (.inr (.inr (.inl ⟨HALL.out,H40.out,HONE.out,HFA.out,HHD.out,rfl⟩))))⟩,HDR.out _⟩
       ·have hp1:¬(0:Int)<(nms.length:Int):=by omega
        have HNIL:Hid (Zcdi xs = []):=by show _=_;rw[HNMS.out];exact List.eq_nil_of_length_eq_zero (by omega)
        clear hcell;go_wp2
        go_ret2
        exact⟨⟨_,_,rfl,.inr (.inr (.inr (.inr (.inr ⟨HALL.out,H40.out,HONE.out,HFA.out,HNIL.out,rfl,rfl⟩))))⟩,HB8.out⟩
theorem Zbcl {l:List ByteArray}:Zbck l=true↔l.Nodup:=by
 unfold Zbck;rw[decide_eq_true_eq];constructor
 ·intro h;exact(Zcn (L:=[]) (by simpa using h)).1
 ·intro h
  have:∀(l L:List ByteArray),l.Nodup->(∀k∈l,k∉L)->(addS L l).length=L.length+l.length:=by
   intro l
   induction l with
   | nil=>intro L _ _;simp[addS]
   | cons k ks ih=>
    intro L h1 h2;have hk:insS L k=L ++ [k]:=by unfold insS;rw[if_neg (λh=>h2 k (by simp) (Zsj.1 h))]
    have e:addS L (k::ks)=addS (insS L k) ks:=rfl;obtain⟨n1,n2⟩:=List.nodup_cons.1 h1;rw[e,hk,ih _ n2]
    ·simp;omega
    ·intro a ha hm
     rcases List.mem_append.1 hm with hm|hm
     ·exact h2 a (by simp[ha]) hm
     ·obtain rfl:a=k:=by simpa using hm
      exact n1 ha
  simpa using this l [] h (by simp)
theorem Zbrq {l:List ByteArray}:Zch l↔¬l.Nodup:=by
 constructor
 ·rintro⟨i,j,hj,hi,e⟩ hn
  have h1:j<l.length:=by omega
  rw[List.getElem?_eq_getElem h1,List.getElem?_eq_getElem hi]at e;exact List.pairwise_iff_getElem.1 hn j i h1 hi hj (Option.some.inj e)
 ·intro h
  refine Classical.byContradiction λhx=>h ?_
  refine List.pairwise_iff_getElem.2 λj i h1 hi hj e=>hx ⟨i,j,hj,hi,?_⟩
  rw[List.getElem?_eq_getElem h1,List.getElem?_eq_getElem hi,e]
theorem Zpq (x:RuleS):Zpo x=true↔Zav x:=by
 unfold Zpo Zav nmsR nmsS;rw[List.take_length];simp only[Bool.and_eq_true,List.all_eq_true,decide_eq_true_eq,Zbnm,Zyt,List.mem_append,List.mem_singleton,List.mem_flatten,List.mem_map,okN];constructor
 ·rintro⟨⟨⟨⟨⟨h1,h2⟩,h3⟩,h4⟩,h5⟩,h6⟩
  refine⟨?_,λj y hy=>(h6 y (List.mem_of_getElem? hy)).1.1,by omega⟩;rintro y ((((rfl|h)|h)|h)|⟨l,⟨s,hs,rfl⟩,h⟩)
  ·exact h1
  ·exact h2 y h
  ·exact h4 y h
  ·exact h5 y h
  ·rcases List.mem_cons.1 h with rfl|h
   ·exact(h6 s hs).1.2
   ·exact(h6 s hs).2 y h
 ·rintro⟨h1,h2,h3⟩
  refine⟨⟨⟨⟨⟨h1 _ (by simp),λy hy=>h1 y (by simp[hy])⟩,by omega⟩,λy hy=>h1 y (by simp[hy])⟩,λy hy=>h1 y (by simp[hy])⟩,λs hs=>⟨⟨?_,?_⟩,λa ha=>?_⟩⟩
  ·obtain⟨j,hj⟩:=List.getElem?_of_mem hs
   exact h2 j s hj
  ·exact h1 _ (.inr ⟨_,⟨s,hs,rfl⟩,by simp⟩)
  ·exact h1 _ (.inr ⟨_,⟨s,hs,rfl⟩,by simp[ha]⟩)
theorem Zfs (x:RuleS):Zbkx x=true↔¬BigX x:=by
 unfold Zbkx BigX;simp only[Bool.and_eq_true,decide_eq_true_eq];omega
theorem Zpn (outs:List ByteArray):∀(l:List StepS) (T M:List ByteArray),Zpm outs T M l=true↔
  (∀(k:Nat) y,l[k]? =some y->(∀a∈y.args,a∈T∨a∈(l.take k).map StepS.out)/\y.out∉T/\y.out∉(l.take k).map StepS.out)/\∀a∈outs,a∈M∨a∈l.map StepS.out
 | [],T,M=>by
  unfold Zpm;simp only[List.all_eq_true,Zsj,List.getElem?_nil,reduceCtorEq,false_implies,implies_true,true_and,List.map_nil,List.not_mem_nil,or_false]
 | s::r,T,M=>by
  have hT:∀a,a∈addS T [s.out]↔a∈T∨a=s.out:=λa=>by rw[Zcp];simp
  have hM:∀a,a∈addS M [s.out]↔a∈M∨a=s.out:=λa=>by rw[Zcp];simp
  unfold Zpm
  by_cases h:s.args.all (inS T)=true/\inS T s.out=false
  ·rw[if_pos h,Zpn outs r]
   obtain⟨h1,h2⟩:=h;simp only[List.all_eq_true,Zsj]at h1;have h2':s.out∉T:=λhm=>by rw[Zsj.2 hm]at h2;cases h2
   constructor
   ·rintro⟨a1,a2⟩
    refine⟨λk y hy=>?_,λa ha=>?_⟩
    ·cases k with
     | zero=>
          obtain rfl:s=y:=by simpa using hy
          exact⟨λa ha=> .inl (h1 a ha),h2',by simp⟩
     | succ k=>
      obtain⟨b1,b2,b3⟩:=a1 k y (by simpa using hy);refine⟨λa ha=>?_,λhm=>b2 ((hT _).2 (.inl hm)),?_⟩
      ·rcases b1 a ha with h|h
       ·rcases(hT a).1 h with h|h
        ·exact .inl h
        ·right;rw[List.take_succ_cons,List.map_cons];simp[h]
       ·right;rw[List.take_succ_cons,List.map_cons];exact List.mem_cons_of_mem _ h
      ·rw[List.take_succ_cons,List.map_cons]
       intro hm
       rcases List.mem_cons.1 hm with h|h
       ·exact b2 ((hT _).2 (.inr h))
       ·exact b3 h
    ·rcases a2 a ha with h|h
     ·rcases(hM a).1 h with h|h
      ·exact .inl h
      ·right;simp[h]
     ·right;rw[List.map_cons];exact List.mem_cons_of_mem _ h
   ·rintro⟨a1,a2⟩
    refine⟨λk y hy=>?_,λa ha=>?_⟩
    ·obtain⟨b1,b2,b3⟩:=a1 (k+1) y (by simpa using hy)
     rw[List.take_succ_cons,List.map_cons]at b1 b3;refine⟨λa ha=>?_,λhm=>?_,λhm=>b3 (List.mem_cons_of_mem _ hm)⟩
     ·rcases b1 a ha with h|h
      ·exact .inl ((hT a).2 (.inl h))
      ·rcases List.mem_cons.1 h with h|h
       ·exact .inl ((hT a).2 (.inr h))
       ·exact .inr h
     ·rcases(hT _).1 hm with h|h
      ·exact b2 h
      ·exact b3 (by rw[h];simp)
    ·rcases a2 a ha with h|h
     ·exact .inl ((hM a).2 (.inl h))
     ·rw[List.map_cons]at h
      rcases List.mem_cons.1 h with h|h
      ·exact .inl ((hM a).2 (.inr h))
      ·exact .inr h
  ·rw[if_neg h]
   refine⟨λh=>absurd h (by decide),λ⟨a1,_⟩=>absurd ?_ h⟩;obtain⟨b1,b2,_⟩:=a1 0 s rfl;refine⟨?_,?_⟩
   ·simp only[List.all_eq_true,Zsj]
    intro a ha
    rcases b1 a ha with h|h
    ·exact h
    ·simp at h
   ·cases hi:inS T s.out with
    | false=>rfl
    | true=>exact absurd (Zsj.1 hi) b2
theorem Zbaf (x:RuleS):Zbac x=true↔Zbj x:=by
 have hA:∀(l:List ByteArray) a,a∈addS [] l↔a∈l:=λl a=>by rw[Zcp];simp
 unfold Zbac Zbj Zcd Zbdi;simp only[Bool.and_eq_true,Zbcl,Zbrq,Classical.not_not,Zok,Zpn,Bool.not_eq_true',Zoj,List.take_length];have hI:inS (addS [] x.after) x.name=false↔x.name∉x.after:=by
  cases h:inS (addS [] x.after) x.name with
  | true=>exact⟨λh=>(by cases h),λh'=>absurd ((hA _ _).1 (Zsj.1 h)) h'⟩
  | false=>exact⟨λ_ hm=>(by rw[Zsj.2 ((hA _ _).2 hm)]at h;cases h),λ_=>rfl⟩
 rw[hI];constructor
 ·rintro⟨⟨⟨⟨h1,h2⟩,h3⟩,h4⟩,h5,h6⟩
  refine⟨h1,h2,h3,h4,λk y hy=>?_,λa ha=>?_⟩
  ·obtain⟨b1,b2,b3⟩:=h5 k y hy
   refine⟨λhm=>b2 ((hA _ _).2 hm),b3,λa ha=>?_⟩;rintro⟨c1,c2⟩
   rcases b1 a ha with h|h
   ·exact c1 ((hA _ _).1 h)
   ·exact c2 h
  ·have hm:a∈x.steps.map StepS.out:=by
    rcases h6 a ha with h|h
    ·simp at h
    ·exact h
   refine⟨λhi=>?_,hm⟩;obtain⟨s,hs,rfl⟩:=List.mem_map.1 hm;obtain⟨k,hk⟩:=List.getElem?_of_mem hs;exact(h5 k s hk).2.1 ((hA _ _).2 hi)
 ·rintro⟨h1,h2,h3,h4,h5,h6⟩
  refine⟨⟨⟨⟨h1,h2⟩,h3⟩,h4⟩,λk y hy=>?_,λa ha=> .inr (h6 a ha).2⟩;obtain⟨b1,b2,b3⟩:=h5 k y hy;refine⟨λa ha=>?_,λhm=>b1 ((hA _ _).1 hm),b2⟩
  by_cases hi:a∈x.ins
  ·exact .inl ((hA _ _).2 hi)
  ·exact .inr (Classical.byContradiction λhk=>b3 a ha ⟨hi,hk⟩)
theorem Zbiq (x:RuleS):RuleC x (Zbip x):=by
 unfold Zbip RuleC;have f:=Zpq x;have s:=Zfs x;have n:=Zbaf x
 cases h1:Zpo x with
 | false=>rw[h1]at f;exact .inl ⟨λh=>absurd (f.2 h) (by decide),by simp⟩
 | true=>
  rw[h1]at f
  cases h2:Zbkx x with
  | false=>rw[h2]at s;exact .inr (.inl ⟨f.1 rfl,Classical.byContradiction λh=>absurd (s.2 h) (by decide),by simp⟩)
  | true=>
   rw[h2]at s
   cases h3:Zbac x with
   | false=>rw[h3]at n;exact .inr (.inr (.inl ⟨f.1 rfl,s.1 rfl,λh=>absurd (n.2 h) (by decide),by simp⟩))
   | true=>rw[h3]at n;exact .inr (.inr (.inr ⟨f.1 rfl,s.1 rfl,n.1 rfl,by simp⟩))
def lxL:List Nat->List Nat->Prop
 | x::a,y::b=>x<y∨(x=y/\lxL a b)
 | _,_=>False
def slL (a b:List Nat):Prop:=a.length<b.length∨(a.length=b.length/\lxL a b)
theorem Zcfi:∀ {a:List Nat},¬lxL a a
 | [],h=>h
 | x::a,h=>by
  rcases h with h|⟨_,h⟩
  ·omega
  ·exact Zcfi h
theorem Zche {a:List Nat}:¬slL a a:=by
 rintro(h|⟨_,h⟩)
 ·omega
 ·exact Zcfi h
theorem Zcfk:∀ {a b c:List Nat},lxL a b->lxL b c->lxL a c
 | [],_,_,h,_=>h.elim
 | _::_,[],_,h,_=>h.elim
 | _::_,_::_,[],_,h=>h.elim
 | x::a,y::b,z::c,h1,h2=>by
  rcases h1 with h1|⟨rfl,h1⟩
  ·rcases h2 with h2|⟨rfl,h2⟩
   ·exact .inl (by omega)
   ·exact .inl h1
  ·rcases h2 with h2|⟨rfl,h2⟩
   ·exact .inl h2
   ·exact .inr ⟨rfl,Zcfk h1 h2⟩
theorem Zchh {a b c:List Nat} (h1:slL a b) (h2:slL b c):slL a c:=by
 rcases h1 with h1|⟨e1,h1⟩
 ·rcases h2 with h2|⟨e2,h2⟩
  ·exact .inl (by omega)
  ·exact .inl (by omega)
 ·rcases h2 with h2|⟨e2,h2⟩
  ·exact .inl (by omega)
  ·exact .inr ⟨by omega,Zcfk h1 h2⟩
theorem Zcfh:∀ {a b u v:List Nat},lxL a b->lxL (a++u) (b++v)
 | [],_,_,_,h=>h.elim
 | _::_,[],_,_,h=>h.elim
 | x::a,y::b,u,v,h=>by
  rcases h with h|⟨rfl,h⟩
  ·exact .inl h
  ·exact .inr ⟨rfl,Zcfh h⟩
theorem Zcfj:∀ {a u v:List Nat},lxL u v->lxL (a++u) (a++v)
 | [],_,_,h=>h
 | _::_,_,_,h=> .inr ⟨rfl,Zcfj h⟩
theorem Zchd {a b u v:List Nat} (h:slL a b) (e:u.length=v.length):slL (a++u) (b++v):=by
 rcases h with h|⟨e1,h⟩
 ·exact .inl (by simp only[List.length_append];omega)
 ·exact .inr ⟨by simp only[List.length_append];omega,Zcfh h⟩
theorem Zchf {a:List Nat} {x y:Nat} (h:x<y):slL (a ++ [x]) (a ++ [y]):= .inr ⟨by simp,Zcfj (.inl h)⟩
theorem Zchg {a u:List Nat} (h:u≠[]):slL a (a++u):= .inl (by have:=List.length_pos_iff.2 h;simp only[List.length_append];omega)
def chN (nd:Nat->List Nat):List Nat->Prop
 | []=>True
 | [_]=>True
 | x::y::t=>y∈nd x/\chN nd (y::t)
def wayN (s:Nat) (nd:Nat->List Nat) (w:List Nat):Prop:=w.head? =some s/\chN nd w
def cycW (s:Nat) (nd:Nat->List Nat) (w:List Nat):Prop:=wayN s nd w/\s∈nd (w.getLastD 0)
theorem Zcda {nd:Nat->List Nat}:∀ {a b:List Nat} {x:Nat},chN nd (a ++ [x])->chN nd (x::b)->chN nd (a++x::b)
 | [],_,_,_,h=>h
 | [_],_,_,h1,h2=>⟨h1.1,h2⟩
 | _::z::a,_,_,h1,h2=>⟨h1.1,Zcda (a:=z::a) h1.2 h2⟩
theorem Zcdc {nd:Nat->List Nat}:∀ {a b:List Nat},chN nd (a++b)->chN nd b
 | [],_,h=>h
 | [_],[],_=>trivial
 | [_],_::_,h=>h.2
 | _::z::a,_,h=>Zcdc (a:=z::a) h.2
theorem Zcdb {nd:Nat->List Nat}:∀ {a:List Nat} {x:Nat},chN nd a->a≠[]->x∈nd (a.getLastD 0)->chN nd (a ++ [x])
 | [],_,_,h,_=>absurd rfl h
 | [_],_,_,_,h=>⟨h,trivial⟩
 | _::z::a,_,h,_,hx=>⟨h.1,Zcdb (a:=z::a) h.2 (by simp) hx⟩
theorem Zcdd {nd:Nat->List Nat}:∀ {a b:List Nat} {x:Nat},a≠[]->chN nd (a++x::b)->x∈nd (a.getLastD 0)
 | [],_,_,h,_=>absurd rfl h
 | [_],_,_,_,h=>h.1
 | _::z::a,_,_,_,h=>Zcdd (a:=z::a) (by simp) h.2
theorem Zcff {a b:List Nat} (h:b≠[]):(a++b).getLastD 0=b.getLastD 0:=by
 simp only[List.getLastD_eq_getLast?];rw[List.getLast?_append];rw[List.getLast?_eq_some_getLast h];rfl
theorem Zcdh {s:Nat} {nd:Nat->List Nat} {w u v:List Nat} {x:Nat} (hw:wayN s nd (w ++ [x])) (h:cycW s nd (u++x::v)):cycW s nd (w++x::v):=by
 refine⟨⟨?_,Zcda hw.2 (Zcdc h.1.2)⟩,?_⟩
 ·have:=hw.1
  cases w with
  | nil=>simpa using this
  | cons=>simpa using this
 ·have:=h.2
  rw[Zcff (by simp)]at this⊢;exact this
structure SeaI (s:Nat) (nd:Nat->List Nat) (N:Nat) (h:List Nat) (q:List (List Nat)) (r:List Bool):Prop where
 way:∀w∈q,wayN s nd w
 ord:q.Pairwise slL
 near:∀w∈q,(w.dropLast=h∨slL w.dropLast h)/\slL h w
 seen:∀x:Nat,r[x]? =some true->∃w,wayN s nd (w ++ [x])/\(w=h∨slL w h)/\(w ++ [x]∈q∨w ++ [x]=h∨slL (w ++ [x]) h)
 size:r.length=N
theorem Zcha {s N:Nat} {nd:Nat->List Nat}:SeaI s nd N [] [[s]] (List.replicate N false):=by
 refine⟨?_,by simp,?_,?_,by simp⟩
 ·intro w hw
  obtain rfl:w = [s]:=by simpa using hw
  exact⟨rfl,trivial⟩
 ·intro w hw
  obtain rfl:w = [s]:=by simpa using hw
  exact⟨.inl rfl,.inl (by simp)⟩
 ·intro x hx
  rw[List.getElem?_replicate]at hx;split at hx<;>simp at hx
theorem SeaI.pop {s N:Nat} {nd:Nat->List Nat} {h g:List Nat} {q:List (List Nat)} {r:List Bool} (H:SeaI s nd N h (g::q) r):SeaI s nd N g q r:=by
 have hg:=H.near g (by simp);have h1:∀ {w:List Nat},(w=h∨slL w h)->slL w g:=by
  rintro w (rfl|e)
  ·exact hg.2
  ·exact Zchh e hg.2
 refine⟨λw hw=>H.way w (by simp[hw]),(List.pairwise_cons.1 H.ord).2,λw hw=>⟨.inr (h1 (H.near w (by simp[hw])).1),(List.pairwise_cons.1 H.ord).1 w hw⟩,?_,H.size⟩;intro x hx;obtain⟨w,a,b,c⟩:=H.seen x hx;refine⟨w,a,.inr (h1 b),?_⟩
 rcases c with c|c
 ·rcases List.mem_cons.1 c with c|c
  ·exact .inr (.inl c)
  ·exact .inl c
 ·exact .inr (.inr (h1 c))
theorem SeaI.strict {s N:Nat} {nd:Nat->List Nat} {h g:List Nat} {q:List (List Nat)} {r:List Bool} (H:SeaI s nd N h (g::q) r):∀w∈q,∀y,slL w (g ++ [y]):=by
 intro w hw y;have hg:=H.near g (by simp);have hn:=H.near w (by simp[hw]);have h1:slL w.dropLast g:=by
  rcases hn.1 with e|e
  ·rw[e];exact hg.2
  ·exact Zchh e hg.2
 have hne:w≠[]:=by
  intro e;have:=(H.way w (by simp[hw])).1;rw[e]at this;simp at this
 rw[<-List.dropLast_concat_getLast hne];exact Zchd h1 rfl
theorem Zcge {s N:Nat} {nd:Nat->List Nat} {U:List Nat} (hU:cycW s nd U) (hmin:∀u,cycW s nd u->¬slL u U) {g:List Nat} (hg:wayN s nd g) (hnd:∀x∈nd (g.getLastD 0),x<N):∀ {xs:List Nat} {q:List (List Nat)} {r:List Bool} {q':List (List Nat)} {r':List Bool},SeaI s nd N g q r->(∀x∈xs,x∈nd (g.getLastD 0))->xs.Pairwise (· <= ·)->(∀w∈q,∀y∈xs,r[y]? =some false->slL w (g ++ [y]))->
  ((∃p∈q,p <+:U)∨(∃x v,x∈xs/\U=g++x::v))->Zbax s g xs q r=some (q',r')->SeaI s nd N g q' r'/\∃p∈q',p <+:U
 | [],q,r,q',r',H,_,_,_,hp,e=>by
  obtain⟨rfl,rfl⟩:q=q'/\r=r':=by simpa[Zbax]using e
  refine⟨H,?_⟩
  rcases hp with hp|⟨x,v,hx,_⟩
  ·exact hp
  ·simp at hx
 | x::xs,q,r,q',r',H,hm,hs,ho,hp,e=>by
  unfold Zbax at e;split at e
  ·cases e
  rename_i hxs
  have hxN:=hnd x (hm x (by simp));have hgne:g≠[]:=by intro e';have:=hg.1;rw[e']at this;simp at this
  by_cases h2:r[x]? =some true
  ·rw[if_pos h2]at e
   refine Zcge hU hmin hg hnd H (λy hy=>hm y (by simp[hy])) (List.pairwise_cons.1 hs).2 (λw hw y hy=>ho w hw y (by simp[hy])) ?_ e
   rcases hp with hp|⟨y,v,hy,eU⟩
   ·exact .inl hp
   ·rcases List.mem_cons.1 hy with rfl|hy
    ·left
     obtain⟨w,a,b,c⟩:=H.seen y h2;have hk:w=g:=by
      rcases b with b|b
      ·exact b
      ·have h3:=hmin _ (Zcdh a (eU▸hU))
       refine absurd ?_ h3;rw[eU];exact Zchd b rfl
     subst hk
     rcases c with c|c|c
     ·exact⟨_,c,⟨v,by rw[eU];simp⟩⟩
     ·exact absurd (congrArg List.length c) (by simp)
     ·exact absurd (Zchh c (Zchg (by simp))) Zche
    ·exact .inr ⟨y,v,hy,eU⟩
  ·rw[if_neg h2]at e
   have h2':r[x]? =some false:=by
    have hl:x<r.length:=by rw[H.size];exact hxN
    rw[List.getElem?_eq_getElem hl]at h2⊢
    cases hb:r[x]with
    | true=>rw[hb]at h2;exact absurd rfl h2
    | false=>rfl
   have hl:x<r.length:=by rw[H.size];exact hxN
   refine Zcge hU hmin hg hnd (q:=q ++ [g ++ [x]]) (r:=r.set x true) ⟨?_,?_,?_,?_,by rw[List.length_set];exact H.size⟩ (λy hy=>hm y (by simp[hy])) (List.pairwise_cons.1 hs).2 ?_ ?_ e
   ·intro w hw
    rcases List.mem_append.1 hw with hw|hw
    ·exact H.way w hw
    ·obtain rfl:w=g ++ [x]:=by simpa using hw
     refine⟨?_,Zcdb hg.2 hgne (hm x (by simp))⟩;have:=hg.1
     cases g with
     | nil=>exact absurd rfl hgne
     | cons=>simpa using this
   ·refine List.pairwise_append.2 ⟨H.ord,by simp,λa ha b hb=>?_⟩
    obtain rfl:b=g ++ [x]:=by simpa using hb
    exact ho a ha x (by simp) h2'
   ·intro w hw
    rcases List.mem_append.1 hw with hw|hw
    ·exact H.near w hw
    ·obtain rfl:w=g ++ [x]:=by simpa using hw
     exact⟨.inl (by simp),Zchg (by simp)⟩
   ·intro y hy
    by_cases hxy:y=x
    ·subst hxy
     refine⟨g,⟨?_,Zcdb hg.2 hgne (hm y (by simp))⟩,.inl rfl,.inl (by simp)⟩;have:=hg.1
     cases g with
     | nil=>exact absurd rfl hgne
     | cons=>simpa using this
    ·rw[List.getElem?_set_ne (λh=>hxy h.symm)]at hy
     obtain⟨w,a,b,c⟩:=H.seen y hy;refine⟨w,a,b,c.imp (λh=>by simp[h]) id⟩
   ·intro w hw y hy hr
    have hyx:y≠x:=by
     rintro rfl;rw[List.getElem?_set_self hl]at hr
     cases hr
    rw[List.getElem?_set_ne (λh=>hyx h.symm)]at hr
    rcases List.mem_append.1 hw with hw|hw
    ·exact ho w hw y (by simp[hy]) hr
    ·obtain rfl:w=g ++ [x]:=by simpa using hw
     have:=(List.pairwise_cons.1 hs).1 y hy;exact Zchf (by omega)
   ·rcases hp with⟨p,hp,hq⟩|⟨y,v,hy,eU⟩
    ·exact .inl ⟨p,by simp[hp],hq⟩
    ·rcases List.mem_cons.1 hy with rfl|hy
     ·exact .inl ⟨g ++ [y],by simp,⟨v,by rw[eU];simp⟩⟩
     ·exact .inr ⟨y,v,hy,eU⟩
theorem Zchb {s:Nat} {w:List Nat}:∀ {xs:List Nat} {q:List (List Nat)} {r:List Bool},Zbax s w xs q r=none->s∈xs
 | [],_,_,h=>by simp[Zbax]at h
 | x::xs,q,r,h=>by
  unfold Zbax at h;split at h
  ·rename_i hx;simp[hx]
  ·split at h
   ·exact List.mem_cons_of_mem _ (Zchb h)
   ·exact List.mem_cons_of_mem _ (Zchb h)
theorem Zchc {s:Nat} {w:List Nat}:∀ {xs:List Nat} {q:List (List Nat)} {r:List Bool} {p},Zbax s w xs q r=some p->s∉xs
 | [],_,_,_,_=>by simp
 | x::xs,q,r,p,h=>by
  unfold Zbax at h;split at h
  ·cases h
  ·rename_i hx
   refine λhm=>?_
   rcases List.mem_cons.1 hm with e|hm
   ·exact hx e.symm
   ·split at h
    ·exact Zchc h hm
    ·exact Zchc h hm
theorem Zccp {s N:Nat} {nd:Nat->List Nat} {U:List Nat} (hU:cycW s nd U) (hmin:∀u,cycW s nd u->¬slL u U) (hnd:∀x,∀y∈nd x,y<N) (hsrt:∀x,(nd x).Pairwise (· <= ·)):∀(n:Nat) (h:List Nat) (q:List (List Nat)) (r:List Bool),SeaI s nd N h q r->(∃p∈q,p <+:U)->bfsF s nd n q r = []∨bfsF s nd n q r=U
 | 0,_,_,_,_,_=> .inl rfl
 | _+1,_,[],_,_,hp=>by obtain⟨p,hp,_⟩:=hp;simp at hp
 | n+1,h,w::q,r,H,hp=>by
  rw[Zfp];have hw:=H.way w (by simp);have hle:w=U∨slL w U:=by
   obtain⟨p,hp,v,hv⟩:=hp;have h1:w=p∨slL w p:=by
    rcases List.mem_cons.1 hp with rfl|hp
    ·exact .inl rfl
    ·exact .inr ((List.pairwise_cons.1 H.ord).1 p hp)
   by_cases hv0:v = []
   ·subst hv0
    rw[List.append_nil]at hv;subst hv;exact h1
   ·right
    have h2:slL p U:=by rw[<-hv];exact Zchg hv0
    rcases h1 with rfl|h1
    ·exact h2
    ·exact Zchh h1 h2
  cases hx:Zbax s w (nd (w.getLastD 0)) q r with
  | none=>
   right;show w=U
   rcases hle with e|e
   ·exact e
   ·exact absurd e (hmin w ⟨hw,Zchb hx⟩)
  | some p=>
   obtain⟨q',r'⟩:=p;have hns:=Zchc hx;obtain⟨a,b⟩:=Zcge hU hmin hw (hnd _) H.pop (λx hx=>hx) (hsrt _) (λv hv y _ _=>H.strict v hv y) (by
    obtain⟨p,hp,v,hv⟩:=hp
    rcases List.mem_cons.1 hp with rfl|hp
    ·right
     cases v with
     | nil=>rw[List.append_nil]at hv;subst hv;exact absurd hU.2 hns
     | cons x v=>exact⟨x,v,Zcdd (by intro e';have:=hw.1;rw[e']at this;simp at this) (by rw[hv];exact hU.1.2),hv.symm⟩
    ·exact .inl ⟨p,hp,v,hv⟩) hx
   exact Zccp hU hmin hnd hsrt n w q' r' a b
theorem Zcgs {s N:Nat} {nd:Nat->List Nat} {U:List Nat} (hU:cycW s nd U) (hmin:∀u,cycW s nd u->¬slL u U) (hnd:∀x,∀y∈nd x,y<N) (hsrt:∀x,(nd x).Pairwise (· <= ·)) (h:Zbhz s nd N≠[]):Zbhz s nd N=U:=
 (Zccp hU hmin hnd hsrt (N+2) [] [[s]] _ Zcha ⟨[s],by simp,by
  obtain⟨⟨h1,_⟩,_⟩:=hU
  cases U with
  | nil=>simp at h1
  | cons x t=>
   obtain rfl:x=s:=by simpa using h1
   exact⟨t,rfl⟩⟩).resolve_left h
end Go.Proofs.YtcpjfpdecklkgaaGreatDoor
