import Derived.Deep.CutBlock
import Derived.Deep.DeepCutAuto
import Derived.Test.YthkehhphnbckaaaGreatDoorMas
namespace Go.Proofs.YthkehhphnbckaaaGreatDoor
open Go.RowKit Go.Shelf
def naF (op:Int) (len:Nat):Int:=if op=5 then min (len:Int) 6 else if op=6 then 0 else 1
def nlF (op:Int):Int:=if op=6∨op=7 then 1 else if op=8 then 2 else 0
def MayX (x:StepS):Prop:=(1≤x.op∧x.op≤9)∧(x.args.length:Int)=naF x.op x.args.length∧(x.lits.length:Int)=nlF x.op∧(x.op=8→∀y,x.lits[0]? =some y→(y.toList==([]:List UInt8))=false)∧0≤x.n∧x.n≤2000∧(x.op=9∨x.n=0)∧∀l∈x.lits,l.size≤100
def Zbg (x:StepS) (e:Ending):Prop:=∃b,e = .returned (.bool b)∧(b=true↔MayX x)
def ArgQ (op:Int) (len:Nat) (na nl:Int):Prop:=naF op len=na∧nlF op=nl
theorem Zyy {x:StepS} (h:¬MayX x):Zbg x (.returned (.bool false)):=⟨false,rfl,(fun e=>by cases e),fun h'=>(h h').elim⟩
theorem Zyz {x:StepS} {b:Bool} (h:¬MayX x) (hb:b=false):Zbg x (.returned (.bool b)):=by subst hb;exact Zyy h
theorem Zza {x:StepS} (h:MayX x):Zbg x (.returned (.bool true)):=⟨true,rfl,fun _=>h,fun _=>rfl⟩
set_option maxHeartbeats 8000000 in
set_option maxRecDepth 100000 in
theorem Zhi (x:StepS) (va vl:Value) (w:World) (h:Zcc w [.string x.out,.int .i64 x.op,va,vl,.int .i64 x.n] x) (hs:SmallS x 1048576):
  Calls Tryz.prog 72 #[.agg #[.string x.out,.int .i64 x.op,va,vl,.int .i64 x.n]] w fun e w'=>Zbg x e∧Below w.heap.size w w':=by
 obtain⟨va',vl',q,ha,hl⟩:=h
 simp only[List.cons.injEq,and_true,true_and]at q
 obtain⟨rfl,rfl⟩:=q
 have hna:=hs.args.1
 have hnl:=hs.lits.1
 have hsl:=hs.lits.2
 obtain⟨out,op,args,lits,n⟩:=x
 simp only at ha hl hna hnl hsl⊢
 obtain⟨a1,c1,rfl,_,hm1,_⟩:=Zua ha
 obtain⟨a2,c2,rfl,_,hm2,hc2⟩:=Zua hl
 obtain⟨o1,ho1⟩:∃o:Obj,o = .cells #[.string out,.int .i64 op,.slice a1 args.length c1,.slice a2 lits.length c2,.int .i64 n] 39:=⟨_,rfl⟩
 have hb0:Below w.heap.size w (w.alloc o1):=(Below.refl _ _).alloc (Nat.le_refl _) _
 have hx1:=alloc_at w o1
 have hlt:=Zfy hx1
 obtain⟨W1,hW1⟩:∃W1,w.alloc o1=W1:=⟨_,rfl⟩
 rw[hW1]at hx1 hb0 hlt
 rw[ho1]at hx1 hW1
 have HCE:Hid (∀w',Below W1.heap.size W1 w'→w'.cell? ⟨w.heap.size,1,none⟩=some (.int .i64 op)∧w'.cell? ⟨w.heap.size,2,none⟩=some (.slice a1 args.length c1)∧w'.cell? ⟨w.heap.size,3,none⟩=some (.slice a2 lits.length c2)∧w'.cell? ⟨w.heap.size,4,none⟩=some (.int .i64 n)):=by
  show ∀w',_
  intro w' hb
  obtain⟨_,d1,d2,d3,d4,_⟩:=cells5 ((hb.block _ hlt).trans hx1)
  exact⟨d1,d2,d3,d4⟩
 have HL:Hid (∀(k:Nat) y,lits[k]? =some y→∃b o,a2=some ⟨b,o,none⟩∧∀w',Below W1.heap.size W1 w'→w'.cell? ⟨b,o+k,none⟩=some (.string y)):=by
  show ∀(k:Nat) y,_
  intro k y hy
  obtain⟨b,o,e,hc⟩:=hc2 k y hy
  exact⟨b,o,e,fun w' hw=>hc w' (hb0.trans (hw.mono hb0.size))⟩
 have HUP:Hid (∀w',Below W1.heap.size W1 w'→Below w.heap.size w w'):=by show ∀w',_;exact fun w' hw=>hb0.trans (hw.mono hb0.size)
 have HW1:=Lib.hid hW1
 have HSL:=Lib.hid hsl
 clear ha hl hc2 hb0 hx1 hlt hW1 ho1 hsl hs o1
 by_cases hop:1≤op∧op≤9
 ·go_enter Tryz.func72,Tryz.ntmps72
  go_upto_block 0 with fail
  go_cut [3,4] (fun a b wx=>a = .int .i64 (naF op args.length)∧b = .int .i64 (nlF op)∧W1=wx)
  case first=>
   have hcs:op=1∨op=2∨op=3∨op=4∨op=5∨op=6∨op=7∨op=8∨op=9:=by omega
   clear hop
   rcases hcs with rfl|rfl|rfl|rfl|rfl|rfl|rfl|rfl|rfl
   all_goals go_wp2_with fail
   all_goals go_meet
   all_goals exact⟨by simp[naF],by simp[nlF],HW1.out.symm⟩
  case rest=>
   obtain⟨rfl,rfl,rfl⟩:=hcut
   obtain⟨na,hnae⟩:∃na,naF op args.length=na:=⟨_,rfl⟩
   obtain⟨nl,hnle⟩:∃nl,nlF op=nl:=⟨_,rfl⟩
   rw[hnae,hnle]
   have har:ArgQ op args.length na nl:=⟨hnae,hnle⟩
   clear hnae hnle
   obtain⟨d1,d2,d3,d4⟩:=HCE.out W1 (Below.refl _ _)
   have HAR:=Lib.hid har
   have HOP:=Lib.hid hop
   unfold maxLen at hm2
   clear har hop
   go_wp2_with fail
   go_loopw [5] (fun iv wr=>∃k:Nat,k≤lits.length∧iv = .int .i64 (k:Int)∧(∀l∈lits.take k,l.size≤100)∧W1=wr) (fun iv _=>lits.length-(intOf iv).toNat)
   case atStart=>exact⟨0,Nat.zero_le _,rfl,fun l hl=>by simp at hl,rfl⟩
   case round=>
    obtain⟨k,hk,rfl,hsm,rfl⟩:=hrel
    have HSM:=Lib.hid hsm
    clear hsm
    have HBW:=Lib.hid (HUP.out _ (Below.refl _ _))
    by_cases hlt:k<lits.length
    ·obtain⟨y,hy⟩:∃y,lits[k]? =some y:=⟨lits[k],List.getElem?_eq_getElem hlt⟩
     obtain⟨b,o,hab,hc⟩:=HL.out k y hy
     have hcy:=hc _ (Below.refl _ _)
     subst hab
     have hi1:(k:Int)<(lits.length:Int):=by omega
     have hi0:(0:Int)≤(k:Int):=by omega
     have hys:=HSL.out y (List.mem_of_getElem? hy)
     obtain⟨z,hz⟩:∃z,y.size=z:=⟨_,rfl⟩
     have HZ:=Lib.hid hz
     have HY:=Lib.hid hy
     rw[hz]at hys
     clear hc hy
     by_cases h100:100<z
     ·have hj:(100:Int)<(z:Int):=by omega
      have HBIG:Hid (¬MayX ⟨out,op,args,lits,n⟩):=by
       show ¬_
       intro h
       have:=h.2.2.2.2.2.2.2 y (List.mem_of_getElem? HY.out)
       rw[HZ.out]at this
       omega
      go_wp2
      go_ret
      exact⟨Zyy HBIG.out,HUP.out _ (Below.refl _ _)⟩
     ·have hj:¬(100:Int)<(z:Int):=by omega
      have HSN:Hid (∀l∈lits.take (k+1),l.size≤100):=by
       show ∀l∈lits.take (k+1),_
       intro l hl
       rw[List.take_add_one,HY.out]at hl
       rcases List.mem_append.1 hl with hl|hl
       ·exact HSM.out l hl
       ·have:l=y:=by simpa using hl
        rw[this,HZ.out]
        omega
      go_wp2
      go_roundw
      case rel=>exact⟨k+1,by omega,by go_num,HSN.out,trivial⟩
      case measure=>simp[intOf];omega
    ·have hi1:¬(k:Int)<(lits.length:Int):=by omega
     have HLA:Hid (∀l∈lits,l.size≤100):=by show ∀l∈lits,_;have:=HSM.out;rw[List.take_of_length_le (by omega)]at this;exact this
     by_cases g1:(args.length:Int)=na
     ·by_cases g2:(lits.length:Int)=nl
      ·by_cases h8:op=8
       ·subst h8
        have hl2:lits.length=2:=by
         have:=HAR.out.2
         rw[show nlF 8=2 from rfl]at this
         omega
        obtain⟨y,hy⟩:∃y,lits[0]? =some y:=⟨lits[0],List.getElem?_eq_getElem (by omega)⟩
        obtain⟨b,o,hab,hc⟩:=HL.out 0 y hy
        have hcy:=hc _ (Below.refl _ _)
        rw[Nat.add_zero]at hcy
        subst hab
        have hp0:(0:Int)<(lits.length:Int):=by omega
        obtain⟨q,hq⟩:∃q,(y.toList==([]:List UInt8))=q:=⟨_,rfl⟩
        have HQY:=Lib.hid (And.intro hy hq)
        clear hc hy hl2
        cases q
        ·by_cases g3:0≤n
         ·by_cases g4:n≤2000
          ·by_cases g5:n=0
           ·have HM:Hid (MayX ⟨out,8,args,lits,n⟩):=Lib.hid ⟨by show(1:Int)≤8∧8≤9;have:=HOP.out;omega,g1.trans HAR.out.1.symm,g2.trans HAR.out.2.symm,fun _ y' hy'=>by rw[HQY.out.1]at hy';injection hy' with hy';rw[←hy'];exact HQY.out.2,g3,g4,.inr g5,HLA.out⟩
            go_wp2
            go_ret
            first|exact⟨Zza HM.out,HBW.out⟩|exact⟨Zza (by have h:=HM.out;rw[g5]at h;exact h),HBW.out⟩
           ·have HN:Hid (¬MayX ⟨out,8,args,lits,n⟩):=Lib.hid fun h=>(h.2.2.2.2.2.2.1).elim (fun e=>absurd e (by show ¬(8:Int)=9;decide)) (fun e=>g5 e)
            go_wp2
            go_ret
            first|exact⟨Zyy HN.out,HBW.out⟩|exact⟨Zyz HN.out (by first|simpa using g5|simp[h9,g5]),HBW.out⟩
          ·have HN:Hid (¬MayX ⟨out,8,args,lits,n⟩):=Lib.hid fun h=>g4 h.2.2.2.2.2.1
           go_wp2
           go_ret
           exact⟨Zyy HN.out,HBW.out⟩
         ·have HN:Hid (¬MayX ⟨out,8,args,lits,n⟩):=Lib.hid fun h=>g3 h.2.2.2.2.1
          go_wp2
          go_ret
          exact⟨Zyy HN.out,HBW.out⟩
        ·have HN:Hid (¬MayX ⟨out,8,args,lits,n⟩):=Lib.hid fun h=>by have:=h.2.2.2.1 rfl y HQY.out.1;rw[HQY.out.2]at this;cases this
         go_wp2
         go_ret
         exact⟨Zyy HN.out,HBW.out⟩
       ·by_cases h9:op=9
        ·subst h9
         by_cases g3:0≤n
         ·by_cases g4:n≤2000
          ·have HM:Hid (MayX ⟨out,9,args,lits,n⟩):=Lib.hid ⟨by show(1:Int)≤9∧9≤9;have:=HOP.out;omega,g1.trans HAR.out.1.symm,g2.trans HAR.out.2.symm,fun e=>absurd e (by show ¬(9:Int)=8;decide),g3,g4,.inl rfl,HLA.out⟩
           go_wp2
           go_ret
           first|exact⟨Zza HM.out,HBW.out⟩|exact⟨Zza (by have h:=HM.out;rw[g5]at h;exact h),HBW.out⟩
          ·have HN:Hid (¬MayX ⟨out,9,args,lits,n⟩):=Lib.hid fun h=>g4 h.2.2.2.2.2.1
           go_wp2
           go_ret
           exact⟨Zyy HN.out,HBW.out⟩
         ·have HN:Hid (¬MayX ⟨out,9,args,lits,n⟩):=Lib.hid fun h=>g3 h.2.2.2.2.1
          go_wp2
          go_ret
          exact⟨Zyy HN.out,HBW.out⟩
        ·by_cases g3:0≤n
         ·by_cases g4:n≤2000
          ·by_cases g5:n=0
           ·have HM:Hid (MayX ⟨out,op,args,lits,n⟩):=Lib.hid ⟨by show(1:Int)≤op∧op≤9;have:=HOP.out;omega,g1.trans HAR.out.1.symm,g2.trans HAR.out.2.symm,fun e=>absurd e h8,g3,g4,.inr g5,HLA.out⟩
            go_wp2
            go_ret
            first|exact⟨Zza HM.out,HBW.out⟩|exact⟨Zza (by have h:=HM.out;rw[g5]at h;exact h),HBW.out⟩
           ·have HN:Hid (¬MayX ⟨out,op,args,lits,n⟩):=Lib.hid fun h=>(h.2.2.2.2.2.2.1).elim (fun e=>absurd e (by show ¬(op:Int)=9;exact h9)) (fun e=>g5 e)
            go_wp2
            go_ret
            first|exact⟨Zyy HN.out,HBW.out⟩|exact⟨Zyz HN.out (by first|simpa using g5|simp[h9,g5]),HBW.out⟩
          ·have HN:Hid (¬MayX ⟨out,op,args,lits,n⟩):=Lib.hid fun h=>g4 h.2.2.2.2.2.1
           go_wp2
           go_ret
           exact⟨Zyy HN.out,HBW.out⟩
         ·have HN:Hid (¬MayX ⟨out,op,args,lits,n⟩):=Lib.hid fun h=>g3 h.2.2.2.2.1
          go_wp2
          go_ret
          exact⟨Zyy HN.out,HBW.out⟩
      ·have HN:Hid (¬MayX ⟨out,op,args,lits,n⟩):=Lib.hid fun h=>g2 (h.2.2.1.trans HAR.out.2)
       go_wp2
       go_ret
       exact⟨Zyy HN.out,HBW.out⟩
     ·have HN:Hid (¬MayX ⟨out,op,args,lits,n⟩):=Lib.hid fun h=>g1 (h.2.1.trans HAR.out.1)
      go_wp2
      go_ret
      exact⟨Zyy HN.out,HBW.out⟩
 ·have hno:¬op=1∧¬op=2∧¬op=3∧¬op=4∧¬op=5∧¬op=6∧¬op=7∧¬op=8∧¬op=9:=by omega
  obtain⟨n1,n2,n3,n4,n5,n6,n7,n8,n9⟩:=hno
  have HB0:Hid (Below w.heap.size w W1):=by show Below _ _ _;exact HUP.out _ (Below.refl _ _)
  have HN:Hid (¬MayX ⟨out,op,args,lits,n⟩):=Lib.hid fun h=>hop h.1
  clear hop
  go_enter Tryz.func72,Tryz.ntmps72
  go_wp2
  go_ret
  exact⟨Zyy HN.out,by rw[HW1.out];exact HB0.out⟩
end Go.Proofs.YthkehhphnbckaaaGreatDoor
namespace Go.Proofs.YthkehhphnbckaaaGreatDoor
open Go.RowKit Go.Shelf
def Zav (x:RuleS):Prop:=(∀y∈nmsR x x.steps.length,Zbcf y.data.toList=true)∧(∀(j:Nat) y,x.steps[j]? =some y→MayX y)∧(0:Int)<(x.outs.length:Int)
def Zaw (x:RuleS) (e:Ending):Prop:=∃b,e = .returned (.bool b)∧(b=true↔Zav x)
theorem Zpr {x:RuleS} (h:¬Zav x):Zaw x (.returned (.bool false)):=⟨false,rfl,(fun e=>by cases e),fun h'=>(h h').elim⟩
theorem Zps {x:RuleS} (h:Zav x):Zaw x (.returned (.bool true)):=⟨true,rfl,fun _=>h,fun _=>rfl⟩
set_option maxHeartbeats 8000000 in
set_option maxRecDepth 100000 in
theorem Zhf (x:RuleS) (vi vo vf vs:Value) (w:World) (h:RuleI w [.string x.name,vi,vo,vf,vs] x) (hs:SmallR x 1048576) (hsh:ShortR x):
  Calls Tryz.prog 43 #[.agg #[.string x.name,vi,vo,vf,vs]] w fun e w'=>Zaw x e∧Below w.heap.size w w':=by
 obtain⟨_,_,_,_,q,h1,h2,h3,h4⟩:=h
 simp only[List.cons.injEq,and_true,true_and]at q
 obtain⟨rfl,rfl,rfl,rfl⟩:=q
 obtain⟨a1,c1,rfl,_,_,_⟩:=Zua h1
 obtain⟨a2,c2,rfl,_,hm2,_⟩:=Zua h2
 obtain⟨a3,c3,rfl,_,_,_⟩:=Zua h3
 obtain⟨a4,c4,rfl,hl4,hm4,hst⟩:=Zbpc h4
 obtain⟨o1,ho1⟩:∃o:Obj,o = .cells #[.string x.name,.slice a1 x.ins.length c1,.slice a2 x.outs.length c2,.slice a3 x.after.length c3,.slice a4 x.steps.length c4] 33:=⟨_,rfl⟩
 have hb0:Below w.heap.size w (w.alloc o1):=(Below.refl _ _).alloc (Nat.le_refl _) _
 have hx1:=alloc_at w o1
 have hlt:=Zfy hx1
 obtain⟨W1,hW1⟩:∃W1,w.alloc o1=W1:=⟨_,rfl⟩
 rw[hW1]at hx1 hb0 hlt
 rw[ho1]at hx1 hW1
 have HCE:Hid (∀w',Below W1.heap.size W1 w'→w'.cell? ⟨w.heap.size,0,none⟩=some (.string x.name)∧w'.cell? ⟨w.heap.size,1,none⟩=some (.slice a1 x.ins.length c1)∧w'.cell? ⟨w.heap.size,2,none⟩=some (.slice a2 x.outs.length c2)∧w'.cell? ⟨w.heap.size,3,none⟩=some (.slice a3 x.after.length c3)∧w'.cell? ⟨w.heap.size,4,none⟩=some (.slice a4 x.steps.length c4)):=by
  show ∀w',_
  intro w' hb
  obtain⟨d0,d1,d2,d3,d4,_⟩:=cells5 ((hb.block _ hlt).trans hx1)
  exact⟨d0,d1,d2,d3,d4⟩
 have up:∀w',Below W1.heap.size W1 w'→Below w.heap.size w w':=fun w' hw=>hb0.trans (hw.mono hb0.size)
 have H1:Hid (∀w',Below W1.heap.size W1 w'→IsRow w' (.slice a1 x.ins.length c1) 1 (Zbpk x.ins)):=by show ∀w',_;exact fun w' hw=>Zud (h1.below (up w' hw))
 have H2:Hid (∀w',Below W1.heap.size W1 w'→IsRow w' (.slice a2 x.outs.length c2) 1 (Zbpk x.outs)):=by show ∀w',_;exact fun w' hw=>Zud (h2.below (up w' hw))
 have H3:Hid (∀w',Below W1.heap.size W1 w'→IsRow w' (.slice a3 x.after.length c3) 1 (Zbpk x.after)):=by show ∀w',_;exact fun w' hw=>Zud (h3.below (up w' hw))
 have HST:Hid (∀(k:Nat) y,x.steps[k]? =some y→∃b o b1 e1 b2 e2,a4=some ⟨b,o,none⟩∧(∀w',Below W1.heap.size W1 w'→Calls Tryz.prog 72 #[.agg #[.string y.out,.int .i64 y.op,.slice b1 y.args.length e1,.slice b2 y.lits.length e2,.int .i64 y.n]] w' fun e w''=>Zbg y e∧Below w'.heap.size w' w'')∧(∀w',Below W1.heap.size W1 w'→IsRow w' (.slice b1 y.args.length e1) 1 (Zbpk y.args))∧∀w',Below W1.heap.size W1 w'→
   w'.cell? ⟨b,o+k*5,none⟩=some (.string y.out)∧w'.cell? ⟨b,o+k*5+1,none⟩=some (.int .i64 y.op)∧w'.cell? ⟨b,o+k*5+2,none⟩=some (.slice b1 y.args.length e1)∧w'.cell? ⟨b,o+k*5+3,none⟩=some (.slice b2 y.lits.length e2)∧w'.cell? ⟨b,o+k*5+4,none⟩=some (.int .i64 y.n)):=by
  show ∀(k:Nat) y,_
  intro k y hy
  obtain⟨b,o,b1,e1,b2,e2,ha,hI,hA,hc⟩:=hst k y hy
  exact⟨b,o,b1,e1,b2,e2,ha,fun w' hw=>Zhi y _ _ w' (by obtain⟨va,vl,q,ha,hl⟩:=hI;exact⟨va,vl,q,ha.below (up w' hw),hl.below (up w' hw)⟩) (hs.steps y (List.mem_of_getElem? hy)),fun w' hw=>Zud (hA.below (up w' hw)),fun w' hw=>hc w' (up w' hw)⟩
 have HUP:Hid (∀w',Below W1.heap.size W1 w'→Below w.heap.size w w'):=by show ∀w',_;exact up
 have HW1:=Lib.hid hW1
 have HS:=Lib.hid hs
 have HSH:=Lib.hid hsh
 have HN0:=Lib.hid (Zbbg x)
 have HO0:Hid (OwnStrs W1.heap.size (W1.alloc (.cells #[.string x.name] 9)).drew (.slice (some ⟨W1.heap.size,0,none⟩) 1 1) [x.name]):=Lib.hid (Zbdx (alloc_at W1 _) (Nat.le_refl _))
 have HS0:Hid (Below W1.heap.size W1 W1.drew):=by show Below _ _ _;exact(Below.refl _ _).drew
 have HU:Hid (∀w' o,Below W1.heap.size W1 w'→Below W1.heap.size W1 (w'.alloc o)):=by show ∀w' o,_;exact fun w' o h=>h.alloc h.size o
 have HUD:Hid (∀w' o,Below W1.heap.size W1 w'→Below W1.heap.size W1 (w'.alloc o).drew):=by show ∀w' o,_;exact fun w' o h=>(h.alloc h.size o).drew
 have HMAY:Hid (∀(k:Nat) y w',y∈nmsR x k→Calls Tryz.prog 73 #[.string y] w' fun e w''=>e = .returned (.bool (Zbcf y.data.toList))∧Below w'.heap.size w' w''):=by
  show ∀(k:Nat) y w',_
  exact fun k y w' hy=>Zyw y w' (by have:=Zbbf hs k y hy;unfold maxLen;omega)
 have hlen:x.ins.length≤10∧x.outs.length≤6∧x.after.length≤10∧x.steps.length≤14:=⟨hsh.ins,hsh.outs,hsh.after,hsh.steps⟩
 obtain⟨n1,n2,n3,n4⟩:=hlen
 unfold maxLen at hm4 hm2
 clear h1 h2 h3 h4 hst hb0 hx1 hlt hW1 ho1 o1 up hs hsh
 go_enter Tryz.func43,Tryz.ntmps43
 go_wp2_with fail
 rw[HW1.out]
 refine wp_region_held_drew (S:=fun w'=>Below W1.heap.size W1 w') (by kernel_rfl) ?_ (fun hHeld=>?_)
 ·exact HS0.out
 refine tkH 0 (v:=?_) ?_ ?_
 rotate_left
 ·intro w hSw;obtain⟨y0,y1,y2,y3,y4⟩:=HCE.out _ hSw;go_simp;try with_reducible rfl
 try simp only[Act.put,List.setIfInBounds_toArray,List.set_cons_zero,List.set_cons_succ]
 refine tkH 1 (v:=?_) ?_ ?_
 rotate_left
 ·intro w hSw;obtain⟨y0,y1,y2,y3,y4⟩:=HCE.out _ hSw;go_simp;try with_reducible rfl
 try simp only[Act.put,List.setIfInBounds_toArray,List.set_cons_zero,List.set_cons_succ]
 refine tkH 3 (v:=?_) ?_ ?_
 rotate_left
 ·intro w hSw;obtain⟨y0,y1,y2,y3,y4⟩:=HCE.out _ hSw;go_simp;try with_reducible rfl
 try simp only[Act.put,List.setIfInBounds_toArray,List.set_cons_zero,List.set_cons_succ]
 refine tkH 4 (v:=?_) ?_ ?_
 rotate_left
 ·intro w hSw;obtain⟨y0,y1,y2,y3,y4⟩:=HCE.out _ hSw;go_simp;try with_reducible rfl
 try simp only[Act.put,List.setIfInBounds_toArray,List.set_cons_zero,List.set_cons_succ]
 refine tkH 6 (v:=?_) ?_ ?_
 rotate_left
 ·intro w hSw;obtain⟨y0,y1,y2,y3,y4⟩:=HCE.out _ hSw;go_simp;try with_reducible rfl
 try simp only[Act.put,List.setIfInBounds_toArray,List.set_cons_zero,List.set_cons_succ]
 refine tkH 7 (v:=?_) ?_ ?_
 rotate_left
 ·intro w hSw;obtain⟨y0,y1,y2,y3,y4⟩:=HCE.out _ hSw;go_simp;try with_reducible rfl
 try simp only[Act.put,List.setIfInBounds_toArray,List.set_cons_zero,List.set_cons_succ]
 refine tkH 9 (v:=?_) ?_ ?_
 rotate_left
 ·intro w hSw;obtain⟨y0,y1,y2,y3,y4⟩:=HCE.out _ hSw;go_simp;try with_reducible rfl
 try simp only[Act.put,List.setIfInBounds_toArray,List.set_cons_zero,List.set_cons_succ]
 refine tkH 10 (v:=?_) ?_ ?_
 rotate_left
 ·intro w hSw;obtain⟨y0,y1,y2,y3,y4⟩:=HCE.out _ hSw;go_simp;try with_reducible rfl
 try simp only[Act.put,List.setIfInBounds_toArray,List.set_cons_zero,List.set_cons_succ]
 refine wpAnyH_ready (rs:=[2]) (by kernel_rfl) (by simp) ?_
 refine AllReadyH.cons (o:=_) (by simp only[List.getElem?_toArray,List.getElem?_cons_succ,List.getElem?_cons_zero];rfl) (fun K hK=>?_) ?_
 ·go_simp
  refine hK.out _ _ ?_ (fun hHeld=>?_)
  ·try dsimp only
   exact HUD.out _ _ (Below.refl _ _)
  clear hK K
  try simp only[Act.put,List.setIfInBounds_toArray,List.set_cons_zero,List.set_cons_succ]
  refine wpAnyH_ready (rs:=[5]) (by kernel_rfl) (by simp) ?_
  refine AllReadyH.cons (o:=_) (by simp only[List.getElem?_toArray,List.getElem?_cons_succ,List.getElem?_cons_zero];rfl) (fun K hK=>?_) ?_
  ·refine Zbob (by rfl) _ _ (by rfl) W1.heap.size _ _ ([x.name]) (x.ins) (by rfl) (by rfl) (HO0.out) (H1.out _ (by assumption)) (by have:=n1;have:=n2;have:=n3;simp only[List.length_cons,List.length_nil];omega) (Below.size (by assumption)) ?_;intro v1 w1 ho1 hg1 _;have hS1:=Zfl (show Below W1.heap.size W1 _ by assumption) hg1 (Below.size (by assumption)) (fun k hk=>(World.ownsRow.lt HO0.out k hk).1);have HO1:=Lib.hid ho1;clear ho1
   refine hK.out _ _ ?_ (fun hHeld=>?_)
   ·try dsimp only
    assumption
   clear hK K
   try simp only[Act.put,List.setIfInBounds_toArray,List.set_cons_zero,List.set_cons_succ]
   refine wpAnyH_ready (rs:=[8]) (by kernel_rfl) (by simp) ?_
   refine AllReadyH.cons (o:=_) (by simp only[List.getElem?_toArray,List.getElem?_cons_succ,List.getElem?_cons_zero];rfl) (fun K hK=>?_) ?_
   ·refine Zbob (by rfl) _ _ (by rfl) W1.heap.size _ _ ([x.name]++x.ins) (x.outs) (by rfl) (by rfl) (HO1.out) (H2.out _ (by assumption)) (by have:=n1;have:=n2;have:=n3;simp only[List.length_append,List.length_cons,List.length_nil];omega) (Below.size (by assumption)) ?_;intro v2 w2 ho2 hg2 _;have hS2:=Zfl (show Below W1.heap.size W1 _ by assumption) hg2 (Below.size (by assumption)) (fun k hk=>(World.ownsRow.lt HO1.out k hk).1);have HO2:=Lib.hid ho2;clear ho2
    refine hK.out _ _ ?_ (fun hHeld=>?_)
    ·try dsimp only
     assumption
    clear hK K
    try simp only[Act.put,List.setIfInBounds_toArray,List.set_cons_zero,List.set_cons_succ]
    refine wpAnyH_ready (rs:=[11]) (by kernel_rfl) (by simp) ?_
    refine AllReadyH.cons (o:=_) (by simp only[List.getElem?_toArray,List.getElem?_cons_succ,List.getElem?_cons_zero];rfl) (fun K hK=>?_) ?_
    ·refine Zbob (by rfl) _ _ (by rfl) W1.heap.size _ _ ([x.name]++x.ins++x.outs) (x.after) (by rfl) (by rfl) (HO2.out) (H3.out _ (by assumption)) (by have:=n1;have:=n2;have:=n3;simp only[List.length_append,List.length_cons,List.length_nil];omega) (Below.size (by assumption)) ?_;intro v3 w3 ho3 hg3 _;have hS3:=Zfl (show Below W1.heap.size W1 _ by assumption) hg3 (Below.size (by assumption)) (fun k hk=>(World.ownsRow.lt HO2.out k hk).1);have HO3:=Lib.hid ho3;clear ho3
     refine hK.out _ _ ?_ (fun hHeld=>?_)
     ·try dsimp only
      assumption
     clear hK K
     try simp only[Act.put,List.setIfInBounds_toArray,List.set_cons_zero,List.set_cons_succ]
     refine tkH 12 (v:=?_) ?_ ?_
     rotate_left
     ·intro w hSw;go_simp;try with_reducible rfl
     try simp only[Act.put,List.setIfInBounds_toArray,List.set_cons_zero,List.set_cons_succ]
     refine wpAnyH_done (by kernel_rfl) ?_ _
     have hB3:Below W1.heap.size W1 w3:=by assumption
     have HOW:Hid (OwnStrs W1.heap.size w3 v3 (nmsR x 0)):=by show OwnStrs _ _ _ _;rw[HN0.out];exact HO3.out
     obtain⟨W3,hW3⟩:∃V,w3=V:=⟨_,rfl⟩
     rw[hW3]at hB3 HOW⊢
     have HB3:=Lib.hid hB3
     clear hW3 hB3 hS1 hS2 hS3 hHeld HO1 HO2 HO3
     go_wp2_with fail
     go_loopw [3,4] (fun lv iv wr=>∃k:Nat,k≤x.steps.length∧iv = .int .i64 (k:Int)∧OwnStrs W1.heap.size wr lv (nmsR x k)∧(∀(j:Nat) y,j<k→x.steps[j]? =some y→MayX y)∧Below W1.heap.size W1 wr) (fun _ iv _=>x.steps.length-(intOf iv).toNat)
     case atStart=>exact⟨0,Nat.zero_le _,rfl,HOW.out,fun j y hj=>absurd hj (by omega),HB3.out⟩
     case round=>
      obtain⟨k,hk,rfl,hown,hmay,hbr⟩:=hrel
      obtain⟨WR,hWR⟩:∃V,wr=V:=⟨_,rfl⟩
      rw[hWR]at hown hbr⊢
      clear hWR
      have HBR:=Lib.hid hbr
      have HOWN:=Lib.hid hown
      have HMS:=Lib.hid hmay
      obtain⟨_,_,y2,_,y4⟩:=HCE.out _ hbr
      obtain⟨la,lc,q,_,hllc,hlcm⟩:=Zbea hown
      subst q
      have hnl:=Zbbd HSH.out k
      unfold maxLen at hlcm
      clear hbr hown hmay
      by_cases hlt:k<x.steps.length
      ·obtain⟨y,hy⟩:∃y,x.steps[k]? =some y:=⟨x.steps[k],List.getElem?_eq_getElem hlt⟩
       obtain⟨b,o,b1,e1,b2,e2,hab,hcm,hrow,hcs⟩:=HST.out k y hy
       have HCM:=Lib.hid (hcm _ HBR.out)
       have HROW:=Lib.hid hrow
       have HCS:=Lib.hid hcs
       have HY:=Lib.hid hy
       have HYA:=Lib.hid ((HSH.out).each y (List.mem_of_getElem? hy)).1
       have HNX:=Lib.hid (Zbbe hy)
       obtain⟨z0,z1,z2,z3,z4⟩:=hcs _ HBR.out
       have hi1:(k:Int)<(x.steps.length:Int):=by omega
       have hi0:(0:Int)≤(k:Int):=by omega
       subst hab
       clear hcm hrow hcs hy
       go_wp2_with fail
       refine HCM.out.mono ?_
       rintro e w5 ⟨⟨bb,rfl,hbb⟩,hb5⟩
       have HBB:=Lib.hid hbb
       have HB5:=Lib.hid (HBR.out.trans (hb5.mono HBR.out.size))
       have HO5:Hid (OwnStrs W1.heap.size w5 (.slice la (nmsR x k).length lc) (nmsR x k)):=by show OwnStrs _ _ _ _;exact HOWN.out.below hb5
       clear hbb hb5 z0 z1 z2 z3 z4
       cases bb
       ·go_wp2
        go_ret
        exact⟨Zpr (fun h=>absurd (HBB.out.2 (h.2.1 k y HY.out)) (by decide)),HUP.out _ HB5.out⟩
       ·have HS5:Hid (Below W1.heap.size W1 w5.drew):=by show Below _ _ _;exact HB5.out.drew
        go_wp2_with fail
        refine wp_region_held_drew (S:=fun w'=>Below W1.heap.size W1 w') (by kernel_rfl) ?_ (fun hHeld=>?_)
        ·exact HS5.out
        refine tkH 0 (v:=?_) ?_ ?_
        rotate_left
        ·intro w hSw;obtain⟨y0,y1,y2,y3,y4⟩:=HCE.out _ hSw;obtain⟨z0,z1,z2,z3,z4⟩:=HCS.out _ hSw;go_simp;try with_reducible rfl
        try simp only[Act.put,List.setIfInBounds_toArray,List.set_cons_zero,List.set_cons_succ]
        refine tkH 1 (v:=?_) ?_ ?_
        rotate_left
        ·intro w hSw;obtain⟨y0,y1,y2,y3,y4⟩:=HCE.out _ hSw;obtain⟨z0,z1,z2,z3,z4⟩:=HCS.out _ hSw;go_simp;try with_reducible rfl
        try simp only[Act.put,List.setIfInBounds_toArray,List.set_cons_zero,List.set_cons_succ]
        refine tkH 2 (v:=?_) ?_ ?_
        rotate_left
        ·intro w hSw;obtain⟨y0,y1,y2,y3,y4⟩:=HCE.out _ hSw;obtain⟨z0,z1,z2,z3,z4⟩:=HCS.out _ hSw;go_simp;try with_reducible rfl
        try simp only[Act.put,List.setIfInBounds_toArray,List.set_cons_zero,List.set_cons_succ]
        refine tkH 3 (v:=?_) ?_ ?_
        rotate_left
        ·intro w hSw;obtain⟨y0,y1,y2,y3,y4⟩:=HCE.out _ hSw;obtain⟨z0,z1,z2,z3,z4⟩:=HCS.out _ hSw;go_simp;try with_reducible rfl
        try simp only[Act.put,List.setIfInBounds_toArray,List.set_cons_zero,List.set_cons_succ]
        refine tkH 4 (v:=?_) ?_ ?_
        rotate_left
        ·intro w hSw;obtain⟨y0,y1,y2,y3,y4⟩:=HCE.out _ hSw;obtain⟨z0,z1,z2,z3,z4⟩:=HCS.out _ hSw;go_simp;try with_reducible rfl
        try simp only[Act.put,List.setIfInBounds_toArray,List.set_cons_zero,List.set_cons_succ]
        refine tkH 5 (v:=?_) ?_ ?_
        rotate_left
        ·intro w hSw;obtain⟨y0,y1,y2,y3,y4⟩:=HCE.out _ hSw;obtain⟨z0,z1,z2,z3,z4⟩:=HCS.out _ hSw;go_simp;try with_reducible rfl
        try simp only[Act.put,List.setIfInBounds_toArray,List.set_cons_zero,List.set_cons_succ]
        refine tkH 6 (v:=?_) ?_ ?_
        rotate_left
        ·intro w hSw;obtain⟨y0,y1,y2,y3,y4⟩:=HCE.out _ hSw;obtain⟨z0,z1,z2,z3,z4⟩:=HCS.out _ hSw;go_simp;try with_reducible rfl
        try simp only[Act.put,List.setIfInBounds_toArray,List.set_cons_zero,List.set_cons_succ]
        refine tkH 9 (v:=?_) ?_ ?_
        rotate_left
        ·intro w hSw;obtain⟨y0,y1,y2,y3,y4⟩:=HCE.out _ hSw;obtain⟨z0,z1,z2,z3,z4⟩:=HCS.out _ hSw;go_simp;try with_reducible rfl
        try simp only[Act.put,List.setIfInBounds_toArray,List.set_cons_zero,List.set_cons_succ]
        refine tkH 10 (v:=?_) ?_ ?_
        rotate_left
        ·intro w hSw;obtain⟨y0,y1,y2,y3,y4⟩:=HCE.out _ hSw;obtain⟨z0,z1,z2,z3,z4⟩:=HCS.out _ hSw;go_simp;try with_reducible rfl
        try simp only[Act.put,List.setIfInBounds_toArray,List.set_cons_zero,List.set_cons_succ]
        refine tkH 11 (v:=?_) ?_ ?_
        rotate_left
        ·intro w hSw;obtain⟨y0,y1,y2,y3,y4⟩:=HCE.out _ hSw;obtain⟨z0,z1,z2,z3,z4⟩:=HCS.out _ hSw;go_simp;try with_reducible rfl
        try simp only[Act.put,List.setIfInBounds_toArray,List.set_cons_zero,List.set_cons_succ]
        refine tkH 12 (v:=?_) ?_ ?_
        rotate_left
        ·intro w hSw;obtain⟨y0,y1,y2,y3,y4⟩:=HCE.out _ hSw;obtain⟨z0,z1,z2,z3,z4⟩:=HCS.out _ hSw;go_simp;try with_reducible rfl
        try simp only[Act.put,List.setIfInBounds_toArray,List.set_cons_zero,List.set_cons_succ]
        refine tkH 13 (v:=?_) ?_ ?_
        rotate_left
        ·intro w hSw;obtain⟨y0,y1,y2,y3,y4⟩:=HCE.out _ hSw;obtain⟨z0,z1,z2,z3,z4⟩:=HCS.out _ hSw;go_simp;try with_reducible rfl
        try simp only[Act.put,List.setIfInBounds_toArray,List.set_cons_zero,List.set_cons_succ]
        refine tkH 14 (v:=?_) ?_ ?_
        rotate_left
        ·intro w hSw;obtain⟨y0,y1,y2,y3,y4⟩:=HCE.out _ hSw;obtain⟨z0,z1,z2,z3,z4⟩:=HCS.out _ hSw;go_simp;try with_reducible rfl
        try simp only[Act.put,List.setIfInBounds_toArray,List.set_cons_zero,List.set_cons_succ]
        refine wpAnyH_ready (rs:=[7]) (by kernel_rfl) (by simp) ?_
        refine AllReadyH.cons (o:=_) (by simp only[List.getElem?_toArray,List.getElem?_cons_succ,List.getElem?_cons_zero];rfl) (fun K hK=>?_) ?_
        ·go_simp
         refine hK.out _ _ ?_ (fun hHeld=>?_)
         ·try dsimp only
          exact HUD.out _ _ HB5.out
         clear hK K
         try simp only[Act.put,List.setIfInBounds_toArray,List.set_cons_zero,List.set_cons_succ]
         refine wpAnyH_ready (rs:=[8]) (by kernel_rfl) (by simp) ?_
         refine AllReadyH.cons (o:=_) (by simp only[List.getElem?_toArray,List.getElem?_cons_succ,List.getElem?_cons_zero];rfl) (fun K hK=>?_) ?_
         ·refine Zbob (by rfl) _ _ (by rfl) W1.heap.size _ _ (nmsR x k) ([y.out]) (by rfl) (by rfl) (HO5.out.below ((Below.refl _ _).alloc (Nat.le_refl _) _).drew) (Zbik (alloc_at w5 _)) (by have h1:=Zbbd HSH.out k;simp only[List.length_cons,List.length_nil];omega) (Below.size (by assumption)) ?_;intro v7 w7 ho7 hg7 _;have hS7:=Zfl (show Below W1.heap.size W1 _ by assumption) hg7 (Below.size (by assumption)) (fun k hk=>(World.ownsRow.lt HO5.out k hk).1);have HO7:=Lib.hid ho7;clear ho7
          refine hK.out _ _ ?_ (fun hHeld=>?_)
          ·try dsimp only
           assumption
          clear hK K
          try simp only[Act.put,List.setIfInBounds_toArray,List.set_cons_zero,List.set_cons_succ]
          refine wpAnyH_ready (rs:=[15]) (by kernel_rfl) (by simp) ?_
          refine AllReadyH.cons (o:=_) (by simp only[List.getElem?_toArray,List.getElem?_cons_succ,List.getElem?_cons_zero];rfl) (fun K hK=>?_) ?_
          ·refine Zbob (by rfl) _ _ (by rfl) W1.heap.size _ _ (nmsR x k ++ [y.out]) (y.args) (by rfl) (by rfl) (HO7.out) (HROW.out _ (by assumption)) (by have h1:=Zbbd HSH.out k;have h2:=HYA.out;simp only[List.length_append,List.length_cons,List.length_nil];omega) (Below.size (by assumption)) ?_;intro v8 w8 ho8 hg8 _;have hS8:=Zfl (show Below W1.heap.size W1 _ by assumption) hg8 (Below.size (by assumption)) (fun k hk=>(World.ownsRow.lt HO7.out k hk).1);have HO8:=Lib.hid ho8;clear ho8
           refine hK.out _ _ ?_ (fun hHeld=>?_)
           ·try dsimp only
            assumption
           clear hK K
           try simp only[Act.put,List.setIfInBounds_toArray,List.set_cons_zero,List.set_cons_succ]
           refine tkH 16 (v:=?_) ?_ ?_
           rotate_left
           ·intro w hSw;go_simp;try with_reducible rfl
           try simp only[Act.put,List.setIfInBounds_toArray,List.set_cons_zero,List.set_cons_succ]
           refine wpAnyH_done (by kernel_rfl) ?_ _
           have hB8:Below W1.heap.size W1 w8:=by assumption
           have HO9:Hid (OwnStrs W1.heap.size w8 v8 (nmsR x (k+1))):=by show OwnStrs _ _ _ _;rw[HNX.out];exact HO8.out
           have HB8:=Lib.hid hB8
           have HMN:Hid (∀(j:Nat) z,j<k+1→x.steps[j]? =some z→MayX z):=by
            show ∀(j:Nat) z,_
            intro j z hj hz
            rcases Nat.lt_or_ge j k with h|h
            ·exact HMS.out j z h hz
            ·obtain rfl:j=k:=by omega
             rw[HY.out]at hz
             injection hz with hz
             rw[←hz]
             exact HBB.out.1 (by trivial)
           clear hS7 hS8 hHeld hB8
           go_wp2
           go_roundw
           case rel=>exact⟨k+1,by omega,by go_num,HO9.out,HMN.out,HB8.out⟩
           case measure=>simp[intOf];omega
          exact AllReadyH.nil
         exact AllReadyH.nil
        exact AllReadyH.nil
      ·obtain rfl:k=x.steps.length:=by omega
       have HIT:Hid (∀(j:Nat) z,(nmsR x x.steps.length)[j]? =some z→∃b o,la=some ⟨b,o,none⟩∧∀w',Below WR.heap.size WR w'→w'.cell? ⟨b,o+j,none⟩=some (.string z)):=by
        show ∀(j:Nat) z,_
        intro j z hz
        obtain⟨a',c',q,_,_,h3⟩:=Zua HOWN.out.strsA.isStrs
        injection q with q1 q2 q3
        subst q1
        exact h3 j z hz
       obtain⟨L,hL⟩:∃L,nmsR x x.steps.length=L:=⟨_,rfl⟩
       have HL:=Lib.hid hL
       rw[hL]at HIT hnl hllc⊢
       have hi1:¬(x.steps.length:Int)<(x.steps.length:Int):=by omega
       clear hL hlt hk
       go_wp2_with fail
       go_loopw [5] (fun iv wr=>∃j:Nat,j≤L.length∧iv = .int .i64 (j:Int)∧(∀z∈L.take j,Zbcf z.data.toList=true)∧Below WR.heap.size WR wr) (fun iv _=>L.length-(intOf iv).toNat)
       case atStart=>exact⟨0,Nat.zero_le _,rfl,fun z hz=>by simp at hz,Below.refl _ _⟩
       case round=>
        obtain⟨j,hj,rfl,hok,hnx⟩:=hrel
        have HOK:=Lib.hid hok
        have HNX:=Lib.hid hnx
        clear hok
        by_cases hjl:j<L.length
        ·obtain⟨z,hz⟩:∃z,L[j]? =some z:=⟨L[j],List.getElem?_eq_getElem hjl⟩
         obtain⟨b,o,hab,hc⟩:=HIT.out j z hz
         have z0:=hc _ hnx
         subst hab
         have HZ:=Lib.hid hz
         have CM:=Lib.hid (HMAY.out x.steps.length z wr (by rw[HL.out];exact List.mem_of_getElem? hz))
         obtain⟨q,hq⟩:∃q,Zbcf z.data.toList=q:=⟨_,rfl⟩
         rw[hq]at CM
         have HQ:=Lib.hid hq
         have hj1:(j:Int)<(L.length:Int):=by omega
         have hj0:(0:Int)≤(j:Int):=by omega
         clear hc hnx hz hq
         go_wp2_with fail
         refine CM.out.mono ?_
         rintro e w6 ⟨rfl,hb6⟩
         have HB6:=Lib.hid (HNX.out.trans (hb6.mono HNX.out.size))
         clear hb6
         cases q
         ·go_wp2
          go_ret
          exact⟨Zpr (fun h=>by have:=h.1 z (by rw[HL.out];exact List.mem_of_getElem? HZ.out);rw[HQ.out]at this;cases this),HUP.out _ (HBR.out.trans (HB6.out.mono HBR.out.size))⟩
         ·have hzok:Hid (∀z∈L.take (j+1),Zbcf z.data.toList=true):=by
           show ∀z∈L.take (j+1),_
           intro u hu
           rw[List.take_add_one,HZ.out]at hu
           rcases List.mem_append.1 hu with hu|hu
           ·exact HOK.out u hu
           ·have:u=z:=by simpa using hu
            rw[this]
            exact HQ.out
          go_wp2
          go_roundw
          case rel=>exact⟨j+1,by omega,by go_num,hzok.out,HB6.out⟩
          case measure=>simp[intOf];omega
        ·have hj1:¬(j:Int)<(L.length:Int):=by omega
         have HBE:=Lib.hid (HBR.out.trans (hnx.mono HBR.out.size))
         obtain⟨_,_,u2,_,_⟩:=HCE.out _ HBE.out
         have HALL:Hid (∀z∈L,Zbcf z.data.toList=true):=by show ∀z∈L,_;have:=HOK.out;rw[List.take_of_length_le (by omega)]at this;exact this
         clear hnx
         by_cases hpos:(0:Int)<(x.outs.length:Int)
         ·have HR:Hid (Zav x):=Lib.hid ⟨by rw[HL.out];exact HALL.out,fun j y hy=>HMS.out j y (List.getElem?_eq_some_iff.1 hy).1 hy,hpos⟩
          go_wp2
          go_ret
          first|exact⟨Zps HR.out,HUP.out _ HBE.out⟩|exact⟨⟨_,rfl,fun _=>HR.out,fun _=>by simpa using hpos⟩,HUP.out _ HBE.out⟩
         ·have HR:Hid (¬Zav x):=Lib.hid fun h=>hpos h.2.2
          go_wp2
          go_ret
          first|exact⟨Zpr HR.out,HUP.out _ HBE.out⟩|exact⟨⟨_,rfl,fun e=>absurd (of_decide_eq_true e) (by simpa using hpos),fun h=>(HR.out h).elim⟩,HUP.out _ HBE.out⟩
    exact AllReadyH.nil
   exact AllReadyH.nil
  exact AllReadyH.nil
 exact AllReadyH.nil
end Go.Proofs.YthkehhphnbckaaaGreatDoor
