import Derived.Shelf.SlicesE.DeleteFunc
import Derived.Test.YtokogjhcidkckaaGreatDoorMao
import Derived.RangeFuncWrites
import Derived.RangeFuncLeaves
import Derived.RangeFuncBox
import Derived.OwnWalkIn
import Derived.OrdersIn
import Derived.RangeFuncNested
import Derived.RangeFuncBound
import Derived.RangeFuncCalls
import Derived.Shelf.Abstract
import Derived.Shelf.RegionOpen
import Derived.WalkKit
import Derived.TacticsInMore
import Derived.LoopNIn
import Derived.LoopIn
import Derived.Maps.AppendAt
import Derived.Shelf.Small.Strs
import Derived.Test.YtokogjhcidkckaaGreatDoorLays
import Derived.Lib.ReplaceLaws
import Derived.Lib.SplitLaws
import Derived.Shelf.Strings.Prefix
import Derived.Laws.MakeOwn
import Derived.StillTailTactics
import Derived.Shelf.Strings.Search3
import Derived.Shelf.Strings.Replace
namespace Go.Proofs.YtokogjhcidkckaaGreatDoor
open Go.Lib (hid)
open Go.Proofs.Tryz
open Go.RowKit Go.Shelf
def Zbkt:Go.Shelf.Ren:=⟨fun|6=>115|8=>132|10=>79|n=>n,fun|0=>0|3=>3|4=>4|22=>47|23=>9|25=>121|n=>n,λn=>n⟩
theorem lSf8:Go.Proofs.SlLaysH.n8 prog Zbkt:={
 mixed:=by kernel_rfl
 f6:=⟨"slices.IndexFunc[[]string,string]",by decide,func115.trans (congrArg some (by kernel_rfl))⟩
 f8:=⟨"slices.ContainsFunc[[]string,string]",by decide,func132.trans (congrArg some (by kernel_rfl))⟩
 t0:=underlying0
 a0:=isAgg0
 z0:=sizeOf0
 v0:=zeroValue0
 t3:=underlying3
 a3:=isAgg3
 z3:=sizeOf3
 v3:=zeroValue3
 t4:=underlying4
 a4:=isAgg4
 z4:=sizeOf4
 v4:=zeroValue4
 t22:=underlying47
 a22:=isAgg47
 z22:=sizeOf47
 v22:=zeroValue47
 a23:=isAgg9
 z23:=sizeOf9
 t25:=underlying121
 a25:=isAgg121
 z25:=sizeOf121
 v25:=zeroValue121 }
theorem Zug (s:ByteArray) (w:World):Calls prog 214 #[.string s] w λe w'=>e = .returned (.bool (decide (100<s.size)))/\w'=w:=by
 go_enter func214,ntmps214
 go_wp2;go_ret;refine⟨?_,rfl⟩
 congr 2
 simp;omega
theorem Zto (op:Int) (w:World):Calls prog 148 #[.int .i64 op] w λe w'=>e = .returned (.bool (decide (1<=op/\op<=9)))/\w'=w:=by
 by_cases h1:1<=op
 ·by_cases h2:op<=9
  ·rw[decide_eq_true (show 1<=op/\op<=9 from⟨h1,h2⟩)]
   go_enter func148,ntmps148
   go_wp2;go_ret;exact⟨rfl,rfl⟩
  ·rw[decide_eq_false (show ¬(1<=op/\op<=9)from λh=>h2 h.2)]
   go_enter func148,ntmps148
   go_wp2;go_ret;exact⟨rfl,rfl⟩
 ·rw[decide_eq_false (show ¬(1<=op/\op<=9)from λh=>h1 h.1)]
  go_enter func148,ntmps148
  go_wp2;go_ret;exact⟨rfl,rfl⟩
def Zdp (x:StepS):Bool:=if x.op=5 then decide (x.args.length<=6)else if x.op=6 then decide (x.args.length=0)else decide (x.args.length=1)
def Zxy (x:StepS):Bool:=if (x.lits.any λl=>decide (100<l.size))=true then false else if x.op=6∨x.op=7 then decide (x.lits.length=1)else if x.op=8 then decide (x.lits.length=2)&&Zox x.lits else decide (x.lits.length=0)
def numB (x:StepS):Bool:=if x.op=9 then decide (0<=x.n)&&decide (x.n<=2000)else decide (x.n=0)
theorem Zzc (x:StepS):(decide (1<=x.op/\x.op<=9)&&Zdp x&&Zxy x&&numB x)=mayB x:=by
 obtain⟨out,op,args,lits,n⟩:=x;unfold mayB Zdp Zxy numB naF nlF;simp only;have hany:(lits.any λl=>decide (100<l.size)) = !(lits.all λl=>decide (l.size<=100)):=by
  rw[List.all_eq_not_any_not,Bool.not_not]
  congr 1
  funext l
  rw[Bool.eq_iff_iff];simp
 rw[hany];obtain⟨q,hq⟩:∃q,(lits.all λl=>decide (l.size<=100))=q:=⟨_,rfl⟩;obtain⟨f,hf⟩:∃f,Zox lits=f:=⟨_,rfl⟩;rw[hq,hf];obtain⟨na,hna⟩:∃na,args.length=na:=⟨_,rfl⟩;obtain⟨nl,hnl⟩:∃nl,lits.length=nl:=⟨_,rfl⟩;rw[hna,hnl];clear hq hf hna hnl hany;rw[Bool.eq_iff_iff]
 cases q
 ·simp
 ·cases f<;>by_cases h5:op=5<;>by_cases h6:op=6<;>by_cases h7:op=7<;>by_cases h8:op=8<;>by_cases h9:op=9<;>first|omega|(simp[h5,h6,h7,h8,h9];try omega)
theorem Zbnk (w:World) (x:StepS) (a1 a2:Option Addr) (c1 c2:Nat) {W:World} (hb:Below (w.heap.size+1) (w.alloc (.cells #[.string x.out,.int .i64 x.op,.slice a1 x.args.length c1,.slice a2 x.lits.length c2,.int .i64 x.n] 60)) W):
  W.cell? ⟨w.heap.size,0,none⟩=some (.string x.out)/\W.cell? ⟨w.heap.size,1,none⟩=some (.int .i64 x.op)/\W.cell? ⟨w.heap.size,2,none⟩=some (.slice a1 x.args.length c1)/\W.cell? ⟨w.heap.size,3,none⟩=some (.slice a2 x.lits.length c2)/\W.cell? ⟨w.heap.size,4,none⟩=some (.int .i64 x.n):=by
 have h:=(hb.block w.heap.size (by omega)).trans (alloc_at w _);obtain⟨d0,d1,d2,d3,d4,_⟩:=cells5 h;exact⟨d0,d1,d2,d3,d4⟩
set_option maxRecDepth 100000
set_option maxHeartbeats 4000000
theorem Zdq (x:StepS) (a1 a2:Option Addr) (c1 c2:Nat) (w:World) (h1:x.args.length<=maxLen):
  Calls prog 149 #[.agg #[.string x.out,.int .i64 x.op,.slice a1 x.args.length c1,.slice a2 x.lits.length c2,.int .i64 x.n]] w λe w'=>e = .returned (.bool (Zdp x))/\Below w.heap.size w w':=by
 obtain⟨d0,d1,d2,d3,d4⟩:=Zbnk w x a1 a2 c1 c2 (Below.refl _ _);have hb:Below w.heap.size w (w.alloc (.cells #[.string x.out,.int .i64 x.op,.slice a1 x.args.length c1,.slice a2 x.lits.length c2,.int .i64 x.n] 60)):=(Below.refl _ _).alloc (Nat.le_refl _) _;have HB:=hid hb;obtain⟨r,hr⟩:∃r,Zdp x=r:=⟨_,rfl⟩;rw[hr];unfold Zdp at hr;obtain⟨out,op,args,lits,n⟩:=x;simp only at d0 d1 d2 d3 d4 hr HB h1⊢;clear hb;unfold maxLen at h1
 by_cases h5:op=5
 ·subst h5
  rw[if_pos rfl]at hr
  go_enter func149,ntmps149
  go_wp2;go_ret;refine⟨congrArg (λb:Bool=>Ending.returned (Value.bool b)) ?_,HB.out⟩;rw[<-hr,Bool.eq_iff_iff];simp only[decide_eq_true_eq];omega
 ·by_cases h6:op=6
  ·subst h6
   rw[if_neg (by decide),if_pos rfl]at hr
   go_enter func149,ntmps149
   go_wp2;go_ret;refine⟨congrArg (λb:Bool=>Ending.returned (Value.bool b)) ?_,HB.out⟩;rw[<-hr,Bool.eq_iff_iff];simp only[beq_iff_eq,decide_eq_true_eq];omega
  ·rw[if_neg h5,if_neg h6]at hr
   go_enter func149,ntmps149
   go_wp2;go_ret;refine⟨congrArg (λb:Bool=>Ending.returned (Value.bool b)) ?_,HB.out⟩;rw[<-hr,Bool.eq_iff_iff];simp only[beq_iff_eq,decide_eq_true_eq];omega
theorem Zbby (x:StepS) (a1 a2:Option Addr) (c1 c2:Nat) (w:World):
  Calls prog 151 #[.agg #[.string x.out,.int .i64 x.op,.slice a1 x.args.length c1,.slice a2 x.lits.length c2,.int .i64 x.n]] w λe w'=>e = .returned (.bool (numB x))/\Below w.heap.size w w':=by
 obtain⟨d0,d1,d2,d3,d4⟩:=Zbnk w x a1 a2 c1 c2 (Below.refl _ _);have hb:Below w.heap.size w (w.alloc (.cells #[.string x.out,.int .i64 x.op,.slice a1 x.args.length c1,.slice a2 x.lits.length c2,.int .i64 x.n] 60)):=(Below.refl _ _).alloc (Nat.le_refl _) _;have HB:=hid hb;obtain⟨r,hr⟩:∃r,numB x=r:=⟨_,rfl⟩;rw[hr];unfold numB at hr;obtain⟨out,op,args,lits,n⟩:=x;simp only at d0 d1 d2 d3 d4 hr HB⊢;clear hb
 by_cases h9:op=9
 ·subst h9
  rw[if_pos rfl]at hr
  by_cases h0:0<=n
  ·by_cases h1:n<=2000
   ·rw[decide_eq_true h0,decide_eq_true h1]at hr
    subst hr
    go_enter func151,ntmps151
    go_wp2;go_ret;exact⟨rfl,HB.out⟩
   ·rw[decide_eq_true h0,decide_eq_false h1]at hr
    subst hr
    go_enter func151,ntmps151
    go_wp2;go_ret;exact⟨rfl,HB.out⟩
  ·rw[decide_eq_false h0,Bool.false_and]at hr
   subst hr
   go_enter func151,ntmps151
   go_wp2;go_ret;exact⟨rfl,HB.out⟩
 ·rw[if_neg h9]at hr
  go_enter func151,ntmps151
  go_wp2;go_ret;refine⟨congrArg (λb:Bool=>Ending.returned (Value.bool b)) ?_,HB.out⟩;rw[<-hr,Bool.eq_iff_iff];simp only[beq_iff_eq,decide_eq_true_eq]
theorem Zkn (v:Value) (xs:List ByteArray) (w:World) (h:IsStrs w v xs):
  Calls prog 132 #[v,.func (.func 214) #[] #[]] w λe w'=>e = .returned (.bool (xs.any λl=>decide (100<l.size)))/\∃q,w'=w.drewN q:=by
 obtain⟨a,c,rfl,h1,h1m,h2⟩:=h
 by_cases he:xs = []
 ·subst he
  have:=AnyE.slices_ContainsFunc_empty lSf8 a c (.func (.func 214) #[] #[]) w;refine Calls.mono this ?_;rintro e w' ⟨rfl,rfl⟩;exact⟨rfl,0,rfl⟩
 ·obtain⟨b,o,rfl,hb,hc⟩:=h2 he
  have hp:PredAt prog 214 #[] Value.string (λl:ByteArray=>decide (100<l.size)) w:=λW x _=>(Zug x W).mono λe w' ⟨h,h'⟩=>⟨h,0,h'⟩
  have:=AnyE.slices_ContainsFunc lSf8 Value.string (λl:ByteArray=>decide (100<l.size)) 214 #[] (enters_of func214 (by kernel_rfl) rfl) b o xs.length c xs w hp (Nat.le_refl _) (by unfold maxLen at h1m;omega) (λj hj=>by rw[getElem!_pos xs j hj];exact hc j _ (List.getElem?_eq_getElem hj));rw[List.take_length]at this;exact this
theorem Zxz (x:StepS) (a1 a2:Option Addr) (c1 c2:Nat) (w:World) (hl:IsStrs w (.slice a2 x.lits.length c2) x.lits):
  Calls prog 150 #[.agg #[.string x.out,.int .i64 x.op,.slice a1 x.args.length c1,.slice a2 x.lits.length c2,.int .i64 x.n]] w λe w'=>e = .returned (.bool (Zxy x))/\Below w.heap.size w w':=by
 obtain⟨d0,d1,d2,d3,d4⟩:=Zbnk w x a1 a2 c1 c2 (Below.refl _ _);have hb:Below w.heap.size w (w.alloc (.cells #[.string x.out,.int .i64 x.op,.slice a1 x.args.length c1,.slice a2 x.lits.length c2,.int .i64 x.n] 60)):=(Below.refl _ _).alloc (Nat.le_refl _) _;obtain⟨r,hr⟩:∃r,Zxy x=r:=⟨_,rfl⟩;rw[hr];unfold Zxy at hr;obtain⟨out,op,args,lits,n⟩:=x;simp only at d0 d1 d2 d3 d4 hr hb hl⊢;obtain⟨aa,cc,e,hlc,hcm,hcells⟩:=Zua hl
 cases e
 obtain⟨W1,hW1⟩:∃W1,w.alloc (.cells #[.string out,.int .i64 op,.slice a1 args.length c1,.slice a2 lits.length c2,.int .i64 n] 60)=W1:=⟨_,rfl⟩;have cL:=Zkn _ lits W1 (by rw[<-hW1];exact hl.below hb);rw[hW1]at d0 d1 d2 d3 d4 hb;have HB:=hid hb;have HC:=hid hcells;have HW1:=hid hW1;unfold maxLen at hcm;clear hb hcells hW1 hl;obtain⟨g,hg⟩:∃g,(lits.any λl=>decide (100<l.size))=g:=⟨_,rfl⟩;rw[hg]at cL hr;clear hg
 go_enter func150,ntmps150
 go_wp2_with fail
 rw[HW1.out]
 go_wp2_with fail
 refine cL.mono ?_;rintro e w2 ⟨rfl,q,rfl⟩;have HB2:Hid (Below w.heap.size w (W1.drewN q)):=hid (below_drewN HB.out q);obtain⟨W2,hW2⟩:∃W2,W1.drewN q=W2:=⟨_,rfl⟩;replace d1:W2.cell? ⟨w.heap.size,1,none⟩=some (.int .i64 op):=by rw[<-hW2];exact d1
 replace d3:W2.cell? ⟨w.heap.size,3,none⟩=some (.slice a2 lits.length c2):=by rw[<-hW2];exact d3
 rw[hW2]at HB2⊢;clear d0 d2 d4 cL HW1 HB hW2
 cases g
 ·rw[if_neg (by decide)]at hr
  by_cases h67:op=6∨op=7
  ·rw[if_pos h67]at hr
   rcases h67 with rfl|rfl
   ·go_wp2
    go_ret;refine⟨congrArg (λb:Bool=>Ending.returned (Value.bool b)) ?_,HB2.out⟩;rw[<-hr,Bool.eq_iff_iff];simp only[beq_iff_eq,decide_eq_true_eq];omega
   ·go_wp2
    go_ret;refine⟨congrArg (λb:Bool=>Ending.returned (Value.bool b)) ?_,HB2.out⟩;rw[<-hr,Bool.eq_iff_iff];simp only[beq_iff_eq,decide_eq_true_eq];omega
  ·rw[if_neg h67]at hr
   have n6:¬op=6:=λe=>h67 (.inl e)
   have n7:¬op=7:=λe=>h67 (.inr e)
   by_cases h8:op=8
   ·subst h8
    rw[if_pos rfl]at hr
    by_cases h2:lits.length=2
    ·obtain⟨y,hy⟩:∃y,lits[0]? =some y:=⟨lits[0],List.getElem?_eq_getElem (by omega)⟩
     obtain⟨b,o,hab,hc⟩:=HC.out 0 y hy;have hcy:=hc _ HB2.out;subst hab;have hfo:Zox lits = !(y.toList==([]:List UInt8)):=by
      cases lits with
      | nil=>simp at hy
      | cons z l=>
       obtain rfl:z=y:=by simpa using hy
       rfl
     rw[hfo,h2]at hr;rw[h2]at d3;simp only[Nat.add_zero]at hcy;clear hc hy hfo;go_wp2;go_ret;refine⟨congrArg (λb:Bool=>Ending.returned (Value.bool b)) ?_,HB2.out⟩;rw[<-hr];simp
    ·rw[decide_eq_false h2,Bool.false_and]at hr
     subst hr;have hn2:¬(lits.length:Int)=2:=by omega
     go_wp2;go_ret;exact⟨rfl,HB2.out⟩
   ·rw[if_neg h8]at hr
    go_wp2;go_ret;refine⟨congrArg (λb:Bool=>Ending.returned (Value.bool b)) ?_,HB2.out⟩;rw[<-hr,Bool.eq_iff_iff];simp only[beq_iff_eq,decide_eq_true_eq];omega
 ·rw[if_pos rfl]at hr
  subst hr;go_wp2;go_ret;exact⟨rfl,HB2.out⟩
theorem Zbnr (x:StepS) (a1 a2:Option Addr) (c1 c2:Nat) (w:World) (ha:IsStrs w (.slice a1 x.args.length c1) x.args) (hl:IsStrs w (.slice a2 x.lits.length c2) x.lits):
  Calls prog 108 #[.agg #[.string x.out,.int .i64 x.op,.slice a1 x.args.length c1,.slice a2 x.lits.length c2,.int .i64 x.n]] w λe w'=>e = .returned (.bool (mayB x))/\Below w.heap.size w w':=by
 have hb:Below w.heap.size w (w.alloc (.cells #[.string x.out,.int .i64 x.op,.slice a1 x.args.length c1,.slice a2 x.lits.length c2,.int .i64 x.n] 60)):=(Below.refl _ _).alloc (Nat.le_refl _) _;have hD:=λW (h:Below (w.heap.size+1) (w.alloc (.cells #[.string x.out,.int .i64 x.op,.slice a1 x.args.length c1,.slice a2 x.lits.length c2,.int .i64 x.n] 60)) W)=>Zbnk w x a1 a2 c1 c2 h
 have hm:x.args.length<=maxLen:=by obtain⟨_,_,e,h1,h2,_⟩:=ha;cases e;omega
 rw[<-Zzc x];have q1:=λW=>Zto x.op W
 have q2:=λW=>Zdq x a1 a2 c1 c2 W hm
 have q4:=λW=>Zbby x a1 a2 c1 c2 W
 obtain⟨W1,hW1⟩:∃W1,w.alloc (.cells #[.string x.out,.int .i64 x.op,.slice a1 x.args.length c1,.slice a2 x.lits.length c2,.int .i64 x.n] 60)=W1:=⟨_,rfl⟩;have hs1:W1.heap.size=w.heap.size+1:=by rw[<-hW1];simp
 rw[hW1]at hb hD;rw[<-hs1]at hD;have q3:=λW (h:Below W1.heap.size W1 W)=>Zxz x a1 a2 c1 c2 W (hl.below (hb.trans (h.mono (by omega))))
 obtain⟨b1,h1⟩:∃b,decide (1<=x.op/\x.op<=9)=b:=⟨_,rfl⟩;obtain⟨b2,h2⟩:∃b,Zdp x=b:=⟨_,rfl⟩;obtain⟨b3,h3⟩:∃b,Zxy x=b:=⟨_,rfl⟩;obtain⟨b4,h4⟩:∃b,numB x=b:=⟨_,rfl⟩;rw[h1]at q1;rw[h2]at q2;rw[h3]at q3;rw[h4]at q4;rw[h1,h2,h3,h4];obtain⟨out,op,args,lits,n⟩:=x;simp only at q1 q2 q3 q4 hD hb hW1⊢;have Q2:=hid q2;have Q3:=hid q3;have Q4:=hid q4;have HB:=hid hb;have HD:=hid hD;have HW:=hid hW1;have HS:=hid hs1;clear q2 q3 q4 hb hD hW1 h1 h2 h3 h4 ha hl hm hs1
 go_enter func108,ntmps108
 go_wp2_with fail
 rw[HW.out];have R1:Hid (Below W1.heap.size W1 W1):=hid (Below.refl _ _);obtain⟨d0,d1,d2,d3,d4⟩:=HD.out W1 R1.out
 cases b1
 ·go_wp2_with (go_at_call 148;refine(q1 _).mono ?_;rintro e w2 ⟨rfl,rfl⟩)
  go_ret;exact⟨rfl,HB.out⟩
 cases b2
 ·go_wp2_with (first
   | (go_at_call 148;refine(q1 _).mono ?_;rintro e w2 ⟨rfl,rfl⟩)
   | (go_at_call 149;refine(Q2.out _).mono ?_;rintro e w3 ⟨rfl,hb3⟩;have HB3:=hid hb3;clear hb3))
  go_ret;exact⟨rfl,HB.out.trans (HB3.out.mono HB.out.size)⟩
 cases b3
 ·go_wp2_with (first
   | (go_at_call 148;refine(q1 _).mono ?_;rintro e w2 ⟨rfl,rfl⟩)
   | (go_at_call 149;refine(Q2.out _).mono ?_;rintro e w3 ⟨rfl,hb3⟩;have HB3:=hid hb3;obtain⟨d0,d1,d2,d3,d4⟩:=HD.out _ HB3.out;clear hb3)
   | (go_at_call 150;refine(Q3.out _ HB3.out).mono ?_;rintro e w4 ⟨rfl,hb4⟩;have HB4:=hid (HB3.out.trans (hb4.mono HB3.out.size));clear hb4))
  go_ret;exact⟨rfl,HB.out.trans (HB4.out.mono HB.out.size)⟩
 ·go_wp2_with (first
   | (go_at_call 148;refine(q1 _).mono ?_;rintro e w2 ⟨rfl,rfl⟩)
   | (go_at_call 149;refine(Q2.out _).mono ?_;rintro e w3 ⟨rfl,hb3⟩;have HB3:=hid hb3;obtain⟨d0,d1,d2,d3,d4⟩:=HD.out _ HB3.out;clear hb3)
   | (go_at_call 150;refine(Q3.out _ HB3.out).mono ?_;rintro e w4 ⟨rfl,hb4⟩;have HB4:=hid (HB3.out.trans (hb4.mono HB3.out.size));obtain⟨d0,d1,d2,d3,d4⟩:=HD.out _ HB4.out;clear hb4)
   | (go_at_call 151;refine(Q4.out _).mono ?_;rintro e w5 ⟨rfl,hb5⟩;have HB5:=hid (HB4.out.trans (hb5.mono HB4.out.size));clear hb5))
  go_ret;refine⟨?_,HB.out.trans (HB5.out.mono HB.out.size)⟩;simp only[Bool.true_and];rfl
open Go.Maps
def inS (L:List ByteArray) (k:ByteArray):Bool:=L.any λx=>decide (x=k)
theorem Zsj {L:List ByteArray} {k:ByteArray}:inS L k=true↔k∈L:=by
 unfold inS;rw[List.any_eq_true];constructor
 ·rintro⟨x,hx,e⟩;rw[<-of_decide_eq_true e];exact hx
 ·exact λh=>⟨k,h,by simp⟩
def insS (L:List ByteArray) (k:ByteArray):List ByteArray:=if inS L k=true then L else L ++ [k]
def addS (L:List ByteArray) (ks:List ByteArray):List ByteArray:=ks.foldl insS L
theorem Ztc {L:List ByteArray} {k a:ByteArray}:a∈insS L k↔a∈L∨a=k:=by
 unfold insS;split
 ·rename_i h
  have h:=Zsj.1 h;constructor
  ·exact .inl
  ·rintro(h'|rfl)
   ·exact h'
   ·exact h
 ·simp
theorem Ztb (L:List ByteArray) (k:ByteArray):(insS L k).length<=L.length+1:=by unfold insS;split<;>simp
theorem Zcp {ks L:List ByteArray} {a:ByteArray}:a∈addS L ks↔a∈L∨a∈ks:=by
 unfold addS
 induction ks generalizing L with
 | nil=>simp
 | cons k ks ih=>rw[List.foldl_cons,ih,Ztc,List.mem_cons,or_assoc]
theorem Zco (ks L:List ByteArray):(addS L ks).length<=L.length+ks.length:=by
 unfold addS
 induction ks generalizing L with
 | nil=>simp
 | cons k ks ih=>rw[List.foldl_cons,List.length_cons];have:=ih (insS L k);have:=Ztb L k;omega
theorem Zcq {ks:List ByteArray} (L:List ByteArray) {i:Nat} {k:ByteArray} (h:ks[i]? =some k):addS L (ks.take (i+1))=insS (addS L (ks.take i)) k:=by
 unfold addS;rw[List.take_add_one,h,List.foldl_append];rfl
def SetIs (w:World) (b:Nat) (L:List ByteArray):Prop:=∃m,MapIs prog 9 w b m/\(∀k,hasM m k=inS L k)/\(∀k,getM m k (.agg #[]) = .agg #[])/\m.length=L.length
theorem SetIs.lt {w:World} {b:Nat} {L:List ByteArray} (h:SetIs w b L):b<w.heap.size:=by obtain⟨m,h1,_⟩:=h;exact h1.lt
theorem SetIs.heap {w w':World} {b:Nat} {L:List ByteArray} (h:SetIs w b L) (hb:w'.heap[b]? =w.heap[b]?):SetIs w' b L:=by
 obtain⟨m,h1,r⟩:=h;exact⟨m,h1.heap hb,r⟩
theorem SetIs.below {B:Nat} {w w':World} {b:Nat} {L:List ByteArray} (h:SetIs w b L) (hb:Below B w w') (hlt:b<B):SetIs w' b L:=h.heap (hb.block b hlt)
theorem Zbkr (w:World):SetIs (w.alloc (.map #[] 0)) w.heap.size []:=⟨[],Zyj w _ _,λ_=>rfl,λ_=>rfl,rfl⟩
theorem SetIs.put {w:World} {b:Nat} {L:List ByteArray} {t e:TypeId} (h:SetIs w b L) (ht:prog.underlying t=some (.map 9 e)) (hn:L.length<=4000000000000000) (k:ByteArray) (hs:k.size<=maxLen):
  ∃w',(Instr.mapUpdate t (.map (some b)) (.string k) (.agg #[])).run prog w = .ok () w'/\SetIs w' b (insS L k)/\w.mapTurned w' b:=by
 obtain⟨m,h1,h2,h3,h4⟩:=h;obtain⟨w',r,hm,ht'⟩:=h1.put underlying9 ht (by unfold maxLen;omega) k hs (.agg #[]);refine⟨w',r,⟨_,hm,λk'=>?_,λk'=>?_,?_⟩,ht'⟩
 ·rw[Zrm,h2,Bool.eq_iff_iff]
  simp only[Bool.or_eq_true,decide_eq_true_eq,Zsj,Ztc];constructor
  ·rintro(rfl|h)
   ·exact .inr rfl
   ·exact .inl h
  ·rintro(h|rfl)
   ·exact .inr h
   ·exact .inl rfl
 ·by_cases hk:k=k'
  ·subst hk;exact Zqj _ _ _ _
  ·rw[Zqi _ _ _ hk];exact h3 k'
 ·obtain⟨D,_,_,_,_,hK⟩:=h1
  rw[Zbfq hK,h2];unfold insS
  by_cases hk:inS L k=true
  ·simp[hk,h4]
  ·simp[hk,h4]
theorem SetIs.look {w:World} {b:Nat} {L:List ByteArray} {t e:TypeId} (h:SetIs w b L) (ht:prog.underlying t=some (.map 9 e)) (hz:(zeroValue e).run prog w = .ok (.agg #[]) w) (k:ByteArray) (hs:k.size<=maxLen):
  (Instr.lookup t (.map (some b)) (.string k) true).run prog w = .ok (.tuple #[.agg #[],.bool (inS L k)]) w:=by
 obtain⟨m,h1,h2,h3,h4⟩:=h;rw[h1.look_ok underlying9 ht hz k hs,h2,h3]
theorem SetIs.len {w:World} {b:Nat} {L:List ByteArray} {t e:TypeId} (h:SetIs w b L) (ht:prog.underlying t=some (.map 9 e)) (ty:TypeId):(Builtin.len_ #[t] ty #[.map (some b)]).run prog w = .ok (.int .i64 (L.length:Int)) w:=by
 obtain⟨m,h1,_,_,h4⟩:=h;rw[h1.len ht ty,h4]
theorem Zrh (a:World) (row:Option Nat):a.grownBy a row:=⟨rfl,rfl,rfl,Nat.le_refl _,λ_ _ _=>rfl⟩
variable {F:Fence} {n:Nat} {P:Program}
def Zbw {α:Type} (F:Fence) (n:Nat) (P:Program) (g:Nat) (lb:Array Value) (encs:α->Array Value) (R Kp:World->World->Prop) (xs:List α) (w:World):Prop:=
 ∀(l:Nat) (J:List α->World->Prop) (W:World),Below w.heap.size w W->(∀s A B,J s A->R A B->J s B)->
  (∀(pre:List α) (x:α) (post:List α) (W1:World),xs=pre++x::post->J pre W1->YieldAt F (n-1) P l (encs x) W1 λe W'=>e = .returned (.bool true)/\J (pre ++ [x]) W'/\Kp W1 W')->
  J [] W->CallsIn F n P g (#[.func (.yield l) #[] #[]]++lb) W λe W'=>(∃v,e = .returned v)/\J xs W'
def Zqs (B:Nat) (Kp:World->World->Prop) (I:World->Prop) (W:World):Exit->Act->World->Prop
 | .normal,_,W'=>KeepsFrom B W W'/\Kp W W'/\I W'
 | _,_,_=>False
theorem KeepsFrom.at {B l:Nat} {o:Obj} {W W':World} (h:KeepsFrom B W W') (hB:B<=l) (hl:W.heap[l]? =some o) (ho:o.isCells=false):W'.heap[l]? =some o:=h.same l o hB hl ho
theorem Zbuc {α:Type} {g:Operand} {ps:Array Tmp} {assign body:Code} {Q:Exit->Act->World->Prop} {a:Act} {w:World}
  (hro:F.round=none) (h1:1<=n) {gf:Nat} {lb:Array Value} (hg:a.eval g = .func (.func gf) #[] lb) (hFg:F.fn gf) (eg:∀args w,(callFunc gf args).run P w = .ok (.enter gf args) w)
  {encs:α->Array Value} {R Kp:World->World->Prop} {xs:List α} {w0:World} (hseq:Zbw F (n-1) P gf lb encs R Kp xs w0) (hb0:Below w0.heap.size w0 w) (hps:∀x,(encs x).size=ps.size)
  (hR:∀A B,R A B->KeepsOthers A B) (hKt:∀A B C,Kp A B->Kp B C->Kp A C)
  (hKb:∀(W:World) (l:Nat) (o o':Obj),w.heap.size<=l->W.heap[l]? =some o->o.isCells=false->o.isWalk=false->Kp W (W.putObj l o'))
  (I:List α->World->Prop) (hIR:∀s A B,I s A->R A B->I s B) (hI:OwnFrom w.heap.size I) (h0:I [] w) (Ax:α->Act->World->Prop)
  (hAx:∀(x:α) (a':Act) (W:World) (l:Nat) (o o':Obj),Ax x a' W->w.heap.size<=l->W.heap[l]? =some o->o.isCells=false->Ax x a' (W.putObj l o'))
  (hassign:∀(l:Nat) (pre:List α) (x:α) (post:List α) (W:World) (K:Act->World->Prop),xs=pre++x::post->I pre W->(∀(a':Act) (W':World),KeepsFrom w.heap.size W W'->Kp W W'->I pre W'->Ax x a' W'->K a' W')->
   assign.wpIn (F.inRound l) (n-1-1) P (Exit.then K (λ_ _ _=>False)) { tmps:=(ps.zip (encs x)).foldl (λt (p,v)=>t.setIfInBounds p v) a.tmps,defers:=[] } W)
  (hbody:∀(l:Nat) (pre:List α) (x:α) (post:List α) (a':Act) (W:World),xs=pre++x::post->I pre W->Ax x a' W->body.wpIn (F.inRound l) (n-1-1) P (Zqs w.heap.size Kp (I (pre ++ [x])) W) a' W)
  (hdone:∀(D:Nat) (W:World),w.heap.size<=D->I xs W->W.heap[D]? =some (.deferred (some []))->Q .normal { a with defers:={ target:= .collected D,args:=#[] } ::a.defers } W):
  (Code.rangeFunc g ps assign body).wpIn F n P Q a w:=by
 refine wpIn_rangeFunc λfn hfn=>?_
 rw[hro]
 let D:=w.heap.size
 let L:=w.heap.size+1
 let rec':LoopState->Loop:=λst=>{ state:=st,pending:=none,fn,tmps:=a.tmps,params:=ps,assign,body,defers:=D }
 obtain⟨V,hV⟩:∃V,(w.alloc (.deferred (some []))).alloc (.loop (rec' .ready))=V:=⟨_,rfl⟩;have hVL:V.heap[L]? =some (.loop (rec' .ready)):=by
  have:=World.alloc_heap_new (w.alloc (.deferred (some []))) (.loop (rec' .ready));rw[World.size_alloc]at this;rw[<-hV];exact this
 have hVD:V.heap[D]? =some (.deferred (some [])):=by
  rw[<-hV];exact(Below.heap_alloc _ _ _ (by simp[D])).trans (World.alloc_heap_new w _)
 have hVI:I [] V:=by rw[<-hV];exact hI.alloc _ (hI.alloc _ h0)
 have hVb:Below w0.heap.size w0 V:=by
  rw[<-hV];exact hb0.trans ((((Below.refl _ w).alloc (Nat.le_refl _) _).alloc (by simp) _).mono hb0.size)
 have hput:∀ {s:List α} {W:World} {o o':Obj},I s W->W.heap[L]? =some o->o.isCells=false->I s (W.putObj L o'):=λhi hl ho=>hI.putObj _ hi (by simp[L]) hl ho
 refine⟨L,[{ target:= .collected D,args:=#[] }],V,{ target:= .fn (.func gf) lb,args:=#[.func (.yield L) #[] #[]] },V,gf,#[.func (.yield L) #[] #[]]++lb,V,?_,?_,?_,?_,λ_=>h1,?_⟩
 ·rw[<-hV];exact run_enterLoop_outer _ _ _ _ _
 ·simp only[resolve,hg]
  simp[go_sem]
 ·intro f' hf';simp[Target.leads]at hf';subst hf';exact hFg
 ·simp[invoke,go_sem,eg]
 refine(hseq L (λs W=>I s W/\W.heap[L]? =some (.loop (rec' .ready))/\W.heap[D]? =some (.deferred (some []))) V hVb ?_ ?_ ⟨hVI,hVL,hVD⟩).mono ?_
 ·rintro s A B ⟨hi,hl,hd⟩ hr
  exact⟨hIR s A B hi hr,(hR A B hr).same _ _ hl rfl,(hR A B hr).same _ _ hd rfl⟩
 ·rintro pre x post W0 hx ⟨hi0,hl0,hd0⟩
  refine⟨fn,_,assign,body,run_yield hl0 (hps x),roundIn_of_wpIn hfn (hassign L pre x post W0 _ hx hi0 λa' W hkA hkpA hi hax=>?_)⟩;have hl:=KeepsFrom.at hkA (by simp[L]) hl0 rfl;have hd:=KeepsFrom.at hkA (by simp[D]) hd0 rfl;have hlt:L<W.heap.size:=(Array.getElem?_eq_some_iff.1 hl).1;obtain⟨U,hU⟩:∃U,W.putObj L (.loop (rec' .busy))=U:=⟨_,rfl⟩;have hUL:U.heap[L]? =some (.loop (rec' .busy)):=by rw[<-hU];exact World.putObj_heap_same hlt
  have hUD:U.heap[D]? =some (.deferred (some [])):=by rw[<-hU];exact(World.putObj_heap_other (by simp[L,D])).trans hd
  have hUI:I pre U:=by rw[<-hU];exact hput hi hl rfl
  have hUA:Ax x a' U:=by rw[<-hU];exact hAx _ _ _ _ _ _ hax (by simp[L]) hl rfl
  have hUK:Kp W0 U:=by rw[<-hU];exact hKt _ _ _ hkpA (hKb _ _ _ _ (by simp[L]) hl rfl rfl)
  refine⟨U,by rw[<-hU];exact run_beginRound hl rfl,wpIn_mono (hbody L pre x post a' U hx hUI hUA) ?_⟩;rintro e a3 W3 hp
  cases e with
  | normal=>
   obtain⟨hk,hkp,hi3⟩:=hp;have h3L:=KeepsFrom.at hk (by simp[L]) hUL rfl;have h3D:=KeepsFrom.at hk (by simp[D]) hUD rfl;exact⟨_,_,run_endRound none h3L,rfl,⟨hput hi3 h3L rfl,World.putObj_heap_same (Array.getElem?_eq_some_iff.1 h3L).1,(World.putObj_heap_other (by simp[L,D])).trans h3D⟩,hKt _ _ _ (hKt _ _ _ hUK hkp) (hKb _ _ _ _ (by simp[L]) h3L rfl rfl)⟩
  | ret=>exact hp.elim
  | exit id=>exact hp.elim
  | goto t=>exact hp.elim
  | panic ch=>exact hp.elim
  | outgrown=>exact hp.elim
 ·rintro e W2 ⟨⟨v,rfl⟩,hi,hl,hd⟩
  exact⟨none,_,run_endLoop hl (by simp[rec']),hdone D _ (Nat.le_refl _) (hput hi hl rfl) ((World.putObj_heap_other (by simp[L,D])).trans hd)⟩
theorem Zgj {W w1:World} {n₀ B:Nat} {t e:TypeId} {size:Nat} {v v':Value} {k m:Nat} {xs ys:List Value} {tmp:Obj}
  (hv:Boxed W B t v) (hrow:W.ownsRow n₀ e size v k xs) (hB:B<n₀) (hn:n₀<=W.heap.size) (hown:w1.ownsRow n₀ e size v' m ys) (hg:(W.alloc tmp).grownBy w1 v.ownBlock):
  Boxed w1 B t v/\Boxed (w1.setCell ⟨B,0,none⟩ v') B t v'/\(w1.setCell ⟨B,0,none⟩ v').ownsRow n₀ e size v' m ys/\KeepsOthers W (w1.setCell ⟨B,0,none⟩ v')/\Below B W (w1.setCell ⟨B,0,none⟩ v')/\
   ∀j,j<n₀->j≠B->(w1.setCell ⟨B,0,none⟩ v').heap[j]? =W.heap[j]?:=by
 have far:∀ {X:World} {u:Value} {i:Nat} {zs:List Value},X.ownsRow n₀ e size u i zs->∀j,u.ownBlock=some j->n₀<=j:=by
  intro X u i zs h j hj
  rcases h.2 with⟨rfl,_⟩|⟨g,cap,cur,rfl,hb,_⟩
  ·simp[Value.ownBlock]at hj
  ·obtain rfl:g=j:=by simpa[Value.ownBlock]using hj
   exact hb
 have hv1:Boxed w1 B t v:=(hv.alloc tmp).kept hg λe'=>by have:=far hrow B e'.symm;omega
 have hsame:∀j,j<n₀->w1.heap[j]? =W.heap[j]?:=λj hj=>(hg.block j (by simp;omega) λe'=>by have:=far hrow j e'.symm;omega).trans (Below.heap_alloc W tmp j (by omega))
 refine⟨hv1,hv1.set v',hown.kept (grownBy_setCell' w1 B v') ?_,?_,?_,λj hj hjB=>(Below.heap_setCell w1 _ _ j hjB).trans (hsame j hj)⟩
 ·cases ho:v'.ownBlock with
  | none=>exact .inl rfl
  | some j=>exact .inr λe'=>by have:=far hown j ho;simp at e';omega
 ·refine((KeepsOthers.alloc W tmp).trans (KeepsOthers.of_grownBy hg λj o ej hj=>?_)).trans (KeepsOthers.setCell _ _ _)
  rcases(hrow.alloc tmp).2 with⟨rfl,_⟩|⟨g,cap,cur,rfl,_,hgb,_⟩
  ·simp[Value.ownBlock]at ej
  ·obtain rfl:g=j:=by simpa[Value.ownBlock]using ej
   rw[hgb]at hj;cases hj;rfl
 ·exact(((Below.refl B W).alloc (by omega) tmp).grown hg (by simp;omega) λj ej=>by have:=far hrow j ej;omega).setCell (p:=⟨B,0,none⟩) (Nat.le_refl _) v'
end Go.Proofs.YtokogjhcidkckaaGreatDoor
namespace Go.Proofs.YtokogjhcidkckaaGreatDoor
open Go.Lib (hid)
open Go.Proofs.Tryz
open Go.RowKit Go.Shelf
structure Rs (sb:Nat) (A B:World):Prop where
 os:B.os=A.os
 tape:B.tape=A.tape
 output:B.output=A.output
 size:B.heap.size=A.heap.size
 same:∀k,k≠sb->B.heap[k]? =A.heap[k]?
 kind:∀o,A.heap[sb]? =some o->o.isCells=false->B.heap[sb]? =some o
theorem Rs.below {n₀ sb:Nat} {W A B:World} (h:Rs sb A B) (hb:Below n₀ W A) (hs:n₀<=sb):Below n₀ W B:=
 ⟨h.os.trans hb.os,h.tape.trans hb.tape,h.output.trans hb.output,by rw[h.size];exact hb.size,λk hk=>(h.same k (by omega)).trans (hb.block k hk)⟩
section
attribute [local go_sem] Oper.semAt_some
set_option maxRecDepth 100000
set_option maxHeartbeats 4000000
end
end Go.Proofs.YtokogjhcidkckaaGreatDoor
namespace Go.Proofs.YtokogjhcidkckaaGreatDoor
open Go.Lib (hid)
open Go.Proofs.Tryz
open Go.RowKit Go.Shelf
def valE (v:ValT):Value:= .agg #[.bool v.1,.string v.2]
set_option maxHeartbeats 4000000
set_option maxRecDepth 100000
set_option maxHeartbeats 4000000
set_option maxRecDepth 100000
theorem Zsr:(prog.info? 9).map (λi=>(i.zero,i.size,i.bytes))=some (some (.string ⟨#[]⟩),1,16):=by kernel_rfl
open Go.Sort
set_option maxHeartbeats 4000000
set_option maxRecDepth 100000
structure ChgB (w:World) (x:StepS) (a1 a2:Option Addr) (c1 c2:Nat) (W1:World):Prop where
 size:W1.heap.size=w.heap.size+1+1
 below:Below w.heap.size w W1
 cells:∀W,Below W1.heap.size W1 W->W.cell? ⟨w.heap.size,0,none⟩=some (.string x.out)/\W.cell? ⟨w.heap.size,1,none⟩=some (.int .i64 x.op)/\W.cell? ⟨w.heap.size,2,none⟩=some (.slice a1 x.args.length c1)/\W.cell? ⟨w.heap.size,3,none⟩=some (.slice a2 x.lits.length c2)/\W.cell? ⟨w.heap.size,4,none⟩=some (.int .i64 x.n)
 res:∀W,Below W1.heap.size W1 W->W.heap[w.heap.size+1]? =some (.cells #[.bool false,.string ⟨#[]⟩] 143)
theorem ChgB.val {w:World} {x:StepS} {a1 a2:Option Addr} {c1 c2:Nat} {W1:World} (h:ChgB w x a1 a2 c1 c2 W1) {W:World} (hb:Below W1.heap.size W1 W):W.cell? ⟨w.heap.size+1,0,none⟩=some (.bool false)/\W.cell? ⟨w.heap.size+1,1,none⟩=some (.string ⟨#[]⟩)/\W.frozen? ⟨w.heap.size+1,0,none⟩=false/\W.frozen? ⟨w.heap.size+1,1,none⟩=false:=Zih (h.res W hb)
open Go.Maps
def EnvIs (w:World) (b n:Nat) (e:ByteArray->ValT):Prop:=∃m,MapIs prog 9 w b m/\(∀k,getM m k (valE noV)=valE (e k))/\m.length<=n
theorem EnvIs.below {B b n:Nat} {w w':World} {e:ByteArray->ValT} (h:EnvIs w b n e) (hb:Below B w w') (hlt:b<B):EnvIs w' b n e:=by
 obtain⟨m,h1,h2,h3⟩:=h;exact⟨m,h1.below hb hlt,h2,h3⟩
theorem EnvIs.heap {b n:Nat} {w w':World} {e:ByteArray->ValT} (h:EnvIs w b n e) (hb:w'.heap[b]? =w.heap[b]?):EnvIs w' b n e:=by
 obtain⟨m,h1,h2,h3⟩:=h;exact⟨m,h1.heap hb,h2,h3⟩
theorem EnvIs.lt {b n:Nat} {w:World} {e:ByteArray->ValT} (h:EnvIs w b n e):b<w.heap.size:=by obtain⟨m,h1,_⟩:=h;exact h1.lt
theorem EnvIs.put {b n:Nat} {w:World} {e:ByteArray->ValT} (h:EnvIs w b n e) (hn:n<=1000000000) (k:ByteArray) (hs:k.size<=maxLen) (v:ValT):
  ∃w',(Instr.mapUpdate 182 (.map (some b)) (.string k) (valE v)).run prog w = .ok () w'/\EnvIs w' b (n+1) (setE e k v)/\w.mapTurned w' b:=by
 obtain⟨m,h1,h2,h3⟩:=h;obtain⟨w',r,hm,ht⟩:=h1.put underlying9 underlying182 (by unfold maxLen;omega) k hs (valE v);refine⟨w',r,⟨_,hm,λk'=>?_,?_⟩,ht⟩
 ·unfold setE
  by_cases hk:k'=k
  ·subst hk;rw[if_pos rfl,Zqj]
  ·rw[if_neg hk,Zqi _ _ _ (λe=>hk e.symm)];exact h2 k'
 ·obtain⟨D,_,_,_,_,hK⟩:=h1
  rw[Zbfq hK];split<;>omega
theorem Zbux (w:World):(zeroValue 143).run prog w = .ok (.agg #[.bool false,.string ⟨#[]⟩]) w:=zeroValue143 w
theorem EnvIs.look {b n:Nat} {w:World} {e:ByteArray->ValT} (h:EnvIs w b n e) (k:ByteArray) (hs:k.size<=maxLen):
  (Instr.lookup 182 (.map (some b)) (.string k) false).run prog w = .ok (valE (e k)) w:=by
 obtain⟨m,h1,h2,_⟩:=h;rw[<-h2 k];exact h1.look underlying9 underlying182 (Zbux w) k hs
set_option maxHeartbeats 4000000
set_option maxRecDepth 100000
def ValRow (w:World) (g:Nat) (vs:List ValT):Prop:=∃cur,w.heap[g]? =some (.cells cur 143 (0,0))/\cur.size=vs.length*2/\∀(j:Nat) x,vs[j]? =some x->cur[j*2]? =some (.bool x.1)/\cur[j*2+1]? =some (.string x.2)
theorem ValRow.heap {w w':World} {g:Nat} {vs:List ValT} (h:ValRow w g vs) (hb:w'.heap[g]? =w.heap[g]?):ValRow w' g vs:=by
 obtain⟨cur,hg,r⟩:=h;exact⟨cur,hb.trans hg,r⟩
theorem ValRow.cells {w:World} {g:Nat} {vs:List ValT} (h:ValRow w g vs) {j:Nat} {x:ValT} (hx:vs[j]? =some x):w.cell? ⟨g,j*2,none⟩=some (.bool x.1)/\w.cell? ⟨g,j*2+1,none⟩=some (.string x.2)/\w.frozen? ⟨g,j*2,none⟩=false/\w.frozen? ⟨g,j*2+1,none⟩=false:=by
 obtain⟨cur,hg,hs,hc⟩:=h;obtain⟨h1,h2⟩:=hc j x hx;refine⟨?_,?_,?_,?_⟩
 ·simp only[World.cell?,hg,Option.isSome_none,Bool.false_eq_true,if_false];exact h1
 ·simp only[World.cell?,hg,Option.isSome_none,Bool.false_eq_true,if_false];exact h2
 ·simp[World.frozen?,hg]
 ·simp[World.frozen?,hg]
theorem ValRow.set {w:World} {g:Nat} {vs:List ValT} (h:ValRow w g vs) (k:Nat) (u:ValT) (hk:k<vs.length):ValRow ((w.setCell ⟨g,k*2,none⟩ (.bool u.1)).setCell ⟨g,k*2+1,none⟩ (.string u.2)) g (vs.set k u):=by
 obtain⟨cur,hg,hs,hc⟩:=h;refine⟨_,heap_set _ _ (heap_set _ _ hg),by simp[hs],λj x hx=>?_⟩;rw[List.getElem?_set]at hx
 by_cases hj:k=j
 ·subst hj
  rw[if_pos rfl,if_pos hk]at hx;obtain rfl:=Option.some.inj hx;constructor
  ·rw[Array.getElem?_setIfInBounds_ne (by omega),Array.getElem?_setIfInBounds_self_of_lt (by rw[hs];omega)]
  ·rw[Array.getElem?_setIfInBounds_self_of_lt (by simp[hs];omega)]
 ·rw[if_neg hj]at hx
  obtain⟨h1,h2⟩:=hc j x hx;constructor
  ·rw[Array.getElem?_setIfInBounds_ne (by omega),Array.getElem?_setIfInBounds_ne (by omega)];exact h1
  ·rw[Array.getElem?_setIfInBounds_ne (by omega),Array.getElem?_setIfInBounds_ne (by omega)];exact h2
set_option maxHeartbeats 4000000
set_option maxRecDepth 100000
theorem Ztz {w:World} {a:Option Addr} {n c:Nat} {xs:List ByteArray} (h:IsStrs w (.slice a n c) xs):xs≠[]->∃b o,a=some ⟨b,o,none⟩/\b<w.heap.size/\True:=by
 obtain⟨a',c',e,_,_,h⟩:=h;intro hne;obtain⟨b,o,e2,hb,_⟩:=h hne;exact⟨b,o,(Value.slice.inj e).1.trans e2,hb,trivial⟩
def IdxPost (n:Nat) (p:Nat->Bool) (J:Nat->World->Prop) (e:Ending) (w':World):Prop:=∃k,k<=n/\(∀j,j<k->p j=false)/\((k=n/\e = .returned (.int .i64 (-1))/\J n w')∨(k<n/\p k=true/\e = .returned (.int .i64 (k:Int))/\J (k+1) w'))
def ConPost (n:Nat) (p:Nat->Bool) (J:Nat->World->Prop) (e:Ending) (w':World):Prop:=∃k,k<=n/\(∀j,j<k->p j=false)/\((k=n/\e = .returned (.bool false)/\J n w')∨(k<n/\p k=true/\e = .returned (.bool true)/\J (k+1) w'))
theorem IdxPost.con {n:Nat} {p:Nat->Bool} {J:Nat->World->Prop} {e:Ending} {w':World} (h:IdxPost n p J e w'):∃i:Int,e = .returned (.int .i64 i)/\ConPost n p J (.returned (.bool (decide (0<=i)))) w':=by
 obtain⟨k,h1,h2,⟨rfl,rfl,h3⟩|⟨h4,h5,rfl,h6⟩⟩:=h
 ·exact⟨-1,rfl,k,h1,h2,.inl ⟨rfl,rfl,h3⟩⟩
 ·exact⟨k,rfl,k,h1,h2,.inr ⟨h4,h5,by rw[decide_eq_true (Int.natCast_nonneg k)],h6⟩⟩
theorem ConPost.any {n:Nat} {p:Nat->Bool} {J:Nat->World->Prop} {e:Ending} {w':World} (h:ConPost n p J e w'):e = .returned (.bool ((List.range n).any p))/\((∃k,k<=n/\J k w')):=by
 obtain⟨k,h1,h2,⟨rfl,rfl,h3⟩|⟨h4,h5,rfl,h6⟩⟩:=h
 ·refine⟨?_,k,Nat.le_refl _,h3⟩
  rw[show(List.range k).any p=false by rw[List.any_eq_false];intro x hx;rw[h2 x (List.mem_range.1 hx)];decide]
 ·refine⟨?_,k+1,h4,h6⟩
  rw[show(List.range n).any p=true by rw[List.any_eq_true];exact⟨k,List.mem_range.2 h4,h5⟩]
set_option maxHeartbeats 4000000
set_option maxRecDepth 100000
section
theorem Zsi (fid:Nat) (caps:Array Value) (eg:∀args w,(callFunc fid args).run prog w = .ok (.enter fid args) w) (a:Option Addr) (n c:Nat) (hn:n<=maxLen) (x:Nat->ByteArray) (p:Nat->Bool) (J:Nat->World->Prop) (w:World)
  (hc:∀k W,k<n->J k W->∃b o,a=some ⟨b,o,none⟩/\W.cell? ⟨b,o+k,none⟩=some (.string (x k))) (hf:∀k W,k<n->(∀j,j<k->p j=false)->J k W->Calls prog fid (#[.string (x k)]++caps) W λe W'=>e = .returned (.bool (p k))/\J (k+1) W') (h0:J 0 w):
  Calls prog 115 #[.slice a n c,.func (.func fid) #[] caps] w (IdxPost n p J):=by
 have HC:=hid hc;have HF:=hid hf;have H0:=hid h0;unfold maxLen at hn;clear hc hf h0
 go_enter func115,ntmps115
 go_wp2
 go_loopw [5,8] (λ_ iv wr=>∃k:Nat,k<=n/\iv = .int .i64 (k:Int)/\(∀j,j<k->p j=false)/\J k wr) (λ_ iv _=>n-(intOf iv).toNat)
 case atStart=>exact⟨0,Nat.zero_le _,rfl,λj hj=>absurd hj (Nat.not_lt_zero _),H0.out⟩
 case round=>
  obtain⟨k,hk,rfl,hno,hJ⟩:=hrel;have HNO:=hid hno;have HJ:=hid hJ
  by_cases hlt:k<n
  ·obtain⟨b,o,ea,e0⟩:=HC.out k wr hlt hJ
   subst ea;have cF:=HF.out k wr hlt hno hJ;have hi1:(k:Int)<(n:Int):=by omega
   have hi0:(0:Int)<=(k:Int):=by omega
   cases hq:p k with
   | true=>
    rw[hq]at cF;have HQ:=hid hq;have CF:=hid cF;clear hno hJ cF hq
    go_wp2_with (go_at_fn fid;refine CF.out.mono ?_;rintro e w' ⟨rfl,hj2⟩;have HJ2:=hid hj2;clear hj2)
    go_ret;exact⟨k,hk,HNO.out,.inr ⟨hlt,HQ.out,rfl,HJ2.out⟩⟩
   | false=>
    rw[hq]at cF;have HQ:=hid hq;have CF:=hid cF;clear hno hJ cF hq
    go_wp2_with (go_at_fn fid;refine CF.out.mono ?_;rintro e w' ⟨rfl,hj2⟩;have HJ2:=hid hj2;clear hj2)
    go_roundw
    case rel=>
     refine⟨k+1,by omega,by go_num,λj hj=>?_,HJ2.out⟩
     by_cases e:j=k
     ·subst e;exact HQ.out
     ·exact HNO.out j (by omega)
    case measure=>simp[intOf];omega
  ·have hi1:¬(k:Int)<(n:Int):=by omega
   obtain rfl:k=n:=by omega
   clear hno hJ;go_wp2;go_ret;exact⟨k,Nat.le_refl _,HNO.out,.inl ⟨rfl,rfl,HJ.out⟩⟩
theorem Zsh (fid:Nat) (caps:Array Value) (eg:∀args w,(callFunc fid args).run prog w = .ok (.enter fid args) w) (a:Option Addr) (n c:Nat) (hn:n<=maxLen) (v0 v1 v2 v3 v4:Nat->Value) (p:Nat->Bool) (J:Nat->World->Prop) (w:World)
  (hc:∀k W,k<n->J k W->∃b o,a=some ⟨b,o,none⟩/\W.cell? ⟨b,o+k*5,none⟩=some (v0 k)/\W.cell? ⟨b,o+k*5+1,none⟩=some (v1 k)/\W.cell? ⟨b,o+k*5+2,none⟩=some (v2 k)/\W.cell? ⟨b,o+k*5+3,none⟩=some (v3 k)/\W.cell? ⟨b,o+k*5+4,none⟩=some (v4 k)) (hf:∀k W,k<n->(∀j,j<k->p j=false)->J k W->Calls prog fid (#[.agg #[v0 k,v1 k,v2 k,v3 k,v4 k]]++caps) W λe W'=>e = .returned (.bool (p k))/\J (k+1) W') (h0:J 0 w):
  Calls prog 265 #[.slice a n c,.func (.func fid) #[] caps] w (IdxPost n p J):=by
 have HC:=hid hc;have HF:=hid hf;have H0:=hid h0;unfold maxLen at hn;clear hc hf h0
 go_enter func265,ntmps265
 go_wp2
 go_loopw [5,8] (λ_ iv wr=>∃k:Nat,k<=n/\iv = .int .i64 (k:Int)/\(∀j,j<k->p j=false)/\J k wr) (λ_ iv _=>n-(intOf iv).toNat)
 case atStart=>exact⟨0,Nat.zero_le _,rfl,λj hj=>absurd hj (Nat.not_lt_zero _),H0.out⟩
 case round=>
  obtain⟨k,hk,rfl,hno,hJ⟩:=hrel;have HNO:=hid hno;have HJ:=hid hJ
  by_cases hlt:k<n
  ·obtain⟨b,o,ea,e0,e1,e2,e3,e4⟩:=HC.out k wr hlt hJ
   subst ea;have cF:=HF.out k wr hlt hno hJ;have hi1:(k:Int)<(n:Int):=by omega
   have hi0:(0:Int)<=(k:Int):=by omega
   cases hq:p k with
   | true=>
    rw[hq]at cF;have HQ:=hid hq;have CF:=hid cF;clear hno hJ cF hq
    go_wp2_with (go_at_fn fid;refine CF.out.mono ?_;rintro e w' ⟨rfl,hj2⟩;have HJ2:=hid hj2;clear hj2)
    go_ret;exact⟨k,hk,HNO.out,.inr ⟨hlt,HQ.out,rfl,HJ2.out⟩⟩
   | false=>
    rw[hq]at cF;have HQ:=hid hq;have CF:=hid cF;clear hno hJ cF hq
    go_wp2_with (go_at_fn fid;refine CF.out.mono ?_;rintro e w' ⟨rfl,hj2⟩;have HJ2:=hid hj2;clear hj2)
    go_roundw
    case rel=>
     refine⟨k+1,by omega,by go_num,λj hj=>?_,HJ2.out⟩
     by_cases e:j=k
     ·subst e;exact HQ.out
     ·exact HNO.out j (by omega)
    case measure=>simp[intOf];omega
  ·have hi1:¬(k:Int)<(n:Int):=by omega
   obtain rfl:k=n:=by omega
   clear hno hJ;go_wp2;go_ret;exact⟨k,Nat.le_refl _,HNO.out,.inl ⟨rfl,rfl,HJ.out⟩⟩
theorem Zsg (fid:Nat) (caps:Array Value) (eg:∀args w,(callFunc fid args).run prog w = .ok (.enter fid args) w) (a:Option Addr) (n c:Nat) (hn:n<=maxLen) (v0 v1 v2 v3 v4:Nat->Value) (p:Nat->Bool) (J:Nat->World->Prop) (w:World)
  (hc:∀k W,k<n->J k W->∃b o,a=some ⟨b,o,none⟩/\W.cell? ⟨b,o+k*5,none⟩=some (v0 k)/\W.cell? ⟨b,o+k*5+1,none⟩=some (v1 k)/\W.cell? ⟨b,o+k*5+2,none⟩=some (v2 k)/\W.cell? ⟨b,o+k*5+3,none⟩=some (v3 k)/\W.cell? ⟨b,o+k*5+4,none⟩=some (v4 k)) (hf:∀k W,k<n->(∀j,j<k->p j=false)->J k W->Calls prog fid (#[.agg #[v0 k,v1 k,v2 k,v3 k,v4 k]]++caps) W λe W'=>e = .returned (.bool (p k))/\J (k+1) W') (h0:J 0 w):
  Calls prog 168 #[.slice a n c,.func (.func fid) #[] caps] w (IdxPost n p J):=by
 have HC:=hid hc;have HF:=hid hf;have H0:=hid h0;unfold maxLen at hn;clear hc hf h0
 go_enter func168,ntmps168
 go_wp2
 go_loopw [5,8] (λ_ iv wr=>∃k:Nat,k<=n/\iv = .int .i64 (k:Int)/\(∀j,j<k->p j=false)/\J k wr) (λ_ iv _=>n-(intOf iv).toNat)
 case atStart=>exact⟨0,Nat.zero_le _,rfl,λj hj=>absurd hj (Nat.not_lt_zero _),H0.out⟩
 case round=>
  obtain⟨k,hk,rfl,hno,hJ⟩:=hrel;have HNO:=hid hno;have HJ:=hid hJ
  by_cases hlt:k<n
  ·obtain⟨b,o,ea,e0,e1,e2,e3,e4⟩:=HC.out k wr hlt hJ
   subst ea;have cF:=HF.out k wr hlt hno hJ;have hi1:(k:Int)<(n:Int):=by omega
   have hi0:(0:Int)<=(k:Int):=by omega
   cases hq:p k with
   | true=>
    rw[hq]at cF;have HQ:=hid hq;have CF:=hid cF;clear hno hJ cF hq
    go_wp2_with (go_at_fn fid;refine CF.out.mono ?_;rintro e w' ⟨rfl,hj2⟩;have HJ2:=hid hj2;clear hj2)
    go_ret;exact⟨k,hk,HNO.out,.inr ⟨hlt,HQ.out,rfl,HJ2.out⟩⟩
   | false=>
    rw[hq]at cF;have HQ:=hid hq;have CF:=hid cF;clear hno hJ cF hq
    go_wp2_with (go_at_fn fid;refine CF.out.mono ?_;rintro e w' ⟨rfl,hj2⟩;have HJ2:=hid hj2;clear hj2)
    go_roundw
    case rel=>
     refine⟨k+1,by omega,by go_num,λj hj=>?_,HJ2.out⟩
     by_cases e:j=k
     ·subst e;exact HQ.out
     ·exact HNO.out j (by omega)
    case measure=>simp[intOf];omega
  ·have hi1:¬(k:Int)<(n:Int):=by omega
   obtain rfl:k=n:=by omega
   clear hno hJ;go_wp2;go_ret;exact⟨k,Nat.le_refl _,HNO.out,.inl ⟨rfl,rfl,HJ.out⟩⟩
theorem Zkk (fid:Nat) (caps:Array Value) (eg:∀args w,(callFunc fid args).run prog w = .ok (.enter fid args) w) (a:Option Addr) (n c:Nat) (hn:n<=maxLen) (x:Nat->ByteArray) (p:Nat->Bool) (J:Nat->World->Prop) (w:World)
  (hc:∀k W,k<n->J k W->∃b o,a=some ⟨b,o,none⟩/\W.cell? ⟨b,o+k,none⟩=some (.string (x k))) (hf:∀k W,k<n->(∀j,j<k->p j=false)->J k W->Calls prog fid (#[.string (x k)]++caps) W λe W'=>e = .returned (.bool (p k))/\J (k+1) W') (h0:J 0 w):
  Calls prog 132 #[.slice a n c,.func (.func fid) #[] caps] w (ConPost n p J):=by
 have C:=hid (Zsi fid caps eg a n c hn x p J w hc hf h0);clear hc hf h0 hn eg
 go_enter func132,ntmps132
 go_wp2_with (go_at_call 115;refine C.out.mono ?_;rintro e w' hi;obtain⟨i,rfl,hcon⟩:=hi.con;have HCON:=hid hcon;clear hcon)
 go_ret;exact HCON.out
theorem Zkj (fid:Nat) (caps:Array Value) (eg:∀args w,(callFunc fid args).run prog w = .ok (.enter fid args) w) (a:Option Addr) (n c:Nat) (hn:n<=maxLen) (v0 v1 v2 v3 v4:Nat->Value) (p:Nat->Bool) (J:Nat->World->Prop) (w:World)
  (hc:∀k W,k<n->J k W->∃b o,a=some ⟨b,o,none⟩/\W.cell? ⟨b,o+k*5,none⟩=some (v0 k)/\W.cell? ⟨b,o+k*5+1,none⟩=some (v1 k)/\W.cell? ⟨b,o+k*5+2,none⟩=some (v2 k)/\W.cell? ⟨b,o+k*5+3,none⟩=some (v3 k)/\W.cell? ⟨b,o+k*5+4,none⟩=some (v4 k)) (hf:∀k W,k<n->(∀j,j<k->p j=false)->J k W->Calls prog fid (#[.agg #[v0 k,v1 k,v2 k,v3 k,v4 k]]++caps) W λe W'=>e = .returned (.bool (p k))/\J (k+1) W') (h0:J 0 w):
  Calls prog 210 #[.slice a n c,.func (.func fid) #[] caps] w (ConPost n p J):=by
 have C:=hid (Zsh fid caps eg a n c hn v0 v1 v2 v3 v4 p J w hc hf h0);clear hc hf h0 hn eg
 go_enter func210,ntmps210
 go_wp2_with (go_at_call 265;refine C.out.mono ?_;rintro e w' hi;obtain⟨i,rfl,hcon⟩:=hi.con;have HCON:=hid hcon;clear hcon)
 go_ret;exact HCON.out
end
end Go.Proofs.YtokogjhcidkckaaGreatDoor
