import Derived.Shelf.SlicesE.DeleteFunc
import Derived.Test.YtcpjfpdecklkgaaGreatDoorMau
import Derived.RangeFuncWrites
import Derived.RangeFuncLeaves
import Derived.RangeFuncBox
import Derived.OwnWalkIn
import Derived.OrdersIn
import Derived.RangeFuncNested
import Derived.RangeFuncBound
import Derived.RangeFuncCalls
import Derived.Shelf.Abstract
import Derived.Shelf.RegionOpen
import Derived.WalkKit
import Derived.TacticsInMore
import Derived.LoopNIn
import Derived.LoopIn
import Derived.Maps.AppendAt
import Derived.Shelf.Small.Strs
import Derived.Test.YtcpjfpdecklkgaaGreatDoorLays
namespace Go.Proofs.YtcpjfpdecklkgaaGreatDoor
open Go.Lib (hid)
open Go.Proofs.Tryz
open Go.RowKit Go.Shelf
def Zbkt:Go.Shelf.Ren:=⟨fun|6=>146|8=>93|10=>224|n=>n,fun|0=>0|3=>3|4=>4|22=>29|23=>9|25=>103|n=>n,λn=>n⟩
theorem lSf8:Go.Proofs.SlLaysH.n8 prog Zbkt:={
 mixed:=by kernel_rfl
 f6:=⟨"slices.IndexFunc[[]string,string]",by decide,func146.trans (congrArg some (by kernel_rfl))⟩
 f8:=⟨"slices.ContainsFunc[[]string,string]",by decide,func93.trans (congrArg some (by kernel_rfl))⟩
 t0:=underlying0
 a0:=isAgg0
 z0:=sizeOf0
 v0:=zeroValue0
 t3:=underlying3
 a3:=isAgg3
 z3:=sizeOf3
 v3:=zeroValue3
 t4:=underlying4
 a4:=isAgg4
 z4:=sizeOf4
 v4:=zeroValue4
 t22:=underlying29
 a22:=isAgg29
 z22:=sizeOf29
 v22:=zeroValue29
 a23:=isAgg9
 z23:=sizeOf9
 t25:=underlying103
 a25:=isAgg103
 z25:=sizeOf103
 v25:=zeroValue103 }
theorem Zwt:Go.Proofs.SlLaysH.n10 prog Zbkt:={ lSf8 with
 f10:=⟨"slices.DeleteFunc[[]string,string]",by decide,func224.trans (congrArg some (by kernel_rfl))⟩ }
theorem Zug (s:ByteArray) (w:World):Calls prog 94 #[.string s] w λe w'=>e = .returned (.bool (decide (100<s.size)))/\w'=w:=by
 go_enter func94,ntmps94
 go_wp2;go_ret;refine⟨?_,rfl⟩
 congr 2
 simp;omega
theorem Zto (op:Int) (w:World):Calls prog 47 #[.int .i64 op] w λe w'=>e = .returned (.bool (decide (1<=op/\op<=9)))/\w'=w:=by
 by_cases h1:1<=op
 ·by_cases h2:op<=9
  ·rw[decide_eq_true (show 1<=op/\op<=9 from⟨h1,h2⟩)]
   go_enter func47,ntmps47
   go_wp2;go_ret;exact⟨rfl,rfl⟩
  ·rw[decide_eq_false (show ¬(1<=op/\op<=9)from λh=>h2 h.2)]
   go_enter func47,ntmps47
   go_wp2;go_ret;exact⟨rfl,rfl⟩
 ·rw[decide_eq_false (show ¬(1<=op/\op<=9)from λh=>h1 h.1)]
  go_enter func47,ntmps47
  go_wp2;go_ret;exact⟨rfl,rfl⟩
def Zdp (x:StepS):Bool:=if x.op=5 then decide (x.args.length<=6)else if x.op=6 then decide (x.args.length=0)else decide (x.args.length=1)
def Zxy (x:StepS):Bool:=if (x.lits.any λl=>decide (100<l.size))=true then false else if x.op=6∨x.op=7 then decide (x.lits.length=1)else if x.op=8 then decide (x.lits.length=2)&&Zox x.lits else decide (x.lits.length=0)
def numB (x:StepS):Bool:=if x.op=9 then decide (0<=x.n)&&decide (x.n<=2000)else decide (x.n=0)
theorem Zzc (x:StepS):(decide (1<=x.op/\x.op<=9)&&Zdp x&&Zxy x&&numB x)=mayB x:=by
 obtain⟨out,op,args,lits,n⟩:=x;unfold mayB Zdp Zxy numB naF nlF;simp only;have hany:(lits.any λl=>decide (100<l.size)) = !(lits.all λl=>decide (l.size<=100)):=by
  rw[List.all_eq_not_any_not,Bool.not_not]
  congr 1
  funext l
  rw[Bool.eq_iff_iff];simp
 rw[hany];obtain⟨q,hq⟩:∃q,(lits.all λl=>decide (l.size<=100))=q:=⟨_,rfl⟩;obtain⟨f,hf⟩:∃f,Zox lits=f:=⟨_,rfl⟩;rw[hq,hf];obtain⟨na,hna⟩:∃na,args.length=na:=⟨_,rfl⟩;obtain⟨nl,hnl⟩:∃nl,lits.length=nl:=⟨_,rfl⟩;rw[hna,hnl];clear hq hf hna hnl hany;rw[Bool.eq_iff_iff]
 cases q
 ·simp
 ·cases f<;>by_cases h5:op=5<;>by_cases h6:op=6<;>by_cases h7:op=7<;>by_cases h8:op=8<;>by_cases h9:op=9<;>first|omega|(simp[h5,h6,h7,h8,h9];try omega)
theorem Zbnk (w:World) (x:StepS) (a1 a2:Option Addr) (c1 c2:Nat) {W:World} (hb:Below (w.heap.size+1) (w.alloc (.cells #[.string x.out,.int .i64 x.op,.slice a1 x.args.length c1,.slice a2 x.lits.length c2,.int .i64 x.n] 34)) W):
  W.cell? ⟨w.heap.size,0,none⟩=some (.string x.out)/\W.cell? ⟨w.heap.size,1,none⟩=some (.int .i64 x.op)/\W.cell? ⟨w.heap.size,2,none⟩=some (.slice a1 x.args.length c1)/\W.cell? ⟨w.heap.size,3,none⟩=some (.slice a2 x.lits.length c2)/\W.cell? ⟨w.heap.size,4,none⟩=some (.int .i64 x.n):=by
 have h:=(hb.block w.heap.size (by omega)).trans (alloc_at w _);obtain⟨d0,d1,d2,d3,d4,_⟩:=cells5 h;exact⟨d0,d1,d2,d3,d4⟩
set_option maxRecDepth 100000
set_option maxHeartbeats 4000000
theorem Zdq (x:StepS) (a1 a2:Option Addr) (c1 c2:Nat) (w:World) (h1:x.args.length<=maxLen):
  Calls prog 48 #[.agg #[.string x.out,.int .i64 x.op,.slice a1 x.args.length c1,.slice a2 x.lits.length c2,.int .i64 x.n]] w λe w'=>e = .returned (.bool (Zdp x))/\Below w.heap.size w w':=by
 obtain⟨d0,d1,d2,d3,d4⟩:=Zbnk w x a1 a2 c1 c2 (Below.refl _ _);have hb:Below w.heap.size w (w.alloc (.cells #[.string x.out,.int .i64 x.op,.slice a1 x.args.length c1,.slice a2 x.lits.length c2,.int .i64 x.n] 34)):=(Below.refl _ _).alloc (Nat.le_refl _) _;have HB:=hid hb;obtain⟨r,hr⟩:∃r,Zdp x=r:=⟨_,rfl⟩;rw[hr];unfold Zdp at hr;obtain⟨out,op,args,lits,n⟩:=x;simp only at d0 d1 d2 d3 d4 hr HB h1⊢;clear hb;unfold maxLen at h1
 by_cases h5:op=5
 ·subst h5
  rw[if_pos rfl]at hr
  go_enter func48,ntmps48
  go_wp2;go_ret;refine⟨congrArg (λb:Bool=>Ending.returned (Value.bool b)) ?_,HB.out⟩;rw[<-hr,Bool.eq_iff_iff];simp only[decide_eq_true_eq];omega
 ·by_cases h6:op=6
  ·subst h6
   rw[if_neg (by decide),if_pos rfl]at hr
   go_enter func48,ntmps48
   go_wp2;go_ret;refine⟨congrArg (λb:Bool=>Ending.returned (Value.bool b)) ?_,HB.out⟩;rw[<-hr,Bool.eq_iff_iff];simp only[beq_iff_eq,decide_eq_true_eq];omega
  ·rw[if_neg h5,if_neg h6]at hr
   go_enter func48,ntmps48
   go_wp2;go_ret;refine⟨congrArg (λb:Bool=>Ending.returned (Value.bool b)) ?_,HB.out⟩;rw[<-hr,Bool.eq_iff_iff];simp only[beq_iff_eq,decide_eq_true_eq];omega
theorem Zbby (x:StepS) (a1 a2:Option Addr) (c1 c2:Nat) (w:World):
  Calls prog 50 #[.agg #[.string x.out,.int .i64 x.op,.slice a1 x.args.length c1,.slice a2 x.lits.length c2,.int .i64 x.n]] w λe w'=>e = .returned (.bool (numB x))/\Below w.heap.size w w':=by
 obtain⟨d0,d1,d2,d3,d4⟩:=Zbnk w x a1 a2 c1 c2 (Below.refl _ _);have hb:Below w.heap.size w (w.alloc (.cells #[.string x.out,.int .i64 x.op,.slice a1 x.args.length c1,.slice a2 x.lits.length c2,.int .i64 x.n] 34)):=(Below.refl _ _).alloc (Nat.le_refl _) _;have HB:=hid hb;obtain⟨r,hr⟩:∃r,numB x=r:=⟨_,rfl⟩;rw[hr];unfold numB at hr;obtain⟨out,op,args,lits,n⟩:=x;simp only at d0 d1 d2 d3 d4 hr HB⊢;clear hb
 by_cases h9:op=9
 ·subst h9
  rw[if_pos rfl]at hr
  by_cases h0:0<=n
  ·by_cases h1:n<=2000
   ·rw[decide_eq_true h0,decide_eq_true h1]at hr
    subst hr
    go_enter func50,ntmps50
    go_wp2;go_ret;exact⟨rfl,HB.out⟩
   ·rw[decide_eq_true h0,decide_eq_false h1]at hr
    subst hr
    go_enter func50,ntmps50
    go_wp2;go_ret;exact⟨rfl,HB.out⟩
  ·rw[decide_eq_false h0,Bool.false_and]at hr
   subst hr
   go_enter func50,ntmps50
   go_wp2;go_ret;exact⟨rfl,HB.out⟩
 ·rw[if_neg h9]at hr
  go_enter func50,ntmps50
  go_wp2;go_ret;refine⟨congrArg (λb:Bool=>Ending.returned (Value.bool b)) ?_,HB.out⟩;rw[<-hr,Bool.eq_iff_iff];simp only[beq_iff_eq,decide_eq_true_eq]
theorem Zkn (v:Value) (xs:List ByteArray) (w:World) (h:IsStrs w v xs):
  Calls prog 93 #[v,.func (.func 94) #[] #[]] w λe w'=>e = .returned (.bool (xs.any λl=>decide (100<l.size)))/\∃q,w'=w.drewN q:=by
 obtain⟨a,c,rfl,h1,h1m,h2⟩:=h
 by_cases he:xs = []
 ·subst he
  have:=AnyE.slices_ContainsFunc_empty lSf8 a c (.func (.func 94) #[] #[]) w;refine Calls.mono this ?_;rintro e w' ⟨rfl,rfl⟩;exact⟨rfl,0,rfl⟩
 ·obtain⟨b,o,rfl,hb,hc⟩:=h2 he
  have hp:PredAt prog 94 #[] Value.string (λl:ByteArray=>decide (100<l.size)) w:=λW x _=>(Zug x W).mono λe w' ⟨h,h'⟩=>⟨h,0,h'⟩
  have:=AnyE.slices_ContainsFunc lSf8 Value.string (λl:ByteArray=>decide (100<l.size)) 94 #[] (enters_of func94 (by kernel_rfl) rfl) b o xs.length c xs w hp (Nat.le_refl _) (by unfold maxLen at h1m;omega) (λj hj=>by rw[getElem!_pos xs j hj];exact hc j _ (List.getElem?_eq_getElem hj));rw[List.take_length]at this;exact this
theorem Zxz (x:StepS) (a1 a2:Option Addr) (c1 c2:Nat) (w:World) (hl:IsStrs w (.slice a2 x.lits.length c2) x.lits):
  Calls prog 49 #[.agg #[.string x.out,.int .i64 x.op,.slice a1 x.args.length c1,.slice a2 x.lits.length c2,.int .i64 x.n]] w λe w'=>e = .returned (.bool (Zxy x))/\Below w.heap.size w w':=by
 obtain⟨d0,d1,d2,d3,d4⟩:=Zbnk w x a1 a2 c1 c2 (Below.refl _ _);have hb:Below w.heap.size w (w.alloc (.cells #[.string x.out,.int .i64 x.op,.slice a1 x.args.length c1,.slice a2 x.lits.length c2,.int .i64 x.n] 34)):=(Below.refl _ _).alloc (Nat.le_refl _) _;obtain⟨r,hr⟩:∃r,Zxy x=r:=⟨_,rfl⟩;rw[hr];unfold Zxy at hr;obtain⟨out,op,args,lits,n⟩:=x;simp only at d0 d1 d2 d3 d4 hr hb hl⊢;obtain⟨aa,cc,e,hlc,hcm,hcells⟩:=Zua hl
 cases e
 obtain⟨W1,hW1⟩:∃W1,w.alloc (.cells #[.string out,.int .i64 op,.slice a1 args.length c1,.slice a2 lits.length c2,.int .i64 n] 34)=W1:=⟨_,rfl⟩;have cL:=Zkn _ lits W1 (by rw[<-hW1];exact hl.below hb);rw[hW1]at d0 d1 d2 d3 d4 hb;have HB:=hid hb;have HC:=hid hcells;have HW1:=hid hW1;unfold maxLen at hcm;clear hb hcells hW1 hl;obtain⟨g,hg⟩:∃g,(lits.any λl=>decide (100<l.size))=g:=⟨_,rfl⟩;rw[hg]at cL hr;clear hg
 go_enter func49,ntmps49
 go_wp2_with fail
 rw[HW1.out]
 go_wp2_with fail
 refine cL.mono ?_;rintro e w2 ⟨rfl,q,rfl⟩;have HB2:Hid (Below w.heap.size w (W1.drewN q)):=hid (below_drewN HB.out q);obtain⟨W2,hW2⟩:∃W2,W1.drewN q=W2:=⟨_,rfl⟩;replace d1:W2.cell? ⟨w.heap.size,1,none⟩=some (.int .i64 op):=by rw[<-hW2];exact d1
 replace d3:W2.cell? ⟨w.heap.size,3,none⟩=some (.slice a2 lits.length c2):=by rw[<-hW2];exact d3
 rw[hW2]at HB2⊢;clear d0 d2 d4 cL HW1 HB hW2
 cases g
 ·rw[if_neg (by decide)]at hr
  by_cases h67:op=6∨op=7
  ·rw[if_pos h67]at hr
   rcases h67 with rfl|rfl
   ·go_wp2
    go_ret;refine⟨congrArg (λb:Bool=>Ending.returned (Value.bool b)) ?_,HB2.out⟩;rw[<-hr,Bool.eq_iff_iff];simp only[beq_iff_eq,decide_eq_true_eq];omega
   ·go_wp2
    go_ret;refine⟨congrArg (λb:Bool=>Ending.returned (Value.bool b)) ?_,HB2.out⟩;rw[<-hr,Bool.eq_iff_iff];simp only[beq_iff_eq,decide_eq_true_eq];omega
  ·rw[if_neg h67]at hr
   have n6:¬op=6:=λe=>h67 (.inl e)
   have n7:¬op=7:=λe=>h67 (.inr e)
   by_cases h8:op=8
   ·subst h8
    rw[if_pos rfl]at hr
    by_cases h2:lits.length=2
    ·obtain⟨y,hy⟩:∃y,lits[0]? =some y:=⟨lits[0],List.getElem?_eq_getElem (by omega)⟩
     obtain⟨b,o,hab,hc⟩:=HC.out 0 y hy;have hcy:=hc _ HB2.out;subst hab;have hfo:Zox lits = !(y.toList==([]:List UInt8)):=by
      cases lits with
      | nil=>simp at hy
      | cons z l=>
       obtain rfl:z=y:=by simpa using hy
       rfl
     rw[hfo,h2]at hr;rw[h2]at d3;simp only[Nat.add_zero]at hcy;clear hc hy hfo;go_wp2;go_ret;refine⟨congrArg (λb:Bool=>Ending.returned (Value.bool b)) ?_,HB2.out⟩;rw[<-hr];simp
    ·rw[decide_eq_false h2,Bool.false_and]at hr
     subst hr;have hn2:¬(lits.length:Int)=2:=by omega
     go_wp2;go_ret;exact⟨rfl,HB2.out⟩
   ·rw[if_neg h8]at hr
    go_wp2;go_ret;refine⟨congrArg (λb:Bool=>Ending.returned (Value.bool b)) ?_,HB2.out⟩;rw[<-hr,Bool.eq_iff_iff];simp only[beq_iff_eq,decide_eq_true_eq];omega
 ·rw[if_pos rfl]at hr
  subst hr;go_wp2;go_ret;exact⟨rfl,HB2.out⟩
theorem Zbnr (x:StepS) (a1 a2:Option Addr) (c1 c2:Nat) (w:World) (ha:IsStrs w (.slice a1 x.args.length c1) x.args) (hl:IsStrs w (.slice a2 x.lits.length c2) x.lits):
  Calls prog 26 #[.agg #[.string x.out,.int .i64 x.op,.slice a1 x.args.length c1,.slice a2 x.lits.length c2,.int .i64 x.n]] w λe w'=>e = .returned (.bool (mayB x))/\Below w.heap.size w w':=by
 have hb:Below w.heap.size w (w.alloc (.cells #[.string x.out,.int .i64 x.op,.slice a1 x.args.length c1,.slice a2 x.lits.length c2,.int .i64 x.n] 34)):=(Below.refl _ _).alloc (Nat.le_refl _) _;have hD:=λW (h:Below (w.heap.size+1) (w.alloc (.cells #[.string x.out,.int .i64 x.op,.slice a1 x.args.length c1,.slice a2 x.lits.length c2,.int .i64 x.n] 34)) W)=>Zbnk w x a1 a2 c1 c2 h
 have hm:x.args.length<=maxLen:=by obtain⟨_,_,e,h1,h2,_⟩:=ha;cases e;omega
 rw[<-Zzc x];have q1:=λW=>Zto x.op W
 have q2:=λW=>Zdq x a1 a2 c1 c2 W hm
 have q4:=λW=>Zbby x a1 a2 c1 c2 W
 obtain⟨W1,hW1⟩:∃W1,w.alloc (.cells #[.string x.out,.int .i64 x.op,.slice a1 x.args.length c1,.slice a2 x.lits.length c2,.int .i64 x.n] 34)=W1:=⟨_,rfl⟩;have hs1:W1.heap.size=w.heap.size+1:=by rw[<-hW1];simp
 rw[hW1]at hb hD;rw[<-hs1]at hD;have q3:=λW (h:Below W1.heap.size W1 W)=>Zxz x a1 a2 c1 c2 W (hl.below (hb.trans (h.mono (by omega))))
 obtain⟨b1,h1⟩:∃b,decide (1<=x.op/\x.op<=9)=b:=⟨_,rfl⟩;obtain⟨b2,h2⟩:∃b,Zdp x=b:=⟨_,rfl⟩;obtain⟨b3,h3⟩:∃b,Zxy x=b:=⟨_,rfl⟩;obtain⟨b4,h4⟩:∃b,numB x=b:=⟨_,rfl⟩;rw[h1]at q1;rw[h2]at q2;rw[h3]at q3;rw[h4]at q4;rw[h1,h2,h3,h4];obtain⟨out,op,args,lits,n⟩:=x;simp only at q1 q2 q3 q4 hD hb hW1⊢;have Q2:=hid q2;have Q3:=hid q3;have Q4:=hid q4;have HB:=hid hb;have HD:=hid hD;have HW:=hid hW1;have HS:=hid hs1;clear q2 q3 q4 hb hD hW1 h1 h2 h3 h4 ha hl hm hs1
 go_enter func26,ntmps26
 go_wp2_with fail
 rw[HW.out];have R1:Hid (Below W1.heap.size W1 W1):=hid (Below.refl _ _);obtain⟨d0,d1,d2,d3,d4⟩:=HD.out W1 R1.out
 cases b1
 ·go_wp2_with (go_at_call 47;refine(q1 _).mono ?_;rintro e w2 ⟨rfl,rfl⟩)
  go_ret;exact⟨rfl,HB.out⟩
 cases b2
 ·go_wp2_with (first
   | (go_at_call 47;refine(q1 _).mono ?_;rintro e w2 ⟨rfl,rfl⟩)
   | (go_at_call 48;refine(Q2.out _).mono ?_;rintro e w3 ⟨rfl,hb3⟩;have HB3:=hid hb3;clear hb3))
  go_ret;exact⟨rfl,HB.out.trans (HB3.out.mono HB.out.size)⟩
 cases b3
 ·go_wp2_with (first
   | (go_at_call 47;refine(q1 _).mono ?_;rintro e w2 ⟨rfl,rfl⟩)
   | (go_at_call 48;refine(Q2.out _).mono ?_;rintro e w3 ⟨rfl,hb3⟩;have HB3:=hid hb3;obtain⟨d0,d1,d2,d3,d4⟩:=HD.out _ HB3.out;clear hb3)
   | (go_at_call 49;refine(Q3.out _ HB3.out).mono ?_;rintro e w4 ⟨rfl,hb4⟩;have HB4:=hid (HB3.out.trans (hb4.mono HB3.out.size));clear hb4))
  go_ret;exact⟨rfl,HB.out.trans (HB4.out.mono HB.out.size)⟩
 ·go_wp2_with (first
   | (go_at_call 47;refine(q1 _).mono ?_;rintro e w2 ⟨rfl,rfl⟩)
   | (go_at_call 48;refine(Q2.out _).mono ?_;rintro e w3 ⟨rfl,hb3⟩;have HB3:=hid hb3;obtain⟨d0,d1,d2,d3,d4⟩:=HD.out _ HB3.out;clear hb3)
   | (go_at_call 49;refine(Q3.out _ HB3.out).mono ?_;rintro e w4 ⟨rfl,hb4⟩;have HB4:=hid (HB3.out.trans (hb4.mono HB3.out.size));obtain⟨d0,d1,d2,d3,d4⟩:=HD.out _ HB4.out;clear hb4)
   | (go_at_call 50;refine(Q4.out _).mono ?_;rintro e w5 ⟨rfl,hb5⟩;have HB5:=hid (HB4.out.trans (hb5.mono HB4.out.size));clear hb5))
  go_ret;refine⟨?_,HB.out.trans (HB5.out.mono HB.out.size)⟩;simp only[Bool.true_and];rfl
open Go.Maps
def inS (L:List ByteArray) (k:ByteArray):Bool:=L.any λx=>decide (x=k)
theorem Zsj {L:List ByteArray} {k:ByteArray}:inS L k=true↔k∈L:=by
 unfold inS;rw[List.any_eq_true];constructor
 ·rintro⟨x,hx,e⟩;rw[<-of_decide_eq_true e];exact hx
 ·exact λh=>⟨k,h,by simp⟩
def insS (L:List ByteArray) (k:ByteArray):List ByteArray:=if inS L k=true then L else L ++ [k]
def addS (L:List ByteArray) (ks:List ByteArray):List ByteArray:=ks.foldl insS L
theorem Ztc {L:List ByteArray} {k a:ByteArray}:a∈insS L k↔a∈L∨a=k:=by
 unfold insS;split
 ·rename_i h
  have h:=Zsj.1 h;constructor
  ·exact .inl
  ·rintro(h'|rfl)
   ·exact h'
   ·exact h
 ·simp
theorem Ztb (L:List ByteArray) (k:ByteArray):(insS L k).length<=L.length+1:=by unfold insS;split<;>simp
theorem Zcp {ks L:List ByteArray} {a:ByteArray}:a∈addS L ks↔a∈L∨a∈ks:=by
 unfold addS
 induction ks generalizing L with
 | nil=>simp
 | cons k ks ih=>rw[List.foldl_cons,ih,Ztc,List.mem_cons,or_assoc]
theorem Zco (ks L:List ByteArray):(addS L ks).length<=L.length+ks.length:=by
 unfold addS
 induction ks generalizing L with
 | nil=>simp
 | cons k ks ih=>rw[List.foldl_cons,List.length_cons];have:=ih (insS L k);have:=Ztb L k;omega
theorem Zcq {ks:List ByteArray} (L:List ByteArray) {i:Nat} {k:ByteArray} (h:ks[i]? =some k):addS L (ks.take (i+1))=insS (addS L (ks.take i)) k:=by
 unfold addS;rw[List.take_add_one,h,List.foldl_append];rfl
def SetIs (w:World) (b:Nat) (L:List ByteArray):Prop:=∃m,MapIs prog 9 w b m/\(∀k,hasM m k=inS L k)/\(∀k,getM m k (.agg #[]) = .agg #[])/\m.length=L.length
theorem SetIs.lt {w:World} {b:Nat} {L:List ByteArray} (h:SetIs w b L):b<w.heap.size:=by obtain⟨m,h1,_⟩:=h;exact h1.lt
theorem SetIs.heap {w w':World} {b:Nat} {L:List ByteArray} (h:SetIs w b L) (hb:w'.heap[b]? =w.heap[b]?):SetIs w' b L:=by
 obtain⟨m,h1,r⟩:=h;exact⟨m,h1.heap hb,r⟩
theorem SetIs.below {B:Nat} {w w':World} {b:Nat} {L:List ByteArray} (h:SetIs w b L) (hb:Below B w w') (hlt:b<B):SetIs w' b L:=h.heap (hb.block b hlt)
theorem Zbkr (w:World):SetIs (w.alloc (.map #[] 0)) w.heap.size []:=⟨[],Zyj w _ _,λ_=>rfl,λ_=>rfl,rfl⟩
theorem SetIs.put {w:World} {b:Nat} {L:List ByteArray} {t e:TypeId} (h:SetIs w b L) (ht:prog.underlying t=some (.map 9 e)) (hn:L.length<=4000000000000000) (k:ByteArray) (hs:k.size<=maxLen):
  ∃w',(Instr.mapUpdate t (.map (some b)) (.string k) (.agg #[])).run prog w = .ok () w'/\SetIs w' b (insS L k)/\w.mapTurned w' b:=by
 obtain⟨m,h1,h2,h3,h4⟩:=h;obtain⟨w',r,hm,ht'⟩:=h1.put underlying9 ht (by unfold maxLen;omega) k hs (.agg #[]);refine⟨w',r,⟨_,hm,λk'=>?_,λk'=>?_,?_⟩,ht'⟩
 ·rw[Zrm,h2,Bool.eq_iff_iff]
  simp only[Bool.or_eq_true,decide_eq_true_eq,Zsj,Ztc];constructor
  ·rintro(rfl|h)
   ·exact .inr rfl
   ·exact .inl h
  ·rintro(h|rfl)
   ·exact .inr h
   ·exact .inl rfl
 ·by_cases hk:k=k'
  ·subst hk;exact Zqj _ _ _ _
  ·rw[Zqi _ _ _ hk];exact h3 k'
 ·obtain⟨D,_,_,_,_,hK⟩:=h1
  rw[Zbfq hK,h2];unfold insS
  by_cases hk:inS L k=true
  ·simp[hk,h4]
  ·simp[hk,h4]
theorem SetIs.look {w:World} {b:Nat} {L:List ByteArray} {t e:TypeId} (h:SetIs w b L) (ht:prog.underlying t=some (.map 9 e)) (hz:(zeroValue e).run prog w = .ok (.agg #[]) w) (k:ByteArray) (hs:k.size<=maxLen):
  (Instr.lookup t (.map (some b)) (.string k) true).run prog w = .ok (.tuple #[.agg #[],.bool (inS L k)]) w:=by
 obtain⟨m,h1,h2,h3,h4⟩:=h;rw[h1.look_ok underlying9 ht hz k hs,h2,h3]
theorem SetIs.len {w:World} {b:Nat} {L:List ByteArray} {t e:TypeId} (h:SetIs w b L) (ht:prog.underlying t=some (.map 9 e)) (ty:TypeId):(Builtin.len_ #[t] ty #[.map (some b)]).run prog w = .ok (.int .i64 (L.length:Int)) w:=by
 obtain⟨m,h1,_,_,h4⟩:=h;rw[h1.len ht ty,h4]
theorem Zrh (a:World) (row:Option Nat):a.grownBy a row:=⟨rfl,rfl,rfl,Nat.le_refl _,λ_ _ _=>rfl⟩
theorem Zra (w:World) (o:Obj):w.grownBy (w.alloc o) none:=⟨rfl,rfl,rfl,by simp,λk hk _=>Below.heap_alloc w o k hk⟩
variable {F:Fence} {n:Nat} {P:Program}
def Zbw {α:Type} (F:Fence) (n:Nat) (P:Program) (g:Nat) (lb:Array Value) (encs:α->Array Value) (R Kp:World->World->Prop) (xs:List α) (w:World):Prop:=
 ∀(l:Nat) (J:List α->World->Prop) (W:World),Below w.heap.size w W->(∀s A B,J s A->R A B->J s B)->
  (∀(pre:List α) (x:α) (post:List α) (W1:World),xs=pre++x::post->J pre W1->YieldAt F (n-1) P l (encs x) W1 λe W'=>e = .returned (.bool true)/\J (pre ++ [x]) W'/\Kp W1 W')->
  J [] W->CallsIn F n P g (#[.func (.yield l) #[] #[]]++lb) W λe W'=>(∃v,e = .returned v)/\J xs W'
def Zqs (B:Nat) (Kp:World->World->Prop) (I:World->Prop) (W:World):Exit->Act->World->Prop
 | .normal,_,W'=>KeepsFrom B W W'/\Kp W W'/\I W'
 | _,_,_=>False
theorem KeepsFrom.at {B l:Nat} {o:Obj} {W W':World} (h:KeepsFrom B W W') (hB:B<=l) (hl:W.heap[l]? =some o) (ho:o.isCells=false):W'.heap[l]? =some o:=h.same l o hB hl ho
theorem Zbuc {α:Type} {g:Operand} {ps:Array Tmp} {assign body:Code} {Q:Exit->Act->World->Prop} {a:Act} {w:World}
  (hro:F.round=none) (h1:1<=n) {gf:Nat} {lb:Array Value} (hg:a.eval g = .func (.func gf) #[] lb) (hFg:F.fn gf) (eg:∀args w,(callFunc gf args).run P w = .ok (.enter gf args) w)
  {encs:α->Array Value} {R Kp:World->World->Prop} {xs:List α} {w0:World} (hseq:Zbw F (n-1) P gf lb encs R Kp xs w0) (hb0:Below w0.heap.size w0 w) (hps:∀x,(encs x).size=ps.size)
  (hR:∀A B,R A B->KeepsOthers A B) (hKt:∀A B C,Kp A B->Kp B C->Kp A C)
  (hKb:∀(W:World) (l:Nat) (o o':Obj),w.heap.size<=l->W.heap[l]? =some o->o.isCells=false->o.isWalk=false->Kp W (W.putObj l o'))
  (I:List α->World->Prop) (hIR:∀s A B,I s A->R A B->I s B) (hI:OwnFrom w.heap.size I) (h0:I [] w) (Ax:α->Act->World->Prop)
  (hAx:∀(x:α) (a':Act) (W:World) (l:Nat) (o o':Obj),Ax x a' W->w.heap.size<=l->W.heap[l]? =some o->o.isCells=false->Ax x a' (W.putObj l o'))
  (hassign:∀(l:Nat) (pre:List α) (x:α) (post:List α) (W:World) (K:Act->World->Prop),xs=pre++x::post->I pre W->(∀(a':Act) (W':World),KeepsFrom w.heap.size W W'->Kp W W'->I pre W'->Ax x a' W'->K a' W')->
   assign.wpIn (F.inRound l) (n-1-1) P (Exit.then K (λ_ _ _=>False)) { tmps:=(ps.zip (encs x)).foldl (λt (p,v)=>t.setIfInBounds p v) a.tmps,defers:=[] } W)
  (hbody:∀(l:Nat) (pre:List α) (x:α) (post:List α) (a':Act) (W:World),xs=pre++x::post->I pre W->Ax x a' W->body.wpIn (F.inRound l) (n-1-1) P (Zqs w.heap.size Kp (I (pre ++ [x])) W) a' W)
  (hdone:∀(D:Nat) (W:World),w.heap.size<=D->I xs W->W.heap[D]? =some (.deferred (some []))->Q .normal { a with defers:={ target:= .collected D,args:=#[] } ::a.defers } W):
  (Code.rangeFunc g ps assign body).wpIn F n P Q a w:=by
 refine wpIn_rangeFunc λfn hfn=>?_
 rw[hro]
 let D:=w.heap.size
 let L:=w.heap.size+1
 let rec':LoopState->Loop:=λst=>{ state:=st,pending:=none,fn,tmps:=a.tmps,params:=ps,assign,body,defers:=D }
 obtain⟨V,hV⟩:∃V,(w.alloc (.deferred (some []))).alloc (.loop (rec' .ready))=V:=⟨_,rfl⟩;have hVL:V.heap[L]? =some (.loop (rec' .ready)):=by
  have:=World.alloc_heap_new (w.alloc (.deferred (some []))) (.loop (rec' .ready));rw[World.size_alloc]at this;rw[<-hV];exact this
 have hVD:V.heap[D]? =some (.deferred (some [])):=by
  rw[<-hV];exact(Below.heap_alloc _ _ _ (by simp[D])).trans (World.alloc_heap_new w _)
 have hVI:I [] V:=by rw[<-hV];exact hI.alloc _ (hI.alloc _ h0)
 have hVb:Below w0.heap.size w0 V:=by
  rw[<-hV];exact hb0.trans ((((Below.refl _ w).alloc (Nat.le_refl _) _).alloc (by simp) _).mono hb0.size)
 have hput:∀ {s:List α} {W:World} {o o':Obj},I s W->W.heap[L]? =some o->o.isCells=false->I s (W.putObj L o'):=λhi hl ho=>hI.putObj _ hi (by simp[L]) hl ho
 refine⟨L,[{ target:= .collected D,args:=#[] }],V,{ target:= .fn (.func gf) lb,args:=#[.func (.yield L) #[] #[]] },V,gf,#[.func (.yield L) #[] #[]]++lb,V,?_,?_,?_,?_,λ_=>h1,?_⟩
 ·rw[<-hV];exact run_enterLoop_outer _ _ _ _ _
 ·simp only[resolve,hg]
  simp[go_sem]
 ·intro f' hf';simp[Target.leads]at hf';subst hf';exact hFg
 ·simp[invoke,go_sem,eg]
 refine(hseq L (λs W=>I s W/\W.heap[L]? =some (.loop (rec' .ready))/\W.heap[D]? =some (.deferred (some []))) V hVb ?_ ?_ ⟨hVI,hVL,hVD⟩).mono ?_
 ·rintro s A B ⟨hi,hl,hd⟩ hr
  exact⟨hIR s A B hi hr,(hR A B hr).same _ _ hl rfl,(hR A B hr).same _ _ hd rfl⟩
 ·rintro pre x post W0 hx ⟨hi0,hl0,hd0⟩
  refine⟨fn,_,assign,body,run_yield hl0 (hps x),roundIn_of_wpIn hfn (hassign L pre x post W0 _ hx hi0 λa' W hkA hkpA hi hax=>?_)⟩;have hl:=KeepsFrom.at hkA (by simp[L]) hl0 rfl;have hd:=KeepsFrom.at hkA (by simp[D]) hd0 rfl;have hlt:L<W.heap.size:=(Array.getElem?_eq_some_iff.1 hl).1;obtain⟨U,hU⟩:∃U,W.putObj L (.loop (rec' .busy))=U:=⟨_,rfl⟩;have hUL:U.heap[L]? =some (.loop (rec' .busy)):=by rw[<-hU];exact World.putObj_heap_same hlt
  have hUD:U.heap[D]? =some (.deferred (some [])):=by rw[<-hU];exact(World.putObj_heap_other (by simp[L,D])).trans hd
  have hUI:I pre U:=by rw[<-hU];exact hput hi hl rfl
  have hUA:Ax x a' U:=by rw[<-hU];exact hAx _ _ _ _ _ _ hax (by simp[L]) hl rfl
  have hUK:Kp W0 U:=by rw[<-hU];exact hKt _ _ _ hkpA (hKb _ _ _ _ (by simp[L]) hl rfl rfl)
  refine⟨U,by rw[<-hU];exact run_beginRound hl rfl,wpIn_mono (hbody L pre x post a' U hx hUI hUA) ?_⟩;rintro e a3 W3 hp
  cases e with
  | normal=>
   obtain⟨hk,hkp,hi3⟩:=hp;have h3L:=KeepsFrom.at hk (by simp[L]) hUL rfl;have h3D:=KeepsFrom.at hk (by simp[D]) hUD rfl;exact⟨_,_,run_endRound none h3L,rfl,⟨hput hi3 h3L rfl,World.putObj_heap_same (Array.getElem?_eq_some_iff.1 h3L).1,(World.putObj_heap_other (by simp[L,D])).trans h3D⟩,hKt _ _ _ (hKt _ _ _ hUK hkp) (hKb _ _ _ _ (by simp[L]) h3L rfl rfl)⟩
  | ret=>exact hp.elim
  | exit id=>exact hp.elim
  | goto t=>exact hp.elim
  | panic ch=>exact hp.elim
  | outgrown=>exact hp.elim
 ·rintro e W2 ⟨⟨v,rfl⟩,hi,hl,hd⟩
  exact⟨none,_,run_endLoop hl (by simp[rec']),hdone D _ (Nat.le_refl _) (hput hi hl rfl) ((World.putObj_heap_other (by simp[L,D])).trans hd)⟩
theorem Zbub {α:Type} {g:Operand} {ps:Array Tmp} {assign body:Code} {Q:Exit->Act->World->Prop} {a:Act} {w:World}
  (hro:F.round=none) (h1:1<=n) {gf:Nat} {lb:Array Value} (hg:a.eval g = .func (.func gf) #[] lb) (hFg:F.fn gf) (eg:∀args w,(callFunc gf args).run P w = .ok (.enter gf args) w)
  {encs:α->Array Value} {R Kp:World->World->Prop} {xs:List α} {w0:World} (hseq:Zbw F (n-1) P gf lb encs R Kp xs w0) (hb0:Below w0.heap.size w0 w) (hps:∀x,(encs x).size=ps.size)
  (hR:∀A B,R A B->KeepsOthers A B) (hKr:∀A,Kp A A) (hKt:∀A B C,Kp A B->Kp B C->Kp A C)
  (hKb:∀(W:World) (l:Nat) (o o':Obj),w.heap.size<=l->W.heap[l]? =some o->o.isCells=false->o.isWalk=false->Kp W (W.putObj l o'))
  (I:List α->World->Prop) (hIR:∀s A B,I s A->R A B->I s B) (hI:OwnFrom w.heap.size I) (h0:I [] w) (a₁:α->Act)
  (hassign:∀(l:Nat) (x:α) (W:World) (K:Act->World->Prop),K (a₁ x) W->
   assign.wpIn (F.inRound l) (n-1-1) P (Exit.then K (λ_ _ _=>False)) { tmps:=(ps.zip (encs x)).foldl (λt (p,v)=>t.setIfInBounds p v) a.tmps,defers:=[] } W)
  (hbody:∀(l:Nat) (pre:List α) (x:α) (post:List α) (W:World),xs=pre++x::post->I pre W->body.wpIn (F.inRound l) (n-1-1) P (Zqs w.heap.size Kp (I (pre ++ [x])) W) (a₁ x) W)
  (hdone:∀(D:Nat) (W:World),w.heap.size<=D->I xs W->W.heap[D]? =some (.deferred (some []))->Q .normal { a with defers:={ target:= .collected D,args:=#[] } ::a.defers } W):
  (Code.rangeFunc g ps assign body).wpIn F n P Q a w:=
 Zbuc hro h1 hg hFg eg hseq hb0 hps hR hKt hKb I hIR hI h0 (λx a' _=>a'=a₁ x) (λ_ _ _ _ _ _ h _ _ _=>h)
  (λl _ x _ W K _ hi hk=>hassign l x W K (hk _ _ (KeepsFrom.refl _ _) (hKr W) hi rfl))
  (λl pre x post a' W hx hi ha=>by subst ha;exact hbody l pre x post W hx hi) hdone
theorem Zgj {W w1:World} {n₀ B:Nat} {t e:TypeId} {size:Nat} {v v':Value} {k m:Nat} {xs ys:List Value} {tmp:Obj}
  (hv:Boxed W B t v) (hrow:W.ownsRow n₀ e size v k xs) (hB:B<n₀) (hn:n₀<=W.heap.size) (hown:w1.ownsRow n₀ e size v' m ys) (hg:(W.alloc tmp).grownBy w1 v.ownBlock):
  Boxed w1 B t v/\Boxed (w1.setCell ⟨B,0,none⟩ v') B t v'/\(w1.setCell ⟨B,0,none⟩ v').ownsRow n₀ e size v' m ys/\KeepsOthers W (w1.setCell ⟨B,0,none⟩ v')/\Below B W (w1.setCell ⟨B,0,none⟩ v')/\
   ∀j,j<n₀->j≠B->(w1.setCell ⟨B,0,none⟩ v').heap[j]? =W.heap[j]?:=by
 have far:∀ {X:World} {u:Value} {i:Nat} {zs:List Value},X.ownsRow n₀ e size u i zs->∀j,u.ownBlock=some j->n₀<=j:=by
  intro X u i zs h j hj
  rcases h.2 with⟨rfl,_⟩|⟨g,cap,cur,rfl,hb,_⟩
  ·simp[Value.ownBlock]at hj
  ·obtain rfl:g=j:=by simpa[Value.ownBlock]using hj
   exact hb
 have hv1:Boxed w1 B t v:=(hv.alloc tmp).kept hg λe'=>by have:=far hrow B e'.symm;omega
 have hsame:∀j,j<n₀->w1.heap[j]? =W.heap[j]?:=λj hj=>(hg.block j (by simp;omega) λe'=>by have:=far hrow j e'.symm;omega).trans (Below.heap_alloc W tmp j (by omega))
 refine⟨hv1,hv1.set v',hown.kept (grownBy_setCell' w1 B v') ?_,?_,?_,λj hj hjB=>(Below.heap_setCell w1 _ _ j hjB).trans (hsame j hj)⟩
 ·cases ho:v'.ownBlock with
  | none=>exact .inl rfl
  | some j=>exact .inr λe'=>by have:=far hown j ho;simp at e';omega
 ·refine((KeepsOthers.alloc W tmp).trans (KeepsOthers.of_grownBy hg λj o ej hj=>?_)).trans (KeepsOthers.setCell _ _ _)
  rcases(hrow.alloc tmp).2 with⟨rfl,_⟩|⟨g,cap,cur,rfl,_,hgb,_⟩
  ·simp[Value.ownBlock]at ej
  ·obtain rfl:g=j:=by simpa[Value.ownBlock]using ej
   rw[hgb]at hj;cases hj;rfl
 ·exact(((Below.refl B W).alloc (by omega) tmp).grown hg (by simp;omega) λj ej=>by have:=far hrow j ej;omega).setCell (p:=⟨B,0,none⟩) (Nat.le_refl _) v'
theorem Zbno {ops:Array Oper} {o:Oper} {a:Act} {w:World} {K:Act->World->Prop} {Q:Exit->Act->World->Prop} {E:Prop} (hgd:o.guard=none) (s x:Operand) (t:TypeId)
  (ho:o.op = .call { callee:= .builtin .append,args:=#[s,x],argTypes:=#[t,t] })
  (base:Nat) (e:TypeId) (i:TypeInfo) (z:Value) (size bytes:Nat) (ht:P.underlying t=some (.slice e)) (hi:P.info? e=some i) (hz:i.zero=some z)
  (hsize:i.size=size) (hby:i.bytes=bytes) (hzs:z.cells.size=size) (hsz:0<size)
  (v:Value) (k:Nat) (xs:List Value) (hs:a.eval s=v) (hown:w.ownsRow base e size v k xs)
  (ad:Addr) (m c:Nat) (news:List Value) (hx:a.eval x = .slice (some ad) m c) (hl:news.length=m*size) (hnews:∀j u,news[j]? =some u->w.cell? (ad.add j)=some u) (h1:∀u∈news,u.oneCell'=true)
  (h63:k+m<=maxLen) (hbytes:(k+m)*bytes<=140737488355328) (hbase:base<=w.heap.size)
  (h:∀v' w',w'.ownsRow base e size v' (k+m) (xs++news)->w.grownBy w' v.ownBlock->(v' = .slice none 0 0↔v = .slice none 0 0/\m=0)->K (a.put o.dst v') w'):
  if Region.wanted o (yielded ops a.tmps)=true then Oper.wpIn F n P o a w K Q else E:=by
 rw[if_pos (by simp[Region.wanted,hgd])];obtain⟨v',w',hr,r1,r2,r3⟩:=run_append_own (P:=P) w base t o.type e i z size bytes ht hi hz hsize hby hzs hsz v k xs hown ad m c news hl hnews h1 h63 hbytes hbase;unfold Oper.wpIn;refine⟨by simp[Oper.about,ho,resolve,Target.leads,Sem.run_pure],?_⟩;rw[Oper.semAt_plain F _ _ (by rw[ho];intro c hc;cases hc)];simp[execOp,ho,resolve,invoke,builtin,hs,hx,hr,Result.andThen];exact h v' w' r1 r2 r3
end Go.Proofs.YtcpjfpdecklkgaaGreatDoor
namespace Go.Proofs.YtcpjfpdecklkgaaGreatDoor
open Go.Lib (hid)
open Go.Proofs.Tryz
open Go.RowKit Go.Shelf
def rawA:List UInt8->List UInt8->List (List UInt8)
 | acc,[]=>if acc = []then []else [acc]
 | acc,c::r=>if c=10 then(acc ++ [10])::rawA [] r else rawA (acc ++ [c]) r
def rawL (s:List UInt8):List (List UInt8):=rawA [] s
theorem Zbgj:∀(a acc b:List UInt8),(10:UInt8)∉a->rawA acc (a++10::b)=(acc++a ++ [10])::rawL b
 | [],acc,b,_=>by simp[rawA,rawL]
 | c::a,acc,b,h=>by
  have hc:c≠10:=λe=>h (by simp[e])
  have ha:(10:UInt8)∉a:=λe=>h (by simp[e])
  rw[List.cons_append,rawA,if_neg hc,Zbgj a (acc ++ [c]) b ha];simp
theorem Zbgk:∀(s acc:List UInt8),(10:UInt8)∉s->rawA acc s=if acc++s = []then []else [acc++s]
 | [],acc,_=>by simp[rawA]
 | c::a,acc,h=>by
  have hc:c≠10:=λe=>h (by simp[e])
  have ha:(10:UInt8)∉a:=λe=>h (by simp[e])
  rw[rawA,if_neg hc,Zbgk a (acc ++ [c]) ha];simp
theorem Zbgp {a b:List UInt8} (h:(10:UInt8)∉a):rawL (a++10::b)=(a ++ [10])::rawL b:=by
 unfold rawL;rw[Zbgj a [] b h];simp[rawL]
theorem Zbgq {s:List UInt8} (h:(10:UInt8)∉s) (hn:s≠[]):rawL s = [s]:=by
 unfold rawL;rw[Zbgk s [] h];simp[hn]
theorem Zbgs (s:List UInt8):(rawL s).map (λx=>Lib.trimSuffix x [10])=Zxl s:=by
 induction s using Zxr with
 | h0=>rfl
 | h1 s h hn=>
  rw[Zbgq h hn,Zxn h hn];have:Lib.hasSuffix s [10]=false:=by
   rw[Bool.eq_false_iff];intro e;unfold Lib.hasSuffix at e;obtain⟨t,ht⟩:=List.isSuffixOf_iff_suffix.1 e;exact h (by rw[<-ht];simp)
  simp[Lib.trimSuffix,this]
 | h2 a b h ih=>
  rw[Zbgp h,Zxm h,List.map_cons,ih];have:Lib.hasSuffix (a ++ [10]) [10]=true:=by
   unfold Lib.hasSuffix;exact List.isSuffixOf_iff_suffix.2 ⟨a,rfl⟩
  simp[Lib.trimSuffix,this]
structure Rs (sb:Nat) (A B:World):Prop where
 os:B.os=A.os
 tape:B.tape=A.tape
 output:B.output=A.output
 size:B.heap.size=A.heap.size
 same:∀k,k≠sb->B.heap[k]? =A.heap[k]?
 kind:∀o,A.heap[sb]? =some o->o.isCells=false->B.heap[sb]? =some o
theorem Rs.keeps {sb:Nat} {A B:World} (h:Rs sb A B):KeepsOthers A B:=⟨Nat.le_of_eq h.size.symm,λk o hk ho=>by
 by_cases e:k=sb
 ·subst e;exact h.kind o hk ho
 ·exact(h.same k e).trans hk⟩
theorem Rs.below {n₀ sb:Nat} {W A B:World} (h:Rs sb A B) (hb:Below n₀ W A) (hs:n₀<=sb):Below n₀ W B:=
 ⟨h.os.trans hb.os,h.tape.trans hb.tape,h.output.trans hb.output,by rw[h.size];exact hb.size,λk hk=>(h.same k (by omega)).trans (hb.block k hk)⟩
theorem Zui (a b:List UInt8) (h:(10:UInt8)∉a):Lib.indexByte (a++10::b) 10=(a.length:Int):=by
 induction a with
 | nil=>rfl
 | cons c a ih=>
  have hc:(c==10)=false:=by simpa using λe:c=10=>h (by simp[e])
  have ha:(10:UInt8)∉a:=λe=>h (by simp[e])
  have:=ih ha;show(if c==10 then(0:Int)else if Lib.indexByte (a++10::b) 10 == -1 then -1 else Lib.indexByte (a++10::b) 10+1)=_;rw[hc,this];simp
theorem Zuj (a:List UInt8) (h:(10:UInt8)∉a):Lib.indexByte a 10 = -1:=by
 induction a with
 | nil=>rfl
 | cons c a ih=>
  have hc:(c==10)=false:=by simpa using λe:c=10=>h (by simp[e])
  have ha:(10:UInt8)∉a:=λe=>h (by simp[e])
  show(if c==10 then(0:Int)else if Lib.indexByte a 10 == -1 then -1 else Lib.indexByte a 10+1)=_;rw[hc,ih ha];rfl
def rawB (s:ByteArray):List ByteArray:=(rawL s.data.toList).map λx=>⟨x.toArray⟩
def Zgh (W:World) (b:Nat):Nat:=match W.cell? ⟨b,0,none⟩with|some (.string s)=>s.size|_=>0
theorem Zgi {W:World} {b:Nat} {t:TypeId} {s:ByteArray} (h:Boxed W b t (.string s)):Zgh W b=s.size:=by unfold Zgh;rw[h.cell]
theorem Zbgo {s:ByteArray} (h:s.size=0):rawB s = []:=by
 have:s.data.toList = []:=List.eq_nil_of_length_eq_zero h;unfold rawB;rw[this];rfl
theorem Zbgn (s:ByteArray) (h:s.size≠0):(Lib.indexByte s.data.toList 10 = -1/\rawB s = [s])∨∃k:Nat,Lib.indexByte s.data.toList 10=(k:Int)/\k<s.size/\rawB s=s.extract 0 (k+1)::rawB (s.extract (k+1) s.size):=by
 have hl:s.data.toList≠[]:=λe=>h (by show s.data.size=0;rw[<-Array.length_toList,e];rfl)
 rcases Zoz 10 s.data.toList with hm|⟨a,b,e,ha⟩
 ·left
  refine⟨Zuj _ hm,?_⟩;unfold rawB;rw[Zbgq hm hl];simp
 ·right
  have hsz:s.size=a.length+1+b.length:=by show s.data.size=_;rw[<-Array.length_toList,e];simp;omega
  refine⟨a.length,by rw[e];exact Zui a b ha,by omega,?_⟩;have e1:(s.extract 0 (a.length+1)).data.toList=a ++ [10]:=by
   rw[ByteArray.data_extract,Array.toList_extract,List.extract_eq_take_drop,e,List.drop_zero,Nat.sub_zero,show a++10::b=(a ++ [10])++b by simp];exact List.take_left' (by simp)
  have e2:(s.extract (a.length+1) s.size).data.toList=b:=by
   rw[ByteArray.data_extract,Array.toList_extract,List.extract_eq_take_drop,e,hsz,show a++10::b=(a ++ [10])++b by simp,List.drop_left' (by simp)];exact List.take_of_length_le (by omega)
  unfold rawB;rw[e2,e,Zbgp ha,List.map_cons]
  congr 1
  refine ByteArray.ext ?_;refine Array.ext' ?_;rw[e1]
def Zbd (b:Nat) (A B:World):Prop:=B.heap[b]? =A.heap[b]?
theorem Zwg {b:Nat} {w:World} (h:b<w.heap.size) (W:World) (l:Nat) (o o':Obj) (hl:w.heap.size<=l) (_:W.heap[l]? =some o) (_:o.isCells=false) (_:o.isWalk=false):Zbd b W (W.putObj l o'):=World.putObj_heap_other (by omega)
theorem Zbin {W:World} {sb:Nat} {t:TypeId} {u:Value} (h:Boxed W sb t u) (n:Nat) (v:Value):Rs sb W ((W.drewN n).setCell ⟨sb,0,none⟩ v):=
 ⟨rfl,rfl,rfl,by simp[World.setCell,World.drewN],λk hk=>Below.heap_setCell (W.drewN n) _ _ _ hk,λo ho hc=>by
  have:some o=some (Obj.cells #[u] t (0,0)):=ho.symm.trans h
  cases this
  cases hc⟩
section
attribute [local go_sem] Oper.semAt_some
set_option maxRecDepth 100000
set_option maxHeartbeats 4000000
theorem Zxp (n:Nat) (hn:1<=n) (sb:Nat) (s0:ByteArray) (w:World) (hb:Boxed w sb 9 (.string s0)) (hs0:s0.size<=1000000000):
  Zbw Fence.wide n prog 95 #[.pointer (some ⟨sb,0,none⟩)] (λx:ByteArray=>#[.string x]) (Rs sb) (Zbd sb) (rawB s0) w:=by
 intro l J W hW hJ hY h0;have hbW:Boxed W sb 9 (.string s0):=(hW.block sb hb.lt).trans hb;clear hb hW;show CallsIn Fence.wide n prog 95 #[.func (.yield l) #[] #[],.pointer (some ⟨sb,0,none⟩)] W _;refine callsIn_of_wp func95 rfl trivial ?_ rfl;simp only[ntmps95,List.size_toArray,List.length_cons,List.length_nil,Nat.reduceAdd,Nat.reduceSub,Array.replicate_succ,Array.replicate_zero,List.push_toArray,List.append_toArray,List.nil_append,List.cons_append]
 gi_wp2
 gi_loopw [] (λwr=>∃(pre:List ByteArray) (s:ByteArray),rawB s0=pre++rawB s/\Boxed wr sb 9 (.string s)/\s.size<=1000000000/\J pre wr) (λwr=>Zgh wr sb)
 case atStart=>exact⟨[],s0,rfl,hbW,hs0,h0⟩
 case round=>
  obtain⟨pre,s,hx,hbx,hsm,hJs⟩:=hrel;have hc:=hbx.cell;have hf:=hbx.frozen
  by_cases hz:s.size=0
  ·have hx':rawB s0=pre:=by rw[hx,Zbgo hz,List.append_nil]
   have hpos:¬(0:Int)<(s.size:Int):=by omega
   have HX:=hid hx';have HJ:=hid hJs;clear hx hx' hJ hY h0 hJs
   gi_wp2
   go_end0
   exact⟨⟨_,rfl⟩,by rw[HX.out];exact HJ.out⟩
  ·have hpos:(0:Int)<(s.size:Int):=by omega
   have hI:∀F',CallsIn Fence.wide F' prog 96 #[.string s,.int .u8 10] wr λe w'=>e = .returned (.int .i64 (Lib.indexByte s.data.toList 10))/\w'=wr:=λF'=>(callsIn_wide (n:=F')).2 (Any.strings_IndexByte lLays_n137 s 10 wr)
   rcases Zbgn s hz with⟨e1,e2⟩|⟨k,e1,hk,e2⟩
   ·rw[e1]at hI
    have hb1:Boxed (wr.setCell ⟨sb,0,none⟩ (.string ⟨#[]⟩)) sb 9 (.string ⟨#[]⟩):=hbx.set _;obtain⟨fn,tmps,assign,body,hy,hR⟩:=hY pre s [] (wr.setCell ⟨sb,0,none⟩ (.string ⟨#[]⟩)) (by rw[hx,e2]) (hJ _ _ _ hJs (Zbin hbx 0 _));have HX:=hid (show rawB s0=(pre ++ [s])++rawB ⟨#[]⟩ by rw[hx,e2,Zbgo rfl,List.append_nil]);clear hx e1 e2 hJ hY h0 hJs
    gi_wp2_with (refine⟨trivial,?_⟩;gi_at_call 96;refine(hI _).mono ?_;rintro e w' ⟨rfl,rfl⟩)
    refine hR.mono ?_;rintro e W3 ⟨rfl,hJ3,hk3⟩;have hb3:Boxed W3 sb 9 (.string ⟨#[]⟩):=hk3.trans hb1
    gi_wp2
    go_roundw
    case rel=>exact⟨pre ++ [s],⟨#[]⟩,HX.out,hb3,by decide,hJ3⟩
    case measure=>rw[Zgi hb3,Zgi hbx];show 0<s.size;omega
   ·rw[e1]at hI
    obtain⟨S,hS⟩:∃S,s.extract (k+1) s.size=S:=⟨_,rfl⟩;obtain⟨X,hXs⟩:∃X,s.extract 0 (k+1)=X:=⟨_,rfl⟩;have hlen:S.size<s.size:=by rw[<-hS,ByteArray.size_extract];omega
    rw[hS,hXs]at e2;have hb1:Boxed (wr.setCell ⟨sb,0,none⟩ (.string S)).drew sb 9 (.string S):=Boxed.set _ hbx;obtain⟨fn,tmps,assign,body,hy,hR⟩:=hY pre X (rawB S) ((wr.setCell ⟨sb,0,none⟩ (.string S)).drew) (by rw[hx,e2]) (hJ _ _ _ hJs (Zbin hbx 1 _));have HX:=hid (show rawB s0=(pre ++ [X])++rawB S by rw[hx,e2];simp);have HL:=hid hlen;have hk0:(0:Int)<=(k:Int):=by omega
    have hk1:(k:Int)+1<=(s.size:Int):=by omega
    have hk2:((k:Int)+1).toNat=k+1:=by omega
    clear hx e1 e2 hJ hY h0 hJs hlen
    gi_wp2_with (refine⟨trivial,?_⟩;gi_at_call 96;refine(hI _).mono ?_;rintro e w' ⟨rfl,rfl⟩)
    gi_region
    gi_wp2
    refine hR.mono ?_;rintro e W3 ⟨rfl,hJ3,hk3⟩;have hb3:Boxed W3 sb 9 (.string S):=hk3.trans hb1
    gi_wp2
    go_roundw
    case rel=>exact⟨pre ++ [X],S,HX.out,hb3,by have:=HL.out;omega,hJ3⟩
    case measure=>rw[Zgi hb3,Zgi hbx];exact HL.out
end
end Go.Proofs.YtcpjfpdecklkgaaGreatDoor
