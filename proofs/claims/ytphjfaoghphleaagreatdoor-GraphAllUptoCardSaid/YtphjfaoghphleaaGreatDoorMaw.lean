import Derived.Test.YtphjfaoghphleaaGreatDoorMap
import Derived.Test.YtphjfaoghphleaaGreatDoorMav
import Derived.Shelf.SlSortCmp.NoneTotal
set_option maxRecDepth 100000
set_option maxHeartbeats 8000000
namespace Go.Proofs.YtphjfaoghphleaaGreatDoor
open Go.Lib (hid)
open Go.Proofs.Tryz Go.Sort
section
variable {α:Type} (le:α->α->Bool)
def Srt (l:List α):Prop:=l.Pairwise λa b=>le a b=true
def eqv (k x:α):Bool:=le k x&&le x k
structure St (xs ys:List α):Prop where
 sorted:Srt le ys
 same:∀k,ys.filter (eqv le k)=xs.filter (eqv le k)
structure Pre:Prop where
 tot:∀a b,le a b=true\/le b a=true
 tr:∀a b c,le a b=true->le b c=true->le a c=true
variable {le}
theorem Pre.rf (h:Pre le) (a:α):le a a=true:=by rcases h.tot a a with h|h<;>exact h
theorem Pre.not (h:Pre le) {a b:α} (d:le a b=false):le b a=true:=by
 rcases h.tot a b with c|c
 ·rw[d]at c;cases c
 ·exact c
theorem St.trans {xs ys zs:List α} (d:∀k,ys.filter (eqv le k)=xs.filter (eqv le k)) (c:St le ys zs):St le xs zs:=⟨c.sorted,λk=>(c.same k).trans (d k)⟩
inductive Blk (le:α->α->Bool) (n:Nat):List α->Prop
 | last (l:List α):l.length<=n->Srt le l->Blk le n l
 | cons (b l:List α):b.length=n->Srt le b->Blk le n l->Blk le n (b++l)
inductive Ful (le:α->α->Bool) (n:Nat):List α->Prop
 | nil:Ful le n []
 | cons (b l:List α):b.length=n->Srt le b->Ful le n l->Ful le n (b++l)
theorem Ful.snoc {n:Nat} {l b:List α} (h:Ful le n l) (e:b.length=n) (g:Srt le b):Ful le n (l++b):=by
 induction h with
 | nil=>simpa using Ful.cons b [] e g .nil
 | cons c l f d _ i=>rw[List.append_assoc];exact Ful.cons c _ f d i
theorem Ful.blk {n:Nat} {l t:List α} (h:Ful le n l) (f:Blk le n t):Blk le n (l++t):=by
 induction h with
 | nil=>exact f
 | cons c l e d _ g=>rw[List.append_assoc];exact Blk.cons c _ e d g
theorem Blk.one {n:Nat} {l:List α} (h:Blk le n l) (d:l.length<=n):Srt le l:=by
 cases h with
 | last _ _ c=>exact c
 | cons b l f c e=>
  have:l = []:=List.eq_nil_of_length_eq_zero (by rw[List.length_append]at d;omega);subst this;simpa using c
end
section
variable {α:Type} [Inhabited α]
variable {le:α->α->Bool} {lt:α->α->Bool} (hlt:∀a b,lt a b = !le b a)
include hlt
end
open Go.RowKit Go.Shelf
abbrev S3:=Option Addr×Nat×Nat
abbrev E5:=ByteArray×S3×S3×S3×S3
instance:Inhabited E5:=⟨(⟨#[]⟩,(none,0,0),(none,0,0),(none,0,0),(none,0,0))⟩
def enc5 (x:E5):List Value:=[.string x.1,.slice x.2.1.1 x.2.1.2.1 x.2.1.2.2,.slice x.2.2.1.1 x.2.2.1.2.1 x.2.2.1.2.2,.slice x.2.2.2.1.1 x.2.2.2.1.2.1 x.2.2.2.1.2.2,.slice x.2.2.2.2.1 x.2.2.2.2.2.1 x.2.2.2.2.2.2]
def cf5 (x y:E5):Int:=Lib.compareBytes x.1.data.toList y.1.data.toList
def le5 (x y:E5):Bool:=decide (cf5 x y<=0)
theorem Zio (x y:E5):cf5 y x = -cf5 x y:=Zjv _ _
theorem Zya (x y:E5):ltOf cf5 x y = !le5 y x:=by
 unfold ltOf le5;rw[Zio x y]
 by_cases h:cf5 x y<0
 ·have:¬ -cf5 x y<=0:=by omega
  simp[h,this]
 ·have: -cf5 x y<=0:=by omega
  simp[h,this]
theorem pre5:Pre le5:=by
 refine⟨λa b=>?_,λa b c d e=>?_⟩
 ·unfold le5
  rw[Zio a b];simp only[decide_eq_true_eq];omega
 ·unfold le5 at d e⊢
  simp only[decide_eq_true_eq]at d e⊢
  by_cases f:cf5 a b=0
  ·have:=Zjz _ _ f
   unfold cf5 at e⊢;rw[this];exact e
  ·by_cases g:cf5 b c=0
   ·have:=Zjz _ _ g
    unfold cf5 at d⊢;rw[<-this];exact d
   ·have:=Zjy a.1.data.toList b.1.data.toList c.1.data.toList (by show cf5 a b<0;omega) (by show cf5 b c<0;omega)
    show cf5 a c<=0;have h:cf5 a c<0:=this;omega
def SWL (w0:World) (blk:Nat) (l:List E5) (W:World):Prop:=SWK enc5 5 w0 blk 0 l.toArray W
def R5 (w0:World) (blk n:Nat):Prop:=∃d0:Array E5,d0.size=n/\RowK enc5 5 w0 blk 0 d0
theorem Zmn (x:E5):(enc5 x).length=5:=rfl
theorem Zmo (x:E5):∀v∈enc5 x,v.oneCell'=true:=by
 intro v a;unfold enc5 at a;simp at a
 rcases a with rfl|rfl|rfl|rfl|rfl<;>rfl
section
variable {w0 W:World} {blk:Nat} {l:List E5}
theorem SWL.holds (h:SWL w0 blk l W) (R:R5 w0 blk l.length):HoldsK enc5 5 W blk 0 l.toArray:=by
 obtain⟨b,a,R⟩:=R;exact SWK.holds h R.hblk R.hH (by simpa using a.symm)
theorem SWL.at (h:SWL w0 blk l W) (R:R5 w0 blk l.length) {i:Nat} {x:E5} (hx:l[i]? =some x):
  (W.cell? ⟨blk,i*5,none⟩=some (.string x.1)/\W.cell? ⟨blk,i*5+1,none⟩=some (.slice x.2.1.1 x.2.1.2.1 x.2.1.2.2)/\W.cell? ⟨blk,i*5+2,none⟩=some (.slice x.2.2.1.1 x.2.2.1.2.1 x.2.2.1.2.2)/\W.cell? ⟨blk,i*5+3,none⟩=some (.slice x.2.2.2.1.1 x.2.2.2.1.2.1 x.2.2.2.1.2.2)/\W.cell? ⟨blk,i*5+4,none⟩=some (.slice x.2.2.2.2.1 x.2.2.2.2.2.1 x.2.2.2.2.2.2))/\
   W.frozen? ⟨blk,i*5,none⟩=false/\W.frozen? ⟨blk,i*5+1,none⟩=false/\W.frozen? ⟨blk,i*5+2,none⟩=false/\W.frozen? ⟨blk,i*5+3,none⟩=false/\W.frozen? ⟨blk,i*5+4,none⟩=false:=by
 have e:=h.holds R;have f:=(List.getElem?_eq_some_iff.1 hx).1;have d:l.toArray[i]! =x:=by simp[hx]
 have a:∀c,c<5->W.cell? ⟨blk,i*5+c,none⟩=some (enc5 x)[c]! /\W.frozen? ⟨blk,i*5+c,none⟩=false:=λc b=>by
  have:=HoldsK.cell e (i:=i) (c:=c) (by simpa using f) b;rw[d]at this;simpa using this
 exact⟨⟨(a 0 (by omega)).1,(a 1 (by omega)).1,(a 2 (by omega)).1,(a 3 (by omega)).1,(a 4 (by omega)).1⟩,(a 0 (by omega)).2,(a 1 (by omega)).2,(a 2 (by omega)).2,(a 3 (by omega)).2,(a 4 (by omega)).2⟩
theorem SWL.le (h:SWL w0 blk l W):w0.heap.size<=W.heap.size:=SWK.le h
theorem SWL.drewN (h:SWL w0 blk l W) (n:Nat):SWL w0 blk l (W.drewN n):=SWK.drewN h n
theorem SWL.drew (h:SWL w0 blk l W):SWL w0 blk l W.drew:=SWK.drew h
theorem SWL.alloc (h:SWL w0 blk l W) (o:Obj):SWL w0 blk l (W.alloc o):=SWK.alloc h o
end
def Zbmc:Go.Shelf.Ren:=⟨fun|0=>0|1=>1|2=>2|6=>173|14=>224|15=>110|18=>333|20=>268|21=>269|22=>270|23=>271|24=>272|25=>273|26=>274|27=>275|28=>161|29=>162|46=>327|47=>218|48=>219|49=>328|50=>329|57=>357|60=>407|61=>408|62=>409|63=>410|64=>411|65=>412|66=>413|67=>414|68=>415|69=>416|70=>417|71=>418|72=>419|73=>420|74=>421|75=>427|n=>n,fun|0=>0|1=>1|2=>2|3=>3|4=>4|5=>5|6=>6|7=>7|8=>8|9=>9|10=>10|11=>11|12=>12|13=>13|14=>14|15=>15|16=>16|17=>17|18=>18|19=>19|20=>20|21=>21|22=>22|23=>220|24=>50|25=>172|27=>131|30=>224|37=>265|38=>158|39=>159|40=>127|42=>197|44=>310|45=>203|46=>204|47=>311|48=>312|49=>313|50=>208|51=>314|52=>210|53=>211|54=>212|55=>213|66=>258|67=>259|68=>260|69=>340|70=>262|71=>341|76=>307|77=>308|78=>359|81=>299|82=>403|83=>404|84=>405|85=>406|86=>407|87=>74|88=>408|89=>409|90=>410|91=>335|92=>411|93=>412|94=>413|95=>414|96=>356|n=>n,fun|n=>n⟩
theorem lSo:Go.Proofs.SlLaysF0.n6 prog Zbmc:={
 mixed:=by kernel_rfl
 f6:=⟨"slices.SortFunc[[]shipwright/api.Rule,shipwright/api.Rule]",by decide,func173.trans (congrArg some (by kernel_rfl))⟩
 f14:=⟨"slices.pdqsortCmpFunc[shipwright/api.Rule]",by decide,func224.trans (congrArg some (by kernel_rfl))⟩
 f15:=func110.trans (congrArg some (by kernel_rfl))
 f20:=⟨"slices.insertionSortCmpFunc[shipwright/api.Rule]",by decide,func268.trans (congrArg some (by kernel_rfl))⟩
 f21:=⟨"slices.heapSortCmpFunc[shipwright/api.Rule]",by decide,func269.trans (congrArg some (by kernel_rfl))⟩
 f22:=⟨"slices.breakPatternsCmpFunc[shipwright/api.Rule]",by decide,func270.trans (congrArg some (by kernel_rfl))⟩
 f23:=⟨"slices.choosePivotCmpFunc[shipwright/api.Rule]",by decide,func271.trans (congrArg some (by kernel_rfl))⟩
 f24:=⟨"slices.reverseRangeCmpFunc[shipwright/api.Rule]",by decide,func272.trans (congrArg some (by kernel_rfl))⟩
 f25:=⟨"slices.partialInsertionSortCmpFunc[shipwright/api.Rule]",by decide,func273.trans (congrArg some (by kernel_rfl))⟩
 f26:=⟨"slices.partitionEqualCmpFunc[shipwright/api.Rule]",by decide,func274.trans (congrArg some (by kernel_rfl))⟩
 f27:=⟨"slices.partitionCmpFunc[shipwright/api.Rule]",by decide,func275.trans (congrArg some (by kernel_rfl))⟩
 f28:=func161.trans (congrArg some (by kernel_rfl))
 f29:=func162.trans (congrArg some (by kernel_rfl))
 f46:=⟨"slices.siftDownCmpFunc[shipwright/api.Rule]",by decide,func327.trans (congrArg some (by kernel_rfl))⟩
 f47:=func218.trans (congrArg some (by kernel_rfl))
 f48:=func219.trans (congrArg some (by kernel_rfl))
 f49:=⟨"slices.medianAdjacentCmpFunc[shipwright/api.Rule]",by decide,func328.trans (congrArg some (by kernel_rfl))⟩
 f50:=⟨"slices.medianCmpFunc[shipwright/api.Rule]",by decide,func329.trans (congrArg some (by kernel_rfl))⟩
 f57:=⟨"slices.order2CmpFunc[shipwright/api.Rule]",by decide,func357.trans (congrArg some (by kernel_rfl))⟩
 t0:=underlying0
 a0:=isAgg0
 z0:=sizeOf0
 v0:=zeroValue0
 t3:=underlying3
 a3:=isAgg3
 z3:=sizeOf3
 v3:=zeroValue3
 t4:=underlying4
 a4:=isAgg4
 z4:=sizeOf4
 v4:=zeroValue4
 t5:=underlying5
 a5:=isAgg5
 z5:=sizeOf5
 v5:=zeroValue5
 t9:=underlying9
 a9:=isAgg9
 z9:=sizeOf9
 v9:=zeroValue9
 t22:=underlying22
 a22:=isAgg22
 z22:=sizeOf22
 v22:=zeroValue22
 t25:=underlying172
 a25:=isAgg172
 z25:=sizeOf172
 v25:=zeroValue172
 t39:=underlying159
 a39:=isAgg159
 z39:=sizeOf159
 v39:=zeroValue159
 t45:=underlying203
 a45:=isAgg203
 z45:=sizeOf203
 v45:=zeroValue203
 t46:=underlying204
 a46:=isAgg204
 z46:=sizeOf204
 v46:=zeroValue204
 t50:=underlying208
 a50:=isAgg208
 z50:=sizeOf208
 v50:=zeroValue208
 t53:=underlying211
 a53:=isAgg211
 z53:=sizeOf211
 v53:=zeroValue211
 t55:=underlying213
 a55:=isAgg213
 z55:=sizeOf213
 v55:=zeroValue213
 t66:=underlying258
 a66:=isAgg258
 z66:=sizeOf258
 v66:=zeroValue258
 t70:=underlying262
 a70:=isAgg262
 z70:=sizeOf262
 v70:=zeroValue262
 t76:=underlying307
 a76:=isAgg307
 z76:=sizeOf307
 v76:=zeroValue307
 t77:=underlying308
 a77:=isAgg308
 z77:=sizeOf308
 v77:=zeroValue308 }
theorem Zjq (x y:E5) (w:World):
  Calls prog 124 #[.agg (enc5 x).toArray,.agg (enc5 y).toArray] w λe w'=>e = .returned (.int .i64 (cf5 x y))/\w'=(w.alloc (.cells (enc5 x).toArray 50)).alloc (.cells (enc5 y).toArray 50):=by
 have b:=λw'=>Zkg x.1 y.1 w'
 obtain⟨r,c⟩:∃r,cf5 x y=r:=⟨_,rfl⟩;have a:Lib.compareBytes x.1.data.toList y.1.data.toList=r:=c;simp only[a]at b;have d:=hid b;rw[c];unfold enc5;clear c a b
 go_enter func124,ntmps124
 go_wp2_with fail
 refine(d.out _).mono ?_;rintro e f ⟨rfl,rfl⟩;go_wp2;go_ret;exact⟨rfl,rfl⟩
theorem Zjr (a b:Nat) (w:World):CmpLays prog 124 #[] enc5 5 cf5 a 0 b w:=by
 intro m d c _ x y;have:=Zjq x y (sortWorldK enc5 5 w a 0 m c d);rw[Array.append_empty];refine this.mono ?_;rintro e f ⟨rfl,rfl⟩;exact⟨rfl,0,#[.cells (enc5 x).toArray 50] ++ #[.cells (enc5 y).toArray 50],by rw[alloc_eq_grow,alloc_eq_grow,grow_grow];rfl⟩
theorem swo5:SWO (ltOf cf5):=by
 refine⟨λx=>?_,λx y z a b=>?_,λx y z a b=>?_⟩
 ·unfold ltOf
  have:=Zio x x;rw[decide_eq_false_iff_not];omega
 ·unfold ltOf at a b⊢
  rw[decide_eq_true_eq]at a b⊢;exact Zjy _ _ _ a b
 ·rw[Zya]at a b⊢
  have c:le5 y x=true:=by simpa using a
  have d:le5 z y=true:=by simpa using b
  have:=pre5.2 z y x d c;rw[this];rfl
theorem Zbmd (a cap:Nat) (d:Array E5) (w:World) (i:HoldsK enc5 5 w a 0 d) (b:a<w.heap.size) (g:d.size<4611686018427387904):
  Calls prog 173 #[.slice (some ⟨a,0,none⟩) d.size cap,.func (.func 124) #[] #[]] w λe w'=>e = .returned (.tuple #[])/\∃c n os,PermIn 0 d.size d c/\SortedIn (ltOf cf5) 0 d.size c/\w'=sortWorldK enc5 5 w a 0 n c os:=by
 have h:Zbmc.f 6=173:=by kernel_rfl
 have:=AnyQ.slices_SortFunc lSo 5 isAgg50 sizeOf50 enc5 Zmn Zmo cf5 swo5 124 #[] a 0 cap d w (enters_of func124 (by kernel_rfl) rfl) (Zjr a _ w) i b g
 rwa [h]at this
theorem Zsp:(prog.info? 50).map (λi=>(i.zero,i.size,i.bytes))=some (some (.agg #[.string ⟨#[]⟩,.slice none 0 0,.slice none 0 0,.slice none 0 0,.slice none 0 0]),5,112):=by kernel_rfl
def CyI (w:World) (B:Nat) (pre:List (List Value)) (W:World):Prop:=(∃v,Boxed W B 22 v/\W.ownsRow (B+1) 50 5 v pre.length pre.flatten/\True)/\Below w.heap.size w W/\B+1<=W.heap.size
theorem Zlp {w:World} {B:Nat} (s:List (List Value)) (X Y:World) (h:CyI w B s X) (i:w.heap.size<=B) (a:Below X.heap.size X Y):CyI w B s Y:=by
 obtain⟨⟨v,f,e,d⟩,b,g⟩:=h;refine⟨⟨v,(a.block B (by omega)).trans f,?_,d⟩,b.trans (a.mono (by omega)),by have:=a.size;omega⟩;exact World.ownsRow.kept (row:=none) e ⟨a.os,a.tape,a.output,a.size,λk c _=>a.block k c⟩ (by cases Value.ownBlock _<;>simp)
theorem Zlo (w:World) (L B:Nat) (b:w.heap.size<=L):OwnFrom L (CyI w B):=
 OwnFrom.and (Own.from (holdsRow_own (B+1) B 22 50 5 (λa:List (List Value)=>a.length) (λa=>a.flatten) (λ_ _=>True)) _) (OwnFrom.and (ownFrom_below (Nat.le_refl _) b) λ_ _ _ _ h c _=>Nat.le_trans h c.size)
theorem Zwj {A B:World} (h:Below A.heap.size A B):KeepsOthers A B:=⟨h.size,λk _ a _=>(h.block k (Array.getElem?_eq_some_iff.1 a).1).trans a⟩
theorem Zim (w:World) (a:List Value) (t:TypeId):∀j u,a[j]? =some u->(w.alloc (.cells a.toArray t)).cell? ((⟨w.heap.size,0,none⟩:Addr).add j)=some u:=by
 intro j u b;rw[Addr.add_lit,Nat.zero_add];simp only[World.cell?,alloc_at,Option.isSome_none,Bool.false_eq_true,if_false];rw[List.getElem?_toArray];exact b
theorem Zbdu {B i:Nat} {w:World} {v:Value} {e:TypeId} {c n:Nat} {xs:List Value} (h:w.ownsRow B e c v n xs) (l:i<=B):w.ownsRow i e c v n xs:=by
 obtain⟨j,k|⟨g,d,f,a,b,r⟩⟩:=h
 ·exact⟨j,.inl k⟩
 ·exact⟨j,.inr ⟨g,d,f,a,Nat.le_trans l b,r⟩⟩
section
attribute [local go_sem] Oper.semAt_some
theorem Zdo (n y:Nat) (hn:4<=n) (a:Option Addr) (c:Nat) (b:List (List Value)) (w:World) (hb:Boxed w y 22 (.slice a b.length c)) (hr:IsRow w (.slice a b.length c) 5 b) (h5:∀r∈b,∃s Z U Q p2 V R p3 X S p4 Y T,r = [.string s,.slice Z U Q,.slice p2 V R,.slice p3 X S,.slice p4 Y T]) (a0:Option Addr) (G:b≠[]->a0=a) (m:∀g,(a0.map Addr.block)=some g->g<w.heap.size) (au:b.length<=1000000000):
  CallsIn Fence.wide n prog 223 #[.slice none 0 0,.func (.func 174) #[] #[.pointer (some ⟨y,0,none⟩)]] w λe w'=>∃v,e = .returned v/\w'.ownsRow w.heap.size 50 5 v b.length b.flatten/\Below w.heap.size w w':=by
 obtain⟨i0,hi,al,am,an⟩:=info_parts Zsp;have mixed:prog.follows .mixedOrders=true:=by kernel_rfl
 have bO:=Boxed.new w 22 (.slice none 0 0);have p:Below w.heap.size w (w.alloc (.cells #[.slice none 0 0] 22)):=(Below.refl _ w).alloc (Nat.le_refl _) _;have H:Boxed (w.alloc (.cells #[.slice none 0 0] 22)) y 22 (.slice a b.length c):=(p.block y hb.lt).trans hb;have J:=hr.below p;have ae:=hb.lt;refine callsIn_of_wp_marks func223 rfl trivial ?_ rfl;simp only[ntmps223,List.size_toArray,List.length_cons,List.length_nil,Nat.reduceAdd,Nat.reduceSub,Array.replicate_succ,Array.replicate_zero,List.push_toArray,List.append_toArray,List.nil_append,List.cons_append]
 gi_wp2
 refine Zbuc (xs:=b) rfl (by omega) (gf:=174) (lb:=#[.pointer (some ⟨y,0,none⟩)]) rfl trivial (enters_of func174 (by kernel_rfl) rfl)
  (Zbsn _ (by omega) y a c b _ H J h5 a0 G) (Below.refl _ _) (λ_=>rfl) (λA B h=>Zwj h) (λ_ _ _ h k=>⟨k.1.trans h.1,λg E=>(k.2 g E).trans (h.2 g E)⟩) (Zwh (by simp;omega) (λg E=>by have:=m g E;simp;omega))
  (CyI w w.heap.size) (λs A B h hr=>Zlp s A B h (Nat.le_refl _) hr) (Zlo w _ _ (by simp)) ⟨⟨_,bO,World.ownsRow_nil _ _ _ _,trivial⟩,p,by simp⟩
  (λx a' W=>∃M:Nat,w.heap.size+1<=M/\W.heap[M]? =some (.cells x.toArray 50 (0,0))/\a' = { tmps:=#[.slice none 0 0,.func (.func 174) #[] #[.pointer (some ⟨y,0,none⟩)],.pointer (some ⟨w.heap.size,0,none⟩),undef,.slice none 0 0,.pointer (some ⟨M,0,none⟩),.func (.func 174) #[] #[.pointer (some ⟨y,0,none⟩)],.agg x.toArray,undef,undef,undef,undef,undef],defers:=[] })
  ?ax ?assign ?body ?done
 case ax=>
  rintro x a' W l o o' ⟨M,h1,h3,h4⟩ hl ho hc;refine⟨M,h1,(World.putObj_heap_other ?_).trans h3,h4⟩;rintro rfl;rw[h3]at ho
  cases ho
  cases hc
 case assign=>
  intro l f x ag W K hx hI O;obtain⟨s,Z,U,Q,p2,V,R,p3,X,S,p4,Y,T,rfl⟩:=h5 x (by rw[hx];simp);have HK:=hid O;have HI:=hid hI;have F:=hid m;have hz:w.heap.size+1<=W.heap.size:=hI.2.2;have HZ:=hid hz;clear O hI hx hz hb hr h5 p H J bO G m
  gi_wp2
  refine HK.out _ _ ((KeepsOthers.alloc W _).from _) ⟨Below.heap_alloc _ _ _ (by have:=HZ.out;omega),λg E=>Below.heap_alloc _ _ _ (by have:=F.out g E;have:=HZ.out;omega)⟩ (Zlp _ _ _ HI.out (Nat.le_refl _) ((Below.refl _ _).alloc (Nat.le_refl _) _)) ⟨W.heap.size,HZ.out,alloc_at W _,rfl⟩
 case body=>
  rintro l f x ag a' W hx hI ⟨M,ac,q,rfl⟩;obtain⟨s,Z,U,Q,p2,V,R,p3,X,S,p4,Y,T,rfl⟩:=h5 x (by rw[hx];simp);obtain⟨⟨v,P,i,_⟩,hB,hL⟩:=hI;have ar:f.length+1<=b.length:=by rw[hx,List.length_append,List.length_cons];omega
  have hc:=P.cell;have hf:=P.frozen;obtain⟨e0,e1,e2,e3,e4,_⟩:=cells5 q;have HV:=hid P;have C:=hid i;have HB:=hid hB;have HL:=hid hL;have HX:=hid hx;have ao:=hid ac;have ah:=hid ae;have F:=hid m;clear P i hB hL hx ac q hb hr h5 p H J bO G m ae;have aj:f.length+1<=maxLen:=by unfold maxLen;omega
  gi_wp2_with (gi_at_builtin;refine wpListIn_append_own _ rfl _ _ 22 rfl (w.heap.size+1) 50 i0 _ 5 112 underlying22 hi al am an rfl (by decide) v _ _ rfl (C.out.alloc _) ⟨W.heap.size,0,none⟩ 1 1 [.string s,.slice Z U Q,.slice p2 V R,.slice p3 X S,.slice p4 Y T] rfl rfl ?qc2 ?qc3 aj ?qc5 ?qc6 ?_)
  case qc2=>exact Zim W [.string s,.slice Z U Q,.slice p2 V R,.slice p3 X S,.slice p4 Y T] _
  case qc3=>intro u hu;simp only[List.mem_cons,List.not_mem_nil,or_false]at hu;rcases hu with rfl|rfl|rfl|rfl|rfl<;>rfl
  case qc5=>omega
  case qc6=>
    have h1:w.heap.size+1<=W.heap.size:=HL.out;rw[World.size_alloc];omega
  intro v' w1 d t ak;obtain⟨g',j,rfl⟩:=ownsRow_succ d;have ab:w.heap.size+1<=W.heap.size:=HL.out;obtain⟨L,af,ad,I,z,ai⟩:=Zgj HV.out C.out (Nat.lt_succ_self _) ab d t;have ap:=L.cell;have aq:=L.frozen;have aa:=hid (show KeepsFrom (w.heap.size+1) W (w1.setCell ⟨w.heap.size,0,none⟩ (.slice (some ⟨g',0,none⟩) (f.length+1) j))/\Zbe y a0 W (w1.setCell ⟨w.heap.size,0,none⟩ (.slice (some ⟨g',0,none⟩) (f.length+1) j))/\CyI w w.heap.size (f ++ [[.string s,.slice Z U Q,.slice p2 V R,.slice p3 X S,.slice p4 Y T]]) (w1.setCell ⟨w.heap.size,0,none⟩ (.slice (some ⟨g',0,none⟩) (f.length+1) j))from
   ⟨I.from _,⟨z.block y ah.out,λg E=>z.block g (F.out g E)⟩,⟨_,af,by rw[List.length_append,List.flatten_append];simpa using ad,trivial⟩,HB.out.trans z,Nat.le_trans ab I.size⟩)
  clear L af ad I z ai d t ak
  gi_wp2
  exact aa.out
 case done=>
  rintro D W hD ⟨⟨v,P,i,_⟩,hB,hL⟩ O;have hc:=P.cell
  gi_wp2
  refine⟨by simp,.inl ⟨_,_,rfl,run_takeDeferred O,?_⟩⟩;exact⟨_,results_tmp rfl _ _ _,v,rfl,ownsRow_putObj (Zbdu i (Nat.le_succ _)) _ O rfl,hB.trans (belowK_b (w:=w) (Nat.le_refl _) W D _ _ (by simp at hD;omega) O rfl rfl)⟩
end
theorem Zpc:∀(l:List E5) (t:Nat),t<l.length*5->((l.map enc5).flatten)[t]? =some (enc5 l[t/5]!)[t % 5]!
 | [],t,h=>by simp at h
 | x::l,t,h=>by
  simp only[List.map_cons,List.flatten_cons]
  by_cases a:t<5
  ·rw[List.getElem?_append_left (by rw[Zmn];exact a),Nat.div_eq_of_lt a,Nat.mod_eq_of_lt a]
   rw[List.getElem?_eq_getElem (by rw[Zmn];exact a),getElem!_pos _ t (by show t<(enc5 ((x::l)[0]!)).length;rw[Zmn];exact a)];rfl
  ·rw[List.getElem?_append_right (by rw[Zmn];omega),Zmn,Zpc l (t-5) (by simp at h;omega)]
   rw[show t/5=(t-5)/5+1 by omega,show t % 5=(t-5) % 5 by omega];simp
theorem Zpd:∀l:List E5,((l.map enc5).flatten).length=l.length*5
 | []=>by simp
 | x::l=>by simp only[List.map_cons,List.flatten_cons,List.length_append,Zpd l,Zmn,List.length_cons];omega
theorem SWL.fr {w0 W:World} {a:Nat} {l:List E5} (h:SWL w0 a l W):Fr (λb=>b=a) w0 W:=by
 have c:=h.le;obtain⟨m,g,rfl⟩:=h;refine⟨rfl,rfl,rfl,c,λk f d=>?_⟩;show((w0.heap.modify a (onCells (putCells id 0 (flatK enc5 5 l.toArray))))++g)[k]? =w0.heap[k]?;rw[Array.getElem?_append_left (by rw[Array.size_modify];exact f),Array.getElem?_modify,if_neg (λe=>d e.symm)]
theorem SWL.block {w0 W:World} {a:Nat} {l:List E5} {c:Array Value} {T:TypeId} {e:Nat×Nat} (h:SWL w0 a l W) (f:w0.heap[a]? =some (.cells c T e)):∃b,W.heap[a]? =some (.cells b T e)/\b.size=c.size:=by
 obtain⟨m,g,rfl⟩:=h;have d:=(Array.getElem?_eq_some_iff.1 f).1;refine⟨putCells id 0 (flatK enc5 5 l.toArray) c,?_,by unfold putCells;simp⟩;show((w0.heap.modify a (onCells (putCells id 0 (flatK enc5 5 l.toArray))))++g)[a]? =_;rw[Array.getElem?_append_left (by rw[Array.size_modify];exact d),Array.getElem?_modify,if_pos rfl,f];rfl
theorem Zbeu {Q:List Value->RuleS->Prop} (c:∀r x,Q r x->∃e:E5,r=enc5 e/\e.1=x.name):∀(a:List (List Value)) (xs:List RuleS),AllA Q a xs->
  ∃L:List (E5×RuleS),a=L.map (λp=>enc5 p.1)/\xs=L.map Prod.snd/\∀p∈L,Q (enc5 p.1) p.2/\p.1.1=p.2.name
 | [],[],_=>⟨[],rfl,rfl,by simp⟩
 | [],_::_,h=>by have:=h.1;simp at this
 | _::_,[],h=>by have:=h.1;simp at this
 | r::a,x::xs,h=>by
  obtain⟨e,d,k⟩:=c r x (h.2 0 r x rfl rfl);obtain⟨L,f,g,i⟩:=Zbeu c a xs ⟨by have:=h.1;simpa using this,λj m n l hx=>h.2 (j+1) m n (by simpa using l) (by simpa using hx)⟩;refine⟨(e,x)::L,by rw[f,d];rfl,by rw[g];rfl,λp b=>?_⟩
  rcases List.mem_cons.1 b with rfl|b
  ·exact⟨d▸h.2 0 r x rfl rfl,k⟩
  ·exact i p b
theorem Zbit {w:World} {r:List Value} {x:RuleS} (h:RuleI w r x):∃e:E5,r=enc5 e/\e.1=x.name:=by
 obtain⟨p,q,o,s,rfl,k,l,m,n⟩:=h;obtain⟨a,f,rfl⟩:=Zue k;obtain⟨b,g,rfl⟩:=Zue l;obtain⟨c,i,rfl⟩:=Zue m;obtain⟨d,j,rfl⟩:=Zbov n;exact⟨(x.name,(a,x.ins.length,f),(b,x.outs.length,g),(c,x.after.length,i),(d,x.steps.length,j)),rfl,rfl⟩
theorem Zbey {α β:Type} (f:α->β) {l m:List β} (h:l.Perm m):∀L:List α,m=L.map f->∃P:List α,P.Perm L/\P.map f=l:=by
 induction h with
 | nil=>intro L e;exact⟨L,List.Perm.refl _,e.symm⟩
 | cons x _ q=>
  intro L e
  cases L with
  | nil=>cases e
  | cons a L=>
   rw[List.map_cons]at e;obtain⟨c,d⟩:=List.cons.inj e;obtain⟨P,g,i⟩:=q L d;exact⟨a::P,g.cons a,by rw[List.map_cons,i,c]⟩
 | swap x y l=>
  intro L e
  cases L with
  | nil=>cases e
  | cons a L=>
   cases L with
   | nil=>cases e
   | cons b L=>
    simp only[List.map_cons,List.cons.injEq]at e;obtain⟨c,d,n⟩:=e;exact⟨b::a::L,List.Perm.swap _ _ _,by simp only[List.map_cons,c,d,n]⟩
 | trans _ _ j k=>
  intro L e;obtain⟨P,g,i⟩:=k L e;obtain⟨Q,o,p⟩:=j P i.symm;exact⟨Q,o.trans g,p⟩
def Zac (ys:List RuleS):Prop:=ys.Pairwise λx y=>Lib.compareBytes x.name.data.toList y.name.data.toList<=0
theorem Zbmp (d a:Array E5) (l:PermIn 0 d.size d a) (m:SortedIn (ltOf cf5) 0 d.size a):a.toList.Perm d.toList/\a.toList.Pairwise λx y=>cf5 x y<=0:=by
 obtain⟨g,_,f⟩:=l;refine⟨?_,?_⟩
 ·rw[Array.extract_size]at f
  rwa [show a.extract 0 d.size=a by rw[<-g];exact Array.extract_size]at f
 ·refine List.pairwise_iff_getElem.2 λi j h k c=>?_
  have b:i<a.size:=by simpa using h
  have e:j<a.size:=by simpa using k
  have:=m i j (Nat.zero_le _) c (by omega);rw[getElem!_pos a j e,getElem!_pos a i b]at this;unfold ltOf at this;rw[decide_eq_false_iff_not]at this;have n:=Zio a[i] a[j];simp only[Array.getElem_toList];omega
theorem Zbmh (B:Nat) (v:Value) (rs:List RuleS) (i:List (List Value)) (w0 w:World) (hB:w0.heap.size=B) (s:Go.RowKit.Below B w0 w) (d:w.ownsRow B 50 5 v i.length i.flatten) (J:AllA (RuleI w0) i rs) (hn:rs.length<=1000000):
  Calls prog 173 #[v,.func (.func 124) #[] #[]] w λe w'=>e = .returned (.tuple #[])/\∃ys,ys.Perm rs/\Zac ys/\RulesI w' v ys/\Go.RowKit.Below B w0 w':=by
 obtain⟨L,rfl,rfl,W⟩:=Zbeu (λr x h=>Zbit h) i _ J;have y:(L.map (λp=>enc5 p.1)).length=L.length:=by simp
 obtain⟨R,z⟩:=id d
 rcases z with⟨hv,h0⟩|⟨g,u,ad,hv,V,hg,S,aa,ab,ac⟩
 ·subst hv
  rw[y]at h0;obtain rfl:L = []:=List.eq_nil_of_length_eq_zero h0;have e6:Zbmc.f 6=173:=by kernel_rfl
  have:=AnyF.slices_SortFunc_none lSo none 0 (.func (.func 124) #[] #[]) w;rw[e6]at this;refine this.mono ?_;rintro e w' ⟨rfl,rfl⟩;exact⟨rfl,[],List.Perm.refl _,List.Pairwise.nil,⟨[],⟨none,0,rfl,Nat.le_refl _,Nat.zero_le _,λh=>absurd rfl h⟩,⟨rfl,λj r x q=>by simp at q⟩⟩,s⟩
 ·subst hv
  rw[y]at d S ac R;rw[List.length_map]at hn;rw[y];have Q:=(Array.getElem?_eq_some_iff.1 hg).1;obtain⟨es,A⟩:∃es,L.map Prod.fst=es:=⟨_,rfl⟩;have G:L.map (λp=>enc5 p.1)=es.map enc5:=by rw[<-A,List.map_map];rfl
  have c:es.length=L.length:=by rw[<-A,List.length_map]
  have hH:HoldsK enc5 5 w g 0 es.toArray:=by
   intro j t;rw[size_flatK,List.size_toArray,c]at t;rw[Nat.zero_add,get_flatK _ _ _ _ (by rw[List.size_toArray,c];exact t)];refine⟨?_,d.frozenAt j⟩;rw[d.cellAt j t,G,Zpc es j (by rw[c];exact t)];simp
  have T:=Zbmd g u es.toArray w hH Q (by rw[List.size_toArray,c];omega);rw[List.size_toArray,c]at T;refine T.mono ?_;rintro e w' ⟨rfl,d',m,U,hp,hs,rfl⟩;obtain⟨ys,rfl⟩:∃ys:List E5,d'=ys.toArray:=⟨d'.toList,by simp⟩;obtain⟨q1,q2⟩:=Zbmp es.toArray ys.toArray (by rw[List.size_toArray,c];exact hp) (by rw[List.size_toArray,c];exact hs);simp only at q1 q2;have l:ys.length=L.length:=by rw[q1.length_eq];exact c
  have Z:SWL w g ys (sortWorldK enc5 5 w g 0 m ys.toArray U):=⟨m,U,rfl⟩;obtain⟨H,O,M⟩:=Z.block hg;have o:=Z.fr;have C:=Z.holds ⟨es.toArray,by rw[List.size_toArray,c,l],Zmn,Zmo,hH,Q⟩;have K:Go.RowKit.Below B w0 (sortWorldK enc5 5 w g 0 m ys.toArray U):=⟨o.os.trans s.os,o.tape.trans s.tape,o.output.trans s.output,Nat.le_trans s.size o.size,λk hk=>(o.block k (by have:=s.size;omega) (by omega)).trans (s.block k hk)⟩;have E:ys.Perm (L.map Prod.fst):=by rw[A];exact q1
  obtain⟨P,n,I⟩:=Zbey Prod.fst E L rfl;have X:P.length=L.length:=n.length_eq;refine⟨rfl,P.map Prod.snd,n.map _,?_,⟨P.map λp=>enc5 p.1,?_,?_⟩,K⟩
  ·unfold Zac
   rw[List.pairwise_map];rw[<-I,List.pairwise_map]at q2;refine q2.imp_of_mem fun {a b} ha s h=>?_
   have ea:=(W a (n.mem_iff.1 ha)).2;have eb:=(W b (n.mem_iff.1 s)).2;rw[<-ea,<-eb];exact h
  ·have Y:P.map (λp=>enc5 p.1)=ys.map enc5:=by rw[<-I,List.map_map];rfl
   have D:(sortWorldK enc5 5 w g 0 m ys.toArray U).ownsRow B 50 5 (.slice (some ⟨g,0,none⟩) L.length u) (P.map λp=>enc5 p.1).length (P.map λp=>enc5 p.1).flatten:=by
    rw[List.length_map,X,Y];refine⟨by rw[Zpd,l],.inr ⟨g,u,H,rfl,V,O,S,aa,by rw[M];exact ab,?_⟩⟩;refine List.ext_getElem? λj=>?_
    by_cases t:j<L.length*5
    ·rw[List.getElem?_take_of_lt t,Zpc ys j (by rw[l];exact t)]
     have:=(C j (by rw[size_flatK,List.size_toArray,l];exact t)).1;rw[Nat.zero_add,get_flatK _ _ _ _ (by rw[List.size_toArray,l];exact t)]at this;unfold World.cell? at this;rw[O]at this;simpa using this
    ·rw[List.getElem?_eq_none (by rw[List.length_take];omega),List.getElem?_eq_none (by rw[Zpd,l];omega)]
   have:=Zbij D (λr q=>by obtain⟨p,_,rfl⟩:=List.mem_map.1 q;rfl);exact this
  ·refine⟨by simp,λj r x q hx=>?_⟩
   rw[List.getElem?_map]at q hx
   cases F:P[j]? with
   | none=>rw[F]at q;cases q
   | some p=>
    rw[F]at q hx;simp only[Option.map_some,Option.some.injEq]at q hx;subst q hx;exact(W p (n.mem_iff.1 (List.mem_of_getElem? F))).1.below (by rw[hB];exact K)
open Go.Maps
def ValRw (t:TypeId) (w:World) (g:Nat) (ms:List Value):Prop:=w.heap[g]? =some (.cells ms.toArray t (0,0))
theorem ValRw.cell {t:TypeId} {w:World} {g:Nat} {a:List Value} (h:ValRw t w g a) {k:Nat} {m:Value} (b:a[k]? =some m):w.cell? ⟨g,k,none⟩=some m/\w.frozen? ⟨g,k,none⟩=false:=by
 have h:w.heap[g]? =some (.cells a.toArray t (0,0)):=h;refine⟨?_,by simp[World.frozen?,h]⟩;simp only[World.cell?,h,Option.isSome_none,Bool.false_eq_true,if_false];rw[List.getElem?_toArray,b]
theorem ValRw.set {t:TypeId} {w:World} {g:Nat} {a:List Value} (h:ValRw t w g a) (k:Nat) (b:Value):ValRw t (w.setCell ⟨g,k,none⟩ b) g (a.set k b):=by
 have:=heap_set k b (show w.heap[g]? =some (.cells a.toArray t (0,0))from h);unfold ValRw;rw[this,List.setIfInBounds_toArray]
theorem Zbsd (t:TypeId) (z:Value) (w:World) (n:Nat):ValRw t (w.alloc (.cells (madeCells #[z] n) t)) w.heap.size (List.replicate n z):=by
 unfold ValRw;rw[alloc_at]
 congr 2
 apply Array.ext';unfold madeCells;rw[Array.toList_map];apply List.ext_getElem?;intro i;rw[List.getElem?_map,Array.toList_range,List.getElem?_replicate]
 by_cases a:i<n
 ·rw[List.getElem?_range a,if_pos a];simp[Nat.mod_one]
 ·rw[List.getElem?_eq_none (by simp;omega),if_neg a];rfl
theorem ValRw.strs {w:World} {g:Nat} {xs:List ByteArray} (h:ValRw 9 w g (xs.map Value.string)) (a:xs.length<=maxLen):IsStrs w (.slice (some ⟨g,0,none⟩) xs.length xs.length) xs:=by
 refine⟨_,_,rfl,Nat.le_refl _,a,λ_=>⟨g,0,rfl,(Array.getElem?_eq_some_iff.1 h).1,λj x hx=>?_⟩⟩;rw[Nat.zero_add];exact(h.cell (by rw[List.getElem?_map,hx];rfl)).1
theorem Zyg (n:Nat) (f:n<=1000000000) (w:World):(Instr.makeSlice 47 (.int .i64 (n:Int)) (.int .i64 (n:Int))).run prog w = .ok (.slice (some ⟨w.heap.size,0,none⟩) n n) (w.alloc (.cells (madeCells #[.string ⟨#[]⟩] n) 9)):=by
 obtain⟨e,b,d,c,a⟩:=info_parts Zsr;have:=run_make (P:=prog) w 47 9 e (.string ⟨#[]⟩) underlying47 b d .i64 .i64 n n (by omega) (Int.le_refl _) (by rw[a];omega) (by omega);rw[c,show(Value.string ⟨#[]⟩).cells = #[.string ⟨#[]⟩]from rfl]at this;simpa using this
theorem IsInts.at {w:World} {v:Value} {xs:List Nat} (h:IsInts w v xs):∃a c,v = .slice a xs.length c/\xs.length<=c/\c<=maxLen/\∀(j:Nat) x,xs[j]? =some x->∃b o,a=some ⟨b,o,none⟩/\∀w',Below w.heap.size w w'->w'.cell? ⟨b,o+j,none⟩=some (.int .i64 (x:Int)):=by
 obtain⟨a,c,rfl,d,e,f⟩:=h;refine⟨a,c,rfl,d,e,λj x hx=>?_⟩;obtain⟨b,o,rfl,g,i⟩:=f (by rintro rfl;simp at hx);exact⟨b,o,rfl,λw' k=>(k.cell (p:=⟨b,_,none⟩) g).trans (i j x hx)⟩
theorem Zzy (v V:Value) (rs:List RuleS) (ps:List Nat) (w:World) (L:RulesI w v rs) (j:IsInts w V ps) (x:∀p∈ps,p<rs.length) (_hn:rs.length<=1048576) (ad:ps.length<=1048576):
  Calls prog 128 #[v,V] w λe w'=>∃u,e = .returned u/\IsStrs w' u (ps.map (nmAt rs))/\Below w.heap.size w w':=by
 obtain⟨va,vc,rfl,ae,M⟩:=Zbjn L;obtain⟨pa,pc,rfl,t,J,s⟩:=j.at;obtain⟨n,i⟩:∃n,w.heap.size=n:=⟨_,rfl⟩;have ac:=Zyg ps.length (by omega);obtain⟨W1,d⟩:∃W,w.alloc (.cells (madeCells #[.string ⟨#[]⟩] ps.length) 9)=W:=⟨_,rfl⟩;have f:Below w.heap.size w W1:=by rw[<-d];exact(Below.refl _ _).alloc (Nat.le_refl _) _
 have z:ValRw 9 W1 n (List.replicate ps.length (Value.string ⟨#[]⟩)):=by rw[<-d,<-i];exact Zbsd _ _ _ _
 rw[i]at f⊢;have Z:=hid L;have D:=hid s;have E:=hid x;have Y:=hid i;have C:=hid f;have F:=hid z;have G:=hid d;unfold maxLen at M J;clear L j s x f z d
 go_enter func128,ntmps128
 go_wp2_with fail
 rw[G.out]
 go_loopw [6,7,13,14,15,16,17,18,19,20,21,22,23,24,25,26] (λ_ _ P _ _ _ _ _ _ _ _ _ _ _ _ _ wr=>∃k:Nat,k<=ps.length/\P = .int .i64 (k:Int)/\ValRw 9 wr n ((ps.take k).map (λp=>Value.string (nmAt rs p))++List.replicate (ps.length-k) (Value.string ⟨#[]⟩))/\Below n w wr) (λ_ _ P _ _ _ _ _ _ _ _ _ _ _ _ _ _=>ps.length-(intOf P).toNat)
 case atStart=>exact⟨0,Nat.zero_le _,rfl,by simpa using F.out,C.out⟩
 case round=>
  obtain⟨k,U,rfl,l,B⟩:=hrel;have HR:=hid l;have Q:=hid B
  by_cases I:k<ps.length
  ·obtain⟨p,j⟩:∃p,ps[k]? =some p:=⟨ps[k],List.getElem?_eq_getElem I⟩
   obtain⟨b,o,q1,T⟩:=D.out k p j;subst q1;have h:Below w.heap.size w wr:=by rw[Y.out];exact B
   have cx:=T wr h;have t:=E.out p (List.mem_of_getElem? j);obtain⟨y,O⟩:∃y,rs[p]? =some y:=⟨rs[p],List.getElem?_eq_getElem t⟩;obtain⟨g,o2,aa,a1,c1,a2,c2,a3,c3,a4,c4,e,hg,K,A⟩:=Zbjm Z.out O;obtain⟨R,_,S⟩:=Value.slice.inj e;subst R S;obtain⟨e0,R,e2,S,e4⟩:=A wr h;have H:(k:Int)<(ps.length:Int):=by omega
   have ab:(0:Int)<=(k:Int):=by omega
   have ag:(p:Int)<(rs.length:Int):=by omega
   have af:(0:Int)<=(p:Int):=by omega
   have r:nmAt rs p=y.name:=by unfold nmAt;rw[O];rfl
   obtain⟨f1,f2⟩:=l.cell (k:=k) (m:= .string ⟨#[]⟩) (by rw[List.getElem?_append_right (by simp<;>omega),List.length_map,List.length_take,Nat.min_eq_left U,Nat.sub_self,List.getElem?_replicate,if_pos (by omega)]);have c:=l.set k (.string y.name);have a:((ps.take k).map (λp=>Value.string (nmAt rs p))++List.replicate (ps.length-k) (Value.string ⟨#[]⟩)).set k (.string y.name)=(ps.take (k+1)).map (λp=>Value.string (nmAt rs p))++List.replicate (ps.length-(k+1)) (Value.string ⟨#[]⟩):=by
    have e:ps.length-k=(ps.length-(k+1))+1:=by omega
    rw[List.set_append_right _ _ (by simp;omega),List.length_map,List.length_take,Nat.min_eq_left U,Nat.sub_self,e,List.replicate_succ,List.set_cons_zero,List.take_add_one,j,List.map_append,List.append_assoc];simp[r]
   rw[a]at c;have q:=hid c;clear c a l B j O A K hg T h r;go_wp2;go_roundw
   case rel=>exact⟨k+1,by omega,by go_num,q.out,Q.out.setCell (p:=⟨n,k,none⟩) (Nat.le_refl _) _⟩
   case measure=>simp[intOf];omega
  ·have H:¬(k:Int)<(ps.length:Int):=by omega
   obtain rfl:k=ps.length:=by omega
   rw[List.take_length,Nat.sub_self,List.replicate_zero,List.append_nil,show ps.map (λp=>Value.string (nmAt rs p))=(ps.map (nmAt rs)).map Value.string by rw[List.map_map];rfl]at l;have X:=hid (l.strs (by rw[List.length_map];unfold maxLen;omega));clear l B;go_wp2;go_ret;exact⟨_,rfl,by have:=X.out;rw[List.length_map]at this;exact this,Q.out⟩
def PlcIs (w:World) (b:Nat) (N:Nat) (f:ByteArray->Option Nat):Prop:=∃m,MapIs prog 9 w b m/\(∀k,hasM m k=(f k).isSome)/\(∀k,getM m k (.int .i64 0) = .int .i64 (((f k).getD 0:Nat):Int))/\m.length<=N
theorem PlcIs.lt {w:World} {b N:Nat} {f:ByteArray->Option Nat} (h:PlcIs w b N f):b<w.heap.size:=by obtain⟨m,a,_⟩:=h;exact a.lt
theorem PlcIs.heap {w w':World} {b N:Nat} {f:ByteArray->Option Nat} (h:PlcIs w b N f) (c:w'.heap[b]? =w.heap[b]?):PlcIs w' b N f:=by obtain⟨m,a,r⟩:=h;exact⟨m,a.heap c,r⟩
theorem PlcIs.more {w:World} {b N a:Nat} {f:ByteArray->Option Nat} (h:PlcIs w b N f) (i:N<=a):PlcIs w b a f:=by obtain⟨m,c,d,e,g⟩:=h;exact⟨m,c,d,e,by omega⟩
theorem Zbfc (w:World):PlcIs (w.alloc (.map #[] 0)) w.heap.size 0 (λ_=>none):=⟨[],Zyj w _ _,λ_=>rfl,λ_=>rfl,Nat.le_refl _⟩
def updF (f:ByteArray->Option Nat) (k:ByteArray) (i:Nat):ByteArray->Option Nat:=λk'=>if k=k' then some i else f k'
theorem PlcIs.put {w:World} {b N:Nat} {f:ByteArray->Option Nat} {t e:TypeId} (h:PlcIs w b N f) (q:prog.underlying t=some (.map 9 e)) (u:N<=4000000000000000) (k:ByteArray) (p:k.size<=maxLen) (i:Nat):
  ∃w',(Instr.mapUpdate t (.map (some b)) (.string k) (.int .i64 (i:Int))).run prog w = .ok () w'/\PlcIs w' b (N+1) (updF f k i)/\w.mapTurned w' b:=by
 obtain⟨m,g,j,l,s⟩:=h;obtain⟨w',r,o,d⟩:=g.put underlying9 q (by unfold maxLen;omega) k p (.int .i64 (i:Int));refine⟨w',r,⟨_,o,λc=>?_,λc=>?_,?_⟩,d⟩
 ·rw[Zrm,j]
  unfold updF
  by_cases a:k=c
  ·simp[a]
  ·simp[a]
 ·unfold updF
  by_cases a:k=c
  ·subst a;rw[Zqj,if_pos rfl];rfl
  ·rw[Zqi _ _ _ a,if_neg a];exact l c
 ·obtain⟨D,_,_,_,_,n⟩:=g
  rw[Zbfq n];split<;>omega
theorem PlcIs.look {w:World} {b N:Nat} {f:ByteArray->Option Nat} {t e:TypeId} (h:PlcIs w b N f) (i:prog.underlying t=some (.map 9 e)) (j:(zeroValue e).run prog w = .ok (.int .i64 0) w) (k:ByteArray) (g:k.size<=maxLen):
  (Instr.lookup t (.map (some b)) (.string k) true).run prog w = .ok (.tuple #[.int .i64 (((f k).getD 0:Nat):Int),.bool (f k).isSome]) w:=by
 obtain⟨m,a,c,d,l⟩:=h;rw[a.look_ok underlying9 i j k g,c,d]
theorem Zbuu (w:World):(zeroValue 3).run prog w = .ok (.int .i64 0) w:=zeroValue3 w
def Zax (w:World) (is:List Nat) (e:Ending) (w':World):Prop:=∃v,e = .returned v/\w'.ownsRow w.heap.size 3 1 v is.length (is.map intV)/\Below w.heap.size w w'
theorem Zpt (b N:Nat) (f:ByteArray->Option Nat) (lv:Value) (l:List ByteArray) (w:World) (J:PlcIs w b N f) (D:IsStrs w lv l) (ac:l.length<=1048576) (W:∀x∈l,x.size<=maxLen):
  Calls prog 177 #[.map (some b),lv] w (Zax w (l.filterMap f)):=by
 obtain⟨i0,hi,R,S,T⟩:=info_parts Zsn;have mixed:prog.follows .mixedOrders=true:=by kernel_rfl
 have P:=J.lt;obtain⟨_,_,ea,aa,K,A⟩:=Zua D;subst ea
 rename_i la lc
 have Z:Hid (∀(k:Nat) x,l[k]? =some x->∃H o,la=some ⟨H,o,none⟩/\∀Y,Below w.heap.size w Y->Y.cell? ⟨H,o+k,none⟩=some (.string x)):=A;have HP:=hid J;have HS:=hid W;unfold maxLen at K;clear D A J W
 go_enter func177,ntmps177
 go_wp2
 go_loopw [5,7,8,9,12,13,14,15,16,17,18,19,20,21,22,23,24,25,26,27] (λtv _ _ _ U _ _ _ _ _ _ _ _ _ _ _ _ _ _ _ wr=>∃k:Nat,k<=l.length/\U = .int .i64 (k:Int)/\wr.ownsRow w.heap.size 3 1 tv ((l.take k).filterMap f).length (((l.take k).filterMap f).map intV)/\Below w.heap.size w wr) (λ_ _ _ _ U _ _ _ _ _ _ _ _ _ _ _ _ _ _ _ _=>l.length-(intOf U).toNat)
 case atStart=>exact⟨0,Nat.zero_le _,rfl,by simpa using World.ownsRow_nil _ _ _ _,Below.refl _ _⟩
 case round=>
  obtain⟨k,hk,rfl,c,g⟩:=hrel;have V:=hid c;have z:=hid g;have Q:=g.size;clear c
  by_cases B:k<l.length
  ·obtain⟨x,hx⟩:∃x,l[k]? =some x:=⟨l[k],List.getElem?_eq_getElem B⟩
   obtain⟨H,o,q1,L⟩:=Z.out k x hx;subst q1;have cx:=L wr g;have O:(k:Int)<(l.length:Int):=by omega
   have ab:(0:Int)<=(k:Int):=by omega
   have d:=(HP.out.heap (g.block _ P)).look underlying221 (Zbuu wr) x (HS.out x (List.mem_of_getElem? hx));have m:l.take (k+1)=l.take k ++ [x]:=by rw[List.take_add_one,hx];rfl
   have a:(l.take (k+1)).filterMap f=(l.take k).filterMap f++(f x).toList:=by rw[m,List.filterMap_append];cases h:f x<;>simp[h]
   have M:((l.take k).filterMap f).length<=k:=Nat.le_trans (List.length_filterMap_le _ _) (by rw[List.length_take];omega);obtain⟨F,I⟩:∃F,(l.take k).filterMap f=F:=⟨_,rfl⟩;have c:=V.out;rw[I]at c a M;have n:=hid c
   cases t:f x with
   | some i=>
    rw[t]at d a;simp only[Option.getD_some,Option.isSome_some,Option.toList_some]at d a;have y:=hid a;have D:F.length+1<=maxLen:=by unfold maxLen;omega
    clear a m hx L c I g t
    go_wp2_with (at_builtin;refine wpList_append_own _ rfl _ _ 131 rfl w.heap.size 3 i0 _ 1 8 underlying131 hi R S T rfl (by decide) _ _ _ rfl (n.out.alloc _) ⟨wr.heap.size,0,none⟩ 1 1 [.int .i64 (i:Int)] rfl rfl ?qc2 ?qc3 D ?qc5 ?qc6 ?_)
    case qc2=>exact cell_one_new _ _ _
    case qc3=>intro u X;simp at X;subst X;rfl
    case qc5=>omega
    case qc6=>simp;omega
    intro v' w1 r q C;have s:=n.out;have v:Below w.heap.size w w1:=(z.out.alloc Q _).grown q (by simp;omega) (λj e=>(s.lt j e).1);have G:=hid (show w1.ownsRow w.heap.size 3 1 v' ((l.take (k+1)).filterMap f).length (((l.take (k+1)).filterMap f).map intV) by rw[y.out,List.length_append,List.map_append];exact r);have E:=hid v;clear r q C v s;go_wp2;go_roundw
    case rel=>exact⟨k+1,by omega,by go_num,G.out,E.out⟩
    case measure=>simp[intOf];omega
   | none=>
    rw[t]at d a;simp only[Option.getD_none,Option.isSome_none,Option.toList_none,List.append_nil]at d a;have y:=hid a;clear a m hx L c I g t;go_wp2;go_roundw
    case rel=>exact⟨k+1,by omega,by go_num,by rw[y.out];exact n.out,z.out⟩
    case measure=>simp[intOf];omega
  ·have O:¬(k:Int)<(l.length:Int):=by omega
   have p:l.take k=l:=List.take_of_length_le (by omega);have c:=V.out;rw[p]at c;have HF:=hid c;clear c p g;go_wp2;go_ret;exact⟨_,rfl,HF.out,z.out⟩
