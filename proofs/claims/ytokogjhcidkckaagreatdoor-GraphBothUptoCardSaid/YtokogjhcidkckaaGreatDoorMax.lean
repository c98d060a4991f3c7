import Derived.Test.YtokogjhcidkckaaGreatDoorMaw
import Derived.Sort.Defs
import Derived.Shelf.SlSortCmp.InsertionK
import Derived.Shelf.SlSortCmp.KitK
import Derived.Shelf.SlSortCmp.WholeK
import Derived.Shelf.Strings.Prefix
import Derived.Shelf.SlSortCmp.NoneTotal
namespace Go.Proofs.YtokogjhcidkckaaGreatDoor
open Go.Lib (hid)
open Go.Proofs.Tryz
open Go.RowKit Go.Shelf
section
attribute [local go_sem] Oper.semAt_some
set_option maxRecDepth 100000
set_option maxHeartbeats 4000000
theorem Zbsn (n:Nat) (hn:1<=n) (sb:Nat) (a:Option Addr) (c:Nat) (rows:List (List Value)) (w:World) (hb:Boxed w sb 22 (.slice a rows.length c)) (hr:IsRow w (.slice a rows.length c) 5 rows) (h5:∀r∈rows,∃s p1 n1 k1 p2 n2 k2 p3 n3 k3 p4 n4 k4,r = [.string s,.slice p1 n1 k1,.slice p2 n2 k2,.slice p3 n3 k3,.slice p4 n4 k4]) (a0:Option Addr) (ha0:rows≠[]->a0=a):
  Zbw Fence.wide n prog 175 #[.pointer (some ⟨sb,0,none⟩)] (λx:List Value=>#[.agg x.toArray]) (λA B=>Below A.heap.size A B) (Zbe sb a0) rows w:=by
 obtain⟨a',c',e,hlc,hcm,hcells⟩:=hr
 cases e
 intro l J W hW hJR hY h0;have hbW:Boxed W sb 22 (.slice a rows.length c):=(hW.block sb hb.lt).trans hb;have hC:∀(k:Nat) r,rows[k]? =some r->∃g o,a=some ⟨g,o,none⟩/\g<W.heap.size/\∀w':World,w'.heap[g]? =W.heap[g]? ->∀(i:Nat) u,r[i]? =some u->w'.cell? ⟨g,o+k*5+i,none⟩=some u:=by
  intro k r hkr;obtain⟨g,o,e,hg,hc⟩:=hcells (by rintro rfl;simp at hkr);exact⟨g,o,e,Nat.lt_of_lt_of_le hg hW.size,λw' hw i u hu=>(World.cell?_of_block (a:=⟨g,o+k*5+i,none⟩) (hw.trans (hW.block g hg))).trans (hc k r hkr i u hu)⟩
 have HC:=hid hC;have H5:=hid h5;have hsbW:=hbW.lt;clear hb hW hcells hC h5;unfold maxLen at hcm;show CallsIn Fence.wide n prog 175 #[.func (.yield l) #[] #[],.pointer (some ⟨sb,0,none⟩)] W _;refine callsIn_of_wp func175 rfl trivial ?_ rfl;simp only[ntmps175,List.size_toArray,List.length_cons,List.length_nil,Nat.reduceAdd,Nat.reduceSub,Array.replicate_succ,Array.replicate_zero,List.push_toArray,List.append_toArray,List.nil_append,List.cons_append];have hcW:=hbW.cell
 gi_wp2
 gi_loopw [4,7,8,9,10,11,12,13,14,15] (λ_ iv _ _ _ _ _ _ _ _ wr=>∃k:Nat,k<=rows.length/\iv = .int .i64 (k:Int)/\wr.heap[sb]? =W.heap[sb]? /\(∀g,(a0.map Addr.block)=some g->wr.heap[g]? =W.heap[g]?)/\J (rows.take k) wr) (λ_ iv _ _ _ _ _ _ _ _ _=>rows.length-(intOf iv).toNat)
 case atStart=>exact⟨0,Nat.zero_le _,rfl,rfl,λ_ _=>rfl,by simpa using h0⟩
 case round=>
  obtain⟨k,hk,rfl,hsb,hga,hJs⟩:=hrel
  by_cases hlt:k<rows.length
  ·obtain⟨r,hr⟩:∃r,rows[k]? =some r:=⟨rows[k],List.getElem?_eq_getElem hlt⟩
   obtain⟨g,o,ha,hgW,hcr⟩:=HC.out k r hr;obtain⟨s,p1,n1,k1,p2,n2,k2,p3,n3,k3,p4,n4,k4,hr5⟩:=H5.out r (List.mem_of_getElem? hr);have hgg:=hga g (by rw[ha0 (by rintro rfl;simp at hr),ha];rfl);have hcc:=hcr wr hgg;rw[hr5]at hcc;have e0:=hcc 0 _ rfl;have e1:=hcc 1 _ rfl;have e2:=hcc 2 _ rfl;have e3:=hcc 3 _ rfl;have e4:=hcc 4 _ rfl;simp only[Nat.add_zero]at e0;have hsl:sb<wr.heap.size:=by have:=hsb.trans hbW;exact(Array.getElem?_eq_some_iff.1 this).1
   have hspl:rows=rows.take k++r::rows.drop (k+1):=by
    have:=(List.take_append_drop k rows).symm;rw[Zma hr]at this;exact this
   have htk:rows.take (k+1)=rows.take k ++ [r]:=by rw[List.take_add_one,hr];rfl
   obtain⟨fn,tmps,assign,body,hy,hR⟩:=hY (rows.take k) r (rows.drop (k+1)) (wr.alloc (.cells r.toArray 50)) hspl (hJR _ _ _ hJs ((Below.refl _ _).alloc (Nat.le_refl _) _));have HGA:Hid (∀g,(a0.map Addr.block)=some g->(wr.alloc (.cells r.toArray 50)).heap[g]? =W.heap[g]?):=hid λg' hg'=>by
    have e:=hga g' hg';have hgl:g'<wr.heap.size:=by
     have h1:a0=some ⟨g,o,none⟩:=by rw[ha0 (by rintro rfl;simp at hr),ha]
     rw[h1]at hg';obtain rfl:g=g':=by simpa using hg'
     have h2:wr.heap[g]? =some W.heap[g]:=by rw[hgg];exact Array.getElem?_eq_getElem hgW
     exact(Array.getElem?_eq_some_iff.1 h2).1
    exact(Below.heap_alloc _ _ _ hgl).trans e
   have HSB:Hid ((wr.alloc (.cells r.toArray 50)).heap[sb]? =W.heap[sb]?):=hid ((Below.heap_alloc _ _ _ hsl).trans hsb);have HTK:=hid htk;subst hr5;have hi0:(0:Int)<=(k:Int):=by omega
   have hi1:(k:Int)<(rows.length:Int):=by omega
   subst ha
   try dsimp only at hy
   clear hspl htk hY h0 hJs hcc hr hcr hga hsb hgg hgW hsl hJR
   gi_wp2
   refine hR.mono ?_;rintro e W3 ⟨rfl,hJ3,hk3,hk4⟩;have HJ3:=hid hJ3;have HK3:=hid hk3;have HK4:=hid hk4;clear hJ3 hk3 hk4
   gi_wp2
   go_roundw
   case rel=>exact⟨k+1,by omega,by go_num,HK3.out.trans HSB.out,λg' hg'=>(HK4.out g' hg').trans (HGA.out g' hg'),by rw[HTK.out];exact HJ3.out⟩
   case measure=>simp[intOf];omega
  ·have hi1:¬(k:Int)<(rows.length:Int):=by omega
   rw[List.take_of_length_le (by omega)]at hJs;have HJ:=hid hJs;clear hY h0 hJs hga hsb hJR
   gi_wp2
   go_end0
   exact⟨⟨_,rfl⟩,HJ.out⟩
end
end Go.Proofs.YtokogjhcidkckaaGreatDoor
namespace Go.Proofs.YtokogjhcidkckaaGreatDoor
open Go.Lib (hid)
open Go.Proofs.Tryz
open Go.Sort
section
variable {α:Type} (le:α->α->Bool)
def Srt (l:List α):Prop:=l.Pairwise λa b=>le a b=true
def eqv (k x:α):Bool:=le k x&&le x k
structure St (xs ys:List α):Prop where
 sorted:Srt le ys
 same:∀k,ys.filter (eqv le k)=xs.filter (eqv le k)
structure Pre:Prop where
 tot:∀a b,le a b=true∨le b a=true
 tr:∀a b c,le a b=true->le b c=true->le a c=true
variable {le}
theorem Pre.not (h:Pre le) {a b:α} (hn:le a b=false):le b a=true:=by
 rcases h.tot a b with h'|h'
 ·rw[hn]at h';cases h'
 ·exact h'
theorem St.trans {xs ys zs:List α} (h1:∀k,ys.filter (eqv le k)=xs.filter (eqv le k)) (h2:St le ys zs):St le xs zs:=⟨h2.sorted,λk=>(h2.same k).trans (h1 k)⟩
inductive Blk (le:α->α->Bool) (n:Nat):List α->Prop
 | last (l:List α):l.length<=n->Srt le l->Blk le n l
 | cons (b l:List α):b.length=n->Srt le b->Blk le n l->Blk le n (b++l)
inductive Ful (le:α->α->Bool) (n:Nat):List α->Prop
 | nil:Ful le n []
 | cons (b l:List α):b.length=n->Srt le b->Ful le n l->Ful le n (b++l)
theorem Ful.snoc {n:Nat} {l b:List α} (h:Ful le n l) (hb:b.length=n) (hs:Srt le b):Ful le n (l++b):=by
 induction h with
 | nil=>simpa using Ful.cons b [] hb hs .nil
 | cons c l hc hs' _ ih=>rw[List.append_assoc];exact Ful.cons c _ hc hs' ih
theorem Ful.blk {n:Nat} {l t:List α} (h:Ful le n l) (ht:Blk le n t):Blk le n (l++t):=by
 induction h with
 | nil=>exact ht
 | cons c l hc hs' _ ih=>rw[List.append_assoc];exact Blk.cons c _ hc hs' ih
theorem Blk.one {n:Nat} {l:List α} (h:Blk le n l) (hl:l.length<=n):Srt le l:=by
 cases h with
 | last _ _ hs=>exact hs
 | cons b l hb hs hl'=>
  have:l = []:=List.eq_nil_of_length_eq_zero (by rw[List.length_append]at hl;omega);subst this;simpa using hs
end
section
variable {α:Type} [Inhabited α]
variable {le:α->α->Bool} {lt:α->α->Bool} (hlt:∀a b,lt a b = !le b a)
include hlt
end
end Go.Proofs.YtokogjhcidkckaaGreatDoor
namespace Go.Proofs.YtokogjhcidkckaaGreatDoor
open Go.Lib (hid)
open Go.Proofs.Tryz
open Go.RowKit Go.Shelf Go.Sort
abbrev S3:=Option Addr×Nat×Nat
abbrev E5:=ByteArray×S3×S3×S3×S3
instance:Inhabited E5:=⟨(⟨#[]⟩,(none,0,0),(none,0,0),(none,0,0),(none,0,0))⟩
def enc5 (x:E5):List Value:=[.string x.1,.slice x.2.1.1 x.2.1.2.1 x.2.1.2.2,.slice x.2.2.1.1 x.2.2.1.2.1 x.2.2.1.2.2,.slice x.2.2.2.1.1 x.2.2.2.1.2.1 x.2.2.2.1.2.2,.slice x.2.2.2.2.1 x.2.2.2.2.2.1 x.2.2.2.2.2.2]
def cf5 (x y:E5):Int:=Lib.compareBytes x.1.data.toList y.1.data.toList
def le5 (x y:E5):Bool:=decide (cf5 x y<=0)
theorem Zio (x y:E5):cf5 y x = -cf5 x y:=Zjv _ _
theorem Zya (x y:E5):ltOf cf5 x y = !le5 y x:=by
 unfold ltOf le5;rw[Zio x y]
 by_cases h:cf5 x y<0
 ·have:¬ -cf5 x y<=0:=by omega
  simp[h,this]
 ·have: -cf5 x y<=0:=by omega
  simp[h,this]
theorem pre5:Pre le5:=by
 refine⟨λa b=>?_,λa b c h1 h2=>?_⟩
 ·unfold le5
  rw[Zio a b];simp only[decide_eq_true_eq];omega
 ·unfold le5 at h1 h2⊢
  simp only[decide_eq_true_eq]at h1 h2⊢
  by_cases e1:cf5 a b=0
  ·have:=Zjz _ _ e1
   unfold cf5 at h2⊢;rw[this];exact h2
  ·by_cases e2:cf5 b c=0
   ·have:=Zjz _ _ e2
    unfold cf5 at h1⊢;rw[<-this];exact h1
   ·have:=Zjy a.1.data.toList b.1.data.toList c.1.data.toList (by show cf5 a b<0;omega) (by show cf5 b c<0;omega)
    show cf5 a c<=0;have h3:cf5 a c<0:=this;omega
def SWL (w0:World) (blk:Nat) (l:List E5) (W:World):Prop:=SWK enc5 5 w0 blk 0 l.toArray W
def R5 (w0:World) (blk n:Nat):Prop:=∃d0:Array E5,d0.size=n/\RowK enc5 5 w0 blk 0 d0
theorem Zmn (x:E5):(enc5 x).length=5:=rfl
theorem Zmo (x:E5):∀v∈enc5 x,v.oneCell'=true:=by
 intro v hv;unfold enc5 at hv;simp at hv
 rcases hv with rfl|rfl|rfl|rfl|rfl<;>rfl
section
variable {w0 W:World} {blk:Nat} {l:List E5}
theorem SWL.holds (h:SWL w0 blk l W) (R:R5 w0 blk l.length):HoldsK enc5 5 W blk 0 l.toArray:=by
 obtain⟨d0,hd,R⟩:=R;exact SWK.holds h R.hblk R.hH (by simpa using hd.symm)
theorem SWL.at (h:SWL w0 blk l W) (R:R5 w0 blk l.length) {i:Nat} {x:E5} (hx:l[i]? =some x):
  (W.cell? ⟨blk,i*5,none⟩=some (.string x.1)/\W.cell? ⟨blk,i*5+1,none⟩=some (.slice x.2.1.1 x.2.1.2.1 x.2.1.2.2)/\W.cell? ⟨blk,i*5+2,none⟩=some (.slice x.2.2.1.1 x.2.2.1.2.1 x.2.2.1.2.2)/\W.cell? ⟨blk,i*5+3,none⟩=some (.slice x.2.2.2.1.1 x.2.2.2.1.2.1 x.2.2.2.1.2.2)/\W.cell? ⟨blk,i*5+4,none⟩=some (.slice x.2.2.2.2.1 x.2.2.2.2.2.1 x.2.2.2.2.2.2))/\
   W.frozen? ⟨blk,i*5,none⟩=false/\W.frozen? ⟨blk,i*5+1,none⟩=false/\W.frozen? ⟨blk,i*5+2,none⟩=false/\W.frozen? ⟨blk,i*5+3,none⟩=false/\W.frozen? ⟨blk,i*5+4,none⟩=false:=by
 have hh:=h.holds R;have hi:=(List.getElem?_eq_some_iff.1 hx).1;have hd:l.toArray[i]! =x:=by simp[hx]
 have key:∀c,c<5->W.cell? ⟨blk,i*5+c,none⟩=some (enc5 x)[c]! /\W.frozen? ⟨blk,i*5+c,none⟩=false:=λc hc=>by
  have:=HoldsK.cell hh (i:=i) (c:=c) (by simpa using hi) hc;rw[hd]at this;simpa using this
 exact⟨⟨(key 0 (by omega)).1,(key 1 (by omega)).1,(key 2 (by omega)).1,(key 3 (by omega)).1,(key 4 (by omega)).1⟩,(key 0 (by omega)).2,(key 1 (by omega)).2,(key 2 (by omega)).2,(key 3 (by omega)).2,(key 4 (by omega)).2⟩
theorem SWL.le (h:SWL w0 blk l W):w0.heap.size<=W.heap.size:=SWK.le h
theorem SWL.drewN (h:SWL w0 blk l W) (n:Nat):SWL w0 blk l (W.drewN n):=SWK.drewN h n
theorem SWL.drew (h:SWL w0 blk l W):SWL w0 blk l W.drew:=SWK.drew h
theorem SWL.alloc (h:SWL w0 blk l W) (o:Obj):SWL w0 blk l (W.alloc o):=SWK.alloc h o
end
end Go.Proofs.YtokogjhcidkckaaGreatDoor
namespace Go.Proofs.YtokogjhcidkckaaGreatDoor
open Go.Lib (hid)
open Go.Proofs.Tryz
open Go.RowKit Go.Shelf Go.Sort
def Zbmc:Go.Shelf.Ren:=⟨fun|0=>0|1=>1|2=>2|6=>174|14=>225|15=>111|18=>334|20=>269|21=>270|22=>271|23=>272|24=>273|25=>274|26=>275|27=>276|28=>162|29=>163|46=>328|47=>219|48=>220|49=>329|50=>330|57=>358|60=>408|61=>409|62=>410|63=>411|64=>412|65=>413|66=>414|67=>415|68=>416|69=>417|70=>418|71=>419|72=>420|73=>421|74=>422|75=>428|n=>n,fun|0=>0|1=>1|2=>2|3=>3|4=>4|5=>5|6=>6|7=>7|8=>8|9=>9|10=>10|11=>11|12=>12|13=>13|14=>14|15=>15|16=>16|17=>17|18=>18|19=>19|20=>20|21=>21|22=>22|23=>220|24=>50|25=>172|27=>131|30=>224|37=>265|38=>158|39=>159|40=>127|42=>197|44=>310|45=>203|46=>204|47=>311|48=>312|49=>313|50=>208|51=>314|52=>210|53=>211|54=>212|55=>213|66=>258|67=>259|68=>260|69=>340|70=>262|71=>341|76=>307|77=>308|78=>359|81=>299|82=>403|83=>404|84=>405|85=>406|86=>407|87=>75|88=>408|89=>409|90=>410|91=>335|92=>411|93=>412|94=>413|95=>414|96=>356|n=>n,fun|n=>n⟩
theorem lSo:Go.Proofs.SlLaysF0.n6 prog Zbmc:={
 mixed:=by kernel_rfl
 f6:=⟨"slices.SortFunc[[]shipwright/api.Rule,shipwright/api.Rule]",by decide,func174.trans (congrArg some (by kernel_rfl))⟩
 f14:=⟨"slices.pdqsortCmpFunc[shipwright/api.Rule]",by decide,func225.trans (congrArg some (by kernel_rfl))⟩
 f15:=func111.trans (congrArg some (by kernel_rfl))
 f20:=⟨"slices.insertionSortCmpFunc[shipwright/api.Rule]",by decide,func269.trans (congrArg some (by kernel_rfl))⟩
 f21:=⟨"slices.heapSortCmpFunc[shipwright/api.Rule]",by decide,func270.trans (congrArg some (by kernel_rfl))⟩
 f22:=⟨"slices.breakPatternsCmpFunc[shipwright/api.Rule]",by decide,func271.trans (congrArg some (by kernel_rfl))⟩
 f23:=⟨"slices.choosePivotCmpFunc[shipwright/api.Rule]",by decide,func272.trans (congrArg some (by kernel_rfl))⟩
 f24:=⟨"slices.reverseRangeCmpFunc[shipwright/api.Rule]",by decide,func273.trans (congrArg some (by kernel_rfl))⟩
 f25:=⟨"slices.partialInsertionSortCmpFunc[shipwright/api.Rule]",by decide,func274.trans (congrArg some (by kernel_rfl))⟩
 f26:=⟨"slices.partitionEqualCmpFunc[shipwright/api.Rule]",by decide,func275.trans (congrArg some (by kernel_rfl))⟩
 f27:=⟨"slices.partitionCmpFunc[shipwright/api.Rule]",by decide,func276.trans (congrArg some (by kernel_rfl))⟩
 f28:=func162.trans (congrArg some (by kernel_rfl))
 f29:=func163.trans (congrArg some (by kernel_rfl))
 f46:=⟨"slices.siftDownCmpFunc[shipwright/api.Rule]",by decide,func328.trans (congrArg some (by kernel_rfl))⟩
 f47:=func219.trans (congrArg some (by kernel_rfl))
 f48:=func220.trans (congrArg some (by kernel_rfl))
 f49:=⟨"slices.medianAdjacentCmpFunc[shipwright/api.Rule]",by decide,func329.trans (congrArg some (by kernel_rfl))⟩
 f50:=⟨"slices.medianCmpFunc[shipwright/api.Rule]",by decide,func330.trans (congrArg some (by kernel_rfl))⟩
 f57:=⟨"slices.order2CmpFunc[shipwright/api.Rule]",by decide,func358.trans (congrArg some (by kernel_rfl))⟩
 t0:=underlying0
 a0:=isAgg0
 z0:=sizeOf0
 v0:=zeroValue0
 t3:=underlying3
 a3:=isAgg3
 z3:=sizeOf3
 v3:=zeroValue3
 t4:=underlying4
 a4:=isAgg4
 z4:=sizeOf4
 v4:=zeroValue4
 t5:=underlying5
 a5:=isAgg5
 z5:=sizeOf5
 v5:=zeroValue5
 t9:=underlying9
 a9:=isAgg9
 z9:=sizeOf9
 v9:=zeroValue9
 t22:=underlying22
 a22:=isAgg22
 z22:=sizeOf22
 v22:=zeroValue22
 t25:=underlying172
 a25:=isAgg172
 z25:=sizeOf172
 v25:=zeroValue172
 t39:=underlying159
 a39:=isAgg159
 z39:=sizeOf159
 v39:=zeroValue159
 t45:=underlying203
 a45:=isAgg203
 z45:=sizeOf203
 v45:=zeroValue203
 t46:=underlying204
 a46:=isAgg204
 z46:=sizeOf204
 v46:=zeroValue204
 t50:=underlying208
 a50:=isAgg208
 z50:=sizeOf208
 v50:=zeroValue208
 t53:=underlying211
 a53:=isAgg211
 z53:=sizeOf211
 v53:=zeroValue211
 t55:=underlying213
 a55:=isAgg213
 z55:=sizeOf213
 v55:=zeroValue213
 t66:=underlying258
 a66:=isAgg258
 z66:=sizeOf258
 v66:=zeroValue258
 t70:=underlying262
 a70:=isAgg262
 z70:=sizeOf262
 v70:=zeroValue262
 t76:=underlying307
 a76:=isAgg307
 z76:=sizeOf307
 v76:=zeroValue307
 t77:=underlying308
 a77:=isAgg308
 z77:=sizeOf308
 v77:=zeroValue308 }
set_option maxHeartbeats 4000000 in
set_option maxRecDepth 100000 in
theorem Zjq (x y:E5) (w:World):
  Calls prog 125 #[.agg (enc5 x).toArray,.agg (enc5 y).toArray] w λe w'=>e = .returned (.int .i64 (cf5 x y))/\w'=(w.alloc (.cells (enc5 x).toArray 50)).alloc (.cells (enc5 y).toArray 50):=by
 have hc:=λw'=>Zkg x.1 y.1 w'
 obtain⟨r,hr⟩:∃r,cf5 x y=r:=⟨_,rfl⟩;have hr2:Lib.compareBytes x.1.data.toList y.1.data.toList=r:=hr;simp only[hr2]at hc;have CC:=hid hc;rw[hr];unfold enc5;clear hr hr2 hc
 go_enter func125,ntmps125
 go_wp2_with fail
 refine(CC.out _).mono ?_;rintro e w2 ⟨rfl,rfl⟩;go_wp2;go_ret;exact⟨rfl,rfl⟩
theorem Zjr (blk size:Nat) (w:World):CmpLays prog 125 #[] enc5 5 cf5 blk 0 size w:=by
 intro m os dk _ x y;have:=Zjq x y (sortWorldK enc5 5 w blk 0 m dk os);rw[Array.append_empty];refine this.mono ?_;rintro e w' ⟨rfl,rfl⟩;exact⟨rfl,0,#[.cells (enc5 x).toArray 50] ++ #[.cells (enc5 y).toArray 50],by rw[alloc_eq_grow,alloc_eq_grow,grow_grow];rfl⟩
theorem swo5:SWO (ltOf cf5):=by
 refine⟨λx=>?_,λx y z h1 h2=>?_,λx y z h1 h2=>?_⟩
 ·unfold ltOf
  have:=Zio x x;rw[decide_eq_false_iff_not];omega
 ·unfold ltOf at h1 h2⊢
  rw[decide_eq_true_eq]at h1 h2⊢;exact Zjy _ _ _ h1 h2
 ·rw[Zya]at h1 h2⊢
  have a1:le5 y x=true:=by simpa using h1
  have a2:le5 z y=true:=by simpa using h2
  have:=pre5.2 z y x a2 a1;rw[this];rfl
theorem Zbmd (blk cap:Nat) (d:Array E5) (w:World) (hH:HoldsK enc5 5 w blk 0 d) (hblk:blk<w.heap.size) (hsz:d.size<4611686018427387904):
  Calls prog 174 #[.slice (some ⟨blk,0,none⟩) d.size cap,.func (.func 125) #[] #[]] w λe w'=>e = .returned (.tuple #[])/\∃d' n os,PermIn 0 d.size d d'/\SortedIn (ltOf cf5) 0 d.size d'/\w'=sortWorldK enc5 5 w blk 0 n d' os:=by
 have e6:Zbmc.f 6=174:=by kernel_rfl
 have:=AnyQ.slices_SortFunc lSo 5 isAgg50 sizeOf50 enc5 Zmn Zmo cf5 swo5 125 #[] blk 0 cap d w (enters_of func125 (by kernel_rfl) rfl) (Zjr blk _ w) hH hblk hsz
 rwa [e6]at this
theorem Zsp:(prog.info? 50).map (λi=>(i.zero,i.size,i.bytes))=some (some (.agg #[.string ⟨#[]⟩,.slice none 0 0,.slice none 0 0,.slice none 0 0,.slice none 0 0]),5,112):=by kernel_rfl
def CyI (w:World) (B:Nat) (pre:List (List Value)) (W:World):Prop:=(∃v,Boxed W B 22 v/\W.ownsRow (B+1) 50 5 v pre.length pre.flatten/\True)/\Below w.heap.size w W/\B+1<=W.heap.size
theorem Zlp {w:World} {B:Nat} (s:List (List Value)) (X Y:World) (h:CyI w B s X) (hw:w.heap.size<=B) (hr:Below X.heap.size X Y):CyI w B s Y:=by
 obtain⟨⟨v,hv,ho,hn⟩,hb,hL⟩:=h;refine⟨⟨v,(hr.block B (by omega)).trans hv,?_,hn⟩,hb.trans (hr.mono (by omega)),by have:=hr.size;omega⟩;exact World.ownsRow.kept (row:=none) ho ⟨hr.os,hr.tape,hr.output,hr.size,λk hk _=>hr.block k hk⟩ (by cases Value.ownBlock _<;>simp)
theorem Zlo (w:World) (L B:Nat) (hL:w.heap.size<=L):OwnFrom L (CyI w B):=
 OwnFrom.and (Own.from (holdsRow_own (B+1) B 22 50 5 (λpre:List (List Value)=>pre.length) (λpre=>pre.flatten) (λ_ _=>True)) _) (OwnFrom.and (ownFrom_below (Nat.le_refl _) hL) λ_ _ _ _ h hg _=>Nat.le_trans h hg.size)
theorem Zwj {A B:World} (h:Below A.heap.size A B):KeepsOthers A B:=⟨h.size,λk _ hk _=>(h.block k (Array.getElem?_eq_some_iff.1 hk).1).trans hk⟩
theorem Zim (w:World) (cs:List Value) (t:TypeId):∀j u,cs[j]? =some u->(w.alloc (.cells cs.toArray t)).cell? ((⟨w.heap.size,0,none⟩:Addr).add j)=some u:=by
 intro j u hu;rw[Addr.add_lit,Nat.zero_add];simp only[World.cell?,alloc_at,Option.isSome_none,Bool.false_eq_true,if_false];rw[List.getElem?_toArray];exact hu
theorem Zbdu {B B':Nat} {w:World} {v:Value} {e:TypeId} {size n:Nat} {xs:List Value} (h:w.ownsRow B e size v n xs) (hB:B'<=B):w.ownsRow B' e size v n xs:=by
 obtain⟨h1,h2|⟨g,cap,cur,a,b,r⟩⟩:=h
 ·exact⟨h1,.inl h2⟩
 ·exact⟨h1,.inr ⟨g,cap,cur,a,Nat.le_trans hB b,r⟩⟩
section
attribute [local go_sem] Oper.semAt_some
set_option maxRecDepth 100000
set_option maxHeartbeats 8000000
theorem Zdo (n sb:Nat) (hn:4<=n) (a:Option Addr) (c:Nat) (rows:List (List Value)) (w:World) (hb:Boxed w sb 22 (.slice a rows.length c)) (hr:IsRow w (.slice a rows.length c) 5 rows) (h5:∀r∈rows,∃s p1 n1 k1 p2 n2 k2 p3 n3 k3 p4 n4 k4,r = [.string s,.slice p1 n1 k1,.slice p2 n2 k2,.slice p3 n3 k3,.slice p4 n4 k4]) (a0:Option Addr) (ha0:rows≠[]->a0=a) (ha1:∀g,(a0.map Addr.block)=some g->g<w.heap.size) (hrl:rows.length<=1000000000):
  CallsIn Fence.wide n prog 224 #[.slice none 0 0,.func (.func 175) #[] #[.pointer (some ⟨sb,0,none⟩)]] w λe w'=>∃v,e = .returned v/\w'.ownsRow w.heap.size 50 5 v rows.length rows.flatten/\Below w.heap.size w w':=by
 obtain⟨i0,hi,hz0,hz1,hz2⟩:=info_parts Zsp;have mixed:prog.follows .mixedOrders=true:=by kernel_rfl
 have bO:=Boxed.new w 22 (.slice none 0 0);have hb1:Below w.heap.size w (w.alloc (.cells #[.slice none 0 0] 22)):=(Below.refl _ w).alloc (Nat.le_refl _) _;have hbW:Boxed (w.alloc (.cells #[.slice none 0 0] 22)) sb 22 (.slice a rows.length c):=(hb1.block sb hb.lt).trans hb;have hrW:=hr.below hb1;have hsl:=hb.lt;refine callsIn_of_wp_marks func224 rfl trivial ?_ rfl;simp only[ntmps224,List.size_toArray,List.length_cons,List.length_nil,Nat.reduceAdd,Nat.reduceSub,Array.replicate_succ,Array.replicate_zero,List.push_toArray,List.append_toArray,List.nil_append,List.cons_append]
 gi_wp2
 refine Zbuc (xs:=rows) rfl (by omega) (gf:=175) (lb:=#[.pointer (some ⟨sb,0,none⟩)]) rfl trivial (enters_of func175 (by kernel_rfl) rfl)
  (Zbsn _ (by omega) sb a c rows _ hbW hrW h5 a0 ha0) (Below.refl _ _) (λ_=>rfl) (λA B h=>Zwj h) (λ_ _ _ h k=>⟨k.1.trans h.1,λg hg=>(k.2 g hg).trans (h.2 g hg)⟩) (Zwh (by simp;omega) (λg hg=>by have:=ha1 g hg;simp;omega))
  (CyI w w.heap.size) (λs A B h hr=>Zlp s A B h (Nat.le_refl _) hr) (Zlo w _ _ (by simp)) ⟨⟨_,bO,World.ownsRow_nil _ _ _ _,trivial⟩,hb1,by simp⟩
  (λx a' W=>∃bx:Nat,w.heap.size+1<=bx/\W.heap[bx]? =some (.cells x.toArray 50 (0,0))/\a' = { tmps:=#[.slice none 0 0,.func (.func 175) #[] #[.pointer (some ⟨sb,0,none⟩)],.pointer (some ⟨w.heap.size,0,none⟩),undef,.slice none 0 0,.pointer (some ⟨bx,0,none⟩),.func (.func 175) #[] #[.pointer (some ⟨sb,0,none⟩)],.agg x.toArray,undef,undef,undef,undef,undef],defers:=[] })
  ?ax ?assign ?body ?done
 case ax=>
  rintro x a' W l o o' ⟨bx,h1,h3,h4⟩ hl ho hc;refine⟨bx,h1,(World.putObj_heap_other ?_).trans h3,h4⟩;rintro rfl;rw[h3]at ho
  cases ho
  cases hc
 case assign=>
  intro l pre x post W K hx hI hK;obtain⟨s,p1,n1,k1,p2,n2,k2,p3,n3,k3,p4,n4,k4,rfl⟩:=h5 x (by rw[hx];simp);have HK:=hid hK;have HI:=hid hI;have HA1:=hid ha1;have hz:w.heap.size+1<=W.heap.size:=hI.2.2;have HZ:=hid hz;clear hK hI hx hz hb hr h5 hb1 hbW hrW bO ha0 ha1
  gi_wp2
  refine HK.out _ _ ((KeepsOthers.alloc W _).from _) ⟨Below.heap_alloc _ _ _ (by have:=HZ.out;omega),λg hg=>Below.heap_alloc _ _ _ (by have:=HA1.out g hg;have:=HZ.out;omega)⟩ (Zlp _ _ _ HI.out (Nat.le_refl _) ((Below.refl _ _).alloc (Nat.le_refl _) _)) ⟨W.heap.size,HZ.out,alloc_at W _,rfl⟩
 case body=>
  rintro l pre x post a' W hx hI ⟨bx,hbx,hcell,rfl⟩;obtain⟨s,p1,n1,k1,p2,n2,k2,p3,n3,k3,p4,n4,k4,rfl⟩:=h5 x (by rw[hx];simp);obtain⟨⟨v,hv,hrow,_⟩,hB,hL⟩:=hI;have hpl:pre.length+1<=rows.length:=by rw[hx,List.length_append,List.length_cons];omega
  have hc:=hv.cell;have hf:=hv.frozen;obtain⟨e0,e1,e2,e3,e4,_⟩:=cells5 hcell;have HV:=hid hv;have HROW:=hid hrow;have HB:=hid hB;have HL:=hid hL;have HX:=hid hx;have HBX:=hid hbx;have HSL:=hid hsl;have HA1:=hid ha1;clear hv hrow hB hL hx hbx hcell hb hr h5 hb1 hbW hrW bO ha0 ha1 hsl;have hml:pre.length+1<=maxLen:=by unfold maxLen;omega
  gi_wp2_with (gi_at_builtin;refine wpListIn_append_own _ rfl _ _ 22 rfl (w.heap.size+1) 50 i0 _ 5 112 underlying22 hi hz0 hz1 hz2 rfl (by decide) v _ _ rfl (HROW.out.alloc _) ⟨W.heap.size,0,none⟩ 1 1 [.string s,.slice p1 n1 k1,.slice p2 n2 k2,.slice p3 n3 k3,.slice p4 n4 k4] rfl rfl ?qc2 ?qc3 hml ?qc5 ?qc6 ?_)
  case qc2=>exact Zim W [.string s,.slice p1 n1 k1,.slice p2 n2 k2,.slice p3 n3 k3,.slice p4 n4 k4] _
  case qc3=>intro u hu;simp only[List.mem_cons,List.not_mem_nil,or_false]at hu;rcases hu with rfl|rfl|rfl|rfl|rfl<;>rfl
  case qc5=>omega
  case qc6=>
    have h1:w.heap.size+1<=W.heap.size:=HL.out;rw[World.size_alloc];omega
  intro v' w1 hown' hgrow hni;obtain⟨g',cap',rfl⟩:=ownsRow_succ hown';have hL1:w.heap.size+1<=W.heap.size:=HL.out;obtain⟨hv1,hv2,hr2,hk2,hb2,hj2⟩:=Zgj HV.out HROW.out (Nat.lt_succ_self _) hL1 hown' hgrow;have hc1:=hv1.cell;have hf1:=hv1.frozen;have HFIN:=hid (show KeepsFrom (w.heap.size+1) W (w1.setCell ⟨w.heap.size,0,none⟩ (.slice (some ⟨g',0,none⟩) (pre.length+1) cap'))/\Zbe sb a0 W (w1.setCell ⟨w.heap.size,0,none⟩ (.slice (some ⟨g',0,none⟩) (pre.length+1) cap'))/\CyI w w.heap.size (pre ++ [[.string s,.slice p1 n1 k1,.slice p2 n2 k2,.slice p3 n3 k3,.slice p4 n4 k4]]) (w1.setCell ⟨w.heap.size,0,none⟩ (.slice (some ⟨g',0,none⟩) (pre.length+1) cap'))from
   ⟨hk2.from _,⟨hb2.block sb HSL.out,λg hg=>hb2.block g (HA1.out g hg)⟩,⟨_,hv2,by rw[List.length_append,List.flatten_append];simpa using hr2,trivial⟩,HB.out.trans hb2,Nat.le_trans hL1 hk2.size⟩)
  clear hv1 hv2 hr2 hk2 hb2 hj2 hown' hgrow hni
  gi_wp2
  exact HFIN.out
 case done=>
  rintro D W hD ⟨⟨v,hv,hrow,_⟩,hB,hL⟩ hK;have hc:=hv.cell
  gi_wp2
  refine⟨by simp,.inl ⟨_,_,rfl,run_takeDeferred hK,?_⟩⟩;exact⟨_,results_tmp rfl _ _ _,v,rfl,ownsRow_putObj (Zbdu hrow (Nat.le_succ _)) _ hK rfl,hB.trans (belowK_b (w:=w) (Nat.le_refl _) W D _ _ (by simp at hD;omega) hK rfl rfl)⟩
end
end Go.Proofs.YtokogjhcidkckaaGreatDoor
namespace Go.Proofs.YtokogjhcidkckaaGreatDoor
open Go.Lib (hid)
open Go.Proofs.Tryz
open Go.RowKit Go.Shelf Go.Sort
theorem Zpc:∀(l:List E5) (t:Nat),t<l.length*5->((l.map enc5).flatten)[t]? =some (enc5 l[t/5]!)[t % 5]!
 | [],t,h=>by simp at h
 | x::l,t,h=>by
  simp only[List.map_cons,List.flatten_cons]
  by_cases ht:t<5
  ·rw[List.getElem?_append_left (by rw[Zmn];exact ht),Nat.div_eq_of_lt ht,Nat.mod_eq_of_lt ht]
   rw[List.getElem?_eq_getElem (by rw[Zmn];exact ht),getElem!_pos _ t (by show t<(enc5 ((x::l)[0]!)).length;rw[Zmn];exact ht)];rfl
  ·rw[List.getElem?_append_right (by rw[Zmn];omega),Zmn,Zpc l (t-5) (by simp at h;omega)]
   rw[show t/5=(t-5)/5+1 by omega,show t % 5=(t-5) % 5 by omega];simp
theorem Zpd:∀l:List E5,((l.map enc5).flatten).length=l.length*5
 | []=>by simp
 | x::l=>by simp only[List.map_cons,List.flatten_cons,List.length_append,Zpd l,Zmn,List.length_cons];omega
theorem SWL.fr {w0 W:World} {blk:Nat} {l:List E5} (h:SWL w0 blk l W):Fr (λb=>b=blk) w0 W:=by
 have hle:=h.le;obtain⟨m,os,rfl⟩:=h;refine⟨rfl,rfl,rfl,hle,λk hk hne=>?_⟩;show((w0.heap.modify blk (onCells (putCells id 0 (flatK enc5 5 l.toArray))))++os)[k]? =w0.heap[k]?;rw[Array.getElem?_append_left (by rw[Array.size_modify];exact hk),Array.getElem?_modify,if_neg (λe=>hne e.symm)]
theorem SWL.block {w0 W:World} {blk:Nat} {l:List E5} {cur:Array Value} {T:TypeId} {fz:Nat×Nat} (h:SWL w0 blk l W) (hb:w0.heap[blk]? =some (.cells cur T fz)):∃cur',W.heap[blk]? =some (.cells cur' T fz)/\cur'.size=cur.size:=by
 obtain⟨m,os,rfl⟩:=h;have hlt:=(Array.getElem?_eq_some_iff.1 hb).1;refine⟨putCells id 0 (flatK enc5 5 l.toArray) cur,?_,by unfold putCells;simp⟩;show((w0.heap.modify blk (onCells (putCells id 0 (flatK enc5 5 l.toArray))))++os)[blk]? =_;rw[Array.getElem?_append_left (by rw[Array.size_modify];exact hlt),Array.getElem?_modify,if_pos rfl,hb];rfl
theorem Zbeu {Q:List Value->RuleS->Prop} (hQ:∀r x,Q r x->∃e:E5,r=enc5 e/\e.1=x.name):∀(rows:List (List Value)) (xs:List RuleS),AllA Q rows xs->
  ∃L:List (E5×RuleS),rows=L.map (λp=>enc5 p.1)/\xs=L.map Prod.snd/\∀p∈L,Q (enc5 p.1) p.2/\p.1.1=p.2.name
 | [],[],_=>⟨[],rfl,rfl,by simp⟩
 | [],_::_,h=>by have:=h.1;simp at this
 | _::_,[],h=>by have:=h.1;simp at this
 | r::rows,x::xs,h=>by
  obtain⟨e,he,hn⟩:=hQ r x (h.2 0 r x rfl rfl);obtain⟨L,h1,h2,h3⟩:=Zbeu hQ rows xs ⟨by have:=h.1;simpa using this,λj r' x' hr hx=>h.2 (j+1) r' x' (by simpa using hr) (by simpa using hx)⟩;refine⟨(e,x)::L,by rw[h1,he];rfl,by rw[h2];rfl,λp hp=>?_⟩
  rcases List.mem_cons.1 hp with rfl|hp
  ·exact⟨he▸h.2 0 r x rfl rfl,hn⟩
  ·exact h3 p hp
theorem Zbit {w:World} {r:List Value} {x:RuleS} (h:RuleI w r x):∃e:E5,r=enc5 e/\e.1=x.name:=by
 obtain⟨vi,vo,vf,vs,rfl,h1,h2,h3,h4⟩:=h;obtain⟨a1,c1,rfl⟩:=Zue h1;obtain⟨a2,c2,rfl⟩:=Zue h2;obtain⟨a3,c3,rfl⟩:=Zue h3;obtain⟨a4,c4,rfl⟩:=Zbov h4;exact⟨(x.name,(a1,x.ins.length,c1),(a2,x.outs.length,c2),(a3,x.after.length,c3),(a4,x.steps.length,c4)),rfl,rfl⟩
theorem Zbey {α β:Type} (f:α->β) {l m:List β} (h:l.Perm m):∀L:List α,m=L.map f->∃P:List α,P.Perm L/\P.map f=l:=by
 induction h with
 | nil=>intro L e;exact⟨L,List.Perm.refl _,e.symm⟩
 | cons x _ ih=>
  intro L e
  cases L with
  | nil=>cases e
  | cons a L=>
   rw[List.map_cons]at e;obtain⟨e1,e2⟩:=List.cons.inj e;obtain⟨P,h1,h2⟩:=ih L e2;exact⟨a::P,h1.cons a,by rw[List.map_cons,h2,e1]⟩
 | swap x y l=>
  intro L e
  cases L with
  | nil=>cases e
  | cons a L=>
   cases L with
   | nil=>cases e
   | cons b L=>
    simp only[List.map_cons,List.cons.injEq]at e;obtain⟨e1,e2,e3⟩:=e;exact⟨b::a::L,List.Perm.swap _ _ _,by simp only[List.map_cons,e1,e2,e3]⟩
 | trans _ _ ih1 ih2=>
  intro L e;obtain⟨P,h1,h2⟩:=ih2 L e;obtain⟨Q,h3,h4⟩:=ih1 P h2.symm;exact⟨Q,h3.trans h1,h4⟩
def Zac (ys:List RuleS):Prop:=ys.Pairwise λx y=>Lib.compareBytes x.name.data.toList y.name.data.toList<=0
theorem Zbmp (d d':Array E5) (hp:PermIn 0 d.size d d') (hs:SortedIn (ltOf cf5) 0 d.size d'):d'.toList.Perm d.toList/\d'.toList.Pairwise λx y=>cf5 x y<=0:=by
 obtain⟨h1,_,h3⟩:=hp;refine⟨?_,?_⟩
 ·rw[Array.extract_size]at h3
  rwa [show d'.extract 0 d.size=d' by rw[<-h1];exact Array.extract_size]at h3
 ·refine List.pairwise_iff_getElem.2 λi j hi hj hij=>?_
  have hi':i<d'.size:=by simpa using hi
  have hj':j<d'.size:=by simpa using hj
  have:=hs i j (Nat.zero_le _) hij (by omega);rw[getElem!_pos d' j hj',getElem!_pos d' i hi']at this;unfold ltOf at this;rw[decide_eq_false_iff_not]at this;have h2:=Zio d'[i] d'[j];simp only[Array.getElem_toList];omega
theorem Zbmh (B:Nat) (v:Value) (rs:List RuleS) (rows:List (List Value)) (w0 w:World) (hB:w0.heap.size=B) (hb:Go.RowKit.Below B w0 w) (hown:w.ownsRow B 50 5 v rows.length rows.flatten) (hall:AllA (RuleI w0) rows rs) (hn:rs.length<=1000000):
  Calls prog 174 #[v,.func (.func 125) #[] #[]] w λe w'=>e = .returned (.tuple #[])/\∃ys,ys.Perm rs/\Zac ys/\RulesI w' v ys/\Go.RowKit.Below B w0 w':=by
 obtain⟨L,rfl,rfl,hL⟩:=Zbeu (λr x h=>Zbit h) rows _ hall;have hLl:(L.map (λp=>enc5 p.1)).length=L.length:=by simp
 obtain⟨hlen,hcase⟩:=id hown
 rcases hcase with⟨hv,h0⟩|⟨g,cap,cur,hv,hBg,hg,hnc,hcm,hcs,hct⟩
 ·subst hv
  rw[hLl]at h0;obtain rfl:L = []:=List.eq_nil_of_length_eq_zero h0;have e6:Zbmc.f 6=174:=by kernel_rfl
  have:=AnyF.slices_SortFunc_none lSo none 0 (.func (.func 125) #[] #[]) w;rw[e6]at this;refine this.mono ?_;rintro e w' ⟨rfl,rfl⟩;exact⟨rfl,[],List.Perm.refl _,List.Pairwise.nil,⟨[],⟨none,0,rfl,Nat.le_refl _,Nat.zero_le _,λh=>absurd rfl h⟩,⟨rfl,λj r x hr=>by simp at hr⟩⟩,hb⟩
 ·subst hv
  rw[hLl]at hown hnc hct hlen;rw[List.length_map]at hn;rw[hLl];have hgl:=(Array.getElem?_eq_some_iff.1 hg).1;obtain⟨es,hes⟩:∃es,L.map Prod.fst=es:=⟨_,rfl⟩;have hrows:L.map (λp=>enc5 p.1)=es.map enc5:=by rw[<-hes,List.map_map];rfl
  have hel:es.length=L.length:=by rw[<-hes,List.length_map]
  have hH:HoldsK enc5 5 w g 0 es.toArray:=by
   intro j hj;rw[size_flatK,List.size_toArray,hel]at hj;rw[Nat.zero_add,get_flatK _ _ _ _ (by rw[List.size_toArray,hel];exact hj)];refine⟨?_,hown.frozenAt j⟩;rw[hown.cellAt j hj,hrows,Zpc es j (by rw[hel];exact hj)];simp
  have key:=Zbmd g cap es.toArray w hH hgl (by rw[List.size_toArray,hel];omega);rw[List.size_toArray,hel]at key;refine key.mono ?_;rintro e w' ⟨rfl,d',m,os,hp,hs,rfl⟩;obtain⟨ys,rfl⟩:∃ys:List E5,d'=ys.toArray:=⟨d'.toList,by simp⟩;obtain⟨q1,q2⟩:=Zbmp es.toArray ys.toArray (by rw[List.size_toArray,hel];exact hp) (by rw[List.size_toArray,hel];exact hs);simp only at q1 q2;have hdl:ys.length=L.length:=by rw[q1.length_eq];exact hel
  have hS:SWL w g ys (sortWorldK enc5 5 w g 0 m ys.toArray os):=⟨m,os,rfl⟩;obtain⟨cur',hg',hcs'⟩:=hS.block hg;have hfr:=hS.fr;have hhold:=hS.holds ⟨es.toArray,by rw[List.size_toArray,hel,hdl],Zmn,Zmo,hH,hgl⟩;have hb':Go.RowKit.Below B w0 (sortWorldK enc5 5 w g 0 m ys.toArray os):=⟨hfr.os.trans hb.os,hfr.tape.trans hb.tape,hfr.output.trans hb.output,Nat.le_trans hb.size hfr.size,λk hk=>(hfr.block k (by have:=hb.size;omega) (by omega)).trans (hb.block k hk)⟩;have hperm:ys.Perm (L.map Prod.fst):=by rw[hes];exact q1
  obtain⟨P,hPL,hPd⟩:=Zbey Prod.fst hperm L rfl;have hPl:P.length=L.length:=hPL.length_eq;refine⟨rfl,P.map Prod.snd,hPL.map _,?_,⟨P.map λp=>enc5 p.1,?_,?_⟩,hb'⟩
  ·unfold Zac
   rw[List.pairwise_map];rw[<-hPd,List.pairwise_map]at q2;refine q2.imp_of_mem fun {a b} ha hb h=>?_
   have ea:=(hL a (hPL.mem_iff.1 ha)).2;have eb:=(hL b (hPL.mem_iff.1 hb)).2;rw[<-ea,<-eb];exact h
  ·have hPm:P.map (λp=>enc5 p.1)=ys.map enc5:=by rw[<-hPd,List.map_map];rfl
   have hown':(sortWorldK enc5 5 w g 0 m ys.toArray os).ownsRow B 50 5 (.slice (some ⟨g,0,none⟩) L.length cap) (P.map λp=>enc5 p.1).length (P.map λp=>enc5 p.1).flatten:=by
    rw[List.length_map,hPl,hPm];refine⟨by rw[Zpd,hdl],.inr ⟨g,cap,cur',rfl,hBg,hg',hnc,hcm,by rw[hcs'];exact hcs,?_⟩⟩;refine List.ext_getElem? λj=>?_
    by_cases hj:j<L.length*5
    ·rw[List.getElem?_take_of_lt hj,Zpc ys j (by rw[hdl];exact hj)]
     have:=(hhold j (by rw[size_flatK,List.size_toArray,hdl];exact hj)).1;rw[Nat.zero_add,get_flatK _ _ _ _ (by rw[List.size_toArray,hdl];exact hj)]at this;unfold World.cell? at this;rw[hg']at this;simpa using this
    ·rw[List.getElem?_eq_none (by rw[List.length_take];omega),List.getElem?_eq_none (by rw[Zpd,hdl];omega)]
   have:=Zbij hown' (λr hr=>by obtain⟨p,_,rfl⟩:=List.mem_map.1 hr;rfl);exact this
  ·refine⟨by simp,λj r x hr hx=>?_⟩
   rw[List.getElem?_map]at hr hx
   cases hpj:P[j]? with
   | none=>rw[hpj]at hr;cases hr
   | some p=>
    rw[hpj]at hr hx;simp only[Option.map_some,Option.some.injEq]at hr hx;subst hr hx;exact(hL p (hPL.mem_iff.1 (List.mem_of_getElem? hpj))).1.below (by rw[hB];exact hb')
open Go.Maps
def ValRw (t:TypeId) (w:World) (g:Nat) (ms:List Value):Prop:=w.heap[g]? =some (.cells ms.toArray t (0,0))
theorem ValRw.cell {t:TypeId} {w:World} {g:Nat} {ms:List Value} (h:ValRw t w g ms) {k:Nat} {m:Value} (hk:ms[k]? =some m):w.cell? ⟨g,k,none⟩=some m/\w.frozen? ⟨g,k,none⟩=false:=by
 have h:w.heap[g]? =some (.cells ms.toArray t (0,0)):=h;refine⟨?_,by simp[World.frozen?,h]⟩;simp only[World.cell?,h,Option.isSome_none,Bool.false_eq_true,if_false];rw[List.getElem?_toArray,hk]
theorem ValRw.set {t:TypeId} {w:World} {g:Nat} {ms:List Value} (h:ValRw t w g ms) (k:Nat) (b:Value):ValRw t (w.setCell ⟨g,k,none⟩ b) g (ms.set k b):=by
 have:=heap_set k b (show w.heap[g]? =some (.cells ms.toArray t (0,0))from h);unfold ValRw;rw[this,List.setIfInBounds_toArray]
theorem Zbsd (t:TypeId) (z:Value) (w:World) (n:Nat):ValRw t (w.alloc (.cells (madeCells #[z] n) t)) w.heap.size (List.replicate n z):=by
 unfold ValRw;rw[alloc_at]
 congr 2
 apply Array.ext';unfold madeCells;rw[Array.toList_map];apply List.ext_getElem?;intro i;rw[List.getElem?_map,Array.toList_range,List.getElem?_replicate]
 by_cases hi:i<n
 ·rw[List.getElem?_range hi,if_pos hi];simp[Nat.mod_one]
 ·rw[List.getElem?_eq_none (by simp;omega),if_neg hi];rfl
theorem ValRw.strs {w:World} {g:Nat} {xs:List ByteArray} (h:ValRw 9 w g (xs.map Value.string)) (hn:xs.length<=maxLen):IsStrs w (.slice (some ⟨g,0,none⟩) xs.length xs.length) xs:=by
 refine⟨_,_,rfl,Nat.le_refl _,hn,λ_=>⟨g,0,rfl,(Array.getElem?_eq_some_iff.1 h).1,λj x hx=>?_⟩⟩;rw[Nat.zero_add];exact(h.cell (by rw[List.getElem?_map,hx];rfl)).1
theorem Zyg (n:Nat) (hn:n<=1000000000) (w:World):(Instr.makeSlice 47 (.int .i64 (n:Int)) (.int .i64 (n:Int))).run prog w = .ok (.slice (some ⟨w.heap.size,0,none⟩) n n) (w.alloc (.cells (madeCells #[.string ⟨#[]⟩] n) 9)):=by
 obtain⟨i0,hi,hz,hs,hb⟩:=info_parts Zsr;have:=run_make (P:=prog) w 47 9 i0 (.string ⟨#[]⟩) underlying47 hi hz .i64 .i64 n n (by omega) (Int.le_refl _) (by rw[hb];omega) (by omega);rw[hs,show(Value.string ⟨#[]⟩).cells = #[.string ⟨#[]⟩]from rfl]at this;simpa using this
theorem IsInts.at {w:World} {v:Value} {xs:List Nat} (h:IsInts w v xs):∃a c,v = .slice a xs.length c/\xs.length<=c/\c<=maxLen/\∀(j:Nat) x,xs[j]? =some x->∃b o,a=some ⟨b,o,none⟩/\∀w',Below w.heap.size w w'->w'.cell? ⟨b,o+j,none⟩=some (.int .i64 (x:Int)):=by
 obtain⟨a,c,rfl,h1,h2,h3⟩:=h;refine⟨a,c,rfl,h1,h2,λj x hx=>?_⟩;obtain⟨b,o,rfl,hb,hc⟩:=h3 (by rintro rfl;simp at hx);exact⟨b,o,rfl,λw' hw=>(hw.cell (p:=⟨b,_,none⟩) hb).trans (hc j x hx)⟩
set_option maxHeartbeats 4000000
set_option maxRecDepth 100000
theorem Zzy (v pv:Value) (rs:List RuleS) (ps:List Nat) (w:World) (hv:RulesI w v rs) (hp:IsInts w pv ps) (hps:∀p∈ps,p<rs.length) (_hn:rs.length<=1048576) (hpn:ps.length<=1048576):
  Calls prog 129 #[v,pv] w λe w'=>∃u,e = .returned u/\IsStrs w' u (ps.map (nmAt rs))/\Below w.heap.size w w':=by
 obtain⟨va,vc,rfl,hvl,hvm⟩:=Zbjn hv;obtain⟨pa,pc,rfl,hpl,hpm,hpc⟩:=hp.at;obtain⟨n,hnn⟩:∃n,w.heap.size=n:=⟨_,rfl⟩;have hmk:=Zyg ps.length (by omega);obtain⟨W1,hW1⟩:∃W,w.alloc (.cells (madeCells #[.string ⟨#[]⟩] ps.length) 9)=W:=⟨_,rfl⟩;have hb1:Below w.heap.size w W1:=by rw[<-hW1];exact(Below.refl _ _).alloc (Nat.le_refl _) _
 have hv1:ValRw 9 W1 n (List.replicate ps.length (Value.string ⟨#[]⟩)):=by rw[<-hW1,<-hnn];exact Zbsd _ _ _ _
 rw[hnn]at hb1⊢;have HV:=hid hv;have HPC:=hid hpc;have HPS:=hid hps;have HN:=hid hnn;have HB1:=hid hb1;have HV1:=hid hv1;have HW1:=hid hW1;unfold maxLen at hvm hpm;clear hv hp hpc hps hb1 hv1 hW1
 go_enter func129,ntmps129
 go_wp2_with fail
 rw[HW1.out]
 go_loopw [6,7,13,14,15,16,17,18,19,20,21,22,23,24,25,26] (λ_ _ iv _ _ _ _ _ _ _ _ _ _ _ _ _ wr=>∃k:Nat,k<=ps.length/\iv = .int .i64 (k:Int)/\ValRw 9 wr n ((ps.take k).map (λp=>Value.string (nmAt rs p))++List.replicate (ps.length-k) (Value.string ⟨#[]⟩))/\Below n w wr) (λ_ _ iv _ _ _ _ _ _ _ _ _ _ _ _ _ _=>ps.length-(intOf iv).toNat)
 case atStart=>exact⟨0,Nat.zero_le _,rfl,by simpa using HV1.out,HB1.out⟩
 case round=>
  obtain⟨k,hk,rfl,hr,hb⟩:=hrel;have HR:=hid hr;have HB:=hid hb
  by_cases hlt:k<ps.length
  ·obtain⟨p,hp⟩:∃p,ps[k]? =some p:=⟨ps[k],List.getElem?_eq_getElem hlt⟩
   obtain⟨b,o,q1,hc⟩:=HPC.out k p hp;subst q1;have hbw:Below w.heap.size w wr:=by rw[HN.out];exact hb
   have cx:=hc wr hbw;have hpl:=HPS.out p (List.mem_of_getElem? hp);obtain⟨y,hy⟩:∃y,rs[p]? =some y:=⟨rs[p],List.getElem?_eq_getElem hpl⟩;obtain⟨g,o2,cap,a1,c1,a2,c2,a3,c3,a4,c4,e,hg,hri,hyc⟩:=Zbjm HV.out hy;obtain⟨e1,_,e3⟩:=Value.slice.inj e;subst e1 e3;obtain⟨e0,e1,e2,e3,e4⟩:=hyc wr hbw;have hi1:(k:Int)<(ps.length:Int):=by omega
   have hi0:(0:Int)<=(k:Int):=by omega
   have hx1:(p:Int)<(rs.length:Int):=by omega
   have hx0:(0:Int)<=(p:Int):=by omega
   have hnm:nmAt rs p=y.name:=by unfold nmAt;rw[hy];rfl
   obtain⟨f1,f2⟩:=hr.cell (k:=k) (m:= .string ⟨#[]⟩) (by rw[List.getElem?_append_right (by simp<;>omega),List.length_map,List.length_take,Nat.min_eq_left hk,Nat.sub_self,List.getElem?_replicate,if_pos (by omega)]);have hset:=hr.set k (.string y.name);have hnext:((ps.take k).map (λp=>Value.string (nmAt rs p))++List.replicate (ps.length-k) (Value.string ⟨#[]⟩)).set k (.string y.name)=(ps.take (k+1)).map (λp=>Value.string (nmAt rs p))++List.replicate (ps.length-(k+1)) (Value.string ⟨#[]⟩):=by
    have e:ps.length-k=(ps.length-(k+1))+1:=by omega
    rw[List.set_append_right _ _ (by simp;omega),List.length_map,List.length_take,Nat.min_eq_left hk,Nat.sub_self,e,List.replicate_succ,List.set_cons_zero,List.take_add_one,hp,List.map_append,List.append_assoc];simp[hnm]
   rw[hnext]at hset;have HSET:=hid hset;clear hset hnext hr hb hp hy hyc hri hg hc hbw hnm;go_wp2;go_roundw
   case rel=>exact⟨k+1,by omega,by go_num,HSET.out,HB.out.setCell (p:=⟨n,k,none⟩) (Nat.le_refl _) _⟩
   case measure=>simp[intOf];omega
  ·have hi1:¬(k:Int)<(ps.length:Int):=by omega
   obtain rfl:k=ps.length:=by omega
   rw[List.take_length,Nat.sub_self,List.replicate_zero,List.append_nil,show ps.map (λp=>Value.string (nmAt rs p))=(ps.map (nmAt rs)).map Value.string by rw[List.map_map];rfl]at hr;have HF:=hid (hr.strs (by rw[List.length_map];unfold maxLen;omega));clear hr hb;go_wp2;go_ret;exact⟨_,rfl,by have:=HF.out;rw[List.length_map]at this;exact this,HB.out⟩
end Go.Proofs.YtokogjhcidkckaaGreatDoor
