import Derived.RangeFuncNested
import Derived.RangeFuncBox
import Derived.RangeFuncBound
import Derived.RangeFuncCalls
import Derived.Shelf.Abstract
import Derived.Shelf.RegionOpen
import Derived.WalkKit
import Derived.OwnWalkIn
import Derived.TacticsInMore
import Derived.LoopNIn
import Derived.LoopIn
import Derived.Maps.AppendAt
import Derived.Shelf.Small.Strs
import Derived.Test.YtmgcaldphpnfgaaGreatDoorLays
import Derived.Test.YtmgcaldphpnfgaaGreatDoorMas
import Derived.Shelf.Strings.Prefix
namespace Go.Proofs.YtmgcaldphpnfgaaGreatDoor
open Go.Lib (hid)
open Go.RowKit Go.Shelf
def rawA:List UInt8->List UInt8->List (List UInt8)
 | acc,[]=>if acc = []then []else [acc]
 | acc,c::r=>if c=10 then(acc ++ [10])::rawA [] r else rawA (acc ++ [c]) r
def rawL (s:List UInt8):List (List UInt8):=rawA [] s
theorem Zbgj:∀(a acc b:List UInt8),(10:UInt8)∉a->rawA acc (a++10::b)=(acc++a ++ [10])::rawL b
 | [],acc,b,_=>by simp[rawA,rawL]
 | c::a,acc,b,h=>by
  have hc:c≠10:=λe=>h (by simp[e])
  have ha:(10:UInt8)∉a:=λe=>h (by simp[e])
  rw[List.cons_append,rawA,if_neg hc,Zbgj a (acc ++ [c]) b ha];simp
theorem Zbgk:∀(s acc:List UInt8),(10:UInt8)∉s->rawA acc s=if acc++s = []then []else [acc++s]
 | [],acc,_=>by simp[rawA]
 | c::a,acc,h=>by
  have hc:c≠10:=λe=>h (by simp[e])
  have ha:(10:UInt8)∉a:=λe=>h (by simp[e])
  rw[rawA,if_neg hc,Zbgk a (acc ++ [c]) ha];simp
theorem Zbgp {a b:List UInt8} (h:(10:UInt8)∉a):rawL (a++10::b)=(a ++ [10])::rawL b:=by
 unfold rawL;rw[Zbgj a [] b h];simp[rawL]
theorem Zbgq {s:List UInt8} (h:(10:UInt8)∉s) (hn:s≠[]):rawL s = [s]:=by
 unfold rawL;rw[Zbgk s [] h];simp[hn]
theorem Zbgs (s:List UInt8):(rawL s).map (λx=>Lib.trimSuffix x [10])=Zxl s:=by
 induction s using Zxr with
 | h0=>rfl
 | h1 s h hn=>
  rw[Zbgq h hn,Zxn h hn];have:Lib.hasSuffix s [10]=false:=by
   rw[Bool.eq_false_iff];intro e;unfold Lib.hasSuffix at e;obtain⟨t,ht⟩:=List.isSuffixOf_iff_suffix.1 e;exact h (by rw[<-ht];simp)
  simp[Lib.trimSuffix,this]
 | h2 a b h ih=>
  rw[Zbgp h,Zxm h,List.map_cons,ih];have:Lib.hasSuffix (a ++ [10]) [10]=true:=by
   unfold Lib.hasSuffix;exact List.isSuffixOf_iff_suffix.2 ⟨a,rfl⟩
  simp[Lib.trimSuffix,this]
structure Rs (sb:Nat) (A B:World):Prop where
 os:B.os=A.os
 tape:B.tape=A.tape
 output:B.output=A.output
 size:B.heap.size=A.heap.size
 same:∀k,k≠sb->B.heap[k]? =A.heap[k]?
 kind:∀o,A.heap[sb]? =some o->o.isCells=false->B.heap[sb]? =some o
theorem Rs.keeps {sb:Nat} {A B:World} (h:Rs sb A B):KeepsOthers A B:=⟨Nat.le_of_eq h.size.symm,λk o hk ho=>by
 by_cases e:k=sb
 ·subst e;exact h.kind o hk ho
 ·exact(h.same k e).trans hk⟩
theorem Rs.below {n₀ sb:Nat} {W A B:World} (h:Rs sb A B) (hb:Below n₀ W A) (hs:n₀<=sb):Below n₀ W B:=
 ⟨h.os.trans hb.os,h.tape.trans hb.tape,h.output.trans hb.output,by rw[h.size];exact hb.size,λk hk=>(h.same k (by omega)).trans (hb.block k hk)⟩
theorem Zui (a b:List UInt8) (h:(10:UInt8)∉a):Lib.indexByte (a++10::b) 10=(a.length:Int):=by
 induction a with
 | nil=>rfl
 | cons c a ih=>
  have hc:(c==10)=false:=by simpa using λe:c=10=>h (by simp[e])
  have ha:(10:UInt8)∉a:=λe=>h (by simp[e])
  have:=ih ha;show(if c==10 then(0:Int)else if Lib.indexByte (a++10::b) 10 == -1 then -1 else Lib.indexByte (a++10::b) 10+1)=_;rw[hc,this];simp
theorem Zuj (a:List UInt8) (h:(10:UInt8)∉a):Lib.indexByte a 10 = -1:=by
 induction a with
 | nil=>rfl
 | cons c a ih=>
  have hc:(c==10)=false:=by simpa using λe:c=10=>h (by simp[e])
  have ha:(10:UInt8)∉a:=λe=>h (by simp[e])
  show(if c==10 then(0:Int)else if Lib.indexByte a 10 == -1 then -1 else Lib.indexByte a 10+1)=_;rw[hc,ih ha];rfl
def rawB (s:ByteArray):List ByteArray:=(rawL s.data.toList).map λx=>⟨x.toArray⟩
def Zgh (W:World) (b:Nat):Nat:=match W.cell? ⟨b,0,none⟩with|some (.string s)=>s.size|_=>0
theorem Zgi {W:World} {b:Nat} {t:TypeId} {s:ByteArray} (h:Boxed W b t (.string s)):Zgh W b=s.size:=by unfold Zgh;rw[h.cell]
theorem Zbgo {s:ByteArray} (h:s.size=0):rawB s = []:=by
 have:s.data.toList = []:=List.eq_nil_of_length_eq_zero h;unfold rawB;rw[this];rfl
theorem Zbgn (s:ByteArray) (h:s.size≠0):(Lib.indexByte s.data.toList 10 = -1/\rawB s = [s])∨∃k:Nat,Lib.indexByte s.data.toList 10=(k:Int)/\k<s.size/\rawB s=s.extract 0 (k+1)::rawB (s.extract (k+1) s.size):=by
 have hl:s.data.toList≠[]:=λe=>h (by show s.data.size=0;rw[<-Array.length_toList,e];rfl)
 rcases Zoz 10 s.data.toList with hm|⟨a,b,e,ha⟩
 ·left
  refine⟨Zuj _ hm,?_⟩;unfold rawB;rw[Zbgq hm hl];simp
 ·right
  have hsz:s.size=a.length+1+b.length:=by show s.data.size=_;rw[<-Array.length_toList,e];simp;omega
  refine⟨a.length,by rw[e];exact Zui a b ha,by omega,?_⟩;have e1:(s.extract 0 (a.length+1)).data.toList=a ++ [10]:=by
   rw[ByteArray.data_extract,Array.toList_extract,List.extract_eq_take_drop,e,List.drop_zero,Nat.sub_zero,show a++10::b=(a ++ [10])++b by simp];exact List.take_left' (by simp)
  have e2:(s.extract (a.length+1) s.size).data.toList=b:=by
   rw[ByteArray.data_extract,Array.toList_extract,List.extract_eq_take_drop,e,hsz,show a++10::b=(a ++ [10])++b by simp,List.drop_left' (by simp)];exact List.take_of_length_le (by omega)
  unfold rawB;rw[e2,e,Zbgp ha,List.map_cons]
  congr 1
  refine ByteArray.ext ?_;refine Array.ext' ?_;rw[e1]
def Zbd (b:Nat) (A B:World):Prop:=B.heap[b]? =A.heap[b]?
theorem Zwg {b:Nat} {w:World} (h:b<w.heap.size) (W:World) (l:Nat) (o o':Obj) (hl:w.heap.size<=l) (_:W.heap[l]? =some o) (_:o.isCells=false) (_:o.isWalk=false):Zbd b W (W.putObj l o'):=World.putObj_heap_other (by omega)
theorem Zbin {W:World} {sb:Nat} {t:TypeId} {u:Value} (h:Boxed W sb t u) (n:Nat) (v:Value):Rs sb W ((W.drewN n).setCell ⟨sb,0,none⟩ v):=
 ⟨rfl,rfl,rfl,by simp[World.setCell,World.drewN],λk hk=>Below.heap_setCell (W.drewN n) _ _ _ hk,λo ho hc=>by
  have:some o=some (Obj.cells #[u] t (0,0)):=ho.symm.trans h
  cases this
  cases hc⟩
section
attribute [local go_sem] Oper.semAt_some
set_option maxRecDepth 100000
set_option maxHeartbeats 4000000
theorem Zxp (n:Nat) (hn:1<=n) (sb:Nat) (s0:ByteArray) (w:World) (hb:Boxed w sb 9 (.string s0)) (hs0:s0.size<=1000000000):
  Zbw Fence.wide n Tryz.prog 136 #[.pointer (some ⟨sb,0,none⟩)] (λx:ByteArray=>#[.string x]) (Rs sb) (Zbd sb) (rawB s0) w:=by
 intro l J W hW hJ hY h0;have hbW:Boxed W sb 9 (.string s0):=(hW.block sb hb.lt).trans hb;clear hb hW;show CallsIn Fence.wide n Tryz.prog 136 #[.func (.yield l) #[] #[],.pointer (some ⟨sb,0,none⟩)] W _;refine callsIn_of_wp Tryz.func136 rfl trivial ?_ rfl;simp only[Tryz.ntmps136,List.size_toArray,List.length_cons,List.length_nil,Nat.reduceAdd,Nat.reduceSub,Array.replicate_succ,Array.replicate_zero,List.push_toArray,List.append_toArray,List.nil_append,List.cons_append]
 gi_wp2
 gi_loopw [] (λwr=>∃(pre:List ByteArray) (s:ByteArray),rawB s0=pre++rawB s/\Boxed wr sb 9 (.string s)/\s.size<=1000000000/\J pre wr) (λwr=>Zgh wr sb)
 case atStart=>exact⟨[],s0,rfl,hbW,hs0,h0⟩
 case round=>
  obtain⟨pre,s,hx,hbx,hsm,hJs⟩:=hrel;have hc:=hbx.cell;have hf:=hbx.frozen
  by_cases hz:s.size=0
  ·have hx':rawB s0=pre:=by rw[hx,Zbgo hz,List.append_nil]
   have hpos:¬(0:Int)<(s.size:Int):=by omega
   have HX:=hid hx';have HJ:=hid hJs;clear hx hx' hJ hY h0 hJs
   gi_wp2
   go_end0
   exact⟨⟨_,rfl⟩,by rw[HX.out];exact HJ.out⟩
  ·have hpos:(0:Int)<(s.size:Int):=by omega
   have hI:∀F',CallsIn Fence.wide F' Tryz.prog 137 #[.string s,.int .u8 10] wr λe w'=>e = .returned (.int .i64 (Lib.indexByte s.data.toList 10))/\w'=wr:=λF'=>(callsIn_wide (n:=F')).2 (Any.strings_IndexByte lLays_n137 s 10 wr)
   rcases Zbgn s hz with⟨e1,e2⟩|⟨k,e1,hk,e2⟩
   ·rw[e1]at hI
    have hb1:Boxed (wr.setCell ⟨sb,0,none⟩ (.string ⟨#[]⟩)) sb 9 (.string ⟨#[]⟩):=hbx.set _;obtain⟨fn,tmps,assign,body,hy,hR⟩:=hY pre s [] (wr.setCell ⟨sb,0,none⟩ (.string ⟨#[]⟩)) (by rw[hx,e2]) (hJ _ _ _ hJs (Zbin hbx 0 _));have HX:=hid (show rawB s0=(pre ++ [s])++rawB ⟨#[]⟩ by rw[hx,e2,Zbgo rfl,List.append_nil]);clear hx e1 e2 hJ hY h0 hJs
    gi_wp2_with (refine⟨trivial,?_⟩;gi_at_call 137;refine(hI _).mono ?_;rintro e w' ⟨rfl,rfl⟩)
    refine hR.mono ?_;rintro e W3 ⟨rfl,hJ3,hk3⟩;have hb3:Boxed W3 sb 9 (.string ⟨#[]⟩):=hk3.trans hb1
    gi_wp2
    go_roundw
    case rel=>exact⟨pre ++ [s],⟨#[]⟩,HX.out,hb3,by decide,hJ3⟩
    case measure=>rw[Zgi hb3,Zgi hbx];show 0<s.size;omega
   ·rw[e1]at hI
    obtain⟨S,hS⟩:∃S,s.extract (k+1) s.size=S:=⟨_,rfl⟩;obtain⟨X,hXs⟩:∃X,s.extract 0 (k+1)=X:=⟨_,rfl⟩;have hlen:S.size<s.size:=by rw[<-hS,ByteArray.size_extract];omega
    rw[hS,hXs]at e2;have hb1:Boxed (wr.setCell ⟨sb,0,none⟩ (.string S)).drew sb 9 (.string S):=Boxed.set _ hbx;obtain⟨fn,tmps,assign,body,hy,hR⟩:=hY pre X (rawB S) ((wr.setCell ⟨sb,0,none⟩ (.string S)).drew) (by rw[hx,e2]) (hJ _ _ _ hJs (Zbin hbx 1 _));have HX:=hid (show rawB s0=(pre ++ [X])++rawB S by rw[hx,e2];simp);have HL:=hid hlen;have hk0:(0:Int)<=(k:Int):=by omega
    have hk1:(k:Int)+1<=(s.size:Int):=by omega
    have hk2:((k:Int)+1).toNat=k+1:=by omega
    clear hx e1 e2 hJ hY h0 hJs hlen
    gi_wp2_with (refine⟨trivial,?_⟩;gi_at_call 137;refine(hI _).mono ?_;rintro e w' ⟨rfl,rfl⟩)
    gi_region
    gi_wp2
    refine hR.mono ?_;rintro e W3 ⟨rfl,hJ3,hk3⟩;have hb3:Boxed W3 sb 9 (.string S):=hk3.trans hb1
    gi_wp2
    go_roundw
    case rel=>exact⟨pre ++ [X],S,HX.out,hb3,by have:=HL.out;omega,hJ3⟩
    case measure=>rw[Zgi hb3,Zgi hbx];exact HL.out
end
end Go.Proofs.YtmgcaldphpnfgaaGreatDoor
namespace Go.Proofs.YtmgcaldphpnfgaaGreatDoor
open Go.Lib (hid)
open Go.RowKit Go.Shelf
def Zxi (s:ByteArray):List ByteArray:=(Zxl s.data.toList).map λx=>⟨x.toArray⟩
def trimB (x:ByteArray):ByteArray:=⟨(Lib.trimSuffix x.data.toList [10]).toArray⟩
theorem Zbgt (s:ByteArray):(rawB s).map trimB=Zxi s:=by
 unfold rawB Zxi;rw[<-Zbgs,List.map_map,List.map_map];rfl
theorem Zxk (s:ByteArray):(Zxi s).length<=s.size:=by
 unfold Zxi;rw[List.length_map];have:=Zxs s.data.toList;show _<=s.data.size
 rwa [<-Array.length_toList]
theorem Zbgm (s:ByteArray):(rawB s).length<=s.size:=by
 have:=Zxk s
 rwa [<-Zbgt,List.length_map]at this
theorem Zbgr (s:List UInt8):∀l∈rawL s,l.length<=s.length:=by
 induction s using Zxr with
 | h0=>intro l hl;cases hl
 | h1 s h hn=>rw[Zbgq h hn];simp
 | h2 a b h ih=>
  rw[Zbgp h];intro l hl
  rcases List.mem_cons.1 hl with rfl|hl
  ·simp
  ·have:=ih l hl;simp;omega
theorem Zbgl (s:ByteArray):∀x∈rawB s,x.size<=s.size:=by
 intro x hx;obtain⟨l,hl,rfl⟩:=List.mem_map.1 hx;have:=Zbgr _ l hl;show l.toArray.size<=s.data.size;rw[List.size_toArray,<-Array.length_toList];exact this
section
attribute [local go_sem] Oper.semAt_some
set_option maxRecDepth 100000
set_option maxHeartbeats 4000000
theorem Zbpy (n:Nat) (s:ByteArray) (w:World):
  CallsIn Fence.wide n Tryz.prog 83 #[.string s] w λe w'=>e = .returned (.func (.func 136) #[] #[.pointer (some ⟨w.heap.size,0,none⟩)])/\w'=w.alloc (.cells #[.string s] 9):=by
 refine callsIn_of_wp Tryz.func83 rfl trivial ?_ rfl;simp only[Tryz.ntmps83,List.size_toArray,List.length_cons,List.length_nil,Nat.reduceAdd,Nat.reduceSub,Array.replicate_succ,Array.replicate_zero,List.push_toArray,List.append_toArray,List.nil_append,List.cons_append]
 gi_wp2
 go_ret;exact⟨rfl,rfl⟩
theorem Zsq:(Tryz.prog.info? 9).map (λi=>(i.zero,i.size,i.bytes))=some (some (.string ⟨#[]⟩),1,16):=by kernel_rfl
def Zbf (w:World) (s:ByteArray) (e:Ending) (w':World):Prop:=∃v,e = .returned v/\OwnStrs (w.heap.size+2) w' v (Zxi s)/\(v = .slice none 0 0↔Zxi s = [])/\Below w.heap.size w w'
def LinI (w:World) (B:Nat) (pre:List ByteArray) (W:World):Prop:=(∃v,Boxed W B 22 v/\W.ownsRow (B+2) 9 1 v pre.length ((pre.map trimB).map Value.string)/\(v = .slice none 0 0↔pre.map trimB = []))/\Below B w W/\B+2<=W.heap.size
theorem Zxd {w:World} {B:Nat} (s:List ByteArray) (X Y:World) (h:LinI w B s X) (hr:Rs (B+1) X Y):LinI w B s Y:=by
 obtain⟨⟨v,hv,ho,hn⟩,hb,hL⟩:=h;refine⟨⟨v,(hr.same B (by omega)).trans hv,?_,hn⟩,hr.below hb (by omega),by rw[hr.size];exact hL⟩;obtain⟨hl,h|⟨g,cap,cur,e,hg,hgb,r⟩⟩:=ho
 ·exact⟨hl,.inl h⟩
 ·exact⟨hl,.inr ⟨g,cap,cur,e,hg,(hr.same g (by omega)).trans hgb,r⟩⟩
theorem Zxc (w:World) (L:Nat) (hL:w.heap.size<=L):OwnFrom L (LinI w w.heap.size):=
 OwnFrom.and (Own.from (holdsRow_own (w.heap.size+2) w.heap.size 22 9 1 (λpre:List ByteArray=>pre.length) (λpre=>(pre.map trimB).map Value.string) (λpre v=>v = .slice none 0 0↔pre.map trimB = [])) _) (OwnFrom.and (ownFrom_below (Nat.le_refl _) hL) λ_ _ _ _ h hg _=>Nat.le_trans h hg.size)
theorem Zbnp (s:ByteArray) (w:World) (hs:s.size<=1000000000):Calls Tryz.prog 50 #[.string s] w (Zbf w s):=by
 refine(callsIn_wide (n:=5)).1 ?_;obtain⟨i0,hi,hz0,hz1,hz2⟩:=info_parts Zsq;have mixed:Tryz.prog.follows .mixedOrders=true:=by kernel_rfl
 refine callsIn_of_wp_marks Tryz.func50 rfl trivial ?_ rfl;simp only[Tryz.ntmps50,List.size_toArray,List.length_cons,List.length_nil,Nat.reduceAdd,Nat.reduceSub,Array.replicate_succ,Array.replicate_zero,List.push_toArray,List.append_toArray,List.nil_append,List.cons_append]
 gi_wp2_with (refine⟨trivial,?_⟩;gi_at_call 83;refine(Zbpy _ _ _).mono ?_;rintro e w' ⟨rfl,rfl⟩)
 have bO:=Boxed.new w 22 (.slice none 0 0);have bS:=Boxed.new (w.alloc (.cells #[.slice none 0 0] 22)) 9 (.string s);rw[World.size_alloc]at bS;have hB0:Below w.heap.size w ((w.alloc (.cells #[.slice none 0 0] 22)).alloc (.cells #[.string s] 9)):=((Below.refl _ w).alloc (Nat.le_refl _) _).alloc (by simp) _;refine Zbub (xs:=rawB s) rfl (by omega) (gf:=136) (lb:=#[.pointer (some ⟨w.heap.size+1,0,none⟩)]) rfl trivial (enters_of Tryz.func136 (by kernel_rfl) rfl)
  (Zxp _ (by omega) (w.heap.size+1) s _ bS hs) (Below.refl _ _) (λ_=>rfl) (λ_ _ h=>h.keeps) (λ_=>rfl) (λ_ _ _ h k=>Eq.trans k h) (Zwg (by simp))
  (LinI w w.heap.size) (λs A B h hr=>Zxd s A B h hr) (Zxc w _ (by simp;omega))
  ⟨⟨_,bO.alloc _,World.ownsRow_nil _ _ _ _,by simp⟩,hB0,by simp⟩
  (λx=>{ tmps:=#[.string s,undef,.slice none 0 0,.pointer (some ⟨w.heap.size,0,none⟩),.string x,.string s,.func (.func 136) #[] #[.pointer (some ⟨w.heap.size+1,0,none⟩)],.string x,undef,undef,undef,undef,undef,undef],defers:=[] }) ?assign ?body ?done
 case assign=>
  intro l x W K hK
  gi_wp2
  exact hK
 case body=>
  rintro l pre x post W hx ⟨⟨v,hv,hrow,hnil⟩,hB,hL⟩;have hc:=hv.cell;have hxm:x∈rawB s:=by rw[hx];simp
  have hxs:=Zbgl s x hxm;have hWs:w.heap.size+2<=W.heap.size:=hL;have hpl:pre.length+1<=s.size:=by
   have:=Zbgm s;rw[hx]at this;simp at this⊢;omega
  have hT:∀F' W',CallsIn (Fence.wide.inRound l) F' Tryz.prog 84 #[.string x,.string ⟨#[10]⟩] W' λe w'=>e = .returned (.string (trimB x))/\w'=W':=λF' W'=>CallsIn.inRound l ((callsIn_wide (n:=F')).2 (Any.strings_TrimSuffix lLays_n102 x ⟨#[10]⟩ W' (by omega)))
  have HX:=hid hx;clear hx hxm;have hvd:Boxed W.drew w.heap.size 22 v:=hv;have hrd:W.drew.ownsRow (w.heap.size+2) 9 1 v pre.length ((pre.map trimB).map Value.string):=hrow;have hBd:Below w.heap.size w W.drew:=below_drewN hB 1;have hcd:=hvd.cell;have hcA:(W.alloc (.cells #[.string (trimB x)] 9)).cell? ⟨w.heap.size,0,none⟩=some v:=(hv.alloc _).cell;have hml:pre.length+1<=maxLen:=by unfold maxLen;omega
  have fin:∀(W':World) (v':Value),v'≠.slice none 0 0->KeepsOthers W.drew W'->Below w.heap.size W.drew W'->Boxed W' w.heap.size 22 v'->W'.ownsRow (w.heap.size+2) 9 1 v' (pre.length+1) ((pre.map trimB).map Value.string ++ [.string (trimB x)])->
    (∀j,j<w.heap.size+2->j≠w.heap.size->W'.heap[j]? =W.drew.heap[j]?)->∀B',KeepsFrom B' W W'/\Zbd (w.heap.size+1) W W'/\LinI w w.heap.size (pre ++ [x]) W':=by
   intro W' v' hne hk hb hx ho hj B';have e:(pre ++ [x]).map trimB=pre.map trimB ++ [trimB x]:=by simp
   refine⟨⟨hk.size,λk o _ h h'=>hk.same k o h h'⟩,hj _ (by omega) (by omega),⟨v',hx,?_,?_⟩,hBd.trans hb,Nat.le_trans hL hk.size⟩
   ·rw[e,List.length_append,List.map_append];exact ho
   ·rw[e];simp[hne]
  gi_wp2
  refine wpIn_region_any mixed ?_
  change wpAnyIn _ _ _ _ _ _ _ _ _ (World.drew _)
  refine wpAnyIn_ready (rs:=[0,1]) (by kernel_rfl) (by simp) ?_;refine AllReadyIn.cons (o:=_) (by simp only[List.getElem?_toArray,List.getElem?_cons_zero];rfl) (λK hK=>?_) ?_
  ·go_simp
   refine hK _ _ ?_;clear hK K
   try simp only[Act.put,List.setIfInBounds_toArray,List.set_cons_zero,List.set_cons_succ]
   refine wpAnyIn_ready (rs:=[1]) (by kernel_rfl) (by simp) ?_;refine AllReadyIn.cons (o:=_) (by simp only[List.getElem?_toArray,List.getElem?_cons_succ,List.getElem?_cons_zero];rfl) (λK hK=>?_) ?_
   ·go_simp
    refine hK _ _ ?_;clear hK K
    try simp only[Act.put,List.setIfInBounds_toArray,List.set_cons_zero,List.set_cons_succ]
    refine wpAnyIn_ready (rs:=[2]) (by kernel_rfl) (by simp) ?_;refine AllReadyIn.cons (o:=_) (by simp only[List.getElem?_toArray,List.getElem?_cons_succ,List.getElem?_cons_zero];rfl) (λK hK=>?_) ?_
    ·go_simp
     refine⟨trivial,?_⟩;refine(hT _ _).mono ?_;rintro e w' ⟨rfl,rfl⟩
     dsimp only
     refine hK _ _ ?_;clear hK K
     try simp only[Act.put,List.setIfInBounds_toArray,List.set_cons_zero,List.set_cons_succ]
     refine wpAnyIn_ready (rs:=[3]) (by kernel_rfl) (by simp) ?_;refine AllReadyIn.cons (o:=_) (by simp only[List.getElem?_toArray,List.getElem?_cons_succ,List.getElem?_cons_zero];rfl) (λK hK=>?_) ?_
     ·go_simp
      refine hK _ _ ?_;clear hK K
      try simp only[Act.put,List.setIfInBounds_toArray,List.set_cons_zero,List.set_cons_succ]
      refine wpAnyIn_ready (rs:=[4]) (by kernel_rfl) (by simp) ?_;refine AllReadyIn.cons (o:=_) (by simp only[List.getElem?_toArray,List.getElem?_cons_succ,List.getElem?_cons_zero];rfl) (λK hK=>?_) ?_
      ·refine Zbno rfl _ _ 22 rfl (w.heap.size+2) 9 i0 (.string ⟨#[]⟩) 1 16 Tryz.underlying22 hi hz0 hz1 hz2 rfl (by decide) v _ _ rfl (hrd.alloc _) ⟨W.heap.size,0,none⟩ 1 1 [.string (trimB x)] rfl rfl (cell_one_new _ _ _) (by simp[Value.oneCell']) hml (by omega) (by show w.heap.size+2<=(W.drew.alloc _).heap.size;rw[World.size_alloc];show _<=W.heap.size+1;omega) ?_
       intro v' w1 hown' hgrow hni;obtain⟨g',cap',rfl⟩:=ownsRow_succ hown';obtain⟨hv1,hv2,hr2,hk2,hb2,hj2⟩:=Zgj hvd hrd (by omega) (by show _<=W.heap.size;omega) hown' hgrow;have hc1:=hv1.cell;have hf1:=hv1.frozen;refine hK _ _ ?_;clear hK K
       try simp only[Act.put,List.setIfInBounds_toArray,List.set_cons_zero,List.set_cons_succ]
       refine wpAnyIn_ready (rs:=[5]) (by kernel_rfl) (by simp) ?_;refine AllReadyIn.cons (o:=_) (by simp only[List.getElem?_toArray,List.getElem?_cons_succ,List.getElem?_cons_zero];rfl) (λK hK=>?_) ?_
       ·go_simp
        refine hK _ _ ?_;clear hK K
        try simp only[Act.put,List.setIfInBounds_toArray,List.set_cons_zero,List.set_cons_succ]
        refine wpAnyIn_done (by kernel_rfl) ?_ _;exact fin _ _ (by simp) hk2 hb2 hv2 hr2 hj2 _
       exact AllReadyIn.nil
      exact AllReadyIn.nil
     exact AllReadyIn.nil
    exact AllReadyIn.nil
   exact AllReadyIn.nil
  refine AllReadyIn.cons (o:=_) (by simp only[List.getElem?_toArray,List.getElem?_cons_succ,List.getElem?_cons_zero];rfl) (λK hK=>?_) ?_
  ·go_simp
   refine hK _ _ ?_;clear hK K
   try simp only[Act.put,List.setIfInBounds_toArray,List.set_cons_zero,List.set_cons_succ]
   refine wpAnyIn_ready (rs:=[0,2]) (by kernel_rfl) (by simp) ?_;refine AllReadyIn.cons (o:=_) (by simp only[List.getElem?_toArray,List.getElem?_cons_zero];rfl) (λK hK=>?_) ?_
   ·go_simp
    refine hK _ _ ?_;clear hK K
    try simp only[Act.put,List.setIfInBounds_toArray,List.set_cons_zero,List.set_cons_succ]
    refine wpAnyIn_ready (rs:=[2]) (by kernel_rfl) (by simp) ?_;refine AllReadyIn.cons (o:=_) (by simp only[List.getElem?_toArray,List.getElem?_cons_succ,List.getElem?_cons_zero];rfl) (λK hK=>?_) ?_
    ·go_simp
     refine⟨trivial,?_⟩;refine(hT _ _).mono ?_;rintro e w' ⟨rfl,rfl⟩
     dsimp only
     refine hK _ _ ?_;clear hK K
     try simp only[Act.put,List.setIfInBounds_toArray,List.set_cons_zero,List.set_cons_succ]
     refine wpAnyIn_ready (rs:=[3]) (by kernel_rfl) (by simp) ?_;refine AllReadyIn.cons (o:=_) (by simp only[List.getElem?_toArray,List.getElem?_cons_succ,List.getElem?_cons_zero];rfl) (λK hK=>?_) ?_
     ·go_simp
      refine hK _ _ ?_;clear hK K
      try simp only[Act.put,List.setIfInBounds_toArray,List.set_cons_zero,List.set_cons_succ]
      refine wpAnyIn_ready (rs:=[4]) (by kernel_rfl) (by simp) ?_;refine AllReadyIn.cons (o:=_) (by simp only[List.getElem?_toArray,List.getElem?_cons_succ,List.getElem?_cons_zero];rfl) (λK hK=>?_) ?_
      ·refine Zbno rfl _ _ 22 rfl (w.heap.size+2) 9 i0 (.string ⟨#[]⟩) 1 16 Tryz.underlying22 hi hz0 hz1 hz2 rfl (by decide) v _ _ rfl (hrd.alloc _) ⟨W.heap.size,0,none⟩ 1 1 [.string (trimB x)] rfl rfl (cell_one_new _ _ _) (by simp[Value.oneCell']) hml (by omega) (by show w.heap.size+2<=(W.drew.alloc _).heap.size;rw[World.size_alloc];show _<=W.heap.size+1;omega) ?_
       intro v' w1 hown' hgrow hni;obtain⟨g',cap',rfl⟩:=ownsRow_succ hown';obtain⟨hv1,hv2,hr2,hk2,hb2,hj2⟩:=Zgj hvd hrd (by omega) (by show _<=W.heap.size;omega) hown' hgrow;have hc1:=hv1.cell;have hf1:=hv1.frozen;refine hK _ _ ?_;clear hK K
       try simp only[Act.put,List.setIfInBounds_toArray,List.set_cons_zero,List.set_cons_succ]
       refine wpAnyIn_ready (rs:=[5]) (by kernel_rfl) (by simp) ?_;refine AllReadyIn.cons (o:=_) (by simp only[List.getElem?_toArray,List.getElem?_cons_succ,List.getElem?_cons_zero];rfl) (λK hK=>?_) ?_
       ·go_simp
        refine hK _ _ ?_;clear hK K
        try simp only[Act.put,List.setIfInBounds_toArray,List.set_cons_zero,List.set_cons_succ]
        refine wpAnyIn_done (by kernel_rfl) ?_ _;exact fin _ _ (by simp) hk2 hb2 hv2 hr2 hj2 _
       exact AllReadyIn.nil
      exact AllReadyIn.nil
     exact AllReadyIn.nil
    exact AllReadyIn.nil
   refine AllReadyIn.cons (o:=_) (by simp only[List.getElem?_toArray,List.getElem?_cons_succ,List.getElem?_cons_zero];rfl) (λK hK=>?_) ?_
   ·go_simp
    refine⟨trivial,?_⟩;refine(hT _ _).mono ?_;rintro e w' ⟨rfl,rfl⟩
    dsimp only
    refine hK _ _ ?_;clear hK K
    try simp only[Act.put,List.setIfInBounds_toArray,List.set_cons_zero,List.set_cons_succ]
    refine wpAnyIn_ready (rs:=[0,3]) (by kernel_rfl) (by simp) ?_;refine AllReadyIn.cons (o:=_) (by simp only[List.getElem?_toArray,List.getElem?_cons_zero];rfl) (λK hK=>?_) ?_
    ·go_simp
     refine hK _ _ ?_;clear hK K
     try simp only[Act.put,List.setIfInBounds_toArray,List.set_cons_zero,List.set_cons_succ]
     refine wpAnyIn_ready (rs:=[3]) (by kernel_rfl) (by simp) ?_;refine AllReadyIn.cons (o:=_) (by simp only[List.getElem?_toArray,List.getElem?_cons_succ,List.getElem?_cons_zero];rfl) (λK hK=>?_) ?_
     ·go_simp
      refine hK _ _ ?_;clear hK K
      try simp only[Act.put,List.setIfInBounds_toArray,List.set_cons_zero,List.set_cons_succ]
      refine wpAnyIn_ready (rs:=[4]) (by kernel_rfl) (by simp) ?_;refine AllReadyIn.cons (o:=_) (by simp only[List.getElem?_toArray,List.getElem?_cons_succ,List.getElem?_cons_zero];rfl) (λK hK=>?_) ?_
      ·refine Zbno rfl _ _ 22 rfl (w.heap.size+2) 9 i0 (.string ⟨#[]⟩) 1 16 Tryz.underlying22 hi hz0 hz1 hz2 rfl (by decide) v _ _ rfl (hrd.alloc _) ⟨W.heap.size,0,none⟩ 1 1 [.string (trimB x)] rfl rfl (cell_one_new _ _ _) (by simp[Value.oneCell']) hml (by omega) (by show w.heap.size+2<=(W.drew.alloc _).heap.size;rw[World.size_alloc];show _<=W.heap.size+1;omega) ?_
       intro v' w1 hown' hgrow hni;obtain⟨g',cap',rfl⟩:=ownsRow_succ hown';obtain⟨hv1,hv2,hr2,hk2,hb2,hj2⟩:=Zgj hvd hrd (by omega) (by show _<=W.heap.size;omega) hown' hgrow;have hc1:=hv1.cell;have hf1:=hv1.frozen;refine hK _ _ ?_;clear hK K
       try simp only[Act.put,List.setIfInBounds_toArray,List.set_cons_zero,List.set_cons_succ]
       refine wpAnyIn_ready (rs:=[5]) (by kernel_rfl) (by simp) ?_;refine AllReadyIn.cons (o:=_) (by simp only[List.getElem?_toArray,List.getElem?_cons_succ,List.getElem?_cons_zero];rfl) (λK hK=>?_) ?_
       ·go_simp
        refine hK _ _ ?_;clear hK K
        try simp only[Act.put,List.setIfInBounds_toArray,List.set_cons_zero,List.set_cons_succ]
        refine wpAnyIn_done (by kernel_rfl) ?_ _;exact fin _ _ (by simp) hk2 hb2 hv2 hr2 hj2 _
       exact AllReadyIn.nil
      exact AllReadyIn.nil
     exact AllReadyIn.nil
    refine AllReadyIn.cons (o:=_) (by simp only[List.getElem?_toArray,List.getElem?_cons_succ,List.getElem?_cons_zero];rfl) (λK hK=>?_) ?_
    ·go_simp
     refine hK _ _ ?_;clear hK K
     try simp only[Act.put,List.setIfInBounds_toArray,List.set_cons_zero,List.set_cons_succ]
     refine wpAnyIn_ready (rs:=[0]) (by kernel_rfl) (by simp) ?_;refine AllReadyIn.cons (o:=_) (by simp only[List.getElem?_toArray,List.getElem?_cons_zero];rfl) (λK hK=>?_) ?_
     ·go_simp
      refine hK _ _ ?_;clear hK K
      try simp only[Act.put,List.setIfInBounds_toArray,List.set_cons_zero,List.set_cons_succ]
      refine wpAnyIn_ready (rs:=[4]) (by kernel_rfl) (by simp) ?_;refine AllReadyIn.cons (o:=_) (by simp only[List.getElem?_toArray,List.getElem?_cons_succ,List.getElem?_cons_zero];rfl) (λK hK=>?_) ?_
      ·refine Zbno rfl _ _ 22 rfl (w.heap.size+2) 9 i0 (.string ⟨#[]⟩) 1 16 Tryz.underlying22 hi hz0 hz1 hz2 rfl (by decide) v _ _ rfl (hrd.alloc _) ⟨W.heap.size,0,none⟩ 1 1 [.string (trimB x)] rfl rfl (cell_one_new _ _ _) (by simp[Value.oneCell']) hml (by omega) (by show w.heap.size+2<=(W.drew.alloc _).heap.size;rw[World.size_alloc];show _<=W.heap.size+1;omega) ?_
       intro v' w1 hown' hgrow hni;obtain⟨g',cap',rfl⟩:=ownsRow_succ hown';obtain⟨hv1,hv2,hr2,hk2,hb2,hj2⟩:=Zgj hvd hrd (by omega) (by show _<=W.heap.size;omega) hown' hgrow;have hc1:=hv1.cell;have hf1:=hv1.frozen;refine hK _ _ ?_;clear hK K
       try simp only[Act.put,List.setIfInBounds_toArray,List.set_cons_zero,List.set_cons_succ]
       refine wpAnyIn_ready (rs:=[5]) (by kernel_rfl) (by simp) ?_;refine AllReadyIn.cons (o:=_) (by simp only[List.getElem?_toArray,List.getElem?_cons_succ,List.getElem?_cons_zero];rfl) (λK hK=>?_) ?_
       ·go_simp
        refine hK _ _ ?_;clear hK K
        try simp only[Act.put,List.setIfInBounds_toArray,List.set_cons_zero,List.set_cons_succ]
        refine wpAnyIn_done (by kernel_rfl) ?_ _;exact fin _ _ (by simp) hk2 hb2 hv2 hr2 hj2 _
       exact AllReadyIn.nil
      exact AllReadyIn.nil
     exact AllReadyIn.nil
    exact AllReadyIn.nil
   exact AllReadyIn.nil
  exact AllReadyIn.nil
 case done=>
  rintro D W hD ⟨⟨v,hv,hrow,hnil⟩,hB,hL⟩ hK;have hc:=hv.cell;have hlen:(rawB s).length=(Zxi s).length:=by rw[<-Zbgt,List.length_map]
  rw[Zbgt,hlen]at hrow;rw[Zbgt]at hnil
  gi_wp2
  refine⟨by simp,.inl ⟨_,_,rfl,run_takeDeferred hK,?_⟩⟩;exact⟨_,results_tmp rfl _ _ _,v,rfl,ownsRow_putObj hrow _ hK rfl,hnil,hB.trans (belowK_b (w:=w) (Nat.le_refl _) W D _ _ (by simp at hD;omega) hK rfl rfl)⟩
end
end Go.Proofs.YtmgcaldphpnfgaaGreatDoor
namespace Go.Proofs.YtmgcaldphpnfgaaGreatDoor
open Go.Lib (hid)
open Go.RowKit Go.Shelf
def valE (v:ValT):Value:= .agg #[.bool v.1,.string v.2]
theorem Zup (xs:List ByteArray) (k:Nat) (x:ByteArray) (h:xs[k]? =some x):Zul ((xs.take (k+1)).map (·.data.toList))=Zul ((xs.take k).map (·.data.toList))++x.data.toList ++ [10]:=by
 rw[List.take_add_one,h,List.map_append,Zum];simp[Zul]
theorem Zur (xs:List ByteArray) (k:Nat):(Zul ((xs.take k).map (·.data.toList))).length<=(Zul (xs.map (·.data.toList))).length:=by
 conv=>rhs;rw[<-List.take_append_drop k xs,List.map_append,Zum]
 simp
set_option maxHeartbeats 4000000
set_option maxRecDepth 100000
theorem Zmr (v:Value) (xs:List ByteArray) (w:World) (h:IsStrs w v xs) (hlen:(Zul (xs.map (·.data.toList))).length<=1000000000):
  Calls Tryz.prog 233 #[v] w λe w'=>e = .returned (.string ⟨(Zul (xs.map (·.data.toList))).toArray⟩)/\Below w.heap.size w w':=by
 obtain⟨a,c,rfl,h1,h1m,h2⟩:=h;have hcells:∀(k:Nat) x,xs[k]? =some x->∃b o,a=some ⟨b,o,none⟩/\b<w.heap.size/\w.cell? ⟨b,o+k,none⟩=some (.string x):=by
  intro k x hx;obtain⟨b,o,ha,hb,hc⟩:=h2 (by rintro rfl;simp at hx);exact⟨b,o,ha,hb,hc k x hx⟩
 have HC:=hid hcells;have HLE:=hid hlen;clear hcells h2 hlen;unfold maxLen at h1m;obtain⟨res,hres⟩:∃res,res=Zul (xs.map (·.data.toList)):=⟨_,rfl⟩;rw[<-hres];have HRES:=hid hres;clear hres;have hB0:=Lib.fresh_isBuilder 151 5 w
 go_enter Tryz.func233,Tryz.ntmps233
 go_wp2
 go_loopw [8] (λi wr=>∃k:Nat,k<=xs.length/\i = .int .i64 k/\Lib.IsBuilder 151 5 w.heap.size w.heap.size (Lib.byteCells (Zul ((xs.take k).map (·.data.toList)))) wr/\Below w.heap.size w wr)
  (λi _=>xs.length-(intOf i).toNat)
 case atStart=>exact⟨0,Nat.zero_le _,rfl,hB0,(Below.refl _ _).alloc (Nat.le_refl _) _⟩
 case round=>
  obtain⟨k,hk,rfl,hbu,hnx⟩:=hrel;obtain⟨cur,hcur⟩:∃cur,Zul ((xs.take k).map (·.data.toList))=cur:=⟨_,rfl⟩;rw[hcur]at hbu;have HCUR:=hid hcur;have HBU:=hid hbu;clear hcur hB0 hbu;have hle:=Zur xs k;rw[HCUR.out]at hle;have hsz:=hnx.size
  by_cases hlt:k<xs.length
  ·obtain⟨x,hx⟩:∃x,xs[k]? =some x:=⟨xs[k],List.getElem?_eq_getElem hlt⟩
   obtain⟨b,o,ha,hb,hc⟩:=HC.out k x hx;subst ha;have hcx:wr.cell? ⟨b,o+k,none⟩=some (.string x):=(hnx.cell (by exact hb)).trans hc;have hnext:=Zup xs k x hx;have hle2:=Zur xs (k+1);rw[hnext,HCUR.out]at hle2;have hall:=HLE.out;simp only[List.length_append,List.length_cons,List.length_nil,<-Lib.size_eq]at hle2;have HNX:=hid hnext;have HL:=hid hle2;have HA:=hid hall;have hi1:(k:Int)<(xs.length:Int):=by omega
   have hi0:(0:Int)<=(k:Int):=by omega
   clear hnext hle2 hall hc hx hle
   go_wp2_with fail
   refine(Zbuo w.heap.size w.heap.size cur x _ HBU.out (by have:=HL.out;have:=HA.out;omega) (by omega)).mono ?_;rintro e w3 ⟨rfl,h3,hb3⟩;have s3:=hb3.size;have H3:=hid h3;clear h3
   go_wp2_with fail
   refine(Zbul w.heap.size w.heap.size (cur++x.data.toList) 10 10 rfl w3 H3.out (by have:=HL.out;have:=HA.out;simp only[List.length_append,<-Lib.size_eq];omega) (by omega)).mono ?_;rintro e w4 ⟨rfl,h4,hb4⟩;have hnx5:=(hnx.trans hb3).trans hb4;have H5:=hid h4;clear h4;go_wp2;go_roundw
   case rel=>exact⟨k+1,by omega,by go_num,by rw[HNX.out,HCUR.out];exact H5.out,hnx5⟩
   case measure=>simp[intOf];omega
  ·have hfull:cur=res:=by rw[<-HCUR.out,List.take_of_length_le (by omega),HRES.out]
   have HF:=hid hfull;have hi1:¬(k:Int)<(xs.length:Int):=by omega
   clear hfull
   go_wp2_with fail
   refine(Zgk w.heap.size w.heap.size cur wr HBU.out hsz).mono ?_;rintro e w2 ⟨rfl,hb2⟩;go_wp2;go_ret;exact⟨Zbhr (by rw[HF.out]),hnx.trans hb2⟩
theorem Zuz (xs:List (List UInt8)):Lib.join xs []=xs.flatten:=by
 unfold Lib.join
 induction xs with
 | nil=>rfl
 | cons x l ih=>
  cases l with
  | nil=>simp[List.intercalate]
  | cons y r=>rw[List.flatten_cons,<-ih];simp[List.intercalate,List.intersperse]
theorem Zbsx (v:Value) (xs:List ByteArray) (w:World) (h:IsStrs w v xs) (hN:xs.length<=1000000000) (hlen:(xs.map (·.data.toList)).flatten.length<=1000000000):
  Calls Tryz.prog 139 #[v] w λe w'=>e = .returned (valE (capV (xs.map (·.data.toList)).flatten))/\Below w.heap.size w w':=by
 have hb:Below w.heap.size w (w.alloc (.cells #[.bool false,.string ⟨#[]⟩] 28)):=(Below.refl _ _).alloc (Nat.le_refl _) _;have cJ:=Zuy v xs ⟨#[]⟩ _ (h.below hb) (by omega) (by rw[show(⟨#[]⟩:ByteArray).data.toList = []from rfl,Zuz];omega);rw[show(⟨#[]⟩:ByteArray).data.toList = []from rfl,Zuz]at cJ;obtain⟨L,hL⟩:∃L,(xs.map (·.data.toList)).flatten=L:=⟨_,rfl⟩;rw[hL]at cJ hlen⊢;obtain⟨T,hT⟩:∃T:ByteArray,(⟨L.toArray⟩:ByteArray)=T:=⟨_,rfl⟩;have hTs:T.size=L.length:=by rw[<-hT];simp[ByteArray.size]
 rw[hT]at cJ;have CJ:=hid cJ;have HB:=hid hb;clear cJ hb h hN hL
 go_enter Tryz.func139,Tryz.ntmps139
 go_wp2_with fail
 refine CJ.out.mono ?_;rintro e w2 ⟨rfl,hb2⟩;have hx:=(hb2.block w.heap.size (by simp)).trans (alloc_at w _);obtain⟨d0,d1,f0,f1⟩:=Zih hx;have HX:=hid hx;have HB2:=hid (HB.out.trans (hb2.mono (by simp)));have hs2:=hb2.size;simp only[World.size_alloc]at hs2;have HS2:=hid hs2;clear hb2 hs2
 by_cases hc:L.length<=2000
 ·have hj:¬(2000:Int)<(T.size:Int):=by omega
  have hv:capV L=(true,T):=by unfold capV;rw[if_pos hc,hT]
  go_wp2;refine bodyPost_ret (Zbhl rfl _ _ w.heap.size _ _ _ _ rfl (heap_set _ _ (heap_set _ _ HX.out)) Tryz.underlying28 rfl (by kernel_rfl)) rfl ?_;exact⟨by rw[hv];rfl,(HB2.out.setCell (p:=⟨w.heap.size,0,none⟩) (Nat.le_refl _) _).setCell (p:=⟨w.heap.size,1,none⟩) (Nat.le_refl _) _⟩
 ·have hj:(2000:Int)<(T.size:Int):=by omega
  have hv:capV L=noV:=by unfold capV;rw[if_neg hc]
  go_wp2;refine bodyPost_ret (Zbhl rfl _ _ w.heap.size _ _ _ _ rfl (heap_set _ _ (heap_set _ _ HX.out)) Tryz.underlying28 rfl (by kernel_rfl)) rfl ?_;exact⟨by rw[hv];rfl,(HB2.out.setCell (p:=⟨w.heap.size,0,none⟩) (Nat.le_refl _) _).setCell (p:=⟨w.heap.size,1,none⟩) (Nat.le_refl _) _⟩
end Go.Proofs.YtmgcaldphpnfgaaGreatDoor
