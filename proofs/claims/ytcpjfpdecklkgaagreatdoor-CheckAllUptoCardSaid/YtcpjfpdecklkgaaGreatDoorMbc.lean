import Derived.Test.YtcpjfpdecklkgaaGreatDoorMbb
namespace Go.Proofs.YtcpjfpdecklkgaaGreatDoor
open Go.Lib (hid)
open Go.Proofs.Tryz
open Go.RowKit Go.Shelf Go.Maps
def IsInts (w:World) (v:Value) (xs:List Nat):Prop:=∃a c,v = .slice a xs.length c/\xs.length<=c/\c<=maxLen/\(xs≠[]->∃b o,a=some ⟨b,o,none⟩/\b<w.heap.size/\∀(j:Nat) x,xs[j]? =some x->w.cell? ⟨b,o+j,none⟩=some (.int .i64 (x:Int)))
theorem IsInts.below {w w':World} {v:Value} {xs:List Nat} (h:IsInts w v xs) (hb:Below w.heap.size w w'):IsInts w' v xs:=by
 obtain⟨a,c,rfl,h1,h2,h3⟩:=h;refine⟨a,c,rfl,h1,h2,λhne=>?_⟩;obtain⟨b,o,rfl,hl,hc⟩:=h3 hne;exact⟨b,o,rfl,Nat.lt_of_lt_of_le hl hb.size,λj x hx=>(hb.cell (p:=⟨b,o+j,none⟩) hl).trans (hc j x hx)⟩
def intV (n:Nat):Value:= .int .i64 (n:Int)
theorem Zbdq {B:Nat} {w:World} {v:Value} {xs:List Nat} (h:w.ownsRow B 3 1 v xs.length (xs.map intV)):∃a c,v = .slice a xs.length c/\xs.length<=c/\c<=maxLen/\∀(j:Nat) x,xs[j]? =some x->∃b,a=some ⟨b,0,none⟩/\B<=b/\b<w.heap.size/\w.cell? ⟨b,j,none⟩=some (.int .i64 (x:Int)):=by
 obtain⟨_,⟨rfl,h0⟩|⟨g,cap,cur,rfl,hB,hg,h1,h2,_,h4⟩⟩:=h
 ·obtain rfl:xs = []:=List.eq_nil_of_length_eq_zero h0
  exact⟨none,0,rfl,Nat.le_refl _,by decide,λj x h=>by simp at h⟩
 ·refine⟨_,cap,rfl,h1,h2,λj x hx=>⟨g,rfl,hB,(Array.getElem?_eq_some_iff.1 hg).1,?_⟩⟩
  have hj:=(List.getElem?_eq_some_iff.1 hx).1;have e:(cur.toList.take (xs.length*1))[j]? =(xs.map intV)[j]?:=by rw[h4]
  rw[Nat.mul_one,List.getElem?_take_of_lt hj,List.getElem?_map,hx]at e;simp only[World.cell?,hg,Option.isSome_none,Bool.false_eq_true,if_false];rw[<-Array.getElem?_toList,e];rfl
theorem Zbdp {B:Nat} {w:World} {v:Value} {xs:List Nat} (h:w.ownsRow B 3 1 v xs.length (xs.map intV)):IsInts w v xs:=by
 obtain⟨_,⟨rfl,h0⟩|⟨g,cap,cur,rfl,_,hg,h1,h2,_,h4⟩⟩:=h
 ·obtain rfl:xs = []:=List.eq_nil_of_length_eq_zero h0
  exact⟨none,0,rfl,Nat.le_refl _,by decide,λh=>absurd rfl h⟩
 ·refine⟨_,cap,rfl,h1,h2,λ_=>⟨g,0,rfl,(Array.getElem?_eq_some_iff.1 hg).1,λj x hx=>?_⟩⟩
  have hj:=(List.getElem?_eq_some_iff.1 hx).1;have e:(cur.toList.take (xs.length*1))[j]? =(xs.map intV)[j]?:=by rw[h4]
  rw[Nat.mul_one,List.getElem?_take_of_lt hj,List.getElem?_map,hx]at e;simp only[World.cell?,hg,Nat.zero_add,Option.isSome_none,Bool.false_eq_true,if_false];rw[<-Array.getElem?_toList,e];rfl
theorem Zsn:(prog.info? 3).map (λi=>(i.zero,i.size,i.bytes))=some (some (.int .i64 0),1,8):=by kernel_rfl
set_option maxHeartbeats 4000000
set_option maxRecDepth 100000
def WhPost (w:World) (b:Bool) (ms:List Bool) (e:Ending) (w':World):Prop:=∃v,e = .returned v/\w'.ownsRow w.heap.size 3 1 v (whL b 0 ms).length ((whL b 0 ms).map intV)/\Below w.heap.size w w'
theorem Zbsw (g:Nat) (ms:List Bool) (b:Bool) (w:World) (hm:BoolR w g ms) (hn:ms.length<=1048576):
  Calls prog 41 #[.slice (some ⟨g,0,none⟩) ms.length ms.length,.bool b] w (WhPost w b ms):=by
 obtain⟨i0,hi,hz0,hz1,hz2⟩:=info_parts Zsn;have hgl:g<w.heap.size:=(Array.getElem?_eq_some_iff.1 (show w.heap[g]? =some _ from hm)).1;have HM:=hid hm;clear hm
 go_enter func41,ntmps41
 go_wp2
 go_loopw [5,10] (λtv iv wr=>∃k:Nat,k<=ms.length/\iv = .int .i64 (k:Int)/\wr.ownsRow w.heap.size 3 1 tv (whL b 0 (ms.take k)).length ((whL b 0 (ms.take k)).map intV)/\Below w.heap.size w wr) (λ_ iv _=>ms.length-(intOf iv).toNat)
 case atStart=>exact⟨0,Nat.zero_le _,rfl,by simpa[whL]using World.ownsRow_nil _ _ _ _,Below.refl _ _⟩
 case round=>
  obtain⟨k,hk,rfl,hown,hnx⟩:=hrel;have HO:=hid hown;have HNX:=hid hnx;have hsz:=hnx.size;clear hown hnx
  by_cases hlt:k<ms.length
  ·obtain⟨m,hm⟩:∃m,ms[k]? =some m:=⟨ms[k],List.getElem?_eq_getElem hlt⟩
   have hmw:BoolR wr g ms:=(HNX.out.block g hgl).trans HM.out;obtain⟨cx,_⟩:=hmw.cell hm;have hi1:(k:Int)<(ms.length:Int):=by omega
   have hi0:(0:Int)<=(k:Int):=by omega
   have htake:ms.take (k+1)=ms.take k ++ [m]:=by rw[List.take_add_one,hm];rfl
   have hnext:=Zbsr b (ms.take k) 0 m;rw[<-htake,List.length_take,Nat.min_eq_left hk,Nat.zero_add]at hnext;have hwl:=Zbss b (ms.take k) 0;rw[List.length_take,Nat.min_eq_left hk]at hwl;obtain⟨L,hL⟩:∃L,whL b 0 (ms.take k)=L:=⟨_,rfl⟩;have hown:=HO.out;rw[hL]at hown hnext hwl;have HOWN:=hid hown
   by_cases hmb:m=b
   ·subst hmb
    rw[if_pos rfl]at hnext;have HNE:=hid hnext;have hl:L.length+1<=maxLen:=by unfold maxLen;omega
    have hbb:(m==m)=true:=by simp
    clear hnext htake hmw hm hown hL
    go_wp2_with (at_builtin;refine wpList_append_own _ rfl _ _ 53 rfl w.heap.size 3 i0 _ 1 8 underlying53 hi hz0 hz1 hz2 rfl (by decide) _ _ _ rfl (HOWN.out.alloc _) ⟨wr.heap.size,0,none⟩ 1 1 [.int .i64 (k:Int)] rfl rfl ?qc2 ?qc3 hl ?qc5 ?qc6 ?_)
    case qc2=>exact cell_one_new _ _ _
    case qc3=>intro u hu;simp at hu;subst hu;rfl
    case qc5=>omega
    case qc6=>simp;omega
    intro v' w1 hown' hgrow hnil;have hown1:=HOWN.out;have hbb':Below w.heap.size w w1:=(HNX.out.alloc hsz _).grown hgrow (by simp;omega) (λj e=>(hown1.lt j e).1);have HO2:=hid (show w1.ownsRow w.heap.size 3 1 v' (whL m 0 (ms.take (k+1))).length ((whL m 0 (ms.take (k+1))).map intV) by rw[HNE.out,List.length_append,List.map_append];exact hown');have HBB:=hid hbb';clear hown' hgrow hnil hbb' hown1;go_wp2;go_roundw
    case rel=>exact⟨k+1,by omega,by go_num,HO2.out,HBB.out⟩
    case measure=>simp[intOf];omega
   ·rw[if_neg hmb,List.append_nil]at hnext
    have HNE:=hid (show wr.ownsRow w.heap.size 3 1 u5 (whL b 0 (ms.take (k+1))).length ((whL b 0 (ms.take (k+1))).map intV) by rw[hnext];exact hown);have hbb:(m==b)=false:=by simpa using hmb
    clear hnext htake hmw hm hown hL;go_wp2;go_roundw
    case rel=>exact⟨k+1,by omega,by go_num,HNE.out,HNX.out⟩
    case measure=>simp[intOf];omega
  ·have hi1:¬(k:Int)<(ms.length:Int):=by omega
   have hfull:ms.take k=ms:=List.take_of_length_le (by omega);have hown:=HO.out;rw[hfull]at hown;have HF:=hid hown;clear hown hfull;go_wp2;go_ret;exact⟨_,rfl,HF.out,HNX.out⟩
def Zdv (steps:List StepS) (is:List Nat) (a:ByteArray):Prop:=∃i∈is,∃s,steps[i]? =some s/\a∈s.args
theorem Zds (a:ByteArray):∀(steps:List StepS) (ms:List Bool) (k:Nat),(∃i∈whL true k ms,∃s,steps[i-k]? =some s/\a∈s.args)↔a∈Zdr steps ms
 | [],ms,k=>by simp[Zdr]
 | s::r,[],k=>by simp[Zdr,whL]
 | s::r,m::ms,k=>by
  have ih:=Zds a r ms (k+1);have hge:∀i∈whL true (k+1) ms,k+1<=i:=λi hi=>((Zbsu true ms (k+1) i).1 hi).1
  have e:(∃i∈whL true (k+1) ms,∃s',(s::r)[i-k]? =some s'/\a∈s'.args)↔a∈Zdr r ms:=by
   rw[<-ih];constructor
   ·rintro⟨i,hi,s',h1,h2⟩
    have:=hge i hi;rw[show i-k=(i-(k+1))+1 by omega,List.getElem?_cons_succ]at h1;exact⟨i,hi,s',h1,h2⟩
   ·rintro⟨i,hi,s',h1,h2⟩
    have:=hge i hi;exact⟨i,hi,s',by rw[show i-k=(i-(k+1))+1 by omega,List.getElem?_cons_succ];exact h1,h2⟩
  rw[whL,Zdr]
  cases m with
  | true=>
   rw[if_pos rfl,if_pos rfl,List.mem_append,<-e];constructor
   ·rintro⟨i,hi,s',h1,h2⟩
    rcases List.mem_cons.1 hi with rfl|hi
    ·rw[Nat.sub_self]at h1
     obtain rfl:s=s':=by simpa using h1
     exact .inl h2
    ·exact .inr ⟨i,hi,s',h1,h2⟩
   ·rintro(h|⟨i,hi,s',h1,h2⟩)
    ·exact⟨k,by simp,s,by simp,h⟩
    ·exact⟨i,by simp[hi],s',h1,h2⟩
  | false=>rw[if_neg (by decide),if_neg (by decide)];exact e
theorem Zbsv (a:ByteArray) (steps:List StepS) (ms:List Bool):Zdv steps (whL true 0 ms) a↔a∈Zdr steps ms:=by
 have:=Zds a steps ms 0;simpa[Zdv]using this
theorem Zdw {steps:List StepS} {is:List Nat} {k x:Nat} {y:StepS} (hx:is[k]? =some x) (hy:steps[x]? =some y) (a:ByteArray):Zdv steps (is.take (k+1)) a↔Zdv steps (is.take k) a∨a∈y.args:=by
 have e:is.take (k+1)=is.take k ++ [x]:=by rw[List.take_add_one,hx];rfl
 unfold Zdv;rw[e];constructor
 ·rintro⟨i,hi,s,h1,h2⟩
  rcases List.mem_append.1 hi with hi|hi
  ·exact .inl ⟨i,hi,s,h1,h2⟩
  ·obtain rfl:i=x:=by simpa using hi
   obtain rfl:y=s:=by simpa[hy]using h1
   exact .inr h2
 ·rintro(⟨i,hi,s,h1,h2⟩|h)
  ·exact⟨i,List.mem_append.2 (.inl hi),s,h1,h2⟩
  ·exact⟨x,by simp,y,hy,h⟩
def Zbt (w:World) (r:RuleS) (outs:List ByteArray) (e:Ending) (w':World):Prop:=∃v,e = .returned v/\IsStrs w' v (Zbgw r outs)/\Below w.heap.size w w'
theorem Zbls (r:RuleS) (a1 a2 a3 a4:Option Addr) (c1 c2 c3 c4:Nat) (ov:Value) (outs:List ByteArray) (w:World) (hr:RuleI w [.string r.name,.slice a1 r.ins.length c1,.slice a2 r.outs.length c2,.slice a3 r.after.length c3,.slice a4 r.steps.length c4] r) (hs:SmallR r 1048576) (ho:IsStrs w ov outs) (hon:outs.length<=1048576) (hos:∀k∈outs,k.size<=maxLen):
  Calls prog 43 #[.agg (Zbiz r a1 a2 a3 a4 c1 c2 c3 c4),ov] w (Zbt w r outs):=by
 have hri:=hr;obtain⟨vi,vo,vf,vst,q,h1,h2,h3,h4⟩:=hr;simp only[List.cons.injEq,and_true,true_and]at q;obtain⟨rfl,rfl,rfl,rfl⟩:=q;have hsi:=hs.ins;have hss:=hs.steps;have hfew:=hs.few;obtain⟨n,hn⟩:∃n,w.heap.size=n:=⟨_,rfl⟩;obtain⟨W2,hW2⟩:∃W,(w.alloc (.cells (Zbiz r a1 a2 a3 a4 c1 c2 c3 c4) 37)).alloc (.map #[] 0)=W:=⟨_,rfl⟩;have hs2:W2.heap.size=n+2:=by rw[<-hW2];simp[hn]
 have hb2:Below n w W2:=by rw[<-hW2,<-hn];exact((Below.refl _ _).alloc (Nat.le_refl _) _).alloc (by simp) _
 have hset2:SetIs W2 (n+1) []:=by
  have:=Zbkr (w.alloc (.cells (Zbiz r a1 a2 a3 a4 c1 c2 c3 c4) 37));rw[World.size_alloc,hn]at this;rw[<-hW2];exact this
 have hx2:W2.heap[n]? =some (.cells (Zbiz r a1 a2 a3 a4 c1 c2 c3 c4) 37):=by
  rw[<-hW2,Below.heap_alloc _ _ _ (by simp[hn]),<-hn];exact alloc_at w _
 have hD:∀W:World,W.heap[n]? =W2.heap[n]? ->W.cell? ⟨n,0,none⟩=some (.string r.name)/\W.cell? ⟨n,1,none⟩=some (.slice a1 r.ins.length c1)/\W.cell? ⟨n,2,none⟩=some (.slice a2 r.outs.length c2)/\W.cell? ⟨n,3,none⟩=some (.slice a3 r.after.length c3)/\W.cell? ⟨n,4,none⟩=some (.slice a4 r.steps.length c4):=by
  intro W hW;obtain⟨e0,e1,e2,e3,e4,_⟩:=cells5 (hW.trans hx2);exact⟨e0,e1,e2,e3,e4⟩
 have hbw2:Below w.heap.size w W2:=by rw[hn];exact hb2
 have CN:=hid (Zbat r a1 a2 a3 a4 c1 c2 c3 c4 ov outs W2 (hri.below hbw2) hs (ho.below hbw2) hon hos);obtain⟨MS,hMS⟩:∃MS,(Zbak outs r.steps).1=MS:=⟨_,rfl⟩;have hMl:MS.length=r.steps.length:=by rw[<-hMS];exact Zbal outs r.steps
 obtain⟨IS,hIS⟩:∃IS,whL true 0 MS=IS:=⟨_,rfl⟩;have hISl:∀i∈IS,i<r.steps.length:=by rw[<-hIS,<-hMl];exact Zbst true MS
 have hISn:IS.length<=r.steps.length:=by rw[<-hIS,<-hMl];exact Zbss true MS 0
 obtain⟨P,hP⟩:∃P:ByteArray->Bool,(λa=>decide (0<=Zoi (Zdr r.steps MS) a))=P:=⟨_,rfl⟩;have hPP:∀L,(∀a,a∈L↔Zdv r.steps IS a)->∀a,inS L a=P a:=by
  intro L hL a;rw[<-hP,Bool.eq_iff_iff,Zsj,hL,<-hIS,Zbsv,decide_eq_true_eq,Zoj]
 have hres:Zbgw r outs=srtB (r.ins.filter P):=by unfold Zbgw;rw[hMS,hP]
 unfold Zbt;rw[hres];have HST:Hid (∀(k:Nat) y,r.steps[k]? =some y->∃b o b1 m1,a4=some ⟨b,o,none⟩/\SmallS y 1048576/\(∀W,Below n w W->IsStrs W (.slice b1 y.args.length m1) y.args)/\(∀g o c,y.args≠[]->Value.slice b1 y.args.length m1 = .slice (some ⟨g,o,none⟩) y.args.length c->g<n)/\∀W,Below n w W->W.cell? ⟨b,o+k*5+2,none⟩=some (.slice b1 y.args.length m1)):=by
  show ∀(k:Nat) y,_;intro k y hy;obtain⟨b,o,cap,va,vl,e,ha,hl,hc⟩:=Zbou h4 hy;obtain⟨b1,m1,rfl⟩:=Zue ha;injection e with e1 _ _
  refine⟨b,o,b1,m1,e1,hss y (List.mem_of_getElem? hy),λW hW=>ha.below (by rw[hn];exact hW),λg o c hne e=>?_,λW hW=>(hc W (by rw[hn];exact hW)).2.2.1⟩;obtain⟨g',o',e',hg',_⟩:=Ztz ha hne;have e2:=e'.symm.trans (Value.slice.inj e).1
  cases e2
  omega
 obtain⟨_,_,ei,hil,him,hic⟩:=Zua h1
 cases ei
 have HIN:Hid (∀(k:Nat) x,r.ins[k]? =some x->∃b o,a1=some ⟨b,o,none⟩/\∀W,Below n w W->W.cell? ⟨b,o+k,none⟩=some (.string x)):=by
  show ∀(k:Nat) x,_;intro k x hx;obtain⟨b,o,e,hc⟩:=hic k x hx;exact⟨b,o,e,λW hW=>hc W (by rw[hn];exact hW)⟩
 have HSI:Hid (∀x∈r.ins,x.size<=maxLen):=hid λx hx=>by have:=hsi.2 x hx;unfold maxLen;omega
 have hinl:r.ins.length<=1048576:=hsi.1;have HD:=hid hD;have HB2:=hid hb2;have HSET2:=hid hset2;have HS2:=hid hs2;have HN:=hid hn;have HW2:=hid hW2;have HPP:=hid hPP;have HISL:=hid hISl;have HMS:=hid hMS;have HIS:=hid hIS;obtain⟨i0,hi,hz0,hz1,hz2⟩:=info_parts Zsr;have hmm:=@run_makeMap prog;obtain⟨name,insN,outsN,after,steps⟩:=r;simp only[Zbiz]at HD CN hMl HPP HISL HMS HST HIN HSI hinl hil him hfew hISn HW2⊢;unfold maxLen at him;clear hri h1 h2 h3 h4 hs hsi hss ho hW2 hs2 hb2 hset2 hx2 hD hbw2 hPP hISl hres hMS hIS hP hic hos
 go_enter func43,ntmps43
 go_wp2_with (first
  | (go_at_call 42;rw[HW2.out];(with_reducible refine CN.out.mono ?_);rintro e W3 ⟨g,rfl,hms,hgg,hb3⟩;rw[HMS.out]at hms;have CWH:=Zbsw g MS true W3 hms (by omega);rw[hMl]at CWH;have CWH:=hid CWH)
  | (go_at_call 41;(with_reducible refine CWH.out.mono ?_);rintro e W4 ⟨iv,rfl,hown4,hb4⟩;rw[HIS.out]at hown4;obtain⟨ia,ic,rfl,hil1,hil2,hil3⟩:=Zbdq hown4;clear hown4))
 rename_i CWHx
 have hs2:=HS2.out;have hz3:=hb3.size;have hz4:=hb4.size;have HII:Hid (∀(k:Nat) x,IS[k]? =some x->∃b,ia=some ⟨b,0,none⟩/\∀W,W4.grownBy W (some (n+1))->W.cell? ⟨b,k,none⟩=some (.int .i64 (x:Int))):=by
  show ∀(k:Nat) x,_;intro k x hx;obtain⟨b,e,hB,hl,hc⟩:=hil3 k x hx;exact⟨b,e,λW hW=>(World.cell?_of_block (hW.block b hl (λe=>by cases e;omega))).trans hc⟩
 have hb42:Below (n+2) W2 W4:=by rw[hs2]at hb3;exact hb3.trans (hb4.mono (by omega))
 have HB4:=hid (HB2.out.trans (hb42.mono (by omega)));have HX4:Hid (W4.heap[n]? =W2.heap[n]?):=hid (hb42.block n (by omega));have HSET4:Hid (SetIs W4 (n+1) []):=hid (HSET2.out.heap (hb42.block _ (by omega)));have HZ4:Hid (n+2<=W4.heap.size):=hid (by omega);unfold maxLen at hil2;clear hil3 hb3 hb4 hb42 hms hz3 hz4 hs2 CWHx CWH
 go_loopw [7,17,18,19,20,21,22,23,24,25,26,27,28,29] (λ_ iv _ _ _ _ _ _ _ _ _ _ _ _ wr=>∃k:Nat,k<=IS.length/\iv = .int .i64 (k:Int)/\(∃L,SetIs wr (n+1) L/\(∀a,a∈L↔Zdv steps (IS.take k) a)/\L.length<=k*1048576)/\W4.grownBy wr (some (n+1))) (λ_ iv _ _ _ _ _ _ _ _ _ _ _ _ _=>IS.length-(intOf iv).toNat)
 case atStart=>exact⟨0,Nat.zero_le _,rfl,⟨[],HSET4.out,by simp[Zdv],by simp⟩,Zrh _ _⟩
 case round=>
  obtain⟨k,hk,rfl,⟨L,hset,hL,hLl⟩,hgr⟩:=hrel;have hz4:=HZ4.out;have hz:=hgr.size;have hbw:Below n w wr:=HB4.out.grown hgr (by omega) (λj e=>by cases e;omega);obtain⟨d0,d1,d2,d3,d4⟩:=HD.out wr ((hgr.block n (by omega) (λe=>by cases e)).trans HX4.out);have HG:=hid hgr;have HL:=hid hL;have HSET:=hid hset;have HBW:=hid hbw;have HZ:Hid (n+2<=wr.heap.size):=hid (by omega);have HLL:=hid hLl
  by_cases hlt:k<IS.length
  ·obtain⟨x,hx⟩:∃x,IS[k]? =some x:=⟨IS[k],List.getElem?_eq_getElem hlt⟩
   obtain⟨b,q1,hc⟩:=HII.out k x hx;subst q1;have cx:=hc wr HG.out;have hxl:=HISL.out x (List.mem_of_getElem? hx);obtain⟨y,hy⟩:∃y,steps[x]? =some y:=⟨steps[x],List.getElem?_eq_getElem hxl⟩;obtain⟨bs,os,b1,m1,q2,hsm,hya,hyb,hyc⟩:=HST.out x y hy;subst q2;have cy:=hyc wr HBW.out;have ca:=Zblo (n+1) L (.slice b1 y.args.length m1) y.args wr hset (hya wr hbw) (λg o c hne e=>by have:=hyb g o c hne e;omega) (by
    have h1:=hsm.args.1;have h4:k*1048576<=1048576*1048576:=Nat.mul_le_mul_right _ (by omega);obtain⟨q,hq⟩:∃q,k*1048576=q:=⟨_,rfl⟩;rw[hq]at h4 hLl;omega) (λz hz=>by have:=hsm.args.2 z hz;unfold maxLen;omega)
   have CA:=hid ca;have HNX:=hid (Zdw hx hy);have HAL:=hid hsm.args.1;have hi1:(k:Int)<(IS.length:Int):=by omega
   have hi0:(0:Int)<=(k:Int):=by omega
   have hx1:(x:Int)<(steps.length:Int):=by omega
   have hx0:(0:Int)<=(x:Int):=by omega
   clear ca hset hL hLl hgr hbw hc hx hy hya hyb hyc hsm hz hz4 d0 d1 d2 d3
   go_wp2_with (go_at_call 82;(with_reducible refine CA.out.mono ?_);rintro e W5 ⟨rfl,hset5,hg5,hz5⟩;have HS5:=hid hset5;have HG5:=hid (HG.out.trans hg5);clear hset5 hg5 hz5)
   go_roundw
   case rel=>
    refine⟨k+1,by omega,by go_num,⟨_,HS5.out,λa=>by rw[Zcp,HL.out,HNX.out],?_⟩,HG5.out⟩;have:=Zco y.args L;have h1:=HAL.out;have h2:=HLL.out;rw[Nat.succ_mul];omega
   case measure=>simp[intOf];omega
  ·have hi1:¬(k:Int)<(IS.length:Int):=by omega
   have hP:Hid (∀a,inS L a=P a):=hid (HPP.out L (by rw[List.take_of_length_le (by omega)]at hL;exact hL));clear hset hL hLl hgr hbw hz hz4 d0 d2 d3 d4 HLL HL;have HC0:Hid (Below (n+2) wr wr):=hid (Below.refl _ _);go_wp2;obtain⟨WM,hWM⟩:∃Z,Z=wr:=⟨_,rfl⟩;subst hWM
   go_loopw [8,10,33,34,35,36,37,38,39,40,41,42,43,44] (λtv _ iv _ _ _ _ _ _ _ _ _ _ _ wq=>∃j:Nat,j<=insN.length/\iv = .int .i64 (j:Int)/\wq.ownsRow (n+2) 9 1 tv ((insN.take j).filter P).length (((insN.take j).filter P).map Value.string)/\Below (n+2) WM wq) (λ_ _ iv _ _ _ _ _ _ _ _ _ _ _ _=>insN.length-(intOf iv).toNat)
   case atStart=>exact⟨0,Nat.zero_le _,rfl,by simpa using World.ownsRow_nil _ _ _ _,HC0.out⟩
   case round=>
    obtain⟨j,hj,rfl,hown,hnx⟩:=hrel;have hz:=HZ.out;have hq:=hnx.size;have HO:=hid hown;have HNX:=hid hnx;have HBQ:Hid (Below n w wr):=hid (HBW.out.trans (hnx.mono (by omega)));clear hown
    by_cases hlt2:j<insN.length
    ·obtain⟨x,hx⟩:∃x,insN[j]? =some x:=⟨insN[j],List.getElem?_eq_getElem hlt2⟩
     obtain⟨b,o,q1,hc⟩:=HIN.out j x hx;subst q1;have cx:=hc wr HBQ.out;have hj1:(j:Int)<(insN.length:Int):=by omega
     have hj0:(0:Int)<=(j:Int):=by omega
     have htake:insN.take (j+1)=insN.take j ++ [x]:=by rw[List.take_add_one,hx];rfl
     have hfl:((insN.take j).filter P).length<=j:=Nat.le_trans (List.length_filter_le _ _) (by rw[List.length_take];omega);have cH:=Zblp (n+1) L x wr (HSET.out.below hnx (by omega)) (HSI.out x (List.mem_of_getElem? hx));rw[hP.out]at cH;have hnext:(insN.take (j+1)).filter P=(insN.take j).filter P++(if P x=true then [x]else []):=by rw[htake,List.filter_append];congr 1;rw[List.filter_cons];simp
     obtain⟨F,hF⟩:∃F,(insN.take j).filter P=F:=⟨_,rfl⟩;have hown:=HO.out;rw[hF]at hown hnext hfl;have HOWN:=hid hown;obtain⟨pb,hpb⟩:∃pb,P x=pb:=⟨_,rfl⟩;rw[hpb]at cH hnext;have CH:=hid cH;clear cH htake hx hc hown hF hnx
     cases pb with
     | true=>
      rw[if_pos rfl]at hnext;have HNE:=hid hnext;have hl:F.length+1<=maxLen:=by unfold maxLen;omega
      clear hnext hpb
      go_wp2_with (first
       | (go_at_call 84;(with_reducible refine CH.out.mono ?_);rintro e wh ⟨rfl,hbh⟩;have HBH:=hid hbh;have HOW2:=hid (World.ownsRow.kept (row:=none) HOWN.out ⟨hbh.os,hbh.tape,hbh.output,hbh.size,λk hk _=>hbh.block k hk⟩ (by cases Value.ownBlock _<;>simp));clear hbh)
       | (at_builtin;refine wpList_append_own _ rfl _ _ 29 rfl (n+2) 9 i0 _ 1 16 underlying29 hi hz0 hz1 hz2 rfl (by decide) _ _ _ rfl (HOW2.out.alloc _) ⟨wh.heap.size,0,none⟩ 1 1 [.string x] rfl rfl ?qc2 ?qc3 hl ?qc5 ?qc6 ?_))
      case qc2=>exact cell_one_new _ _ _
      case qc3=>intro u hu;simp at hu;subst hu;rfl
      case qc5=>have:=HBH.out.size;omega
      case qc6=>simp;have:=HBH.out.size;omega
      intro v' w1 hown' hgrow hnil;have hown1:=HOW2.out;have hbhs:=HBH.out.size;have hbb':Below (n+2) WM w1:=((HNX.out.trans (HBH.out.mono (by omega))).alloc (by omega) _).grown hgrow (by simp;omega) (λj e=>(hown1.lt j e).1);have HO2:=hid (show w1.ownsRow (n+2) 9 1 v' ((insN.take (j+1)).filter P).length (((insN.take (j+1)).filter P).map Value.string) by rw[HNE.out,List.length_append,List.map_append];exact hown');have HBB:=hid hbb';clear hown' hgrow hnil hbb' hown1;go_wp2;go_roundw
      case rel=>exact⟨j+1,by omega,by go_num,HO2.out,HBB.out⟩
      case measure=>simp[intOf];omega
     | false=>
      rw[if_neg (by decide),List.append_nil]at hnext;have HNE:=hid hnext;clear hnext hpb
      go_wp2_with (first
       | (go_at_call 84;(with_reducible refine CH.out.mono ?_);rintro e wh ⟨rfl,hbh⟩;have HBH:=hid hbh;have HOW2:=hid (World.ownsRow.kept (row:=none) HOWN.out ⟨hbh.os,hbh.tape,hbh.output,hbh.size,λk hk _=>hbh.block k hk⟩ (by cases Value.ownBlock _<;>simp));clear hbh))
      go_roundw
      case rel=>exact⟨j+1,by omega,by go_num,by rw[HNE.out];exact HOW2.out,HNX.out.trans (HBH.out.mono (by omega))⟩
      case measure=>simp[intOf];omega
    ·have hj1:¬(j:Int)<(insN.length:Int):=by omega
     have hfull:insN.take j=insN:=List.take_of_length_le (by omega);have hown:=HO.out;rw[hfull]at hown;have hfl:(insN.filter P).length<=insN.length:=List.length_filter_le _ _;obtain⟨F,hF⟩:∃F,insN.filter P=F:=⟨_,rfl⟩;rw[hF]at hown hfl;have HF:=hid hF;have hbt:Below n w wr:=HBQ.out;have HFB:=hid hbt;clear hfull HO hF hbt hnx
     by_cases hv:u8 = .slice none 0 0
     ·have hF0:F = []:=by
       rcases hown.2 with⟨_,h0⟩|⟨g,c,cur,h,_⟩
       ·exact List.eq_nil_of_length_eq_zero h0
       ·rw[hv]at h;cases h
      subst hv;have HS:=hid (show IsStrs wr (.slice none 0 0) (srtB F) by rw[hF0,show srtB ([]:List ByteArray) = [] by simp[srtB,srtL]];exact⟨none,0,rfl,Nat.le_refl _,by decide,λh=>absurd rfl h⟩);clear hown hF0
      go_wp2_with (go_at_call 85;refine(Zbmj _ _ _).mono ?_;rintro e w3 ⟨rfl,rfl⟩)
      go_ret;exact⟨_,rfl,by rw[HF.out];exact HS.out,by rw[HN.out];exact HFB.out⟩
     ·obtain⟨g,c,rfl⟩:∃g c,u8 = .slice (some ⟨g,0,none⟩) F.length c:=by
       rcases hown.2 with⟨h,_⟩|⟨g,c,cur,h,_⟩
       ·exact absurd h hv
       ·exact⟨g,c,h⟩
      have hg:=(hown.lt g rfl).1;have cS:=Zbmi (n+2) g c F wr hown (by omega);obtain⟨k',hk'⟩:∃k,F.length=k:=⟨_,rfl⟩;have hk2:(srtB F).length=k':=by rw[Zbnb,hk']
      have hbx:∀w3,wr.grownBy w3 (some g)->Below n w w3:=λw3 hgr=>HFB.out.grown hgr (by have:=HFB.out.size;have:=HN.out;omega) (λj e=>by cases e;omega)
      have HBX:=hid hbx;rw[hk']at cS⊢;have CS:=hid cS;clear cS hown hv hg hbx hk'
      go_wp2_with (go_at_call 85;refine CS.out.mono ?_;rintro e w3 ⟨rfl,hown3,hgr⟩;have HB3:=hid (HBX.out w3 hgr);have HS:=hid (show IsStrs w3 (.slice (some ⟨g,0,none⟩) k' c) (srtB F) by refine Zbdr (B:=n+2) ?_;unfold OwnStrs at hown3;exact hown3);clear hown3 hgr)
      go_ret;exact⟨_,rfl,by rw[HF.out];exact HS.out,by rw[HN.out];exact HB3.out⟩
set_option maxHeartbeats 4000000
set_option maxRecDepth 100000
theorem Zub {w:World} {b:Nat} {s:ByteArray} {t:TypeId} (h:w.heap[b]? =some (.cells #[.string s] t)):IsStrs w (.slice (some ⟨b,0,none⟩) 1 1) [s]:=by
 refine⟨_,1,rfl,Nat.le_refl _,by decide,λ_=>⟨b,0,rfl,(Array.getElem?_eq_some_iff.1 h).1,λj x hx=>?_⟩⟩
 match j,hx with
 | 0,hx=>
  obtain rfl:s=x:=by simpa using hx
  simp[World.cell?,h]
def Zce (w:World) (is:List Nat) (e:Ending) (w':World):Prop:=∃v,e = .returned v/\IsInts w' v is/\Below w.heap.size w w'
theorem WhPost.ints {w0 w w':World} {b:Bool} {ms:List Bool} {e:Ending} (h:WhPost w b ms e w') (hb:Below w0.heap.size w0 w):Zce w0 (whL b 0 ms) e w':=by
 obtain⟨v,rfl,ho,hb2⟩:=h;exact⟨v,rfl,Zbdp ho,hb.trans (hb2.mono hb.size)⟩
theorem Zbiv {w:World} {r:RuleS} {a1 a2 a3 a4:Option Addr} {c1 c2 c3 c4:Nat} (hr:RuleI w [.string r.name,.slice a1 r.ins.length c1,.slice a2 r.outs.length c2,.slice a3 r.after.length c3,.slice a4 r.steps.length c4] r):IsStrs w (.slice a2 r.outs.length c2) r.outs:=by
 obtain⟨vi,vo,vf,vs,q,h1,h2,h3,h4⟩:=hr;simp only[List.cons.injEq,and_true,true_and]at q;obtain⟨rfl,rfl,rfl,rfl⟩:=q;exact h2
theorem Zbmb {ks:List ByteArray} (h:ks.length<=1048576/\∀k∈ks,k.size<=1048576):∀k∈ks,k.size<=maxLen:=λk hk=>by have:=h.2 k hk;unfold maxLen;omega
theorem Zblu (r:RuleS) (a1 a2 a3 a4:Option Addr) (c1 c2 c3 c4:Nat) (out:ByteArray) (w:World) (hr:RuleI w [.string r.name,.slice a1 r.ins.length c1,.slice a2 r.outs.length c2,.slice a3 r.after.length c3,.slice a4 r.steps.length c4] r) (hs:SmallR r 1048576) (ho:out.size<=maxLen):
  Calls prog 20 #[.agg (Zbiz r a1 a2 a3 a4 c1 c2 c3 c4),.string out] w (Zce w (whL true 0 (Zbak [out] r.steps).1)):=by
 have cn:∀W v,Below w.heap.size w W->IsStrs W v [out]->Calls prog 42 #[.agg (Zbiz r a1 a2 a3 a4 c1 c2 c3 c4),v] W (Zbk W [out] r.steps):=λW v hb hv=>Zbat r a1 a2 a3 a4 c1 c2 c3 c4 v [out] W (hr.below hb) hs hv (by simp) (by simpa using ho)
 have CN:=hid cn;have hfew:=hs.few;have hMl:(Zbak [out] r.steps).1.length=r.steps.length:=Zbal [out] r.steps;obtain⟨MS,hMS⟩:∃MS,(Zbak [out] r.steps).1=MS:=⟨_,rfl⟩;unfold Zbk at CN;rw[hMS]at hMl CN⊢;obtain⟨name,insN,outsN,after,steps⟩:=r;simp only[Zbiz]at CN hMl hfew⊢;obtain⟨W1,hW1⟩:∃W,(w.alloc (.cells #[.string name,.slice a1 insN.length c1,.slice a2 outsN.length c2,.slice a3 after.length c3,.slice a4 steps.length c4] 37)).alloc (.cells #[.string out] 9)=W:=⟨_,rfl⟩;have h1:IsStrs W1 (.slice (some ⟨w.heap.size+1,0,none⟩) 1 1) [out]:=by rw[<-hW1];refine Zub (t:=9) ?_;have:=alloc_at (w.alloc (.cells #[.string name,.slice a1 insN.length c1,.slice a2 outsN.length c2,.slice a3 after.length c3,.slice a4 steps.length c4] 37)) (.cells #[.string out] 9);rwa [World.size_alloc]at this
 have hb1:Below w.heap.size w W1:=by rw[<-hW1];exact((Below.refl _ _).alloc (Nat.le_refl _) _).alloc (by simp) _
 have C1:=hid (CN.out W1 _ hb1 h1);have HB1:=hid hb1;have HW1:=hid hW1;clear cn hr hs ho h1 hb1 hW1 hMS
 go_enter func20,ntmps20
 go_wp2_with (first
  | (go_at_call 42;rw[HW1.out];(with_reducible refine C1.out.mono ?_);rintro e W3 ⟨g,rfl,hms,hgg,hb3⟩;have CWH:=Zbsw g MS true W3 hms (by omega);rw[hMl]at CWH;have CWI:=hid CWH;clear CWH;have HB3:=hid (HB1.out.trans (hb3.mono HB1.out.size)))
  | (go_at_call 41;(with_reducible refine CWI.out.mono ?_);rintro e W4 hwp;obtain⟨iv,rfl,hin,hbe⟩:=hwp.ints HB3.out))
 go_ret;exact⟨_,rfl,hin,hbe⟩
theorem Zblt (r:RuleS) (a1 a2 a3 a4:Option Addr) (c1 c2 c3 c4:Nat) (out:ByteArray) (w:World) (hr:RuleI w [.string r.name,.slice a1 r.ins.length c1,.slice a2 r.outs.length c2,.slice a3 r.after.length c3,.slice a4 r.steps.length c4] r) (hs:SmallR r 1048576) (ho:out.size<=maxLen):
  Calls prog 21 #[.agg (Zbiz r a1 a2 a3 a4 c1 c2 c3 c4),.string out] w (Zbt w r [out]):=by
 have cn:∀W v,Below w.heap.size w W->IsStrs W v [out]->Calls prog 43 #[.agg (Zbiz r a1 a2 a3 a4 c1 c2 c3 c4),v] W (Zbt W r [out]):=λW v hb hv=>Zbls r a1 a2 a3 a4 c1 c2 c3 c4 v [out] W (hr.below hb) hs hv (by simp) (by simpa using ho)
 have CN:=hid cn;unfold Zbt at CN⊢;obtain⟨RS,hRS⟩:∃RS,Zbgw r [out]=RS:=⟨_,rfl⟩;rw[hRS]at CN⊢;obtain⟨name,insN,outsN,after,steps⟩:=r;simp only[Zbiz]at CN⊢;obtain⟨W1,hW1⟩:∃W,(w.alloc (.cells #[.string name,.slice a1 insN.length c1,.slice a2 outsN.length c2,.slice a3 after.length c3,.slice a4 steps.length c4] 37)).alloc (.cells #[.string out] 9)=W:=⟨_,rfl⟩;have h1:IsStrs W1 (.slice (some ⟨w.heap.size+1,0,none⟩) 1 1) [out]:=by rw[<-hW1];refine Zub (t:=9) ?_;have:=alloc_at (w.alloc (.cells #[.string name,.slice a1 insN.length c1,.slice a2 outsN.length c2,.slice a3 after.length c3,.slice a4 steps.length c4] 37)) (.cells #[.string out] 9);rwa [World.size_alloc]at this
 have hb1:Below w.heap.size w W1:=by rw[<-hW1];exact((Below.refl _ _).alloc (Nat.le_refl _) _).alloc (by simp) _
 have C1:=hid (CN.out W1 _ hb1 h1);have HB1:=hid hb1;have HW1:=hid hW1;clear cn hr hs ho h1 hb1 hW1 hRS
 go_enter func21,ntmps21
 go_wp2_with (go_at_call 43;rw[HW1.out];(with_reducible refine C1.out.mono ?_);rintro e W3 ⟨iv,rfl,hin,hb3⟩;have HB3:=hid (HB1.out.trans (hb3.mono HB1.out.size)))
 go_ret;exact⟨_,rfl,hin,HB3.out⟩
theorem Zblq (r:RuleS) (a1 a2 a3 a4:Option Addr) (c1 c2 c3 c4:Nat) (w:World) (hr:RuleI w [.string r.name,.slice a1 r.ins.length c1,.slice a2 r.outs.length c2,.slice a3 r.after.length c3,.slice a4 r.steps.length c4] r) (hs:SmallR r 1048576):
  Calls prog 22 #[.agg (Zbiz r a1 a2 a3 a4 c1 c2 c3 c4)] w (Zbt w r r.outs):=by
 have cn:∀W v,Below w.heap.size w W->IsStrs W v r.outs->Calls prog 43 #[.agg (Zbiz r a1 a2 a3 a4 c1 c2 c3 c4),v] W (Zbt W r r.outs):=λW v hb hv=>Zbls r a1 a2 a3 a4 c1 c2 c3 c4 v r.outs W (hr.below hb) hs hv hs.outs.1 (Zbmb hs.outs)
 have CN:=hid cn;have ho:=Zbiv hr;have HO:=hid ho;unfold Zbt at CN⊢;obtain⟨RS,hRS⟩:∃RS,Zbgw r r.outs=RS:=⟨_,rfl⟩;rw[hRS]at CN⊢;obtain⟨name,insN,outsN,after,steps⟩:=r;simp only[Zbiz]at CN HO⊢;obtain⟨W1,hW1⟩:∃W,(w.alloc (.cells #[.string name,.slice a1 insN.length c1,.slice a2 outsN.length c2,.slice a3 after.length c3,.slice a4 steps.length c4] 37))=W:=⟨_,rfl⟩;have hb1:Below w.heap.size w W1:=by rw[<-hW1];exact(Below.refl _ _).alloc (Nat.le_refl _) _
 have h1:IsStrs W1 (.slice a2 outsN.length c2) outsN:=HO.out.below hb1;obtain⟨d0,d1,d2,d3,d4,_⟩:=cells5 (show W1.heap[w.heap.size]? =some (.cells #[.string name,.slice a1 insN.length c1,.slice a2 outsN.length c2,.slice a3 after.length c3,.slice a4 steps.length c4] 37) by rw[<-hW1];exact alloc_at w _);have C1:=hid (CN.out W1 _ hb1 h1);have HB1:=hid hb1;have HW1:=hid hW1;clear cn hr hs ho h1 hb1 hW1 hRS
 go_enter func22,ntmps22
 go_wp2_with (go_at_call 43;rw[HW1.out];(with_reducible refine C1.out.mono ?_);rintro e W3 ⟨iv,rfl,hin,hb3⟩;have HB3:=hid (HB1.out.trans (hb3.mono HB1.out.size)))
 go_ret;exact⟨_,rfl,hin,HB3.out⟩
theorem Zblr (r:RuleS) (a1 a2 a3 a4:Option Addr) (c1 c2 c3 c4:Nat) (w:World) (hr:RuleI w [.string r.name,.slice a1 r.ins.length c1,.slice a2 r.outs.length c2,.slice a3 r.after.length c3,.slice a4 r.steps.length c4] r) (hs:SmallR r 1048576):
  Calls prog 23 #[.agg (Zbiz r a1 a2 a3 a4 c1 c2 c3 c4)] w (Zce w (whL false 0 (Zbak r.outs r.steps).1)):=by
 have cn:∀W v,Below w.heap.size w W->IsStrs W v r.outs->Calls prog 42 #[.agg (Zbiz r a1 a2 a3 a4 c1 c2 c3 c4),v] W (Zbk W r.outs r.steps):=λW v hb hv=>Zbat r a1 a2 a3 a4 c1 c2 c3 c4 v r.outs W (hr.below hb) hs hv hs.outs.1 (Zbmb hs.outs)
 have CN:=hid cn;have ho:=Zbiv hr;have HO:=hid ho;have hfew:=hs.few;have hMl:(Zbak r.outs r.steps).1.length=r.steps.length:=Zbal r.outs r.steps;obtain⟨MS,hMS⟩:∃MS,(Zbak r.outs r.steps).1=MS:=⟨_,rfl⟩;unfold Zbk at CN;rw[hMS]at hMl CN⊢;obtain⟨name,insN,outsN,after,steps⟩:=r;simp only[Zbiz]at CN hMl hfew HO⊢;obtain⟨W1,hW1⟩:∃W,(w.alloc (.cells #[.string name,.slice a1 insN.length c1,.slice a2 outsN.length c2,.slice a3 after.length c3,.slice a4 steps.length c4] 37))=W:=⟨_,rfl⟩;have hb1:Below w.heap.size w W1:=by rw[<-hW1];exact(Below.refl _ _).alloc (Nat.le_refl _) _
 have h1:IsStrs W1 (.slice a2 outsN.length c2) outsN:=HO.out.below hb1;obtain⟨d0,d1,d2,d3,d4,_⟩:=cells5 (show W1.heap[w.heap.size]? =some (.cells #[.string name,.slice a1 insN.length c1,.slice a2 outsN.length c2,.slice a3 after.length c3,.slice a4 steps.length c4] 37) by rw[<-hW1];exact alloc_at w _);have C1:=hid (CN.out W1 _ hb1 h1);have HB1:=hid hb1;have HW1:=hid hW1;clear cn hr hs ho h1 hb1 hW1 hMS
 go_enter func23,ntmps23
 go_wp2_with (first
  | (go_at_call 42;rw[HW1.out];(with_reducible refine C1.out.mono ?_);rintro e W3 ⟨g,rfl,hms,hgg,hb3⟩;have CWH:=Zbsw g MS false W3 hms (by omega);rw[hMl]at CWH;have CWI:=hid CWH;clear CWH;have HB3:=hid (HB1.out.trans (hb3.mono HB1.out.size)))
  | (go_at_call 41;(with_reducible refine CWI.out.mono ?_);rintro e W4 hwp;obtain⟨iv,rfl,hin,hbe⟩:=hwp.ints HB3.out))
 go_ret;exact⟨_,rfl,hin,hbe⟩
end Go.Proofs.YtcpjfpdecklkgaaGreatDoor
