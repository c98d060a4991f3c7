import Derived.Test.YtcpjfpdecklkgaaGreatDoorMam
namespace Go.Proofs.YtcpjfpdecklkgaaGreatDoor
open Go.Lib (hid)
open Go.Proofs.Tryz
open Go.RowKit Go.Shelf
theorem Zbic {Av:Nat->Prop} {w:World} {v:Value} {rows:List (List Value)} (h:RowA Av w v 5 rows) {k:Nat} {a b c d e:Value} (hk:rows[k]? =some [a,b,c,d,e]):
  ∃g o cap,v = .slice (some ⟨g,o,none⟩) rows.length cap/\g<w.heap.size/\∀w',Below w.heap.size w w'->w'.cell? ⟨g,o+k*5,none⟩=some a/\w'.cell? ⟨g,o+k*5+1,none⟩=some b/\w'.cell? ⟨g,o+k*5+2,none⟩=some c/\w'.cell? ⟨g,o+k*5+3,none⟩=some d/\w'.cell? ⟨g,o+k*5+4,none⟩=some e:=by
 obtain⟨⟨ad,cap,rfl,_,_,h2⟩,_⟩:=h;obtain⟨g,o,rfl,hg,hc⟩:=h2 (by rintro rfl;simp at hk);refine⟨g,o,cap,rfl,hg,λw' hb=>?_⟩;have key:∀(i:Nat) u,[a,b,c,d,e][i]? =some u->w'.cell? ⟨g,o+k*5+i,none⟩=some u:=λi u hu=>(hb.cell (p:=⟨g,o+k*5+i,none⟩) hg).trans (hc k _ hk i u hu)
 exact⟨key 0 a rfl,key 1 b rfl,key 2 c rfl,key 3 d rfl,key 4 e rfl⟩
theorem Zbid {Av:Nat->Prop} {w:World} {v:Value} {k:Nat} {rows:List (List Value)} (h:RowA Av w v k rows):∃a c,v = .slice a rows.length c/\rows.length<=c/\c<=maxLen:=by
 obtain⟨⟨a,c,rfl,h1,h2,_⟩,_⟩:=h;exact⟨a,c,rfl,h1,h2⟩
structure RuleFit (r:RuleS):Prop where
 few:r.ins.length<=1000000/\r.outs.length<=1000000/\r.after.length<=1000000/\r.steps.length<=1000000
 steps:∀x∈r.steps,StepFit x
 all:(Zbix r).length<=140737488351232
def Zboy (xs:List StepS):List UInt8:=(xs.map Zbnq).flatten
theorem Zbpa (xs:List StepS) (k:Nat) (x:StepS) (h:xs[k]? =some x):Zboy (xs.take (k+1))=Zboy (xs.take k)++Zbnq x:=by
 unfold Zboy;rw[List.take_add_one,h,List.map_append,List.flatten_append];simp
theorem Zboz (xs:List StepS) (k:Nat):(Zboy (xs.take k)).length<=(Zboy xs).length:=by
 conv=>rhs;rw[<-List.take_append_drop k xs]
 unfold Zboy;rw[List.map_append,List.flatten_append,List.length_append];omega
theorem Zbiy (r:RuleS):Zbix r=upTx r++Zboy r.steps ++ [125,10]:=rfl
theorem Zbun (B b:Nat) (l t:List UInt8) (s:ByteArray) (hst:s=⟨t.toArray⟩) (w:World) (h:Lib.IsBuilder 161 5 B b (Lib.byteCells l) w) (hlen:l.length+t.length<=140737488355328) (hBw:B<=w.heap.size):
  Calls prog 129 #[.pointer (some ⟨b,0,none⟩),.string s] w λe w'=>(∃x y,e = .returned (.tuple #[x,y]))/\Lib.IsBuilder 161 5 B b (Lib.byteCells (l++t)) w'/\Below B w w':=by
 subst hst;refine(Zbuo B b l ⟨t.toArray⟩ w h (by rw[Zbkz];exact hlen) hBw).mono ?_;rintro e w' ⟨rfl,h1,h2⟩;exact⟨⟨_,_,rfl⟩,h1,h2⟩
set_option maxHeartbeats 8000000 in
set_option maxRecDepth 100000 in
theorem Zbje (r:RuleS) (vi vo vf vs:Value) (Av:Nat->Prop) (p:Nat) (w:World) (hg:GP p w) (hp:p<=w.heap.size) (hI:StrsA Av w vi r.ins) (hO:StrsA Av w vo r.outs) (hF:StrsA Av w vf r.after) (hS:StepsA Av w vs r.steps) (hf:RuleFit r):
  Calls prog 132 #[.agg #[.string r.name,vi,vo,vf,vs]] w λe w'=>e = .returned (.string ⟨(Zbix r).toArray⟩)/\Below w.heap.size w w':=by
 obtain⟨rows,hrow,hall⟩:=hS;obtain⟨sa,sc,hvs,hs1,hs2⟩:=Zbid hrow;have hrl:=hall.1;have hLE:=hf.all;rw[Zbiy]at hLE;obtain⟨T0,hT0⟩:∃T,Zrn r=T:=⟨_,rfl⟩;obtain⟨T1,hT1⟩:∃T,Zjc [105,110] r.ins=T:=⟨_,rfl⟩;obtain⟨T2,hT2⟩:∃T,Zjc [111,117,116] r.outs=T:=⟨_,rfl⟩;obtain⟨T3,hT3⟩:∃T,Zjc [97,102,116,101,114] r.after=T:=⟨_,rfl⟩;have hup:upTx r=T0++T1++T2++T3:=by unfold upTx;rw[hT0,hT1,hT2,hT3]
 have hres:Zbix r=T0++T1++T2++T3++Zboy r.steps ++ [125,10]:=by rw[Zbiy,hup]
 rw[hup]at hLE;simp only[List.length_append,List.length_cons,List.length_nil]at hLE;have c1:∀w',Below w.heap.size w w'->Calls prog 185 #[.string ⟨#[105,110]⟩,vi] w' λe w''=>e = .returned (.string ⟨T1.toArray⟩)/\Below w'.heap.size w' w'':=by
  intro w' hb;have:=Zjd ⟨#[105,110]⟩ vi r.ins w' (hI.isStrs.below hb) (by have:=hf.few;omega) (by show(Zjc [105,110] r.ins).length<=_;rw[hT1];omega);rw[show Zjc (⟨#[105,110]⟩:ByteArray).data.toList r.ins=T1 from hT1]at this;exact this
 have c2:∀w',Below w.heap.size w w'->Calls prog 185 #[.string ⟨#[111,117,116]⟩,vo] w' λe w''=>e = .returned (.string ⟨T2.toArray⟩)/\Below w'.heap.size w' w'':=by
  intro w' hb;have:=Zjd ⟨#[111,117,116]⟩ vo r.outs w' (hO.isStrs.below hb) (by have:=hf.few;omega) (by show(Zjc [111,117,116] r.outs).length<=_;rw[hT2];omega);rw[show Zjc (⟨#[111,117,116]⟩:ByteArray).data.toList r.outs=T2 from hT2]at this;exact this
 have c3:∀w',Below w.heap.size w w'->Calls prog 185 #[.string ⟨#[97,102,116,101,114]⟩,vf] w' λe w''=>e = .returned (.string ⟨T3.toArray⟩)/\Below w'.heap.size w' w'':=by
  intro w' hb;have:=Zjd ⟨#[97,102,116,101,114]⟩ vf r.after w' (hF.isStrs.below hb) (by have:=hf.few;omega) (by show(Zjc [97,102,116,101,114] r.after).length<=_;rw[hT3];omega);rw[show Zjc (⟨#[97,102,116,101,114]⟩:ByteArray).data.toList r.after=T3 from hT3]at this;exact this
 have cS:∀(k:Nat) x,r.steps[k]? =some x->∃g o cap a1 n1 c1 a2 n2 c2,vs = .slice (some ⟨g,o,none⟩) rows.length cap/\∀w',Below w.heap.size w w'->
   (w'.cell? ⟨g,o+k*5,none⟩=some (.string x.out)/\w'.cell? ⟨g,o+k*5+1,none⟩=some (.int .i64 x.op)/\w'.cell? ⟨g,o+k*5+2,none⟩=some (.slice a1 n1 c1)/\w'.cell? ⟨g,o+k*5+3,none⟩=some (.slice a2 n2 c2)/\w'.cell? ⟨g,o+k*5+4,none⟩=some (.int .i64 x.n))/\
   Calls prog 81 #[.agg #[.string x.out,.int .i64 x.op,.slice a1 n1 c1,.slice a2 n2 c2,.int .i64 x.n]] w' λe w''=>e = .returned (.string ⟨(Zbnw x).toArray⟩)/\Below w'.heap.size w' w'':=by
  intro k x hx;have hk:k<rows.length:=by rw[hrl];exact(List.getElem?_eq_some_iff.1 hx).1
  obtain⟨va,vl,e,ha,hl⟩:=hall.2 k _ x (List.getElem?_eq_getElem hk) hx;obtain⟨g,o,cap,hv,hg',hc⟩:=Zbic hrow (k:=k) (by rw[List.getElem?_eq_getElem hk,e]);obtain⟨a1,n1,c1,hva⟩:=Zbig ha;obtain⟨a2,n2,c2,hvl⟩:=Zbig hl;subst hva hvl;refine⟨g,o,cap,a1,n1,c1,a2,n2,c2,hv,λw' hb=>⟨hc w' hb,?_⟩⟩;exact Zboa x _ _ p w' (hg.below (hb.mono hp)) (Nat.le_trans hp hb.size) (ha.isStrs.below hb) (hl.isStrs.below hb) (hf.steps x (List.mem_of_getElem? hx))
 obtain⟨ia,inn,ic,hvi⟩:=Zbig hI;obtain⟨oa,on,oc,hvo⟩:=Zbig hO;obtain⟨fa,fnn,fc,hvf⟩:=Zbig hF;subst hvi hvo hvf hvs;obtain⟨o,ho⟩:∃o:Obj,o = .cells #[.string r.name,.slice ia inn ic,.slice oa on oc,.slice fa fnn fc,.slice sa rows.length sc] 37:=⟨_,rfl⟩;have hbox:∀w',Below (w.heap.size+1) (w.alloc o) w'->w'.cell? ⟨w.heap.size,0,none⟩=some (.string r.name)/\w'.cell? ⟨w.heap.size,1,none⟩=some (.slice ia inn ic)/\w'.cell? ⟨w.heap.size,2,none⟩=some (.slice oa on oc)/\w'.cell? ⟨w.heap.size,3,none⟩=some (.slice fa fnn fc)/\w'.cell? ⟨w.heap.size,4,none⟩=some (.slice sa rows.length sc):=by
  intro w' hw';have hb:w'.heap[w.heap.size]? =some o:=(hw'.block _ (by omega)).trans (alloc_at w o);rw[ho]at hb;refine⟨?_,?_,?_,?_,?_⟩<;>simp[World.cell?,hb]
 have hdown:∀w',Below (w.heap.size+1) (w.alloc o) w'->Below w.heap.size w w':=λw' h=>((Below.refl _ _).alloc (Nat.le_refl _) _).trans (h.mono (by omega))
 have hB0:Lib.IsBuilder 161 5 (w.heap.size+1) (w.heap.size+1) (Lib.byteCells []) ((w.alloc o).alloc (.cells #[.pointer none,.slice none 0 0] 161)):=by
  have:=Lib.fresh_isBuilder 161 5 (w.alloc o);simpa[Lib.byteCells]using this
 have hb0:Below (w.heap.size+1) (w.alloc o) ((w.alloc o).alloc (.cells #[.pointer none,.slice none 0 0] 161)):=(Below.refl _ _).alloc (by simp) _;obtain⟨d0,d1,d2,d3,d4⟩:=hbox _ hb0;have hhead:(⟨#[114,117,108,101,32]⟩:ByteArray)++r.name++⟨#[32,123,10]⟩=⟨T0.toArray⟩:=by rw[<-hT0];unfold Zrn;apply ByteArray.ext;simp
 have hnm:r.name.size<=140737488351232:=by
  have:T0.length=5+r.name.size+3:=by rw[<-hT0];unfold Zrn;simp only[List.length_append,List.length_cons,List.length_nil,<-Lib.size_eq]
  omega
 have HBOX:=hid hbox;have HDOWN:=hid hdown;have HLE:=hid hLE;have C1:=hid c1;have C2:=hid c2;have C3:=hid c3;have CS:=hid cS;have HRES:=hid hres;have HB0:=hid hB0;have HN0:=hid hb0;have HHEAD:=hid hhead;have HRL:=hid hrl;have HFEW:=hid hf.few;clear hbox hdown c1 c2 c3 cS hres hB0 hb0 hhead hup hT0 hT1 hT2 hT3 hI hO hF hrow hall hf hg hrl hLE;subst ho
 go_enter func132,ntmps132
 go_wp2_with fail
 refine(Zbun (w.heap.size+1) (w.heap.size+1) [] T0 _ HHEAD.out _ HB0.out (by have:=HLE.out;simp;omega) (by simp)).mono ?_;rintro e w1 ⟨⟨x1,y1,rfl⟩,h1,hb1⟩;have HB1:=hid h1;have HN1:=hid (HN0.out.trans hb1);have hs1:=HN1.out.size;simp at hs1;clear h1 hb1 d0 d1 d2 d3 d4;obtain⟨d0,d1,d2,d3,d4⟩:=HBOX.out _ HN1.out
 go_wp2_with fail
 refine(C1.out _ (HDOWN.out _ HN1.out)).mono ?_;rintro e w2 ⟨rfl,hb2⟩;have HB2:=hid (Zgl HB1.out hb2);have HN2:=hid (HN1.out.trans (hb2.mono hs1));have hs2:=Nat.le_trans hs1 hb2.size;clear hb2
 go_wp2_with fail
 refine(Zbun (w.heap.size+1) (w.heap.size+1) ([]++T0) T1 _ rfl _ HB2.out (by have:=HLE.out;simp only[List.length_append,List.length_nil];omega) hs2).mono ?_;rintro e w3 ⟨⟨x3,y3,rfl⟩,h3,hb3⟩;have HB3:=hid h3;have HN3:=hid (HN2.out.trans hb3);have hs3:=Nat.le_trans hs2 hb3.size;clear h3 hb3 d0 d1 d2 d3 d4;obtain⟨d0,d1,d2,d3,d4⟩:=HBOX.out _ HN3.out
 go_wp2_with fail
 refine(C2.out _ (HDOWN.out _ HN3.out)).mono ?_;rintro e w4 ⟨rfl,hb4⟩;have HB4:=hid (Zgl HB3.out hb4);have HN4:=hid (HN3.out.trans (hb4.mono hs3));have hs4:=Nat.le_trans hs3 hb4.size;clear hb4
 go_wp2_with fail
 refine(Zbun (w.heap.size+1) (w.heap.size+1) ([]++T0++T1) T2 _ rfl _ HB4.out (by have:=HLE.out;simp only[List.length_append,List.length_nil];omega) hs4).mono ?_;rintro e w5 ⟨⟨x5,y5,rfl⟩,h5,hb5⟩;have HB5:=hid h5;have HN5:=hid (HN4.out.trans hb5);have hs5:=Nat.le_trans hs4 hb5.size;clear h5 hb5 d0 d1 d2 d3 d4;obtain⟨d0,d1,d2,d3,d4⟩:=HBOX.out _ HN5.out
 go_wp2_with fail
 refine(C3.out _ (HDOWN.out _ HN5.out)).mono ?_;rintro e w6 ⟨rfl,hb6⟩;have HB6:=hid (Zgl HB5.out hb6);have HN6:=hid (HN5.out.trans (hb6.mono hs5));have hs6:=Nat.le_trans hs5 hb6.size;clear hb6
 go_wp2_with fail
 refine(Zbun (w.heap.size+1) (w.heap.size+1) ([]++T0++T1++T2) T3 _ rfl _ HB6.out (by have:=HLE.out;simp only[List.length_append,List.length_nil];omega) hs6).mono ?_;rintro e w7 ⟨⟨x7,y7,rfl⟩,h7,hb7⟩;obtain⟨T,hT⟩:∃T,[]++T0++T1++T2++T3=T:=⟨_,rfl⟩;rw[hT]at h7;have hTl:T.length=T0.length+T1.length+T2.length+T3.length:=by rw[<-hT];simp only[List.length_append,List.length_nil];omega
 have HB7:=hid h7;have HN7:=hid (HN6.out.trans hb7);have hs7:=Nat.le_trans hs6 hb7.size;have HRES2:Hid (Zbix r=T++Zboy r.steps ++ [125,10]):=by show Zbix r=_;rw[HRES.out,<-hT];simp
 have HTL:=hid hTl;clear h7 hb7 d0 d1 d2 d3 d4 hT hTl;obtain⟨d0,d1,d2,d3,d4⟩:=HBOX.out _ HN7.out;go_wp2
 go_loopw [26] (λi wr=>∃k:Nat,k<=r.steps.length/\i = .int .i64 k/\Lib.IsBuilder 161 5 (w.heap.size+1) (w.heap.size+1) (Lib.byteCells (T++Zboy (r.steps.take k))) wr/\Below (w.heap.size+1) (w.alloc (.cells #[.string r.name,.slice ia inn ic,.slice oa on oc,.slice fa fnn fc,.slice sa rows.length sc] 37)) wr)
  (λi _=>r.steps.length-(intOf i).toNat)
 case atStart=>exact⟨0,Nat.zero_le _,rfl,by simpa[Zboy]using HB7.out,HN7.out⟩
 case round=>
  obtain⟨k,hk,rfl,hbu,hnx⟩:=hrel;have hsz:=hnx.size;simp at hsz;have hrl:=HRL.out;have hle:=Zboz r.steps k;have hall:=HLE.out;have htl:=HTL.out;have hfew:=HFEW.out;have HBU:=hid hbu;have HNX:=hid hnx;clear d0 d1 d2 d3 d4 hbu hnx
  by_cases hlt:k<r.steps.length
  ·obtain⟨x,hx⟩:∃x,r.steps[k]? =some x:=⟨r.steps[k],List.getElem?_eq_getElem hlt⟩
   obtain⟨g,o,cap,a1,n1,c1,a2,n2,c2,hv,hstep⟩:=CS.out k x hx;have hnext:=Zbpa r.steps k x hx;have hle2:=Zboz r.steps (k+1);rw[hnext,List.length_append]at hle2;have HNEXT:=hid hnext;have hi1:(k:Int)<(rows.length:Int):=by omega
   obtain⟨d0,d1,d2,d3,d4⟩:=(hstep _ (HDOWN.out _ HNX.out)).1;have HST:=hid hstep
   cases hv
   have hll:(Zbnq x).length=2+(Zbnw x).length+1:=by unfold Zbnq;simp only[List.length_append,List.length_cons,List.length_nil]
   have hxl:(Zbnw x).length<=140737488351232:=by omega
   have HLL:=hid hll;clear hstep hnext hx hrl hll;have hbel:Below w.heap.size w (wr.alloc (.cells #[.string x.out,.int .i64 x.op,.slice a1 n1 c1,.slice a2 n2 c2,.int .i64 x.n] 34)):=(HDOWN.out _ HNX.out).alloc (by omega) _;have cX:=(HST.out _ hbel).2;have HNA:=hid (HNX.out.alloc (show w.heap.size+1<=wr.heap.size from hsz) (.cells #[.string x.out,.int .i64 x.op,.slice a1 n1 c1,.slice a2 n2 c2,.int .i64 x.n] 34));have HBA:=hid (Zgl HBU.out ((Below.refl wr.heap.size wr).alloc (Nat.le_refl _) (.cells #[.string x.out,.int .i64 x.op,.slice a1 n1 c1,.slice a2 n2 c2,.int .i64 x.n] 34)));clear hbel
   go_wp2_with fail
   refine cX.mono ?_;rintro e wa ⟨rfl,hba⟩;have HB2:=hid (Zgl HBA.out hba);have HN2:=hid (HNA.out.trans (hba.mono (by simp;omega)));have hsa:=hba.size;simp at hsa;have hln:(⟨#[32,32]⟩:ByteArray)++⟨(Zbnw x).toArray⟩++⟨#[10]⟩=(⟨(Zbnq x).toArray⟩:ByteArray):=by unfold Zbnq;apply ByteArray.ext;simp
   obtain⟨SB,hSB⟩:∃SB:ByteArray,(⟨(Zbnw x).toArray⟩:ByteArray)=SB:=⟨_,rfl⟩;have hSs:SB.size<=140737488351232:=by rw[<-hSB,Zbkz];exact hxl
   rw[hSB]at hln⊢;have HLN:=hid hln;have hl3:=HLL.out;clear hba cX d0 d1 d2 d3 d4 hln hSB
   go_wp2_with fail
   refine(Zbun (w.heap.size+1) (w.heap.size+1) (T++Zboy (r.steps.take k)) (Zbnq x) _ HLN.out _ HB2.out (by rw[List.length_append];omega) (by omega)).mono ?_;rintro e wb ⟨⟨xb,yb,rfl⟩,hb,hbb⟩;have HBb:=hid hb;have HNb:=hid (HN2.out.trans hbb);clear hb hbb;go_wp2;go_roundw
   case rel=>exact⟨k+1,by omega,by go_num,by rw[HNEXT.out,<-List.append_assoc];exact HBb.out,HNb.out⟩
   case measure=>simp[intOf];omega
  ·have hfull:r.steps.take k=r.steps:=List.take_of_length_le (by omega)
   have hbu:=HBU.out;rw[hfull]at hbu;have HBU:=hid hbu;have hi1:¬(k:Int)<(rows.length:Int):=by omega
   clear hfull hbu hrl
   go_wp2_with fail
   refine(Zbun (w.heap.size+1) (w.heap.size+1) (T++Zboy r.steps) [125,10] _ rfl _ HBU.out (by simp only[List.length_append,List.length_cons,List.length_nil];omega) hsz).mono ?_;rintro e wa ⟨⟨xa,ya,rfl⟩,ha,hba⟩;have HBa:=hid ha;have HNa:=hid (HNX.out.trans hba);have hsa:=hba.size;clear ha hba
   go_wp2_with fail
   refine(Zgk (w.heap.size+1) (w.heap.size+1) _ wa HBa.out (by omega)).mono ?_;rintro e wb ⟨rfl,hbb⟩;go_wp2;go_ret;exact⟨Zbhr (by rw[HRES2.out];first|done|rfl|simp),HDOWN.out _ (HNa.out.trans hbb)⟩
def OwnSteps (B:Nat) (w:World) (v:Value) (xs:List StepS):Prop:=∃rows,w.ownsRow B 34 5 v rows.length rows.flatten/\AllA (StepA (AvOf B v) w) rows xs
theorem OwnSteps.below {B:Nat} {w w':World} {v:Value} {xs:List StepS} (h:OwnSteps B w v xs) (hb:Below w.heap.size w w'):OwnSteps B w' v xs:=by
 obtain⟨rows,h1,h2⟩:=h;exact⟨rows,World.ownsRow.kept (row:=none) h1 ⟨hb.os,hb.tape,hb.output,hb.size,λk hk _=>hb.block k hk⟩ (by cases h:Value.ownBlock _<;>simp),h2.imp λr x h=>h.keep (Zpv hb)⟩
theorem OwnSteps.fr {B:Nat} {w w':World} {v:Value} {xs:List StepS} {Av:Nat->Prop} (h:OwnSteps B w v xs) (hf:Fr Av w w') (h1:∀b,Av b->AvOf B v b) (h2:∀b,v.ownBlock=some b->¬Av b):OwnSteps B w' v xs:=by
 obtain⟨rows,hr,ha⟩:=h;refine⟨rows,?_,ha.imp λr x h=>h.keep (hf.mono λb _ e=>h1 b e)⟩;refine⟨hr.1,?_⟩
 rcases hr.2 with hn|⟨g,cap,cur,rfl,hb,hg,rest⟩
 ·exact .inl hn
 ·exact .inr ⟨g,cap,cur,rfl,hb,(hf.block g (Array.getElem?_eq_some_iff.1 hg).1 (h2 g rfl)).trans hg,rest⟩
theorem OwnSteps.len {B:Nat} {w:World} {v:Value} {xs:List StepS} (h:OwnSteps B w v xs):∃a c,v = .slice a xs.length c:=by
 obtain⟨rows,h1,h2⟩:=h
 rcases h1.2 with⟨rfl,h0⟩|⟨g,cap,cur,rfl,_⟩
 ·exact⟨none,0,by rw[<-h2.1,h0]⟩
 ·exact⟨_,cap,by rw[h2.1]⟩
theorem OwnSteps.stepsA {B:Nat} {w:World} {v:Value} {xs:List StepS} (h:OwnSteps B w v xs):StepsA (λb=>b<B) w v xs:=by
 obtain⟨rows,h1,h2⟩:=h;exact⟨rows,Zbif h1 (h2.len λr x h=>h.len),h2.imp λr x h=>h.mono λb _ e=> .inl e⟩
theorem OwnSteps.lt {B:Nat} {w:World} {v:Value} {xs:List StepS} (h:OwnSteps B w v xs):∀b,v.ownBlock=some b->B<=b/\b<w.heap.size:=by
 obtain⟨rows,h1,_⟩:=h;exact λb e=>h1.lt b e
theorem Zbui {w:World} {ops:Array Oper} {rest:List Oper} {o:Oper} {a:Act} {Q:Exit->Act->World->Prop} (hgd:o.guard=none) (s x:Operand)
  (ho:o.op = .call { callee:= .builtin .append,args:=#[s,x],argTypes:=#[35,35] })
  (B:Nat) (v:Value) (xs:List StepS) (y:StepS) (a1 a2:Option Addr) (n1 c1 n2 c2:Nat) (hs:a.eval s=v) (hown:OwnSteps B w v xs) (hB:B<=w.heap.size) (hn:xs.length<=1000000000)
  (hva:StrsA (AvOf B v) w (.slice a1 n1 c1) y.args) (hvl:StrsA (AvOf B v) w (.slice a2 n2 c2) y.lits)
  (gx:Nat) (hx:a.eval x = .slice (some ⟨gx,0,none⟩) 1 1) (hgx:gx=w.heap.size)
  (h:∀v' w',OwnSteps B w' v' (xs ++ [y])->Below B w w'->Fr (λb=>v.ownBlock=some b) w w'->(∀b,v'.ownBlock=some b->v.ownBlock=some b∨w.heap.size<=b)->wpList prog ops Q rest (a.put o.dst v') w'):
  wpList prog ops Q (o::rest) a (w.alloc (.cells #[.string y.out,.int .i64 y.op,.slice a1 n1 c1,.slice a2 n2 c2,.int .i64 y.n] 34)):=by
 subst hgx;obtain⟨i0,hi,hz0,hz1,hz2⟩:=Zsv Zsx;obtain⟨rows,h1,h2⟩:=hown;have hrl:=h2.1;have hfa:=Zpu (AvOf B v) w (.cells #[.string y.out,.int .i64 y.op,.slice a1 n1 c1,.slice a2 n2 c2,.int .i64 y.n] 34);refine Zbue _ hgd s x 35 ho B 34 i0 (.agg #[.string ByteArray.empty,.int .i64 0,.slice none 0 0,.slice none 0 0,.int .i64 0]) 5 80 underlying35 hi hz0 hz1 hz2 rfl (by decide) v rows.length rows.flatten hs (h1.alloc _) ⟨w.heap.size,0,none⟩ 1 1 [.string y.out,.int .i64 y.op,.slice a1 n1 c1,.slice a2 n2 c2,.int .i64 y.n] hx rfl ?_ ?_ (by decide) ?_ ?_ ?_ ?_
 ·intro j u hj
  match j,hj with
  | 0,hj=>simp at hj;subst hj;simp[Addr.add]
  | 1,hj=>simp at hj;subst hj;simp[Addr.add]
  | 2,hj=>simp at hj;subst hj;simp[Addr.add]
  | 3,hj=>simp at hj;subst hj;simp[Addr.add]
  | 4,hj=>simp at hj;subst hj;simp[Addr.add]
 ·intro u hu;simp at hu;rcases hu with rfl|rfl|rfl|rfl|rfl<;>rfl
 ·unfold maxLen;omega
 ·omega
 ·simp;omega
 ·intro v' w' ho' hg hnew
  have h3:AllA (StepA (AvOf B v) w) (rows ++ [[.string y.out,.int .i64 y.op,.slice a1 n1 c1,.slice a2 n2 c2,.int .i64 y.n]]) (xs ++ [y]):=h2.snoc ⟨_,_,rfl,hva,hvl⟩;have h4:=Zqy (B:=B) (v':=v') (h3.imp λr x h=>h.keep hfa) hg (λb hb=>(hnew b hb).imp id λe=>Nat.le_trans (by simp) e);refine h v' w' ⟨_,?_,h4⟩ (((Below.refl B w).alloc hB _).grown hg (by simp;omega) (λb hb=>(h1.lt b hb).1)) ((Zpu _ w _).trans (Zpx hg λk e=>e)) (λb hb=>(hnew b hb).imp id λe=>Nat.le_trans (by simp) e);rw[List.length_append,List.flatten_append];simpa using ho'
theorem Zjj {w:World} {xs:List ByteArray} {e:Ending} {w':World} (h:Zah w xs e w'):∃a n c,e = .returned (.slice a n c)/\StrsA (λb=>b<w.heap.size) w' (.slice a n c) xs/\Below w.heap.size w w':=by
 obtain⟨v,rfl,hv,hb⟩:=h
 rcases hv with⟨rfl,rfl⟩|⟨g,c,rfl,ho⟩
 ·exact⟨_,_,_,rfl,Zbie _ _ _,hb⟩
 ·exact⟨_,_,_,rfl,Zbqf (t:=9) ho,hb⟩
def Zai (w:World) (xs:List StepS) (e:Ending) (w':World):Prop:=∃a n c,e = .returned (.slice a n c)/\StepsA (λb=>b<w.heap.size) w' (.slice a n c) xs/\Below w.heap.size w w'
theorem Zbpb {Av:Nat->Prop} {w:World} {v:Value} {xs:List StepS} (h:StepsA Av w v xs) {k:Nat} {x:StepS} (hx:xs[k]? =some x):
  ∃g o cap a1 n1 c1 a2 n2 c2,v = .slice (some ⟨g,o,none⟩) xs.length cap/\g<w.heap.size/\StrsA Av w (.slice a1 n1 c1) x.args/\StrsA Av w (.slice a2 n2 c2) x.lits/\∀w',Below w.heap.size w w'->
   w'.cell? ⟨g,o+k*5,none⟩=some (.string x.out)/\w'.cell? ⟨g,o+k*5+1,none⟩=some (.int .i64 x.op)/\w'.cell? ⟨g,o+k*5+2,none⟩=some (.slice a1 n1 c1)/\w'.cell? ⟨g,o+k*5+3,none⟩=some (.slice a2 n2 c2)/\w'.cell? ⟨g,o+k*5+4,none⟩=some (.int .i64 x.n):=by
 obtain⟨rows,hrow,hall⟩:=h;have hk:k<rows.length:=by rw[hall.1];exact(List.getElem?_eq_some_iff.1 hx).1
 obtain⟨va,vl,e,ha,hl⟩:=hall.2 k _ x (List.getElem?_eq_getElem hk) hx;obtain⟨g,o,cap,hv,hg',hc⟩:=Zbic hrow (k:=k) (by rw[List.getElem?_eq_getElem hk,e]);obtain⟨a1,n1,c1,hva⟩:=Zbig ha;obtain⟨a2,n2,c2,hvl⟩:=Zbig hl;subst hva hvl;exact⟨g,o,cap,a1,n1,c1,a2,n2,c2,by rw[hv,hall.1],hg',ha,hl,hc⟩
theorem Zboi {Av:Nat->Prop} {w:World} {v:Value} {xs:List StepS} (h:StepsA Av w v xs):∃a c,v = .slice a xs.length c/\xs.length<=c/\c<=maxLen:=by
 obtain⟨rows,hrow,hall⟩:=h;rw[<-hall.1];exact Zbid hrow
set_option maxHeartbeats 8000000 in
set_option maxRecDepth 100000 in
theorem Zji (v:Value) (xs:List StepS) (Av:Nat->Prop) (w:World) (h:StepsA Av w v xs) (hn:xs.length<=1000000) (hfew:∀x∈xs,x.args.length<=1000000/\x.lits.length<=1000000):
  Calls prog 190 #[v] w (Zai w xs):=by
 obtain⟨sa,sc,hv,hs1,hs2⟩:=Zboi h;subst hv;have hcs:∀(k:Nat) x,xs[k]? =some x->_:=λk x hx=>Zbpb h hx
 have HCS:=hid hcs;have HFEW:=hid hfew;obtain⟨i0,hi,hz0,hz1,hz2⟩:=Zsv Zsx;clear hcs h hfew
 go_enter func190,ntmps190
 go_wp2_with (refine wpList_make_own _ rfl _ _ 35 rfl w.heap.size 34 i0 (.agg #[.string ByteArray.empty,.int .i64 0,.slice none 0 0,.slice none 0 0,.int .i64 0]) 5 underlying35 hi hz0 hz1 .i64 .i64 (xs.length:Int) xs.length rfl rfl rfl (by rw[hz2];omega) (by unfold maxLen;omega) (Nat.le_refl _) ?_)
 intro w1 hown1 hg1;have hb1:Below w.heap.size w w1:=⟨hg1.os,hg1.tape,hg1.output,hg1.size,λk hk=>hg1.block k hk (by simp)⟩;have HO1:Hid (OwnSteps w.heap.size w1 (.slice (some ⟨w.heap.size,0,none⟩) 0 xs.length) []):=⟨[],hown1,AllA.nil _⟩;have HN1:=hid hb1;clear hown1 hg1 hb1;go_wp2
 go_loopw [3,11] (λvv i wr=>∃k:Nat,k<=xs.length/\i = .int .i64 k/\OwnSteps w.heap.size wr vv (xs.take k)/\Below w.heap.size w wr)
  (λ_ i _=>xs.length-(intOf i).toNat)
 case atStart=>exact⟨0,Nat.zero_le _,rfl,by simpa using HO1.out,HN1.out⟩
 case round=>
  obtain⟨k,hk,rfl,hown,hnx⟩:=hrel;have hsz:=hnx.size;have HO:=hid hown;have HNX:=hid hnx;clear hown hnx
  by_cases hlt:k<xs.length
  ·obtain⟨x,hx⟩:∃x,xs[k]? =some x:=⟨xs[k],List.getElem?_eq_getElem hlt⟩
   obtain⟨g,o,cap,a1,n1,c1,a2,n2,c2,hv,hg,hA,hL,hc⟩:=HCS.out k x hx;have hi1:(k:Int)<(xs.length:Int):=by omega
   have hfx:=HFEW.out x (List.mem_of_getElem? hx);have htk:xs.take (k+1)=xs.take k ++ [x]:=by rw[List.take_add_one,hx];rfl
   obtain⟨d0,d1,d2,d3,d4⟩:=hc _ HNX.out;have HTK:=hid htk;have HAX:=hid hA;have HLX:=hid hL
   cases hv
   clear hc hx htk hA hL;obtain⟨ob,hob⟩:∃ob:Obj,ob = .cells #[.string x.out,.int .i64 x.op,.slice a1 n1 c1,.slice a2 n2 c2,.int .i64 x.n] 34:=⟨_,rfl⟩;have hnA:Below wr.heap.size wr (wr.alloc ob):=(Below.refl _ _).alloc (Nat.le_refl _) _;have hup:∀W,Below wr.heap.size wr W->Below w.heap.size w W:=λW h=>HNX.out.trans (h.mono hsz)
   have cA:=Zjh (.slice a1 n1 c1) x.args (wr.alloc ob) (HAX.out.isStrs.below (hup _ hnA)) (by omega);have HBK:Hid ((wr.alloc ob).heap[wr.heap.size]? =some ob):=alloc_at wr ob;have HNA:=hid hnA;have HUP:=hid hup;have CA:=hid cA;clear hnA cA hup;subst hob
   go_wp2_with fail
   refine CA.out.mono ?_;intro e w2 hpost;obtain⟨va,na,ca,rfl,hsa,hb2⟩:=Zjj hpost;have hbk2:=(hb2.block _ (by simp)).trans HBK.out;have HBK2:=hid hbk2;obtain⟨e0,e1,e2,e3,e4,f0,f1,f2,f3,f4⟩:=cells5 hbk2;have hn2:Below wr.heap.size wr w2:=HNA.out.trans (hb2.mono (by simp));have hn3:Below wr.heap.size wr (w2.setCell ⟨wr.heap.size,2,none⟩ (.slice va na ca)):=hn2.setCell (Nat.le_refl _) _;have hsa3:StrsA (λb=>b<=wr.heap.size) (w2.setCell ⟨wr.heap.size,2,none⟩ (.slice va na ca)) (.slice va na ca) x.args:=
    RowA.keep (RowA.mono hsa λb _ e=>by simp;omega) (Zpy (a:=⟨wr.heap.size,2,none⟩) (Av:=λb=>b<=wr.heap.size) (Nat.le_refl _) _)
   have cL:=Zjh (.slice a2 n2 c2) x.lits (w2.setCell ⟨wr.heap.size,2,none⟩ (.slice va na ca)) (HLX.out.isStrs.below (HUP.out _ hn3)) (by omega);have HBK3:Hid ((w2.setCell ⟨wr.heap.size,2,none⟩ (.slice va na ca)).heap[wr.heap.size]? =some (.cells #[.string x.out,.int .i64 x.op,.slice va na ca,.slice a2 n2 c2,.int .i64 x.n] 34)):=heap_set 2 (.slice va na ca) hbk2;have HN3:=hid hn3;have HSA3:=hid hsa3;have CL:=hid cL;clear hpost hbk2 hsa hb2 d0 d1 d2 d3 d4 hn2 hn3 cL hsa3
   go_wp2_with fail
   refine CL.out.mono ?_;intro e w4 hpost;obtain⟨vl,nl,cl,rfl,hsl,hb4⟩:=Zjj hpost;clear e0 e1 e2 e3 e4 f0 f1 f2 f3 f4;have hlt3:wr.heap.size<(w2.setCell ⟨wr.heap.size,2,none⟩ (.slice va na ca)).heap.size:=(Array.getElem?_eq_some_iff.1 HBK3.out).1;have hbk4:=(hb4.block _ hlt3).trans HBK3.out;obtain⟨e0,e1,e2,e3,e4,f0,f1,f2,f3,f4⟩:=cells5 hbk4;have hn4:Below wr.heap.size wr w4:=HN3.out.trans (hb4.mono (by omega));have hn5:Below wr.heap.size wr (w4.setCell ⟨wr.heap.size,3,none⟩ (.slice vl nl cl)):=hn4.setCell (Nat.le_refl _) _;have hsa5:StrsA (λb=>b<=wr.heap.size) (w4.setCell ⟨wr.heap.size,3,none⟩ (.slice vl nl cl)) (.slice va na ca) x.args:=
    RowA.keep (RowA.keep HSA3.out (Zpv hb4)) (Zpy (a:=⟨wr.heap.size,3,none⟩) (Av:=λb=>b<=wr.heap.size) (Nat.le_refl _) _)
   have hsl5:StrsA (λb=>b<=wr.heap.size) (w4.setCell ⟨wr.heap.size,3,none⟩ (.slice vl nl cl)) (.slice vl nl cl) x.lits:=
    RowA.keep (RowA.mono hsl λb _ e=>by omega) (Zpy (a:=⟨wr.heap.size,3,none⟩) (Av:=λb=>b<=wr.heap.size) (Nat.le_refl _) _)
   have hO5:=HO.out.below hn5;have hlow:=λb hb=>(HO.out.lt b hb).2
   have hav:∀b,AvOf w.heap.size _ b->b<=wr.heap.size:=λb e=>by
    rcases e with e|e
    ·omega
    ·exact Nat.le_of_lt (hlow b e)
   have HO5:=hid hO5;have HA5:=hid (RowA.mono hsa5 λb _ e=>hav b e);have HL5:=hid (RowA.mono hsl5 λb _ e=>hav b e);have HN5:=hid hn5;have HTL:Hid ((xs.take k).length<=1000000000):=by show _<=_;rw[List.length_take];omega
   have hs5:w.heap.size<=(w4.setCell ⟨wr.heap.size,3,none⟩ (.slice vl nl cl)).heap.size:=Nat.le_trans hsz hn5.size;have HS5:=hid hs5;have HBK4:=hid hbk4;clear hpost hbk4 hb4 hn4 hn5 hsa5 hsl5 hsl hO5 hlow hav hlt3 hs5
   go_wp2_with (at_builtin;refine Zbui (by rfl) _ _ (by rfl) w.heap.size _ (xs.take k) x va vl na ca nl cl (by rfl) HO5.out HS5.out HTL.out HA5.out HL5.out _ (by rfl) (by simp[World.setCell]) ?_)
   intro v' w6 hown6 hb6 _ _;have HO6:Hid (OwnSteps w.heap.size w6 v' (xs.take (k+1))):=by show OwnSteps _ _ _ _;rw[HTK.out];exact hown6
   have HN6:=hid ((HUP.out _ HN5.out).trans hb6);clear hown6 hb6 e0 e1 e2 e3 e4 f0 f1 f2 f3 f4;go_wp2;go_roundw
   case rel=>exact⟨k+1,by omega,by go_num,HO6.out,HN6.out⟩
   case measure=>simp[intOf];omega
  ·have hfull:xs.take k=xs:=List.take_of_length_le (by omega)
   have hi1:¬(k:Int)<(xs.length:Int):=by omega
   have hO:=HO.out;rw[hfull]at hO;obtain⟨ra,rc,hr⟩:=hO.len;subst hr;have HO:=hid hO;clear hfull hO;go_wp2;go_ret;exact⟨_,_,_,rfl,HO.out.stepsA,HNX.out⟩
def FewR (r:RuleS):Prop:=r.ins.length<=1000000/\r.outs.length<=1000000/\r.after.length<=1000000/\r.steps.length<=1000000/\∀x∈r.steps,x.args.length<=1000000/\x.lits.length<=1000000
def Zbp (w:World) (r:RuleS) (e:Ending) (w':World):Prop:=
 ∃a1 n1 c1 a2 n2 c2 a3 n3 c3 a4 n4 c4,e = .returned (.agg #[.string r.name,.slice a1 n1 c1,.slice a2 n2 c2,.slice a3 n3 c3,.slice a4 n4 c4])/\
  RuleA (λb=>b<w.heap.size) w' [.string r.name,.slice a1 n1 c1,.slice a2 n2 c2,.slice a3 n3 c3,.slice a4 n4 c4] r/\Below w.heap.size w w'
theorem Zbmt {w:World} {xs:List ByteArray} {e:Ending} {w':World} (h:Zby w xs e w'):∃a n c,e = .returned (.slice a n c)/\StrsA (λb=>b<w.heap.size) w' (.slice a n c) (srtB xs)/\Below w.heap.size w w':=by
 obtain⟨v,rfl,_,hA,hb⟩:=h;obtain⟨a,n,c,rfl⟩:=Zbig hA;exact⟨a,n,c,rfl,hA,hb⟩
set_option maxHeartbeats 8000000 in
set_option maxRecDepth 100000 in
theorem Zbmm (r:RuleS) (vi vo vf vs:Value) (Av:Nat->Prop) (w:World) (hr:RuleA Av w [.string r.name,vi,vo,vf,vs] r) (hfew:FewR r):
  Calls prog 135 #[.agg #[.string r.name,vi,vo,vf,vs]] w (Zbp w (Zbmg r)):=by
 obtain⟨_,_,_,_,he,hI,hO,hF,hS⟩:=hr
 cases he
 obtain⟨ia,inn,ic,hvi⟩:=Zbig hI;obtain⟨oa,on,oc,hvo⟩:=Zbig hO;obtain⟨fa,fnn,fc,hvf⟩:=Zbig hF;obtain⟨sa,sc,hvs,_,_⟩:=Zboi hS;subst hvi hvo hvf hvs;have c1:∀w',Below w.heap.size w w'->Calls prog 189 #[.slice ia inn ic] w' (Zby w' r.ins):=λw' hb=>Zbml _ _ w' (hI.isStrs.below hb) (by have:=hfew.1;omega)
 have c2:∀w',Below w.heap.size w w'->Calls prog 189 #[.slice oa on oc] w' (Zby w' r.outs):=λw' hb=>Zbml _ _ w' (hO.isStrs.below hb) (by have:=hfew.2.1;omega)
 have c3:∀w',Below w.heap.size w w'->Calls prog 189 #[.slice fa fnn fc] w' (Zby w' r.after):=λw' hb=>Zbml _ _ w' (hF.isStrs.below hb) (by have:=hfew.2.2.1;omega)
 have c4:∀w',Below w.heap.size w w'->Calls prog 190 #[.slice sa r.steps.length sc] w' (Zai w' r.steps):=λw' hb=>Zji _ _ Av w' (hS.keep (Zpv hb)) hfew.2.2.2.1 hfew.2.2.2.2
 have C1:=hid c1;have C2:=hid c2;have C3:=hid c3;have C4:=hid c4;clear c1 c2 c3 c4 hI hO hF hS hfew;obtain⟨W0,hW0⟩:∃W0,W0=((w.alloc (.cells #[.string r.name,.slice ia inn ic,.slice oa on oc,.slice fa fnn fc,.slice sa r.steps.length sc] 37)).alloc (.cells #[.string ⟨#[]⟩,.slice none 0 0,.slice none 0 0,.slice none 0 0,.slice none 0 0] 37)):=⟨_,rfl⟩;have hs0:w.heap.size+2<=W0.heap.size:=by rw[hW0];simp
 have HX0:Hid (W0.heap[w.heap.size]? =some (.cells #[.string r.name,.slice ia inn ic,.slice oa on oc,.slice fa fnn fc,.slice sa r.steps.length sc] 37)):=by
  show W0.heap[w.heap.size]? =_;rw[hW0,Below.heap_alloc _ _ _ (by simp)];exact alloc_at w _
 have HZ0:Hid (W0.heap[w.heap.size+1]? =some (.cells #[.string ⟨#[]⟩,.slice none 0 0,.slice none 0 0,.slice none 0 0,.slice none 0 0] 37)):=by
  show W0.heap[w.heap.size+1]? =_;have:=alloc_at (w.alloc (.cells #[.string r.name,.slice ia inn ic,.slice oa on oc,.slice fa fnn fc,.slice sa r.steps.length sc] 37)) (.cells #[.string ⟨#[]⟩,.slice none 0 0,.slice none 0 0,.slice none 0 0,.slice none 0 0] 37);rw[hW0];simpa using this
 have HN0:Hid (Below w.heap.size w W0):=by
  show Below _ _ _;rw[hW0];exact((Below.refl _ _).alloc (Nat.le_refl _) _).alloc (by simp) _
 have HS0:=hid hs0;clear hs0;subst hW0
 go_enter func135,ntmps135
 go_wp2_with fail
 refine(C1.out _ HN0.out).mono ?_;intro e v1 hpost;obtain⟨a1,n1,c1,rfl,hA,hb⟩:=Zbmt hpost;have hx:=(hb.block _ (by have:=HS0.out;omega)).trans HX0.out;have hz:=(hb.block _ (by have:=HS0.out;omega)).trans HZ0.out;obtain⟨e0,e1,e2,e3,e4,f0,f1,f2,f3,f4⟩:=cells5 hx;have HX1:Hid ((v1.setCell ⟨w.heap.size,1,none⟩ (.slice a1 n1 c1)).heap[w.heap.size]? =some (.cells #[.string r.name,.slice a1 n1 c1,.slice oa on oc,.slice fa fnn fc,.slice sa r.steps.length sc] 37)):=heap_set 1 (.slice a1 n1 c1) hx;have HZ1:Hid ((v1.setCell ⟨w.heap.size,1,none⟩ (.slice a1 n1 c1)).heap[w.heap.size+1]? =some (.cells #[.string ⟨#[]⟩,.slice none 0 0,.slice none 0 0,.slice none 0 0,.slice none 0 0] 37)):=(Below.heap_setCell _ _ _ _ (by simp)).trans hz;have HN1:Hid (Below w.heap.size w (v1.setCell ⟨w.heap.size,1,none⟩ (.slice a1 n1 c1))):=(HN0.out.trans (hb.mono (by have:=HS0.out;omega))).setCell (Nat.le_refl _) _;have HS1:Hid (w.heap.size+2<=(v1.setCell ⟨w.heap.size,1,none⟩ (.slice a1 n1 c1)).heap.size):=by
  show _<=_;have h1:=HS0.out;have h2:=hb.size;simp[World.setCell];omega
 have HL1_1:Hid (StrsA (λb=>b<w.heap.size+2) (v1.setCell ⟨w.heap.size,1,none⟩ (.slice a1 n1 c1)) (.slice a1 n1 c1) (Zbmg r).ins):=
  RowA.keep (RowA.mono hA λb _ e=>by have:=HS0.out;omega) (Zpy (a:=⟨w.heap.size,1,none⟩) (Av:=λb=>b<w.heap.size+2) (by show w.heap.size<w.heap.size+2;omega) _)
 clear hpost hA hx hz hb
 go_wp2_with fail
 refine(C2.out _ HN1.out).mono ?_;intro e v2 hpost;obtain⟨a2,n2,c2,rfl,hA,hb⟩:=Zbmt hpost;clear e0 e1 e2 e3 e4 f0 f1 f2 f3 f4;have hx:=(hb.block _ (by have:=HS1.out;omega)).trans HX1.out;have hz:=(hb.block _ (by have:=HS1.out;omega)).trans HZ1.out;obtain⟨e0,e1,e2,e3,e4,f0,f1,f2,f3,f4⟩:=cells5 hx;have HX2:Hid ((v2.setCell ⟨w.heap.size,2,none⟩ (.slice a2 n2 c2)).heap[w.heap.size]? =some (.cells #[.string r.name,.slice a1 n1 c1,.slice a2 n2 c2,.slice fa fnn fc,.slice sa r.steps.length sc] 37)):=heap_set 2 (.slice a2 n2 c2) hx;have HZ2:Hid ((v2.setCell ⟨w.heap.size,2,none⟩ (.slice a2 n2 c2)).heap[w.heap.size+1]? =some (.cells #[.string ⟨#[]⟩,.slice none 0 0,.slice none 0 0,.slice none 0 0,.slice none 0 0] 37)):=(Below.heap_setCell _ _ _ _ (by simp)).trans hz;have HN2:Hid (Below w.heap.size w (v2.setCell ⟨w.heap.size,2,none⟩ (.slice a2 n2 c2))):=(HN1.out.trans (hb.mono (by have:=HS1.out;omega))).setCell (Nat.le_refl _) _;have HS2:Hid (w.heap.size+2<=(v2.setCell ⟨w.heap.size,2,none⟩ (.slice a2 n2 c2)).heap.size):=by
  show _<=_;have h1:=HS1.out;have h2:=hb.size;simp[World.setCell];omega
 have HL1_2:Hid (StrsA (λb=>b<w.heap.size+2) (v2.setCell ⟨w.heap.size,2,none⟩ (.slice a2 n2 c2)) (.slice a1 n1 c1) (Zbmg r).ins):=
  RowA.keep (RowA.keep HL1_1.out (Zpv hb)) (Zpy (a:=⟨w.heap.size,2,none⟩) (Av:=λb=>b<w.heap.size+2) (by show w.heap.size<w.heap.size+2;omega) _)
 have HL2_2:Hid (StrsA (λb=>b<w.heap.size+2) (v2.setCell ⟨w.heap.size,2,none⟩ (.slice a2 n2 c2)) (.slice a2 n2 c2) (Zbmg r).outs):=
  RowA.keep (RowA.mono hA λb _ e=>by have:=HS1.out;omega) (Zpy (a:=⟨w.heap.size,2,none⟩) (Av:=λb=>b<w.heap.size+2) (by show w.heap.size<w.heap.size+2;omega) _)
 clear hpost hA hx hz hb
 go_wp2_with fail
 refine(C3.out _ HN2.out).mono ?_;intro e v3 hpost;obtain⟨a3,n3,c3,rfl,hA,hb⟩:=Zbmt hpost;clear e0 e1 e2 e3 e4 f0 f1 f2 f3 f4;have hx:=(hb.block _ (by have:=HS2.out;omega)).trans HX2.out;have hz:=(hb.block _ (by have:=HS2.out;omega)).trans HZ2.out;obtain⟨e0,e1,e2,e3,e4,f0,f1,f2,f3,f4⟩:=cells5 hx;have HX3:Hid ((v3.setCell ⟨w.heap.size,3,none⟩ (.slice a3 n3 c3)).heap[w.heap.size]? =some (.cells #[.string r.name,.slice a1 n1 c1,.slice a2 n2 c2,.slice a3 n3 c3,.slice sa r.steps.length sc] 37)):=heap_set 3 (.slice a3 n3 c3) hx;have HZ3:Hid ((v3.setCell ⟨w.heap.size,3,none⟩ (.slice a3 n3 c3)).heap[w.heap.size+1]? =some (.cells #[.string ⟨#[]⟩,.slice none 0 0,.slice none 0 0,.slice none 0 0,.slice none 0 0] 37)):=(Below.heap_setCell _ _ _ _ (by simp)).trans hz;have HN3:Hid (Below w.heap.size w (v3.setCell ⟨w.heap.size,3,none⟩ (.slice a3 n3 c3))):=(HN2.out.trans (hb.mono (by have:=HS2.out;omega))).setCell (Nat.le_refl _) _;have HS3:Hid (w.heap.size+2<=(v3.setCell ⟨w.heap.size,3,none⟩ (.slice a3 n3 c3)).heap.size):=by
  show _<=_;have h1:=HS2.out;have h2:=hb.size;simp[World.setCell];omega
 have HL1_3:Hid (StrsA (λb=>b<w.heap.size+2) (v3.setCell ⟨w.heap.size,3,none⟩ (.slice a3 n3 c3)) (.slice a1 n1 c1) (Zbmg r).ins):=
  RowA.keep (RowA.keep HL1_2.out (Zpv hb)) (Zpy (a:=⟨w.heap.size,3,none⟩) (Av:=λb=>b<w.heap.size+2) (by show w.heap.size<w.heap.size+2;omega) _)
 have HL2_3:Hid (StrsA (λb=>b<w.heap.size+2) (v3.setCell ⟨w.heap.size,3,none⟩ (.slice a3 n3 c3)) (.slice a2 n2 c2) (Zbmg r).outs):=
  RowA.keep (RowA.keep HL2_2.out (Zpv hb)) (Zpy (a:=⟨w.heap.size,3,none⟩) (Av:=λb=>b<w.heap.size+2) (by show w.heap.size<w.heap.size+2;omega) _)
 have HL3_3:Hid (StrsA (λb=>b<w.heap.size+2) (v3.setCell ⟨w.heap.size,3,none⟩ (.slice a3 n3 c3)) (.slice a3 n3 c3) (Zbmg r).after):=
  RowA.keep (RowA.mono hA λb _ e=>by have:=HS2.out;omega) (Zpy (a:=⟨w.heap.size,3,none⟩) (Av:=λb=>b<w.heap.size+2) (by show w.heap.size<w.heap.size+2;omega) _)
 clear hpost hA hx hz hb
 go_wp2_with fail
 refine(C4.out _ HN3.out).mono ?_;intro e v4 hpost;obtain⟨a4,n4,c4,rfl,hA,hb⟩:=hpost;clear e0 e1 e2 e3 e4 f0 f1 f2 f3 f4;have hx:=(hb.block _ (by have:=HS3.out;omega)).trans HX3.out;have hz:=(hb.block _ (by have:=HS3.out;omega)).trans HZ3.out;obtain⟨e0,e1,e2,e3,e4,f0,f1,f2,f3,f4⟩:=cells5 hx;have HX4:Hid ((v4.setCell ⟨w.heap.size,4,none⟩ (.slice a4 n4 c4)).heap[w.heap.size]? =some (.cells #[.string r.name,.slice a1 n1 c1,.slice a2 n2 c2,.slice a3 n3 c3,.slice a4 n4 c4] 37)):=heap_set 4 (.slice a4 n4 c4) hx;have HZ4:Hid ((v4.setCell ⟨w.heap.size,4,none⟩ (.slice a4 n4 c4)).heap[w.heap.size+1]? =some (.cells #[.string ⟨#[]⟩,.slice none 0 0,.slice none 0 0,.slice none 0 0,.slice none 0 0] 37)):=(Below.heap_setCell _ _ _ _ (by simp)).trans hz;have HN4:Hid (Below w.heap.size w (v4.setCell ⟨w.heap.size,4,none⟩ (.slice a4 n4 c4))):=(HN3.out.trans (hb.mono (by have:=HS3.out;omega))).setCell (Nat.le_refl _) _;have HS4:Hid (w.heap.size+2<=(v4.setCell ⟨w.heap.size,4,none⟩ (.slice a4 n4 c4)).heap.size):=by
  show _<=_;have h1:=HS3.out;have h2:=hb.size;simp[World.setCell];omega
 have HL1_4:Hid (StrsA (λb=>b<w.heap.size+2) (v4.setCell ⟨w.heap.size,4,none⟩ (.slice a4 n4 c4)) (.slice a1 n1 c1) (Zbmg r).ins):=
  RowA.keep (RowA.keep HL1_3.out (Zpv hb)) (Zpy (a:=⟨w.heap.size,4,none⟩) (Av:=λb=>b<w.heap.size+2) (by show w.heap.size<w.heap.size+2;omega) _)
 have HL2_4:Hid (StrsA (λb=>b<w.heap.size+2) (v4.setCell ⟨w.heap.size,4,none⟩ (.slice a4 n4 c4)) (.slice a2 n2 c2) (Zbmg r).outs):=
  RowA.keep (RowA.keep HL2_3.out (Zpv hb)) (Zpy (a:=⟨w.heap.size,4,none⟩) (Av:=λb=>b<w.heap.size+2) (by show w.heap.size<w.heap.size+2;omega) _)
 have HL3_4:Hid (StrsA (λb=>b<w.heap.size+2) (v4.setCell ⟨w.heap.size,4,none⟩ (.slice a4 n4 c4)) (.slice a3 n3 c3) (Zbmg r).after):=
  RowA.keep (RowA.keep HL3_3.out (Zpv hb)) (Zpy (a:=⟨w.heap.size,4,none⟩) (Av:=λb=>b<w.heap.size+2) (by show w.heap.size<w.heap.size+2;omega) _)
 have HL4_4:Hid (StepsA (λb=>b<w.heap.size+2) (v4.setCell ⟨w.heap.size,4,none⟩ (.slice a4 n4 c4)) (.slice a4 n4 c4) (Zbmg r).steps):=
  StepsA.keep (StepsA.mono hA λb _ e=>by have:=HS3.out;omega) (Zpy (a:=⟨w.heap.size,4,none⟩) (Av:=λb=>b<w.heap.size+2) (by show w.heap.size<w.heap.size+2;omega) _)
 clear hA hx hz hb;obtain⟨e0,e1,e2,e3,e4,f0,f1,f2,f3,f4⟩:=cells5 HX4.out;obtain⟨z0,z1,z2,z3,z4,g0,g1,g2,g3,g4⟩:=cells5 HZ4.out;go_wp2;have hfs:∀(W:World) (i:Nat) (u:Value),Fr (λb=>b<w.heap.size+2) W (W.setCell ⟨w.heap.size+1,i,none⟩ u):=λW i u=>Zpy (a:=⟨w.heap.size+1,i,none⟩) (Av:=λb=>b<w.heap.size+2) (by show w.heap.size+1<w.heap.size+2;omega) u
 have hf:=((((hfs _ 0 (.string r.name)).trans (hfs _ 1 (.slice a1 n1 c1))).trans (hfs _ 2 (.slice a2 n2 c2))).trans (hfs _ 3 (.slice a3 n3 c3))).trans (hfs (((((v4.setCell ⟨w.heap.size,4,none⟩ (.slice a4 n4 c4)).setCell ⟨w.heap.size+1,0,none⟩ (.string r.name)).setCell ⟨w.heap.size+1,1,none⟩ (.slice a1 n1 c1)).setCell ⟨w.heap.size+1,2,none⟩ (.slice a2 n2 c2)).setCell ⟨w.heap.size+1,3,none⟩ (.slice a3 n3 c3)) 4 (.slice a4 n4 c4));have hcell:=heap_set 4 (.slice a4 n4 c4) (heap_set 3 (.slice a3 n3 c3) (heap_set 2 (.slice a2 n2 c2) (heap_set 1 (.slice a1 n1 c1) (heap_set 0 (.string r.name) HZ4.out))));have hbs:∀(W:World) (i:Nat) (u:Value),Below w.heap.size w W->Below w.heap.size w (W.setCell ⟨w.heap.size+1,i,none⟩ u):=λW i u h=>h.setCell (show w.heap.size<=w.heap.size+1 by omega) u
 have hn:=hbs _ 4 (.slice a4 n4 c4) (hbs _ 3 (.slice a3 n3 c3) (hbs _ 2 (.slice a2 n2 c2) (hbs _ 1 (.slice a1 n1 c1) (hbs _ 0 (.string r.name) HN4.out))));refine bodyPost_ret (Zbhl rfl _ _ (w.heap.size+1) _ _ _ _ rfl hcell underlying37 rfl (by kernel_rfl)) rfl ?_;refine⟨a1,n1,c1,a2,n2,c2,a3,n3,c3,a4,n4,c4,rfl,⟨_,_,_,_,rfl,?_,?_,?_,?_⟩,hn⟩
 ·exact RowA.mono (RowA.keep HL1_4.out hf) λb _ e=>by omega
 ·exact RowA.mono (RowA.keep HL2_4.out hf) λb _ e=>by omega
 ·exact RowA.mono (RowA.keep HL3_4.out hf) λb _ e=>by omega
 ·exact StepsA.mono (StepsA.keep HL4_4.out hf) λb _ e=>by omega
end Go.Proofs.YtcpjfpdecklkgaaGreatDoor
