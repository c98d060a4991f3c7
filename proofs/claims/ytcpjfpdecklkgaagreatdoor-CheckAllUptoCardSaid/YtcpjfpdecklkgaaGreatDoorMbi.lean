import Derived.Test.YtcpjfpdecklkgaaGreatDoorMbh
namespace Go.Proofs.YtcpjfpdecklkgaaGreatDoor
open Go.Lib (hid)
open Go.Proofs.Tryz
open Go.RowKit Go.Shelf Go.Maps
theorem Zbqm {w w':World} {v:Value} {xs:List ByteArray} {b:Nat} (h:IsStrs w v xs) (hg:w.grownBy w' (some b)) (hm:∃es c,w.heap[b]? =some (.map es c)):IsStrs w' v xs:=by
 obtain⟨a,c,e,h1,h2,h3⟩:=h;refine⟨a,c,e,h1,h2,λhne=>?_⟩;obtain⟨g,o,ea,hgl,hc⟩:=h3 hne;obtain⟨es,c',hmp⟩:=hm;have hgb:some g≠some b:=by
  rintro⟨⟩
  cases xs with
  | nil=>exact hne rfl
  | cons x xs=>
   have:=hc 0 x rfl;simp[World.cell?,hmp]at this
 exact⟨g,o,ea,Nat.lt_of_lt_of_le hgl hg.size,λj x hx=>(World.cell?_of_block (a:=⟨g,o+j,none⟩) (hg.block g hgl hgb)).trans (hc j x hx)⟩
set_option maxHeartbeats 8000000
set_option maxRecDepth 100000
def Zab (n nm bm:Nat) (w0:World) (rs:List RuleS) (RV:Nat->Value) (VV:ByteArray->ValT) (P:List ByteArray) (W:World) (names:List ByteArray) (e:Ending) (w':World):Prop:=
 ∃g,e = .returned (.slice (some ⟨g,0,none⟩) names.length names.length)/\ValRow w' g (names.map VV)/\W.heap.size<=g/\W.grownBy w' (some bm)/\DenI w0 n nm bm rs RV VV P w'
theorem Zlr {w0:World} {n nm bm:Nat} {rs:List RuleS} {RV:Nat->Value} {VV:ByteArray->ValT} {rk:Nat->Nat} {tv:Value} {f:ByteArray->ByteArray×Bool} (hH:DenH w0 n nm bm rs RV VV rk tv f) (D:Nat) (hOne:Zbo w0 n nm bm rs RV VV rk tv D)
  (nv:Value) (names:List ByteArray) (P:List ByteArray) (W:World) (hN:IsStrs W nv names) (hs:∀x∈names,x.size<=maxLen) (hl:names.length<=1000000000) (hr:∀x∈names,∀k,mkrN rs rs.length x=some k->rk k<D) (hI:DenI w0 n nm bm rs RV VV P W):
  Calls prog 39 #[.agg #[tv,.map (some nm),.map (some bm)],nv] W (Zab n nm bm w0 rs RV VV P W names):=by
 have mixed:prog.follows .mixedOrders=true:=by kernel_rfl
 obtain⟨ta,rfl⟩:=hH.tree;obtain⟨na,nc,rfl,hnl,hnm,hncell⟩:=Zua hN;obtain⟨m,hmm⟩:∃m,W.heap.size=m:=⟨_,rfl⟩;have hmk:=Zyh names.length hl;obtain⟨W2,hW2⟩:∃V,(W.alloc (.cells #[.pointer ta,.map (some nm),.map (some bm)] 75)).alloc (.cells (madeCells #[.bool false,.string ⟨#[]⟩] (names.length*2)) 46)=V:=⟨_,rfl⟩;have hg2:W.grownBy W2 none:=by rw[<-hW2];exact(Zra _ _).trans (Zra _ _)
 have hI2:=hI.kept hH hg2 (by simp);have hr2:ValRow W2 (m+1) (List.replicate names.length noV):=by
  have:=Zbsc (W.alloc (.cells #[.pointer ta,.map (some nm),.map (some bm)] 75)) names.length;rw[World.size_alloc,hmm]at this;rw[<-hW2];exact this
 have hm2:W2.heap[m]? =some (.cells #[.pointer ta,.map (some nm),.map (some bm)] 75):=by
  rw[<-hW2,Below.heap_alloc _ _ _ (by simp[hmm]),<-hmm];exact alloc_at W _
 have hs2:W2.heap.size=m+2:=by rw[<-hW2];simp[hmm]
 have hbl:=hI.bml;have hnl2:=hI.nml;have HC:Hid (∀(j:Nat) x,names[j]? =some x->∃b o,na=some ⟨b,o,none⟩/\∀w',W.grownBy w' (some bm)->w'.cell? ⟨b,o+j,none⟩=some (.string x)):=by
  show ∀(j:Nat) x,_;intro j x hx;obtain⟨b,o,e,_⟩:=hncell j x hx;refine⟨b,o,e,λw' hw=>?_⟩;have:=Zbqm hN hw hI.isMap;obtain⟨_,_,e1,_,_,h1⟩:=Zua this;obtain⟨e2,_,_⟩:=Value.slice.inj e1;subst e2;obtain⟨b',o',e3,hc⟩:=h1 j x hx;rw[e]at e3
  cases e3
  exact hc w' (Below.refl _ _)
 have HH:=hid hH;have HO:=hid hOne;have HS:=hid hs;have HR:=hid hr;have HW2:=hid hW2;have HMM:=hid hmm;have HG2:Hid (W.grownBy W2 (some bm)):=hid ⟨hg2.os,hg2.tape,hg2.output,hg2.size,λk hk _=>hg2.block k hk (by simp)⟩;have HI2:=hid hI2;have HR2:=hid hr2;have HM2:=hid hm2;have HS2:=hid hs2;have HBM:Hid (bm<m/\nm<m):=hid (by omega);unfold maxLen at hnm;unfold Zab;rw[hmm];clear hN hs hr hI hncell hg2 hI2 hr2 hm2 hs2 hW2 hbl hnl2 hH hOne
 go_enter func39,ntmps39
 go_wp2_with fail
 rw[HW2.out]
 go_loopw [13] (λiv wr=>∃k:Nat,k<=names.length/\iv = .int .i64 (k:Int)/\ValRow wr (m+1) ((names.take k).map VV++List.replicate (names.length-k) noV)/\W.grownBy wr (some bm)/\DenI w0 n nm bm rs RV VV P wr/\wr.heap[m]? =some (.cells #[.pointer ta,.map (some nm),.map (some bm)] 75)/\m+2<=wr.heap.size) (λiv _=>names.length-(intOf iv).toNat)
 case atStart=>exact⟨0,Nat.zero_le _,rfl,by simpa using HR2.out,HG2.out,HI2.out,HM2.out,by rw[HS2.out];exact Nat.le_refl _⟩
 case round=>
  obtain⟨k,hk,rfl,hrow,hg,hI,hm,hz⟩:=hrel
  by_cases hlt:k<names.length
  ·obtain⟨x,hx⟩:∃x,names[k]? =some x:=⟨names[k],List.getElem?_eq_getElem hlt⟩
   obtain⟨b,o,q1,hc⟩:=HC.out k x hx;subst q1;have cx:=hc wr hg;have hxm:=List.mem_of_getElem? hx;obtain⟨m0,m1,m2,_⟩:=cells3 hm;have CO:=hid (HO.out x P wr (HS.out x hxm) (HR.out x hxm) hI);have hi1:(k:Int)<(names.length:Int):=by omega
   have hi0:(0:Int)<=(k:Int):=by omega
   have hat:((names.take k).map VV++List.replicate (names.length-k) noV)[k]? =some noV:=by
    rw[List.getElem?_append_right (by rw[List.length_map,List.length_take];omega),List.length_map,List.length_take,Nat.min_eq_left hk,Nat.sub_self,List.getElem?_replicate,if_pos (by omega)]
   have hlen:((names.take k).map VV).length=k:=by simp;omega
   have hnext:((names.take k).map VV++List.replicate (names.length-k) noV).set k (VV x)=(names.take (k+1)).map VV++List.replicate (names.length-(k+1)) noV:=by
    rw[List.take_add_one,hx,List.set_append_right _ _ (by rw[hlen];exact Nat.le_refl _),hlen,Nat.sub_self,show names.length-k=(names.length-(k+1))+1 by omega,List.replicate_succ,List.set_cons_zero];simp
   obtain⟨t,ht⟩:∃t,VV x=t:=⟨_,rfl⟩;rw[ht]at CO hnext;obtain⟨ok,tx⟩:=t;have HROW:=hid hrow;have HG:=hid hg;have HM:=hid hm;have HZ:=hid hz;have HAT:=hid hat;have HNX:=hid hnext;have HI:=hid hI;clear hrow hg hI hm hz hc hx hxm hat hlen hnext ht
   go_wp2_with (go_at_call 71;(with_reducible refine CO.out.mono ?_);rintro e w4 ⟨rfl,hg4,hI4⟩;have hro:=HROW.out.heap (hg4.block (m+1) (by have:=HZ.out;omega) (λe=>by have:=HBM.out;have:=Option.some.inj e;omega));obtain⟨p0,p1,p2,p3⟩:=hro.cells HAT.out;have HRO:=hid hro;have HG4:=hid hg4;have HI4:=hid hI4;clear hro hg4 hI4;simp only[valE,noV]at p0 p1⊢)
   have hset:=HRO.out.set k (ok,tx) (by rw[List.length_append,List.length_map,List.length_take,List.length_replicate];omega);rw[HNX.out]at hset;obtain⟨W5,hW5⟩:∃V,(w4.setCell ⟨m+1,k*2,none⟩ (.bool ok)).setCell ⟨m+1,k*2+1,none⟩ (.string tx)=V:=⟨_,rfl⟩;have hg5:w4.grownBy W5 (some (m+1)):=by rw[<-hW5];exact⟨rfl,rfl,rfl,by simp[World.setCell],λi _ hi=>(Below.heap_setCell _ _ _ i (λe=>hi (by rw[e]))).trans (Below.heap_setCell _ _ _ i (λe=>hi (by rw[e])))⟩
   simp only at hset;rw[hW5]at hset;have hbm:=HBM.out;have hH:=HH.out;have hz:=HZ.out;have hz4:=HG4.out.size;have hI5:=HI4.out.kept hH hg5 (λj e=>by have:=Option.some.inj e;have:=hH.hnm;omega);have hgW:W.grownBy W5 (some bm):=by
    have h1:=HG.out.trans HG4.out;refine⟨hg5.os.trans h1.os,hg5.tape.trans h1.tape,hg5.output.trans h1.output,Nat.le_trans h1.size hg5.size,λi hi hne=>(hg5.block i (by have:=h1.size;omega) (λe=>?_)).trans (h1.block i hi hne)⟩;have:=Option.some.inj e;have:=HMM.out;omega
   have hm5:W5.heap[m]? =some (.cells #[.pointer ta,.map (some nm),.map (some bm)] 75):=(hg5.block m (by omega) (λe=>by have:=Option.some.inj e;omega)).trans ((HG4.out.block m (by omega) (λe=>by have:=Option.some.inj e;omega)).trans HM.out);have hz5:=hg5.size;rw[hW5];go_roundw
   case rel=>exact⟨k+1,by omega,by go_num,hset,hgW,hI5,hm5,by omega⟩
   case measure=>simp[intOf];omega
  ·obtain rfl:k=names.length:=by omega
   rw[List.take_length,Nat.sub_self,List.replicate_zero,List.append_nil]at hrow;have hi1:¬(names.length:Int)<(names.length:Int):=by omega
   have HROW:=hid hrow;have HG:=hid hg;have HI:=hid hI;clear hrow hg hI hm;go_wp2;go_ret;exact⟨m+1,rfl,HROW.out,by omega,HG.out,HI.out⟩
theorem Zfi {B:Nat} {w w':World} (h:Below B w w') (hB:w.heap.size<=B):w.grownBy w' none:=⟨h.os,h.tape,h.output,h.size,λk hk _=>h.block k (by omega)⟩
theorem Zri {w w':World} {row:Option Nat} (h:w.grownBy w' none):w.grownBy w' row:=⟨h.os,h.tape,h.output,h.size,λk hk _=>h.block k hk (by simp)⟩
theorem Zbsj {w w':World} {v:Value} {xs:List ValT} {b:Nat} (h:Zbb w v xs) (hg:w.grownBy w' (some b)) (hm:∃es c,w.heap[b]? =some (.map es c)):Zbb w' v xs:=by
 obtain⟨a,c,e,h1,h2,h3⟩:=h;refine⟨a,c,e,h1,h2,λhne=>?_⟩;obtain⟨g,o,ea,hgl,hc⟩:=h3 hne;obtain⟨es,c',hmp⟩:=hm;have hgb:some g≠some b:=by
  rintro⟨⟩
  cases xs with
  | nil=>exact hne rfl
  | cons x xs=>
   have:=(hc 0 x rfl).1;simp[World.cell?,hmp]at this
 exact⟨g,o,ea,Nat.lt_of_lt_of_le hgl hg.size,λj x hx=>⟨(World.cell?_of_block (a:=⟨g,o+j*2,none⟩) (hg.block g hgl hgb)).trans (hc j x hx).1,(World.cell?_of_block (a:=⟨g,o+j*2+1,none⟩) (hg.block g hgl hgb)).trans (hc j x hx).2⟩⟩
theorem Zbjy {r:RuleS} {ins:List ValT} (h:ins.length=r.ins.length):(runP r ins).length=r.outs.length:=by unfold runP;rw[if_neg (by omega),List.length_map]
set_option maxHeartbeats 8000000
set_option maxRecDepth 100000
def Zaq (n nm bm:Nat) (w0:World) (rs:List RuleS) (RV:Nat->Value) (VV:ByteArray->ValT) (P outs:List ByteArray) (W:World) (e:Ending) (w':World):Prop:=
 e = .returned (.tuple #[])/\W.grownBy w' (some bm)/\DenI w0 n nm bm rs RV VV (P++outs) w'
theorem Znb {w0:World} {n nm bm:Nat} {rs:List RuleS} {RV:Nat->Value} {VV:ByteArray->ValT} {rk:Nat->Nat} {tv:Value} {f:ByteArray->ByteArray×Bool} (hH:DenH w0 n nm bm rs RV VV rk tv f) (D:Nat) (hOne:Zbo w0 n nm bm rs RV VV rk tv D)
  (k0:Nat) (r:RuleS) (hr0:rs[k0]? =some r) (hrk:rk k0<=D) (P:List ByteArray) (W:World) (hI:DenI w0 n nm bm rs RV VV P W):
  Calls prog 122 #[.agg #[tv,.map (some nm),.map (some bm)],RV k0] W (Zaq n nm bm w0 rs RV VV P r.outs W):=by
 have mixed:prog.follows .mixedOrders=true:=by kernel_rfl
 obtain⟨a1,c1,a2,c2,a3,c3,a4,c4,hRV,hri⟩:=hH.rv k0 r hr0;have hrm:=List.mem_of_getElem? hr0;have hsm:=hH.small r hrm;have hn0:=hH.hn;obtain⟨m,hmm⟩:∃m,W.heap.size=m:=⟨_,rfl⟩;obtain⟨ta,hta⟩:=hH.tree;obtain⟨W2,hW2⟩:∃V,(W.alloc (.cells #[tv,.map (some nm),.map (some bm)] 75)).alloc (.cells (Zbiz r a1 a2 a3 a4 c1 c2 c3 c4) 37)=V:=⟨_,rfl⟩;have hg2:W.grownBy W2 none:=by rw[<-hW2];exact(Zra _ _).trans (Zra _ _)
 have hI2:=hI.kept hH hg2 (by simp);have hm2:W2.heap[m]? =some (.cells #[tv,.map (some nm),.map (some bm)] 75):=by
  rw[<-hW2,Below.heap_alloc _ _ _ (by simp[hmm]),<-hmm];exact alloc_at W _
 have hx2:W2.heap[m+1]? =some (.cells (Zbiz r a1 a2 a3 a4 c1 c2 c3 c4) 37):=by
  have:=alloc_at (W.alloc (.cells #[tv,.map (some nm),.map (some bm)] 75)) (.cells (Zbiz r a1 a2 a3 a4 c1 c2 c3 c4) 37);rw[World.size_alloc,hmm]at this;rw[<-hW2];exact this
 have hs2:W2.heap.size=m+2:=by rw[<-hW2];simp[hmm]
 have hbl:=hI.bml;have hnl2:=hI.nml;have hbne:bm<m/\nm<m:=by omega
 have hmo:∀x∈r.ins,x.size<=maxLen:=Zblx hsm.ins;have hmoo:∀x∈r.outs,x.size<=maxLen:=Zblx hsm.outs;have HC:Hid (∀V:World,W2.grownBy V (some bm)->(V.cell? ⟨m,0,none⟩=some tv/\V.cell? ⟨m,1,none⟩=some (.map (some nm))/\V.cell? ⟨m,2,none⟩=some (.map (some bm)))/\V.cell? ⟨m+1,0,none⟩=some (.string r.name)/\V.cell? ⟨m+1,1,none⟩=some (.slice a1 r.ins.length c1)/\V.cell? ⟨m+1,2,none⟩=some (.slice a2 r.outs.length c2)/\V.cell? ⟨m+1,3,none⟩=some (.slice a3 r.after.length c3)/\V.cell? ⟨m+1,4,none⟩=some (.slice a4 r.steps.length c4)):=by
  show ∀V,_;intro V hV;obtain⟨p0,p1,p2,_⟩:=cells3 ((hV.block m (by omega) (λe=>by have:=Option.some.inj e;omega)).trans hm2);obtain⟨q0,q1,q2,q3,q4,_⟩:=cells5 ((hV.block (m+1) (by omega) (λe=>by have:=Option.some.inj e;omega)).trans hx2);exact⟨⟨p0,p1,p2⟩,q0,q1,q2,q3,q4⟩
 have CA:Hid (∀V,W2.grownBy V none->Calls prog 39 #[.agg #[tv,.map (some nm),.map (some bm)],.slice a1 r.ins.length c1] V (Zab n nm bm w0 rs RV VV P V r.ins)):=by
  show ∀V,_;intro V hV;have hIV:=hI2.kept hH hV (by simp);exact Zlr hH D hOne _ r.ins P V ((Zbiu hri).below (by rw[hn0];exact hIV.below)) hmo (by have:=hsm.ins.1;omega) (λx hx j hj=>by have:=hH.mean.down k0 r hr0 x hx j hj;omega) hIV
 have CO:Hid (∀V v,DenI w0 n nm bm rs RV VV P V->Zbb V v (r.ins.map VV)->Calls prog 15 #[.agg (Zbiz r a1 a2 a3 a4 c1 c2 c3 c4),v] V (Zbn r (r.ins.map VV) V)):=by
  show ∀V v,_;intro V v hV hv;have hbV:Below w0.heap.size w0 V:=by rw[hn0];exact hV.below
  exact Zbcd r a1 a2 a3 a4 c1 c2 c3 c4 v _ V (hri.below hbV) hsm hv (by rw[List.length_map];have:=hsm.ins.1;omega) (λu hu=>by obtain⟨x,_,rfl⟩:=List.mem_map.1 hu;exact hH.size x) (hH.glob.below hbV)
 have HOC:Hid (∀(j:Nat) x,r.outs[j]? =some x->∃b o,a2=some ⟨b,o,none⟩/\∀V,Below n w0 V->V.cell? ⟨b,o+j,none⟩=some (.string x)):=by
  show ∀(j:Nat) x,_;intro j x hx;obtain⟨oa,oc,eo,_,_,hocc⟩:=Zua (Zbiv hri);obtain⟨eo1,_,_⟩:=Value.slice.inj eo;subst eo1;obtain⟨b,o,e,hc⟩:=hocc j x hx;exact⟨b,o,e,λV hV=>hc V (by rw[hn0];exact hV)⟩
 have HOUT:Hid (∀(j:Nat) o,r.outs[j]? =some o->VV o=(runP r (r.ins.map VV)).getD j noV):=hid λj o ho=>hH.mean.out k0 r hr0 j o ho
 have HFL:Hid (∀o∈r.outs,o∈rs.flatMap (·.outs)):=hid λo ho=>List.mem_flatMap.2 ⟨r,hrm,ho⟩
 have hrl:(runP r (r.ins.map VV)).length=r.outs.length:=Zbjy (by rw[List.length_map]);have hocm:r.outs.length<=c2/\c2<=maxLen:=by
  obtain⟨oa,oc,eo,h1,h2,_⟩:=Zua (Zbiv hri);obtain⟨_,_,eo3⟩:=Value.slice.inj eo;subst eo3;exact⟨h1,h2⟩
 have HVL:Hid (r.ins.length<=maxLen):=hid (by have:=hsm.ins.1;unfold maxLen;omega);have hol:=hsm.outs.1;obtain⟨R,hR⟩:∃R,runP r (r.ins.map VV)=R:=⟨_,rfl⟩;have hRl:R.length=r.outs.length:=by rw[<-hR];exact hrl
 have CO2:Hid (∀V v,DenI w0 n nm bm rs RV VV P V->Zbb V v (r.ins.map VV)->Calls prog 15 #[.agg (Zbiz r a1 a2 a3 a4 c1 c2 c3 c4),v] V λe w'=>∃u c,e = .returned (.slice u r.outs.length c)/\r.outs.length<=c/\c<=maxLen/\Zbb w' (.slice u r.outs.length c) R/\Below V.heap.size V w'):=by
  show ∀V v,_;intro V v h1 h2;refine(CO.out V v h1 h2).mono ?_;rintro e w' ⟨u,rfl,hu,hb⟩;rw[hR]at hu;obtain⟨a,c,rfl,h3,h4,_⟩:=id hu;rw[hRl]at hu h3⊢;exact⟨a,c,rfl,h3,h4,hu,hb⟩
 rw[hR]at HOUT hrl;have HG2:=hid hg2;have HI2:=hid hI2;have HS2:=hid hs2;have HMM:=hid hmm;have HH:=hid hH;have HW2:=hid hW2;have HBNE:=hid hbne;have HMOO:=hid hmoo;have HRL:=hid hrl;obtain⟨name,ins,outs,after,steps⟩:=r;simp only at *;rw[hRV];unfold Zaq;subst hta;unfold maxLen at hocm;clear hRV hri hr0 hrk hrm hsm hg2 hI hI2 hm2 hx2 hs2 hbl hnl2 hbne hmo hmoo hR hW2 hmm hn0 hrl hRl CO hOne hH
 go_enter func122,ntmps122
 go_wp2_with fail
 rw[HW2.out,HMM.out];refine wp_region_held_drew (S:=(λV=>(V.cell? ⟨m,0,none⟩=some (.pointer ta)/\V.cell? ⟨m,1,none⟩=some (.map (some nm))/\V.cell? ⟨m,2,none⟩=some (.map (some bm)))/\V.cell? ⟨m+1,0,none⟩=some (.string name)/\V.cell? ⟨m+1,1,none⟩=some (.slice a1 ins.length c1)/\V.cell? ⟨m+1,2,none⟩=some (.slice a2 outs.length c2)/\V.cell? ⟨m+1,3,none⟩=some (.slice a3 after.length c3)/\V.cell? ⟨m+1,4,none⟩=some (.slice a4 steps.length c4))) (by kernel_rfl) ?_ (λhHeld=>?_)
 ·exact HC.out _ (Zri (Zfi (below_drewN (Below.refl W2.heap.size W2) 1) (Nat.le_refl _)))
 refine tkH 0 (v:=?_) ?_ ?_;rotate_left
 ·intro w hSw;obtain⟨⟨p0,p1,p2⟩,q0,q1,q2,q3,q4⟩:=hSw;go_simp;try with_reducible rfl
 try simp only[Act.put,List.setIfInBounds_toArray,List.set_cons_zero,List.set_cons_succ]
 refine tkH 1 (v:=?_) ?_ ?_;rotate_left
 ·intro w hSw;obtain⟨⟨p0,p1,p2⟩,q0,q1,q2,q3,q4⟩:=hSw;go_simp;try with_reducible rfl
 try simp only[Act.put,List.setIfInBounds_toArray,List.set_cons_zero,List.set_cons_succ]
 refine tkH 2 (v:=?_) ?_ ?_;rotate_left
 ·intro w hSw;obtain⟨⟨p0,p1,p2⟩,q0,q1,q2,q3,q4⟩:=hSw;go_simp;try with_reducible rfl
 try simp only[Act.put,List.setIfInBounds_toArray,List.set_cons_zero,List.set_cons_succ]
 refine tkH 3 (v:=?_) ?_ ?_;rotate_left
 ·intro w hSw;obtain⟨⟨p0,p1,p2⟩,q0,q1,q2,q3,q4⟩:=hSw;go_simp;try with_reducible rfl
 try simp only[Act.put,List.setIfInBounds_toArray,List.set_cons_zero,List.set_cons_succ]
 refine tkH 7 (v:=?_) ?_ ?_;rotate_left
 ·intro w hSw;obtain⟨⟨p0,p1,p2⟩,q0,q1,q2,q3,q4⟩:=hSw;go_simp;try with_reducible rfl
 try simp only[Act.put,List.setIfInBounds_toArray,List.set_cons_zero,List.set_cons_succ]
 refine rdH [4] ?_;refine rcH (λK hK=>?_) ?_
 ·go_simp;refine(CA.out _ (Zfi (below_drewN (Below.refl _ _) 1) (Nat.le_refl _))).mono ?_;rintro e w3 ⟨g,rfl,hrow,hgs,hg3,hI3⟩;have hv3:=hrow.vals (by rw[List.length_map];exact HVL.out);rw[List.length_map]at hv3;have HV3:=hid hv3;have HI3:=hid hI3;have HG3:Hid (W2.grownBy w3 (some bm)):=hid (World.grownBy.trans (Zri (Zfi (below_drewN (Below.refl _ _) 1) (Nat.le_refl _))) hg3);clear hrow hgs hg3 hI3 hv3;dsimp only
  refine hK.out _ _ ?_ (λhHeld=>?_)
  ·try dsimp only
   exact HC.out _ HG3.out
  clear hK K
  try simp only[Act.put,List.setIfInBounds_toArray,List.set_cons_zero,List.set_cons_succ]
  refine rdH [5] ?_;refine rcH (λK hK=>?_) ?_
  ·go_simp;refine(CO2.out _ _ HI3.out HV3.out).mono ?_;rintro e w4 ⟨u,uc,rfl,huc,hum,hu,hb4⟩;have HU:=hid hu;have HB4:=hid hb4;have HG4:Hid (W2.grownBy w4 (some bm)):=hid (HG3.out.trans (Zri (Zfi hb4 (Nat.le_refl _))));clear hu hb4;dsimp only
   refine hK.out _ _ ?_ (λhHeld=>?_)
   ·try dsimp only
    exact HC.out _ HG4.out
   clear hK K
   try simp only[Act.put,List.setIfInBounds_toArray,List.set_cons_zero,List.set_cons_succ]
   refine tkH 6 (v:=?_) ?_ ?_;rotate_left
   ·intro w hSw;obtain⟨⟨p0,p1,p2⟩,q0,q1,q2,q3,q4⟩:=hSw;go_simp;try with_reducible rfl
   try simp only[Act.put,List.setIfInBounds_toArray,List.set_cons_zero,List.set_cons_succ]
   refine wpAnyH_done (by kernel_rfl) ?_ _;have hI4:=HI3.out.kept HH.out (Zfi HB4.out (Nat.le_refl _)) (by simp);have hmp4:=hI4.isMap;have HV4:Hid (∀wr,w4.grownBy wr (some bm)->∀(j:Nat) x,R[j]? =some x->∃b o,u=some ⟨b,o,none⟩/\wr.cell? ⟨b,o+j*2,none⟩=some (.bool x.1)/\wr.cell? ⟨b,o+j*2+1,none⟩=some (.string x.2)):=by
    show ∀wr,_;intro wr hg j x hx;obtain⟨a,c,e,_,_,h3⟩:=Zbsj HU.out hg hmp4;obtain⟨e1,_,_⟩:=Value.slice.inj e;subst e1;obtain⟨b,o,ea,_,hc⟩:=h3 (by rintro rfl;simp at hx);exact⟨b,o,ea,hc j x hx⟩
   have HI4:=hid hI4;have HFIN:Hid (∀wr,w4.grownBy wr (some bm)->W.grownBy wr (some bm)):=hid λwr hg=>World.grownBy.trans (Zri HG2.out) (HG4.out.trans hg)
   clear hI4 hmp4 hHeld
   go_wp2_with fail
   go_loopw [13] (λiv wr=>∃k:Nat,k<=outs.length/\iv = .int .i64 (k:Int)/\DenI w0 n nm bm rs RV VV (P++outs.take k) wr/\w4.grownBy wr (some bm)) (λiv _=>outs.length-(intOf iv).toNat)
   case atStart=>exact⟨0,Nat.zero_le _,rfl,by simpa using HI4.out,World.grownBy.refl _ _⟩
   case round=>
    obtain⟨k,hk,rfl,hI,hg⟩:=hrel
    by_cases hlt:k<outs.length
    ·obtain⟨o,ho⟩:∃o,outs[k]? =some o:=⟨outs[k],List.getElem?_eq_getElem hlt⟩
     obtain⟨x,hx⟩:∃x,R[k]? =some x:=⟨R[k]'(by rw[HRL.out];exact hlt),List.getElem?_eq_getElem _⟩;have hvv:VV o=x:=by rw[HOUT.out k o ho,List.getD_eq_getElem?_getD,hx];rfl
     obtain⟨ok,tx⟩:=x;obtain⟨ub,uo,eu,cu1,cu2⟩:=HV4.out wr hg k _ hx;subst eu;simp only at cu1 cu2;obtain⟨ob,oo,eo,hoc⟩:=HOC.out k o ho;subst eo;obtain⟨wa,hwa⟩:∃V,(wr.alloc (.cells #[.bool ok,.string tx] 46))=V:=⟨_,rfl⟩;have hga:wr.grownBy wa.drew none:=by rw[<-hwa];exact⟨rfl,rfl,rfl,by show wr.heap.size<=(wr.alloc _).heap.size;simp,λi hi _=>Below.heap_alloc _ _ i hi⟩
     have hIa:=hI.kept HH.out hga (by simp);have hom:=List.mem_of_getElem? ho;obtain⟨w5,hput,hI5,hg5⟩:=hIa.put HH.out (HFL.out o hom) (HMOO.out o hom);rw[hvv,show valE (ok,tx) = .agg #[.bool ok,.string tx]from rfl]at hput;have hga2:=HG4.out.trans (hg.trans (Zri (row:=some bm) hga));obtain⟨⟨p0,p1,p2⟩,q0,q1,q2,q3,q4⟩:=HC.out wa.drew hga2;have cx:=hoc wa.drew hIa.below;have hbx:=alloc_at wr (.cells #[.bool ok,.string tx] 46);rw[hwa]at hbx;obtain⟨b0,b1,_,_⟩:=Zih (w:=wa.drew) hbx;have HI5:Hid (DenI w0 n nm bm rs RV VV (P++outs.take (k+1)) w5):=hid (by rw[List.take_add_one,ho,Option.toList_some,<-List.append_assoc];exact hI5);have HG5:Hid (w4.grownBy w5 (some bm)):=hid ((hg.trans (Zri (row:=some bm) hga)).trans hg5);have HWA:=hid hwa;have hi1:(k:Int)<(outs.length:Int):=by omega
     have hi0:(0:Int)<=(k:Int):=by omega
     clear hI hg ho hx hvv hoc hga hIa hom hI5 hg5 hga2 hbx hwa
     go_wp2_with fail
     rw[HWA.out]
     go_region
     all_goals go_wp2
     all_goals go_roundw
     case rel=>exact⟨k+1,by omega,by go_num,HI5.out,HG5.out⟩
     case measure=>simp[intOf];omega
    ·have hi1:¬(k:Int)<(outs.length:Int):=by omega
     rw[List.take_of_length_le (by omega)]at hI;have HI:=hid hI;have HG:=hid hg;clear hI hg;go_wp2
     go_end0
     exact⟨rfl,HFIN.out _ HG.out,HI.out⟩
  exact AllReadyH.nil
 exact AllReadyH.nil
set_option maxHeartbeats 8000000
set_option maxRecDepth 100000
theorem Zbcn {w0:World} {n nm bm:Nat} {rs:List RuleS} {RV:Nat->Value} {VV:ByteArray->ValT} {rk:Nat->Nat} {tv:Value} {f:ByteArray->ByteArray×Bool} (hH:DenH w0 n nm bm rs RV VV rk tv f) (D:Nat) (hOne:∀D',D=D'+1->Zbo w0 n nm bm rs RV VV rk tv D'):
  Zbo w0 n nm bm rs RV VV rk tv D:=by
 intro x P W hxs hrk hI;have mixed:prog.follows .mixedOrders=true:=by kernel_rfl
 obtain⟨m,hmm⟩:∃m,W.heap.size=m:=⟨_,rfl⟩;obtain⟨ta,hta⟩:=hH.tree;obtain⟨W2,hW2⟩:∃V,(W.alloc (.cells #[tv,.map (some nm),.map (some bm)] 75)).alloc (.cells #[.bool false,.string ⟨#[]⟩] 46)=V:=⟨_,rfl⟩;have hg2:W.grownBy W2 none:=by rw[<-hW2];exact(Zra _ _).trans (Zra _ _)
 have hI2:=hI.kept hH hg2 (by simp);have hm2:W2.heap[m]? =some (.cells #[tv,.map (some nm),.map (some bm)] 75):=by
  rw[<-hW2,Below.heap_alloc _ _ _ (by simp[hmm]),<-hmm];exact alloc_at W _
 have hr2:W2.heap[m+1]? =some (.cells #[.bool false,.string ⟨#[]⟩] 46):=by
  have:=alloc_at (W.alloc (.cells #[tv,.map (some nm),.map (some bm)] 75)) (.cells #[.bool false,.string ⟨#[]⟩] 46);rw[World.size_alloc,hmm]at this;rw[<-hW2];exact this
 have hs2:W2.heap.size=m+2:=by rw[<-hW2];simp[hmm]
 have hbl:=hI.bml;have hnl2:=hI.nml;have hlook:=hI2.mks.look underlying73 (zeroValue37 W2) x hxs;obtain⟨m0,m1,m2,_⟩:=cells3 hm2;have HG2:=hid hg2;have HI2:=hid hI2;have HS2:=hid hs2;have HMM:=hid hmm;have HH:=hid hH;have HW2:=hid hW2;have HBNE:Hid (bm<m/\nm<m):=hid (by omega);have HM2:=hid hm2;have HR2:=hid hr2
 cases hk:mkrN rs rs.length x with
 | none=>
  rw[hk]at hlook;simp only[Option.map_none,Option.getD_none,Option.isSome_none,Zbus]at hlook;have hsrc:=hH.mean.src x hk;obtain⟨W3,hW3⟩:∃V,W2.alloc (.cells #[.string ⟨#[]⟩,.slice none 0 0,.slice none 0 0,.slice none 0 0,.slice none 0 0] 37)=V:=⟨_,rfl⟩;have hg3:W2.grownBy W3 none:=by rw[<-hW3];exact Zra _ _
  have hI3:=hI2.kept hH hg3 (by simp);have CS:=hid (Zbmv tv (.map (some nm)) (.map (some bm)) x f W3 hH.tree ⟨_,rfl⟩ ⟨_,rfl⟩ (λy V hy hV=>hH.read y V hy (by rw[hH.hn];exact hI3.below.trans (hV.mono (by have:=hI3.below.size;rw[hH.hn]at this;exact this)))) hxs);have hr3:=(hg3.block (m+1) (by omega) (by simp)).trans hr2;have hm3:=(hg3.block m (by omega) (by simp)).trans hm2;obtain⟨n0,n1,n2,_⟩:=cells3 hm3;have HW3:=hid hW3;have HG3:=hid hg3;have HI3:=hid hI3;have HR3:=hid hr3;have HSRC:=hid hsrc;rw[hsrc];obtain⟨⟨fb,fo⟩,hf⟩:∃c,f x=c:=⟨_,rfl⟩;rw[hf]at CS⊢;simp only at CS⊢;subst hta;clear hk hrk hI hg2 hI2 hm2 hr2 hs2 hbl hnl2 hOne hH hW2 hW3 hg3 hI3 hr3 hm3 hsrc hf hmm
  go_enter func71,ntmps71
  go_upto_region 1 with fail
  rw[HW2.out,HMM.out]
  go_upto_region 3 with fail
  rw[HW3.out]
  go_wp2_with (go_at_call 121;(with_reducible refine CS.out.mono ?_);rintro e w4 ⟨rfl,hb4⟩;have HB4:=hid hb4;have hr4:=(hb4.block (m+1) (by have:=HG3.out.size;have:=HS2.out;omega)).trans HR3.out;have HR4:=hid hr4;obtain⟨r0,r1⟩:=Zih hr4;clear hb4 hr4)
  refine bodyPost_ret (Zbhl rfl _ _ (m+1) _ _ _ _ rfl (heap_set _ _ (heap_set _ _ HR4.out)) underlying46 rfl (by kernel_rfl)) rfl ?_;obtain⟨W5,hW5⟩:∃V,(w4.setCell ⟨m+1,0,none⟩ (.bool fo)).setCell ⟨m+1,1,none⟩ (.string fb)=V:=⟨_,rfl⟩;have hg5:w4.grownBy W5 (some (m+1)):=by rw[<-hW5];exact⟨rfl,rfl,rfl,by simp[World.setCell],λi _ hi=>(Below.heap_setCell _ _ _ i (λe=>hi (by rw[e]))).trans (Below.heap_setCell _ _ _ i (λe=>hi (by rw[e])))⟩
  rw[hW5];have hb:=HBNE.out;have hH:=HH.out;have hM:=HMM.out;have hI4:=HI3.out.kept hH (Zfi HB4.out (Nat.le_refl _)) (by simp);have hI5:=hI4.kept hH hg5 (λj e=>by have:=Option.some.inj e;have:=hH.hnm;omega);have h24:=(HG2.out.trans HG3.out).trans (Zfi HB4.out (Nat.le_refl _));refine⟨rfl,⟨hg5.os.trans h24.os,hg5.tape.trans h24.tape,hg5.output.trans h24.output,Nat.le_trans h24.size hg5.size,λi hi _=>(hg5.block i (by have:=h24.size;omega) (λe=>by have:=Option.some.inj e;omega)).trans (h24.block i hi (by simp))⟩,hI5⟩
 | some k=>
  obtain⟨hkl,hxo⟩:=Zzi hk;obtain⟨r,hr⟩:∃r,rs[k]? =some r:=⟨rs[k],List.getElem?_eq_getElem hkl⟩;rw[Zbdh hr]at hxo;obtain⟨a1,c1,a2,c2,a3,c3,a4,c4,hRV,hri⟩:=hH.rv k r hr;rw[hk]at hlook;simp only[Option.map_some,Option.getD_some,Option.isSome_some,hRV]at hlook;obtain⟨W3,hW3⟩:∃V,W2.alloc (.cells (Zbiz r a1 a2 a3 a4 c1 c2 c3 c4) 37)=V:=⟨_,rfl⟩;have hg3:W2.grownBy W3 none:=by rw[<-hW3];exact Zra _ _
  have hI3:=hI2.kept hH hg3 (by simp);have hr3:=(hg3.block (m+1) (by omega) (by simp)).trans hr2;have hm3:=(hg3.block m (by omega) (by simp)).trans hm2;have hx3:W3.heap[m+2]? =some (.cells (Zbiz r a1 a2 a3 a4 c1 c2 c3 c4) 37):=by rw[<-hW3,<-hs2];exact alloc_at W2 _
  obtain⟨n0,n1,n2,_⟩:=cells3 hm3;obtain⟨mm,h1,h2,h3,h4⟩:=id hI3.made;have hlook3:=h1.look_ok (t:=65) (e:=46) underlying9 underlying65 (Zbux W3) x hxs;have hs3:W3.heap.size=m+3:=by rw[<-hW3];simp[hs2]
  obtain⟨⟨vo,vb⟩,hvx⟩:∃c,VV x=c:=⟨_,rfl⟩;have HW3:=hid hW3;have HG3:=hid hg3;have HI3:=hid hI3;have HR3:=hid hr3;have HM3:=hid hm3;have HX3:=hid hx3;have HS3:=hid hs3;have HVX:=hid hvx;have HXO:=hid hxo;have HXS:=hid hxs;have CE:Hid (∀V,W3.grownBy V none->Calls prog 122 #[.agg #[tv,.map (some nm),.map (some bm)],.agg (Zbiz r a1 a2 a3 a4 c1 c2 c3 c4)] V (Zaq n nm bm w0 rs RV VV P r.outs V)):=by
   show ∀V,_;intro V hV;obtain⟨D',hD'⟩:∃D',D=D'+1:=⟨D-1,by have:=hrk k hk;omega⟩;have:=Znb hH D' (hOne D' hD') k r hr (by have:=hrk k hk;omega) P V (hI3.kept hH hV (by simp));rw[hRV]at this;exact this
  have HP1:Hid (∀V:World,V.heap[m+2]? =some (.cells (Zbiz r a1 a2 a3 a4 c1 c2 c3 c4) 37)->V.cell? ⟨m+2,0,none⟩=some (.string r.name)/\V.cell? ⟨m+2,1,none⟩=some (.slice a1 r.ins.length c1)/\V.cell? ⟨m+2,2,none⟩=some (.slice a2 r.outs.length c2)/\V.cell? ⟨m+2,3,none⟩=some (.slice a3 r.after.length c3)/\V.cell? ⟨m+2,4,none⟩=some (.slice a4 r.steps.length c4)):=by
   show ∀V,_;intro V hV;obtain⟨q0,q1,q2,q3,q4,_⟩:=cells5 hV;exact⟨q0,q1,q2,q3,q4⟩
  rw[hvx];subst hta;have fin:Hid (∀(V:World) (P':List ByteArray),W3.grownBy V (some bm)->DenI w0 n nm bm rs RV VV P' V->(∀o∈P,o∈P')->W.grownBy ((V.setCell ⟨m+1,0,none⟩ (.bool vo)).setCell ⟨m+1,1,none⟩ (.string vb)) (some bm)/\DenI w0 n nm bm rs RV VV P ((V.setCell ⟨m+1,0,none⟩ (.bool vo)).setCell ⟨m+1,1,none⟩ (.string vb))):=by
   show ∀V P',_;intro V P' hV hIV hP;obtain⟨W5,hW5⟩:∃X,(V.setCell ⟨m+1,0,none⟩ (.bool vo)).setCell ⟨m+1,1,none⟩ (.string vb)=X:=⟨_,rfl⟩;have hg5:V.grownBy W5 (some (m+1)):=by rw[<-hW5];exact⟨rfl,rfl,rfl,by simp[World.setCell],λi _ hi=>(Below.heap_setCell _ _ _ i (λe=>hi (by rw[e]))).trans (Below.heap_setCell _ _ _ i (λe=>hi (by rw[e])))⟩
   rw[hW5];have hb:=HBNE.out;have hM:=HMM.out;have h24:=(Zri (row:=some bm) (HG2.out.trans HG3.out)).trans hV;exact⟨⟨hg5.os.trans h24.os,hg5.tape.trans h24.tape,hg5.output.trans h24.output,Nat.le_trans h24.size hg5.size,λi hi hne=>(hg5.block i (by have:=h24.size;omega) (λe=>by have:=Option.some.inj e;omega)).trans (h24.block i hi hne)⟩,(hIV.less hP).kept HH.out hg5 (λj e=>by have:=Option.some.inj e;have:=HH.out.hnm;omega)⟩
  cases hh:hasM mm x with
  | true=>
   rw[hh,h2 x hh,hvx,show valE (vo,vb) = .agg #[.bool vo,.string vb]from rfl]at hlook3;obtain⟨W4,hW4⟩:∃V,W3.alloc (.cells #[.bool vo,.string vb] 46)=V:=⟨_,rfl⟩;have hg4:W3.grownBy W4 none:=by rw[<-hW4];exact Zra _ _
   have hlook4:=(h1.heap (hg4.block bm h1.lt (by simp))).look (t:=65) (e:=46) underlying9 underlying65 (Zbux W4) x hxs;rw[h2 x hh,hvx,show valE (vo,vb) = .agg #[.bool vo,.string vb]from rfl]at hlook4;have hr4:=(hg4.block (m+1) (by omega) (by simp)).trans hr3;have hm4:=(hg4.block m (by omega) (by simp)).trans hm3;obtain⟨l0,l1,l2,_⟩:=cells3 hm4;obtain⟨r0,r1⟩:=Zih hr4;have HW4:=hid hW4;have HR4:=hid hr4;have HI4:=hid (hI3.kept hH hg4 (by simp));have HG4:=hid hg4;clear hk hrk hI hg2 hI2 hm2 hr2 hs2 hbl hnl2 hOne hH hW2 hW3 hg3 hI3 hr3 hm3 hx3 hW4 hg4 hr4 hm4 hh h1 h2 h3 h4 hr hri hRV hxo hkl hvx hmm hs3
   go_enter func71,ntmps71
   go_upto_region 1 with fail
   rw[HW2.out,HMM.out]
   go_upto_region 4 with fail
   rw[HW3.out,HS2.out]
   go_upto_region 5 with fail
   rw[HW4.out,HS3.out]
   go_wp2_with fail
   refine bodyPost_ret (Zbhl rfl _ _ (m+1) _ _ _ _ rfl (heap_set _ _ (heap_set _ _ HR4.out)) underlying46 rfl (by kernel_rfl)) rfl ?_;exact⟨rfl,fin.out _ P (Zri HG4.out) HI4.out (λo ho=>ho)⟩
  | false=>
   rw[hh,Zqh hh]at hlook3;obtain⟨W4,hW4⟩:∃V,W3.alloc (.cells #[.bool false,.string ⟨#[]⟩] 46)=V:=⟨_,rfl⟩;have hg4:W3.grownBy W4 none:=by rw[<-hW4];exact Zra _ _
   have hr4:=(hg4.block (m+1) (by omega) (by simp)).trans hr3;have hm4:=(hg4.block m (by omega) (by simp)).trans hm3;have hx4:=(hg4.block (m+2) (by omega) (by simp)).trans hx3;have hs4:m+3<=W4.heap.size:=by have:=hg4.size;omega
   obtain⟨l0,l1,l2,_⟩:=cells3 hm4;obtain⟨q0,q1,q2,q3,q4⟩:=HP1.out W4 hx4;have HW4:=hid hW4;have HR4:=hid hr4;have HM4:=hid hm4;have CE4:=hid (CE.out W4 hg4);have HG4:=hid hg4;have HS4:=hid hs4;obtain⟨name,ins,outs,after,steps⟩:=r;simp only at *;clear hk hrk hI hg2 hI2 hm2 hr2 hs2 hbl hnl2 hOne hH hW2 hW3 hg3 hI3 hr3 hm3 hx3 hx4 hW4 hg4 hr4 hm4 hh h1 h2 h3 h4 hr hri hRV hxo hkl hvx hmm hs3 hs4 hxs
   go_enter func71,ntmps71
   go_upto_region 1 with fail
   rw[HW2.out,HMM.out]
   go_upto_region 4 with fail
   rw[HW3.out,HS2.out]
   go_upto_region 5 with fail
   rw[HW4.out,HS3.out]
   go_wp2_with (go_at_call 122;(with_reducible refine CE4.out.mono ?_);rintro e w5 ⟨rfl,hg5,hI5⟩;obtain⟨m5,h51,h52,h53,h54⟩:=id hI5.made;have hb:=HBNE.out;have hlook5:=h51.look (t:=65) (e:=46) underlying9 underlying65 (Zbux w5) x HXS.out;rw[h52 x (h54 x (List.mem_append_right _ HXO.out)),HVX.out,show valE (vo,vb) = .agg #[.bool vo,.string vb]from rfl]at hlook5;have hr5:=(hg5.block (m+1) (by have:=HS4.out;omega) (λe=>by have:=Option.some.inj e;omega)).trans HR4.out;obtain⟨l0,l1,l2,_⟩:=cells3 ((hg5.block m (by have:=HS4.out;omega) (λe=>by have:=Option.some.inj e;omega)).trans HM4.out);obtain⟨r0,r1⟩:=Zih hr5;have HR5:=hid hr5;have HI5:=hid hI5;have HG5:=hid hg5;clear h51 h52 h53 h54 hI5 hg5 hr5 hb)
   refine bodyPost_ret (Zbhl rfl _ _ (m+1) _ _ _ _ rfl (heap_set _ _ (heap_set _ _ HR5.out)) underlying46 rfl (by kernel_rfl)) rfl ?_;exact⟨rfl,fin.out _ _ (World.grownBy.trans (Zri HG4.out) HG5.out) HI5.out (λo ho=>List.mem_append_left _ ho)⟩
theorem Zbco {w0:World} {n nm bm:Nat} {rs:List RuleS} {RV:Nat->Value} {VV:ByteArray->ValT} {rk:Nat->Nat} {tv:Value} {f:ByteArray->ByteArray×Bool} (hH:DenH w0 n nm bm rs RV VV rk tv f):∀D,Zbo w0 n nm bm rs RV VV rk tv D
 | 0=>Zbcn hH 0 (λ_ e=>by cases e)
 | D+1=>Zbcn hH (D+1) (λD' e=>by cases e;exact Zbco hH D)
def Zar (v:Value) (w:World) (cy:List ByteArray):Prop:=∀W,Below w.heap.size w W->Calls prog 30 #[v] W λe w'=>∃u,e = .returned u/\IsStrs w' u cy/\Below W.heap.size W w'
def allB (rs:List RuleS) (cy:List ByteArray):Int×ByteArray:=if (Zet rs).1=0 then(match cy with | []=>(0,⟨#[]⟩)|x::_=>(3,x))else Zet rs
set_option maxHeartbeats 4000000
set_option maxRecDepth 100000
theorem Ziq (v:Value) (rs:List RuleS) (cy:List ByteArray) (w:World) (hv:RulesI w v rs) (hs:∀r∈rs,SmallR r 1048576) (hn:rs.length<=1048576) (hm:MayW w) (hF:(Zet rs).1=0->Zar v w cy) (hcn:cy.length<=1048576):
  Calls prog 7 #[v] w λe w'=>e = .returned (.tuple #[.int .i64 (allB rs cy).1,.string (allB rs cy).2])/\Below w.heap.size w w':=by
 have mixed:prog.follows .mixedOrders=true:=by kernel_rfl
 have CB:=hid (Zeu v rs w hv hs hn hm);have hF':∀c x,Zet rs=(c,x)->c=0->Zar v w cy:=λc x h1 h2=>hF (by rw[h1];exact h2)
 unfold allB;obtain⟨⟨c,x⟩,hb⟩:∃p,Zet rs=p:=⟨_,rfl⟩;have HF:=hid (hF' c x hb);rw[hb]at CB⊢;simp only at CB⊢;clear hv hs hm hF hF' hb
 by_cases hc:c=0
 ·subst hc
  rw[if_pos rfl]
  go_enter func7,ntmps7
  go_wp2_with fail
  refine CB.out.mono ?_;rintro e w2 ⟨rfl,hb2⟩;have HB2:=hid hb2;clear hb2
  go_wp2_with fail
  refine(HF.out (by trivial) _ HB2.out).mono ?_;rintro e w3 ⟨u,rfl,hu,hb3⟩;obtain⟨ua,uc,rfl,hul,hum,huc⟩:=Zua hu;have HB3:=hid (HB2.out.trans (hb3.mono HB2.out.size));unfold maxLen at hum;clear hu hb3
  cases cy with
  | nil=>
   simp only[List.length_nil]at hul⊢;clear huc;go_wp2
   go_ret2
   exact⟨rfl,HB3.out⟩
  | cons z r=>
   obtain⟨b,o,ea,hc0⟩:=huc 0 z rfl;subst ea;have c0:=hc0 w3 (Below.refl _ _);simp only[Nat.add_zero]at c0;have hpos:(0:Int)<((z::r).length:Int):=by simp<;>omega
   obtain⟨m,hmm⟩:∃m,(z::r).length=m:=⟨_,rfl⟩;rw[hmm]at hpos hul⊢;have hml:m<=1048576:=by rw[<-hmm];exact hcn
   clear huc hc0 hmm hcn
   go_wp2_with fail
   go_region
   go_wp2
   go_ret2
   exact⟨rfl,HB3.out.drew⟩
 ·rw[if_neg hc]
  go_enter func7,ntmps7
  go_wp2_with (go_at_call 29;(with_reducible refine CB.out.mono ?_);rintro e w2 ⟨rfl,hb2⟩;have HB2:=hid hb2;clear hb2)
  go_ret2
  exact⟨rfl,HB2.out⟩
theorem Zbvl (v:Value) (rs:List RuleS) (cy:List ByteArray) (w:World) (hv:RulesI w v rs) (hs:∀r∈rs,SmallR r 1048576) (hn:rs.length<=1048576) (hm:MayW w) (hF:(Zet rs).1=0->Zar v w cy):
  Calls prog 10 #[v] w λe w'=>∃u,e = .returned u/\IsStrs w' u (if (Zet rs).1=0 then cy else [])/\Below w.heap.size w w':=by
 have mixed:prog.follows .mixedOrders=true:=by kernel_rfl
 have CB:=hid (Zeu v rs w hv hs hn hm);have hF':∀c x,Zet rs=(c,x)->c=0->Zar v w cy:=λc x h1 h2=>hF (by rw[h1];exact h2)
 obtain⟨⟨c,x⟩,hb⟩:∃p,Zet rs=p:=⟨_,rfl⟩;have HF:=hid (hF' c x hb);rw[hb]at CB⊢;simp only at CB⊢;clear hv hs hm hF hF' hb
 by_cases hc:c=0
 ·subst hc
  rw[if_pos rfl]
  go_enter func10,ntmps10
  go_wp2_with fail
  refine CB.out.mono ?_;rintro e w2 ⟨rfl,hb2⟩;have HB2:=hid hb2;clear hb2
  go_wp2_with fail
  refine(HF.out (by trivial) _ HB2.out).mono ?_;rintro e w3 ⟨u,rfl,hu,hb3⟩;have HU:=hid hu;have HB3:=hid (HB2.out.trans (hb3.mono HB2.out.size));clear hu hb3;go_wp2;go_ret;exact⟨_,rfl,HU.out,HB3.out⟩
 ·rw[if_neg hc]
  go_enter func10,ntmps10
  go_wp2_with (go_at_call 29;(with_reducible refine CB.out.mono ?_);rintro e w2 ⟨rfl,hb2⟩;have HB2:=hid hb2;clear hb2)
  go_ret;exact⟨_,rfl,⟨none,0,rfl,Nat.le_refl _,by decide,λh=>absurd rfl h⟩,HB2.out⟩
end Go.Proofs.YtcpjfpdecklkgaaGreatDoor
