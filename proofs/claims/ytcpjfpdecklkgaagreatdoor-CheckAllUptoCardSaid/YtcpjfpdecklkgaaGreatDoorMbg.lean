import Derived.Deep.RegionHeld3
import Derived.Test.YtcpjfpdecklkgaaGreatDoorMbf
namespace Go.Proofs.YtcpjfpdecklkgaaGreatDoor
open Go.Lib (hid)
open Go.Proofs.Tryz
open Go.RowKit Go.Shelf Go.Maps
def Zbdg (rs:List RuleS) (k:Nat):List ByteArray:=(rs[k]?.map (·.outs)).getD []
def Zta (rs:List RuleS) (k:Nat):List ByteArray:=(rs[k]?.map (·.ins)).getD []
def Zcs (rs:List RuleS) (k:Nat):List ByteArray:=(rs[k]?.map (·.after)).getD []
def Zbru (f:ByteArray->Option Nat) (ks:List ByteArray) (i:Nat):ByteArray->Option Nat:=ks.foldl (λf k=>updF f k i) f
def plcN (rs:List RuleS):Nat->ByteArray->Option Nat
 | 0=>λ_=>none
 | k+1=>updF (plcN rs k) (nmAt rs k) k
def mkrN (rs:List RuleS):Nat->ByteArray->Option Nat
 | 0=>λ_=>none
 | k+1=>Zbru (mkrN rs k) (Zbdg rs k) k
def Zban (rs:List RuleS) (k:Nat):List Nat:=srtN ((Zta rs k).filterMap (mkrN rs rs.length)++(Zcs rs k).filterMap (plcN rs rs.length))
theorem Zbrw {ks:List ByteArray} {j:Nat} {x:ByteArray} (f:ByteArray->Option Nat) (i:Nat) (h:ks[j]? =some x):Zbru f (ks.take (j+1)) i=updF (Zbru f (ks.take j) i) x i:=by
 unfold Zbru;rw[List.take_add_one,h,List.foldl_append];rfl
theorem Zbfm {k j:Nat} (h:k<=1000) (hj:j<=1048576):k*1048576+j<=4000000000000000:=by
 have h1:k*1048576<=1048576000:=Nat.mul_le_mul_right 1048576 h;generalize k*1048576=q at h1⊢;omega
theorem Zbfn (k:Nat) {j m:Nat} (h:m<=1048576) (hj:j<=m):k*1048576+j<=(k+1)*1048576:=by
 rw[Nat.succ_mul];exact Nat.add_le_add_left (Nat.le_trans hj h) _
theorem OwnInts.isInts {B:Nat} {w:World} {v:Value} {xs:List Nat} (h:OwnInts B w v xs):IsInts w v xs:=Zbdp h
theorem Zye (n:Nat) (hn:n<=1000000000) (w:World):(Instr.makeSlice 94 (.int .i64 (n:Int)) (.int .i64 (n:Int))).run prog w = .ok (.slice (some ⟨w.heap.size,0,none⟩) n n) (w.alloc (.cells (madeCells #[.slice none 0 0] n) 53)):=by
 obtain⟨i0,hi,hz,hs,hb⟩:=info_parts (show(prog.info? 53).map (λi=>(i.zero,i.size,i.bytes))=some (some (.slice none 0 0),1,24) by kernel_rfl);have:=run_make (P:=prog) w 94 53 i0 (.slice none 0 0) underlying94 hi hz .i64 .i64 n n (by omega) (Int.le_refl _) (by rw[hb];omega) (by omega);rw[hs,show(Value.slice none 0 0).cells = #[.slice none 0 0]from rfl]at this;simpa using this
theorem Zbiu {w:World} {r:RuleS} {a1 a2 a3 a4:Option Addr} {c1 c2 c3 c4:Nat} (hr:RuleI w [.string r.name,.slice a1 r.ins.length c1,.slice a2 r.outs.length c2,.slice a3 r.after.length c3,.slice a4 r.steps.length c4] r):IsStrs w (.slice a1 r.ins.length c1) r.ins:=by
 obtain⟨vi,vo,vf,vs,q,h1,h2,h3,h4⟩:=hr;simp only[List.cons.injEq,and_true,true_and]at q;obtain⟨rfl,rfl,rfl,rfl⟩:=q;exact h1
theorem Zbeb {B:Nat} {w:World} {v:Value} {n:Nat} {xs:List Value} {t:TypeId} (h:w.ownsRow B t 1 v n xs):∃a c,v = .slice a n c:=by
 rcases h.2 with⟨rfl,rfl⟩|⟨g,cap,cur,e,_⟩
 ·exact⟨_,_,rfl⟩
 ·exact⟨_,_,e⟩
theorem Zbdw {B:Nat} {w:World} {v:Value} {n:Nat} {xs:List Value} {t:TypeId} (h:w.ownsRow B t 1 v n xs):∀c,v = .slice none 0 c->c=0:=by
 rintro c rfl
 rcases h.2 with⟨e,_⟩|⟨g,cap,cur,e,_⟩
 ·exact(Value.slice.inj e).2.2
 ·cases e
def NeedsIs (w:World) (v:Value) (ns:List (List Nat)):Prop:=∃g,v = .slice (some ⟨g,0,none⟩) ns.length ns.length/\g<w.heap.size/\∀(k:Nat) x,ns[k]? =some x->∃u,w.cell? ⟨g,k,none⟩=some u/\IsInts w u x
set_option maxHeartbeats 8000000
set_option maxRecDepth 100000
theorem Zbau (v:Value) (rs:List RuleS) (w:World) (hv:RulesI w v rs) (hs:∀r∈rs,SmallR r 1048576) (hn:rs.length<=1000):
  Calls prog 60 #[v] w λe w'=>∃u,e = .returned u/\NeedsIs w' u ((List.range rs.length).map (Zban rs))/\Below w.heap.size w w':=by
 have mixed:prog.follows .mixedOrders=true:=by kernel_rfl
 have hmm:=@run_makeMap prog;have hmk:=Zye rs.length (by omega);obtain⟨va,vc,rfl,hvl,hvm⟩:=Zbjn hv;obtain⟨n,hnn⟩:∃n,w.heap.size=n:=⟨_,rfl⟩;obtain⟨W2,hW2⟩:∃W,(w.alloc (.map #[] 0)).alloc (.map #[] 0)=W:=⟨_,rfl⟩;have hb2:Below n w W2:=by rw[<-hW2,<-hnn];exact((Below.refl _ _).alloc (Nat.le_refl _) _).alloc (by simp) _
 have hs2:W2.heap.size=n+2:=by rw[<-hW2];simp[hnn]
 have hp2:PlcIs W2 n 0 (plcN rs 0):=by
  have:=Zbfc w;rw[hnn]at this;rw[<-hW2];exact this.heap (Below.heap_alloc _ _ _ (by simp[hnn]))
 have hm2:PlcIs W2 (n+1) 0 (mkrN rs 0):=by
  have:=Zbfc (w.alloc (.map #[] 0));rw[World.size_alloc,hnn]at this;rw[<-hW2];exact this
 have HV:=hid hv;have HS:=hid hs;have HNN:=hid hnn;have HW2:=hid hW2;have HB2:=hid hb2;have HS2:=hid hs2;have HP2:=hid hp2;have HM2:=hid hm2;unfold maxLen at hvm;rw[hnn];clear hv hs hW2 hb2 hs2 hp2 hm2
 go_enter func60,ntmps60
 go_wp2_with fail
 rw[HW2.out]
 go_loopw [5,6,8,16,17,18,19,20,21,22,23,24,25,26,27,28,29,30,31,32,33,34,35,36] (λ_ _ _ iv _ _ _ _ _ _ _ _ _ _ _ _ _ _ _ _ _ _ _ _ wr=>∃k:Nat,k<=rs.length/\iv = .int .i64 (k:Int)/\PlcIs wr n k (plcN rs k)/\PlcIs wr (n+1) (k*1048576) (mkrN rs k)/\Below n w wr/\n+2<=wr.heap.size) (λ_ _ _ iv _ _ _ _ _ _ _ _ _ _ _ _ _ _ _ _ _ _ _ _ _=>rs.length-(intOf iv).toNat)
 case atStart=>exact⟨0,Nat.zero_le _,rfl,HP2.out,by simpa using HM2.out,HB2.out,by rw[HS2.out];omega⟩
 case round=>
  obtain⟨k,hk,rfl,hp,hm,hb,hz⟩:=hrel
  by_cases hlt:k<rs.length
  ·obtain⟨y,hy⟩:∃y,rs[k]? =some y:=⟨rs[k],List.getElem?_eq_getElem hlt⟩
   have hbw:Below w.heap.size w wr:=by rw[HNN.out];exact hb
   obtain⟨g,o,cap,a1,c1,a2,c2,a3,c3,a4,c4,e,hg,hri,hyc⟩:=Zbjm HV.out hy;obtain⟨e1,_,e3⟩:=Value.slice.inj e;subst e1 e3;obtain⟨e0,e1,e2,e3,e4⟩:=hyc wr hbw;have hi1:(k:Int)<(rs.length:Int):=by omega
   have hi0:(0:Int)<=(k:Int):=by omega
   have hsy:=HS.out y (List.mem_of_getElem? hy);have hnm:y.name.size<=maxLen:=by have:=hsy.name;unfold maxLen;omega
   have hnx:plcN rs (k+1)=updF (plcN rs k) y.name k:=by rw[plcN];unfold nmAt;rw[hy];rfl
   have hnm2:mkrN rs (k+1)=Zbru (mkrN rs k) y.outs k:=by rw[mkrN];unfold Zbdg;rw[hy];rfl
   have hpa:PlcIs (wr.alloc (.cells #[.string y.name,.slice a1 y.ins.length c1,.slice a2 y.outs.length c2,.slice a3 y.after.length c3,.slice a4 y.steps.length c4] 37)) n k (plcN rs k):=hp.heap (Below.heap_alloc _ _ _ (by omega));obtain⟨w3,hput,hp3,ht3⟩:=hpa.put underlying137 (by omega) y.name hnm k;rw[<-hnx]at hp3;have hg3:=ht3.grown;have hsz3:w3.heap.size=wr.heap.size+1:=by obtain⟨_,_,_,_,_,e⟩:=ht3;rw[e];show((wr.alloc _).heap.setIfInBounds n _).size=_;rw[Array.size_setIfInBounds,World.size_alloc]
   have hm3:PlcIs w3 (n+1) (k*1048576) (mkrN rs k):=hm.heap ((hg3.block _ (by rw[World.size_alloc];omega) (λe=>by have:=Option.some.inj e;omega)).trans (Below.heap_alloc _ _ _ (by omega)));have hb3:Below n w w3:=(hb.alloc (by omega) _).grown hg3 (by rw[World.size_alloc];omega) (λj e=>by cases e;omega);have hx3:w3.heap[wr.heap.size]? =some (.cells #[.string y.name,.slice a1 y.ins.length c1,.slice a2 y.outs.length c2,.slice a3 y.after.length c3,.slice a4 y.steps.length c4] 37):=(hg3.block _ (by rw[World.size_alloc];omega) (λe=>by have:=Option.some.inj e;omega)).trans (alloc_at wr _);obtain⟨d0,d1,d2,d3,d4,_⟩:=cells5 hx3;obtain⟨oa,oc,eo,hol,hom,hocc⟩:=Zua (Zbiv hri);obtain⟨eo1,_,eo3⟩:=Value.slice.inj eo;subst eo1 eo3;have HOC:Hid (∀(j:Nat) x,y.outs[j]? =some x->∃b' o',a2=some ⟨b',o',none⟩/\∀w',Below n w w'->w'.cell? ⟨b',o'+j,none⟩=some (.string x)):=by
    show ∀(j:Nat) x,_;intro j x hx;obtain⟨b',o',e,hc⟩:=hocc j x hx;exact⟨b',o',e,λw' hw=>hc w' (by rw[HNN.out];exact hw)⟩
   have HOS:=hid (Zblx hsy.outs);have hol1:=hsy.outs.1;unfold maxLen at hom;have HP3:=hid hp3;have HM3:=hid hm3;have HB3:=hid hb3;have HSZ3:=hid hsz3;have HNM2:=hid hnm2;have HZ:=hid hz;clear hp hm hb hz hbw hri hyc hg hsy hnx hnm2 hpa hp3 ht3 hg3 hsz3 hm3 hb3 hx3 hocc hy eo e;go_wp2
   go_loopw [8,28,29,30,31,32,33,34,35] (λ_ jv _ _ _ _ _ _ _ wq=>∃j:Nat,j<=y.outs.length/\jv = .int .i64 (j:Int)/\PlcIs wq n (k+1) (plcN rs (k+1))/\PlcIs wq (n+1) (k*1048576+j) (Zbru (mkrN rs k) (y.outs.take j) k)/\Below n w wq/\n+2<=wq.heap.size) (λ_ jv _ _ _ _ _ _ _ _=>y.outs.length-(intOf jv).toNat)
   case atStart=>exact⟨0,Nat.zero_le _,rfl,HP3.out,by simpa[Zbru]using HM3.out,HB3.out,by rw[HSZ3.out];have:=HZ.out;omega⟩
   case round=>
    obtain⟨j,hj,rfl,hp,hm,hb,hz⟩:=hrel
    by_cases hlt2:j<y.outs.length
    ·obtain⟨x,hx⟩:∃x,y.outs[j]? =some x:=⟨y.outs[j],List.getElem?_eq_getElem hlt2⟩
     obtain⟨b',o',q1,hc⟩:=HOC.out j x hx;subst q1;have cx:=hc _ hb;have hj1:(j:Int)<(y.outs.length:Int):=by omega
     have hj0:(0:Int)<=(j:Int):=by omega
     obtain⟨w4,hput4,hm4,ht4⟩:=hm.put underlying137 (Zbfm (by omega) (by omega)) x (HOS.out x (List.mem_of_getElem? hx)) k;rw[<-Zbrw _ _ hx]at hm4;have hg4:=ht4.grown;have HM4:=hid hm4;have HP4:=hid (hp.heap (hg4.block _ (by omega) (λe=>by have:=Option.some.inj e;omega)));have HB4:=hid (hb.grown hg4 (by omega) (λj e=>by cases e;omega));have HZ4:Hid (n+2<=w4.heap.size):=hid (by have:=hg4.size;omega);clear hp hm hb hz hc hx hm4 ht4 hg4 hput;go_wp2;go_roundw
     case rel=>exact⟨j+1,by omega,by go_num,HP4.out,by have:=HM4.out;rwa [Nat.add_assoc]at this,HB4.out,HZ4.out⟩
     case measure=>simp[intOf];omega
    ·have hj1:¬(j:Int)<(y.outs.length:Int):=by omega
     have HM5:Hid (PlcIs _ (n+1) (k*1048576+j) (mkrN rs (k+1))):=hid (by rw[List.take_of_length_le (by omega),<-HNM2.out]at hm;exact hm);have HP5:=hid hp;have HB5:=hid hb;have HZ5:=hid hz;clear hp hm hb hz hput;go_wp2;go_roundw
     case rel=>exact⟨k+1,by omega,by go_num,HP5.out,HM5.out.more (Zbfn k hol1 hj),HB5.out,HZ5.out⟩
     case measure=>simp[intOf];omega
  ·have hi1:¬(k:Int)<(rs.length:Int):=by omega
   obtain rfl:k=rs.length:=by omega
   have HP:=hid hp;have HM:=hid hm;have HB:=hid hb;have HZ:=hid hz;clear hp hm hb hz;obtain⟨g,hgs⟩:∃g,wr.heap.size=g:=⟨_,rfl⟩;obtain⟨W5,hW5⟩:∃W,wr.alloc (.cells (madeCells #[.slice none 0 0] rs.length) 53)=W:=⟨_,rfl⟩;have hr5:ValRw 53 W5 g (List.replicate rs.length (.slice none 0 0)):=by rw[<-hW5,<-hgs];exact Zbsd _ _ _ _
   have hs5:W5.heap.size=g+1:=by rw[<-hW5,World.size_alloc,hgs]
   have hb5:Below g wr W5:=by rw[<-hW5,<-hgs];exact(Below.refl _ _).alloc (Nat.le_refl _) _
   have hz:=HZ.out;have HP5:Hid (PlcIs W5 n rs.length (plcN rs rs.length)):=hid (HP.out.heap (hb5.block _ (by omega)));have HM5:Hid (PlcIs W5 (n+1) (rs.length*1048576) (mkrN rs rs.length)):=hid (HM.out.heap (hb5.block _ (by omega)));have HB5:Hid (Below n w W5):=hid (HB.out.trans (hb5.mono (by omega)));have HR5:=hid hr5;have HS5:=hid hs5;have HW5:=hid hW5;have HG:Hid (n+2<=g):=hid (by omega);have HGS:=hid hgs;clear hr5 hs5 hb5 hW5 hz
   go_wp2_with fail
   rw[HW5.out]
   go_loopw [10,11,42,43,44,45,46,47,48,49,50,51,52,53,54,55,56,57,58,59,60,61,62,63,64,65] (λ_ _ iv _ _ _ _ _ _ _ _ _ _ _ _ _ _ _ _ _ _ _ _ _ _ _ wr=>∃(k:Nat) (vs:List Value),k<=rs.length/\iv = .int .i64 (k:Int)/\vs.length=k/\ValRw 53 wr g (vs++List.replicate (rs.length-k) (Value.slice none 0 0))/\(∀(j:Nat) u,vs[j]? =some u->OwnInts (g+1) wr u (Zban rs j))/\PlcIs wr n rs.length (plcN rs rs.length)/\PlcIs wr (n+1) (rs.length*1048576) (mkrN rs rs.length)/\Below n w wr/\g+1<=wr.heap.size) (λ_ _ iv _ _ _ _ _ _ _ _ _ _ _ _ _ _ _ _ _ _ _ _ _ _ _ _=>rs.length-(intOf iv).toNat)
   case atStart=>exact⟨0,[],Nat.zero_le _,rfl,rfl,by simpa using HR5.out,λj u h=>by simp at h,HP5.out,HM5.out,HB5.out,by rw[HS5.out];exact Nat.le_refl _⟩
   case round=>
    obtain⟨k,vs,hk,rfl,hvl,hr,hvs,hp,hm,hb,hz⟩:=hrel
    by_cases hlt:k<rs.length
    ·obtain⟨y,hy⟩:∃y,rs[k]? =some y:=⟨rs[k],List.getElem?_eq_getElem hlt⟩
     have hbw:Below w.heap.size w wr:=by rw[HNN.out];exact hb
     obtain⟨g',o,cap,a1,c1,a2,c2,a3,c3,a4,c4,e,hg,hri,hyc⟩:=Zbjm HV.out hy;obtain⟨e1,_,e3⟩:=Value.slice.inj e;subst e1 e3;obtain⟨e0,e1,e2,e3,e4⟩:=hyc wr hbw;have hi1:(k:Int)<(rs.length:Int):=by omega
     have hi0:(0:Int)<=(k:Int):=by omega
     have HR:=hid hr;have HVS:=hid hvs;have HP:=hid hp;have HM:=hid hm;have HB:=hid hb;have HZ:=hid hz;have HRI:=hid hri;have HY:=hid hy;have HVL:=hid hvl;have hsy:=HS.out y (List.mem_of_getElem? hy);obtain⟨I,hI⟩:∃I,y.ins.filterMap (mkrN rs rs.length)=I:=⟨_,rfl⟩;obtain⟨A,hA⟩:∃A,y.after.filterMap (plcN rs rs.length)=A:=⟨_,rfl⟩;have hIl:I.length<=1048576:=by rw[<-hI];exact Nat.le_trans (List.length_filterMap_le _ _) hsy.ins.1
     have hAl:A.length<=1048576:=by rw[<-hA];exact Nat.le_trans (List.length_filterMap_le _ _) hsy.after.1
     have HNE:Hid (Zban rs k=srtN (I++A)):=hid (by unfold Zban Zta Zcs;rw[hy];show srtN (y.ins.filterMap _++y.after.filterMap _)=_;rw[hI,hA]);obtain⟨bs,hbs⟩:∃bs,wr.heap.size=bs:=⟨_,rfl⟩;obtain⟨WB,hWB⟩:∃W,wr.alloc (.cells #[.string y.name,.slice a1 y.ins.length c1,.slice a2 y.outs.length c2,.slice a3 y.after.length c3,.slice a4 y.steps.length c4] 37)=W:=⟨_,rfl⟩;have hb1:Below bs wr WB:=by rw[<-hWB,<-hbs];exact(Below.refl _ _).alloc (Nat.le_refl _) _
     have hsB:WB.heap.size=bs+1:=by rw[<-hWB,World.size_alloc,hbs]
     have hxB:WB.heap[bs]? =some (.cells #[.string y.name,.slice a1 y.ins.length c1,.slice a2 y.outs.length c2,.slice a3 y.after.length c3,.slice a4 y.steps.length c4] 37):=by rw[<-hWB,<-hbs];exact alloc_at wr _
     have hbB:Below n w WB:=hb.trans (hb1.mono (by have:=HG.out;omega));have hgz:=HG.out;have CF1:Hid (∀W,Below WB.heap.size WB W->Calls prog 106 #[.map (some (n+1)),.slice a1 y.ins.length c1] W (Zax W I)):=by
      show ∀W,_;intro W hW;rw[<-hI];exact Zpt (n+1) _ _ _ y.ins W (hm.heap ((hW.block _ (by omega)).trans (hb1.block _ (by omega)))) ((Zbiu hri).below (by rw[HNN.out];exact hbB.trans (hW.mono (by omega)))) hsy.ins.1 (Zblx hsy.ins)
     have CF2:Hid (∀W,Below WB.heap.size WB W->Calls prog 106 #[.map (some n),.slice a3 y.after.length c3] W (Zax W A)):=by
      show ∀W,_;intro W hW;rw[<-hA];exact Zpt n _ _ _ y.after W (hp.heap ((hW.block _ (by omega)).trans (hb1.block _ (by omega)))) ((Zbis hri).below (by rw[HNN.out];exact hbB.trans (hW.mono (by omega)))) hsy.after.1 (Zblx hsy.after)
     have HRW:Hid (∀W,Below WB.heap.size WB W->W.cell? ⟨g,k,none⟩=some (.slice none 0 0)/\W.frozen? ⟨g,k,none⟩=false):=by
      show ∀W,_;intro W hW;exact ValRw.cell (w:=W) (show ValRw _ W g _ from(hW.block _ (by omega)).trans ((hb1.block _ (by omega)).trans hr)) (by rw[List.getElem?_append_right (by omega),hvl,Nat.sub_self,List.getElem?_replicate,if_pos (by omega)])
     have HVR:Hid (∀W,Below WB.heap.size WB W->ValRw 53 W g (vs++List.replicate (rs.length-k) (Value.slice none 0 0))/\(∀(j:Nat) u,vs[j]? =some u->OwnInts (g+1) W u (Zban rs j))/\PlcIs W n rs.length (plcN rs rs.length)/\PlcIs W (n+1) (rs.length*1048576) (mkrN rs rs.length)):=by
      show ∀W,_;intro W hW;have hk:∀i,i<bs->W.heap[i]? =wr.heap[i]?:=λi hi=>(hW.block _ (by omega)).trans (hb1.block _ hi)
      have hWs:=hW.size;exact⟨(hk _ (by omega)).trans hr,λj u hu=>World.ownsRow.kept (row:=none) (hvs j u hu) ⟨hW.os.trans hb1.os,hW.tape.trans hb1.tape,hW.output.trans hb1.output,by omega,λi hi _=>hk i (by omega)⟩ (by cases Value.ownBlock _<;>simp),hp.heap (hk _ (by omega)),hm.heap (hk _ (by omega))⟩
     have HCS:Hid (∀W:World,W.heap[bs]? =some (.cells #[.string y.name,.slice a1 y.ins.length c1,.slice a2 y.outs.length c2,.slice a3 y.after.length c3,.slice a4 y.steps.length c4] 37)->W.cell? ⟨bs,0,none⟩=some (.string y.name)/\W.cell? ⟨bs,1,none⟩=some (.slice a1 y.ins.length c1)/\W.cell? ⟨bs,2,none⟩=some (.slice a2 y.outs.length c2)/\W.cell? ⟨bs,3,none⟩=some (.slice a3 y.after.length c3)/\W.cell? ⟨bs,4,none⟩=some (.slice a4 y.steps.length c4)):=by
      show ∀W:World,_;intro W hW;obtain⟨q0,q1,q2,q3,q4,_⟩:=cells5 hW;exact⟨q0,q1,q2,q3,q4⟩
     have HB1:=hid hb1;have HSB:=hid hsB;have HXB:=hid hxB;have HBB:=hid hbB;have HWB:=hid hWB;have HBS:=hid hbs;have CC:Hid (∀W v3 v4,Below WB.heap.size WB W->W.ownsRow WB.heap.size 3 1 v3 I.length (I.map intV)->W.ownsRow WB.heap.size 3 1 v4 A.length (A.map intV)->Calls prog 105 #[.slice (some ⟨W.heap.size,0,none⟩) 2 2] (W.alloc (.cells #[v3,v4] 53)) λe w'=>∃v,e = .returned v/\w'.ownsRow WB.heap.size 3 1 v (I++A).length ((I++A).map intV)/\Below WB.heap.size WB w'):=by
      show ∀W v3 v4,_;intro W v3 v4 hW h3 h4;have hbl:Below W.heap.size W (W.alloc (.cells #[v3,v4] 53)):=(Below.refl _ _).alloc (Nat.le_refl _) _;have hc:∀(i:Nat) u,#[v3,v4][i]? =some u->(W.alloc (.cells #[v3,v4] 53)).cell? ⟨W.heap.size,i,none⟩=some u:=by
       intro i u hu;simp only[World.cell?,alloc_at,Option.isSome_none,Bool.false_eq_true,if_false];exact hu
      have:=Zkl W.heap.size [I,A] 2 (W.alloc (.cells #[v3,v4] 53)) (by simp) (by simp) (by decide) (by rw[World.size_alloc];omega) (λj x hx=>by
       match j,hx with
       | 0,hx=>
             obtain rfl:I=x:=by simpa using hx
             exact⟨v3,hc 0 _ rfl,(Zbdp h3).below hbl,Zbdw h3⟩
       | 1,hx=>
             obtain rfl:A=x:=by simpa using hx
             exact⟨v4,hc 1 _ rfl,(Zbdp h4).below hbl,Zbdw h4⟩) (by simp;omega)
      simp only[List.flatten_cons,List.flatten_nil,List.append_nil]at this;refine this.mono ?_;rintro e w' ⟨v,rfl,ho,hb'⟩;have hWs:=hW.size;exact⟨v,rfl,Zbdt ho (by rw[World.size_alloc];omega),hW.trans ((hbl.trans (hb'.mono (by rw[World.size_alloc];omega))).mono hWs)⟩
     have hsy:True:=trivial;clear hr hvs hp hm hb hz hri hyc hg hy hbw e hsy hI hA hb1 hsB hxB hbB hWB hbs hgz hvl
     go_wp2_with fail
     rw[HWB.out,HBS.out];refine wp_region_held_drew (S:=(λW=>W.cell? ⟨bs,0,none⟩=some (.string y.name)/\W.cell? ⟨bs,1,none⟩=some (.slice a1 y.ins.length c1)/\W.cell? ⟨bs,2,none⟩=some (.slice a2 y.outs.length c2)/\W.cell? ⟨bs,3,none⟩=some (.slice a3 y.after.length c3)/\W.cell? ⟨bs,4,none⟩=some (.slice a4 y.steps.length c4))) (by kernel_rfl) ?_ (λhHeld=>?_)
     ·exact HCS.out _ HXB.out
     refine tkH 0 (v:=?_) ?_ ?_;rotate_left
     ·intro w hSw;obtain⟨q0,q1,q2,q3,q4⟩:=hSw;go_simp;try with_reducible rfl
     try simp only[Act.put,List.setIfInBounds_toArray,List.set_cons_zero,List.set_cons_succ]
     refine tkH 1 (v:=?_) ?_ ?_;rotate_left
     ·intro w hSw;obtain⟨q0,q1,q2,q3,q4⟩:=hSw;go_simp;try with_reducible rfl
     try simp only[Act.put,List.setIfInBounds_toArray,List.set_cons_zero,List.set_cons_succ]
     refine tkH 2 (v:=?_) ?_ ?_;rotate_left
     ·intro w hSw;obtain⟨q0,q1,q2,q3,q4⟩:=hSw;go_simp;try with_reducible rfl
     try simp only[Act.put,List.setIfInBounds_toArray,List.set_cons_zero,List.set_cons_succ]
     refine tkH 3 (v:=?_) ?_ ?_;rotate_left
     ·intro w hSw;obtain⟨q0,q1,q2,q3,q4⟩:=hSw;go_simp;try with_reducible rfl
     try simp only[Act.put,List.setIfInBounds_toArray,List.set_cons_zero,List.set_cons_succ]
     refine tkH 4 (v:=?_) ?_ ?_;rotate_left
     ·intro w hSw;obtain⟨q0,q1,q2,q3,q4⟩:=hSw;go_simp;try with_reducible rfl
     try simp only[Act.put,List.setIfInBounds_toArray,List.set_cons_zero,List.set_cons_succ]
     refine tkH 6 (v:=?_) ?_ ?_;rotate_left
     ·intro w hSw;obtain⟨q0,q1,q2,q3,q4⟩:=hSw;go_simp;try with_reducible rfl
     try simp only[Act.put,List.setIfInBounds_toArray,List.set_cons_zero,List.set_cons_succ]
     refine tkH 7 (v:=?_) ?_ ?_;rotate_left
     ·intro w hSw;obtain⟨q0,q1,q2,q3,q4⟩:=hSw;go_simp;try with_reducible rfl
     try simp only[Act.put,List.setIfInBounds_toArray,List.set_cons_zero,List.set_cons_succ]
     refine tkH 8 (v:=?_) ?_ ?_;rotate_left
     ·intro w hSw;obtain⟨q0,q1,q2,q3,q4⟩:=hSw;go_simp;try with_reducible rfl
     try simp only[Act.put,List.setIfInBounds_toArray,List.set_cons_zero,List.set_cons_succ]
     refine rdH [5] ?_;refine rcH (λK hK=>?_) ?_
     ·go_simp;refine(CF1.out _ (below_drewN (Below.refl _ _) 1)).mono ?_;rintro e w3 ⟨v3,rfl,hown3,hb3⟩;obtain⟨p3,k3,rfl⟩:=Zbeb hown3;have HO3:=hid (show w3.ownsRow WB.heap.size _ 1 _ _ _ from hown3);have HB3:=hid ((below_drewN (Below.refl WB.heap.size WB) 1).trans hb3);clear hown3 hb3;dsimp only
      refine hK.out _ _ ?_ (λhHeld=>?_)
      ·try dsimp only
       exact HCS.out _ ((HB3.out.block _ (by have:=HSB.out;omega)).trans HXB.out)
      clear hK K
      try simp only[Act.put,List.setIfInBounds_toArray,List.set_cons_zero,List.set_cons_succ]
      refine rdH [9] ?_;refine rcH (λK hK=>?_) ?_
      ·go_simp;refine(CF2.out _ HB3.out).mono ?_;rintro e w4 ⟨v4,rfl,hown4,hb4⟩;obtain⟨p4,k4,rfl⟩:=Zbeb hown4;have HO4:=hid (Zbdt hown4 HB3.out.size);have HO3:=hid (World.ownsRow.kept (row:=none) HO3.out ⟨hb4.os,hb4.tape,hb4.output,hb4.size,λk hk _=>hb4.block k hk⟩ (by cases Value.ownBlock _<;>simp));have HB4:=hid (HB3.out.trans (hb4.mono HB3.out.size));clear hown4 hb4;dsimp only
       refine hK.out _ _ ?_ (λhHeld=>?_)
       ·try dsimp only
        exact HCS.out _ ((HB4.out.block _ (by have:=HSB.out;omega)).trans HXB.out)
       clear hK K
       try simp only[Act.put,List.setIfInBounds_toArray,List.set_cons_zero,List.set_cons_succ]
       refine rdH [10] ?_;refine rcH (λK hK=>?_) ?_
       ·go_simp
        refine hK.out _ _ ?_ (λhHeld=>?_)
        ·try dsimp only
         exact HCS.out _ ((Below.heap_alloc _ _ _ (by have:=HB4.out.size;have:=HSB.out;omega)).trans ((HB4.out.block _ (by have:=HSB.out;omega)).trans HXB.out))
        clear hK K
        try simp only[Act.put,List.setIfInBounds_toArray,List.set_cons_zero,List.set_cons_succ]
        refine rdH [11] ?_;refine rcH (λK hK=>?_) ?_
        ·go_simp;refine(CC.out _ _ _ HB4.out HO3.out HO4.out).mono ?_;rintro e w6 ⟨v6,rfl,hown6,hb6⟩;obtain⟨p6,k6,rfl⟩:=Zbeb hown6;have HO6:=hid hown6;have HB6:=hid hb6;clear hown6 hb6;dsimp only
         refine hK.out _ _ ?_ (λhHeld=>?_)
         ·try dsimp only
          exact HCS.out _ ((HB6.out.block _ (by have:=HSB.out;omega)).trans HXB.out)
         clear hK K
         try simp only[Act.put,List.setIfInBounds_toArray,List.set_cons_zero,List.set_cons_succ]
         refine tkH 12 (v:=?_) ?_ ?_;rotate_left
         ·intro w hSw;obtain⟨q0,q1,q2,q3,q4⟩:=hSw;go_simp;try with_reducible rfl
         try simp only[Act.put,List.setIfInBounds_toArray,List.set_cons_zero,List.set_cons_succ]
         refine rdH [13] ?_;refine rcH (λK hK=>?_) ?_
         ·obtain⟨f1,f2⟩:=HRW.out w6 HB6.out;go_simp
          refine hK.out _ _ ?_ (λhHeld=>?_)
          ·try dsimp only
           exact HCS.out _ ((Below.heap_setCell _ _ _ _ (by show bs≠g;have:=HZ.out;have:=HBS.out;omega)).trans ((HB6.out.block _ (by have:=HSB.out;omega)).trans HXB.out))
          clear hK K
          try simp only[Act.put,List.setIfInBounds_toArray,List.set_cons_zero,List.set_cons_succ]
          refine wpAnyH_done (by kernel_rfl) ?_ _;obtain⟨hr6,hvs6,hp6,hm6⟩:=HVR.out w6 HB6.out;have hz:=HZ.out;have hbs:=HBS.out;have hsB:=HSB.out;have hg:=HG.out;have hs6:=HB6.out.size;obtain⟨w7,hw7⟩:∃w7,w6.setCell ⟨g,k,none⟩ (.slice p6 (I++A).length k6)=w7:=⟨_,rfl⟩;have hr7:=hr6.set k (.slice p6 (I++A).length k6);have hset:(vs++List.replicate (rs.length-k) (Value.slice none 0 0)).set k (.slice p6 (I++A).length k6)=vs ++ [.slice p6 (I++A).length k6]++List.replicate (rs.length-(k+1)) (Value.slice none 0 0):=by
           have e:rs.length-k=(rs.length-(k+1))+1:=by omega
           rw[List.set_append_right _ _ (by have:=HVL.out;omega),HVL.out,Nat.sub_self,e,List.replicate_succ,List.set_cons_zero,List.append_assoc];rfl
          have hg7:w6.grownBy w7 (some g):=by rw[<-hw7];exact⟨rfl,rfl,rfl,by simp[World.setCell],λi hi hne=>Below.heap_setCell _ _ _ _ (λe=>hne (by rw[e]))⟩
          rw[hset,hw7]at hr7;have ho7:OwnInts (bs+1) w7 (.slice p6 (I++A).length k6) (I++A):=World.ownsRow.kept (by have:=HO6.out;rwa [hsB]at this) hg7 (.inr (row_ne_low HO6.out (by omega)).symm);have hvs7:∀(j:Nat) u,vs[j]? =some u->OwnInts (g+1) w7 u (Zban rs j):=λj u hu=>World.ownsRow.kept (hvs6 j u hu) hg7 (.inr (row_ne_low (hvs6 j u hu) (Nat.lt_succ_self g)).symm)
          have hp7:=hp6.heap (hg7.block _ (by omega) (λe=>by have:=Option.some.inj e;omega));have hm7:=hm6.heap (hg7.block _ (by omega) (λe=>by have:=Option.some.inj e;omega));have hb7:Below n w w7:=(HBB.out.trans (HB6.out.mono (by omega))).grown hg7 (by omega) (λj e=>by cases e;omega);have hs7:=hg7.size;obtain⟨f1,f2⟩:=hr7.cell (k:=k) (m:= .slice p6 (I++A).length k6) (by rw[List.getElem?_append_left (by rw[List.length_append,HVL.out];simp),List.getElem?_append_right (by rw[HVL.out];exact Nat.le_refl _),HVL.out,Nat.sub_self];rfl);have CSO:Hid (Calls prog 107 #[.slice p6 (I++A).length k6] w7 λe w8=>e = .returned (.tuple #[])/\∃row,w7.grownBy w8 row/\(∀j,row=some j->bs+1<=j)/\OwnInts (g+1) w8 (.slice p6 (I++A).length k6) (srtN (I++A))):=by
           show Calls _ _ _ _ _
           rcases id ho7.2 with⟨e,h0⟩|⟨g6,cap,cur,e,_⟩
           ·obtain⟨e1,_,e3⟩:=Value.slice.inj e
            have hnil:I++A = []:=List.eq_nil_of_length_eq_zero h0;rw[hnil]at ho7⊢;refine(Zbmf p6 k6 w7).mono ?_;rintro e w' ⟨rfl,rfl⟩;refine⟨rfl,none,Zrh _ _,(λj h=>by cases h),?_⟩;rw[show srtN [] = [] by simp[srtN]];exact Zbdt ho7 (by omega)
           ·obtain⟨e1,_,e3⟩:=Value.slice.inj e
            subst e1 e3;refine(Zbme (bs+1) g6 k6 (I++A) w7 ho7 (by rw[List.length_append];omega)).mono ?_;rintro e w' ⟨rfl,ho8,hg8⟩;have hg6:=(World.ownsRow.lt ho7 g6 rfl).1;exact⟨rfl,some g6,hg8,(λj h=>by cases h;exact hg6),Zbdt (by unfold OwnInts at ho8;rw[Zbnf]at ho8;show World.ownsRow _ _ _ _ _ _ _;rw[Zbnf];exact ho8) (by omega)⟩
          have HK7:Hid (∀w8 row,w7.grownBy w8 row->(∀j,row=some j->bs+1<=j)->OwnInts (g+1) w8 (.slice p6 (I++A).length k6) (srtN (I++A))->∃vs':List Value,vs'.length=k+1/\ValRw 53 w8 g (vs'++List.replicate (rs.length-(k+1)) (Value.slice none 0 0))/\(∀(j:Nat) u,vs'[j]? =some u->OwnInts (g+1) w8 u (Zban rs j))/\PlcIs w8 n rs.length (plcN rs rs.length)/\PlcIs w8 (n+1) (rs.length*1048576) (mkrN rs rs.length)/\Below n w w8/\g+1<=w8.heap.size):=by
           show ∀w8 row,_;intro w8 row hg8 hrow ho8;have hb:∀i,i<bs->w8.heap[i]? =w7.heap[i]?:=λi hi=>hg8.block i (by omega) (λe=>by have:=hrow i e.symm;omega)
           refine⟨vs ++ [.slice p6 (I++A).length k6],by rw[List.length_append,HVL.out];rfl,(by have h:=hb g (by omega);unfold ValRw at hr7⊢;rw[h];exact hr7),λj u hu=>?_,hp7.heap (hb _ (by omega)),hm7.heap (hb _ (by omega)),hb7.grown hg8 (by omega) (λj e=>by have:=hrow j e;omega),by have:=hg8.size;omega⟩
           by_cases hj:j<vs.length
           ·rw[List.getElem?_append_left hj]at hu
            refine World.ownsRow.kept (hvs7 j u hu) hg8 ?_
            cases hob:u.ownBlock with
            | none=>exact .inl rfl
            | some b=>
              right;intro e;have h1:=((HVS.out j u hu).lt b hob).2;have h2:=hrow b e.symm;omega
           ·rw[List.getElem?_append_right (by omega)]at hu
            have hjk:j=k:=by
              have h1:j-vs.length<1:=(List.getElem?_eq_some_iff.1 hu).1;have:=HVL.out;omega
            subst hjk;rw[HVL.out,Nat.sub_self]at hu;obtain rfl:Value.slice p6 (I++A).length k6=u:=by simpa using hu
            rw[HNE.out];exact ho8
          rw[<-List.length_append,hw7];obtain⟨m,hmm'⟩:∃m,(I++A).length=m:=⟨_,rfl⟩;rw[hmm']at CSO HK7 f1⊢;clear hr6 hvs6 hp6 hm6 hz hbs hsB hg hs6 hw7 hr7 hset hg7 ho7 hvs7 hp7 hm7 hb7 hs7
          go_wp2_with (go_at_call 107;(with_reducible refine CSO.out.mono ?_);rintro e w8 ⟨rfl,row,hg8,hrow,ho8⟩;have HFIN:=hid (HK7.out w8 row hg8 hrow ho8);clear hg8 hrow ho8)
          go_roundw
          case rel=>
           obtain⟨vs',r1,r2,r3,r4,r5,r6,r7⟩:=HFIN.out;exact⟨k+1,vs',by omega,by go_num,r1,r2,r3,r4,r5,r6,r7⟩
          case measure=>simp[intOf];omega
         exact AllReadyH.nil
        exact AllReadyH.nil
       exact AllReadyH.nil
      exact AllReadyH.nil
     exact AllReadyH.nil
    ·have hi1:¬(k:Int)<(rs.length:Int):=by omega
     have hk':k=rs.length:=by omega
     rw[hk',Nat.sub_self,List.replicate_zero,List.append_nil]at hr;have HF:Hid (NeedsIs wr (.slice (some ⟨g,0,none⟩) rs.length rs.length) ((List.range rs.length).map (Zban rs))):=by
      refine⟨g,by simp,(Array.getElem?_eq_some_iff.1 hr).1,λj x hx=>?_⟩;have hj:j<rs.length:=by have:=(List.getElem?_eq_some_iff.1 hx).1;simpa using this
      obtain⟨u,hu⟩:∃u,vs[j]? =some u:=⟨vs[j]'(by omega),List.getElem?_eq_getElem _⟩;rw[List.getElem?_map,List.getElem?_range hj]at hx;obtain rfl:Zban rs j=x:=by simpa using hx
      exact⟨u,(hr.cell hu).1,(hvs j u hu).isInts⟩
     have HB:=hid hb;clear hvl hr hvs hp hm hb hz hk';go_wp2;go_ret;exact⟨_,rfl,HF.out,HB.out⟩
def Zbax (s:Nat) (way:List Nat):List Nat->List (List Nat)->List Bool->Option (List (List Nat)×List Bool)
 | [],q,r=>some (q,r)
 | x::xs,q,r=>if x=s then none else if r[x]? =some true then Zbax s way xs q r else Zbax s way xs (q ++ [way ++ [x]]) (r.set x true)
def bfsF (s:Nat) (nd:Nat->List Nat):Nat->List (List Nat)->List Bool->List Nat
 | 0,_,_=>[]
 | _+1,[],_=>[]
 | n+1,w::q,r=>match Zbax s w (nd (w.getLastD 0)) q r with
  | none=>w
  | some (q',r')=>bfsF s nd n q' r'
def Zbhz (s:Nat) (nd:Nat->List Nat) (N:Nat):List Nat:=bfsF s nd (N+2) [[s]] (List.replicate N false)
def cntF (r:List Bool):Nat:=r.countP (· ==false)
theorem Zka (N:Nat):cntF (List.replicate N false)=N:=by unfold cntF;rw[List.countP_replicate];rfl
theorem Zkb {r:List Bool} {x:Nat} (h:r[x]? =some false):cntF (r.set x true)+1=cntF r:=by
 unfold cntF;obtain⟨hl,e⟩:=List.getElem?_eq_some_iff.1 h;rw[List.countP_set hl];rw[e];have:0<r.countP (· ==false):=List.countP_pos_iff.2 ⟨false,by rw[<-e];exact List.getElem_mem _,by simp⟩;simp only[beq_self_eq_true,if_true,show((true:Bool)==false)=false from rfl,Bool.false_eq_true,if_false];omega
structure WaysOk (s:Nat) (nd:Nat->List Nat) (N:Nat) (q:List (List Nat)) (r:List Bool):Prop where
 ne:∀w∈q,w≠[]
 lt:∀w∈q,∀x∈w,x<N
 len:∀w∈q,w.length+cntF r<=N+1
 many:q.length+cntF r<=N+1
 size:r.length=N
theorem Zbsq {s N:Nat} {nd:Nat->List Nat} (hs:s<N):WaysOk s nd N [[s]] (List.replicate N false):=by
 refine⟨?_,?_,?_,?_,by simp⟩
 ·intro w hw;obtain rfl:w = [s]:=by simpa using hw
  simp
 ·intro w hw x hx;obtain rfl:w = [s]:=by simpa using hw
  obtain rfl:x=s:=by simpa using hx
  exact hs
 ·intro w hw;obtain rfl:w = [s]:=by simpa using hw
  rw[Zka];simp;omega
 ·rw[Zka];simp;omega
theorem WaysOk.tail {s N:Nat} {nd:Nat->List Nat} {w:List Nat} {q:List (List Nat)} {r:List Bool} (h:WaysOk s nd N (w::q) r):WaysOk s nd N q r:=
 ⟨λx hx=>h.ne x (by simp[hx]),λx hx=>h.lt x (by simp[hx]),λx hx=>h.len x (by simp[hx]),by have:=h.many;simp only[List.length_cons]at this;omega,h.size⟩
theorem WaysOk.push {s N x:Nat} {nd:Nat->List Nat} {w:List Nat} {q:List (List Nat)} {r:List Bool} (h:WaysOk s nd N q r) (hw:w.length+cntF r<=N+1) (hwl:∀y∈w,y<N) (hx:x<N) (hr:r[x]? =some false):WaysOk s nd N (q ++ [w ++ [x]]) (r.set x true):=by
 have hc:=Zkb hr;refine⟨?_,?_,?_,?_,by rw[List.length_set];exact h.size⟩
 ·intro y hy
  rcases List.mem_append.1 hy with hy|hy
  ·exact h.ne y hy
  ·obtain rfl:y=w ++ [x]:=by simpa using hy
   simp
 ·intro y hy z hz
  rcases List.mem_append.1 hy with hy|hy
  ·exact h.lt y hy z hz
  ·obtain rfl:y=w ++ [x]:=by simpa using hy
   rcases List.mem_append.1 hz with hz|hz
   ·exact hwl z hz
   ·obtain rfl:z=x:=by simpa using hz
    exact hx
 ·intro y hy
  rcases List.mem_append.1 hy with hy|hy
  ·have:=h.len y hy;omega
  ·obtain rfl:y=w ++ [x]:=by simpa using hy
   rw[List.length_append];simp only[List.length_cons,List.length_nil];omega
 ·have:=h.many;rw[List.length_append];simp only[List.length_cons,List.length_nil];omega
def Zkm (s:Nat) (nd:Nat->List Nat) (m:Nat) (w:List Nat):Option (List (List Nat)×List Bool)->List Nat
 | none=>w
 | some p=>bfsF s nd m p.1 p.2
theorem Zfp (s:Nat) (nd:Nat->List Nat) (m:Nat) (w:List Nat) (q:List (List Nat)) (r:List Bool):bfsF s nd (m+1) (w::q) r=Zkm s nd m w (Zbax s w (nd (w.getLastD 0)) q r):=by
 rw[bfsF]
 cases Zbax s w (nd (w.getLastD 0)) q r with
 | none=>rfl
 | some p=>rfl
inductive Rch (nd:Nat->List Nat):Nat->Nat->Prop
 | one {a b:Nat}:b∈nd a->Rch nd a b
 | more {a b c:Nat}:Rch nd a b->c∈nd b->Rch nd a c
theorem Rch.trans {nd:Nat->List Nat} {a b c:Nat} (h:Rch nd a b) (k:Rch nd b c):Rch nd a c:=by
 induction k with
 | one h'=>exact .more h h'
 | more _ h' ih=>exact .more ih h'
theorem Zbaz {s:Nat} {way:List Nat}:∀ {xs:List Nat} {q:List (List Nat)} {r:List Bool} {q':List (List Nat)} {r':List Bool},Zbax s way xs q r=some (q',r')->(∀y∈xs,y<r.length)->
  (∀x:Nat,r[x]? =some true->r'[x]? =some true)/\(∀y∈xs,y≠s/\r'[y]? =some true)/\(∀w∈q,w∈q')/\(∀x:Nat,r'[x]? =some true->r[x]? =some true∨∃w∈q',w.getLastD 0=x)/\q'.length+cntF r'=q.length+cntF r/\r'.length=r.length
 | [],q,r,q',r',h,_=>by
  obtain⟨rfl,rfl⟩:q=q'/\r=r':=by simpa[Zbax]using h
  exact⟨λ_ h=>h,λy hy=>by simp at hy,λ_ h=>h,λ_ h=> .inl h,rfl,rfl⟩
 | x::xs,q,r,q',r',h,hl=>by
  unfold Zbax at h
  by_cases h1:x=s
  ·rw[if_pos h1]at h;cases h
  rw[if_neg h1]at h;have hxl:=hl x (by simp)
  by_cases h2:r[x]? =some true
  ·rw[if_pos h2]at h
   obtain⟨a,b,c,d,e,f⟩:=Zbaz h (λy hy=>hl y (by simp[hy]));refine⟨a,λy hy=>?_,c,d,e,f⟩
   rcases List.mem_cons.1 hy with rfl|hy
   ·exact⟨h1,a _ h2⟩
   ·exact b y hy
  ·rw[if_neg h2]at h
   have h2':r[x]? =some false:=by
    rw[List.getElem?_eq_getElem hxl]at h2⊢
    cases hb:r[x]with
    | true=>rw[hb]at h2;exact absurd rfl h2
    | false=>rfl
   obtain⟨a,b,c,d,e,f⟩:=Zbaz h (λy hy=>by rw[List.length_set];exact hl y (by simp[hy]));have hset:(r.set x true)[x]? =some true:=by rw[List.getElem?_set_self hxl]
   refine⟨λy hy=>a y ?_,λy hy=>?_,λw hw=>c w (by simp[hw]),λy hy=>?_,?_,by rw[f,List.length_set]⟩
   ·by_cases hxy:x=y
    ·subst hxy;exact hset
    ·rw[List.getElem?_set_ne hxy];exact hy
   ·rcases List.mem_cons.1 hy with rfl|hy
    ·exact⟨h1,a _ hset⟩
    ·exact b y hy
   ·rcases d y hy with h3|h3
    ·by_cases hxy:x=y
     ·subst hxy;exact .inr ⟨way ++ [x],c _ (by simp),by simp⟩
     ·rw[List.getElem?_set_ne hxy]at h3;exact .inl h3
    ·exact .inr h3
   ·have:=Zkb h2'
    rw[e,List.length_append];simp only[List.length_cons,List.length_nil];omega
theorem Zfq {s N:Nat} {nd:Nat->List Nat} (hnd:∀x<N,∀y∈nd x,y<N) (hs:s<N):∀(n:Nat) (q:List (List Nat)) (r:List Bool),q.length+cntF r<n->r.length=N->(∀w∈q,w≠[])->(∀w∈q,w.getLastD 0<N)->
  (∀x:Nat,x<N->(x=s∨r[x]? =some true)->(∃w∈q,w.getLastD 0=x)∨∀y∈nd x,y≠s/\r[y]? =some true)->bfsF s nd n q r = []->¬Rch nd s s
 | 0,q,r,h,_,_,_,_,_=>by omega
 | n+1,[],r,_,hr,_,_,hI,_=>by
  have key:∀x,Rch nd s x->x<N/\x≠s/\r[x]? =some true:=by
   intro x hx
   induction hx with
   | one h=>
    rename_i b
    rcases hI s hs (.inl rfl)with⟨w,hw,_⟩|h2
    ·simp at hw
    ·exact⟨hnd s hs _ h,h2 _ h⟩
   | more _ h ih=>
    rename_i b c _
    obtain⟨i1,_,i3⟩:=ih
    rcases hI b i1 (.inr i3)with⟨w,hw,_⟩|h2
    ·simp at hw
    ·exact⟨hnd b i1 _ h,h2 _ h⟩
  exact λh=>(key s h).2.1 rfl
 | n+1,w::q,r,h,hr,hne,hlt,hI,he=>by
  rw[bfsF]at he
  cases hx:Zbax s w (nd (w.getLastD 0)) q r with
  | none=>rw[hx]at he;exact absurd he (hne w (by simp))
  | some p=>
   obtain⟨q',r'⟩:=p;rw[hx]at he;simp only at he;have hwl:=hlt w (by simp);obtain⟨a,b,c,d,e,f⟩:=Zbaz hx (λy hy=>by rw[hr];exact hnd _ hwl y hy);have hq':∀v∈q',v≠[]/\v.getLastD 0<N:=by
    have:∀(xs:List Nat) (q:List (List Nat)) (r:List Bool),Zbax s w xs q r=some (q',r')->(∀y∈xs,y<N)->(∀v∈q,v≠[]/\v.getLastD 0<N)->∀v∈q',v≠[]/\v.getLastD 0<N:=by
     intro xs
     induction xs with
     | nil=>
         intro q r h _ hq;obtain⟨rfl,rfl⟩:q=q'/\r=r':=by simpa[Zbax]using h
         exact hq
     | cons x xs ih=>
      intro q r h hy hq;unfold Zbax at h;split at h
      ·cases h
      split at h
      ·exact ih _ _ h (λy hy'=>hy y (by simp[hy'])) hq
      ·refine ih _ _ h (λy hy'=>hy y (by simp[hy'])) ?_
       intro v hv
       rcases List.mem_append.1 hv with hv|hv
       ·exact hq v hv
       ·obtain rfl:v=w ++ [x]:=by simpa using hv
        exact⟨by simp,by simpa using hy x (by simp)⟩
    exact this _ _ _ hx (λy hy=>hnd _ hwl y hy) (λv hv=>⟨hne v (by simp[hv]),hlt v (by simp[hv])⟩)
   refine Zfq hnd hs n q' r' (by simp only[List.length_cons]at h;omega) (by rw[f,hr]) (λv hv=>(hq' v hv).1) (λv hv=>(hq' v hv).2) ?_ he;intro x hxN hxr;have hxr':(x=s∨r[x]? =some true)∨∃w∈q',w.getLastD 0=x:=by
    rcases hxr with h|h
    ·exact .inl (.inl h)
    ·rcases d x h with h|h
     ·exact .inl (.inr h)
     ·exact .inr h
   rcases hxr' with h1|h1
   ·rcases hI x hxN h1 with⟨v,hv,e⟩|h2
    ·rcases List.mem_cons.1 hv with rfl|hv
     ·right;intro y hy;rw[e]at b;exact b y hy
     ·exact .inl ⟨v,c v hv,e⟩
    ·exact .inr λy hy=>⟨(h2 y hy).1,a y (h2 y hy).2⟩
   ·exact .inl h1
theorem Zbia {s N:Nat} {nd:Nat->List Nat} (hnd:∀x<N,∀y∈nd x,y<N) (hs:s<N) (h:Zbhz s nd N = []):¬Rch nd s s:=by
 have one:∀w∈[[s]],w = [s]:=λw hw=>by simpa using hw
 refine Zfq hnd hs (N+2) [[s]] (List.replicate N false) (by rw[Zka];simp;omega) (by simp) (λw hw=>by rw[one w hw];simp) (λw hw=>by rw[one w hw];simpa using hs) ?_ h;intro x hx hxr
 rcases hxr with rfl|h
 ·exact .inl ⟨[x],by simp,by simp⟩
 ·rw[List.getElem?_replicate]at h;split at h<;>simp at h
noncomputable def Zbgh (nd:Nat->List Nat) (N x:Nat):Nat:=by
 classical exact(List.range N).countP λy=>decide (Rch nd x y)
theorem Zkt {α:Type} {p q:α->Bool}:∀ {l:List α} (_:∀x∈l,p x=true->q x=true) {y:α} (_:y∈l) (_:p y=false) (_:q y=true),l.countP p<l.countP q
 | [],_,y,hy,_,_=>by simp at hy
 | a::l,h,y,hy,hp,hq=>by
  rcases List.mem_cons.1 hy with rfl|hy
  ·rw[List.countP_cons_of_neg (by rw[hp];simp),List.countP_cons_of_pos hq]
   exact Nat.lt_succ_of_le (List.countP_mono_left λx hx=>h x (by simp[hx]))
  ·have ih:=Zkt (λx hx=>h x (by simp[hx])) hy hp hq
   rw[List.countP_cons,List.countP_cons];have:(if p a=true then 1 else 0)<=(if q a=true then 1 else 0):=by
    by_cases hpa:p a=true
    ·rw[if_pos hpa,if_pos (h a (by simp) hpa)];exact Nat.le_refl _
    ·rw[if_neg hpa];exact Nat.zero_le _
   omega
theorem Zbgi {nd:Nat->List Nat} {N:Nat} (hac:∀x<N,¬Rch nd x x) {x y:Nat} (hy:y<N) (h:y∈nd x):Zbgh nd N y<Zbgh nd N x:=by
 unfold Zbgh;refine Zkt (y:=y) (λz _ hz=>?_) (by simpa using hy) ?_ ?_
 ·simp only[decide_eq_true_eq]at hz⊢
  exact(Rch.one h).trans hz
 ·simpa using hac y hy
 ·simpa using Rch.one h
end Go.Proofs.YtcpjfpdecklkgaaGreatDoor
