import Derived.Test.YtmgcaldphpnfgaaGreatDoorMav
namespace Go.Proofs.YtmgcaldphpnfgaaGreatDoor
open Go.Lib (hid)
open Go.RowKit Go.Shelf Go.Maps
def EnvIs (w:World) (b n:Nat) (e:ByteArray->ValT):Prop:=∃m,MapIs Tryz.prog 9 w b m/\(∀k,getM m k (valE noV)=valE (e k))/\m.length<=n
theorem EnvIs.below {B b n:Nat} {w w':World} {e:ByteArray->ValT} (h:EnvIs w b n e) (hb:Below B w w') (hlt:b<B):EnvIs w' b n e:=by
 obtain⟨m,h1,h2,h3⟩:=h;exact⟨m,h1.below hb hlt,h2,h3⟩
theorem EnvIs.heap {b n:Nat} {w w':World} {e:ByteArray->ValT} (h:EnvIs w b n e) (hb:w'.heap[b]? =w.heap[b]?):EnvIs w' b n e:=by
 obtain⟨m,h1,h2,h3⟩:=h;exact⟨m,h1.heap hb,h2,h3⟩
theorem EnvIs.lt {b n:Nat} {w:World} {e:ByteArray->ValT} (h:EnvIs w b n e):b<w.heap.size:=by obtain⟨m,h1,_⟩:=h;exact h1.lt
theorem Zmu (w:World):EnvIs (w.alloc (.map #[] 0)) w.heap.size 0 (λ_=>noV):=⟨[],Zyj w _ _,λ_=>rfl,Nat.le_refl _⟩
theorem EnvIs.put {b n:Nat} {w:World} {e:ByteArray->ValT} (h:EnvIs w b n e) (hn:n<=1000000000) (k:ByteArray) (hs:k.size<=maxLen) (v:ValT):
  ∃w',(Instr.mapUpdate 86 (.map (some b)) (.string k) (valE v)).run Tryz.prog w = .ok () w'/\EnvIs w' b (n+1) (setE e k v)/\w.mapTurned w' b:=by
 obtain⟨m,h1,h2,h3⟩:=h;obtain⟨w',r,hm,ht⟩:=h1.put Tryz.underlying9 Tryz.underlying86 (by unfold maxLen;omega) k hs (valE v);refine⟨w',r,⟨_,hm,λk'=>?_,?_⟩,ht⟩
 ·unfold setE
  by_cases hk:k'=k
  ·subst hk;rw[if_pos rfl,Zqj]
  ·rw[if_neg hk,Zqi _ _ _ (λe=>hk e.symm)];exact h2 k'
 ·obtain⟨D,_,_,_,_,hK⟩:=h1
  rw[Zbfq hK];split<;>omega
theorem Zbux (w:World):(zeroValue 28).run Tryz.prog w = .ok (.agg #[.bool false,.string ⟨#[]⟩]) w:=Tryz.zeroValue28 w
theorem EnvIs.look {b n:Nat} {w:World} {e:ByteArray->ValT} (h:EnvIs w b n e) (k:ByteArray) (hs:k.size<=maxLen):
  (Instr.lookup 86 (.map (some b)) (.string k) false).run Tryz.prog w = .ok (valE (e k)) w:=by
 obtain⟨m,h1,h2,_⟩:=h;rw[<-h2 k];exact h1.look Tryz.underlying9 Tryz.underlying86 (Zbux w) k hs
theorem Zgt:∀(ks:List ByteArray) (vs:List ValT) (e:ByteArray->ValT) (i:Nat) (k:ByteArray) (v:ValT),ks[i]? =some k->vs[i]? =some v->byE (ks.take (i+1)) (vs.take (i+1)) e=setE (byE (ks.take i) (vs.take i) e) k v
 | [],_,_,_,_,_,h,_=>by simp at h
 | _::_,[],_,_,_,_,_,h=>by simp at h
 | k0::ks,v0::vs,e,0,k,v,hk,hv=>by
  obtain rfl:k0=k:=by simpa using hk
  obtain rfl:v0=v:=by simpa using hv
  simp[byE]
 | k0::ks,v0::vs,e,i+1,k,v,hk,hv=>by
  rw[List.take_succ_cons,List.take_succ_cons,List.take_succ_cons,List.take_succ_cons,byE,byE];exact Zgt ks vs _ i k v (by simpa using hk) (by simpa using hv)
theorem Zgs:∀(ks:List ByteArray) (vs:List ValT) (e:ByteArray->ValT) (i:Nat),min ks.length vs.length<=i->byE (ks.take i) (vs.take i) e=byE ks vs e
 | [],vs,e,i,_=>by rw[List.take_nil];cases vs.take i<;>cases vs<;>simp[byE]
 | k::ks,[],e,i,_=>by rw[List.take_nil];cases (k::ks).take i<;>simp[byE]
 | k::ks,v::vs,e,0,h=>by simp at h
 | k::ks,v::vs,e,i+1,h=>by
  rw[List.take_succ_cons,List.take_succ_cons,byE,byE];exact Zgs ks vs _ i (by simp at h;omega)
theorem Zbki {P:Program} (t kt e:TypeId) (ht:P.underlying t=some (.map kt e)) (n:Int) (w:World):(Instr.makeMap t (some (.int .i64 n))).run P w = .ok (.map (some w.heap.size)) (w.alloc (.map #[] 0)):=by
 simp[Instr.makeMap,run_underlying ht,asInt,asIntOf,go_sem]
set_option maxHeartbeats 4000000
set_option maxRecDepth 100000
def Zad (w:World) (ks:List ByteArray) (vs:List ValT) (e:Ending) (w':World):Prop:=∃b,e = .returned (.map (some b))/\EnvIs w' b (min ks.length vs.length) (byE ks vs λ_=>noV)/\w.heap.size<=b/\Below w.heap.size w w'
theorem Zgv (nv vv:Value) (ks:List ByteArray) (vs:List ValT) (w:World) (hk:IsStrs w nv ks) (hv:Zbb w vv vs) (hn:ks.length<=1000000000) (hm:vs.length<=1000000000) (hs:∀k∈ks,k.size<=maxLen):
  Calls Tryz.prog 52 #[nv,vv] w (Zad w ks vs):=by
 obtain⟨ka,kc,rfl,hkl,hkm,hkc⟩:=Zua hk;obtain⟨va,vc,rfl,hvl,hvm,hv2⟩:=id hv;have HK:=hid hkc;have HV:Hid (∀(j:Nat) x,vs[j]? =some x->∃b o,va=some ⟨b,o,none⟩/\∀w',Below w.heap.size w w'->w'.cell? ⟨b,o+j*2,none⟩=some (.bool x.1)/\w'.cell? ⟨b,o+j*2+1,none⟩=some (.string x.2)):=by
  show ∀(j:Nat) x,_;intro j x hx;obtain⟨b,o,ha,hb,hc⟩:=hv2 (by rintro rfl;simp at hx);obtain⟨c1,c2⟩:=hc j x hx;exact⟨b,o,ha,λw' hw=>⟨(hw.cell (p:=⟨b,o+j*2,none⟩) hb).trans c1,(hw.cell (p:=⟨b,o+j*2+1,none⟩) hb).trans c2⟩⟩
 have HS:=hid hs;have hmm:=Zbki (P:=Tryz.prog) 86 _ _ Tryz.underlying86 (ks.length:Int);have mixed:Tryz.prog.follows .mixedOrders=true:=by kernel_rfl
 obtain⟨N,hN⟩:∃N:Nat,min (ks.length:Int) (vs.length:Int)=(N:Int):=⟨(min (ks.length:Int) (vs.length:Int)).toNat,by omega⟩;have hNn:N=min ks.length vs.length:=by omega
 have HN:=hid hNn;have hN1:N<=ks.length:=by omega
 have hN2:N<=vs.length:=by omega
 have hN3:(N:Int)<=(vc:Int):=by omega
 unfold maxLen at hkm hvm;clear hk hv hkc hv2 hs hNn
 go_enter Tryz.func52,Tryz.ntmps52
 go_wp2
 go_loopw [19] (λiv wr=>∃k:Nat,k<=N/\iv = .int .i64 (k:Int)/\EnvIs wr w.heap.size k (byE (ks.take k) (vs.take k) λ_=>noV)/\Below w.heap.size w wr) (λiv _=>N-(intOf iv).toNat)
 case atStart=>exact⟨0,Nat.zero_le _,rfl,by simpa[byE]using Zmu w,(Below.refl _ _).alloc (Nat.le_refl _) _⟩
 case round=>
  obtain⟨k,hk,rfl,henv,hnx⟩:=hrel;have HE:=hid henv;have HNX:=hid hnx;clear henv hnx
  by_cases hlt:k<N
  ·obtain⟨x,hx⟩:∃x,ks[k]? =some x:=⟨ks[k],List.getElem?_eq_getElem (by omega)⟩
   obtain⟨u,hu⟩:∃u,vs[k]? =some u:=⟨vs[k],List.getElem?_eq_getElem (by omega)⟩;obtain⟨b1,o1,q1,hc1⟩:=HK.out k x hx;obtain⟨b2,o2,q2,hc2⟩:=HV.out k u hu;subst q1 q2;obtain⟨cu1,cu2⟩:=hc2 _ HNX.out;obtain⟨ok,t⟩:=u;simp only at cu1 cu2;have hw2:Below w.heap.size w (wr.alloc (.cells #[.bool ok,.string t] 28)).drew:=below_drewN (HNX.out.alloc HNX.out.size _) 1;have cx:=hc1 _ hw2;have hbx:=alloc_at wr (.cells #[.bool ok,.string t] 28);obtain⟨b0,b1',_,_⟩:=Zih hbx;have b0d:(wr.alloc (.cells #[.bool ok,.string t] 28)).drew.cell? ⟨wr.heap.size,0,none⟩=some (.bool ok):=b0;have b1d:(wr.alloc (.cells #[.bool ok,.string t] 28)).drew.cell? ⟨wr.heap.size,1,none⟩=some (.string t):=b1';have henv2:EnvIs (wr.alloc (.cells #[.bool ok,.string t] 28)).drew w.heap.size k (byE (ks.take k) (vs.take k) λ_=>noV):=HE.out.heap (Below.heap_alloc _ _ _ HE.out.lt);obtain⟨w3,hput,henv3,hturn⟩:=henv2.put (by omega) x (HS.out x (List.mem_of_getElem? hx)) (ok,t);rw[<-Zgt ks vs _ k x (ok,t) hx hu]at henv3;rw[show valE (ok,t) = .agg #[.bool ok,.string t]from rfl]at hput;have HE3:=hid henv3;have HB3:Hid (Below w.heap.size w w3):=hid (hw2.grown hturn.grown hw2.size (λj e=>by cases e;exact Nat.le_refl _));have hi1:(k:Int)<(N:Int):=by omega
   have hi0:(0:Int)<=(k:Int):=by omega
   have hi2:(k:Int)<(ks.length:Int):=by omega
   clear henv2 henv3 hturn hw2 hbx hc1 hc2 hx hu;go_wp2
   go_region
   all_goals go_wp2
   all_goals go_roundw
   case rel=>exact⟨k+1,by omega,by go_num,HE3.out,HB3.out⟩
   case measure=>simp[intOf];omega
  ·have hi1:¬(k:Int)<(N:Int):=by omega
   have hfull:byE (ks.take k) (vs.take k) (λ_=>noV)=byE ks vs λ_=>noV:=Zgs ks vs _ k (by have:=HN.out;omega)
   have HF:=hid (show EnvIs wr w.heap.size (min ks.length vs.length) (byE ks vs λ_=>noV) by rw[<-hfull,<-HN.out,show N=k by omega];exact HE.out);clear hfull;go_wp2;go_ret;exact⟨_,rfl,HF.out,Nat.le_refl _,HNX.out⟩
def ValRow (w:World) (g:Nat) (vs:List ValT):Prop:=∃cur,w.heap[g]? =some (.cells cur 28 (0,0))/\cur.size=vs.length*2/\∀(j:Nat) x,vs[j]? =some x->cur[j*2]? =some (.bool x.1)/\cur[j*2+1]? =some (.string x.2)
theorem ValRow.vals {w:World} {g:Nat} {vs:List ValT} (h:ValRow w g vs) (hn:vs.length<=maxLen):Zbb w (.slice (some ⟨g,0,none⟩) vs.length vs.length) vs:=by
 obtain⟨cur,hg,hs,hc⟩:=h;refine⟨_,_,rfl,Nat.le_refl _,hn,λ_=>⟨g,0,rfl,(Array.getElem?_eq_some_iff.1 hg).1,λj x hx=>?_⟩⟩;obtain⟨h1,h2⟩:=hc j x hx;simp only[World.cell?,hg,Nat.zero_add,Option.isSome_none,Bool.false_eq_true,if_false];exact⟨h1,h2⟩
theorem ValRow.heap {w w':World} {g:Nat} {vs:List ValT} (h:ValRow w g vs) (hb:w'.heap[g]? =w.heap[g]?):ValRow w' g vs:=by
 obtain⟨cur,hg,r⟩:=h;exact⟨cur,hb.trans hg,r⟩
theorem ValRow.cells {w:World} {g:Nat} {vs:List ValT} (h:ValRow w g vs) {j:Nat} {x:ValT} (hx:vs[j]? =some x):w.cell? ⟨g,j*2,none⟩=some (.bool x.1)/\w.cell? ⟨g,j*2+1,none⟩=some (.string x.2)/\w.frozen? ⟨g,j*2,none⟩=false/\w.frozen? ⟨g,j*2+1,none⟩=false:=by
 obtain⟨cur,hg,hs,hc⟩:=h;obtain⟨h1,h2⟩:=hc j x hx;refine⟨?_,?_,?_,?_⟩
 ·simp only[World.cell?,hg,Option.isSome_none,Bool.false_eq_true,if_false];exact h1
 ·simp only[World.cell?,hg,Option.isSome_none,Bool.false_eq_true,if_false];exact h2
 ·simp[World.frozen?,hg]
 ·simp[World.frozen?,hg]
theorem ValRow.set {w:World} {g:Nat} {vs:List ValT} (h:ValRow w g vs) (k:Nat) (u:ValT) (hk:k<vs.length):ValRow ((w.setCell ⟨g,k*2,none⟩ (.bool u.1)).setCell ⟨g,k*2+1,none⟩ (.string u.2)) g (vs.set k u):=by
 obtain⟨cur,hg,hs,hc⟩:=h;refine⟨_,heap_set _ _ (heap_set _ _ hg),by simp[hs],λj x hx=>?_⟩;rw[List.getElem?_set]at hx
 by_cases hj:k=j
 ·subst hj
  rw[if_pos rfl,if_pos hk]at hx;obtain rfl:=Option.some.inj hx;constructor
  ·rw[Array.getElem?_setIfInBounds_ne (by omega),Array.getElem?_setIfInBounds_self_of_lt (by rw[hs];omega)]
  ·rw[Array.getElem?_setIfInBounds_self_of_lt (by simp[hs];omega)]
 ·rw[if_neg hj]at hx
  obtain⟨h1,h2⟩:=hc j x hx;constructor
  ·rw[Array.getElem?_setIfInBounds_ne (by omega),Array.getElem?_setIfInBounds_ne (by omega)];exact h1
  ·rw[Array.getElem?_setIfInBounds_ne (by omega),Array.getElem?_setIfInBounds_ne (by omega)];exact h2
theorem Zss:(Tryz.prog.info? 28).map (λi=>(i.zero,i.size,i.bytes))=some (some (.agg #[.bool false,.string ⟨#[]⟩]),2,24):=by kernel_rfl
theorem Zyh (n:Nat) (hn:n<=1000000000) (w:World):(Instr.makeSlice 26 (.int .i64 (n:Int)) (.int .i64 (n:Int))).run Tryz.prog w = .ok (.slice (some ⟨w.heap.size,0,none⟩) n n) (w.alloc (.cells (madeCells #[.bool false,.string ⟨#[]⟩] (n*2)) 28)):=by
 obtain⟨i0,hi,hz,hs,hb⟩:=info_parts Zss;have:=run_make (P:=Tryz.prog) w 26 28 i0 _ Tryz.underlying26 hi hz .i64 .i64 n n (by omega) (Int.le_refl _) (by rw[hb];omega) (by omega);rw[hs,show(Value.agg #[.bool false,.string ⟨#[]⟩]).cells = #[.bool false,.string ⟨#[]⟩]from rfl]at this;simpa using this
theorem Zbsc (w:World) (n:Nat):ValRow (w.alloc (.cells (madeCells #[.bool false,.string ⟨#[]⟩] (n*2)) 28)) w.heap.size (List.replicate n noV):=by
 refine⟨_,alloc_at w _,by simp[size_madeCells],λj x hx=>?_⟩;have hj:j<n:=by have:=(List.getElem?_eq_some_iff.1 hx).1;simpa using this
 have:x=noV:=by rw[List.getElem?_replicate,if_pos hj]at hx;exact(Option.some.inj hx).symm
 subst this;unfold madeCells;constructor
 ·rw[Array.getElem?_map,Array.getElem?_range,if_pos (by omega)]
  simp[noV]
 ·rw[Array.getElem?_map,Array.getElem?_range,if_pos (by omega)]
  simp[noV]
theorem set_self {α:Type} {l:List α} {k:Nat} {x:α} (h:l[k]? =some x):l.set k x=l:=by
 apply List.ext_getElem?;intro j;rw[List.getElem?_set]
 by_cases hj:k=j
 ·subst hj
  rw[if_pos rfl,if_pos (List.getElem?_eq_some_iff.1 h).1,h]
 ·rw[if_neg hj]
def Zbr (w:World) (ks:List ByteArray) (f:ByteArray->ValT) (e:Ending) (w':World):Prop:=∃g,e = .returned (.slice (some ⟨g,0,none⟩) ks.length ks.length)/\ValRow w' g (ks.map λk=>Zbbt (f k))/\w.heap.size<=g/\Below w.heap.size w w'
theorem Zbfa (b n:Nat) (f:ByteArray->ValT) (nv:Value) (ks:List ByteArray) (w:World) (hE:EnvIs w b n f) (hk:IsStrs w nv ks) (hn:ks.length<=1000000000) (hs:∀k∈ks,k.size<=maxLen):
  Calls Tryz.prog 54 #[.map (some b),nv] w (Zbr w ks f):=by
 obtain⟨ka,kc,rfl,hkl,hkm,hkc⟩:=Zua hk;have HK:=hid hkc;have HS:=hid hs;have HE:=hid hE;have hmk:=Zyh ks.length hn;have hbl:=hE.lt;unfold maxLen at hkm;have HM:=hid (Zbsc w ks.length);clear hk hkc hs hE
 go_enter Tryz.func54,Tryz.ntmps54
 go_wp2
 go_loopw [14] (λiv wr=>∃k:Nat,k<=ks.length/\iv = .int .i64 (k:Int)/\ValRow wr w.heap.size ((ks.take k).map (λk=>Zbbt (f k))++List.replicate (ks.length-k) noV)/\Below w.heap.size w wr) (λiv _=>ks.length-(intOf iv).toNat)
 case atStart=>exact⟨0,Nat.zero_le _,rfl,by simpa using HM.out,(Below.refl _ _).alloc (Nat.le_refl _) _⟩
 case round=>
  obtain⟨k,hk,rfl,hrow,hnx⟩:=hrel;have HR:=hid hrow;have HNX:=hid hnx;have hsz:=hnx.size;have hgl:w.heap.size<wr.heap.size:=by obtain⟨cur,hg,_⟩:=hrow;exact(Array.getElem?_eq_some_iff.1 hg).1
  clear hrow hnx
  by_cases hlt:k<ks.length
  ·obtain⟨x,hx⟩:∃x,ks[k]? =some x:=⟨ks[k],List.getElem?_eq_getElem hlt⟩
   obtain⟨b1,o1,q1,hc1⟩:=HK.out k x hx;subst q1;have cx:=hc1 _ HNX.out;have hlook:=(HE.out.below HNX.out hbl).look x (HS.out x (List.mem_of_getElem? hx));obtain⟨ok,t,e1,e2⟩:=Zbrz (v:=f x);rw[e2]at hlook;have hi1:(k:Int)<(ks.length:Int):=by omega
   have hi0:(0:Int)<=(k:Int):=by omega
   have hrow2:ValRow (wr.alloc (.cells #[.bool ok,.string t] 28)) w.heap.size ((ks.take k).map (λk=>Zbbt (f k))++List.replicate (ks.length-k) noV):=HR.out.heap (Below.heap_alloc _ _ _ hgl);have hat:((ks.take k).map (λk=>Zbbt (f k))++List.replicate (ks.length-k) noV)[k]? =some noV:=by
    rw[List.getElem?_append_right (by rw[List.length_map,List.length_take];omega),List.length_map,List.length_take,Nat.min_eq_left hk,Nat.sub_self,List.getElem?_replicate,if_pos (by omega)]
   obtain⟨p0,p1,p2,p3⟩:=HR.out.cells hat;have hset:=HR.out.set k (ok,t) (by rw[List.length_append,List.length_map,List.length_take,List.length_replicate];omega);have hb2:=HNX.out.alloc hsz (.cells #[.bool ok,.string t] 28);have HB2:=hid hb2;have hlen:((ks.take k).map (λk=>Zbbt (f k))).length=k:=by simp;omega
   have hnext:∀u,Zbbt (f x)=u->((ks.take k).map (λk=>Zbbt (f k))++List.replicate (ks.length-k) noV).set k u=(ks.take (k+1)).map (λk=>Zbbt (f k))++List.replicate (ks.length-(k+1)) noV:=by
    intro u hu;rw[List.take_add_one,hx,List.set_append_right _ _ (by rw[hlen];exact Nat.le_refl _),hlen,Nat.sub_self,show ks.length-k=(ks.length-(k+1))+1 by omega,List.replicate_succ,List.set_cons_zero];simp[hu]
   cases ok
   ·have hnv:Zbbt (f x)=noV:=by rw[e1];rfl
    have h0:((ks.take k).map (λk=>Zbbt (f k))++List.replicate (ks.length-k) noV)=(ks.take (k+1)).map (λk=>Zbbt (f k))++List.replicate (ks.length-(k+1)) noV:=by
     rw[<-hnext noV hnv];exact(set_self hat).symm
    rw[h0]at hrow2;have HR2:=hid hrow2;clear hrow2 h0 hnv hset hnext hat hb2 hc1 hx e1 e2 p0 p1 p2 p3 hlen;go_wp2;go_roundw
    case rel=>exact⟨k+1,by omega,by go_num,HR2.out,HB2.out⟩
    case measure=>simp[intOf];omega
   ·have hnv:Zbbt (f x)=(true,t):=by rw[e1];rfl
    rw[hnext _ hnv]at hset;have HR2:=hid (ValRow.heap (w':=((wr.setCell ⟨w.heap.size,k*2,none⟩ (.bool true)).setCell ⟨w.heap.size,k*2+1,none⟩ (.string t)).alloc (.cells #[.bool true,.string t] 28)) hset (Below.heap_alloc _ _ _ (by simp[World.setCell];exact hgl)));have HB3:=hid (((HNX.out.setCell (p:=⟨w.heap.size,k*2,none⟩) (Nat.le_refl _) (.bool true)).setCell (p:=⟨w.heap.size,k*2+1,none⟩) (Nat.le_refl _) (.string t)).alloc (by simp[World.setCell];omega) (.cells #[.bool true,.string t] 28));clear hrow2 hnv hset hnext hat hb2 hc1 hx e1 e2 hlen;simp only[noV]at p0 p1;go_wp2;go_roundw
    case rel=>exact⟨k+1,by omega,by go_num,HR2.out,HB3.out⟩
    case measure=>simp[intOf];omega
  ·have hi1:¬(k:Int)<(ks.length:Int):=by omega
   have hfull:(ks.take k).map (λk=>Zbbt (f k))++List.replicate (ks.length-k) noV=ks.map λk=>Zbbt (f k):=by
    rw[List.take_of_length_le (by omega),show ks.length-k=0 by omega];simp
   have HF:=hid (show ValRow wr w.heap.size (ks.map λk=>Zbbt (f k)) by rw[<-hfull];exact HR.out);clear hfull;go_wp2;go_ret;exact⟨_,rfl,HF.out,Nat.le_refl _,HNX.out⟩
set_option maxHeartbeats 4000000
set_option maxRecDepth 100000
theorem Ztz {w:World} {a:Option Addr} {n c:Nat} {xs:List ByteArray} (h:IsStrs w (.slice a n c) xs):xs≠[]->∃b o,a=some ⟨b,o,none⟩/\b<w.heap.size/\True:=by
 obtain⟨a',c',e,_,_,h⟩:=h;intro hne;obtain⟨b,o,e2,hb,_⟩:=h hne;exact⟨b,o,(Value.slice.inj e).1.trans e2,hb,trivial⟩
def Zaa (w:World) (b:Nat) (L ks:List ByteArray) (e:Ending) (w':World):Prop:=e = .returned (.tuple #[])/\SetIs w' b (addS L ks)/\w.grownBy w' (some b)/\w'.heap.size=w.heap.size
theorem Zblo (b:Nat) (L:List ByteArray) (nv:Value) (ks:List ByteArray) (w:World) (hS:SetIs w b L) (hk:IsStrs w nv ks) (hkb:∀g o c,ks≠[]->nv = .slice (some ⟨g,o,none⟩) ks.length c->g≠b) (hn:L.length+ks.length<=4000000000000000) (hs:∀k∈ks,k.size<=maxLen):
  Calls Tryz.prog 87 #[.map (some b),nv] w (Zaa w b L ks):=by
 obtain⟨ka,kc,rfl,hkl,hkm,hkc⟩:=hk;have HK:Hid (∀(k:Nat) x,ks[k]? =some x->∃g o,ka=some ⟨g,o,none⟩/\∀w',w.grownBy w' (some b)->w'.cell? ⟨g,o+k,none⟩=some (.string x)):=by
  show ∀(k:Nat) x,_;intro k x hx;have hne:ks≠[]:=by rintro rfl;simp at hx
  obtain⟨g,o,rfl,hg,hc⟩:=hkc hne;exact⟨g,o,rfl,λw' hw=>(World.cell?_of_block (hw.block g hg (λe=>hkb g o kc hne rfl (by cases e;rfl)))).trans (hc k x hx)⟩
 have HS:=hid hs;have HS0:=hid hS;unfold maxLen at hkm;clear hkc hs hS hkb
 go_enter Tryz.func87,Tryz.ntmps87
 go_wp2
 go_loopw [8] (λiv wr=>∃k:Nat,k<=ks.length/\iv = .int .i64 (k:Int)/\SetIs wr b (addS L (ks.take k))/\w.grownBy wr (some b)/\wr.heap.size=w.heap.size) (λiv _=>ks.length-(intOf iv).toNat)
 case atStart=>exact⟨0,Nat.zero_le _,rfl,by simpa[addS]using HS0.out,Zrh _ _,rfl⟩
 case round=>
  obtain⟨k,hk,rfl,hset,hgr,hsz⟩:=hrel;have HZ:=hid hsz;have HG:=hid hgr
  by_cases hlt:k<ks.length
  ·obtain⟨x,hx⟩:∃x,ks[k]? =some x:=⟨ks[k],List.getElem?_eq_getElem hlt⟩
   obtain⟨g,o,q1,hc1⟩:=HK.out k x hx;subst q1;have cx:=hc1 _ HG.out;have hi1:(k:Int)<(ks.length:Int):=by omega
   have hi0:(0:Int)<=(k:Int):=by omega
   have hl:=Zco (ks.take k) L;rw[List.length_take]at hl;obtain⟨w3,hput,hset3,hturn⟩:=hset.put Tryz.underlying124 (by omega) x (HS.out x (List.mem_of_getElem? hx));rw[<-Zcq L hx]at hset3;have HS3:=hid hset3;have HG3:=hid (HG.out.trans hturn.grown);have HZ3:Hid (w3.heap.size=w.heap.size):=hid (by obtain⟨_,_,_,_,_,e⟩:=hturn;rw[e];show(wr.heap.setIfInBounds b _).size=_;rw[Array.size_setIfInBounds];exact HZ.out);clear hset hgr hc1 hx hl hset3 hturn hsz;go_wp2;go_roundw
   case rel=>exact⟨k+1,by omega,by go_num,HS3.out,HG3.out,HZ3.out⟩
   case measure=>simp[intOf];omega
  ·have hi1:¬(k:Int)<(ks.length:Int):=by omega
   have HF:=hid (show SetIs wr b (addS L ks) by rw[List.take_of_length_le (by omega)]at hset;exact hset);clear hset hgr hsz;go_wp2
   go_end0
   exact⟨rfl,HF.out,HG.out,HZ.out⟩
theorem Zbuv (w:World):(zeroValue 177).run Tryz.prog w = .ok (.agg #[]) w:=Tryz.zeroValue177 w
theorem Zblp (b:Nat) (L:List ByteArray) (k:ByteArray) (w:World) (hS:SetIs w b L) (hs:k.size<=maxLen):
  Calls Tryz.prog 88 #[.map (some b),.string k] w λe w'=>e = .returned (.bool (inS L k))/\Below w.heap.size w w':=by
 have hlook:=hS.look Tryz.underlying124 (Zbuv w) k hs;obtain⟨r,hr⟩:∃r,inS L k=r:=⟨_,rfl⟩;rw[hr]at hlook⊢;clear hS hr
 go_enter Tryz.func88,Tryz.ntmps88
 go_wp2;go_ret;exact⟨rfl,by first|exact(Below.refl _ _).alloc (Nat.le_refl _) _|exact below_drewN ((Below.refl _ _).alloc (Nat.le_refl _) _) 1⟩
def IdxPost (n:Nat) (p:Nat->Bool) (J:Nat->World->Prop) (e:Ending) (w':World):Prop:=∃k,k<=n/\(∀j,j<k->p j=false)/\((k=n/\e = .returned (.int .i64 (-1))/\J n w')∨(k<n/\p k=true/\e = .returned (.int .i64 (k:Int))/\J (k+1) w'))
def ConPost (n:Nat) (p:Nat->Bool) (J:Nat->World->Prop) (e:Ending) (w':World):Prop:=∃k,k<=n/\(∀j,j<k->p j=false)/\((k=n/\e = .returned (.bool false)/\J n w')∨(k<n/\p k=true/\e = .returned (.bool true)/\J (k+1) w'))
theorem IdxPost.con {n:Nat} {p:Nat->Bool} {J:Nat->World->Prop} {e:Ending} {w':World} (h:IdxPost n p J e w'):∃i:Int,e = .returned (.int .i64 i)/\ConPost n p J (.returned (.bool (decide (0<=i)))) w':=by
 obtain⟨k,h1,h2,⟨rfl,rfl,h3⟩|⟨h4,h5,rfl,h6⟩⟩:=h
 ·exact⟨-1,rfl,k,h1,h2,.inl ⟨rfl,rfl,h3⟩⟩
 ·exact⟨k,rfl,k,h1,h2,.inr ⟨h4,h5,by rw[decide_eq_true (Int.natCast_nonneg k)],h6⟩⟩
theorem ConPost.any {n:Nat} {p:Nat->Bool} {J:Nat->World->Prop} {e:Ending} {w':World} (h:ConPost n p J e w'):e = .returned (.bool ((List.range n).any p))/\((∃k,k<=n/\J k w')):=by
 obtain⟨k,h1,h2,⟨rfl,rfl,h3⟩|⟨h4,h5,rfl,h6⟩⟩:=h
 ·refine⟨?_,k,Nat.le_refl _,h3⟩
  rw[show(List.range k).any p=false by rw[List.any_eq_false];intro x hx;rw[h2 x (List.mem_range.1 hx)];decide]
 ·refine⟨?_,k+1,h4,h6⟩
  rw[show(List.range n).any p=true by rw[List.any_eq_true];exact⟨k,List.mem_range.2 h4,h5⟩]
set_option maxHeartbeats 4000000
set_option maxRecDepth 100000
section
theorem Zsi (fid:Nat) (caps:Array Value) (eg:∀args w,(callFunc fid args).run Tryz.prog w = .ok (.enter fid args) w) (a:Option Addr) (n c:Nat) (hn:n<=maxLen) (x:Nat->ByteArray) (p:Nat->Bool) (J:Nat->World->Prop) (w:World)
  (hc:∀k W,k<n->J k W->∃b o,a=some ⟨b,o,none⟩/\W.cell? ⟨b,o+k,none⟩=some (.string (x k))) (hf:∀k W,k<n->(∀j,j<k->p j=false)->J k W->Calls Tryz.prog fid (#[.string (x k)]++caps) W λe W'=>e = .returned (.bool (p k))/\J (k+1) W') (h0:J 0 w):
  Calls Tryz.prog 180 #[.slice a n c,.func (.func fid) #[] caps] w (IdxPost n p J):=by
 have HC:=hid hc;have HF:=hid hf;have H0:=hid h0;unfold maxLen at hn;clear hc hf h0
 go_enter Tryz.func180,Tryz.ntmps180
 go_wp2
 go_loopw [5,8] (λ_ iv wr=>∃k:Nat,k<=n/\iv = .int .i64 (k:Int)/\(∀j,j<k->p j=false)/\J k wr) (λ_ iv _=>n-(intOf iv).toNat)
 case atStart=>exact⟨0,Nat.zero_le _,rfl,λj hj=>absurd hj (Nat.not_lt_zero _),H0.out⟩
 case round=>
  obtain⟨k,hk,rfl,hno,hJ⟩:=hrel;have HNO:=hid hno;have HJ:=hid hJ
  by_cases hlt:k<n
  ·obtain⟨b,o,ea,e0⟩:=HC.out k wr hlt hJ
   subst ea;have cF:=HF.out k wr hlt hno hJ;have hi1:(k:Int)<(n:Int):=by omega
   have hi0:(0:Int)<=(k:Int):=by omega
   cases hq:p k with
   | true=>
    rw[hq]at cF;have HQ:=hid hq;have CF:=hid cF;clear hno hJ cF hq
    go_wp2_with (go_at_fn fid;refine CF.out.mono ?_;rintro e w' ⟨rfl,hj2⟩;have HJ2:=hid hj2;clear hj2)
    go_ret;exact⟨k,hk,HNO.out,.inr ⟨hlt,HQ.out,rfl,HJ2.out⟩⟩
   | false=>
    rw[hq]at cF;have HQ:=hid hq;have CF:=hid cF;clear hno hJ cF hq
    go_wp2_with (go_at_fn fid;refine CF.out.mono ?_;rintro e w' ⟨rfl,hj2⟩;have HJ2:=hid hj2;clear hj2)
    go_roundw
    case rel=>
     refine⟨k+1,by omega,by go_num,λj hj=>?_,HJ2.out⟩
     by_cases e:j=k
     ·subst e;exact HQ.out
     ·exact HNO.out j (by omega)
    case measure=>simp[intOf];omega
  ·have hi1:¬(k:Int)<(n:Int):=by omega
   obtain rfl:k=n:=by omega
   clear hno hJ;go_wp2;go_ret;exact⟨k,Nat.le_refl _,HNO.out,.inl ⟨rfl,rfl,HJ.out⟩⟩
theorem Zsh (fid:Nat) (caps:Array Value) (eg:∀args w,(callFunc fid args).run Tryz.prog w = .ok (.enter fid args) w) (a:Option Addr) (n c:Nat) (hn:n<=maxLen) (v0 v1 v2 v3 v4:Nat->Value) (p:Nat->Bool) (J:Nat->World->Prop) (w:World)
  (hc:∀k W,k<n->J k W->∃b o,a=some ⟨b,o,none⟩/\W.cell? ⟨b,o+k*5,none⟩=some (v0 k)/\W.cell? ⟨b,o+k*5+1,none⟩=some (v1 k)/\W.cell? ⟨b,o+k*5+2,none⟩=some (v2 k)/\W.cell? ⟨b,o+k*5+3,none⟩=some (v3 k)/\W.cell? ⟨b,o+k*5+4,none⟩=some (v4 k)) (hf:∀k W,k<n->(∀j,j<k->p j=false)->J k W->Calls Tryz.prog fid (#[.agg #[v0 k,v1 k,v2 k,v3 k,v4 k]]++caps) W λe W'=>e = .returned (.bool (p k))/\J (k+1) W') (h0:J 0 w):
  Calls Tryz.prog 145 #[.slice a n c,.func (.func fid) #[] caps] w (IdxPost n p J):=by
 have HC:=hid hc;have HF:=hid hf;have H0:=hid h0;unfold maxLen at hn;clear hc hf h0
 go_enter Tryz.func145,Tryz.ntmps145
 go_wp2
 go_loopw [5,8] (λ_ iv wr=>∃k:Nat,k<=n/\iv = .int .i64 (k:Int)/\(∀j,j<k->p j=false)/\J k wr) (λ_ iv _=>n-(intOf iv).toNat)
 case atStart=>exact⟨0,Nat.zero_le _,rfl,λj hj=>absurd hj (Nat.not_lt_zero _),H0.out⟩
 case round=>
  obtain⟨k,hk,rfl,hno,hJ⟩:=hrel;have HNO:=hid hno;have HJ:=hid hJ
  by_cases hlt:k<n
  ·obtain⟨b,o,ea,e0,e1,e2,e3,e4⟩:=HC.out k wr hlt hJ
   subst ea;have cF:=HF.out k wr hlt hno hJ;have hi1:(k:Int)<(n:Int):=by omega
   have hi0:(0:Int)<=(k:Int):=by omega
   cases hq:p k with
   | true=>
    rw[hq]at cF;have HQ:=hid hq;have CF:=hid cF;clear hno hJ cF hq
    go_wp2_with (go_at_fn fid;refine CF.out.mono ?_;rintro e w' ⟨rfl,hj2⟩;have HJ2:=hid hj2;clear hj2)
    go_ret;exact⟨k,hk,HNO.out,.inr ⟨hlt,HQ.out,rfl,HJ2.out⟩⟩
   | false=>
    rw[hq]at cF;have HQ:=hid hq;have CF:=hid cF;clear hno hJ cF hq
    go_wp2_with (go_at_fn fid;refine CF.out.mono ?_;rintro e w' ⟨rfl,hj2⟩;have HJ2:=hid hj2;clear hj2)
    go_roundw
    case rel=>
     refine⟨k+1,by omega,by go_num,λj hj=>?_,HJ2.out⟩
     by_cases e:j=k
     ·subst e;exact HQ.out
     ·exact HNO.out j (by omega)
    case measure=>simp[intOf];omega
  ·have hi1:¬(k:Int)<(n:Int):=by omega
   obtain rfl:k=n:=by omega
   clear hno hJ;go_wp2;go_ret;exact⟨k,Nat.le_refl _,HNO.out,.inl ⟨rfl,rfl,HJ.out⟩⟩
theorem Zsg (fid:Nat) (caps:Array Value) (eg:∀args w,(callFunc fid args).run Tryz.prog w = .ok (.enter fid args) w) (a:Option Addr) (n c:Nat) (hn:n<=maxLen) (v0 v1 v2 v3 v4:Nat->Value) (p:Nat->Bool) (J:Nat->World->Prop) (w:World)
  (hc:∀k W,k<n->J k W->∃b o,a=some ⟨b,o,none⟩/\W.cell? ⟨b,o+k*5,none⟩=some (v0 k)/\W.cell? ⟨b,o+k*5+1,none⟩=some (v1 k)/\W.cell? ⟨b,o+k*5+2,none⟩=some (v2 k)/\W.cell? ⟨b,o+k*5+3,none⟩=some (v3 k)/\W.cell? ⟨b,o+k*5+4,none⟩=some (v4 k)) (hf:∀k W,k<n->(∀j,j<k->p j=false)->J k W->Calls Tryz.prog fid (#[.agg #[v0 k,v1 k,v2 k,v3 k,v4 k]]++caps) W λe W'=>e = .returned (.bool (p k))/\J (k+1) W') (h0:J 0 w):
  Calls Tryz.prog 149 #[.slice a n c,.func (.func fid) #[] caps] w (IdxPost n p J):=by
 have HC:=hid hc;have HF:=hid hf;have H0:=hid h0;unfold maxLen at hn;clear hc hf h0
 go_enter Tryz.func149,Tryz.ntmps149
 go_wp2
 go_loopw [5,8] (λ_ iv wr=>∃k:Nat,k<=n/\iv = .int .i64 (k:Int)/\(∀j,j<k->p j=false)/\J k wr) (λ_ iv _=>n-(intOf iv).toNat)
 case atStart=>exact⟨0,Nat.zero_le _,rfl,λj hj=>absurd hj (Nat.not_lt_zero _),H0.out⟩
 case round=>
  obtain⟨k,hk,rfl,hno,hJ⟩:=hrel;have HNO:=hid hno;have HJ:=hid hJ
  by_cases hlt:k<n
  ·obtain⟨b,o,ea,e0,e1,e2,e3,e4⟩:=HC.out k wr hlt hJ
   subst ea;have cF:=HF.out k wr hlt hno hJ;have hi1:(k:Int)<(n:Int):=by omega
   have hi0:(0:Int)<=(k:Int):=by omega
   cases hq:p k with
   | true=>
    rw[hq]at cF;have HQ:=hid hq;have CF:=hid cF;clear hno hJ cF hq
    go_wp2_with (go_at_fn fid;refine CF.out.mono ?_;rintro e w' ⟨rfl,hj2⟩;have HJ2:=hid hj2;clear hj2)
    go_ret;exact⟨k,hk,HNO.out,.inr ⟨hlt,HQ.out,rfl,HJ2.out⟩⟩
   | false=>
    rw[hq]at cF;have HQ:=hid hq;have CF:=hid cF;clear hno hJ cF hq
    go_wp2_with (go_at_fn fid;refine CF.out.mono ?_;rintro e w' ⟨rfl,hj2⟩;have HJ2:=hid hj2;clear hj2)
    go_roundw
    case rel=>
     refine⟨k+1,by omega,by go_num,λj hj=>?_,HJ2.out⟩
     by_cases e:j=k
     ·subst e;exact HQ.out
     ·exact HNO.out j (by omega)
    case measure=>simp[intOf];omega
  ·have hi1:¬(k:Int)<(n:Int):=by omega
   obtain rfl:k=n:=by omega
   clear hno hJ;go_wp2;go_ret;exact⟨k,Nat.le_refl _,HNO.out,.inl ⟨rfl,rfl,HJ.out⟩⟩
theorem Zkk (fid:Nat) (caps:Array Value) (eg:∀args w,(callFunc fid args).run Tryz.prog w = .ok (.enter fid args) w) (a:Option Addr) (n c:Nat) (hn:n<=maxLen) (x:Nat->ByteArray) (p:Nat->Bool) (J:Nat->World->Prop) (w:World)
  (hc:∀k W,k<n->J k W->∃b o,a=some ⟨b,o,none⟩/\W.cell? ⟨b,o+k,none⟩=some (.string (x k))) (hf:∀k W,k<n->(∀j,j<k->p j=false)->J k W->Calls Tryz.prog fid (#[.string (x k)]++caps) W λe W'=>e = .returned (.bool (p k))/\J (k+1) W') (h0:J 0 w):
  Calls Tryz.prog 134 #[.slice a n c,.func (.func fid) #[] caps] w (ConPost n p J):=by
 have C:=hid (Zsi fid caps eg a n c hn x p J w hc hf h0);clear hc hf h0 hn eg
 go_enter Tryz.func134,Tryz.ntmps134
 go_wp2_with (go_at_call 180;refine C.out.mono ?_;rintro e w' hi;obtain⟨i,rfl,hcon⟩:=hi.con;have HCON:=hid hcon;clear hcon)
 go_ret;exact HCON.out
theorem Zkj (fid:Nat) (caps:Array Value) (eg:∀args w,(callFunc fid args).run Tryz.prog w = .ok (.enter fid args) w) (a:Option Addr) (n c:Nat) (hn:n<=maxLen) (v0 v1 v2 v3 v4:Nat->Value) (p:Nat->Bool) (J:Nat->World->Prop) (w:World)
  (hc:∀k W,k<n->J k W->∃b o,a=some ⟨b,o,none⟩/\W.cell? ⟨b,o+k*5,none⟩=some (v0 k)/\W.cell? ⟨b,o+k*5+1,none⟩=some (v1 k)/\W.cell? ⟨b,o+k*5+2,none⟩=some (v2 k)/\W.cell? ⟨b,o+k*5+3,none⟩=some (v3 k)/\W.cell? ⟨b,o+k*5+4,none⟩=some (v4 k)) (hf:∀k W,k<n->(∀j,j<k->p j=false)->J k W->Calls Tryz.prog fid (#[.agg #[v0 k,v1 k,v2 k,v3 k,v4 k]]++caps) W λe W'=>e = .returned (.bool (p k))/\J (k+1) W') (h0:J 0 w):
  Calls Tryz.prog 92 #[.slice a n c,.func (.func fid) #[] caps] w (ConPost n p J):=by
 have C:=hid (Zsh fid caps eg a n c hn v0 v1 v2 v3 v4 p J w hc hf h0);clear hc hf h0 hn eg
 go_enter Tryz.func92,Tryz.ntmps92
 go_wp2_with (go_at_call 145;refine C.out.mono ?_;rintro e w' hi;obtain⟨i,rfl,hcon⟩:=hi.con;have HCON:=hid hcon;clear hcon)
 go_ret;exact HCON.out
end
set_option maxHeartbeats 4000000
set_option maxRecDepth 100000
def Zae (w:World) (b:Nat) (L ks:List ByteArray) (e:Ending) (w':World):Prop:=e = .returned (.bool (decide ((addS L ks).length=L.length+ks.length)))/\SetIs w' b (addS L ks)/\w.grownBy w' (some b)/\w'.heap.size=w.heap.size
theorem Zha (b:Nat) (L:List ByteArray) (nv:Value) (ks:List ByteArray) (w:World) (hS:SetIs w b L) (hk:IsStrs w nv ks) (hkb:∀g o c,ks≠[]->nv = .slice (some ⟨g,o,none⟩) ks.length c->g≠b) (hn:L.length+ks.length<=4000000000000000) (hs:∀k∈ks,k.size<=maxLen):
  Calls Tryz.prog 95 #[.map (some b),nv] w (Zae w b L ks):=by
 obtain⟨ka,kc,rfl,hkl,hkm,hkc⟩:=hk;have HK:Hid (∀(k:Nat) x,ks[k]? =some x->∃g o,ka=some ⟨g,o,none⟩/\∀w',w.grownBy w' (some b)->w'.cell? ⟨g,o+k,none⟩=some (.string x)):=by
  show ∀(k:Nat) x,_;intro k x hx;have hne:ks≠[]:=by rintro rfl;simp at hx
  obtain⟨g,o,rfl,hg,hc⟩:=hkc hne;exact⟨g,o,rfl,λw' hw=>(World.cell?_of_block (hw.block g hg (λe=>hkb g o kc hne rfl (by cases e;rfl)))).trans (hc k x hx)⟩
 have HS:=hid hs;have HS0:=hid hS;have hlen:=hS.len Tryz.underlying131 3;unfold maxLen at hkm;clear hkc hs hS hkb
 go_enter Tryz.func95,Tryz.ntmps95
 go_wp2
 go_loopw [7,12,13,14,15,16,17,18,19] (λ_ iv _ _ _ _ _ _ _ wr=>∃k:Nat,k<=ks.length/\iv = .int .i64 (k:Int)/\SetIs wr b (addS L (ks.take k))/\w.grownBy wr (some b)/\wr.heap.size=w.heap.size) (λ_ iv _ _ _ _ _ _ _ _=>ks.length-(intOf iv).toNat)
 case atStart=>exact⟨0,Nat.zero_le _,rfl,by simpa[addS]using HS0.out,Zrh _ _,rfl⟩
 case round=>
  obtain⟨k,hk,rfl,hset,hgr,hsz⟩:=hrel;have HZ:=hid hsz;have HG:=hid hgr
  by_cases hlt:k<ks.length
  ·obtain⟨x,hx⟩:∃x,ks[k]? =some x:=⟨ks[k],List.getElem?_eq_getElem hlt⟩
   obtain⟨g,o,q1,hc1⟩:=HK.out k x hx;subst q1;have cx:=hc1 _ HG.out;have hi1:(k:Int)<(ks.length:Int):=by omega
   have hi0:(0:Int)<=(k:Int):=by omega
   have hl:=Zco (ks.take k) L;rw[List.length_take]at hl;obtain⟨w3,hput,hset3,hturn⟩:=hset.put Tryz.underlying131 (by omega) x (HS.out x (List.mem_of_getElem? hx));rw[<-Zcq L hx]at hset3;have HS3:=hid hset3;have HG3:=hid (HG.out.trans hturn.grown);have HZ3:Hid (w3.heap.size=w.heap.size):=hid (by obtain⟨_,_,_,_,_,e⟩:=hturn;rw[e];show(wr.heap.setIfInBounds b _).size=_;rw[Array.size_setIfInBounds];exact HZ.out);clear hset hgr hc1 hx hl hset3 hturn hsz hlen;go_wp2;go_roundw
   case rel=>exact⟨k+1,by omega,by go_num,HS3.out,HG3.out,HZ3.out⟩
   case measure=>simp[intOf];omega
  ·have hi1:¬(k:Int)<(ks.length:Int):=by omega
   have hset':SetIs wr b (addS L ks):=by rw[List.take_of_length_le (by omega)]at hset;exact hset
   have hl:=Zco ks L;have hlen2:=hset'.len Tryz.underlying131 3;have HF:=hid hset';obtain⟨m,hm⟩:∃m,(addS L ks).length=m:=⟨_,rfl⟩;rw[hm]at hlen2 hl;have HM:=hid hm;have hd2:((m:Int)==(L.length:Int)+(ks.length:Int))=decide (m=L.length+ks.length):=by rw[Bool.eq_iff_iff,beq_iff_eq,decide_eq_true_eq];omega
   have HD2:=hid hd2;clear hset hgr hsz hset' hm hlen hd2;go_wp2;go_ret;exact⟨by rw[HM.out];exact congrArg (λb=>Ending.returned (.bool b)) HD2.out,HF.out,HG.out,HZ.out⟩
theorem Zbuw (w:World):(zeroValue 177).run Tryz.prog w = .ok (.agg #[]) w:=Tryz.zeroValue177 w
theorem Zhg (b bn:Nat) (L:List ByteArray) (k:ByteArray) (w:World) (hB:Boxed w bn 131 (.map (some b))) (hS:SetIs w b L) (hs:k.size<=maxLen):
  Calls Tryz.prog 146 #[.string k,.pointer (some ⟨bn,0,none⟩)] w λe w'=>e = .returned (.bool (!inS L k))/\Below w.heap.size w w':=by
 have hlook:=λW (h:Below w.heap.size w W)=>(hS.below h hS.lt).look Tryz.underlying131 (Zbuw W) k hs
 have hbc:=λW (h:Below w.heap.size w W)=>Boxed.cell (show Boxed W bn 131 (.map (some b))from(h.block bn hB.lt).trans hB)
 obtain⟨r,hr⟩:∃r,inS L k=r:=⟨_,rfl⟩;rw[hr]at hlook⊢;have mixed:Tryz.prog.follows .mixedOrders=true:=by kernel_rfl
 have l0:=hlook w (Below.refl _ _);have c0:=hbc w (Below.refl _ _);clear hr
 go_enter Tryz.func146,Tryz.ntmps146
 go_wp2;go_ret;exact⟨rfl,by first|exact(Below.refl _ _).alloc (Nat.le_refl _) _|exact below_drewN ((Below.refl _ _).alloc (Nat.le_refl _) _) 1⟩
theorem Zdm (xs:List ByteArray) (q:ByteArray->Bool):(List.range xs.length).any (λk=>q (xs.getD k ⟨#[]⟩))=xs.any q:=by
 rw[Bool.eq_iff_iff,List.any_eq_true,List.any_eq_true];constructor
 ·rintro⟨k,hk,h⟩
  have hk:=List.mem_range.1 hk;refine⟨xs[k],List.getElem_mem hk,?_⟩
  rwa [List.getD_eq_getElem?_getD,List.getElem?_eq_getElem hk]at h
 ·rintro⟨x,hx,h⟩
  obtain⟨k,hk,e⟩:=List.getElem_of_mem hx;refine⟨k,List.mem_range.2 hk,?_⟩
  rwa [List.getD_eq_getElem?_getD,List.getElem?_eq_getElem hk,e]
theorem getD_at {xs:List ByteArray} {k:Nat} (h:k<xs.length):xs[k]? =some (xs.getD k ⟨#[]⟩):=by
 rw[List.getD_eq_getElem?_getD,List.getElem?_eq_getElem h];rfl
theorem Zqe {xs:List ByteArray} {k:Nat} (h:k<xs.length):xs.getD k ⟨#[]⟩∈xs:=List.mem_of_getElem? (getD_at h)
theorem Zki (fid:Nat) (caps:Array Value) (eg:∀args w,(callFunc fid args).run Tryz.prog w = .ok (.enter fid args) w) (v:Value) (xs:List ByteArray) (q:ByteArray->Bool) (B:Nat) (w:World) (hB:B<=w.heap.size) (hv:∀W,Below B w W->IsStrs W v xs)
  (hf:∀x∈xs,∀W,Below B w W->Calls Tryz.prog fid (#[.string x]++caps) W λe W'=>e = .returned (.bool (q x))/\Below W.heap.size W W'):
  Calls Tryz.prog 134 #[v,.func (.func fid) #[] caps] w λe w'=>e = .returned (.bool (xs.any q))/\Below B w w':=by
 obtain⟨a,c,rfl,h1,h2,h3⟩:=hv w (Below.refl _ _);refine(Zkk fid caps eg a xs.length c (Nat.le_trans h1 h2) (λk=>xs.getD k ⟨#[]⟩) (λk=>q (xs.getD k ⟨#[]⟩)) (λ_ W=>Below B w W) w (λk W hk hW=>?_) (λk W hk _ hW=>?_) (Below.refl _ _)).mono ?_
 ·obtain⟨a',c',e,_,_,h3⟩:=hv W hW
  cases e
  have hx:=getD_at hk;obtain⟨b,o,rfl,hb,hc⟩:=h3 (by rintro rfl;simp at hk);exact⟨b,o,rfl,hc k _ hx⟩
 ·refine(hf _ (Zqe hk) W hW).mono ?_
  rintro e W' ⟨rfl,hb⟩;exact⟨rfl,hW.trans (hb.mono (Nat.le_trans hB hW.size))⟩
 ·intro e w' h
  obtain⟨rfl,k,_,hb⟩:=h.any;exact⟨by rw[Zdm],hb⟩
theorem Zhh (b:Nat) (L:List ByteArray) (v:Value) (ks:List ByteArray) (w:World) (hS:SetIs w b L) (hk:IsStrs w v ks) (hs:∀k∈ks,k.size<=maxLen):
  Calls Tryz.prog 96 #[.map (some b),v] w λe w'=>e = .returned (.bool (ks.all (inS L)))/\Below w.heap.size w w':=by
 obtain⟨W1,hW1⟩:∃W,w.alloc (.cells #[.map (some b)] 131)=W:=⟨_,rfl⟩;have hb1:Below w.heap.size w W1:=by rw[<-hW1];exact(Below.refl _ _).alloc (Nat.le_refl _) _
 have hbx:Boxed W1 w.heap.size 131 (.map (some b)):=by rw[<-hW1];exact Boxed.new w _ _
 have hlt:=hbx.lt;have hset1:=hS.below hb1 hS.lt;have cC:=Zki 146 #[.pointer (some ⟨w.heap.size,0,none⟩)] (enters_of Tryz.func146 (by kernel_rfl) rfl) v ks (λx=> !inS L x) W1.heap.size W1 (Nat.le_refl _) (λW hW=>hk.below (hb1.trans (hW.mono hb1.size))) (λx hx W hW=>Zhg b w.heap.size L x W ((hW.block _ hlt).trans hbx) (hset1.below hW hset1.lt) (hs x hx));have e:(!ks.any λx=> !inS L x)=ks.all (inS L):=by rw[<-List.not_all_eq_any_not];simp
 obtain⟨r,hr⟩:∃r,(ks.any λx=> !inS L x)=r:=⟨_,rfl⟩;rw[hr]at cC e;rw[<-e];have CC:=hid cC;have HB1:=hid hb1;have HW1:=hid hW1;clear hS hk hs hb1 hbx hlt hset1 cC e hr hW1
 go_enter Tryz.func96,Tryz.ntmps96
 go_wp2_with (go_at_call 134;rw[HW1.out];refine CC.out.mono ?_;rintro e w2 ⟨rfl,hb2⟩)
 go_ret;exact⟨rfl,HB1.out.trans (hb2.mono HB1.out.size)⟩
end Go.Proofs.YtmgcaldphpnfgaaGreatDoor
