import Derived.Test.YtcpjfpdecklkgaaGreatDoorMaa
import Derived.Shelf.Spec.SlicesInsert
import Derived.Lib.AppendZerosOnto
import Derived.Laws.CopyOwn
import Derived.ArgAppend
namespace Go.Proofs.YtcpjfpdecklkgaaGreatDoor
open Go.Lib (hid)
open Go.Proofs.Tryz
open Go.RowKit
abbrev F2:=ByteArray×ByteArray
def Znm (fs:List F2):List Value:=(fs.map λf=>[Value.string f.1,Value.string f.2]).flatten
theorem Zns:Znm [] = []:=rfl
theorem Znp (f:F2) (fs:List F2):Znm (f::fs) = .string f.1 :: .string f.2::Znm fs:=by simp[Znm]
theorem Znn (a b:List F2):Znm (a++b)=Znm a++Znm b:=by simp[Znm]
theorem Znr (fs:List F2):(Znm fs).length=fs.length*2:=by
 induction fs with
 | nil=>rfl
 | cons f fs ih=>rw[Znp];simp only[List.length_cons,ih];omega
theorem Znt (fs:List F2):∀u∈Znm fs,u.oneCell'=true:=by
 induction fs with
 | nil=>intro u hu;cases hu
 | cons f fs ih=>
  rw[Znp];intro u hu
  rcases List.mem_cons.1 hu with rfl|hu
  ·rfl
  ·rcases List.mem_cons.1 hu with rfl|hu
   ·rfl
   ·exact ih u hu
theorem Znv (fs:List F2):∀i,(Znm fs).take (i*2)=Znm (fs.take i):=by
 induction fs with
 | nil=>intro i;simp[Znm]
 | cons f fs ih=>
  intro i
  cases i with
  | zero=>simp[Znm]
  | succ i=>rw[Znp,Nat.add_mul,List.take_succ_cons,List.take_succ_cons,ih i,List.take_succ_cons,Znp]
theorem Znq (fs:List F2):∀i,(Znm fs).drop (i*2)=Znm (fs.drop i):=by
 induction fs with
 | nil=>intro i;simp[Znm]
 | cons f fs ih=>
  intro i
  cases i with
  | zero=>simp[Znm]
  | succ i=>rw[Znp,Nat.add_mul,List.drop_succ_cons,List.drop_succ_cons,ih i,List.drop_succ_cons]
theorem Zbkg (P:Program) (w:World) (dT sT ty elem:TypeId) (g o dLen dCap:Nat) (a:Addr) (sLen sCap sz:Nat) (cur:Array Value) (t:TypeId) (cs:List Value)
  (hu:P.underlying dT=some (.slice elem)) (hs:(P.info? elem).map (·.size)=some sz)
  (hg:w.heap[g]? =some (.cells cur t (0,0))) (hn:cs.length=Nat.min sLen dLen*sz)
  (hsrc:∀j v,cs[j]? =some v->w.cell? (a.add j)=some v) (hfit:o+cs.length<=cur.size) (h1:∀v∈cs,v.oneCell'=true):
  (Builtin.copy_ #[dT,sT] ty #[.slice (some ⟨g,o,none⟩) dLen dCap,.slice (some a) sLen sCap]).run P w =
   .ok (goInt (Nat.min sLen dLen)) (w.setRow g (cur.toList.take o++cs++cur.toList.drop (o+cs.length)).toArray):=by
 have hl:=run_loadCells_list (P:=P) w a cs hsrc;have hst:=run_storeCells_at P g o t cs 0 cur w hg (by simpa using hfit) h1
 cases hq:P.info? elem with
 | none=>simp[hq]at hs
 | some i=>
  have hi:i.size=sz:=by simpa[hq]using hs
  simp[Builtin.copy_,run_underlying hu,Builtin.lenOf,Builtin.firstCells,sizeOf,typeInfo,hq,hi,<-hn,hl,hst]
theorem Zsu:(prog.info? 51).map (λi=>(i.zero,i.size,i.bytes))=some (some (.agg #[.string ByteArray.empty,.string ByteArray.empty]),2,32):=by kernel_rfl
theorem Zbih {w:World} {g:Nat} {cur:Array Value} {t:TypeId} {fr:Nat×Nat} (h:w.heap[g]? =some (.cells cur t fr)) (o j:Nat) (v:Value) (hv:cur.toList[o+j]? =some v):w.cell? ((⟨g,o,none⟩:Addr).add j)=some v:=by
 rw[Addr.add_lit];simp only[World.cell?,h];simpa using hv
theorem Zbku (C D R:List Value) (x y:Value) (i k:Nat) (hi:(i+1)*2<=C.length) (hD:D.length=k*2):
  ((C.take ((i+1)*2)++D++R).take (i*2) ++ [x,y]++(C.take ((i+1)*2)++D++R).drop (i*2+2)).take ((i+1+k)*2)=C.take (i*2) ++ [x,y]++D:=by
 have h1:(C.take ((i+1)*2)).length=i*2+2:=by rw[List.length_take];omega
 have e0:C.take ((i+1)*2)++D++R=C.take ((i+1)*2)++(D++R):=List.append_assoc _ _ _;have e1:(C.take ((i+1)*2)++(D++R)).take (i*2)=C.take (i*2):=by
  rw[List.take_append_of_le_length (by omega),List.take_take,Nat.min_eq_left (by omega)]
 have e2:(C.take ((i+1)*2)++(D++R)).drop (i*2+2)=D++R:=by rw[<-h1,List.drop_left]
 have h2:(C.take (i*2)).length=i*2:=by rw[List.length_take];omega
 have h3:(C.take (i*2) ++ [x,y]++D).length=(i+1+k)*2:=by simp only[List.length_append,h2,hD,List.length_cons,List.length_nil];omega
 rw[e0,e1,e2,<-List.append_assoc _ D R,<-h3,List.take_left]
set_option maxHeartbeats 4000000 in
set_option maxRecDepth 100000 in
theorem Zti (g n c i vb:Nat) (fs:List F2) (f:F2) (cur:Array Value) (w:World) (hi:i<n) (hroom:n+1<=c) (hn:n<=1000) (hc63:c<=9223372036854775807) (hvb:vb≠g)
  (hfs:fs.length=n) (hg:w.heap[g]? =some (.cells cur 51 (0,0))) (hcs:cur.size=c*2) (htk:cur.toList.take (n*2)=Znm fs)
  (hv:w.heap[vb]? =some (.cells #[.string f.1,.string f.2] 51 (0,0))):
  Calls prog 70 #[.slice (some ⟨g,0,none⟩) n c,.int .i64 i,.slice (some ⟨vb,0,none⟩) 1 1] w λe w'=>
   e = .returned (.slice (some ⟨g,0,none⟩) (n+1) c)/\∃cur':Array Value,w'.heap[g]? =some (.cells cur' 51 (0,0))/\cur'.size=c*2/\cur'.toList.take ((n+1)*2)=Znm (fs.take i++f::fs.drop i)/\
    w.grownBy w' (some g):=by
 obtain⟨i0,hi0,hz0,hz1,hz2⟩:=info_parts Zsu;have hsz:(prog.info? 51).map (·.size)=some 2:=by rw[hi0];simp[hz1]
 have hov:∀lb cb,(callFunc 119 #[.slice (some ⟨vb,0,none⟩) 1 1,.slice (some ⟨g,(i+1)*2,none⟩) lb cb]).run prog w = .ok (.value (.bool false)) w:=λlb cb=>by
  rw[run_callFunc_extern func119 (by kernel_rfl) (by kernel_rfl) (by kernel_rfl) (e:=Extern.SlicesOverlaps.overlaps #[69,69] #[4]) (by kernel_rfl),
   Lib.run_overlaps_apart w 69 4 51 underlying69 2 sizeOf51 ⟨vb,0,none⟩ ⟨g,(i+1)*2,none⟩ 1 1 lb cb hvb 51 51 2 (c*2) (by simp[World.shape?,hv]) (by simp[World.shape?,hg,hcs]) (by omega) (by simp[World.frozen?,hv]) (by simp[World.frozen?,hv])]
  rfl
 have hcl:(Znm (fs.drop i)).length=(n-i)*2:=by rw[Znr,List.length_drop,hfs]
 obtain⟨L1,hL1⟩:∃L1:List Value,L1=cur.toList.take ((i+1)*2)++Znm (fs.drop i)++cur.toList.drop ((i+1)*2+(n-i)*2):=⟨_,rfl⟩;have hlen1:L1.length=c*2:=by
  rw[hL1];simp only[List.length_append,List.length_take,List.length_drop,Array.length_toList,hcs,hcl];omega
 have hcp1:∀ty dc sc,(Builtin.copy_ #[69,69] ty #[.slice (some ⟨g,(i+1)*2,none⟩) (n-i) dc,.slice (some ⟨g,i*2,none⟩) (n+1-i) sc]).run prog w.drew = .ok (goInt (n-i:Nat)) (w.drew.setRow g L1.toArray):=λty dc sc=>by
  have h:=Zbkg prog w.drew 69 69 ty 51 g ((i+1)*2) (n-i) dc ⟨g,i*2,none⟩ (n+1-i) sc 2 cur 51 (Znm (fs.drop i)) underlying69 hsz hg
   (by rw[hcl];simp only[Nat.min_def];split<;>omega)
   (λj v hj=>Zbih (w:=w.drew) hg (i*2) j v (by
    rw[<-Znq,<-htk,List.getElem?_drop,List.getElem?_take]at hj;split at hj
    ·exact hj
    ·cases hj))
   (by rw[hcl,hcs];omega) (Znt _)
  rw[hcl,<-hL1]at h;have e:Nat.min (n+1-i) (n-i)=n-i:=by simp only[Nat.min_def];split<;>omega
  rw[e]at h;exact h
 obtain⟨W1,hW1⟩:∃W1,W1=w.drew.setRow g L1.toArray:=⟨_,rfl⟩;have hg1:W1.heap[g]? =some (.cells L1.toArray 51 (0,0)):=by rw[hW1];exact setRow_heap w.drew g cur _ _ _ hg
 have hv1:W1.heap[vb]? =some (.cells #[.string f.1,.string f.2] 51 (0,0)):=by rw[hW1,setRow_other w.drew g vb _ hvb];exact hv
 obtain⟨L2,hL2⟩:∃L2:List Value,L2=L1.take (i*2) ++ [.string f.1,.string f.2]++L1.drop (i*2+2):=⟨_,rfl⟩;have hcp2:∀ty dc,(Builtin.copy_ #[69,69] ty #[.slice (some ⟨g,i*2,none⟩) (n+1-i) dc,.slice (some ⟨vb,0,none⟩) 1 1]).run prog W1 = .ok (goInt (1:Nat)) (W1.setRow g L2.toArray):=λty dc=>by
  have h:=Zbkg prog W1 69 69 ty 51 g (i*2) (n+1-i) dc ⟨vb,0,none⟩ 1 1 2 L1.toArray 51 [.string f.1,.string f.2] underlying69 hsz hg1
   (by simp only[Nat.min_def];split<;>simp<;>omega)
   (λj v hj=>Zbih hv1 0 j v (by simpa using hj))
   (by simp[hlen1];omega) (by intro u hu;simp at hu;rcases hu with rfl|rfl<;>rfl)
  simp only[List.length_cons,List.length_nil,Nat.zero_add]at h;rw[<-hL2]at h;have e:Nat.min 1 (n+1-i)=1:=by simp only[Nat.min_def];split<;>omega
  rw[e]at h;exact h
 have hfin:∃cur':Array Value,(W1.setRow g L2.toArray).heap[g]? =some (.cells cur' 51 (0,0))/\cur'.size=c*2/\cur'.toList.take ((n+1)*2)=Znm (fs.take i++f::fs.drop i)/\w.grownBy (W1.setRow g L2.toArray) (some g):=by
  refine⟨L2.toArray,setRow_heap W1 g _ _ _ _ hg1,?_,?_,?_⟩
  ·rw[hL2];simp only[List.size_toArray,List.length_append,List.length_take,List.length_drop,hlen1,List.length_cons,List.length_nil];omega
  ·have h:=Zbku cur.toList (Znm (fs.drop i)) (cur.toList.drop ((i+1)*2+(n-i)*2)) (.string f.1) (.string f.2) i (n-i) (by rw[Array.length_toList,hcs];omega) hcl
   rw[show i+1+(n-i)=n+1 from by omega,<-hL1,<-hL2]at h;show L2.take _=_;rw[h,Znn,Znp,<-Znv,<-htk,List.take_take,Nat.min_eq_left (by omega)];simp
  ·exact⟨by rw[hW1];rfl,by rw[hW1];rfl,by rw[hW1];rfl,by rw[hW1];simp[World.setRow],λk _ hk=>by
    have hk':k≠g:=λe=>hk (by rw[e])
    rw[setRow_other _ g k _ hk',hW1,setRow_other _ g k _ hk'];rfl⟩
 rw[<-hW1]at hcp1;have HF:=hid hfin;clear hfin hL1 hL2 hg1 hv1 htk hlen1 hcl hcs hv hfs;have HW1:=hid hW1;clear hW1;have b1:¬((i:Int)=(n:Int)):=by omega
 go_enter func70,ntmps70
 go_wp2_with (simp only[hov])
 have hw1:IntKind.i64.wrap ((i:Int)+(1:Int))=(i:Int)+(1:Int):=by rw[IntKind.wrap_i64];omega
 have hb1:(0:Int)<=(i:Int)+(1:Int):=by omega
 have hb0:(0:Int)<=(i:Int):=by omega
 have htn:((i:Int)+(1:Int)).toNat=i+1:=by omega
 have hb2:¬(c=i+1):=by omega
 have hb3:(i:Int)<=(n:Int)+(1:Int):=by omega
 have hb4:¬(c=i):=by omega
 have hb5:(i:Int)+1<=(n:Int)+(1:Int):=by omega
 have hb6:n+1-(i+1)=n-i:=by omega
 go_region_law (refine step_copy_runI rfl _ _ 69 69 rfl _ _ (by simp[Act.eval,Act.put]) (by simp[Act.eval,Act.put]) (hcp1 _ _ _) ?_)
 go_wp2_with fail
 go_ret;exact⟨rfl,HF.out⟩
theorem Zqw (A Z D R:List Value) (x y:Value) (i k:Nat) (hA:A.length=i*2) (hD:D.length=k*2):
  (((A++Z++R).take (i*2) ++ [x,y]++(A++Z++R).drop (i*2+2)).take ((i+1)*2)++D++((A++Z++R).take (i*2) ++ [x,y]++(A++Z++R).drop (i*2+2)).drop ((i+1)*2+k*2)).take ((i+1+k)*2)=A ++ [x,y]++D:=by
 have e1:(A++Z++R).take (i*2)=A:=by rw[List.append_assoc,<-hA,List.take_left]
 have h3:(A ++ [x,y]).length=(i+1)*2:=by simp only[List.length_append,hA,List.length_cons,List.length_nil];omega
 have e2:(A ++ [x,y]++(A++Z++R).drop (i*2+2)).take ((i+1)*2)=A ++ [x,y]:=by rw[<-h3,List.take_left]
 have h4:(A ++ [x,y]++D).length=(i+1+k)*2:=by rw[List.length_append,h3,hD];omega
 rw[e1,e2,<-h4,List.take_left]
set_option maxHeartbeats 4000000 in
set_option maxRecDepth 100000 in
theorem Zth (g n c i vb:Nat) (fs:List F2) (f:F2) (cur:Array Value) (w:World) (hi:i<n) (hroom:c<n+1) (hn:n<=1000) (hnc:n<=c)
  (hfs:fs.length=n) (hg:w.heap[g]? =some (.cells cur 51 (0,0))) (hcs:cur.size=c*2) (htk:cur.toList.take (n*2)=Znm fs)
  (hv:w.heap[vb]? =some (.cells #[.string f.1,.string f.2] 51 (0,0))):
  Calls prog 70 #[.slice (some ⟨g,0,none⟩) n c,.int .i64 i,.slice (some ⟨vb,0,none⟩) 1 1] w λe w'=>∃G,
   e = .returned (.slice (some ⟨w.heap.size,0,none⟩) (n+1) G)/\n+1<=G/\G<=maxLen/\∃cur':Array Value,w'.heap[w.heap.size]? =some (.cells cur' 51 (0,0))/\cur'.size=G*2/\cur'.toList.take ((n+1)*2)=Znm (fs.take i++f::fs.drop i)/\
    w.grownBy w' none:=by
 obtain⟨i0,hi0,hz0,hz1,hz2⟩:=info_parts Zsu;have hsz:(prog.info? 51).map (·.size)=some 2:=by rw[hi0];simp[hz1]
 obtain rfl:c=n:=by omega
 have hgw:g<w.heap.size:=by
  rcases Nat.lt_or_ge g w.heap.size with h|h
  ·exact h
  ·rw[Array.getElem?_eq_none h]at hg;cases hg
 have hvw:vb<w.heap.size:=by
  rcases Nat.lt_or_ge vb w.heap.size with h|h
  ·exact h
  ·rw[Array.getElem?_eq_none h]at hv;cases hv
 have hA:(Znm (fs.take i)).length=i*2:=by rw[Znr,List.length_take,hfs,Nat.min_eq_left (by omega)]
 have hD:(Znm (fs.drop i)).length=(c-i)*2:=by rw[Znr,List.length_drop,hfs]
 have hold:(Builtin.firstCells i0.size i (.slice (some ⟨g,0,none⟩) i c)).run prog w.drew = .ok (Znm (fs.take i)).toArray w.drew:=by
  rw[hz1];exact run_firstCells_some w.drew 2 i ⟨g,0,none⟩ i c (Znm (fs.take i)) hA (λj v hj=>Zbih (w:=w.drew) hg 0 j v (by
   rw[<-Znv,<-htk,List.take_take,List.getElem?_take]at hj;split at hj
   ·simpa using hj
   ·cases hj))
 obtain⟨G,hG⟩:∃G,G=grownCap w (c+1) c 51:=⟨_,rfl⟩;have hGn:c+1<=G:=by rw[hG];exact grownCap_ge w _ _ _
 have hGm:G<=maxLen:=by rw[hG];exact grownCap_le_maxLen w _ _ _ (by unfold maxLen;omega)
 obtain⟨Z,hZ⟩:∃Z:List Value,Z=(Builtin.zeroCells (Value.agg #[.string ByteArray.empty,.string ByteArray.empty]).cells (c+1-i)).toList:=⟨_,rfl⟩;obtain⟨R,hR⟩:∃R:List Value,R=(Builtin.zeroCells (Value.agg #[.string ByteArray.empty,.string ByteArray.empty]).cells (G-(c+1))).toList:=⟨_,rfl⟩;have hZl:Z.length=(c-i+1)*2:=by rw[hZ];simp[Builtin.zeroCells,Value.cells];omega
 have hRl:R.length=(G-(c+1))*2:=by rw[hR];simp[Builtin.zeroCells,Value.cells]
 obtain⟨L0,hL0⟩:∃L0:List Value,L0=Znm (fs.take i)++Z++R:=⟨_,rfl⟩;have hlen0:L0.length=G*2:=by rw[hL0,List.length_append,List.length_append,hA,hZl,hRl];omega
 obtain⟨W1,hW1⟩:∃W1,W1=w.drew.alloc (.cells L0.toArray 51):=⟨_,rfl⟩;have hkk:(c:Int)+1-(i:Int)=((c+1-i:Nat):Int):=by omega
 have hik:i+(c+1-i)=c+1:=by omega
 have hrz:∀ty,(Builtin.append_ #[69,3] ty #[.slice (some ⟨g,0,none⟩) i c,.int .i64 ((c:Int)+1-(i:Int))]).run prog w = .ok (.slice (some ⟨w.heap.size,0,none⟩) (c+1) G) W1:=λty=>by
  have h:=Lib.run_append_grow_zeros w 69 3 ty 51 i0 _ .i64 .i64 underlying69 underlying3 hi0 hz0 (some ⟨g,0,none⟩) i c (Znm (fs.take i)) hold (c+1-i) (by omega) (by omega) (by omega) (by omega) (by rw[hz2];omega) (by rw[hz2,hik];exact growslice_fits (by omega) (by omega));have e:(Znm (fs.take i)).toArray++Builtin.zeroCells (Value.agg #[.string ByteArray.empty,.string ByteArray.empty]).cells (c+1-i)++Builtin.zeroCells (Value.agg #[.string ByteArray.empty,.string ByteArray.empty]).cells (G-(c+1))=L0.toArray:=by
   apply Array.toList_inj.1;rw[hL0,hZ,hR];simp
  rw[hik,<-hG,e,<-hW1]at h;rw[hkk];exact h
 have hg1:W1.heap[g]? =some (.cells cur 51 (0,0)):=by rw[hW1];exact(Below.heap_alloc w.drew _ g hgw).trans hg
 have hv1:W1.heap[vb]? =some (.cells #[.string f.1,.string f.2] 51 (0,0)):=by rw[hW1];exact(Below.heap_alloc w.drew _ vb hvw).trans hv
 have hN1:W1.heap[w.heap.size]? =some (.cells L0.toArray 51 (0,0)):=by rw[hW1];exact heap_alloc_new w.drew _
 obtain⟨L1,hL1⟩:∃L1:List Value,L1=L0.take (i*2) ++ [.string f.1,.string f.2]++L0.drop (i*2+2):=⟨_,rfl⟩;have hlen1:L1.length=G*2:=by rw[hL1];simp only[List.length_append,List.length_take,List.length_drop,hlen0,List.length_cons,List.length_nil];omega
 obtain⟨W2,hW2⟩:∃W2,W2=W1.setRow w.heap.size L1.toArray:=⟨_,rfl⟩;have hcp1:∀ty dc,(Builtin.copy_ #[69,69] ty #[.slice (some ⟨w.heap.size,i*2,none⟩) (c+1-i) dc,.slice (some ⟨vb,0,none⟩) 1 1]).run prog W1 = .ok (goInt (1:Nat)) W2:=λty dc=>by
  have h:=Zbkg prog W1 69 69 ty 51 w.heap.size (i*2) (c+1-i) dc ⟨vb,0,none⟩ 1 1 2 L0.toArray 51 [.string f.1,.string f.2] underlying69 hsz hN1
   (by simp only[Nat.min_def];split<;>simp<;>omega)
   (λj v hj=>Zbih hv1 0 j v (by simpa using hj))
   (by simp[hlen0];omega) (by intro u hu;simp at hu;rcases hu with rfl|rfl<;>rfl)
  simp only[List.length_cons,List.length_nil,Nat.zero_add]at h;rw[<-hL1,<-hW2]at h;have e:Nat.min 1 (c+1-i)=1:=by simp only[Nat.min_def];split<;>omega
  rw[e]at h;exact h
 have hg2:W2.heap[g]? =some (.cells cur 51 (0,0)):=by rw[hW2,setRow_other _ _ g _ (by omega)];exact hg1
 have hN2:W2.heap[w.heap.size]? =some (.cells L1.toArray 51 (0,0)):=by rw[hW2];exact setRow_heap _ _ _ _ _ _ hN1
 obtain⟨L2,hL2⟩:∃L2:List Value,L2=L1.take ((i+1)*2)++Znm (fs.drop i)++L1.drop ((i+1)*2+(c-i)*2):=⟨_,rfl⟩;obtain⟨W3,hW3⟩:∃W3,W3=W2.drew.setRow w.heap.size L2.toArray:=⟨_,rfl⟩;have hcp2:∀ty dc sc,(Builtin.copy_ #[69,69] ty #[.slice (some ⟨w.heap.size,(i+1)*2,none⟩) (c-i) dc,.slice (some ⟨g,i*2,none⟩) (c-i) sc]).run prog W2.drew = .ok (goInt (c-i:Nat)) W3:=λty dc sc=>by
  have h:=Zbkg prog W2.drew 69 69 ty 51 w.heap.size ((i+1)*2) (c-i) dc ⟨g,i*2,none⟩ (c-i) sc 2 L1.toArray 51 (Znm (fs.drop i)) underlying69 hsz hN2
   (by rw[hD];simp only[Nat.min_def];split<;>omega)
   (λj v hj=>Zbih (w:=W2.drew) hg2 (i*2) j v (by
    rw[<-Znq,<-htk,List.getElem?_drop,List.getElem?_take]at hj;split at hj
    ·exact hj
    ·cases hj))
   (by rw[hD,List.size_toArray,hlen1];omega) (Znt _)
  rw[hD,<-hL2,<-hW3]at h;have e:Nat.min (c-i) (c-i)=c-i:=Nat.min_self _;rw[e]at h;exact h
 have hfin:∃cur':Array Value,W3.heap[w.heap.size]? =some (.cells cur' 51 (0,0))/\cur'.size=G*2/\cur'.toList.take ((c+1)*2)=Znm (fs.take i++f::fs.drop i)/\w.grownBy W3 none:=by
  refine⟨L2.toArray,by rw[hW3];exact setRow_heap W2.drew _ _ _ _ _ hN2,?_,?_,?_⟩
  ·rw[hL2];simp only[List.size_toArray,List.length_append,List.length_take,List.length_drop,hlen1,hD];omega
  ·have h:=Zqw (Znm (fs.take i)) Z (Znm (fs.drop i)) R (.string f.1) (.string f.2) i (c-i) hA hD
   rw[show i+1+(c-i)=c+1 from by omega,<-hL0,<-hL1,<-hL2]at h;show L2.take _=_;rw[h,Znn,Znp];simp
  ·refine⟨by rw[hW3,hW2,hW1];rfl,by rw[hW3,hW2,hW1];rfl,by rw[hW3,hW2,hW1];rfl,by rw[hW3,hW2,hW1];simp[World.setRow],λk hk _=>?_⟩
   have hk':k≠w.heap.size:=by omega
   rw[hW3,setRow_other _ _ k _ hk'];show W2.heap[k]? =_;rw[hW2,setRow_other _ _ k _ hk',hW1];exact Below.heap_alloc w.drew _ k hk
 have HF:=hid hfin;clear hfin hold hL0 hL1 hL2 hW1 hW2 hW3 hg1 hv1 hN1 hg2 hN2 htk hlen0 hlen1 hA hD hZ hR hZl hRl hcs hg hv hfs hG hkk hik;have b1:¬((i:Int)=(c:Int)):=by omega
 unfold maxLen at hGm
 go_enter func70,ntmps70
 have hGi:¬(G=i):=by omega
 have hGim:¬(G=i+1):=by omega
 have hci:¬(c=i):=by omega
 have hw1:IntKind.i64.wrap ((i:Int)+(1:Int))=(i:Int)+(1:Int):=by rw[IntKind.wrap_i64];omega
 have hb1:(0:Int)<=(i:Int)+(1:Int):=by omega
 have htn:((i:Int)+(1:Int)).toNat=i+1:=by omega
 have hb3:(i:Int)<=(c:Int):=by omega
 have hb6:c+1-(i+1)=c-i:=by omega
 go_wp2_with (at_builtin;refine Lib.wpList_append_run _ rfl _ _ _ _ rfl _ _ rfl rfl _ _ (hrz _) ?_)
 go_region_law (refine step_copy_runI rfl _ _ 69 69 rfl _ _ (by simp[Act.eval,Act.put]) (by simp[Act.eval,Act.put]) (hcp2 _ _ _) ?_)
 go_wp2_with fail
 go_ret;exact⟨G,rfl,hGn,by unfold maxLen;omega,HF.out⟩
open Go.Lib
def Zbbn (kept:List (List UInt8)):List (List UInt8)->Option (List (List UInt8))
 | []=>some kept
 | p::ps=>if p = []∨p = [46]then Zbbn kept ps else if p = [46,46]then(if kept = []then none else Zbbn kept.dropLast ps)else Zbbn (kept ++ [p]) ps
theorem Zbbq (kept ps:List (List UInt8)) (p:List UInt8) (h:p = []∨p = [46]):Zbbn kept (p::ps)=Zbbn kept ps:=by rw[Zbbn,if_pos h]
theorem Zbbo (ps:List (List UInt8)):Zbbn [] ([46,46]::ps)=none:=by rw[Zbbn,if_neg (by simp),if_pos rfl,if_pos rfl]
theorem Zbbr (kept ps:List (List UInt8)) (h:kept≠[]):Zbbn kept ([46,46]::ps)=Zbbn kept.dropLast ps:=by rw[Zbbn,if_neg (by simp),if_pos rfl,if_neg h]
theorem Zbbp (kept ps:List (List UInt8)) (p:List UInt8) (h1:p≠[]) (h2:p≠[46]) (h3:p≠[46,46]):Zbbn kept (p::ps)=Zbbn (kept ++ [p]) ps:=by rw[Zbbn,if_neg (by simp[h1,h2]),if_neg h3]
end Go.Proofs.YtcpjfpdecklkgaaGreatDoor
namespace Go.Proofs.YtcpjfpdecklkgaaGreatDoor
open Go.Lib (hid)
open Go.Proofs.Tryz
open Go.RowKit
def Zbbs (s:List UInt8):List UInt8×Bool:=
 match Zbbn [] (cutAt 47 s)with
 | none=>([],false)
 | some k=>if Zbcf (Zus k)then(Zus k,true)else([],false)
theorem Zbhu {a b:ByteArray} {c d:Bool} (h:a=b) (h':c=d):Ending.returned (.tuple #[.string a,.bool c]) = .returned (.tuple #[.string b,.bool d]):=by rw[h,h']
theorem drop_at {α:Type} (l:List α) (k:Nat) (x:α) (h:l[k]? =some x):l.drop k=x::l.drop (k+1):=by
 obtain⟨hk,rfl⟩:=List.getElem?_eq_some_iff.1 h;exact List.drop_eq_getElem_cons hk
theorem Zbea {w:World} {B e size:Nat} {v:Value} {n:Nat} {xs:List Value} (h:w.ownsRow B e size v n xs):∃a c,v = .slice a n c/\(n≠0->∃g,a=some ⟨g,0,none⟩)/\n<=c/\c<=maxLen:=by
 rcases h with⟨_,⟨rfl,h0⟩|⟨g,cap,cur,rfl,_,_,hn,hm,_⟩⟩
 ·exact⟨none,0,by rw[h0],λh=>absurd h0 h,by omega,by simp[maxLen]⟩
 ·exact⟨_,_,rfl,λ_=>⟨g,rfl⟩,hn,hm⟩
theorem Zbdy {w:World} {B:Nat} {g cap:Nat} {kept:List ByteArray} (hne:kept≠[])
  (h:w.ownsRow B 9 1 (.slice (some ⟨g,0,none⟩) kept.length cap) kept.length (kept.map Value.string)):
  w.ownsRow B 9 1 (.slice (some ⟨g,0,none⟩) kept.dropLast.length cap) kept.dropLast.length (kept.dropLast.map Value.string):=by
 obtain⟨l,x,rfl⟩:∃l x,kept=l ++ [x]:=⟨kept.dropLast,kept.getLast hne,(List.dropLast_concat_getLast hne).symm⟩;rw[List.dropLast_concat];rw[List.length_append,List.map_append]at h;exact ownsRow_pop (by simp) h
theorem Zbbm (ls:List (List UInt8)):((nonE ls).map List.length).sum=(ls.map List.length).sum:=by
 induction ls with
 | nil=>rfl
 | cons a l ih=>
  unfold nonE at ih⊢
  by_cases h:a = []
  ·subst h;simp[ih]
  ·rw[List.filter_cons_of_pos (by simp[h]),List.map_cons,List.sum_cons,List.map_cons,List.sum_cons,ih]
theorem Zut (ls:List (List UInt8)):(Zus ls).length<=(ls.map List.length).sum+ls.length:=by
 have h1:=Zbbm ls;have h2:(nonE ls).length<=ls.length:=List.length_filter_le _ _;unfold Zus
 by_cases h:nonE ls = []
 ·rw[h,Lib.join_nil];simp
 ·have:=join_length 47 (nonE ls) h
  omega
theorem Zbqt (kept:List ByteArray) (x:ByteArray):((kept ++ [x]).map ByteArray.size).sum=(kept.map ByteArray.size).sum+x.size:=by simp
theorem Zbqv (kept:List ByteArray):(kept.dropLast.map ByteArray.size).sum<=(kept.map ByteArray.size).sum:=by
 by_cases h:kept = []
 ·subst h;simp
 ·have e:=List.dropLast_concat_getLast h
  have:(kept.map ByteArray.size).sum=((kept.dropLast ++ [kept.getLast h]).map ByteArray.size).sum:=by rw[e]
  rw[this,Zbqt];omega
theorem Zbqu (xs:List ByteArray):((xs.map (·.data.toList)).map List.length).sum=(xs.map ByteArray.size).sum:=by
 rw[List.map_map];congr 1
def NormAt (xs:List ByteArray) (k:Nat) (kept:List ByteArray) (total:Nat):Prop:=
 Zbbn (kept.map (·.data.toList)) ((xs.drop k).map (·.data.toList))=Zbbn [] (xs.map (·.data.toList))/\(kept.map ByteArray.size).sum+((xs.drop k).map ByteArray.size).sum<=total/\kept.length<=k
theorem NormAt.skip {xs:List ByteArray} {k:Nat} {kept:List ByteArray} {total:Nat} {x:ByteArray} (h:NormAt xs k kept total) (hx:xs[k]? =some x) (he:x.toList = []∨x.toList = [46]):NormAt xs (k+1) kept total:=by
 obtain⟨h1,h2,h3⟩:=h;rw[drop_at xs k x hx]at h1 h2;rw[List.map_cons,Zbbq _ _ _ (by rw[<-Lib.toList_data];exact he)]at h1;rw[List.map_cons,List.sum_cons]at h2;exact⟨h1,by omega,by omega⟩
theorem NormAt.fall {xs:List ByteArray} {k:Nat} {kept:List ByteArray} {total:Nat} {x:ByteArray} (h:NormAt xs k kept total) (hx:xs[k]? =some x) (he:x.toList = [46,46]) (hk:kept.length=0):Zbbn [] (xs.map (·.data.toList))=none:=by
 obtain rfl:=List.eq_nil_of_length_eq_zero hk;obtain⟨h1,h2,h3⟩:=h;rw[<-h1,drop_at xs k x hx,List.map_cons,<-Lib.toList_data,he];exact Zbbo _
theorem NormAt.up {xs:List ByteArray} {k:Nat} {kept:List ByteArray} {total:Nat} {x:ByteArray} (h:NormAt xs k kept total) (hx:xs[k]? =some x) (he:x.toList = [46,46]) (hk:kept≠[]):NormAt xs (k+1) kept.dropLast total:=by
 obtain⟨h1,h2,h3⟩:=h;rw[drop_at xs k x hx]at h1 h2;rw[List.map_cons,<-Lib.toList_data,he,Zbbr _ _ (by simpa using hk)]at h1;rw[List.map_cons,List.sum_cons]at h2;have:=Zbqv kept;exact⟨by rw[List.map_dropLast];exact h1,by omega,by simp;omega⟩
theorem NormAt.keep {xs:List ByteArray} {k:Nat} {kept:List ByteArray} {total:Nat} {x:ByteArray} (h:NormAt xs k kept total) (hx:xs[k]? =some x) (e1:¬x.toList = []) (e2:¬x.toList = [46]) (e3:¬x.toList = [46,46]):NormAt xs (k+1) (kept ++ [x]) total:=by
 obtain⟨h1,h2,h3⟩:=h;rw[Lib.toList_data]at e1 e2 e3;rw[drop_at xs k x hx]at h1 h2;rw[List.map_cons,Zbbp _ _ _ e1 e2 e3]at h1;rw[List.map_cons,List.sum_cons]at h2;exact⟨by rw[List.map_append];exact h1,by rw[Zbqt];omega,by simp;omega⟩
theorem NormAt.done {xs:List ByteArray} {k:Nat} {kept:List ByteArray} {total:Nat} (h:NormAt xs k kept total) (hk:xs.length<=k):Zbbn [] (xs.map (·.data.toList))=some (kept.map (·.data.toList))/\(Zus (kept.map (·.data.toList))).length<=total+k:=by
 obtain⟨h1,h2,h3⟩:=h;rw[List.drop_of_length_le hk]at h1 h2;refine⟨h1.symm,?_⟩;have:=Zut (kept.map (·.data.toList));rw[Zbqu,List.length_map]at this;omega
set_option maxHeartbeats 4000000 in
theorem Zbbv (s:ByteArray) (m:Int) (w:World) (hs:s.size<4294967281) (hG:1<w.heap.size) (hm:w.cell? ⟨1,0,none⟩=some (.int .i64 m)):
  Calls prog 173 #[.string s] w λe w'=>e = .returned (.tuple #[.string ⟨(Zbbs s.data.toList).1.toArray⟩,.bool (Zbbs s.data.toList).2])/\Below w.heap.size w w':=by
 obtain⟨i0,hi,hz0,hz1,hz2⟩:=info_parts Zsy;obtain⟨r,hr⟩:∃r,r=Zbbs s.data.toList:=⟨_,rfl⟩;rw[<-hr];obtain⟨r1,r2⟩:=r;have HR:=hid hr;clear hr;have hsz:=hid (Lib.size_eq s)
 go_enter func173,ntmps173
 go_wp2_with fail
 refine(Zbex s m w hs hm).mono ?_;rintro e w' ⟨xs,hx,rfl,rfl⟩;have hlen:=congrArg List.length hx;rw[List.length_map]at hlen;have hcl:=Zkz 47 s.data.toList;rw[<-hlen,<-hsz.out]at hcl;have hsm:∀(k:Nat) x,xs[k]? =some x->x.size<=s.size:=by
  intro k x hxk;have h1:x.data.toList∈cutAt 47 s.data.toList:=by rw[<-hx];exact List.mem_map_of_mem (List.mem_of_getElem? hxk)
  have h2:=Zky 47 s.data.toList _ h1;rw[<-hsz.out]at h2;rw[Lib.size_eq x];omega
 have HSM:=hid hsm;have HR':Hid ((r1,r2)=match Zbbn [] (xs.map (·.data.toList))with|none=>([],false)|some k=>if Zbcf (Zus k)then(Zus k,true)else([],false)):=by
  show(r1,r2)=_;rw[HR.out,Zbbs,<-hx]
 have HX:=hid hx;clear hsm hlen hx;obtain⟨W1,hW1⟩:∃W1:World,w.alloc (.cells (xs.map Value.string).toArray 9)=W1:=⟨_,rfl⟩;have hcs:∀(k:Nat) x,xs[k]? =some x->W1.cell? ⟨w.heap.size,k,none⟩=some (.string x):=λk x h=>hW1▸Zig w xs 9 k x h
 have hsize:W1.heap.size=w.heap.size+1:=by rw[<-hW1];simp
 have hb1:Below w.heap.size w W1:=hW1▸(Below.refl _ _).alloc (Nat.le_refl _) _;have HCS:=hid hcs;have HSI:=hid hsize;rw[hW1];clear hcs hW1 hsize;have htot:(xs.map ByteArray.size).sum<=s.size:=by
  rw[<-Zbqu,HX.out];have h1:=Zlc 47 s.data.toList;have h2:(cutAt 47 s.data.toList).length≠0:=λe=>Zlb 47 s.data.toList (List.eq_nil_of_length_eq_zero e)
  rw[hsz.out];omega
 have H0:NormAt xs 0 [] s.size:=⟨rfl,by simpa using htot,Nat.le_refl _⟩;clear htot;go_wp2
 go_loopw [4,11] (λv i wr=>∃(k:Nat) (kept:List ByteArray) (a:Option Addr) (c:Nat),k<=xs.length/\i = .int .i64 k/\v = .slice a kept.length c/\wr.ownsRow W1.heap.size 9 1 (.slice a kept.length c) kept.length (kept.map Value.string)/\Below W1.heap.size W1 wr/\NormAt xs k kept s.size)
  (λ_ i _=>xs.length-(intOf i).toNat)
 case atStart=>exact⟨0,[],none,0,Nat.zero_le _,rfl,rfl,World.ownsRow_nil _ _ _ _,Below.refl _ _,H0⟩
 case round=>
  obtain⟨k,kept,a,c,hk,rfl,rfl,hown,hnx,hat⟩:=hrel;have HAT:=hid hat;have hkl:kept.length<=k:=hat.2.2;clear hat H0
  by_cases hlt:k<xs.length
  ·obtain⟨x,hx⟩:∃x,xs[k]? =some x:=⟨xs[k],List.getElem?_eq_getElem hlt⟩
   have hcx:wr.cell? ⟨w.heap.size,k,none⟩=some (.string x):=(hnx.cell (by have:=HSI.out;show w.heap.size<_;omega)).trans (HCS.out k x hx);have HX0:=hid hx;clear hx
   by_cases e1:x.toList = []
   ·have HS:=hid (HAT.out.skip HX0.out (.inl e1))
    go_wp2;go_roundw
    case rel=>exact⟨k+1,kept,a,c,by omega,by go_num,rfl,hown,hnx,HS.out⟩
    case measure=>simp[intOf];omega
   ·have b1:x.toList.isEmpty=false:=List.isEmpty_eq_false_iff.2 e1
    by_cases e2:x.toList = [46]
    ·have HS:=hid (HAT.out.skip HX0.out (.inr e2))
     go_wp2;go_roundw
     case rel=>exact⟨k+1,kept,a,c,by omega,by go_num,rfl,hown,hnx,HS.out⟩
     case measure=>simp[intOf];omega
    ·have b2:(x.toList == [46])=false:=by simpa using e2
     by_cases e3:x.toList = [46,46]
     ·by_cases e4:kept.length=0
      ·have HS:=hid (HAT.out.fall HX0.out e3 e4)
       have b4:((kept.length:Int)==0)=true:=by rw[e4];rfl
       clear e4 hown;go_wp2
       go_ret2
       have hrr:r1 = []/\r2=false:=by have:=HR'.out;rw[HS.out]at this;simpa only[Prod.mk.injEq]using this
       exact⟨Zbhu (by rw[hrr.1]) hrr.2.symm,hb1.trans (hnx.mono hb1.size)⟩
      ·have hne:kept≠[]:=λe=>e4 (by rw[e];rfl)
       obtain⟨a',c',hv,hg,hn',hm'⟩:=Zbea hown;obtain⟨g,hg⟩:=hg e4
       cases hv
       subst hg;have HS:=hid (HAT.out.up HX0.out e3 hne);have hown':=Zbdy hne hown;have hdl:kept.dropLast.length=kept.length-1:=List.length_dropLast;have b4:((kept.length:Int)==0)=false:=by simp;omega
       have hp:0<kept.length:=by omega
       have HD:=hid hdl;clear hdl e4 hne hown;go_wp2;go_roundw
       case rel=>exact⟨k+1,kept.dropLast,some ⟨g,0,none⟩,c,by omega,by go_num,by rw[HD.out],hown',hnx,HS.out⟩
       case measure=>simp[intOf];omega
     ·have b3:(x.toList == [46,46])=false:=by simpa using e3
      have HS:=hid (HAT.out.keep HX0.out e1 e2 e3)
      go_wp2_with (at_builtin;refine wpList_append_own _ rfl _ _ 29 rfl W1.heap.size 9 i0 (.string ByteArray.empty) 1 16 underlying29 hi hz0 hz1 hz2 rfl (by decide) _ _ _ rfl (hown.alloc _) ⟨wr.heap.size,0,none⟩ 1 1 [.string x] rfl rfl ?c1 ?c2 ?c3 ?c4 ?c5 ?_)
      case c1=>
       intro j u hj
       match j,hj with
       | 0,hj=>simp at hj;subst hj;simp[Addr.add]
      case c2=>intro u hu;simp at hu;subst hu;rfl
      case c3=>unfold maxLen;omega
      case c4=>omega
      case c5=>have:=hnx.size;simp;omega
      ·intro v' w1 hown' hgrow _
       have hnx':Below W1.heap.size W1 w1:=(hnx.alloc hnx.size _).grown hgrow (by have:=hnx.size;simp;omega) (λg hg=>(hown.lt g hg).1);clear hgrow hown hcx;obtain⟨a',c',hv,_⟩:=Zbea hown';have hl:(kept ++ [x]).length=kept.length+1:=by simp
       have hmm:(kept ++ [x]).map Value.string=kept.map Value.string ++ [Value.string x]:=by simp
       rw[hv,<-hl,<-hmm]at hown';have HV:=hid hv;clear hv hmm;have HL:=hid hl;clear hl;go_wp2;go_roundw
       case rel=>exact⟨k+1,kept ++ [x],a',c',by omega,by go_num,by rw[HV.out,HL.out],hown',hnx',HS.out⟩
       case measure=>simp[intOf];omega
  ·have hd:=HAT.out.done (by omega)
   have hS:=Zbqq (v:= .slice a kept.length c) hown;have cJ:=Zux _ kept wr hS (by omega) (by have:=hd.2;omega);have HD:=hid hd;obtain⟨j,hj⟩:∃j,Zus (kept.map (·.data.toList))=j:=⟨_,rfl⟩;have hjl:j.length<=4294967281*2:=by have:=HD.out.2;rw[hj]at this;omega
   rw[hj]at cJ;have HJ:=hid hj;have hm2:wr.cell? ⟨1,0,none⟩=some (.int .i64 m):=(hnx.cell (by have:=hb1.size;show 1<_;omega)).trans ((hb1.cell hG).trans hm);have HM:=hid hm2;clear hd hj hS hown hm2 hm
   go_wp2_with fail
   refine cJ.mono ?_;rintro e w2 ⟨rfl,hb2⟩;have hm3:w2.cell? ⟨1,0,none⟩=some (.int .i64 m):=(hb2.cell (by have:=hb1.size;have:=hnx.size;show 1<_;omega)).trans HM.out;have cM:=Zzb ⟨j.toArray⟩ m w2 (by unfold maxLen;simp only[ByteArray.size,List.size_toArray];omega) hm3;obtain⟨b,hb⟩:∃b,Zbcf j=b:=⟨_,rfl⟩;rw[show(⟨j.toArray⟩:ByteArray).data.toList=j from by simp,hb]at cM;have HB:=hid hb;clear hb hm3;have hrr:Hid ((r1,r2)=if b=true then(j,true)else([],false)):=by
    show _=_;have:=HR'.out;rw[HD.out.1]at this;simp only[HJ.out,HB.out]at this;exact this
   have hbb:=hb1.trans ((hnx.mono hb1.size).trans (hb2.mono (by have:=hnx.size;have:=hb1.size;omega)));have hs2:w.heap.size<=w2.heap.size:=hbb.size
   cases b
   ·go_wp2_with (go_at_call 68;refine cM.mono ?_;rintro e w3 ⟨rfl,hb3⟩)
    go_ret2
    have hr3:r1 = []/\r2=false:=by have:=hrr.out;simpa using this
    exact⟨Zbhu (by rw[hr3.1]) hr3.2.symm,hbb.trans (hb3.mono hs2)⟩
   ·go_wp2_with (go_at_call 68;refine cM.mono ?_;rintro e w3 ⟨rfl,hb3⟩)
    go_ret2
    have hr3:r1=j/\r2=true:=by have:=hrr.out;simpa using this
    exact⟨Zbhu (by rw[hr3.1]) hr3.2.symm,hbb.trans (hb3.mono hs2)⟩
def OwnF (w:World) (B:Nat) (r:Option Nat) (v:Value) (fs:List F2):Prop:=
 (w.ownsRow B 51 2 v fs.length (Znm fs)/\r=v.ownBlock)∨(fs = []/\r=none/\∃a,v = .slice a 0 0)
def Zaz (w:World) (B:Nat) (r:Option Nat) (fs:List F2) (e:Ending) (w':World):Prop:=
 ∃v' r',e = .returned v'/\OwnF w' B r' v' fs/\w.grownBy w' r/\(r'=r∨∃k,r'=some k/\w.heap.size<=k)
theorem Zbdv {w:World} {B B' e size:Nat} {v:Value} {n:Nat} {xs:List Value} (h:w.ownsRow B e size v n xs) (hB:B'<=B):w.ownsRow B' e size v n xs:=by
 obtain⟨h1,h2|⟨g,cap,cur,hv,hg,hr⟩⟩:=h
 ·exact⟨h1,.inl h2⟩
 ·exact⟨h1,.inr ⟨g,cap,cur,hv,Nat.le_trans hB hg,hr⟩⟩
theorem Zbdn {w:World} {B e size:Nat} {v:Value} {n:Nat} {xs:List Value} (h:w.ownsRow B e size v n xs) (hn:n≠0):∃k,v.ownBlock=some k/\B<=k:=by
 obtain⟨h1,⟨_,h2⟩|⟨g,cap,cur,hv,hg,hr⟩⟩:=h
 ·exact absurd h2 hn
 ·exact⟨g,by rw[hv];rfl,hg⟩
set_option maxHeartbeats 4000000 in
set_option maxRecDepth 100000 in
theorem Ztg (B vb g c:Nat) (fs:List F2) (f:F2) (w:World) (_hn:fs.length<=1000) (hc:fs.length+1<=c)
  (hown:w.ownsRow B 51 2 (.slice (some ⟨g,0,none⟩) fs.length c) fs.length (Znm fs))
  (hv:w.heap[vb]? =some (.cells #[.string f.1,.string f.2] 51 (0,0))):
  Calls prog 70 #[.slice (some ⟨g,0,none⟩) fs.length c,.int .i64 fs.length,.slice (some ⟨vb,0,none⟩) 1 1] w (Zaz w B (some g) (fs ++ [f])):=by
 obtain⟨i0,hi0,hz0,hz1,hz2⟩:=info_parts Zsu;have hcm:=(Zbea hown);obtain⟨a',c',hv',_,hnc,hcm⟩:=hcm
 cases hv'
 unfold maxLen at hcm;have hne:¬(c=fs.length):=by omega
 go_enter func70,ntmps70
 go_wp2_with (at_builtin;refine wpList_append_fits _ rfl _ _ 69 rfl B 51 i0 2 underlying69 hi0 hz1 g _ _ _ rfl hown ⟨vb,0,none⟩ 1 1 [.string f.1,.string f.2] rfl rfl ?c1 ?c2 hc ?_)
 case c1=>exact λj u hj=>Zbih hv 0 j u (by simpa using hj)
 case c2=>intro u hu;simp at hu;rcases hu with rfl|rfl<;>rfl
 intro w' hown' hgrow;have HO:Hid (OwnF w' B (some g) (.slice (some ⟨g,0,none⟩) (fs.length+1) c) (fs ++ [f])):=by
  refine .inl ⟨?_,rfl⟩;rw[Znn,Znp,Zns];simpa using hown'
 clear hown';go_wp2;go_ret;exact⟨_,_,rfl,HO.out,hgrow,.inl rfl⟩
set_option maxHeartbeats 4000000 in
set_option maxRecDepth 100000 in
theorem Ztf (B vb c:Nat) (a:Option Addr) (r:Option Nat) (fs:List F2) (f:F2) (w:World) (hn:fs.length<=1000) (hc:c=fs.length) (hB:B<=w.heap.size) (hnone:a=none->fs.length=0)
  (hcs:∀b,a=some b->∀j u,(Znm fs)[j]? =some u->w.cell? (b.add j)=some u)
  (hv:w.heap[vb]? =some (.cells #[.string f.1,.string f.2] 51 (0,0))):
  Calls prog 70 #[.slice a fs.length c,.int .i64 fs.length,.slice (some ⟨vb,0,none⟩) 1 1] w (Zaz w B r (fs ++ [f])):=by
 obtain⟨i0,hi0,hz0,hz1,hz2⟩:=info_parts Zsu;subst hc;have HCS:=hid hcs;clear hcs
 go_enter func70,ntmps70
 go_wp2_with (at_builtin;refine wpList_append_grows _ rfl _ _ 69 rfl 51 i0 _ 2 32 underlying69 hi0 hz0 hz1 hz2 rfl (by decide) a fs.length fs.length (Znm fs) rfl ?c0 ?cl ?cs ⟨vb,0,none⟩ 1 1 [.string f.1,.string f.2] rfl rfl ?c1 ?c2 ?c3 ?c4 ?c5 ?_)
 case c0=>exact λh=>⟨hnone h,hnone h⟩
 case cl=>exact Znr fs
 case cs=>exact HCS.out
 case c1=>exact λj u hj=>Zbih hv 0 j u (by simpa using hj)
 case c2=>intro u hu;simp at hu;rcases hu with rfl|rfl<;>rfl
 case c3=>omega
 case c4=>unfold maxLen;omega
 case c5=>omega
 all_goals
  intro v' w' hown' hgrow;obtain⟨k,hk,hkB⟩:=Zbdn hown' (by omega);have HO:Hid (OwnF w' B (some k) v' (fs ++ [f])):=by
   refine .inl ⟨?_,hk.symm⟩;rw[Znn,Znp,Zns];simpa using Zbdv hown' hB
  have HG:Hid (w.grownBy w' r):=⟨hgrow.os,hgrow.tape,hgrow.output,hgrow.size,λk hk _=>hgrow.block k hk (by simp)⟩;clear hown' hgrow;go_wp2;go_ret;exact⟨_,_,rfl,HO.out,HG.out,.inr ⟨k,rfl,hkB⟩⟩
theorem grown_of {w w':World} {r:Option Nat} (h:w.grownBy w' none):w.grownBy w' r:=⟨h.os,h.tape,h.output,h.size,λk hk _=>h.block k hk (by simp)⟩
theorem Ztd (B vb i:Nat) (r:Option Nat) (v:Value) (fs:List F2) (f:F2) (w:World) (hi:i<=fs.length) (hn:fs.length<=1000) (hB:B<=w.heap.size)
  (hown:OwnF w B r v fs) (hvb:some vb≠r)
  (hv:w.heap[vb]? =some (.cells #[.string f.1,.string f.2] 51 (0,0))):
  Calls prog 70 #[v,.int .i64 i,.slice (some ⟨vb,0,none⟩) 1 1] w (Zaz w B r (fs.take i++f::fs.drop i)):=by
 rcases hown with⟨hown,rfl⟩|⟨rfl,rfl,a,rfl⟩
 ·obtain⟨hl,⟨rfl,h0⟩|⟨g,c,cur,rfl,hgB,hg,hnc,hcm,hcs,htk⟩⟩:=id hown
  ·obtain rfl:=List.eq_nil_of_length_eq_zero h0
   obtain rfl:i=0:=by simpa using hi
   exact Ztf B vb 0 none _ [] f w hn rfl hB (λ_=>rfl) (λb hb=>by cases hb) hv
  ·by_cases he:i=fs.length
   ·subst he
    rw[List.take_length,List.drop_length]
    by_cases hc:fs.length+1<=c
    ·exact Ztg B vb g c fs f w hn hc hown hv
    ·exact Ztf B vb c (some ⟨g,0,none⟩) _ fs f w hn (by omega) hB (λh=>by cases h) (λb hb j u hj=>by
      cases hb
      refine Zbih hg 0 j u ?_;rw[<-htk,List.getElem?_take]at hj;split at hj
      ·simpa using hj
      ·cases hj) hv
   ·by_cases hc:fs.length+1<=c
    ·refine(Zti g fs.length c i vb fs f cur w (by omega) hc hn (by unfold maxLen at hcm;omega) (λe=>hvb (by rw[e];rfl)) rfl hg hcs htk hv).mono ?_
     rintro e w' ⟨rfl,cur',hg',hcs',htk',hgrow⟩;refine⟨_,_,rfl,.inl ⟨⟨by rw[Znr],.inr ⟨g,c,cur',?_,hgB,hg',?_,hcm,hcs',?_⟩⟩,rfl⟩,hgrow,.inl rfl⟩
     ·congr 1;simp;omega
     ·simp;omega
     ·rw[show(fs.take i++f::fs.drop i).length=fs.length+1 from by simp;omega];exact htk'
    ·refine(Zth g fs.length c i vb fs f cur w (by omega) (by omega) hn hnc rfl hg hcs htk hv).mono ?_
     rintro e w' ⟨G,rfl,hG,hGm,cur',hg',hcs',htk',hgrow⟩;refine⟨_,_,rfl,.inl ⟨⟨by rw[Znr],.inr ⟨w.heap.size,G,cur',?_,hB,hg',?_,hGm,hcs',?_⟩⟩,rfl⟩,grown_of hgrow,.inr ⟨w.heap.size,rfl,Nat.le_refl _⟩⟩
     ·congr 1;simp;omega
     ·simp;omega
     ·rw[show(fs.take i++f::fs.drop i).length=fs.length+1 from by simp;omega];exact htk'
 ·obtain rfl:i=0:=by simpa using hi
  exact Ztf B vb 0 a _ [] f w hn rfl hB (λ_=>rfl) (λb hb j u hj=>by simp[Znm]at hj) hv
end Go.Proofs.YtcpjfpdecklkgaaGreatDoor
