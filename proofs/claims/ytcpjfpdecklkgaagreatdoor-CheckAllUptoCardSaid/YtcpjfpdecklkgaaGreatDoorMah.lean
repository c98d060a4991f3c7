import Derived.Laws.Tables
import Derived.Laws.Rows
import Derived.Test.YtcpjfpdecklkgaaGreatDoorMag
import Derived.Test.YtcpjfpdecklkgaaGreatDoorMaa
import Derived.Laws.OwnMore
namespace Go.Proofs.YtcpjfpdecklkgaaGreatDoor
open Go.Lib (hid)
open Go.Proofs.Tryz
open Go.RowKit Go.Shelf
def Zci (L:List UInt8) (p:Nat) (e:Ending):Prop:=
 match Zbtj (L.drop p)with
 | some (k,t,n)=>e = .returned (.tuple #[.agg #[.int .i64 k,.int .i64 (p:Int),.string ⟨t.toArray⟩],.int .i64 ((p+n:Nat):Int),.bool true])
 | none=>∃a b c n,e = .returned (.tuple #[.agg #[.int .i64 a,.int .i64 b,.string c],.int .i64 n,.bool false])
theorem Zbtc {L:List UInt8} {p:Nat} {e:Ending} (h:Zbtj (L.drop p)=none) (a b:Int) (c:ByteArray) (n:Int) (he:e = .returned (.tuple #[.agg #[.int .i64 a,.int .i64 b,.string c],.int .i64 n,.bool false])):Zci L p e:=by
 unfold Zci;rw[h];exact⟨a,b,c,n,he⟩
theorem Zbtd {L:List UInt8} {p:Nat} {e:Ending} {k:Int} {t:List UInt8} {n:Nat} (h:Zbtj (L.drop p)=some (k,t,n))
  (he:e = .returned (.tuple #[.agg #[.int .i64 k,.int .i64 (p:Int),.string ⟨t.toArray⟩],.int .i64 ((p+n:Nat):Int),.bool true])):Zci L p e:=by
 unfold Zci;rw[h];exact he
theorem heap_set {w:World} {g:Nat} {cur:Array Value} {t:TypeId} {fr:Nat×Nat} (i:Nat) (v:Value) (hg:w.heap[g]? =some (.cells cur t fr)):
  (w.setCell ⟨g,i,none⟩ v).heap[g]? =some (.cells (cur.setIfInBounds i v) t fr):=by
 rw[setCell_eq_setRow w g i cur t fr v hg];exact setRow_heap w g cur _ t fr hg
theorem Zbhm {P:Program} {fn:Func} {p u v:Tmp} {ty:TypeId} (h:fn.results = #[.cell p ty,.tmp u,.tmp v]) (tmps:Array Value) (w:World) (g:Nat) (t:TypeId) (cs:Array Value) (fr:Nat×Nat) (d:TypeDesc)
  (hp:tmps.getD p undef = .pointer (some ⟨g,0,none⟩)) (hg:w.heap[g]? =some (.cells cs t fr))
  (hu:P.underlying ty=some d) (hd:(match d with | .struct _ | .array _ _=>true|_=>false)=true) (hi:(P.info? ty).map (·.size)=some cs.size):
  (results fn tmps).run P w = .ok (.tuple #[.agg cs,tmps.getD u undef,tmps.getD v undef]) w:=by
 have hp':tmps[p]?.getD undef = .pointer (some ⟨g,0,none⟩):=by simpa using hp
 simp[results,h,hp',asAddr,run_loadVar_row w g t ty cs fr d hg hu hd hi]
theorem Zbhn {P:Program} {fn:Func} {p u:Tmp} {ty:TypeId} (h:fn.results = #[.tmp u,.cell p ty]) (tmps:Array Value) (w:World) (g:Nat) (t:TypeId) (cs:Array Value) (fr:Nat×Nat) (d:TypeDesc)
  (hp:tmps.getD p undef = .pointer (some ⟨g,0,none⟩)) (hg:w.heap[g]? =some (.cells cs t fr))
  (hu:P.underlying ty=some d) (hd:(match d with | .struct _ | .array _ _=>true|_=>false)=true) (hi:(P.info? ty).map (·.size)=some cs.size):
  (results fn tmps).run P w = .ok (.tuple #[tmps.getD u undef,.agg cs]) w:=by
 have hp':tmps[p]?.getD undef = .pointer (some ⟨g,0,none⟩):=by simpa using hp
 simp[results,h,hp',asAddr,run_loadVar_row w g t ty cs fr d hg hu hd hi]
theorem cells3 {w:World} {b:Nat} {x y z:Value} {T:TypeId} (h:w.heap[b]? =some (.cells #[x,y,z] T)):
  w.cell? ⟨b,0,none⟩=some x/\w.cell? ⟨b,1,none⟩=some y/\w.cell? ⟨b,2,none⟩=some z/\w.frozen? ⟨b,0,none⟩=false/\w.frozen? ⟨b,1,none⟩=false/\w.frozen? ⟨b,2,none⟩=false:=by
 simp[World.cell?,World.frozen?,h]
theorem alloc_at (w:World) (o:Obj):(w.alloc o).heap[w.heap.size]? =some o:=by show(w.heap.push _)[w.heap.size]? =_;simp
theorem Zfk {w w2:World} {o:Obj} (h:Below (w.alloc o).heap.size (w.alloc o) w2):Below w.heap.size w w2:=
 ((Below.refl w.heap.size w).alloc (Nat.le_refl _) o).trans (h.mono (by simp))
theorem at_new {w w2:World} {o:Obj} (h:Below (w.alloc o).heap.size (w.alloc o) w2):w2.heap[w.heap.size]? =some o:=by
 rw[h.block _ (by simp)];exact alloc_at w o
theorem Zbtq {L:List UInt8} {p:Nat} (h:p<L.length) (hq:L[p]=34):Zbtj (L.drop p)=(strS (L.drop (p+1))).map λx=>(2,x.1,x.2+1):=by
 rw[List.drop_eq_getElem_cons h,hq,Zbtk,if_pos rfl]
theorem Zbtm {L:List UInt8} {p:Nat} (h:p<L.length) (hq:L[p]≠34) (hn:Zzp L[p]=true):Zbtj (L.drop p)=some (1,(L.drop p).takeWhile Zzp,runN Zzp (L.drop p)):=by
 rw[List.drop_eq_getElem_cons h,Zbtk,if_neg hq,if_pos hn];rfl
theorem Zbtp {L:List UInt8} {p:Nat} (h:p<L.length) (hq:L[p]≠34) (hn:Zzp L[p]=false) (hp:Zbfo L[p]=true):Zbtj (L.drop p)=some (3,[L[p]],1):=by
 rw[List.drop_eq_getElem_cons h,Zbtk,if_neg hq,if_neg (by rw[hn];decide),if_pos hp]
theorem Zbtn {L:List UInt8} {p:Nat} (h:p<L.length) (hq:L[p]≠34) (hn:Zzp L[p]=false) (hp:Zbfo L[p]=false):Zbtj (L.drop p)=none:=by
 rw[List.drop_eq_getElem_cons h,Zbtk,if_neg hq,if_neg (by rw[hn];decide),if_neg (by rw[hp];decide)]
theorem Zne (s:ByteArray) (p:Nat):s.extract p (p+runN Zzp (s.data.toList.drop p))=⟨((s.data.toList.drop p).takeWhile Zzp).toArray⟩:=by
 apply ByteArray.ext;apply Array.toList_inj.1;rw[ByteArray.data_extract,Array.toList_extract,List.extract_eq_take_drop];simp only[runN,Nat.add_sub_cancel_left];exact(List.prefix_iff_eq_take.1 (List.takeWhile_prefix Zzp)).symm
theorem Znd (s:ByteArray) (p:Nat) (h:p<s.size):s.extract p (p+1)=⟨[s[p]].toArray⟩:=by
 apply ByteArray.ext;apply Array.toList_inj.1;rw[ByteArray.data_extract,Array.toList_extract,List.extract_eq_take_drop,Nat.add_sub_cancel_left];have h':p<s.data.toList.length:=by rw[<-Lib.size_eq];exact h
 rw[List.drop_eq_getElem_cons h'];rfl
set_option maxHeartbeats 2000000 in
theorem Zbtb (s:ByteArray) (at':Nat) (w:World) (hs:s.size<=140737488351232) (ha:at'<s.size):
  Calls prog 124 #[.string s,.int .i64 at'] w λe w'=>Zci s.data.toList at' e/\Below w.heap.size w w':=by
 obtain⟨L,hL⟩:∃L,s.data.toList=L:=⟨_,rfl⟩;have hsz:s.size=L.length:=by rw[<-hL];exact Lib.size_eq s
 rw[hL];have hlt':at'<L.length:=by rw[<-hsz];exact ha
 have hget:L[at']=s[at']:=by subst hL;rfl
 obtain⟨c,hc⟩:∃c,s[at']=c:=⟨_,rfl⟩;have HC:=hid hc;have HGET:=hid (hget.trans hc);have HL:=hid hL;have HSZ:=hid hsz;clear hL hsz hget
 by_cases h34:(c.toNat:Int)=34
 ·have HW:=hid (Zbtq hlt' (HGET.out.trans (Zbrt (n:=34) (by omega) h34)))
  go_enter func124,ntmps124
  go_wp2_with fail
  refine(Zbpw s at' _ hs ha).mono ?_;rintro e w2 ⟨he,hb2⟩;have hnx:=Zfk hb2;have hbk:=at_new hb2;obtain⟨c0,c1,c2,f0,f1,f2⟩:=cells3 hbk;have HBK:=hid hbk;have HNX:=hid hnx;clear hbk hb2 hnx;unfold StrE at he;rw[HL.out]at he
  cases hS:strS (L.drop (at'+1))with
  | none=>
   rw[hS]at he;simp only at he;subst he;have hW:=HW.out;rw[hS]at hW;have HW2:=hid hW;clear hW hS;go_wp2;refine bodyPost_ret (Zbhm rfl _ _ w.heap.size _ _ _ _ rfl (heap_set _ _ (heap_set _ _ (heap_set _ _ (heap_set _ _ HBK.out)))) underlying116 rfl (by kernel_rfl)) rfl ?_;exact⟨Zbtc HW2.out 2 at' ⟨#[]⟩ 0 rfl,(((HNX.out.setCell (Nat.le_refl _) _).setCell (Nat.le_refl _) _).setCell (Nat.le_refl _) _).setCell (Nat.le_refl _) _⟩
  | some x=>
   obtain⟨t,n⟩:=x;rw[hS]at he;simp only at he;subst he;have hW:=HW.out;rw[hS]at hW;have HW2:=hid hW;clear hW hS;go_wp2;refine bodyPost_ret (Zbhm rfl _ _ w.heap.size _ _ _ _ rfl (heap_set _ _ (heap_set _ _ (heap_set _ _ (heap_set _ _ HBK.out)))) underlying116 rfl (by kernel_rfl)) rfl ?_;exact⟨Zbtd HW2.out (by simp;omega),(((HNX.out.setCell (Nat.le_refl _) _).setCell (Nat.le_refl _) _).setCell (Nat.le_refl _) _).setCell (Nat.le_refl _) _⟩
 ·have h34b:((c.toNat:Int)==34)=false:=by simpa using h34
  have hq:L[at']≠34:=by rw[HGET.out];intro e;exact h34 (by rw[e];rfl)
  have HQ:=hid hq;obtain⟨q,hqn⟩:∃q,Zzp c=q:=⟨_,rfl⟩;have cN:=λw=>Ztv c w
  simp only[hqn]at cN;have CN:=hid cN;have HQN:=hid (show Zzp L[at']=q by rw[HGET.out];exact hqn);clear hq hqn cN h34
  cases q
  ·obtain⟨q,hqn⟩:∃q,Zbfo c=q:=⟨_,rfl⟩
   have cP:=λw=>Ztx c w
   simp only[hqn]at cP;have CP:=hid cP;have HQP:=hid (show Zbfo L[at']=q by rw[HGET.out];exact hqn);clear hqn cP
   cases q
   ·have HW:=hid (Zbtn hlt' HQ.out HQN.out HQP.out)
    go_enter func124,ntmps124
    go_wp2_with fail
    refine(CN.out _).mono ?_;rintro e w2 ⟨rfl,rfl⟩
    go_wp2_with fail
    refine(CP.out _).mono ?_;rintro e w2 ⟨rfl,rfl⟩;go_wp2;refine bodyPost_ret (Zbhm rfl _ _ w.heap.size _ _ _ _ rfl (alloc_at w _) underlying116 rfl (by kernel_rfl)) rfl ?_;exact⟨Zbtc HW.out 0 0 ⟨#[]⟩ 0 rfl,(Below.refl _ _).alloc (Nat.le_refl _) _⟩
   ·have HW:=hid (Zbtp hlt' HQ.out HQN.out HQP.out)
    go_enter func124,ntmps124
    go_wp2_with fail
    refine(CN.out _).mono ?_;rintro e w2 ⟨rfl,rfl⟩
    go_wp2_with fail
    refine(CP.out _).mono ?_;rintro e w2 ⟨rfl,rfl⟩
    go_wp2_with fail
    go_region
    all_goals go_wp2
    all_goals refine bodyPost_ret (Zbhm rfl _ _ w.heap.size _ _ _ _ rfl (alloc_at w _) underlying116 rfl (by kernel_rfl)) rfl ?_
    all_goals exact⟨Zbtd HW.out (by rw[Znd s at' ha,HGET.out,HC.out];rfl),((Below.refl _ _).alloc (Nat.le_refl _) _).drew⟩
  ·have HW:=hid (Zbtm hlt' HQ.out HQN.out)
   obtain⟨m,hm⟩:∃m,runN Zzp (L.drop at')=m:=⟨_,rfl⟩;have hle:=Zbkh Zzp L at' (by omega);have cE:=λw=>Zzq s at' w (by unfold maxLen;omega) (by omega)
   rw[hm]at hle;rw[<-HSZ.out]at hle;simp only[HL.out,hm]at cE;have CE:=hid cE;have hx:=Zne s at';rw[HL.out,hm]at hx;have HX:=hid hx;have HM:=hid hm;obtain⟨en,hen⟩:∃en,at'+m=en:=⟨_,rfl⟩;have HEN:=hid hen;have hen1:at'<=en:=by omega
   have hen2:en<=s.size:=by omega
   clear cE hx hm hle;rw[hen]at CE;clear hen
   go_enter func124,ntmps124
   go_wp2_with fail
   refine(CN.out _).mono ?_;rintro e w2 ⟨rfl,rfl⟩
   go_wp2_with fail
   refine(CE.out _).mono ?_;rintro e w2 ⟨rfl,rfl⟩
   go_wp2_with fail
   go_region
   all_goals go_wp2
   all_goals refine bodyPost_ret (Zbhm rfl _ _ w.heap.size _ _ _ _ rfl (alloc_at w _) underlying116 rfl (by kernel_rfl)) rfl ?_
   all_goals exact⟨Zbtd HW.out (by rw[<-HX.out,HM.out,HEN.out];rfl),((Below.refl _ _).alloc (Nat.le_refl _) _).drew⟩
def IsRow (w:World) (v:Value) (k:Nat) (rows:List (List Value)):Prop:=
 ∃a c,v = .slice a rows.length c/\rows.length<=c/\c<=maxLen/\(rows≠[]->∃b o,a=some ⟨b,o,none⟩/\b<w.heap.size/\∀(j:Nat) r,rows[j]? =some r->∀(i:Nat) u,r[i]? =some u->w.cell? ⟨b,o+j*k+i,none⟩=some u)
theorem Zpf (k:Nat):∀(rows:List (List Value)),(∀r∈rows,r.length=k)->∀(j:Nat) r,rows[j]? =some r->∀(i:Nat) u,r[i]? =some u->rows.flatten[j*k+i]? =some u
 | [],_,j,r,h,_,_,_=>by simp at h
 | r0::rows,hk,j,r,h,i,u,hi=>by
  rw[List.flatten_cons]
  cases j with
  | zero=>
   simp only[List.getElem?_cons_zero,Option.some.injEq]at h;subst h;rw[Nat.zero_mul,Nat.zero_add,List.getElem?_append_left (List.getElem?_eq_some_iff.1 hi).1];exact hi
  | succ j=>
   simp only[List.getElem?_cons_succ]at h;have h0:=hk r0 (by simp);rw[List.getElem?_append_right (by rw[h0,Nat.succ_mul];omega),h0,show(j+1)*k+i-k=j*k+i by rw[Nat.succ_mul];omega];exact Zpf k rows (λr hr=>hk r (by simp[hr])) j r h i u hi
theorem Zbij {w:World} {B k:Nat} {t:TypeId} {v:Value} {rows:List (List Value)} (h:w.ownsRow B t k v rows.length rows.flatten) (hk:∀r∈rows,r.length=k):IsRow w v k rows:=by
 rcases h with⟨_,⟨rfl,h0⟩|⟨g,cap,cur,rfl,hB,hb,hn,hm,hs,ht⟩⟩
 ·obtain rfl:rows = []:=List.eq_nil_of_length_eq_zero h0
  exact⟨none,0,rfl,by simp,by simp[maxLen],λh=>absurd rfl h⟩
 ·refine⟨_,cap,rfl,hn,hm,λ_=>⟨g,0,rfl,?_,λj r hr i u hu=>?_⟩⟩
  ·rcases Nat.lt_or_ge g w.heap.size with h'|h'
   ·exact h'
   ·rw[Array.getElem?_eq_none h']at hb;cases hb
  ·have:=Zpf k rows hk j r hr i u hu
   rw[<-ht,List.getElem?_take]at this;split at this
   ·simp only[World.cell?,hb,Nat.zero_add]
    simpa using this
   ·cases this
theorem IsRow.below {w w':World} {v:Value} {k:Nat} {rows:List (List Value)} (h:IsRow w v k rows) (hb:Below w.heap.size w w'):IsRow w' v k rows:=by
 obtain⟨a,c,rfl,h1,h1m,h2⟩:=h;refine⟨a,c,rfl,h1,h1m,λhne=>?_⟩;obtain⟨b,o,rfl,h3,h4⟩:=h2 hne;exact⟨b,o,rfl,Nat.lt_of_lt_of_le h3 hb.size,λj r hr i u hu=>(hb.cell h3).trans (h4 j r hr i u hu)⟩
abbrev Zcj:=Int×Nat×List UInt8
def Zbte (x:Zcj):List Value:=[.int .i64 x.1,.int .i64 (x.2.1:Int),.string ⟨x.2.2.toArray⟩]
def Zbtf (ws:List Zcj):List (List Value):=ws.map Zbte
def Zbc (w:World) (v:Value) (ws:List Zcj):Prop:=IsRow w v 3 (Zbtf ws)
theorem Zbth (ws:List Zcj):∀r∈Zbtf ws,r.length=3:=by
 intro r hr;obtain⟨x,_,rfl⟩:=List.mem_map.1 hr;rfl
theorem Zbtg (a b:List Zcj):Zbtf (a++b)=Zbtf a++Zbtf b:=by simp[Zbtf]
theorem Zbti (ws:List Zcj):(Zbtf ws).length=ws.length:=by simp[Zbtf]
theorem Zsz:(prog.info? 116).map (λi=>(i.zero,i.size,i.bytes))=some (some (.agg #[.int .i64 0,.int .i64 0,.string ByteArray.empty]),3,32):=by kernel_rfl
theorem Zsv {p:Program} {t:TypeId} {z:Option Value} {s b:Nat} (h:(p.info? t).map (λi=>(i.zero,i.size,i.bytes))=some (z,s,b)):∃i,p.info? t=some i/\i.zero=z/\i.size=s/\i.bytes=b:=by
 cases hi:p.info? t with
 | none=>rw[hi]at h;cases h
 | some i=>rw[hi]at h;injection h with h;injection h with h1 h;injection h with h2 h3;exact⟨i,rfl,h1,h2,h3⟩
theorem Zblf:∀(l:List UInt8) (b:Bool),Zbld false (l.drop (Zbld b l))=0
 | [],b=>by simp[Zblj]
 | c::r,b=>by
  have hf:Zbld false ((c::r).drop (Zbld false (c::r)))=0:=by
   by_cases hb:Zft c=true
   ·rw[Zble r hb,List.drop_succ_cons];exact Zblf r false
   ·by_cases h35:c=35
    ·rw[Zbll r h35,List.drop_succ_cons];exact Zblf r true
    ·have hb':Zft c=false:=by simpa using hb
     rw[Zblm r hb' h35];simpa using Zblm r hb' h35
  cases b with
  | false=>exact hf
  | true=>
   by_cases h10:c=10
   ·rw[Zblk r h10];exact hf
   ·rw[Zblg r h10,List.drop_succ_cons];exact Zblf r true
theorem Zblh:∀(l:List UInt8) (b:Bool),Zbld b l<=l.length
 | [],b=>by simp[Zblj]
 | c::r,b=>by
  have hf:Zbld false (c::r)<=(c::r).length:=by
   by_cases hb:Zft c=true
   ·rw[Zble r hb];simpa using Zblh r false
   ·by_cases h35:c=35
    ·rw[Zbll r h35];simpa using Zblh r true
    ·rw[Zblm r (by simpa using hb) h35];simp
  cases b with
  | false=>exact hf
  | true=>
   by_cases h10:c=10
   ·rw[Zblk r h10];exact hf
   ·rw[Zblg r h10];simpa using Zblh r true
theorem Zcx (f a:Nat) (l:List UInt8):allF (f+1) a l=if l.drop (Zbld false l) = []then .ok [(4,a+Zbld false l,[])]else
 match Zbtj (l.drop (Zbld false l))with
 | none=> .error (a+Zbld false l)
 | some (k,t,n)=>match allF f (a+Zbld false l+n) ((l.drop (Zbld false l)).drop n)with
  | .error e=> .error e
  | .ok ws=> .ok ((k,a+Zbld false l,t)::ws):=rfl
theorem Zcw (f a:Nat) (l:List UInt8):allF f a l=allF f (a+Zbld false l) (l.drop (Zbld false l))∨f=0:=by
 cases f with
 | zero=>exact .inr rfl
 | succ f=>
  refine .inl ?_;rw[Zcx,Zcx,Zblf];simp
def Zuu (ws:List Zcj) (r:Except Nat (List Zcj)):Except Nat (List Zcj):=
 match r with
 | .error e=> .error e
 | .ok x=> .ok (ws++x)
theorem Zuw (r:Except Nat (List Zcj)):Zuu [] r=r:=by cases r<;>rfl
theorem Zdc {f k:Nat} {l:List UInt8} (h:l = []):allF (f+1) k l = .ok [(4,k,[])]:=by
 subst h;rw[Zcx];simp[Zblj]
theorem Zdb {f k:Nat} {l:List UInt8} (hl:l≠[]) (h0:Zbld false l=0) (h:Zbtj l=none):allF (f+1) k l = .error k:=by
 rw[Zcx,h0,List.drop_zero,if_neg hl,h];rfl
theorem Zdh {f k n:Nat} {l t:List UInt8} {kd:Int} (hl:l≠[]) (h0:Zbld false l=0) (h:Zbtj l=some (kd,t,n)):
  allF (f+1) k l=Zuu [(kd,k,t)] (allF f (k+n) (l.drop n)):=by
 rw[Zcx,h0,List.drop_zero,if_neg hl,h];simp only[Nat.add_zero]
 cases allF f (k+n) (l.drop n)<;>rfl
theorem Zuv (a b:List Zcj) (r:Except Nat (List Zcj)):Zuu a (Zuu b r)=Zuu (a++b) r:=by
 cases r<;>simp[Zuu]
def AllE (L:List UInt8) (e:Ending) (w':World):Prop:=
 match allS L with
 | .ok ws=>∃v,e = .returned (.tuple #[v,.agg #[.int .i64 0,.int .i64 0]])/\Zbc w' v ws
 | .error p=>e = .returned (.tuple #[.slice none 0 0,.agg #[.int .i64 1,.int .i64 (p:Int)]])
theorem Zct {L:List UInt8} {e:Ending} {w':World} {p:Nat} (h:allS L = .error p) (he:e = .returned (.tuple #[.slice none 0 0,.agg #[.int .i64 1,.int .i64 (p:Int)]])):AllE L e w':=by
 unfold AllE;rw[h];exact he
theorem Zcu {L:List UInt8} {e:Ending} {w':World} {ws:List Zcj} {v:Value} (h:allS L = .ok ws) (he:e = .returned (.tuple #[v,.agg #[.int .i64 0,.int .i64 0]])) (hw:Zbc w' v ws):AllE L e w':=by
 unfold AllE;rw[h];exact⟨v,he,hw⟩
abbrev PS:=Nat×Bool
def wAt (ws:List Zcj) (k:Nat):Zcj:=ws.getD k (4,0,[])
def wTx (ws:List Zcj) (k:Nat):ByteArray:=⟨(wAt ws k).2.2.toArray⟩
def Zbqz (ws:List Zcj) (fits:Bool) (s:PS):ByteArray×PS:=if s.2 || !fits then(⟨#[]⟩,(s.1,true))else(wTx ws s.1,(s.1+1,s.2))
def Ztr (ws:List Zcj) (key:ByteArray) (s:PS):Bool:=(wAt ws s.1).1==1&&(wTx ws s.1).toList==key.toList
def Ztu (ws:List Zcj) (s:PS):Bool:=(wAt ws s.1).1==1&&Zbcf (wTx ws s.1).data.toList
def Zts (ws:List Zcj) (c:ByteArray) (s:PS):Bool:=(wAt ws s.1).1==3&&(wTx ws s.1).toList==c.toList
def Ztp (ws:List Zcj) (s:PS):Bool:=(wAt ws s.1).1==4
def keyP (ws:List Zcj) (key:ByteArray) (s:PS):PS:=(Zbqz ws (Ztr ws key s) s).2
def Zyk (ws:List Zcj) (c:ByteArray) (s:PS):PS:=(Zbqz ws (Zts ws c s) s).2
def Zzr (ws:List Zcj) (s:PS):ByteArray×PS:=Zbqz ws (Ztu ws s) s
def Zbrk (ws:List Zcj) (s:PS):ByteArray×PS:=Zbqz ws ((wAt ws s.1).1==2) s
def numP (ws:List Zcj) (s:PS):Int×Bool:=Zqk (wTx ws s.1).data.toList 2000
def Zbbz (ws:List Zcj) (s:PS):Int×PS:=((numP ws s).1,(Zbqz ws ((numP ws s).2&&(wAt ws s.1).1==1) s).2)
def Zbcr:List (List UInt8):=[[],[99,111,112,121],[110,101,101,100],[115,111,114,116],[99,111,117,110,116],[99,111,110,99,97,116],[108,105,116,101,114,97,108],[115,101,108,101,99,116],[114,101,112,108,97,99,101],[112,114,101,102,105,120]]
def opGo:List (List UInt8)->Nat->List UInt8->Nat
 | [],_,_=>0
 | x::r,k,t=>if x=t then k else opGo r (k+1) t
def Zbcq (t:List UInt8):Nat:=opGo Zbcr 0 t
def opP (ws:List Zcj) (s:PS):Int×PS:=((Zbcq (wTx ws s.1).data.toList:Nat),(Zbqz ws (decide (Zbcq (wTx ws s.1).data.toList≠0)&&(wAt ws s.1).1==1) s).2)
def Zhc:ByteArray:=⟨#[44]⟩
def Zhl:ByteArray:=⟨#[59]⟩
def cEq:ByteArray:=⟨#[61]⟩
def Zhj:ByteArray:=⟨#[123]⟩
def Zhb:ByteArray:=⟨#[125]⟩
def Zvc:ByteArray:=⟨#[114,117,108,101]⟩
def kIn:ByteArray:=⟨#[105,110]⟩
def kOut:ByteArray:=⟨#[111,117,116]⟩
def Zvb:ByteArray:=⟨#[97,102,116,101,114]⟩
def Zzz (ws:List Zcj):Nat->List ByteArray->PS->List ByteArray×PS
 | 0,acc,s=>(acc,s)
 | f+1,acc,s=>if !s.2&&Ztu ws s then Zzz ws f (acc ++ [(Zzr ws s).1]) (Zzr ws s).2 else(acc,s)
def Zbae (ws:List Zcj) (s:PS):List ByteArray×PS:=Zzz ws (ws.length+1) [] s
def Zzj (ws:List Zcj):Nat->List ByteArray->PS->List ByteArray×PS
 | 0,acc,s=>(acc,s)
 | f+1,acc,s=>if !s.2&&Zts ws Zhc s then Zzj ws f (acc ++ [(Zzr ws (Zyk ws Zhc s)).1]) (Zzr ws (Zyk ws Zhc s)).2 else(acc,s)
def Zzm (ws:List Zcj) (x:ByteArray) (s:PS):List ByteArray×PS:=Zzj ws (ws.length+1) [x] s
def Zjb (ws:List Zcj) (key:ByteArray) (s:PS):List ByteArray×PS:=
 let a:=Zzr ws (keyP ws key s)
 let r:=Zzm ws a.1 a.2
 (r.1,Zyk ws Zhl r.2)
structure StepS where
 out:ByteArray
 op:Int
 args:List ByteArray
 lits:List ByteArray
 n:Int
structure RuleS where
 name:ByteArray
 ins:List ByteArray
 outs:List ByteArray
 after:List ByteArray
 steps:List StepS
def Zbqx (ws:List Zcj) (op:Int) (s:PS):(List ByteArray×List ByteArray×Int)×PS:=
 if op=5 then let r:=Zbae ws s;((r.1,[],0),r.2)
 else if op=6 then let r:=Zbrk ws s;(([],[r.1],0),r.2)
 else if op=7 then let r:=Zbrk ws s;let q:=Zzr ws r.2;(([q.1],[r.1],0),q.2)
 else if op=8 then let r:=Zbrk ws s;let t:=Zbrk ws r.2;let q:=Zzr ws t.2;(([q.1],[r.1,t.1],0),q.2)
 else if op=9 then let r:=Zbbz ws s;let q:=Zzr ws r.2;(([q.1],[],r.1),q.2)
 else let q:=Zzr ws s;(([q.1],[],0),q.2)
def Zbns (ws:List Zcj) (s:PS):StepS×PS:=
 let a:=Zzr ws s
 let o:=opP ws (Zyk ws cEq a.2)
 let t:=Zbqx ws o.1 o.2
 (⟨a.1,o.1,t.1.1,t.1.2.1,t.1.2.2⟩,Zyk ws Zhl t.2)
def Zbop (ws:List Zcj):Nat->List StepS->PS->List StepS×PS
 | 0,acc,s=>(acc,s)
 | f+1,acc,s=>if !s.2&&Ztu ws s then Zbop ws f (acc ++ [(Zbns ws s).1]) (Zbns ws s).2 else(acc,s)
def Zbox (ws:List Zcj) (s:PS):List StepS×PS:=Zbop ws (ws.length+1) [] s
def optP (ws:List Zcj) (key:ByteArray) (s:PS):List ByteArray×PS:=if Ztr ws key s then Zjb ws key s else([],s)
def Zbiw (ws:List Zcj) (s:PS):RuleS×PS:=
 let a:=Zzr ws (keyP ws Zvc s)
 let i:=optP ws kIn (Zyk ws Zhj a.2)
 let o:=Zjb ws kOut i.2
 let f:=optP ws Zvb o.2
 let t:=Zbox ws f.2
 (⟨a.1,i.1,o.1,f.1,t.1⟩,Zyk ws Zhb t.2)
def Zbjj (ws:List Zcj):Nat->List RuleS->PS->List RuleS×PS
 | 0,acc,s=>(acc,s)
 | f+1,acc,s=>if !s.2 && !Ztp ws s then Zbjj ws f (acc ++ [(Zbiw ws s).1]) (Zbiw ws s).2 else(acc,s)
def Zbjo (ws:List Zcj) (s:PS):List RuleS×PS:=Zbjj ws (2*ws.length+2) [] s
def Znz (l:List UInt8):Except (Int×Int) (List RuleS):=
 if 20000<l.length then .error (4,-1)else
  match allS l with
  | .error p=> .error (1,p)
  | .ok ws=>let r:=Zbjo ws (0,false);if r.2.2 then .error (1,((wAt ws r.2.1).2.1:Int))else .ok r.1
def Zap (ws:List Zcj):Prop:=∀k,k<ws.length->(wAt ws k).1≠4->k+1<ws.length
theorem Zbrd (ws:List Zcj) (b:Bool) (s:PS):s.1<=(Zbqz ws b s).2.1:=by
 unfold Zbqz;split<;>simp
theorem Zbrg {ws:List Zcj} {b:Bool} {s:PS} (hs:s.2=false) (hb:b=true):Zbqz ws b s=(wTx ws s.1,(s.1+1,false)):=by
 unfold Zbqz;simp[hs,hb]
theorem Zbrf {ws:List Zcj} {b:Bool} {s:PS} (h:s.2=true∨b=false):Zbqz ws b s=(⟨#[]⟩,(s.1,true)):=by
 unfold Zbqz;rw[if_pos (by rcases h with h|h<;>simp[h])]
theorem Zwq {ws:List Zcj} {key:ByteArray} {s:PS} (h:Ztr ws key s=true):(wAt ws s.1).1≠4:=by
 unfold Ztr at h;intro e;simp[e]at h
theorem Zzv {ws:List Zcj} {s:PS} (h:Ztu ws s=true):(wAt ws s.1).1≠4:=by
 unfold Ztu at h;intro e;simp[e]at h
theorem Zyq {ws:List Zcj} {c:ByteArray} {s:PS} (h:Zts ws c s=true):(wAt ws s.1).1≠4:=by
 unfold Zts at h;intro e;simp[e]at h
structure Fr (Av:Nat->Prop) (w w':World):Prop where
 os:w'.os=w.os
 tape:w'.tape=w.tape
 output:w'.output=w.output
 size:w.heap.size<=w'.heap.size
 block:∀k,k<w.heap.size->¬Av k->w'.heap[k]? =w.heap[k]?
theorem Fr.refl (Av:Nat->Prop) (w:World):Fr Av w w:=⟨rfl,rfl,rfl,Nat.le_refl _,λ_ _ _=>rfl⟩
theorem Fr.trans {Av:Nat->Prop} {a b c:World} (h:Fr Av a b) (k:Fr Av b c):Fr Av a c:=
 ⟨k.os.trans h.os,k.tape.trans h.tape,k.output.trans h.output,Nat.le_trans h.size k.size,λi hi hn=>(k.block i (Nat.lt_of_lt_of_le hi h.size) hn).trans (h.block i hi hn)⟩
theorem Fr.mono {Av Av':Nat->Prop} {w w':World} (h:Fr Av w w') (hm:∀k,k<w.heap.size->Av k->Av' k):Fr Av' w w':=
 ⟨h.os,h.tape,h.output,h.size,λk hk hn=>h.block k hk λha=>hn (hm k hk ha)⟩
theorem Zpv {Av:Nat->Prop} {w w':World} (h:Below w.heap.size w w'):Fr Av w w':=⟨h.os,h.tape,h.output,h.size,λk hk _=>h.block k hk⟩
theorem Zpu (Av:Nat->Prop) (w:World) (o:Obj):Fr Av w (w.alloc o):=Zpv ((Below.refl _ _).alloc (Nat.le_refl _) _)
theorem Zpx {Av:Nat->Prop} {w w':World} {r:Option Nat} (h:w.grownBy w' r) (hr:∀k,r=some k->Av k):Fr Av w w':=
 ⟨h.os,h.tape,h.output,h.size,λk hk hn=>h.block k hk λe=>hn (hr k e.symm)⟩
theorem Zpy {Av:Nat->Prop} {w:World} {a:Addr} (ha:Av a.block) (u:Value):Fr Av w (w.setCell a u):=
 ⟨rfl,rfl,rfl,by simp[World.setCell],λk _ hn=>Below.heap_setCell _ _ _ _ λe=>hn (e▸ha)⟩
theorem Zpw (Av:Nat->Prop) (w:World):Fr Av w w.drew:=⟨rfl,rfl,rfl,Nat.le_refl _,λ_ _ _=>rfl⟩
theorem Fr.below {Av:Nat->Prop} {w w':World} (h:Fr Av w w') {B:Nat} (hB:B<=w.heap.size) (hn:∀k,k<B->¬Av k):Below B w w':=
 ⟨h.os,h.tape,h.output,h.size,λk hk=>h.block k (by omega) (hn k hk)⟩
def RowA (Av:Nat->Prop) (w:World) (v:Value) (k:Nat) (rows:List (List Value)):Prop:=
 IsRow w v k rows/\∀b,v.ownBlock=some b->b<w.heap.size/\¬Av b
theorem RowA.keep {Av:Nat->Prop} {w w':World} {v:Value} {k:Nat} {rows:List (List Value)} (h:RowA Av w v k rows) (hf:Fr Av w w'):RowA Av w' v k rows:=by
 obtain⟨⟨a,c,rfl,h1,h1m,h2⟩,hb⟩:=h;refine⟨⟨a,c,rfl,h1,h1m,λhne=>?_⟩,λb e=>⟨Nat.lt_of_lt_of_le (hb b e).1 hf.size,(hb b e).2⟩⟩;obtain⟨b,o,rfl,h3,h4⟩:=h2 hne;exact⟨b,o,rfl,Nat.lt_of_lt_of_le h3 hf.size,λj r hr i u hu=>(World.cell?_of_block (w:=w) (hf.block b h3 (hb b rfl).2)).trans (h4 j r hr i u hu)⟩
theorem RowA.mono {Av Av':Nat->Prop} {w:World} {v:Value} {k:Nat} {rows:List (List Value)} (h:RowA Av w v k rows) (hm:∀b,b<w.heap.size->Av' b->Av b):RowA Av' w v k rows:=
 ⟨h.1,λb e=>⟨(h.2 b e).1,λha=>(h.2 b e).2 (hm b (h.2 b e).1 ha)⟩⟩
theorem Zbie (Av:Nat->Prop) (w:World) (k:Nat):RowA Av w (.slice none 0 0) k []:=⟨⟨none,0,rfl,by simp,by simp[maxLen],λh=>absurd rfl h⟩,λb e=>by cases e⟩
theorem Zbif {w:World} {B k:Nat} {t:TypeId} {v:Value} {rows:List (List Value)} (h:w.ownsRow B t k v rows.length rows.flatten) (hk:∀r∈rows,r.length=k):RowA (λb=>b<B) w v k rows:=
 ⟨Zbij h hk,λb e=>⟨(h.lt b e).2,by have:=(h.lt b e).1;omega⟩⟩
def Zbpk (xs:List ByteArray):List (List Value):=xs.map λx=>[.string x]
theorem Zbpm (xs:List ByteArray):(Zbpk xs).flatten=xs.map Value.string:=by
 induction xs with
 | nil=>rfl
 | cons x xs ih=>simp[Zbpk]at ih⊢;exact ih
theorem Zbpo (xs:List ByteArray):(Zbpk xs).length=xs.length:=by simp[Zbpk]
theorem Zbpn (xs:List ByteArray):∀r∈Zbpk xs,r.length=1:=by
 intro r hr;obtain⟨x,_,rfl⟩:=List.mem_map.1 hr;rfl
def StrsA (Av:Nat->Prop) (w:World) (v:Value) (xs:List ByteArray):Prop:=RowA Av w v 1 (Zbpk xs)
theorem Zbqf {w:World} {B:Nat} {t:TypeId} {v:Value} {xs:List ByteArray} (h:w.ownsRow B t 1 v xs.length (xs.map Value.string)):StrsA (λb=>b<B) w v xs:=by
 refine Zbif (t:=t) ?_ (Zbpn xs);rw[Zbpm,Zbpo];exact h
structure PSt (w:World) (p:Nat) (v:Value) (ws:List Zcj) (s:PS):Prop where
 blk:w.heap[p]? =some (.cells #[v,.int .i64 (s.1:Int),.bool s.2] 156)
 row:RowA (λb=>b=p) w v 3 (Zbtf ws)
 lt:s.1<ws.length
 ends:Zap ws
theorem PSt.p_lt {w:World} {p:Nat} {v:Value} {ws:List Zcj} {s:PS} (h:PSt w p v ws s):p<w.heap.size:=by
 rcases Nat.lt_or_ge p w.heap.size with h'|h'
 ·exact h'
 ·have:=h.blk;rw[Array.getElem?_eq_none h']at this;cases this
theorem PSt.slice {w:World} {p:Nat} {v:Value} {ws:List Zcj} {s:PS} (h:PSt w p v ws s):
  ∃b o c,v = .slice (some ⟨b,o,none⟩) ws.length c/\ws.length<=c/\c<=maxLen/\b<w.heap.size/\b≠p/\
   w.cell? ⟨b,o+s.1*3,none⟩=some (.int .i64 (wAt ws s.1).1)/\w.cell? ⟨b,o+s.1*3+1,none⟩=some (.int .i64 ((wAt ws s.1).2.1:Int))/\w.cell? ⟨b,o+s.1*3+2,none⟩=some (.string (wTx ws s.1)):=by
 obtain⟨⟨⟨a,c,rfl,h1,h1m,h2⟩,h3⟩,hlt⟩:=And.intro h.row h.lt;have hne:Zbtf ws≠[]:=by
  intro e;have h0:ws.length=0:=by rw[<-Zbti ws,e];rfl
  omega
 obtain⟨b,o,rfl,h4,h5⟩:=h2 hne;rw[Zbti]at h1;have hr:(Zbtf ws)[s.1]? =some (Zbte (wAt ws s.1)):=by
  unfold Zbtf wAt;rw[List.getElem?_map,List.getD_eq_getElem?_getD,List.getElem?_eq_getElem hlt];rfl
 refine⟨b,o,c,by rw[Zbti],h1,h1m,h4,(h3 b rfl).2,h5 _ _ hr 0 _ rfl,h5 _ _ hr 1 _ rfl,h5 _ _ hr 2 _ rfl⟩
theorem PSt.len {w:World} {p:Nat} {v:Value} {ws:List Zcj} {s:PS} (h:PSt w p v ws s):ws.length<=9223372036854775807:=by
 obtain⟨b,o,c,_,h1,h2,_⟩:=h.slice;unfold maxLen at h2;omega
theorem PSt.fr {w w':World} {p:Nat} {v:Value} {ws:List Zcj} {s:PS} {Av:Nat->Prop} (h:PSt w p v ws s) (hf:Fr Av w w') (hp:¬Av p) (hv:∀b,v.ownBlock=some b->¬Av b):PSt w' p v ws s:=by
 refine⟨(hf.block p h.p_lt hp).trans h.blk,?_,h.lt,h.ends⟩;have h1:RowA Av w v 3 (Zbtf ws):=⟨h.row.1,λb e=>⟨(h.row.2 b e).1,hv b e⟩⟩;have h2:=h1.keep hf;exact⟨h2.1,λb e=>⟨(h2.2 b e).1,(h.row.2 b e).2⟩⟩
theorem PSt.below {w w':World} {p:Nat} {v:Value} {ws:List Zcj} {s:PS} (h:PSt w p v ws s) (hb:Below w.heap.size w w'):PSt w' p v ws s:=
 h.fr (Av:=λ_=>False) (Zpv hb) (λh=>h) (λ_ _ h=>h)
theorem PSt.alloc {w:World} {p:Nat} {v:Value} {ws:List Zcj} {s:PS} (h:PSt w p v ws s) (o:Obj):PSt (w.alloc o) p v ws s:=h.below ((Below.refl _ _).alloc (Nat.le_refl _) _)
theorem PSt.cells {w:World} {p:Nat} {v:Value} {ws:List Zcj} {s:PS} (h:PSt w p v ws s):
  w.cell? ⟨p,0,none⟩=some v/\w.cell? ⟨p,1,none⟩=some (.int .i64 (s.1:Int))/\w.cell? ⟨p,2,none⟩=some (.bool s.2)/\w.frozen? ⟨p,0,none⟩=false/\w.frozen? ⟨p,1,none⟩=false/\w.frozen? ⟨p,2,none⟩=false:=by
 simp[World.cell?,World.frozen?,h.blk]
theorem Zbhl {P:Program} {fn:Func} {p:Tmp} {ty:TypeId} (h:fn.results = #[.cell p ty]) (tmps:Array Value) (w:World) (g:Nat) (t:TypeId) (cs:Array Value) (fr:Nat×Nat) (d:TypeDesc)
 (hp:tmps.getD p undef = .pointer (some ⟨g,0,none⟩)) (hg:w.heap[g]? =some (.cells cs t fr))
 (hu:P.underlying ty=some d) (hd:(match d with | .struct _ | .array _ _=>true|_=>false)=true) (hi:(P.info? ty).map (·.size)=some cs.size):
 (results fn tmps).run P w = .ok (.agg cs) w:=results_cell_row h tmps w g t cs fr d hp hg hu hd hi
theorem fld0 (a b c:Value) (w:World):Sem.run prog (Instr.field 116 (.agg #[a,b,c]) 0) w = .ok a w:=by
 unfold Instr.field;simp[go_sem,part,asAgg]
theorem fld1 (a b c:Value) (w:World):Sem.run prog (Instr.field 116 (.agg #[a,b,c]) 1) w = .ok b w:=by
 unfold Instr.field;simp[go_sem,part,asAgg]
theorem fld2 (a b c:Value) (w:World):Sem.run prog (Instr.field 116 (.agg #[a,b,c]) 2) w = .ok c w:=by
 unfold Instr.field;simp[go_sem,part,asAgg]
def wVal (ws:List Zcj) (s:PS):Value:= .agg #[.int .i64 (wAt ws s.1).1,.int .i64 ((wAt ws s.1).2.1:Int),.string (wTx ws s.1)]
set_option maxHeartbeats 1000000 in
set_option maxRecDepth 100000 in
theorem Zbtl (p:Nat) (v:Value) (ws:List Zcj) (s:PS) (w:World) (h:PSt w p v ws s):
  Calls prog 126 #[.pointer (some ⟨p,0,none⟩)] w λe w'=>e = .returned (wVal ws s)/\Below w.heap.size w w':=by
 obtain⟨o0,ho0⟩:∃o:Obj,o = .cells #[.int .i64 0,.int .i64 0,.string ⟨#[]⟩] 116:=⟨_,rfl⟩;have hA:=h.alloc o0;obtain⟨c0,c1,c2,f0,f1,f2⟩:=hA.cells;obtain⟨b,o,c,rfl,hl,hm,hb,hbp,d0,d1,d2⟩:=hA.slice;have hlt:=h.lt;have hi1:(s.1:Int)<(ws.length:Int):=by omega
 subst ho0;unfold wVal;clear hA h
 go_enter func126,ntmps126
 go_wp2_with fail
 go_region
 all_goals go_wp2
 all_goals refine bodyPost_ret (Zbhl rfl _ _ w.heap.size _ _ _ _ rfl (alloc_at w _) underlying116 rfl (by kernel_rfl)) rfl ?_
 all_goals exact⟨rfl,((Below.refl _ _).alloc (Nat.le_refl _) _).drew⟩
theorem PSt.setFailed {w:World} {p:Nat} {v:Value} {ws:List Zcj} {s:PS} (h:PSt w p v ws s) (b:Bool):PSt (w.setCell ⟨p,2,none⟩ (.bool b)) p v ws (s.1,b):=
 ⟨heap_set 2 (.bool b) h.blk,h.row.keep (Zpy (a:=⟨p,2,none⟩) (Av:=λb=>b=p) rfl _),h.lt,h.ends⟩
theorem PSt.setNext {w:World} {p:Nat} {v:Value} {ws:List Zcj} {s:PS} (h:PSt w p v ws s) {k:Nat} (hk:k<ws.length) (n:Int) (hn:n=(k:Int)):PSt (w.setCell ⟨p,1,none⟩ (.int .i64 n)) p v ws (k,s.2):=by
 subst hn;exact⟨heap_set 1 _ h.blk,h.row.keep (Zpy (a:=⟨p,1,none⟩) (Av:=λb=>b=p) rfl _),hk,h.ends⟩
def After (w w':World) (p:Nat) (v:Value) (ws:List Zcj) (s':PS):Prop:=PSt w' p v ws s'/\Fr (λb=>b=p) w w'
theorem After.trans {a b c:World} {p:Nat} {v:Value} {ws:List Zcj} {s s':PS} (h:After a b p v ws s) (k:After b c p v ws s'):After a c p v ws s':=⟨k.1,h.2.trans k.2⟩
theorem After.of_below {w w':World} {p:Nat} {v:Value} {ws:List Zcj} {s:PS} (h:PSt w p v ws s) (hb:Below w.heap.size w w'):After w w' p v ws s:=⟨h.below hb,Zpv hb⟩
set_option maxHeartbeats 1000000 in
set_option maxRecDepth 100000 in
theorem Zbrb (p:Nat) (v:Value) (ws:List Zcj) (s:PS) (fits:Bool) (w:World) (h:PSt w p v ws s) (hf:fits=true->(wAt ws s.1).1≠4):
  Calls prog 266 #[.pointer (some ⟨p,0,none⟩),.bool fits] w λe w'=>e = .returned (.string (Zbqz ws fits s).1)/\After w w' p v ws (Zbqz ws fits s).2:=by
 obtain⟨c0,c1,c2,f0,f1,f2⟩:=h.cells;have HP:=hid h;have hno:=h.setFailed true;have HNO:=hid hno;obtain⟨k,fl⟩:=s
 cases fl
 ·cases fits
  ·rw[Zbrf (.inr rfl)]
   clear h hno
   go_enter func266,ntmps266
   go_wp2;go_ret;exact⟨rfl,HNO.out,Zpy (a:=⟨p,2,none⟩) (Av:=λb=>b=p) rfl _⟩
  ·rw[Zbrg rfl rfl]
   have hlt:=h.ends _ h.lt (hf rfl);have hlen:=h.len;have hn:IntKind.i64.wrap ((k:Int)+1)=((k+1:Nat):Int):=by
    rw[show((k:Int)+1)=((k+1:Nat):Int) by omega];exact IntWalk.i64_in _ (by simp only at hlt;omega)
   have cW:=Zbtl p v ws (k,false) w h;unfold wVal at cW;clear hno h hf hlen
   go_enter func266,ntmps266
   go_wp2_with fail
   refine cW.mono ?_;rintro e w2 ⟨rfl,hb2⟩;have hP2:=HP.out.below hb2;obtain⟨d0,d1,d2,g0,g1,g2⟩:=hP2.cells;have HP2:=hid hP2;have HB2:=hid hb2;clear hP2 hb2 c0 c1 c2 f0 f1 f2 cW;have F2:=fld2;go_wp2;go_ret;exact⟨rfl,HP2.out.setNext hlt _ rfl,(Zpv HB2.out).trans (Zpy (a:=⟨p,1,none⟩) (Av:=λb=>b=p) rfl _)⟩
 ·rw[Zbrf (.inl rfl)]
  clear h hno
  go_enter func266,ntmps266
  go_wp2;go_ret;exact⟨rfl,HNO.out,Zpy (a:=⟨p,2,none⟩) (Av:=λb=>b=p) rfl _⟩
structure GP (p:Nat) (w:World):Prop where
 glob:Glob w
 ops:∀(k:Nat) x,Zbcr[k]? =some x->w.cell? ⟨0,k,none⟩=some (.string ⟨x.toArray⟩)
 l1:1<p
 l2:2<p
 l3:3<p
 l4:4<p
 l5:0<p
theorem GP.below {p:Nat} {w w':World} (h:GP p w) (hb:Below p w w'):GP p w':=by
 obtain⟨⟨⟨m,hm⟩,ht,htop,⟨t1,p1,h1⟩,⟨t2,p2,h2⟩⟩,ho,l1,l2,l3,l4,l5⟩:=h;exact⟨⟨⟨m,(hb.cell l1).trans hm⟩,var?_below hb (by kernel_rfl) l2 ht,Nat.lt_of_lt_of_le htop hb.size,⟨t1,p1,(hb.cell l3).trans h1⟩,⟨t2,p2,(hb.cell l4).trans h2⟩⟩,
  λk x hx=>(hb.cell (p:=⟨0,k,none⟩) l5).trans (ho k x hx),l1,l2,l3,l4,l5⟩
theorem GP.fr {p:Nat} {w w':World} (h:GP p w) (hp:p<=w.heap.size) (hf:Fr (λb=>b=p) w w'):GP p w':=h.below (hf.below hp λk hk e=>by omega)
theorem Zbpx (a b:ByteArray):(a.toList==b.toList)=decide (a.data.toList=b.data.toList):=by
 rw[Lib.toList_data,Lib.toList_data,Bool.eq_iff_iff];simp
set_option maxHeartbeats 1000000 in
set_option maxRecDepth 100000 in
theorem Zbcs (t:ByteArray) (p:Nat) (w:World) (hg:GP p w):
  Calls prog 77 #[.string t] w λe w'=>e = .returned (.int .i64 (Zbcq t.data.toList:Nat))/\w=w':=by
 have HO:=hid hg.ops;obtain⟨E,hE⟩:∃E,Zbcq t.data.toList=E:=⟨_,rfl⟩;rw[hE];have HE:=hid hE;clear hE hg
 go_enter func77,ntmps77
 go_wp2
 go_loop [4] (λi=>∃k:Nat,i = .int .i64 k/\k<=10/\opGo (Zbcr.drop k) k t.data.toList=E) (λi=>10-(intOf i).toNat)
 case atStart=>exact⟨0,rfl,by omega,HE.out⟩
 case round=>
  obtain⟨k,rfl,hk,hr⟩:=hrel;have HR:=hid hr;clear hr
  by_cases hlt:k<10
  ·obtain⟨x,hx⟩:∃x,Zbcr[k]? =some x:=⟨Zbcr[k]'(by simpa[Zbcr]using hlt),List.getElem?_eq_getElem _⟩
   have hc:=HO.out k x hx;have hd:Zbcr.drop k=x::Zbcr.drop (k+1):=by
    obtain⟨hl,hg⟩:=List.getElem?_eq_some_iff.1 hx;rw[List.drop_eq_getElem_cons hl,hg]
   have hstep:=HR.out;rw[hd]at hstep;have hlt':(k:Int)<10:=by omega
   obtain⟨X,hX⟩:∃X:ByteArray,(⟨x.toArray⟩:ByteArray)=X:=⟨_,rfl⟩;have hXd:X.data.toList=x:=by rw[<-hX]
   rw[hX]at hc
   by_cases he:x=t.data.toList
   ·have hb:(X.toList==t.toList)=true:=by rw[Zbpx,hXd];simp[he]
    have hE:k=E:=by rw[<-hstep];simp[opGo,he]
    have HE2:=hid hE;clear hE hstep hd hx he hX hXd;go_wp2;go_ret;exact⟨Zbhp (by rw[HE2.out]),rfl⟩
   ·have hb:(X.toList==t.toList)=false:=by rw[Zbpx,hXd];simp[he]
    have hE:opGo (Zbcr.drop (k+1)) (k+1) t.data.toList=E:=by rw[<-hstep];simp[opGo,he]
    have HE2:=hid hE;clear hE hstep hd hx he hX hXd;go_wp2
    go_round
    case rel=>exact⟨k+1,by go_num,by omega,HE2.out⟩
    case measure=>simp[intOf];omega
  ·have hk10:k=10:=by omega
   subst hk10;have hE:0=E:=HR.out;have HE2:=hid hE;clear hE;go_wp2;go_ret;exact⟨Zbhp (by rw[<-HE2.out];rfl),rfl⟩
end Go.Proofs.YtcpjfpdecklkgaaGreatDoor
