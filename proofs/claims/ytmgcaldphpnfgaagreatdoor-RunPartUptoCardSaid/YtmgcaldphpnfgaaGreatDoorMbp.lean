import Derived.Test.YtmgcaldphpnfgaaGreatDoorMbo
namespace Go.Proofs.YtmgcaldphpnfgaaGreatDoor
open Go.Lib (hid)
open Go.RowKit
def Zbyf (vs:List (Bool×ByteArray)):List Value:=(vs.map λf=>[Value.bool f.1,Value.string f.2]).flatten
theorem Zbyi (f:(Bool×ByteArray)) (vs:List (Bool×ByteArray)):Zbyf (f::vs) = .bool f.1 :: .string f.2::Zbyf vs:=by simp[Zbyf]
theorem Zbyg (a b:List (Bool×ByteArray)):Zbyf (a++b)=Zbyf a++Zbyf b:=by simp[Zbyf]
theorem Zbyh (vs:List (Bool×ByteArray)):∀(j:Nat) (x:(Bool×ByteArray)),vs[j]? =some x->(Zbyf vs)[j*2]? =some (.bool x.1)/\(Zbyf vs)[j*2+1]? =some (.string x.2):=by
 induction vs with
 | nil=>intro j x h;simp at h
 | cons f fs ih=>
  intro j x h;rw[Zbyi]
  cases j with
  | zero=>simp at h;subst h;simp
  | succ j=>rw[Nat.add_mul];simpa using ih j x (by simpa using h)
theorem Zbyj {w:World} {B:Nat} {v:Value} {vs:List (Bool×ByteArray)} (hown:w.ownsRow B 28 2 v vs.length (Zbyf vs)):Zbb w v vs:=by
 obtain⟨hl,⟨rfl,h0⟩|⟨g,c,cur,rfl,hgB,hg,hnc,hcm,hcs,htk⟩⟩:=hown
 ·obtain rfl:=List.eq_nil_of_length_eq_zero h0
  exact⟨none,0,rfl,by simp,by simp[maxLen],λh=>absurd rfl h⟩
 ·refine⟨_,c,rfl,hnc,hcm,λ_=>⟨g,0,rfl,?_,λj x hx=>?_⟩⟩
  ·rcases Nat.lt_or_ge g w.heap.size with h|h
   ·exact h
   ·rw[Array.getElem?_eq_none h]at hg;cases hg
  ·have key:∀(t:Nat) u,(Zbyf vs)[t]? =some u->w.cell? ⟨g,t,none⟩=some u:=by
    intro t u hu;rw[<-htk,List.getElem?_take]at hu;split at hu
    ·simp only[World.cell?,hg];simpa using hu
    ·cases hu
   have:=Zbyh vs j x hx;rw[Nat.zero_add];exact⟨key _ _ this.1,key _ _ this.2⟩
def oneV (x:(Bool×ByteArray)):(Bool×ByteArray):=(x.1,if x.1 then x.2 else ByteArray.empty)
def tenV (vs:List (Bool×ByteArray)):List (Bool×ByteArray):=(vs.take 10).map oneV
theorem Zcjk (vs:List (Bool×ByteArray)):(tenV vs).length=min 10 vs.length:=by simp[tenV]
theorem Zbxf (s:ByteArray):oneV (false,s)=(false,⟨#[]⟩):=rfl
theorem Zbxg (s:ByteArray):oneV (true,s)=(true,s):=rfl
theorem Zbyd (vs:List (Bool×ByteArray)) (k:Nat) (x:(Bool×ByteArray)) (h:vs[k]? =some x):(vs.take (k+1)).map oneV=(vs.take k).map oneV ++ [oneV x]:=by
 rw[List.take_add_one,h,List.map_append];rfl
def Zbuz (w:World) (vs:List (Bool×ByteArray)) (e:Ending) (w':World):Prop:=
 ∃v,e = .returned v/\w'.ownsRow w.heap.size 28 2 v vs.length (Zbyf vs)/\Below w.heap.size w w'
theorem Zbwk:(Tryz.prog.info? 28).map (λi=>(i.zero,i.size,i.bytes))=some (some (.agg #[.bool false,.string ByteArray.empty]),2,24):=by kernel_rfl
set_option maxHeartbeats 2000000 in
set_option maxRecDepth 100000 in
theorem Zbyb (v:Value) (vs:List (Bool×ByteArray)) (w:World) (h:Zbb w v vs):
  Calls Tryz.prog 15 #[v] w (Zbuz w (tenV vs)):=by
 obtain⟨a,c,rfl,h1,h1m,h2⟩:=h;obtain⟨i0,hi,hz0,hz1,hz2⟩:=info_parts Zbwk;have hcells:∀(k:Nat) x,vs[k]? =some x->∃b o,a=some ⟨b,o,none⟩/\b<w.heap.size/\w.cell? ⟨b,o+k*2,none⟩=some (.bool x.1)/\w.cell? ⟨b,o+k*2+1,none⟩=some (.string x.2):=by
  intro k x hx;obtain⟨b,o,ha,hb,hc⟩:=h2 (by rintro rfl;simp at hx);exact⟨b,o,ha,hb,hc k x hx⟩
 have HC:=hid hcells;have HNEXT:=hid (Zbyd vs);have HEND:Hid (∀k,(k=10∨k=vs.length)->k<=10->(vs.take k).map oneV=tenV vs):=by
  show ∀k,_;intro k hk h10;unfold tenV
  rcases hk with rfl|rfl
  ·rfl
  ·rw[List.take_of_length_le (Nat.le_refl _),List.take_of_length_le h10]
 clear hcells h2;unfold maxLen at h1m
 go_enter Tryz.func15,Tryz.ntmps15
 go_wp2
 go_loopw [3,4] (λl i wr=>∃(k:Nat),k<=vs.length/\k<=10/\i = .int .i64 k/\wr.ownsRow w.heap.size 28 2 l ((vs.take k).map oneV).length (Zbyf ((vs.take k).map oneV))/\Below w.heap.size w wr)
  (λ_ i _=>vs.length-(intOf i).toNat)
 case atStart=>exact⟨0,Nat.zero_le _,by omega,rfl,by simpa[Zbyf]using World.ownsRow_nil _ _ _ _,Below.refl _ _⟩
 case round=>
  obtain⟨k,hk,hk10,rfl,hown,hnx⟩:=hrel
  by_cases hlt:k<vs.length
  ·by_cases hlt10:k<10
   ·obtain⟨x,hx⟩:∃x,vs[k]? =some x:=⟨vs[k],List.getElem?_eq_getElem hlt⟩
    obtain⟨b,o,ha,hb,hc0,hc1⟩:=HC.out k x hx;subst ha;have hcx0:wr.cell? ⟨b,o+k*2,none⟩=some (.bool x.1):=(hnx.cell (by exact hb)).trans hc0;have hcx1:wr.cell? ⟨b,o+k*2+1,none⟩=some (.string x.2):=(hnx.cell (by exact hb)).trans hc1;have hms1:=HNEXT.out k x hx;have hkl:((vs.take k).map oneV).length<=k:=by rw[List.length_map];exact List.length_take_le _ _
    have HM1:=hid hms1;have HNX:=hid hnx;have hs1:=hnx.size;have HOWN:=hid hown;clear hms1 hc0 hc1 hx hown hnx;obtain⟨ok,s⟩:=x;simp only at hcx0 hcx1
    cases ok
    ·rw[Zbxf]at HM1
     have hown2:=HOWN.out
     go_wp2_with (at_builtin;refine wpList_append_own _ rfl _ _ 26 rfl w.heap.size 28 i0 _ 2 24 Tryz.underlying26 hi hz0 hz1 hz2 rfl (by decide) _ _ _ rfl ((hown2.alloc _).alloc _) ⟨wr.heap.size+1,0,none⟩ 1 1 [.bool false,.string ⟨#[]⟩] rfl rfl ?c1 ?c2 ?c3 ?c4 ?c5 ?_)
     case c1=>
      intro j u hj
      match j,hj with
      | 0,hj=>simp at hj;subst hj;simp[Addr.add]
      | 1,hj=>simp at hj;subst hj;simp[Addr.add]
     case c2=>intro u hu;simp at hu;rcases hu with rfl|rfl<;>rfl
     case c3=>unfold maxLen;omega
     case c4=>omega
     case c5=>simp;omega
     intro v' w3 hown' hgrow _;have hnx':Below w.heap.size w w3:=((HNX.out.alloc hs1 _).alloc (by simp;omega) _).grown hgrow (by simp;omega) (λg hg=>(hown2.lt g hg).1);have HO:Hid (w3.ownsRow w.heap.size 28 2 v' ((vs.take (k+1)).map oneV).length (Zbyf ((vs.take (k+1)).map oneV))):=by
      show w3.ownsRow _ _ _ _ _ _;rw[HM1.out,List.length_append,Zbyg,List.map_take,show((vs.map oneV).take k).length=k by simp;omega];exact hown'
     clear hgrow hown2 hown';go_wp2;go_roundw
     case rel=>exact⟨k+1,by omega,by omega,by go_num,HO.out,hnx'⟩
     case measure=>simp[intOf];omega
    ·rw[Zbxg]at HM1
     have hown2:=HOWN.out
     go_wp2_with (at_builtin;refine wpList_append_own _ rfl _ _ 26 rfl w.heap.size 28 i0 _ 2 24 Tryz.underlying26 hi hz0 hz1 hz2 rfl (by decide) _ _ _ rfl ((hown2.alloc _).alloc _) ⟨wr.heap.size+1,0,none⟩ 1 1 [.bool true,.string s] rfl rfl ?c1 ?c2 ?c3 ?c4 ?c5 ?_)
     case c1=>
      intro j u hj
      match j,hj with
      | 0,hj=>simp at hj;subst hj;simp[Addr.add]
      | 1,hj=>simp at hj;subst hj;simp[Addr.add]
     case c2=>intro u hu;simp at hu;rcases hu with rfl|rfl<;>rfl
     case c3=>unfold maxLen;omega
     case c4=>omega
     case c5=>simp;omega
     intro v' w3 hown' hgrow _;have hnx':Below w.heap.size w w3:=((HNX.out.alloc hs1 _).alloc (by simp;omega) _).grown hgrow (by simp;omega) (λg hg=>(hown2.lt g hg).1);have HO:Hid (w3.ownsRow w.heap.size 28 2 v' ((vs.take (k+1)).map oneV).length (Zbyf ((vs.take (k+1)).map oneV))):=by
      show w3.ownsRow _ _ _ _ _ _;rw[HM1.out,List.length_append,Zbyg,List.map_take,show((vs.map oneV).take k).length=k by simp;omega];exact hown'
     clear hgrow hown2 hown';go_wp2;go_roundw
     case rel=>exact⟨k+1,by omega,by omega,by go_num,HO.out,hnx'⟩
     case measure=>simp[intOf];omega
   ·have hk':k=10:=by omega
    have hE:=HEND.out k (.inl hk') hk10;rw[hE]at hown;have hV:=hid hown;clear hE hown hk';go_wp2;go_ret;exact⟨_,rfl,hV.out,hnx⟩
  ·have hk':k=vs.length:=by omega
   have hE:=HEND.out k (.inr hk') hk10;rw[hE]at hown;have hV:=hid hown;clear hE hown hk';go_wp2;go_ret;exact⟨_,rfl,hV.out,hnx⟩
open Go.Shelf
set_option maxRecDepth 100000 in
theorem Zcjd (a:Bool) (s:ByteArray) (w:World):(Go.binOp .neq 28 (.agg #[.bool a,.string s]) (.agg #[.bool a,.string s])).run Tryz.prog w = .ok (.bool false) w:=by
 have h1:=Tryz.underlying4;have h2:=Tryz.underlying9;have z1:=Tryz.sizeOf4;have z2:=Tryz.sizeOf9;rw[run_neq_struct,run_equalIn_agg w 9999 _ _ _ Zbsf Zbse];simp only[Program.fieldsOf,Tryz.underlying28]
 cases a<;>go_simp
open Go.Maps
theorem Zcjm {w:World} {v:Value} {xs:List ValT} (h:Zbb w v xs):∃a c,v = .slice a xs.length c/\xs.length<=c/\c<=maxLen/\∀(k:Nat) x,xs[k]? =some x->∃b o,a=some ⟨b,o,none⟩/\∀W,Below w.heap.size w W->W.cell? ⟨b,o+k*2,none⟩=some (.bool x.1)/\W.cell? ⟨b,o+k*2+1,none⟩=some (.string x.2):=by
 obtain⟨a,c,rfl,h1,h2,h3⟩:=h;refine⟨a,c,rfl,h1,h2,λk x hx=>?_⟩;obtain⟨b,o,e,hb,hc⟩:=h3 (by rintro rfl;simp at hx);obtain⟨c1,c2⟩:=hc k x hx;exact⟨b,o,e,λW hW=>⟨(hW.cell (p:=⟨b,o+k*2,none⟩) hb).trans c1,(hW.cell (p:=⟨b,o+k*2+1,none⟩) hb).trans c2⟩⟩
set_option maxHeartbeats 4000000
set_option maxRecDepth 100000
def Zcjc:ValT:=(true,⟨#[108,105,110,101,10]⟩)
def insV (n:Nat) (vs:List ValT):List ValT:=(List.range n).map λi=>(tenV vs).getD i Zcjc
theorem Zciz (n:Nat) (vs:List ValT):(insV n vs).length=n:=by simp[insV]
theorem Zciy {n:Nat} {vs:List ValT} {i:Nat} (h:i<n):(insV n vs)[i]? =some ((tenV vs).getD i Zcjc):=by
 unfold insV;rw[List.getElem?_map,List.getElem?_range h];rfl
theorem Zcjl {m:Nat} {vs:List ValT} (h:∀v∈vs,v.2.size<=m):∀v∈tenV vs,v.2.size<=m:=by
 intro v hv;obtain⟨x,hx,rfl⟩:=List.mem_map.1 (show v∈(vs.take 10).map oneV from hv);have:=h x (List.mem_of_mem_take hx);unfold oneV;simp only;split
 ·exact this
 ·exact Nat.zero_le _
theorem Zcja {m n:Nat} {vs:List ValT} (hm:5<=m) (h:∀v∈vs,v.2.size<=m):∀v∈insV n vs,v.2.size<=m:=by
 intro v hv;obtain⟨i,_,rfl⟩:=List.mem_map.1 (show v∈(List.range n).map _ from hv);show((tenV vs).getD i Zcjc).2.size<=m;rw[List.getD_eq_getElem?_getD]
 cases hi:(tenV vs)[i]? with
 | none=>exact hm
 | some x=>exact Zcjl h x (List.mem_of_getElem? hi)
def Zciw (n:Nat) (vs:List ValT) (w:World) (e:Ending) (w':World):Prop:=∃g,e = .returned (.slice (some ⟨g,0,none⟩) n n)/\ValRow w' g (insV n vs)/\w.heap.size<=g/\Below w.heap.size w w'
theorem Zcjf {w:World} {g:Nat} {xs:List ValT} (h:ValRow w g xs):g<w.heap.size:=by
 obtain⟨cur,hg,_⟩:=h;exact(Array.getElem?_eq_some_iff.1 hg).1
set_option maxHeartbeats 8000000
set_option maxRecDepth 100000
theorem Zcjb (x:RuleS) (a1 a2 a3 a4:Option Addr) (c1 c2 c3 c4:Nat) (v:Value) (vs:List ValT) (w:World) (hv:Zbb w v vs) (hn:x.ins.length<=1000000):
  Calls Tryz.prog 14 #[.agg (Zbiz x a1 a2 a3 a4 c1 c2 c3 c4),v] w (Zciw x.ins.length vs w):=by
 obtain⟨B,hB⟩:∃m,w.heap.size=m:=⟨_,rfl⟩;obtain⟨W0,hW0⟩:∃V,w.alloc (.cells (Zbiz x a1 a2 a3 a4 c1 c2 c3 c4) 25)=V:=⟨_,rfl⟩;have hb0:Below B w W0:=by rw[<-hW0,<-hB];exact(Below.refl _ _).alloc (Nat.le_refl _) _
 have hs0:W0.heap.size=B+1:=by rw[<-hW0];simp[hB]
 have hx0:W0.heap[B]? =some (.cells (Zbiz x a1 a2 a3 a4 c1 c2 c3 c4) 25):=by rw[<-hW0,<-hB];exact alloc_at w _
 have CV:=hid (Zbyb v vs W0 (Zbsi hv (by rw[hB];exact hb0)));obtain⟨va,vc,rfl,_,_,_⟩:=Zcjm hv;unfold Zbuz at CV;obtain⟨n,hnn⟩:∃n,x.ins.length=n:=⟨_,rfl⟩;unfold Zciw;rw[hB,hnn];have hn':n<=1000000000:=by omega
 have HX0:Hid (∀V,Below W0.heap.size W0 V->V.cell? ⟨B,1,none⟩=some (.slice a1 n c1)):=by
  show ∀V,_;intro V hV;obtain⟨_,d1,_⟩:=cells5 ((hV.block B (by omega)).trans hx0);rw[<-hnn];exact d1
 have HW0:=hid hW0;have HB0:=hid hb0;have HS0:=hid hs0;have hmk:=Zyh n hn';clear hv hW0 hb0 hs0 hx0
 go_enter Tryz.func14,Tryz.ntmps14
 go_wp2_with fail
 rw[HW0.out];refine CV.out.mono ?_;rintro e w2 ⟨v1,rfl,hown,hb2⟩;have d1:=HX0.out w2 hb2;obtain⟨ua,uc,rfl,_,hum,huc⟩:=Zcjm (Zbyj hown);obtain⟨m,hmm⟩:∃m,(tenV vs).length=m:=⟨_,rfl⟩;rw[hmm];have hm10:m<=10:=by rw[<-hmm,Zcjk];omega
 have HUC:=hid huc;have HMM:=hid hmm;have H02:Hid (Below B w w2):=hid (HB0.out.trans (hb2.mono (by have:=HS0.out;omega)));have HBG:Hid (B<=w2.heap.size):=hid (by have:=HS0.out;have:=hb2.size;omega);have HMADE:=hid (Zbsc w2 n);clear hown huc hb2 hmm hum hn hnn;go_wp2;obtain⟨G,hG⟩:∃g,w2.heap.size=g:=⟨_,rfl⟩;rw[hG]at HUC HMADE HBG⊢;have HGE:=hid hG;clear hG
 go_loopw [15] (λiv wr=>∃(k:Nat) (L:List ValT),k<=n/\iv = .int .i64 (k:Int)/\ValRow wr G L/\L.length=n/\(∀j,j<k->L[j]? =(insV n vs)[j]?)/\Below G w2 wr) (λiv _=>n-(intOf iv).toNat)
 case atStart=>exact⟨0,List.replicate n noV,Nat.zero_le _,rfl,HMADE.out,by simp,λj hj=>absurd hj (Nat.not_lt_zero _),(Below.refl _ _).alloc (by rw[HGE.out];exact Nat.le_refl _) _⟩
 case round=>
  obtain⟨k,L,hk,rfl,hrow,hL,hpre,hnx⟩:=hrel;obtain⟨WR,rfl⟩:∃V,V=wr:=⟨_,rfl⟩
  by_cases hlt:k<n
  ·obtain⟨y,hy⟩:∃y,L[k]? =some y:=⟨L[k]'(by omega),List.getElem?_eq_getElem _⟩
   obtain⟨p0,p1,p2,p3⟩:=hrow.cells hy;have hset:=hrow.set k Zcjc (by omega);have hk0:(0:Int)<=(k:Int):=by omega
   have hk1:(k:Int)<(n:Int):=by omega
   obtain⟨W1,hW1⟩:∃V,(WR.setCell ⟨G,k*2,none⟩ (.bool true)).setCell ⟨G,k*2+1,none⟩ (.string ⟨#[108,105,110,101,10]⟩)=V:=⟨_,rfl⟩;have hset:ValRow W1 G (L.set k Zcjc):=by rw[<-hW1];exact hset
   have hb1:Below G w2 W1:=by rw[<-hW1];exact(hnx.setCell (p:=⟨G,k*2,none⟩) (Nat.le_refl _) _).setCell (p:=⟨G,k*2+1,none⟩) (Nat.le_refl _) _
   have hrel:∀t:ValT,(insV n vs)[k]? =some t->((L.set k Zcjc).set k t).length=n/\(∀j,j<k+1->((L.set k Zcjc).set k t)[j]? =(insV n vs)[j]?):=by
    intro t ht;refine⟨by simp[hL],λj hj=>?_⟩;rw[List.getElem?_set,List.getElem?_set]
    by_cases hjk:k=j
    ·subst hjk
     rw[if_pos rfl,if_pos (by rw[List.length_set];omega),ht]
    ·rw[if_neg hjk,if_neg hjk]
     exact hpre j (by omega)
   have hkv:=Zciy (vs:=vs) hlt;have HREL:=hid hrel;have HSET:=hid hset;have HB1:=hid hb1;have HKV:=hid hkv;have HW1:=hid hW1;have HLN:=hid hL;clear hy hrow hL hpre hnx hset hW1 hb1 hrel hkv
   go_upto_region 7 with fail
   rw[HW1.out];clear p0 p1 p2 p3
   by_cases hkm:k<m
   ·have hk2:(k:Int)<(m:Int):=by omega
    obtain⟨t,ht⟩:∃t,(tenV vs)[k]? =some t:=⟨(tenV vs)[k]'(by rw[HMM.out];exact hkm),List.getElem?_eq_getElem _⟩;obtain⟨ub,uo,q1,hu⟩:=HUC.out k t ht;subst q1;obtain⟨u0,u1⟩:=hu W1 HB1.out;obtain⟨p0,p1,p2,p3⟩:=HSET.out.cells (j:=k) (x:=Zcjc) (by rw[List.getElem?_set,if_pos rfl,if_pos (by rw[HLN.out];exact hlt)]);have hset2:=HSET.out.set k t (by rw[List.length_set,HLN.out];exact hlt);have hb2:=(HB1.out.setCell (p:=⟨G,k*2,none⟩) (Nat.le_refl _) (.bool t.1)).setCell (p:=⟨G,k*2+1,none⟩) (Nat.le_refl _) (.string t.2);have hkt:=HKV.out;rw[List.getD_eq_getElem?_getD,ht]at hkt;have HS2:=hid hset2;have HB2:=hid hb2;have HKT:=hid hkt;obtain⟨t0,t1⟩:=t;unfold Zcjc at p0 p1;simp only at u0 u1 p0 p1;clear hset2 hb2 hkt ht hu;go_wp2;go_roundw
    case rel=>exact⟨k+1,_,by omega,by go_num,HS2.out,(HREL.out _ HKT.out).1,(HREL.out _ HKT.out).2,HB2.out⟩
    case measure=>simp[intOf];omega
   ·have hk2:¬(k:Int)<(m:Int):=by omega
    have hkt:=HKV.out;have hzn:(tenV vs)[k]? =none:=List.getElem?_eq_none (by rw[HMM.out];omega);rw[List.getD_eq_getElem?_getD,hzn]at hkt;have HKT:=hid hkt;clear hkt;go_wp2;go_roundw
    case rel=>
     obtain⟨r1,r2⟩:=HREL.out Zcjc HKT.out;have e:(L.set k Zcjc).set k Zcjc=L.set k Zcjc:=List.set_set ..;rw[e]at r1 r2;exact⟨k+1,_,by omega,by go_num,HSET.out,r1,r2,HB1.out⟩
    case measure=>simp[intOf];omega
  ·have hi1:¬(k:Int)<(n:Int):=by omega
   have hE:L=insV n vs:=by
    apply List.ext_getElem?;intro j
    by_cases hj:j<k
    ·exact hpre j hj
    ·rw[List.getElem?_eq_none (by omega),List.getElem?_eq_none (by rw[Zciz];omega)]
   rw[hE]at hrow;have HR:=hid hrow;have HNX:=hid hnx;clear hrow hL hpre hnx hE;go_wp2;go_ret;exact⟨G,rfl,HR.out,HBG.out,H02.out.trans (HNX.out.mono HBG.out)⟩
theorem Zcbk {r:RuleS} (h:Zbip r=0):Zbj r:=by
 have hc:=Zbiq r;rw[h]at hc
 rcases hc with⟨_,e⟩|⟨_,_,e⟩|⟨_,_,_,e⟩|⟨_,_,e,_⟩
 ·exact absurd e (by decide)
 ·exact absurd e (by decide)
 ·exact absurd e (by decide)
 ·exact e
theorem Zcbj {r:RuleS} (hN:Zbj r) {j k:Nat} {s t:StepS} (hj:r.steps[j]? =some s) (hk:r.steps[k]? =some t) (hjk:j<=k):t.out∉s.args:=by
 intro hm;obtain⟨_,_,_,_,hS,_⟩:=hN;obtain⟨_,_,a1⟩:=hS j s hj;obtain⟨b1,b2,_⟩:=hS k t hk;have:=a1 _ hm;rw[Zok]at b1 b2;rw[Zok,Zok]at this;refine this ⟨b1,λh=>b2 ?_⟩;unfold Zbdi at h⊢;obtain⟨x,hx,e⟩:=List.mem_map.1 h;exact List.mem_map.2 ⟨x,List.take_subset_take_left _ hjk hx,e⟩
theorem Zcbn (outs:List ByteArray):∀(l:List StepS) (k:Nat) (s:StepS),l[k]? =some s->(Zcbl outs l)[k]? =some (decide (0<=Zoi outs s.out)||anyQ s.out (l.drop (k+1)) ((Zcbl outs l).drop (k+1)))
 | [],k,s,h=>by simp at h
 | x::l,0,s,h=>by
  obtain rfl:x=s:=by simpa using h
  simp[Zcbl]
 | x::l,k+1,s,h=>by
  have:=Zcbn outs l k s (by simpa using h);simpa[Zcbl]using this
theorem Zcbc (a:ByteArray):∀(m:Nat) (l:List StepS) (ms:List Bool),(∀(j:Nat) s,j<m->l[j]? =some s->a∉s.args)->anyQ a l ms=anyQ a (l.drop m) (ms.drop m)
 | 0,l,ms,_=>by simp
 | m+1,[],ms,_=>by simp[anyQ]
 | m+1,s::l,[],_=>by
  rw[List.drop_nil]
  cases l.drop m with
  | nil=>simp[anyQ]
  | cons _ _=>simp[anyQ]
 | m+1,s::l,x::ms,h=>by
  have h0:=h 0 s (by omega) rfl;rw[anyQ,List.drop_succ_cons,List.drop_succ_cons,<-Zcbc a m l ms (λj s' hj hs=>h (j+1) s' (by omega) (by simpa using hs))];have:decide (0<=Zoi s.args a)=false:=decide_eq_false (λe=>h0 (Zoj.1 e));rw[this,Bool.and_false,Bool.false_or]
theorem Zcbo {r:RuleS} (hN:Zbj r) (o:ByteArray) {k:Nat} {s:StepS} (hs:r.steps[k]? =some s):(Zcbl [o] r.steps)[k]? =some (decide (s.out=o)||anyQ s.out r.steps (Zcbl [o] r.steps)):=by
 rw[Zcbn _ _ _ _ hs,Zcbc s.out (k+1) r.steps _ (λj t hj ht=>Zcbj hN ht hs (by omega))];have:decide (0<=Zoi [o] s.out)=decide (s.out=o):=by
  rw[decide_eq_decide,Zoj];simp
 rw[this]
theorem Zcby (b:Bool):∀(l:List Bool) (k:Nat),(whL b k l).Pairwise λx y=>x<y
 | [],_=>List.Pairwise.nil
 | x::l,k=>by
  rw[whL];have ih:=Zcby b l (k+1);split
  ·refine List.pairwise_cons.2 ⟨λy hy=>?_,ih⟩
   have:=((Zbsu b l (k+1) y).1 hy).1;omega
  ·exact ih
theorem Zcji {L:List ByteArray} {s:StepS} {ea eb:ByteArray->ValT} (h:∀n∈L++s.args,ea n=eb n):∀n∈L,setE ea s.out (doV s (s.args.map λa=>Zbbt (ea a))) n=setE eb s.out (doV s (s.args.map λa=>Zbbt (eb a))) n:=by
 intro n hn;have e:(s.args.map λa=>Zbbt (ea a))=s.args.map λa=>Zbbt (eb a):=List.map_congr_left λa ha=>by rw[h a (List.mem_append_right _ ha)]
 unfold setE;rw[e,h n (List.mem_append_left _ hn)]
theorem Zcjj (o:ByteArray):∀(l:List StepS) (ea eb:ByteArray->ValT),(∀n∈(Zbak [o] l).2,ea n=eb n)->Zbom l ea o=Zbom l eb o
 | [],ea,eb,h=>h o (by simp[Zbak])
 | s::r,ea,eb,h=>by
  rw[Zbom,Zbom];refine Zcjj o r _ _ λn hn=>?_
  rw[Zbak]at h;split at h
  ·exact Zcji h n hn
  ·rename_i hs
   have hne:n≠s.out:=λe=>hs (Zoj.2 (e▸hn))
   unfold setE;rw[if_neg hne,if_neg hne];exact h n hn
def Zcjs:List StepS->List Bool->List StepS
 | s::l,m::ms=>if m=true then s::Zcjs l ms else Zcjs l ms
 | _,_=>[]
theorem Zckb (o:ByteArray):∀(l:List StepS) (ea eb:ByteArray->ValT),(∀n∈(Zbak [o] l).2,ea n=eb n)->Zbom (Zcjs l (Zbak [o] l).1) ea o=Zbom l eb o
 | [],ea,eb,h=>h o (by simp[Zbak])
 | s::r,ea,eb,h=>by
  rw[Zbak]at h⊢;split at h
  ·rename_i hs
   rw[if_pos hs,Zcjs,if_pos rfl,Zbom,Zbom];exact Zckb o r _ _ λn hn=>Zcji h n hn
  ·rename_i hs
   rw[if_neg hs,Zcjs,if_neg (by decide),Zbom];refine Zckb o r _ _ λn hn=>?_
   have hne:n≠s.out:=λe=>hs (Zoj.2 (e▸hn))
   unfold setE;rw[if_neg hne];exact h n hn
theorem Zcix:∀(ks:List ByteArray) (va vb:List ValT) (ea eb:ByteArray->ValT) (n:ByteArray),va.length=ks.length->vb.length=ks.length->(∀j:Nat,ks[j]? =some n->va[j]? =vb[j]?)->ea n=eb n->byE ks va ea n=byE ks vb eb n
 | [],_,_,_,_,_,_,_,_,h=>by simpa[byE]using h
 | k::ks,[],_,_,_,_,h,_,_,_=>by simp at h
 | k::ks,_::_,[],_,_,_,_,h,_,_=>by simp at h
 | k::ks,a::va,b::vb,ea,eb,n,h1,h2,h3,h4=>by
  rw[byE,byE];refine Zcix ks va vb _ _ n (by simpa using h1) (by simpa using h2) (λj hj=>by simpa using h3 (j+1) (by simpa using hj)) ?_;unfold setE;split
  ·rename_i e
   have:=h3 0 (by simp[e]);simpa using this
  ·exact h4
theorem Zcjh {r:RuleS} (hN:Zbj r) {va vb:List ValT} {k:Nat} {a:ByteArray} (ha:va.length=r.ins.length) (hb:vb.length=r.ins.length) (hk:r.ins[k]? =some a) (hv:∀j:Nat,j≠k->va[j]? =vb[j]?) {i:Nat} {o:ByteArray} (ho:r.outs[i]? =some o) (hr:a∉Zbgw r [o]):(runP r va)[i]? =(runP r vb)[i]?:=by
 unfold runP;rw[if_neg (by omega),if_neg (by omega),List.getElem?_map,List.getElem?_map,ho];simp only[Option.map_some,Option.some.injEq]
 congr 1
 have hne:a∉(Zbak [o] r.steps).2:=by
  intro hm
  rcases((Zcbq [o] r.steps).2 a).1 hm with h|h
  ·obtain rfl:a=o:=by simpa using h
   have:=(hN.2.2.2.2.2 a (List.mem_of_getElem? ho)).1;rw[Zok]at this;exact this (List.mem_of_getElem? hk)
  ·refine hr ?_
   unfold Zbgw;rw[Zcbx,List.mem_filter,decide_eq_true_eq,Zoj,Zcbf,Zcbp];exact⟨List.mem_of_getElem? hk,h⟩
 refine Zcjj o _ _ _ λn hn=>Zcix _ _ _ _ _ _ ha hb (λj hj=>hv j λe=>?_) rfl
 subst e;rw[hk]at hj;obtain rfl:=Option.some.inj hj;exact hne hn
theorem Zcjw (r:RuleS) (vs:List ValT) (o:ByteArray) (hl:vs.length=r.ins.length):runP { r with outs:=[o],steps:=Zcjs r.steps (Zbak [o] r.steps).1 } vs = [Zbbt (Zbom r.steps (byE r.ins vs λ_=>noV) o)]:=by
 unfold runP;rw[if_neg (by simpa using hl)];simp only[List.map_cons,List.map_nil];rw[Zckb o r.steps _ _ λn _=>rfl]
theorem Zcjt:∀(l:List StepS) (ms:List Bool) (k:Nat) (rs:List StepS),ms.length=l.length->(∀(j:Nat) s,l[j]? =some s->rs[k+j]? =some s)->Zcjs l ms=(whL true k ms).filterMap λj=>rs[j]?
 | [],[],k,rs,_,_=>by simp[Zcjs,whL]
 | [],_::_,_,_,h,_=>by simp at h
 | _::_,[],_,_,h,_=>by simp at h
 | s::l,m::ms,k,rs,h,hr=>by
  have h0:=hr 0 s rfl;have ih:=Zcjt l ms (k+1) rs (by simpa using h) (λj t ht=>by
   have:=hr (j+1) t (by simpa using ht)
   rwa [show k+(j+1)=k+1+j by omega]at this)
  rw[Zcjs,whL]
  cases m with
  | true=>
   rw[if_pos rfl,if_pos rfl,List.filterMap_cons,show rs[k]? =some s from h0,ih]
  | false=>rw[if_neg (by decide),if_neg (by decide),ih]
end Go.Proofs.YtmgcaldphpnfgaaGreatDoor
