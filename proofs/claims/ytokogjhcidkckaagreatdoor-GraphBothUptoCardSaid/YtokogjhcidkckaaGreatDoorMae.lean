import Derived.Test.YtokogjhcidkckaaGreatDoorMad
import Derived.Lib.ConvBytes
import Derived.Laws.AppendOwn
import Derived.OrdersIn
import Derived.LoopNIn
import Derived.KernelRfl
import Derived.RangeFuncCalls
import Derived.RangeFuncLeaves
import Derived.RangeFuncRecord
namespace Go.Proofs.YtokogjhcidkckaaGreatDoor.Exe
open Go
variable {N N':Nat->Prop} {P:Program} {Z:TypeId->Nat} {G:Nat} {r:Ren} {h:Hp} {w:World}
theorem Zcod (w:World) (e:TypeId) (s:ByteArray):Lib.bytesWorld w e s=w.drew.alloc (.cells (Lib.bytesCells w e s) e ((Lib.bytesCells w e s).size,(Lib.bytesCells w e s).size+1)):=by
 have key:∀(H:Array Obj) (C:Array Value) (m:Nat),H.size=m->(H.push (.cells C e)).modify m (fun
   | .cells c elem (lo,hi)=> .cells c elem (if lo==hi then(C.size,C.size+1)else(min lo C.size,max hi (C.size+1)))
   | o=>o)=H.push (.cells C e (C.size,C.size+1)):=by
  intro H C m hm;subst hm;apply Array.ext
  ·simp
  ·intro i h1 h2
   rw[Array.getElem_modify,Array.getElem_push,Array.getElem_push];split
   ·rename_i e1
    subst e1;rw[dif_neg (by omega),dif_neg (by omega)];simp
   ·rename_i e1
    simp only[Array.size_push]at h2;rw[dif_pos (by omega),dif_pos (by omega)]
 unfold Lib.bytesWorld World.freeze;rw[if_neg (by omega)];exact congrArg (λH=>({ w.drew with heap:=H }:World)) (key w.drew.heap (Lib.bytesCells w e s) w.heap.size rfl)
def u8s:List UInt8->List Value
 | []=>[]
 | b::bs=> .int .u8 b.toNat::u8s bs
theorem Zcvu (l:List UInt8):u8s l=l.map λb=> .int .u8 b.toNat:=by
 induction l with
 | nil=>rfl
 | cons b l ih=>simp[u8s,ih]
def Zcob (P:Program) (k:Nat) (h:Hp) (src dst:TypeId):Value->Eff
 | .string s=>match P.underlying src with
  | some _=>match P.underlying dst with
   | some (.slice el)=>match P.underlying el with
    | some (.int .u8)=>bif Nat.beq (Zp P el) 1&&Nat.ble s.data.toList.length 1000000 then
     some (some (.slice (some ⟨2*k+1,0,none⟩) s.data.toList.length s.data.toList.length),(2*k+1,.cells (u8s s.data.toList) el 9223372036854775808 true)::h)else none
    | _=>none
   | _=>none
  | none=>none
 | _=>none
theorem Zcoc {k:Nat} (hR:Rep (Zcmd k) (Zp P) G r h w) {src dst:TypeId} {v v':Value} (hv:ValR (Zp P) r v v') {x h1} (hc:Zcob P k h src dst v=some (x,h1)):ES P (Zp P) G k r h w x h1 (do pure (.value (<-convert src dst v'))):=by
 unfold Zcob at hc;split at hc
 case h_2=>cases hc
 rename_i s
 split at hc
 case h_2=>cases hc
 rename_i u hu
 split at hc
 case h_2=>cases hc
 rename_i el hd
 split at hc
 case h_2=>cases hc
 rename_i he
 cases hb:(Nat.beq (Zp P el) 1&&Nat.ble s.data.toList.length 1000000)with
 | false=>rw[hb]at hc;cases hc
 | true=>
  rw[hb]at hc;cases hc;simp only[Bool.and_eq_true,Zcnc]at hb;obtain⟨hz,hs⟩:=hb;have hs:=Nat.le_of_ble_eq_true hs;have hsz:s.data.toList.length=s.size:=by simp
  rw[hsz]at hs⊢;obtain rfl:=Zcna rfl hv;have hrun:=Lib.run_convert_string_bytes (P:=P) w src dst el s hu hd he;rw[Zcod]at hrun;have hge:=grownCap_ge w s.size 0 el;have hle:=grownCap_le_maxLen w s.size 0 el (by unfold maxLen;omega);unfold maxLen at hle;generalize hcap:grownCap w s.size 0 el=cap at *;have hcs:(Lib.bytesCells w el s).size=cap:=by
   unfold Lib.bytesCells;rw[hcap];have:s.data.size=s.size:=rfl;simp[this];omega
  have hget:∀(i:Nat) (v:Value),(u8s s.data.toList)[i]? =some v->(Lib.bytesCells w el s)[i]? =some v:=by
   intro i v hi;unfold Lib.bytesCells;rw[Zcvu]at hi;have hlt:=(List.getElem?_eq_some_iff.1 hi).1;rw[Array.getElem?_append_left (by simpa using hlt)];simpa using hi
  rw[hcs]at hrun;generalize Lib.bytesCells w el s=C at hrun hcs hget;have hO:ObjR (Zp P) r (2*k+1) ⟨w.drew.heap.size,0,cap,el⟩ (.cells (u8s s.data.toList) el 9223372036854775808 true) (.cells C el (cap,cap+1)):=by
   refine⟨rfl,rfl,hcs,by rw[Zcvu,List.length_map,hsz];omega,λhx=>(by rw[Zctd]at hx;cases hx),λi v hi=>⟨v,hget i v hi,?_⟩,⟨?_,?_⟩,.inl rfl⟩
   ·rw[Zcvu,List.getElem?_map]at hi
    obtain⟨b,_,rfl⟩:=Option.map_eq_some_iff.1 hi;exact .same rfl
   ·exact .inr (Nat.le_refl _)
   ·intro hx
    have hx2:(9223372036854775808:Nat)+0=0:=hx;omega
  obtain⟨a,b⟩:=hR.drew.alloc (nm:=2*k+1) (by omega) (by omega) hO;refine⟨_,_,(Nx.drew r h w).trans b,a,_,.slice (e:=⟨w.heap.size,0,cap,el⟩) (c':=cap) (by simp[set1]) (by omega) (λhx=>(by rw[Zctd]at hx;cases hx)) (λ_=>by show CapR (0+0+cap*Zp P el) cap cap (Zp P el);rw[hz];exact⟨by omega,λ_ _=>by omega,hle⟩),?_⟩;simp[hrun]
def Zcqu (P:Program) (k:Nat) (h:Hp) (ts:Array TypeId):Value->Value->Eff
 | .slice none 0 sc,.int _ n=>match ts[0]?,ts[1]? with
  | some t,some u=>match P.underlying t,P.underlying u with
   | some (.slice el),some (.int _)=>match P.info? el with
    | some i=>match i.zero with
     | some zv=>bif decide ((sc:Int)<n)&&decide (n<=1000000)&&Nat.ble (n.toNat*i.bytes) 140737488355328&&Nat.beq zv.cells.size i.size && !(Nat.beq i.bytes 0)&&Nat.blt 0 i.size&&flat 4 zv then
      some (some (.slice (some ⟨2*k+1,0,none⟩) n.toNat n.toNat),(2*k+1,.cells (Builtin.zeroCells zv.cells n.toNat).toList el 0 false)::h)else none
     | none=>none
    | none=>none
   | _,_=>none
  | _,_=>none
 | _,_=>none
set_option maxHeartbeats 1000000 in
theorem Zcqv {k:Nat} (hR:Rep (Zcmd k) (Zp P) G r h w) {ts:Array TypeId} {ty:TypeId} {s x s' x':Value} (hs:ValR (Zp P) r s s') (hx:ValR (Zp P) r x x') {y h1} (hc:Zcqu P k h ts s x=some (y,h1)):
  ES P (Zp P) G k r h w y h1 (do pure (.value (<-Builtin.append_ ts ty #[s',x']))):=by
 unfold Zcqu at hc;split at hc
 case h_2=>cases hc
 rename_i sc kd n
 obtain rfl:=Zcna rfl hs;obtain rfl:=Zcna rfl hx;split at hc
 case h_2=>cases hc
 rename_i t u ht hu1
 split at hc
 case h_2=>cases hc
 rename_i el kd2 hu hd
 split at hc
 case h_2=>cases hc
 rename_i i hi
 split at hc
 case h_2=>cases hc
 rename_i zv hz
 cases hb:(decide ((sc:Int)<n)&&decide (n<=1000000)&&Nat.ble (n.toNat*i.bytes) 140737488355328&&Nat.beq zv.cells.size i.size && !(Nat.beq i.bytes 0)&&Nat.blt 0 i.size&&flat 4 zv)with
 | false=>rw[hb]at hc;cases hc
 | true=>
  rw[hb]at hc;cases hc;simp only[Bool.and_eq_true,decide_eq_true_eq,Bool.not_eq_true',Zcnc,Zcnd]at hb;obtain⟨⟨⟨⟨⟨⟨b1,b2⟩,b3⟩,b4⟩,b5⟩,b6⟩,b7⟩:=hb;have b3:=Nat.le_of_ble_eq_true b3;have b6:=Nat.le_of_ble_eq_true b6;obtain⟨m,rfl⟩:∃m:Nat,n=m:=⟨n.toNat,by omega⟩;have hm:((m:Nat):Int).toNat=m:=rfl;rw[hm]at b3⊢;have hw:=wrap_small (c:=(m:Int)) (by omega) b2;have hlt:sc<0+m:=by omega
  have hn1:¬(m<=sc):=by omega
  have h48:=growslice_fits (bytes:=i.bytes) hlt (by simpa using b3);have h48':¬(281474976710656<Builtin.nextslicecap m sc*i.bytes):=by simp only[Nat.zero_add]at h48;omega
  have h63':¬(9223372036854775807<(m:Int)):=by omega
  have hlb:¬(281474976710656<(m:Int)*(i.bytes:Int)):=by
   have:(m:Int)*(i.bytes:Int)=((m*i.bytes:Nat):Int):=by simp
   rw[this];omega
  have hms:¬(m*i.size=0):=by
   have:=Nat.mul_pos (show 0<m by omega) b6;omega
  obtain⟨cap,hcap⟩:∃cap,cap=(Question.appendCap m sc el).cut (w.tape w.drawn (Question.appendCap m sc el)):=⟨_,rfl⟩;have hcle:m<=cap/\cap<=9223372036854775807:=by
   rw[hcap];refine⟨by simp[Question.cut],?_⟩;simp only[Question.cut];have:=Nat.mod_lt (w.tape w.drawn (Question.appendCap m sc el)) (show 0<2^63-m by omega);omega
  have hrun:(Builtin.append_ ts ty #[.slice none 0 sc,.int kd m]).run P w = .ok (.slice (some ⟨w.heap.size,0,none⟩) m cap) (w.drew.alloc (.cells (([]:List Value).toArray++(Builtin.zeroCells zv.cells m).toList.toArray++Builtin.zeroCells zv.cells (cap-m)) el)):=by
   have hneg:¬((m:Int)<0):=by omega
   rw[hcap];simp[Builtin.append_,ht,hu1,run_underlying hu,run_underlying hd,sizeOf,typeInfo,zeroValue,hi,hz,asInt,asIntOf,hw,hneg,hlb,hn1,h48',h63',hms,b5,Question.forced,Builtin.firstCells,newRow,Question.cut]
  have hz2:Zp P el=i.size:=by show((P.info? el).map (·.size)).getD 0=_;rw[hi];rfl
  have hrow:ValsR (Zp P) r (Builtin.zeroCells zv.cells m).toList (Builtin.zeroCells zv.cells m).toList:=(Zcqj (Zcql (Z:=Zp P) (r:=r) 4 b7).cells (m*zv.cells.size)).list;have hlen:([]:List Value).length+(Builtin.zeroCells zv.cells m).toList.length=m*i.size:=by
   have:=Zcwk zv.cells m;simp[this,b4]
  have:=Zcqw (P:=P) hR hz2 (zs:=zv.cells) b4 hlen hcle (olds:=[]) (olds':=[]) .nil hrow (hi:=0) (s:=do pure (.value (<-Builtin.append_ ts ty #[.slice none 0 sc,.int kd m]))) (by rw[Sem.run_bind,hrun];rfl);simpa using this
def Zcvv (P:Program) (k:Nat) (h:Hp) (ts:Array TypeId) (s x:Value):Eff:=
 match appT P ts with
 | some (el,z,bytes,_)=>match srcC h z x with
  | some (n,us)=>match s with
   | .slice (some ⟨m,o,some 0⟩) 0 0=>match look h m with
    | some (.cells cs te hi ro)=>bif Nat.beq te el && !ro&&(Nat.ble hi o&&Nat.blt hi 9223372036854775808)&&Nat.ble o cs.length&&Zcqz us&&us.all oneC&&Nat.blt 0 n&&Nat.ble (n*bytes) 140737488355328&&Nat.ble n 4611686018427387904 then
     some (some (.slice (some ⟨2*k+1,0,none⟩) n n),(2*k+1,.cells us el hi false)::del h m)else none
    | _=>none
   | _=>none
  | none=>none
 | none=>none
theorem Zcvw {k:Nat} (hR:Rep (Zcmd k) (Zp P) G r h w) {ts:Array TypeId} {ty:TypeId} {s x s' x':Value} (hs:ValR (Zp P) r s s') (hx:ValR (Zp P) r x x') {y h1} (hc:Zcvv P k h ts s x=some (y,h1)):
  ES P (Zp P) G k r h w y h1 (do pure (.value (<-Builtin.append_ ts ty #[s',x']))):=by
 unfold Zcvv at hc;split at hc
 case h_2=>cases hc
 rename_i el z bytes zv hap
 obtain⟨hT,hb0,hZ⟩:=Zcmu hap;split at hc
 case h_2=>cases hc
 rename_i n us hsrc
 obtain⟨vs,hv,hul,hlen,hnew⟩:=Zcvj (P:=P) hR hx hsrc;split at hc
 case h_2=>cases hc
 rename_i m o
 split at hc
 case h_2=>cases hc
 rename_i cs te hi ro hl
 cases hb:(Nat.beq te el && !ro&&(Nat.ble hi o&&Nat.blt hi 9223372036854775808)&&Nat.ble o cs.length&&Zcqz us&&us.all oneC&&Nat.blt 0 n&&Nat.ble (n*bytes) 140737488355328&&Nat.ble n 4611686018427387904)with
 | false=>rw[hb]at hc;cases hc
 | true=>
  rw[hb]at hc;cases hc;simp only[Bool.and_eq_true,Bool.not_eq_true',Zcnc]at hb;obtain⟨⟨⟨⟨⟨⟨⟨⟨rfl,rfl⟩,q2⟩,q3⟩,q5⟩,q4⟩,q6⟩,b1⟩,b2⟩:=hb;have q22:hi<9223372036854775808:=Nat.le_of_ble_eq_true q2.2;have q2:=Nat.le_of_ble_eq_true q2.1;have q3:=Nat.le_of_ble_eq_true q3;have q6:=Nat.le_of_ble_eq_true q6;have b1:=Nat.le_of_ble_eq_true b1;have b2:=Nat.le_of_ble_eq_true b2
  cases hs with
  | same hat=>simp[atom]at hat
  | @void _ _ o' c' e he hxm hvo=>
   obtain⟨c0,f,hheap,hO⟩:=Zctc hR hl he;have het:e.t=te:=hO.2.1
   rcases Nat.lt_or_ge c' n with hlt'|hge
   ·obtain⟨cap,c1,c2⟩:=Zcmy (P:=P) (w:=w) hT (ty:=ty) (base:=some ⟨e.b,o',none⟩) (sl:=0) (sc:=c') (us:=[]) hlen (hnew w.drew rfl) (by simp[Builtin.firstCells];rfl) (by omega) (by simpa using b1) (by omega) hb0
    simp only[Nat.zero_add]at c1 c2;have hE:=Zcqw (P:=P) hR hZ (olds:=[]) (olds':=[]) hT.zero (len:=n) (cap:=cap) (by simpa using hul) c1 .nil hv (hi:=hi) (s:=do pure (.value (<-Builtin.append_ ts ty #[.slice (some ⟨e.b,o',none⟩) 0 c',x']))) (by simp[c2]);obtain⟨r1,w1,p1,p2,p3⟩:=hE;rw[List.nil_append]at p1 p2;have hsub:∀m' p,look ((2*k+1,CO.cells us te hi false)::del h m) m'=some p->look ((2*k+1,CO.cells us te hi false)::h) m'=some p:=by
     intro m' p hp;rw[Zcrv]at hp⊢;split
     ·rename_i e1;rw[if_pos e1]at hp;exact hp
     ·rename_i e1;rw[if_neg e1]at hp;exact Zcrx _ _ hp
    exact⟨r1,w1,p1.trans (Nx.sub r1 w1 hsub),p2.sub hsub,p3⟩
   ·rcases hvo with hvo|⟨rfl,hSr2⟩
    ·omega
    ·rw[het,hZ]at hSr2
     have hSr:=hSr2.1;have h5:n*z<=c'*z:=Nat.mul_le_mul_right z hge;have hO2:=hO;obtain⟨a1,a2,a3,a4,a5,a6,a7⟩:=hO2;have a70:=a7.1.1;have hvl:=hv.1;have hrun:=run_storeCells_cells (P:=P) e.b (o+e.sh) vs 0 w (λj hj=>by
       rw[cell_of hheap];simp;omega) (λj hj=>by
       simp only[World.frozen?,hheap]
       cases hfr:(decide (f.1<=o+e.sh+0+j)&&decide (o+e.sh+0+j<f.2))with
       | false=>rfl
       | true=>
        exfalso
        simp only[Bool.and_eq_true,decide_eq_true_eq]at hfr;omega) (λv hm=>by
       obtain⟨j,hj⟩:=List.getElem?_of_mem hm;have hlt:j<us.length:=by rw[hv.1];exact(List.getElem?_eq_some_iff.1 hj).1
       exact Zcti (List.all_eq_true.1 q4 us[j] (by simp)) (hv.2 j _ _ (by simp[hlt]) hj))
     have h6:=Rep.realias (P:=P) hR (n:=m) (o:=o) (nm:=2*k+1) (e:=e) (olds:=[]) (us:=us) (vs:=vs) (by omega) (by omega) (Zctd k) hl he (by simpa using q3)
      (by simp) hv (by simp;omega) (by simpa using⟨q2,q22⟩) (.inr q5) q4 (by simpa using hrun)
     rw[List.nil_append]at h6;refine⟨_,_,h6.2,h6.1,_,.slice (e:=⟨e.b,o+e.sh,e.S,e.t⟩) (c':=c') (by simp[set1]) hge (λhxx=>by rw[Zctd]at hxx;cases hxx) (λ_=>by simp only[Nat.zero_add];rw[het,hZ];exact hSr2),?_⟩;have:=Zcmx (P:=P) hT (ty:=ty) (base:=some ⟨e.b,o+e.sh,none⟩) (sl:=0) (sc:=c') hlen (hnew w rfl) (by simpa using hge) (by show(storeCells ((⟨e.b,o+e.sh,none⟩:Addr).add (0*z)) vs).run P w=_;rw[addr_add];simpa using hrun);rw[Nat.zero_add]at this;simp[this]
end Go.Proofs.YtokogjhcidkckaaGreatDoor.Exe
namespace Go.Proofs.YtokogjhcidkckaaGreatDoor.Exe
open Go
variable {N N':Nat->Prop} {P:Program} {Z:TypeId->Nat} {G:Nat} {r:Ren} {h:Hp} {w:World}
def eff1 (ev:Ev) (x:Operand) (f:Value->Eff):Eff:=match ev x with
 | some v=>f v
 | none=>none
def eff2 (ev:Ev) (x y:Operand) (f:Value->Value->Eff):Eff:=match ev x with
 | some v=>match ev y with
  | some u=>f v u
  | none=>none
 | none=>none
def effP (ev:Ev) (ps:List (Nat×Operand)) (f:List (Nat×Value)->Eff):Eff:=match evP ev ps with
 | some vs=>f vs
 | none=>none
theorem Zcoy {ev:Ev} {x f p} (hc:eff1 ev x f=some p):∃v,ev x=some v/\f v=some p:=by
 unfold eff1 at hc;split at hc
 ·exact⟨_,by assumption,hc⟩
 ·cases hc
theorem Zcoz {ev:Ev} {x y f p} (hc:eff2 ev x y f=some p):∃v u,ev x=some v/\ev y=some u/\f v u=some p:=by
 unfold eff2 at hc;split at hc
 ·split at hc
  ·exact⟨_,_,by assumption,by assumption,hc⟩
  ·cases hc
 ·cases hc
def Zcrb (P:Program) (k:Nat) (h:Hp) (t:TypeId):Value->Eff
 | .int _ _=>match P.underlying t with
  | some (.map _ _)=>mapC k h
  | _=>none
 | _=>none
def appC (P:Program) (k:Nat) (h:Hp) (ts:Array TypeId) (s x:Value):Eff:=match Zcmv P k h ts s x with
 | some q=>some q
 | none=>match Zcqu P k h ts s x with
  | some q=>some q
  | none=>Zcvv P k h ts s x
theorem Zcmt {k:Nat} (hR:Rep (Zcmd k) (Zp P) G r h w) {ts:Array TypeId} {ty:TypeId} {s x s' x':Value} (hs:ValR (Zp P) r s s') (hx:ValR (Zp P) r x x') {y h1} (hc:appC P k h ts s x=some (y,h1)):
  ES P (Zp P) G k r h w y h1 (do pure (.value (<-Builtin.append_ ts ty #[s',x']))):=by
 unfold appC at hc;split at hc
 ·rename_i q hq;cases hc;exact Zcmw hR hs hx hq
 ·split at hc
  ·rename_i q hq;cases hc;exact Zcqv hR hs hx hq
  ·exact Zcvw hR hs hx hc
def delC (P:Program) (h:Hp) (ts:Array TypeId) (m k:Value):Eff:=
 match m with
 | .map (some n)=>match (ts[0]?).bind P.underlying with
  | some (.map kt _)=>match P.underlying kt with
   | some kd=>bif Zcte kd k then
     match look h n with
     | some (.map es ck ro)=>bif ro then none else match Zcqe kd k es 0 with
      | some (some (i,_))=>some (some (.tuple #[]),upd h n (.map (es.eraseIdx i) ck false))
      | some none=>some (some (.tuple #[]),upd h n (.map es ck false))
      | none=>none
     | _=>none
    else none
   | none=>none
  | _=>none
 | _=>none
theorem EntsR.erase {r:Ren} {es:List (Value×Value×Nat)} {es':List MapEntry} (hE:EntsR P r es es') (i:Nat):EntsR P r (es.eraseIdx i) (es'.eraseIdx i):=by
 have hl:=hE.1;refine⟨by simp[List.length_eraseIdx,hl],λj x y hx hy=>?_⟩;rw[List.getElem?_eraseIdx]at hx hy;split at hx
 ·rw[if_pos (by assumption)]at hy;exact hE.2 j x y hx hy
 ·rw[if_neg (by assumption)]at hy;exact hE.2 (j+1) x y hx hy
theorem Zcye {kk:Nat} (hR:Rep (Zcmd kk) (Zp P) G r h w) {ts:Array TypeId} {ty:TypeId} {m k m' k':Value} (hm:ValR (Zp P) r m m') (hk:ValR (Zp P) r k k') {y h1} (hc:delC P h ts m k=some (y,h1)):
  ES P (Zp P) G kk r h w y h1 (do pure (.value (<-Builtin.delete_ ts ty #[m',k']))):=by
 unfold delC at hc;split at hc
 case h_2=>cases hc
 rename_i n
 split at hc
 case h_2=>cases hc
 rename_i kt el hu
 obtain⟨t,ht,hu⟩:=Zcnh hu;split at hc
 case h_2=>cases hc
 rename_i kd hkd
 cases hok:Zcte kd k with
 | false=>rw[hok]at hc;cases hc
 | true=>
  rw[hok]at hc;simp only[cond_true]at hc;have hak:atom k=true:=by cases kd<;>cases k<;>first|rfl|(simp[Zcte]at hok;done)
  obtain rfl:=Zcna hak hk;split at hc
  case h_2=>cases hc
  rename_i es ck ro hl
  cases hro:ro with
  | true=>rw[hro]at hc;cases hc
  | false=>
   subst hro;simp only[cond_false]at hc
   cases hm with
   | same ha=>simp[atom]at ha
   | @map _ e he=>
    obtain⟨e',he',o',ho',hO⟩:=hR.obj n _ hl;obtain rfl:=Option.some.inj (he.symm.trans he')
    cases o' with
    | map es' c'=>
     have hE:EntsR P r es es'.toList:=⟨by simpa using hO.2.1,λi x y a b=>hO.2.2 i x y a (by simpa using b)⟩;obtain rfl:=hO.1;have fin:∀(es1:List (Value×Value×Nat)) (zs:Array MapEntry),EntsR P r es1 zs.toList->(Builtin.delete_ ts ty #[.map (some e.b),k']).run P w = .ok (.tuple #[]) { w with heap:=w.heap.setIfInBounds e.b (.map zs c') }->
       ES P (Zp P) G kk r h w (some (.tuple #[])) (upd h n (.map es1 c' false)) (do pure (.value (<-Builtin.delete_ ts ty #[.map (some e.b),k']))):=by
      intro es1 zs hz hrun;have hlt:=hR.low _ _ he;obtain⟨p1,p2⟩:=hR.write (w':={ w with heap:=w.heap.setIfInBounds e.b (.map zs c') }) (o1:= .map es1 c' false) hl rfl rfl he (by simp[hlt]) (λb hb=>by simp[Array.getElem?_setIfInBounds_ne (Ne.symm hb)]) (by simp)
       (o1':= .map zs c') ⟨rfl,by simpa using hz.1,λi x y a b=>hz.2 i x y a (by simpa using b)⟩ rfl rfl rfl
      exact⟨r,_,p2,p1.weak Zcqr,.tuple #[],ValR.undef,by rw[Sem.run_bind,hrun];rfl⟩
     split at hc
     ·rename_i i v hf
      cases hc
      obtain⟨q',hq,hr⟩:=Zcqf hE hf
      cases q' with
      | none=>exact hr.elim
      | some p=>
       obtain⟨j,u⟩:=p;obtain⟨rfl,_⟩:=hr;refine fin _ (es'.eraseIdxIfInBounds i) (by simpa using hE.erase i) ?_;simp only[Builtin.delete_,ht,List.getElem?_toArray,List.getElem?_cons_zero,List.getElem?_cons_succ,Sem.run_bind,run_underlying hu,Result.andThen_ok,getObj,setObj,Sem.run,ho',Zcok hkd hok,Instr.findKey,run_underlying hkd];simp[hq,Sem.run,ho']
     ·rename_i hf
      cases hc
      obtain⟨q',hq,hr⟩:=Zcqf hE hf
      cases q' with
      | some p=>exact hr.elim
      | none=>
       refine fin _ es' hE ?_;simp only[Builtin.delete_,ht,List.getElem?_toArray,List.getElem?_cons_zero,List.getElem?_cons_succ,Sem.run_bind,run_underlying hu,Result.andThen_ok,getObj,setObj,Sem.run,ho',Zcok hkd hok,Instr.findKey,run_underlying hkd];simp[hq,Sem.run,ho']
     ·cases hc
    | _=>exact hO.elim
def clrC (P:Program) (h:Hp) (ts:Array TypeId) (v:Value):Eff:=match (ts[0]?).bind P.underlying with
 | some (.slice el)=>match v with
  | .slice none _ _=>some (some (.tuple #[]),h)
  | .slice (some ⟨n,o,none⟩) l _=>match Zcwh P el with
   | some z=>match look h n with
    | some (.cells cs _ _ _)=>bif !(Nat.beq l 0)&&Nat.ble (o+l*z.cells.size) cs.length then match Zcwf h n o (Builtin.zeroCells z.cells l).toList with
      | some h1=>some (some (.tuple #[]),h1)
      | none=>none
     else bif Nat.beq l 0 then some (some (.tuple #[]),h)else none
    | _=>none
   | none=>none
  | _=>none
 | _=>none
theorem Zcxz {kk:Nat} (hR:Rep (Zcmd kk) (Zp P) G r h w) {ts:Array TypeId} {ty:TypeId} {v v':Value} (hv:ValR (Zp P) r v v') {y h1} (hc:clrC P h ts v=some (y,h1)):
  ES P (Zp P) G kk r h w y h1 (do pure (.value (<-Builtin.clear_ ts ty #[v']))):=by
 unfold clrC at hc;split at hc
 case h_2=>cases hc
 rename_i el hu
 obtain⟨t,ht,hu⟩:=Zcnh hu;split at hc
 ·cases hc
  obtain rfl:=Zcna rfl hv;refine⟨r,w,Nx.refl r h w,hR.weak Zcqr,.tuple #[],ValR.undef,?_⟩;simp[Builtin.clear_,ht,run_underlying hu]
 ·rename_i n o l c
  split at hc
  case h_2=>cases hc
  rename_i z hz
  split at hc
  case h_2=>cases hc
  rename_i cs t1 hi1 ro1 hl1
  cases hv with
  | same ha=>simp[atom]at ha
  | @slice _ _ _ _ c' e he _ _ _=>
   cases hb:(!(Nat.beq l 0)&&Nat.ble (o+l*z.cells.size) cs.length)with
   | false=>
    rw[hb]at hc;simp only[cond_false]at hc
    cases hb0:Nat.beq l 0 with
    | false=>rw[hb0]at hc;cases hc
    | true=>
     rw[hb0]at hc;cases hc;obtain rfl:=Zcnc.1 hb0;refine⟨r,w,Nx.refl r h w,hR.weak Zcqr,.tuple #[],ValR.undef,?_⟩;simp[Builtin.clear_,ht,run_underlying hu]
   | true=>
    rw[hb]at hc;simp only[cond_true]at hc;simp only[Bool.and_eq_true,Bool.not_eq_true',Zcnd]at hb;have b1:=Nat.le_of_ble_eq_true hb.2;split at hc
    case h_2=>cases hc
    rename_i h2 hw
    cases hc
    obtain⟨c1,f1,hp1,hO1⟩:=Zctc hR hl1 he;have hrow:ValsR (Zp P) r (Builtin.zeroCells z.cells l).toList (Builtin.zeroCells z.cells l).toList:=(Zcqj (Zcql (Z:=Zp P) (r:=r) 4 (Zcwi hz)).cells (l*z.cells.size)).list;obtain⟨w1,p1,p2,p3⟩:=Zcwg (P:=P) hR he hrow hw (by
     have:=hO1.2.2.2.1;simp[Builtin.zeroCells];omega)
    refine⟨r,w1,p3,p2.weak Zcqr,.tuple #[],ValR.undef,?_⟩;have hl0:l≠0:=hb.1;obtain⟨l',rfl⟩:∃l',l=l'+1:=⟨l-1,by omega⟩;simp[Builtin.clear_,ht,run_underlying hu,Zcwj hz,p1]
 ·cases hc
def Zcny (P:Program) (k:Nat) (h:Hp) (ev:Ev) (b:Builtin) (ts:Array TypeId) (args:List Operand):Eff:=match b with
 | .append=>match args with
  | [x,y]=>eff2 ev x y (appC P k h ts)
  | _=>none
 | .copy=>match args with
  | [x,y]=>eff2 ev x y (Zcop P h ts)
  | _=>none
 | .unsafeString=>match args with
  | [x,y]=>eff2 ev x y (strC P h ts)
  | _=>none
 | .delete=>match args with
  | [x,y]=>eff2 ev x y (delC P h ts)
  | _=>none
 | .clear=>match args with
  | [x]=>eff1 ev x (clrC P h ts)
  | _=>none
 | _=>none
def Zcpa (P:Program) (k:Nat) (h:Hp) (ev:Ev) (o:Op):Eff:=match o with
 | .alloc t=>Zcmq P k h t
 | .box t x=>eff1 ev x (boxC k h t)
 | .convert src dst x=>eff1 ev x (Zcob P k h src dst)
 | .buildSlice t n ps=>effP ev ps.toList (Zcvg P k h t n)
 | .store t a x=>eff2 ev a x λa x=>Zcvk P h t x a
 | .makeSlice t l c=>eff2 ev l c (Zcsi P k h t)
 | .makeMap _ none=>mapC k h
 | .makeMap t (some x)=>eff1 ev x (Zcrb P k h t)
 | .mapUpdate t m x v=>eff2 ev m x λm x=>eff1 ev v λv=>Zcsl P h t m x v
 | .insert t m x v=>eff2 ev m x λm x=>eff1 ev v λv=>Zcsl P h t m x v
 | .call { callee:= .builtin b,args:=args,argTypes:=ts }=>Zcny P k h ev b ts args.toList
 | _=>none
theorem Zcpb {k:Nat} (hR:Rep (Zcmd k) (Zp P) G r h w) {ev:Ev} {f:Operand->Value} (hE:EvR P r ev f) {o:Oper} {y h1} (hc:Zcpa P k h ev o.op=some (y,h1)):ES P (Zp P) G k r h w y h1 (execOp f o):=by
 obtain⟨dst,op,ty,pos,after,guard⟩:=o
 dsimp only at hc
 unfold Zcpa at hc;split at hc
 ·exact Zcmr hR hc
 ·obtain⟨v,h1,h2⟩:=Zcoy hc;exact Zcnt hR (hE _ _ h1) h2
 ·obtain⟨v,h1,h2⟩:=Zcoy hc;exact Zcoc hR (hE _ _ h1) h2
 ·rename_i t n ps
  unfold effP at hc;split at hc
  case h_2=>cases hc
  rename_i vs hvs
  have:=Zcvh hR (Zcpl hE hvs) hc;have e:(ps.toList.map λp=>(p.1,f p.2)).toArray=ps.map λx=>(x.1,f x.2):=by apply Array.ext';simp
  rw[e]at this;exact this
 ·obtain⟨v,u,h1,h2,h3⟩:=Zcoz hc;exact Zcvl hR (hE _ _ h1) (hE _ _ h2) h3
 ·obtain⟨v,u,h1,h2,h3⟩:=Zcoz hc;exact Zcsj hR (hE _ _ h1) (hE _ _ h2) h3
 ·exact Zcsk hR hc (.inl rfl)
 ·obtain⟨v,h1,h2⟩:=Zcoy hc
  unfold Zcrb at h2;split at h2
  case h_2=>cases h2
  split at h2
  case h_2=>cases h2
  rename_i a b hu
  have e:=Zcna rfl (hE _ _ h1);have:=Zcsk hR h2 (hint:=some (f _)) (.inr ⟨_,_,a,b,congrArg some e,hu⟩);exact this
 ·obtain⟨v,u,h1,h2,h3⟩:=Zcoz hc
  obtain⟨x,h4,h5⟩:=Zcoy h3;exact Zcsm hR (hE _ _ h1) (hE _ _ h2) (hE _ _ h4) h5
 ·obtain⟨v,u,h1,h2,h3⟩:=Zcoz hc
  obtain⟨x,h4,h5⟩:=Zcoy h3;exact Zcsm hR (hE _ _ h1) (hE _ _ h2) (hE _ _ h4) h5
 ·rename_i b args ts
  have hex:∀vs:List Operand,args.toList=vs->execOp f ⟨dst,.call ⟨.builtin b,args,ts⟩,ty,pos,after,guard⟩=builtin b ts ty (args.map fun | .const _=>true|_=>false) (vs.map f).toArray:=by
   intro vs hvs;have:(vs.map f).toArray=args.map f:=by rw[<-hvs];apply Array.ext';simp
   rw[this];rfl
  unfold Zcny at hc;split at hc
  ·split at hc
   ·rename_i x y hx
    obtain⟨v,u,h1,h2,h3⟩:=Zcoz hc;rw[hex _ hx];exact Zcmt hR (hE _ _ h1) (hE _ _ h2) h3
   ·cases hc
  ·split at hc
   ·rename_i x y hx
    obtain⟨v,u,h1,h2,h3⟩:=Zcoz hc;rw[hex _ hx];exact Zcoq hR (hE _ _ h1) (hE _ _ h2) h3
   ·cases hc
  ·split at hc
   ·rename_i x y hx
    obtain⟨v,u,h1,h2,h3⟩:=Zcoz hc;rw[hex _ hx];exact Zcvm hR (hE _ _ h1) (hE _ _ h2) h3
   ·cases hc
  ·split at hc
   ·rename_i x y hx
    obtain⟨v,u,h1,h2,h3⟩:=Zcoz hc;rw[hex _ hx];exact Zcye hR (hE _ _ h1) (hE _ _ h2) h3
   ·cases hc
  ·split at hc
   ·rename_i x hx
    obtain⟨v,h1,h2⟩:=Zcoy hc;rw[hex _ hx];exact Zcxz hR (hE _ _ h1) h2
   ·cases hc
  ·cases hc
 ·cases hc
inductive CK where
 | fn (f:FuncId)
 | rd (l:Nat)
def CkS (r:Ren):CK->List Value->Sem Next->Prop
 | .fn g,vs,s=>s=callFunc g vs.toArray
 | .rd l,vs,s=>∃e,r l=some e/\s=Instr.yield e.b vs.toArray
def Zcoe (ev:Ev) (o:Op):Option (CK×List Value):=match o with
 | .call { callee:= .value g,args:=args,.. }=>match ev g with
  | some (.func (.func f) fs cs)=>match evL ev args.toList with
   | some vs=>some (.fn f,fs.toList++vs++cs.toList)
   | none=>none
  | some (.func (.yield l) _ _)=>match evL ev args.toList with
   | some vs=>some (.rd l,vs)
   | none=>none
  | _=>none
 | _=>none
theorem Zcof {ev:Ev} {f:Operand->Value} (hE:EvR P r ev f) {o:Oper} {g:CK} {vs:List Value} (hc:Zcoe ev o.op=some (g,vs)):
  ∃vs',ValsR (Zp P) r vs vs'/\CkS r g vs' (execOp f o):=by
 obtain⟨dst,op,ty,pos,after,guard⟩:=o
 dsimp only at hc
 unfold Zcoe at hc;split at hc
 case h_2=>cases hc
 rename_i gg args ts
 split at hc
 case h_3=>cases hc
 ·rename_i f0 fs cs hg
  split at hc
  case h_2=>cases hc
  rename_i us hus
  cases hc
  have hv:=hE _ _ hg;have hargs:=Zcpj hE hus;have key:∀gv,ValR (Zp P) r (.func (.func f0) fs cs) gv->gv=f gg->∃vs',ValsR (Zp P) r (fs.toList++us++cs.toList) vs'/\execOp f ⟨dst,.call ⟨.value gg,args,ts⟩,ty,pos,after,guard⟩=callFunc f0 vs'.toArray:=by
   intro gv hgv he
   cases hgv with
   | same ha=>simp[atom]at ha
   | @func _ _ ys _ zs a1 a2 a3 a4=>
    refine⟨ys.toList++args.toList.map f++zs.toList,((ArrR.list (P:=P) ⟨a1,a2⟩).append hargs).append (ArrR.list (P:=P) ⟨a3,a4⟩),?_⟩;have:(ys.toList++args.toList.map f++zs.toList).toArray=ys++args.map f++zs:=by apply Array.ext';simp
    rw[this];simp only[execOp,resolve,<-he];rfl
  exact key _ hv rfl
 ·rename_i l fs cs hg
  split at hc
  case h_2=>cases hc
  rename_i us hus
  cases hc
  have hv:=hE _ _ hg;have hargs:=Zcpj hE hus;have key:∀gv,ValR (Zp P) r (.func (.yield l) fs cs) gv->gv=f gg->∃vs',ValsR (Zp P) r vs vs'/\∃e,r l=some e/\execOp f ⟨dst,.call ⟨.value gg,args,ts⟩,ty,pos,after,guard⟩=Instr.yield e.b vs'.toArray:=by
   intro gv hgv he
   cases hgv with
   | same ha=>simp[atom]at ha
   | @yield _ e hr=>
    refine⟨args.toList.map f,hargs,e,hr,?_⟩;have:(args.toList.map f).toArray = #[]++args.map f:=by apply Array.ext';simp
    rw[this];simp only[execOp,resolve,<-he];rfl
  exact key _ hv rfl
def Zcvi (t:Tr) (d:Option Tmp) (want:Bool):Bool:=match d with
 | some d=>match t.get d with
  | .bool b=>b==want
  | _=>false
 | none=>false
def Zcvx (ops:Array Oper) (t:Tr) (o:Oper):Bool:=match o.guard with
 | none=>true
 | some (j,want)=>Zcvi t ((ops[j]?).bind (·.dst)) want
theorem Zcvy {Z:TypeId->Nat} {e:Env} {a:Act} (hE:EnvR Z r e a) (ops:Array Oper) (o:Oper):Region.wanted o (yielded ops a.tmps)=Zcvx ops e.t o:=by
 unfold Region.wanted Zcvx
 cases hg:o.guard with
 | none=>rfl
 | some p=>
  obtain⟨j,want⟩:=p;simp only;unfold yielded Zcvi
  cases hd:(ops[j]?).bind (·.dst)with
  | none=>simp
  | some d=>
   have hv:=hE.2.2 d;simp only[Option.bind_some]
   rcases Nat.lt_or_ge d a.tmps.size with hlt|hge
   ·have e1:a.tmps[d]? =some a.tmps[d]:=by simp[hlt]
    have e2:a.tmps.getD d undef=a.tmps[d]:=by simp[hlt]
    rw[e2]at hv;rw[e1];generalize a.tmps[d]=u at hv;generalize e.t.get d=v at hv
    cases hv with
    | same ha=>cases u<;>first|(simp;done)|(simp[atom]at ha;done)
    | _=>simp
   ·have e1:a.tmps[d]? =none:=by simp[hge]
    have e2:a.tmps.getD d undef=undef:=by simp[hge]
    rw[e2]at hv;rw[e1];generalize e.t.get d=v at hv;unfold undef at hv
    cases hv with
    | same ha=>simp[atom]at ha
    | tuple _ _=>simp
end Go.Proofs.YtokogjhcidkckaaGreatDoor.Exe
namespace Go.Proofs.YtokogjhcidkckaaGreatDoor.Exe
open Go
section
variable {F:Fence} {n:Nat} {P:Program} {ops:Array Oper} {R:Act->World->Prop} {T:List Nat}
abbrev QN (R:Act->World->Prop):Exit->Act->World->Prop:=λe a w=>e = .normal/\R a w
abbrev Gd:=List (Nat×(World->Prop))
def depB (T:List Nat) (j i:Nat):Bool:=(T.getD j 0).testBit i
def wpG (F:Fence) (n:Nat) (P:Program) (ops:Array Oper) (R:Act->World->Prop) (T:List Nat):Nat->Gd->Array Bool->Act->World->Prop
 | 0,_,l,a,w=>Region.ready .any ops l = []/\R a w
 | fuel+1,G,l,a,w=>(Region.ready .any ops l = []->R a w)/\∀j∈Region.ready .any ops l,
  wpOpIn F n P ops (QN R) j (λa' w'=>(∀g∈G,depB T j g.1=false->g.2 w')/\wpG F n P ops R T fuel (G.filter λg=> !depB T j g.1) (l.setIfInBounds j true) a' w') a w
theorem Zcvz:∀(fuel:Nat) (G:Gd) (l:Array Bool) (a:Act) (w:World),wpG F n P ops R T fuel G l a w->wpAnyIn F n P .any ops (QN R) fuel l a w
 | 0,_,_,_,_,h=>⟨h.1,rfl,h.2⟩
 | fuel+1,_,_,_,_,h=>⟨λe=>⟨rfl,h.1 e⟩,λj hj=>wpOpIn_mono (λa' w' h'=>Zcvz fuel _ _ a' w' h'.2) (h.2 j hj)⟩
theorem Zcwb:∀(fuel:Nat) (G G':Gd) (l:Array Bool) (a:Act) (w:World),(∀g∈G',g∈G)->wpG F n P ops R T fuel G l a w->wpG F n P ops R T fuel G' l a w
 | 0,_,_,_,_,_,_,h=>h
 | fuel+1,G,G',_,_,_,hs,h=>⟨h.1,λj hj=>wpOpIn_mono (λa' w' h'=>⟨λg hg hd=>h'.1 g (hs g hg) hd,
  Zcwb fuel _ _ _ a' w' (λg hg=>by simp only[List.mem_filter]at hg⊢;exact⟨hs g hg.1,hg.2⟩) h'.2⟩) (h.2 j hj)⟩
def YF (P:Program) (ops:Array Oper) (A:World->Prop) (o:Oper) (v:Value) (a:Act):Prop:=
 (Region.wanted o (yielded ops a.tmps)=true/\∀w,A w->(execOp a.eval o).run P w = .ok (.value v) w)∨(Region.wanted o (yielded ops a.tmps)=false/\v=undef)
def noDS (ops:Array Oper):Bool:=ops.all λo=>match o.op with | .select .. =>false | .defer _=>false|_=>true
theorem Zcsw (h:noDS ops=true) {j:Nat} {o:Oper} (ho:ops[j]? =some o):(∀cs b,o.op≠.select cs b)/\∀c,o.op≠.defer c:=by
 have:=Array.all_eq_true_iff_forall_mem.1 h o (Array.mem_of_getElem? ho);constructor
 ·intro cs b e;simp[e]at this
 ·intro c e;simp[e]at this
theorem YF.wpOpIn {A:World->Prop} {i:Nat} {o:Oper} {v:Value} {a:Act} (hF:∀f,F.fn f) (hd:∀c,o.op≠.defer c) (hi:ops[i]? =some o) (hy:YF P ops A o v a)
  {K:Act->World->Prop} {w:World} {Q:Exit->Act->World->Prop} (hA:A w) (h:K (a.put o.dst v) w):wpOpIn F n P ops Q i K a w:=by
 unfold Go.wpOpIn;simp only[hi]
 rcases hy with⟨hw,hv⟩|⟨hw,rfl⟩
 ·simp only[hw,if_true,Oper.wpIn,Oper.semAt_eq F.round _ o hd,hv w hA,Oper.uponIn];exact⟨λf _=>hF f,h⟩
 ·simp only[hw,Bool.false_eq_true,if_false];exact⟨λf _=>hF f,h⟩
theorem YF.of_same {A:World->Prop} {o:Oper} {v:Value} {a a':Act} (hy:YF P ops A o v a) (he:execOp a'.eval o=execOp a.eval o)
  (hw:Region.wanted o (yielded ops a'.tmps)=Region.wanted o (yielded ops a.tmps)):YF P ops A o v a':=by
 unfold YF at *;rw[he,hw];exact hy
theorem Zcwe {A:World->Prop} {j:Nat} {oi oj:Oper} {v:Value} (hF:∀f,F.fn f) (hj:ops[j]? =some oj) (hap:oi.apart ops oj=true)
  (hsi:∀cs b,oi.op≠.select cs b) (hsj:∀cs b,oj.op≠.select cs b) (hdj:∀c,oj.op≠.defer c) {K:Act->World->Prop} {a:Act} {w:World}
  (hy:YF P ops A oi v a) (h:wpOpIn F n P ops (QN R) j K (a.put oi.dst v) w):
  wpOpIn F n P ops (QN R) j (λa' w'=>YF P ops A oi v a'/\K (a'.put oi.dst v) w') a w:=by
 obtain⟨h1,h2,h3⟩:=Oper.apart_spec hap;have keep:∀u,YF P ops A oi v (a.put oj.dst u):=λu=>
  hy.of_same (execOp_put oi hsi a oj.dst u h3) (wanted_put oi a oj.dst u h3)
 unfold Go.wpOpIn at *;simp only[hj]at *;rw[wanted_put oj a oi.dst v h1]at h;split
 ·rename_i hw
  simp only[hw,if_true]at h;unfold Oper.wpIn at *;refine⟨λf _=>hF f,?_⟩;have h:=h.2;rw[Oper.semAt_eq F.round _ oj hdj,execOp_put oj hsj a oi.dst v h1]at h;rw[Oper.semAt_eq F.round _ oj hdj];generalize (execOp a.eval oj).run P w=r at *
  cases r with
  | ok x w'=>
   cases x<;>simp only[Oper.uponIn]at h⊢
   case value u=>exact⟨keep u,by rw[<-Act.put_comm a v u h2];exact h⟩
   case skip=>exact⟨keep _,by rw[<-Act.put_comm a v undef h2];exact h⟩
   case defer d=>
    refine⟨(hy.of_same (a':={ a with defers:=d::a.defers }) rfl rfl).of_same (execOp_put oi hsi _ oj.dst _ h3) (wanted_put oi _ oj.dst _ h3),?_⟩;rw[<-Act.put_comm _ v undef h2,<-Act.put_defers];exact h
   case enter f args=>
    refine⟨h.1,CallsIn.mono h.2 λe w'' he=>?_⟩
    cases e with
    | returned u=>exact⟨keep u,by rw[<-Act.put_comm a v u h2];exact he⟩
    | panicked c=>exact absurd he.1 (by simp)
    | outgrown=>obtain⟨a',w',he,_⟩:=he;cases he
   case row row args=>exact⟨h.1,RowsIn.mono h.2 λu w'' he=>⟨keep u,by rw[<-Act.put_comm a v u h2];exact he⟩⟩
   case round l f tmps assign body=>
    refine⟨h.1,RoundIn.mono h.2 λe w'' he=>?_⟩
    cases e with
    | returned u=>exact⟨keep u,by rw[<-Act.put_comm a v u h2];exact he⟩
    | panicked c=>exact absurd he.1 (by simp)
    | outgrown=>obtain⟨a',w',he,_⟩:=he;cases he
  | halt x w'=>
   cases x<;>simp only[Oper.uponIn]at h⊢
   case panic u=>exact absurd h.1 (by simp)
 ·rename_i hw
  simp only[hw]at h;exact⟨λf _=>hF f,keep _,by rw[<-Act.put_comm a v undef h2];exact h.2⟩
def Cl (ops:Array Oper) (l:Array Bool):Prop:=∀j,l.getD j false=true->∀o,ops[j]? =some o->∀e∈o.after,Region.binds .any e=true->l.getD e.on false=true
def okT (ops:Array Oper) (T:List Nat):Bool:=
 (List.range ops.size).all λj=>match ops[j]? with
  | some o=>o.after.all (λe=> !Region.binds .any e||Nat.blt e.on j) &&
   Nat.beq (Nat.lor (T.getD j 0) (o.after.toList.foldl (λs e=>bif Region.binds .any e then Nat.lor (Nat.lor s (2^e.on)) (T.getD e.on 0)else s) 0))
    (o.after.toList.foldl (λs e=>bif Region.binds .any e then Nat.lor (Nat.lor s (2^e.on)) (T.getD e.on 0)else s) 0)
  | none=>true
theorem Zctf {es:List Edge} {i:Nat}:∀ {s:Nat},(es.foldl (λs e=>bif Region.binds .any e then Nat.lor (Nat.lor s (2^e.on)) (T.getD e.on 0)else s) s).testBit i=true->
  s.testBit i=true∨∃e∈es,Region.binds .any e=true/\(e.on=i∨(T.getD e.on 0).testBit i=true):=by
 induction es with
 | nil=>intro s h;exact .inl h
 | cons e es ih=>
  intro s h
  rcases ih h with h1|⟨e',he',h'⟩
  ·cases hb:Region.binds .any e with
   | false=>dsimp only at h1;rw[hb]at h1;exact .inl h1
   | true=>
    dsimp only at h1;rw[hb]at h1
    have h1:((s ||| 2^e.on) ||| T.getD e.on 0).testBit i=true:=h1;simp only[Nat.testBit_or,Bool.or_eq_true,Nat.testBit_two_pow,decide_eq_true_eq]at h1
    rcases h1 with(h1|h1)|h1
    ·exact .inl h1
    ·exact .inr ⟨e,by simp,hb,.inl h1⟩
    ·exact .inr ⟨e,by simp,hb,.inr h1⟩
  ·exact .inr ⟨e',by simp[he'],h'⟩
theorem Zcot (hT:okT ops T=true) {l:Array Bool} (hc:Cl ops l) {i:Nat} (hi:l.getD i false=false):
  ∀j o,ops[j]? =some o->(∀e∈o.after,Region.binds .any e=true->l.getD e.on false=true)->depB T j i=false:=by
 intro j
 induction j using Nat.strongRecOn with
 | _ j ih=>
  intro o ho hall
  cases hd:depB T j i with
  | false=>rfl
  | true=>
   exfalso
   have h1:=List.all_eq_true.1 hT j (List.mem_range.2 (Array.getElem?_eq_some_iff.1 ho).1);simp only[ho,Bool.and_eq_true]at h1;have h2:=Nat.eq_of_beq_eq_true h1.2;have h3:(Nat.lor (T.getD j 0) (o.after.toList.foldl (λs e=>bif Region.binds .any e then Nat.lor (Nat.lor s (2^e.on)) (T.getD e.on 0)else s) 0)).testBit i=true:=by
    show((T.getD j 0) ||| _).testBit i=true;rw[Nat.testBit_or];simp only[depB]at hd;rw[hd];rfl
   rw[h2]at h3
   rcases Zctf h3 with h4|⟨e,he,hb,h5⟩
   ·simp at h4
   ·have hl:=hall e (by simpa using he) hb
    rcases h5 with rfl|h5
    ·rw[hi]at hl;cases hl
    ·have hlt:e.on<j:=by
      have:=Array.all_eq_true_iff_forall_mem.1 h1.1 e (by simpa using he);rw[hb]at this;rw[Bool.not_true,Bool.false_or]at this;exact Nat.le_of_ble_eq_true this
     have hon:∃o',ops[e.on]? =some o':=⟨_,Array.getElem?_eq_getElem (Nat.lt_trans hlt (Array.getElem?_eq_some_iff.1 ho).1)⟩;obtain⟨o',ho'⟩:=hon;have:=ih e.on hlt o' ho' (λe' he' hb'=>hc e.on hl o' ho' e' he' hb');unfold depB at this;rw[this]at h5;cases h5
theorem Cl.set {l:Array Bool} {j:Nat} (hc:Cl ops l) (hj:j∈Region.ready .any ops l):Cl ops (l.setIfInBounds j true):=by
 intro k hk o ho e he hb
 by_cases hkj:j=k
 ·subst hkj
  obtain⟨_,o',ho',hall⟩:=mem_ready.1 hj;obtain rfl:o'=o:=Option.some.inj (ho'.symm.trans ho);exact getD_set_true (hall e he hb)
 ·rw[getD_set_ne false hkj]at hk
  exact getD_set_true (hc k hk o ho e he hb)
theorem Zcuf {l:Array Bool} {i:Nat} (h:i∈Region.ready .any ops l):l.getD i false=false:=by
 have h0:=(mem_ready.1 h).1
 rcases Nat.lt_or_ge i l.size with h'|h'
 ·simpa[h']using h0
 ·simp[Array.getElem?_eq_none h']at h0
theorem Zcwd (hF:∀f,F.fn f) (hn:noDS ops=true) (hT:okT ops T=true) {A:World->Prop} {i:Nat} {oi:Oper} {v:Value} (hi:ops[i]? =some oi):
  ∀(fuel:Nat) (G:Gd) (l:Array Bool) (a:Act) (w:World),Cl ops l->
   (∀j oj,ops[j]? =some oj->j≠i->l.getD j true=false->(∀e∈oj.after,Region.binds .any e=true->e.on≠i)->oi.apart ops oj=true)->
   i∈Region.ready .any ops l->YF P ops A oi v a->A w->(∀g∈G,g.2 w)->
   wpG F n P ops R T fuel ((i,A)::G) (l.setIfInBounds i true) (a.put oi.dst v) w->wpG F n P ops R T (fuel+1) G l a w:=by
 intro fuel
 induction fuel with
 | zero=>
  intro G l a w _ _ hr hy hA hG H;refine⟨λh=>(by rw[h]at hr;cases hr),λj hj=>?_⟩
  by_cases hji:j=i
  ·subst hji
   exact hy.wpOpIn hF (Zcsw hn hi).2 hi hA ⟨λg hg _=>hG g hg,Zcwb 0 _ _ _ _ _ (λg hg=>by simp only[List.mem_filter]at hg;exact List.mem_cons_of_mem _ hg.1) H⟩
  ·have:=ready_mono hj hji
   rw[H.1]at this
   cases this
 | succ fuel ih=>
  intro G l a w hc hfree hr hy hA hG H;refine⟨λh=>(by rw[h]at hr;cases hr),λj hj=>?_⟩
  by_cases hji:j=i
  ·subst hji
   exact hy.wpOpIn hF (Zcsw hn hi).2 hi hA ⟨λg hg _=>hG g hg,Zcwb _ _ _ _ _ _ (λg hg=>by simp only[List.mem_filter]at hg;exact List.mem_cons_of_mem _ hg.1) H⟩
  ·have h1:=H.2 j (ready_mono hj hji)
   obtain⟨hjun,oj,hoj,hall⟩:=mem_ready.1 hj;have hnl:=Zcuf hr;have hnot:∀e∈oj.after,Region.binds .any e=true->e.on≠i:=λe he hb heq=>by
    have h1:=hall e he hb;rw[heq,hnl]at h1;cases h1
   have hdep:depB T j i=false:=Zcot hT hc hnl j oj hoj hall;have h2:=Zcwe (A:=A) hF hoj (hfree j oj hoj hji hjun hnot) (Zcsw hn hi).1 (Zcsw hn hoj).1 (Zcsw hn hoj).2 hy h1;have hfree':∀k ok,ops[k]? =some ok->k≠i->(l.setIfInBounds j true).getD k true=false->
     (∀e∈ok.after,Region.binds .any e=true->e.on≠i)->oi.apart ops ok=true:=λk ok hk hki hun hno=>by
    refine hfree k ok hk hki ?_ hno
    by_cases hjk:j=k
    ·subst hjk;exact hjun
    ·rw[getD_set_ne true hjk]at hun;exact hun
   refine wpOpIn_mono (λa' w' h3=>?_) h2;obtain⟨hy',hg',hG'⟩:=h3;refine⟨λg hg hd=>hg' g (List.mem_cons_of_mem _ hg) hd,ih _ (l.setIfInBounds j true) a' w' (hc.set hj) hfree' (ready_mono hr (Ne.symm hji)) hy' (hg' (i,A) (by simp) hdep) ?_ ?_⟩
   ·intro g hg
    simp only[List.mem_filter,Bool.not_eq_true']at hg;exact hg' g (List.mem_cons_of_mem _ hg.1) hg.2
   ·rw[Array.setIfInBounds_comm _ _ hji]
    simpa[List.filter_cons,hdep]using hG'
theorem Zcwc {fuel:Nat} {G:Gd} {l:Array Bool} {a:Act} {w:World} {j:Nat} (hr:Region.ready .any ops l = [j])
  (h:wpOpIn F n P ops (QN R) j (λa' w'=>(∀g∈G,depB T j g.1=false->g.2 w')/\wpG F n P ops R T fuel (G.filter λg=> !depB T j g.1) (l.setIfInBounds j true) a' w') a w):
  wpG F n P ops R T (fuel+1) G l a w:=by
 refine⟨λe=>?_,λk hk=>?_⟩
 ·rw[hr]at e;cases e
 ·rw[hr]at hk;simp at hk;subst hk;exact h
theorem Zcwa {fuel:Nat} {G:Gd} {l:Array Bool} {a:Act} {w:World} (hr:Region.ready .any ops l = []) (h:R a w):wpG F n P ops R T fuel G l a w:=by
 cases fuel with
 | zero=>exact⟨hr,h⟩
 | succ f=>exact⟨λ_=>h,λk hk=>by rw[hr]at hk;cases hk⟩
end
end Go.Proofs.YtokogjhcidkckaaGreatDoor.Exe
namespace Go.Proofs.YtokogjhcidkckaaGreatDoor.Exe
open Go
variable {P:Program} {G:Nat} {r:Ren} {h:Hp} {w:World}
structure St where
 e:Env
 k:Nat
 h:Hp
abbrev KF:=CK->List Value->Nat->Hp->Option (Value×Nat×Hp)
def CT (P:Program) (G:Nat) (r:Ren) (h:Hp) (w:World) (v:Value) (k1:Nat) (h1:Hp):Ending->World->Prop:=
 λe w1=>∃r1 v',e = .returned v'/\Nx r h w r1 h1 w1/\Rep (Zcmd k1) (Zp P) G r1 h1 w1/\ValR (Zp P) r1 v v'
def KSc (P:Program) (G:Nat) (r:Ren) (h:Hp) (w:World) (v:Value) (k1:Nat) (h1:Hp) (vs':List Value):CK->Prop
 | .fn f=>(∃r1 v' w1,(callFunc f vs'.toArray).run P w = .ok (.value v') w1/\Nx r h w r1 h1 w1/\Rep (Zcmd k1) (Zp P) G r1 h1 w1/\ValR (Zp P) r1 v v')∨
  ((callFunc f vs'.toArray).run P w = .ok (.enter f vs'.toArray) w/\CallsIn Fence.wide 0 P f vs'.toArray w (CT P G r h w v k1 h1))
 | .rd l=>∀e,r l=some e->∃f tmps asg body,(Instr.yield e.b vs'.toArray).run P w = .ok (.round e.b f tmps asg body) w/\RoundIn Fence.wide 0 P e.b f tmps asg body w (CT P G r h w v k1 h1)
def KS (P:Program) (G:Nat) (K:KF):Prop:=∀c vs k h v k1 h1,K c vs k h=some (v,k1,h1)->∀(r:Ren) (w:World) (vs':List Value),Rep (Zcmd k) (Zp P) G r h w->ValsR (Zp P) r vs vs'->KSc P G r h w v k1 h1 vs' c
structure FF (F:Fence):Prop where
 fn:∀f,F.fn f
 depth:F.depth=none
 lift:∀ {P:Program} {f:FuncId} {args:Array Value} {w:World} {R:Ending->World->Prop},CallsIn Fence.wide 0 P f args w R->CallsIn F 0 P f args w R
 liftR:∀ {P:Program} {l:Nat} {f:FuncId} {tmps:Array Value} {asg body:Code} {w:World} {R:Ending->World->Prop},RoundIn Fence.wide 0 P l f tmps asg body w R->RoundIn F 0 P l f tmps asg body w R
theorem FF.wide:FF Fence.wide:=⟨λ_=>trivial,rfl,λh=>h,λh=>h⟩
theorem FF.round (l:Nat):FF (Fence.wide.inRound l):=⟨λ_=>trivial,rfl,λh=>h.inRound l,λh=>h⟩
def SR (P:Program) (G:Nat) (r:Ren) (s:St) (a:Act) (w:World):Prop:=Rep (Zcmd s.k) (Zp P) G r s.h w/\EnvR (Zp P) r s.e a
def Zcro (o:Op):Nat:=match o with
 | .call { callee:= .value _,.. }=>2
 | .call { callee:= .builtin .append,.. }=>1
 | .call { callee:= .builtin .copy,.. }=>1
 | .call { callee:= .builtin .delete,.. }=>1
 | .call { callee:= .builtin .clear,.. }=>1
 | .call { callee:= .builtin .unsafeString,.. }=>1
 | .alloc _=>1
 | .box _ _=>1
 | .buildSlice _ _ _=>1
 | .store _ _ _=>1
 | .makeSlice _ _ _=>1
 | .makeMap _ _=>1
 | .mapUpdate _ _ _ _=>1
 | .insert _ _ _ _=>1
 | _=>0
def effX (P:Program) (G:Nat) (o:Oper) (s:St):Option St:=match Zcpa P s.k s.h (evC G s.e.t) o.op with
 | some (some v,h)=>some ⟨s.e.put o.dst v,s.k+1,h⟩
 | some (none,h)=>some ⟨s.e.put o.dst undef,s.k+1,h⟩
 | none=>none
def opX (P:Program) (G:Nat) (K:KF) (ops:Array Oper) (o:Oper) (s:St):Option St:=
 bif Zcvx ops s.e.t o then
  match Zcro o.op with
  | 0=>match Zcty P s.h (evC G s.e.t) o.op with
   | some (_,v)=>some ⟨s.e.put o.dst v,s.k,s.h⟩
   | none=>effX P G o s
  | 1=>effX P G o s
  | _=>match Zcoe (evC G s.e.t) o.op with
   | some (f,vs)=>match K f vs s.k s.h with
    | some (v,k,h)=>some ⟨s.e.put o.dst v,k,h⟩
    | none=>none
   | none=>none
 else some ⟨s.e.put o.dst undef,s.k,s.h⟩
theorem Zctl {F:Fence} (hF:FF F) {K:KF} (hK:KS P G K) {ops:Array Oper} {o:Oper} {i:Nat} (hi:ops[i]? =some o) (hd:∀c,o.op≠.defer c) {s s1:St} {a:Act} (hS:SR P G r s a w) (hc:opX P G K ops o s=some s1) {Q:Exit->Act->World->Prop}:
  wpOpIn F 0 P ops Q i (λa1 w1=>a1.defers=a.defers/\∃r1,Nx r s.h w r1 s1.h w1/\SR P G r1 s1 a1 w1) a w:=by
 obtain⟨hR,hE⟩:=hS;have hEv:EvR P r (evC G s.e.t) a.eval:=λx v hv=>Zcpi hR hE hv
 have hdef:∀d v,(a.put d v).defers=a.defers:=λd v=>by cases d<;>rfl
 unfold opX at hc;unfold wpOpIn;simp only[hi,Zcvy hE]
 cases hw:Zcvx ops s.e.t o with
 | false=>
  rw[hw]at hc;cases hc;simp only[Bool.false_eq_true,if_false];exact⟨λf _=>hF.fn f,hdef _ _,r,Nx.refl r s.h w,hR,hE.put .undef o.dst⟩
 | true=>
  rw[hw]at hc;simp only[cond_true]at hc;simp only[if_true,Oper.wpIn,Oper.semAt_eq F.round _ o hd];refine⟨λf _=>hF.fn f,?_⟩;have eff:∀s1,effX P G o s=some s1->Oper.uponIn F 0 P o a (λa1 w1=>a1.defers=a.defers/\∃r1,Nx r s.h w r1 s1.h w1/\SR P G r1 s1 a1 w1) Q ((execOp a.eval o).run P w):=by
   intro s1 hc;unfold effX at hc;split at hc
   ·rename_i v h1 he
    cases hc
    obtain⟨r1,w1,p1,p2,v',p3,p4⟩:=Zcpb hR hEv he;rw[p4];exact⟨hdef _ _,r1,p1,p2,(hE.mono p1.ext).put p3 o.dst⟩
   ·rename_i h1 he
    cases hc
    obtain⟨r1,w1,p1,p2,p4⟩:=Zcpb hR hEv he;rw[p4];exact⟨hdef _ _,r1,p1,p2,(hE.mono p1.ext).put .undef o.dst⟩
   ·cases hc
  split at hc
  ·split at hc
   case h_2=>exact eff _ hc
   rename_i rd v hp
   cases hc
   obtain⟨v',hv,hrun⟩:=Zctz hR hEv hp;rw[hrun w (λ_ _ _ _=>rfl)];exact⟨hdef _ _,r,Nx.refl r s.h w,hR,hE.put hv o.dst⟩
  ·exact eff _ hc
  ·split at hc
   case h_2=>cases hc
   rename_i f vs hcall
   split at hc
   case h_2=>cases hc
   rename_i v k h1 hk
   cases hc
   obtain⟨vs',hvs,hex⟩:=Zcof hEv hcall;have hk2:=hK _ _ _ _ _ _ _ hk r w vs' hR hvs
   cases f with
   | fn f=>
    simp only[CkS]at hex;rw[hex]
    rcases hk2 with⟨r1,v',w1,q1,q2,q3,q4⟩|⟨q1,q2⟩
    ·rw[q1]
     exact⟨hdef _ _,r1,q2,q3,(hE.mono q2.ext).put q4 o.dst⟩
    ·rw[q1]
     refine⟨λhx=>(by rw[hF.depth]at hx;cases hx),(hF.lift q2).mono ?_⟩;rintro e w1 ⟨r1,v',rfl,p1,p2,p3⟩;exact⟨hdef _ _,r1,p1,p2,(hE.mono p1.ext).put p3 o.dst⟩
   | rd l=>
    obtain⟨e,he,hex⟩:=hex;rw[hex];obtain⟨f,tmps,asg,body,q1,q2⟩:=hk2 e he;rw[q1];refine⟨λhx=>(by rw[hF.depth]at hx;cases hx),(hF.liftR q2).mono ?_⟩;rintro e w1 ⟨r1,v',rfl,p1,p2,p3⟩;exact⟨hdef _ _,r1,p1,p2,(hE.mono p1.ext).put p3 o.dst⟩
def regL (P:Program) (G:Nat) (K:KF) (ops:Array Oper):List Oper->St->Option St
 | [],s=>some s
 | o::l,s=>match opX P G K ops o s with
  | some s1=>regL P G K ops l s1
  | none=>none
theorem Zcug {F:Fence} (hF:FF F) {K:KF} (hK:KS P G K) {ops:Array Oper} (hn:noDS ops=true) {Q:Exit->Act->World->Prop}:∀ {l:List Oper} {pre:List Oper} {s s1:St} {a:Act} {r:Ren} {w:World},ops.toList=pre++l->SR P G r s a w->regL P G K ops l s=some s1->
  (∀r1 a1 w1,a1.defers=a.defers->Nx r s.h w r1 s1.h w1->SR P G r1 s1 a1 w1->Q .normal a1 w1)->wpOpsIn F 0 P ops Q (List.range' pre.length l.length) a w:=by
 intro l
 induction l with
 | nil=>
  intro pre s s1 a r w _ hS hc hQ
  cases hc
  exact hQ r a w rfl (Nx.refl _ _ _) hS
 | cons o l ih=>
  intro pre s s1 a r w hl hS hc hQ;simp only[regL]at hc;split at hc
  case h_2=>cases hc
  rename_i s2 ho
  have hi:ops[pre.length]? =some o:=by rw[<-Array.getElem?_toList,hl];simp
  simp only[List.length_cons,List.range'_succ];rw[wpOpsIn_cons];refine wpOpIn_mono ?_ (Zctl hF hK hi (Zcsw hn hi).2 hS ho);rintro a1 w1 ⟨hd,r1,q1,q2⟩;have:=ih (pre:=pre ++ [o]) (by simp[hl]) q2 hc (λr2 a2 w2 e1 e2 e3=>hQ r2 a2 w2 (e1.trans hd) (q1.trans e2) e3);simpa using this
end Go.Proofs.YtokogjhcidkckaaGreatDoor.Exe
namespace Go.Proofs.YtokogjhcidkckaaGreatDoor.Exe
open Go
variable {N:Nat->Prop} {P:Program} {Z:TypeId->Nat} {G:Nat} {r r1:Ren} {h h1 h0:Hp} {w w1 w0:World} {r0:Ren}
def mark (b:Nat):Deferred:={ target:= .collected b,args:=#[] }
def Mk (r:Ren) (h:Hp) (w:World) (b:Nat):Prop:=b<w.heap.size/\¬Own r h b/\w.heap[b]? =some (.deferred (some []))
def MS (w0:World) (r:Ren) (h:Hp) (w:World) (bs:List Nat):Prop:=bs.Nodup/\∀b∈bs,w0.heap.size<=b/\Mk r h w b
theorem MS.nil:MS w0 r h w []:=⟨List.nodup_nil,λb hb=>by cases hb⟩
theorem Mk.nx {b:Nat} (hm:Mk r h w b) (hn:Nx r h w r1 h1 w1):Mk r1 h1 w1 b:=
 ⟨Nat.lt_of_lt_of_le hm.1 hn.size,λk=>hm.2.1 (hn.own b hm.1 k),by rw[hn.frame b hm.1 hm.2.1];exact hm.2.2⟩
theorem MS.append {r2:Ren} {h2:Hp} {w2:World} {bs cs:List Nat} (hz:w0.heap.size<=w1.heap.size) (hb:MS w0 r1 h1 w1 bs) (hn:Nx r1 h1 w1 r2 h2 w2) (hc:MS w1 r2 h2 w2 cs):MS w0 r2 h2 w2 (cs++bs):=by
 refine⟨List.nodup_append.2 ⟨hc.1,hb.1,λa ha b hb' e=>?_⟩,λb hb'=>?_⟩
 ·subst e
  have h1:=(hc.2 a ha).1;have h2:=(hb.2 a hb').2.1;omega
 ·rcases List.mem_append.1 hb' with hb'|hb'
  ·obtain⟨a,c⟩:=hc.2 b hb'
   exact⟨by omega,c⟩
  ·obtain⟨a,c⟩:=hb.2 b hb'
   exact⟨a,c.nx hn⟩
theorem Rep.bump (hR:Rep N Z G r h w) (o:Obj):Rep N Z G r h (w.alloc o)/\Nx r h w r h (w.alloc o):=by
 have hold:∀b,b<w.heap.size->(w.alloc o).heap[b]? =w.heap[b]?:=λb hb=>by
  show(w.heap.push o)[b]? =_;rw[Array.getElem?_push,if_neg (by omega)]
 have hsz:(w.alloc o).heap.size=w.heap.size+1:=by show(w.heap.push o).size=_;simp
 refine⟨⟨λn p hl=>?_,hR.inj,λn e he=>?_,hR.new,hR.glo⟩,⟨Ext.refl r,by omega,λb hb _=>hold b hb,λ_ _ k=>k,λ_ _ k=>k,rfl,rfl,rfl⟩⟩
 ·obtain⟨e,he,p',hp',hO⟩:=hR.obj n p hl
  exact⟨e,he,p',by rw[hold _ (hR.low _ _ he)];exact hp',hO⟩
 ·have:=hR.low n e he;omega
theorem Rep.mk_bump (hR:Rep N Z G r h w):Mk r h (w.alloc (.deferred (some []))) w.heap.size:=by
 refine⟨by show _<(w.heap.push _).size;simp,?_,World.alloc_heap_new w _⟩;rintro⟨n,o,e,_,_,he,hb⟩;have:=hR.low n e he;omega
theorem Rep.putDef (hR:Rep N Z G r h w) {b:Nat} {ds} (hb:w.heap[b]? =some (.deferred ds)) (ds':Option (List Deferred)):Rep N Z G r h (w.putObj b (.deferred ds')):=by
 refine⟨λn p hl=>?_,hR.inj,λn e he=>by rw[World.putObj_size];exact hR.low n e he,hR.new,hR.glo⟩;obtain⟨e,he,p',hp',hO⟩:=hR.obj n p hl;refine⟨e,he,p',?_,hO⟩;rw[World.putObj_heap_other]
 ·exact hp'
 ·intro hx
  rw[hx,hb]at hp'
  cases hp'
  cases p<;>exact hO.elim
theorem Nx.putDef (hn:Nx r0 h0 w0 r h w) {b:Nat} (hb:w0.heap.size<=b) (o:Obj):Nx r0 h0 w0 r h (w.putObj b o):=
 ⟨hn.ext,by rw[World.putObj_size];exact hn.size,λc hc hno=>by rw[World.putObj_heap_other (by omega)];exact hn.frame c hc hno,hn.own,hn.live,hn.os,hn.tape,hn.output⟩
def Zcvq:List Nat->World->World
 | [],w=>w
 | b::bs,w=>Zcvq bs (w.putObj b (.deferred none))
theorem MS.putDef {b:Nat} {bs:List Nat} (hm:MS w0 r h w (b::bs)):MS w0 r h (w.putObj b (.deferred none)) bs:=by
 obtain⟨h1,h2⟩:=hm;obtain⟨h3,h4⟩:=List.nodup_cons.1 h1;refine⟨h4,λc hc=>?_⟩;obtain⟨a1,a2,a3,a4⟩:=h2 c (List.mem_cons_of_mem _ hc);refine⟨a1,by rw[World.putObj_size];exact a2,a3,?_⟩;have hne:c≠b:=λe=>h3 (e▸hc)
 rw[World.putObj_heap_other hne];exact a4
theorem Zcvr:∀(bs:List Nat) (w:World),Rep N Z G r h w->Nx r0 h0 w0 r h w->MS w0 r h w bs->Rep N Z G r h (Zcvq bs w)/\Nx r0 h0 w0 r h (Zcvq bs w)
 | [],_,hR,hn,_=>⟨hR,hn⟩
 | b::bs,w,hR,hn,hm=>Zcvr bs _ (hR.putDef (hm.2 b (by simp)).2.2.2 none) (hn.putDef (hm.2 b (by simp)).1 _) hm.putDef
theorem Zcrq {F:Fence} {n:Nat} {fn:Func} {tmps:Array Value} {R:Ending->World->Prop}:∀(bs:List Nat) (w:World),MS w0 r h w bs->
  (∃v,(results fn tmps).run P (Zcvq bs w) = .ok v (Zcvq bs w)/\R (.returned v) (Zcvq bs w))->LeavesInM F n P fn tmps R (bs.map mark) .returning w
 | [],_,_,hf=>hf
 | b::bs,w,hm,hf=>⟨by simp,.inl ⟨b,w.putObj b (.deferred none),rfl,run_takeDeferred (hm.2 b (by simp)).2.2.2,Zcrq bs _ hm.putDef hf⟩⟩
end Go.Proofs.YtokogjhcidkckaaGreatDoor.Exe
