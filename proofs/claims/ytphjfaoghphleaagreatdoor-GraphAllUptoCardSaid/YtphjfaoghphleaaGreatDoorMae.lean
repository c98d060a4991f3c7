import Derived.Test.YtphjfaoghphleaaGreatDoorMad
import Derived.RangeFuncCalls
set_option maxHeartbeats 1000000
namespace Go.Proofs.YtphjfaoghphleaaGreatDoor
namespace Exe
section
open Go
variable {N N':Nat->Prop} {P:Program} {Z:TypeId->Nat} {G:Nat} {r:Ren} {h:Hp} {w:World}
theorem Zcod (w:World) (e:TypeId) (s:ByteArray):Lib.bytesWorld w e s=w.drew.alloc (.cells (Lib.bytesCells w e s) e ((Lib.bytesCells w e s).size,(Lib.bytesCells w e s).size+1)):=by
 have a:∀(H:Array Obj) (C:Array Value) (m:Nat),H.size=m->(H.push (.cells C e)).modify m (fun
   | .cells c elem (lo,hi)=> .cells c elem (if lo==hi then(C.size,C.size+1)else(min lo C.size,max hi (C.size+1)))
   | o=>o)=H.push (.cells C e (C.size,C.size+1)):=by
  intro H C m f;subst f;apply Array.ext
  ·simp
  ·intro i g d
   rw[Array.getElem_modify,Array.getElem_push,Array.getElem_push];split
   ·rename_i b
    subst b;rw[dif_neg (by omega),dif_neg (by omega)];simp
   ·rename_i b
    simp only[Array.size_push]at d;rw[dif_pos (by omega),dif_pos (by omega)]
 unfold Lib.bytesWorld World.freeze;rw[if_neg (by omega)];exact congrArg (λH=>({ w.drew with heap:=H }:World)) (a w.drew.heap (Lib.bytesCells w e s) w.heap.size rfl)
def u8s:List UInt8->List Value
 | []=>[]
 | b::bs=> .int .u8 b.toNat::u8s bs
theorem Zcvu (l:List UInt8):u8s l=l.map λb=> .int .u8 b.toNat:=by
 induction l with
 | nil=>rfl
 | cons b l a=>simp[u8s,a]
def Zcob (P:Program) (k:Nat) (h:Hp) (src dst:TypeId):Value->Eff
 | .string s=>match P.underlying src with
  | some _=>match P.underlying dst with
   | some (.slice el)=>match P.underlying el with
    | some (.int .u8)=>bif Nat.beq (Zp P el) 1&&Nat.ble s.data.toList.length 1000000 then
     some (some (.slice (some ⟨2*k+1,0,none⟩) s.data.toList.length s.data.toList.length),(2*k+1,.cells (u8s s.data.toList) el 9223372036854775808 true)::h)else none
    | _=>none
   | _=>none
  | none=>none
 | _=>none
theorem Zcoc {k:Nat} (A:Rep (Zcmd k) (Zp P) G r h w) {n j:TypeId} {v v':Value} (H:ValR (Zp P) r v v') {x h1} (f:Zcob P k h n j v=some (x,h1)):ES P (Zp P) G k r h w x h1 (do pure (.value (<-convert n j v'))):=by
 unfold Zcob at f;split at f
 case h_2=>cases f
 rename_i s
 split at f
 case h_2=>cases f
 rename_i u F
 split at f
 case h_2=>cases f
 rename_i c B
 split at f
 case h_2=>cases f
 rename_i D
 cases q:(Nat.beq (Zp P c) 1&&Nat.ble s.data.toList.length 1000000)with
 | false=>rw[q]at f;cases f
 | true=>
  rw[q]at f;cases f;simp only[Bool.and_eq_true,Zcnc]at q;obtain⟨J,y⟩:=q;have y:=Nat.le_of_ble_eq_true y;have p:s.data.toList.length=s.size:=by simp
  rw[p]at y⊢;obtain rfl:=Zcna rfl H;have d:=Lib.run_convert_string_bytes (P:=P) w n j c s F B D;rw[Zcod]at d;have E:=grownCap_ge w s.size 0 c;have o:=grownCap_le_maxLen w s.size 0 c (by unfold maxLen;omega);unfold maxLen at o;generalize hcap:grownCap w s.size 0 c=cap at *;have l:(Lib.bytesCells w c s).size=cap:=by
   unfold Lib.bytesCells;rw[hcap];have:s.data.size=s.size:=rfl;simp[this];omega
  have g:∀(i:Nat) (v:Value),(u8s s.data.toList)[i]? =some v->(Lib.bytesCells w c s)[i]? =some v:=by
   intro i v m;unfold Lib.bytesCells;rw[Zcvu]at m;have t:=(List.getElem?_eq_some_iff.1 m).1;rw[Array.getElem?_append_left (by simpa using t)];simpa using m
  rw[l]at d;generalize Lib.bytesCells w c s=C at d l g;have z:ObjR (Zp P) r (2*k+1) ⟨w.drew.heap.size,0,cap,c⟩ (.cells (u8s s.data.toList) c 9223372036854775808 true) (.cells C c (cap,cap+1)):=by
   refine⟨rfl,rfl,l,by rw[Zcvu,List.length_map,p];omega,λhx=>(by rw[Zctd]at hx;cases hx),λi v m=>⟨v,g i v m,?_⟩,⟨?_,?_⟩,.inl rfl⟩
   ·rw[Zcvu,List.getElem?_map]at m
    obtain⟨b,_,rfl⟩:=Option.map_eq_some_iff.1 m;exact .same rfl
   ·exact .inr (Nat.le_refl _)
   ·intro hx
    have I:(9223372036854775808:Nat)+0=0:=hx;omega
  obtain⟨a,b⟩:=A.drew.alloc (nm:=2*k+1) (by omega) (by omega) z;refine⟨_,_,(Nx.drew r h w).trans b,a,_,.slice (e:=⟨w.heap.size,0,cap,c⟩) (c':=cap) (by simp[set1]) (by omega) (λhx=>(by rw[Zctd]at hx;cases hx)) (λ_=>by show CapR (0+0+cap*Zp P c) cap cap (Zp P c);rw[J];exact⟨by omega,λ_ _=>by omega,o⟩),?_⟩;simp[d]
def Zcqu (P:Program) (k:Nat) (h:Hp) (ts:Array TypeId):Value->Value->Eff
 | .slice none 0 sc,.int _ n=>match ts[0]?,ts[1]? with
  | some t,some u=>match P.underlying t,P.underlying u with
   | some (.slice el),some (.int _)=>match P.info? el with
    | some i=>match i.zero with
     | some zv=>bif decide ((sc:Int)<n)&&decide (n<=1000000)&&Nat.ble (n.toNat*i.bytes) 140737488355328&&Nat.beq zv.cells.size i.size && !(Nat.beq i.bytes 0)&&Nat.blt 0 i.size&&flat 4 zv then
      some (some (.slice (some ⟨2*k+1,0,none⟩) n.toNat n.toNat),(2*k+1,.cells (Builtin.zeroCells zv.cells n.toNat).toList el 0 false)::h)else none
     | none=>none
    | none=>none
   | _,_=>none
  | _,_=>none
 | _,_=>none
theorem Zcqv {k:Nat} (T:Rep (Zcmd k) (Zp P) G r h w) {ts:Array TypeId} {ty:TypeId} {s x s' O:Value} (W:ValR (Zp P) r s s') (hx:ValR (Zp P) r x O) {y h1} (a:Zcqu P k h ts s x=some (y,h1)):
  ES P (Zp P) G k r h w y h1 (do pure (.value (<-Builtin.append_ ts ty #[s',O]))):=by
 unfold Zcqu at a;split at a
 case h_2=>cases a
 rename_i e M n
 obtain rfl:=Zcna rfl W;obtain rfl:=Zcna rfl hx;split at a
 case h_2=>cases a
 rename_i t u X J
 split at a
 case h_2=>cases a
 rename_i g aa Y U
 split at a
 case h_2=>cases a
 rename_i i hi
 split at a
 case h_2=>cases a
 rename_i d hz
 cases B:(decide ((e:Int)<n)&&decide (n<=1000000)&&Nat.ble (n.toNat*i.bytes) 140737488355328&&Nat.beq d.cells.size i.size && !(Nat.beq i.bytes 0)&&Nat.blt 0 i.size&&flat 4 d)with
 | false=>rw[B]at a;cases a
 | true=>
  rw[B]at a;cases a;simp only[Bool.and_eq_true,decide_eq_true_eq,Bool.not_eq_true',Zcnc,Zcnd]at B;obtain⟨⟨⟨⟨⟨⟨b1,Q⟩,A⟩,L⟩,R⟩,C⟩,S⟩:=B;have A:=Nat.le_of_ble_eq_true A;have C:=Nat.le_of_ble_eq_true C;obtain⟨m,rfl⟩:∃m:Nat,n=m:=⟨n.toNat,by omega⟩;have V:((m:Nat):Int).toNat=m:=rfl;rw[V]at A⊢;have hw:=wrap_small (c:=(m:Int)) (by omega) Q;have F:e<0+m:=by omega
  have I:¬(m<=e):=by omega
  have D:=growslice_fits (bytes:=i.bytes) F (by simpa using A);have j:¬(281474976710656<Builtin.nextslicecap m e*i.bytes):=by simp only[Nat.zero_add]at D;omega
  have l:¬(9223372036854775807<(m:Int)):=by omega
  have E:¬(281474976710656<(m:Int)*(i.bytes:Int)):=by
   have:(m:Int)*(i.bytes:Int)=((m*i.bytes:Nat):Int):=by simp
   rw[this];omega
  have H:¬(m*i.size=0):=by
   have:=Nat.mul_pos (show 0<m by omega) C;omega
  obtain⟨b,f⟩:∃b,b=(Question.appendCap m e g).cut (w.tape w.drawn (Question.appendCap m e g)):=⟨_,rfl⟩;have o:m<=b/\b<=9223372036854775807:=by
   rw[f];refine⟨by simp[Question.cut],?_⟩;simp only[Question.cut];have:=Nat.mod_lt (w.tape w.drawn (Question.appendCap m e g)) (show 0<2^63-m by omega);omega
  have z:(Builtin.append_ ts ty #[.slice none 0 e,.int M m]).run P w = .ok (.slice (some ⟨w.heap.size,0,none⟩) m b) (w.drew.alloc (.cells (([]:List Value).toArray++(Builtin.zeroCells d.cells m).toList.toArray++Builtin.zeroCells d.cells (b-m)) g)):=by
   have q:¬((m:Int)<0):=by omega
   rw[f];simp[Builtin.append_,X,J,run_underlying Y,run_underlying U,sizeOf,typeInfo,zeroValue,hi,hz,asInt,asIntOf,hw,q,E,I,j,l,H,R,Question.forced,Builtin.firstCells,newRow,Question.cut]
  have K:Zp P g=i.size:=by show((P.info? g).map (·.size)).getD 0=_;rw[hi];rfl
  have v:ValsR (Zp P) r (Builtin.zeroCells d.cells m).toList (Builtin.zeroCells d.cells m).toList:=(Zcqj (Zcql (Z:=Zp P) (r:=r) 4 S).cells (m*d.cells.size)).list;have p:([]:List Value).length+(Builtin.zeroCells d.cells m).toList.length=m*i.size:=by
   have:=Zcwk d.cells m;simp[this,L]
  have:=Zcqw (P:=P) T K (zs:=d.cells) L p o (olds:=[]) (olds':=[]) .nil v (hi:=0) (s:=do pure (.value (<-Builtin.append_ ts ty #[.slice none 0 e,.int M m]))) (by rw[Sem.run_bind,z];rfl);simpa using this
def Zcvv (P:Program) (k:Nat) (h:Hp) (ts:Array TypeId) (s x:Value):Eff:=
 match appT P ts with
 | some (el,z,bytes,_)=>match srcC h z x with
  | some (n,us)=>match s with
   | .slice (some ⟨m,o,some 0⟩) 0 0=>match look h m with
    | some (.cells cs te hi ro)=>bif Nat.beq te el && !ro&&(Nat.ble hi o&&Nat.blt hi 9223372036854775808)&&Nat.ble o cs.length&&Zcqz us&&us.all oneC&&Nat.blt 0 n&&Nat.ble (n*bytes) 140737488355328&&Nat.ble n 4611686018427387904 then
     some (some (.slice (some ⟨2*k+1,0,none⟩) n n),(2*k+1,.cells us el hi false)::del h m)else none
    | _=>none
   | _=>none
  | none=>none
 | none=>none
theorem Zcvw {k:Nat} (I:Rep (Zcmd k) (Zp P) G r h w) {ts:Array TypeId} {ty:TypeId} {s x s' x':Value} (hs:ValR (Zp P) r s s') (hx:ValR (Zp P) r x x') {y h1} (a:Zcvv P k h ts s x=some (y,h1)):
  ES P (Zp P) G k r h w y h1 (do pure (.value (<-Builtin.append_ ts ty #[s',x']))):=by
 unfold Zcvv at a;split at a
 case h_2=>cases a
 rename_i el z u zv V
 obtain⟨T,X,U⟩:=Zcmu V;split at a
 case h_2=>cases a
 rename_i n us D
 obtain⟨vs,E,ab,g,i⟩:=Zcvj (P:=P) I hx D;split at a
 case h_2=>cases a
 rename_i m o
 split at a
 case h_2=>cases a
 rename_i cs te hi ro hl
 cases J:(Nat.beq te el && !ro&&(Nat.ble hi o&&Nat.blt hi 9223372036854775808)&&Nat.ble o cs.length&&Zcqz us&&us.all oneC&&Nat.blt 0 n&&Nat.ble (n*u) 140737488355328&&Nat.ble n 4611686018427387904)with
 | false=>rw[J]at a;cases a
 | true=>
  rw[J]at a;cases a;simp only[Bool.and_eq_true,Bool.not_eq_true',Zcnc]at J;obtain⟨⟨⟨⟨⟨⟨⟨⟨rfl,rfl⟩,L⟩,q3⟩,q5⟩,q4⟩,q6⟩,M⟩,b2⟩:=J;have ac:hi<9223372036854775808:=Nat.le_of_ble_eq_true L.2;have L:=Nat.le_of_ble_eq_true L.1;have q3:=Nat.le_of_ble_eq_true q3;have q6:=Nat.le_of_ble_eq_true q6;have M:=Nat.le_of_ble_eq_true M;have b2:=Nat.le_of_ble_eq_true b2
  cases hs with
  | same W=>simp[atom]at W
  | @void _ _ o' c' e he hxm F=>
   obtain⟨c0,f,d,hO⟩:=Zctc I hl he;have B:e.t=te:=hO.2.1
   rcases Nat.lt_or_ge c' n with ad|A
   ·obtain⟨cap,c1,c2⟩:=Zcmy (P:=P) (w:=w) T (ty:=ty) (base:=some ⟨e.b,o',none⟩) (sl:=0) (sc:=c') (us:=[]) g (i w.drew rfl) (by simp[Builtin.firstCells];rfl) (by omega) (by simpa using M) (by omega) X
    simp only[Nat.zero_add]at c1 c2;have hE:=Zcqw (P:=P) I U (olds:=[]) (olds':=[]) T.zero (len:=n) (cap:=cap) (by simpa using ab) c1 .nil E (hi:=hi) (s:=do pure (.value (<-Builtin.append_ ts ty #[.slice (some ⟨e.b,o',none⟩) 0 c',x']))) (by simp[c2]);obtain⟨r1,w1,p1,p2,p3⟩:=hE;rw[List.nil_append]at p1 p2;have q:∀m' p,look ((2*k+1,CO.cells us te hi false)::del h m) m'=some p->look ((2*k+1,CO.cells us te hi false)::h) m'=some p:=by
     intro m' p C;rw[Zcrv]at C⊢;split
     ·rename_i O;rw[if_pos O]at C;exact C
     ·rename_i O;rw[if_neg O]at C;exact Zcrx _ _ C
    exact⟨r1,w1,p1.trans (Nx.sub r1 w1 q),p2.sub q,p3⟩
   ·rcases F with F|⟨rfl,c⟩
    ·omega
    ·rw[B,U]at c
     have af:=c.1;have h5:n*z<=c'*z:=Nat.mul_le_mul_right z A;have R:=hO;obtain⟨a1,a2,a3,a4,a5,a6,a7⟩:=R;have ae:=a7.1.1;have ag:=E.1;have l:=run_storeCells_cells (P:=P) e.b (o+e.sh) vs 0 w (λj K=>by
       rw[cell_of d];simp;omega) (λj K=>by
       simp only[World.frozen?,d]
       cases Y:(decide (f.1<=o+e.sh+0+j)&&decide (o+e.sh+0+j<f.2))with
       | false=>rfl
       | true=>
        exfalso
        simp only[Bool.and_eq_true,decide_eq_true_eq]at Y;omega) (λv hm=>by
       obtain⟨j,K⟩:=List.getElem?_of_mem hm;have aa:j<us.length:=by rw[E.1];exact(List.getElem?_eq_some_iff.1 K).1
       exact Zcti (List.all_eq_true.1 q4 us[j] (by simp)) (E.2 j _ _ (by simp[aa]) K))
     have Q:=Rep.realias (P:=P) I (n:=m) (o:=o) (nm:=2*k+1) (e:=e) (olds:=[]) (us:=us) (vs:=vs) (by omega) (by omega) (Zctd k) hl he (by simpa using q3)
      (by simp) E (by simp;omega) (by simpa using⟨L,ac⟩) (.inr q5) q4 (by simpa using l)
     rw[List.nil_append]at Q;refine⟨_,_,Q.2,Q.1,_,.slice (e:=⟨e.b,o+e.sh,e.S,e.t⟩) (c':=c') (by simp[set1]) A (λH=>by rw[Zctd]at H;cases H) (λ_=>by simp only[Nat.zero_add];rw[B,U];exact c),?_⟩;have:=Zcmx (P:=P) T (ty:=ty) (base:=some ⟨e.b,o+e.sh,none⟩) (sl:=0) (sc:=c') g (i w rfl) (by simpa using A) (by show(storeCells ((⟨e.b,o+e.sh,none⟩:Addr).add (0*z)) vs).run P w=_;rw[addr_add];simpa using l);rw[Nat.zero_add]at this;simp[this]
end
section
open Go
variable {N N':Nat->Prop} {P:Program} {Z:TypeId->Nat} {G:Nat} {r:Ren} {h:Hp} {w:World}
def eff1 (ev:Ev) (x:Operand) (f:Value->Eff):Eff:=match ev x with
 | some v=>f v
 | none=>none
def eff2 (ev:Ev) (x y:Operand) (f:Value->Value->Eff):Eff:=match ev x with
 | some v=>match ev y with
  | some u=>f v u
  | none=>none
 | none=>none
def effP (ev:Ev) (ps:List (Nat×Operand)) (f:List (Nat×Value)->Eff):Eff:=match evP ev ps with
 | some vs=>f vs
 | none=>none
theorem Zcoy {b:Ev} {x f p} (a:eff1 b x f=some p):∃v,b x=some v/\f v=some p:=by
 unfold eff1 at a;split at a
 ·exact⟨_,by assumption,a⟩
 ·cases a
theorem Zcoz {b:Ev} {x y f p} (a:eff2 b x y f=some p):∃v u,b x=some v/\b y=some u/\f v u=some p:=by
 unfold eff2 at a;split at a
 ·split at a
  ·exact⟨_,_,by assumption,by assumption,a⟩
  ·cases a
 ·cases a
def Zcrb (P:Program) (k:Nat) (h:Hp) (t:TypeId):Value->Eff
 | .int _ _=>match P.underlying t with
  | some (.map _ _)=>mapC k h
  | _=>none
 | _=>none
def appC (P:Program) (k:Nat) (h:Hp) (ts:Array TypeId) (s x:Value):Eff:=match Zcmv P k h ts s x with
 | some q=>some q
 | none=>match Zcqu P k h ts s x with
  | some q=>some q
  | none=>Zcvv P k h ts s x
theorem Zcmt {k:Nat} (b:Rep (Zcmd k) (Zp P) G r h w) {ts:Array TypeId} {ty:TypeId} {s x s' e:Value} (d:ValR (Zp P) r s s') (hx:ValR (Zp P) r x e) {y h1} (a:appC P k h ts s x=some (y,h1)):
  ES P (Zp P) G k r h w y h1 (do pure (.value (<-Builtin.append_ ts ty #[s',e]))):=by
 unfold appC at a;split at a
 ·rename_i q c;cases a;exact Zcmw b d hx c
 ·split at a
  ·rename_i q c;cases a;exact Zcqv b d hx c
  ·exact Zcvw b d hx a
def delC (P:Program) (h:Hp) (ts:Array TypeId) (m k:Value):Eff:=
 match m with
 | .map (some n)=>match (ts[0]?).bind P.underlying with
  | some (.map kt _)=>match P.underlying kt with
   | some kd=>bif Zcte kd k then
     match look h n with
     | some (.map es ck ro)=>bif ro then none else match Zcqe kd k es 0 with
      | some (some (i,_))=>some (some (.tuple #[]),upd h n (.map (es.eraseIdx i) ck false))
      | some none=>some (some (.tuple #[]),upd h n (.map es ck false))
      | none=>none
     | _=>none
    else none
   | none=>none
  | _=>none
 | _=>none
theorem EntsR.erase {r:Ren} {d:List (Value×Value×Nat)} {a:List MapEntry} (c:EntsR P r d a) (i:Nat):EntsR P r (d.eraseIdx i) (a.eraseIdx i):=by
 have e:=c.1;refine⟨by simp[List.length_eraseIdx,e],λj x y hx b=>?_⟩;rw[List.getElem?_eraseIdx]at hx b;split at hx
 ·rw[if_pos (by assumption)]at b;exact c.2 j x y hx b
 ·rw[if_neg (by assumption)]at b;exact c.2 (j+1) x y hx b
theorem Zcye {Q:Nat} (I:Rep (Zcmd Q) (Zp P) G r h w) {ts:Array TypeId} {ty:TypeId} {m k W H:Value} (hm:ValR (Zp P) r m W) (hk:ValR (Zp P) r k H) {y h1} (c:delC P h ts m k=some (y,h1)):
  ES P (Zp P) G Q r h w y h1 (do pure (.value (<-Builtin.delete_ ts ty #[W,H]))):=by
 unfold delC at c;split at c
 case h_2=>cases c
 rename_i n
 split at c
 case h_2=>cases c
 rename_i kt el F
 obtain⟨t,T,F⟩:=Zcnh F;split at c
 case h_2=>cases c
 rename_i V g
 cases d:Zcte V k with
 | false=>rw[d]at c;cases c
 | true=>
  rw[d]at c;simp only[cond_true]at c;have J:atom k=true:=by cases V<;>cases k<;>first|rfl|(simp[Zcte]at d;done)
  obtain rfl:=Zcna J hk;split at c
  case h_2=>cases c
  rename_i X ck ro S
  cases z:ro with
  | true=>rw[z]at c;cases c
  | false=>
   subst z;simp only[cond_false]at c
   cases hm with
   | same Y=>simp[atom]at Y
   | @map _ e he=>
    obtain⟨e',K,o',l,D⟩:=I.obj n _ S;obtain rfl:=Option.some.inj (he.symm.trans K)
    cases o' with
    | map o q=>
     have C:EntsR P r X o.toList:=⟨by simpa using D.2.1,λi x y a b=>D.2.2 i x y a (by simpa using b)⟩;obtain rfl:=D.1;have s:∀(f:List (Value×Value×Nat)) (B:Array MapEntry),EntsR P r f B.toList->(Builtin.delete_ ts ty #[.map (some e.b),H]).run P w = .ok (.tuple #[]) { w with heap:=w.heap.setIfInBounds e.b (.map B q) }->
       ES P (Zp P) G Q r h w (some (.tuple #[])) (upd h n (.map f q false)) (do pure (.value (<-Builtin.delete_ ts ty #[.map (some e.b),H]))):=by
      intro f B U A;have M:=I.low _ _ he;obtain⟨p1,p2⟩:=I.write (w':={ w with heap:=w.heap.setIfInBounds e.b (.map B q) }) (o1:= .map f q false) S rfl rfl he (by simp[M]) (λb hb=>by simp[Array.getElem?_setIfInBounds_ne (Ne.symm hb)]) (by simp)
       (o1':= .map B q) ⟨rfl,by simpa using U.1,λi x y a b=>U.2 i x y a (by simpa using b)⟩ rfl rfl rfl
      exact⟨r,_,p2,p1.weak Zcqr,.tuple #[],ValR.undef,by rw[Sem.run_bind,A];rfl⟩
     split at c
     ·rename_i i v L
      cases c
      obtain⟨R,O,E⟩:=Zcqf C L
      cases R with
      | none=>exact E.elim
      | some p=>
       obtain⟨j,u⟩:=p;obtain⟨rfl,_⟩:=E;refine s _ (o.eraseIdxIfInBounds i) (by simpa using C.erase i) ?_;simp only[Builtin.delete_,T,List.getElem?_toArray,List.getElem?_cons_zero,List.getElem?_cons_succ,Sem.run_bind,run_underlying F,Result.andThen_ok,getObj,setObj,Sem.run,l,Zcok g d,Instr.findKey,run_underlying g];simp[O,Sem.run,l]
     ·rename_i L
      cases c
      obtain⟨R,O,E⟩:=Zcqf C L
      cases R with
      | some p=>exact E.elim
      | none=>
       refine s _ o C ?_;simp only[Builtin.delete_,T,List.getElem?_toArray,List.getElem?_cons_zero,List.getElem?_cons_succ,Sem.run_bind,run_underlying F,Result.andThen_ok,getObj,setObj,Sem.run,l,Zcok g d,Instr.findKey,run_underlying g];simp[O,Sem.run,l]
     ·cases c
    | _=>exact D.elim
def clrC (P:Program) (h:Hp) (ts:Array TypeId) (v:Value):Eff:=match (ts[0]?).bind P.underlying with
 | some (.slice el)=>match v with
  | .slice none _ _=>some (some (.tuple #[]),h)
  | .slice (some ⟨n,o,none⟩) l _=>match Zcwh P el with
   | some z=>match look h n with
    | some (.cells cs _ _ _)=>bif !(Nat.beq l 0)&&Nat.ble (o+l*z.cells.size) cs.length then match Zcwf h n o (Builtin.zeroCells z.cells l).toList with
      | some h1=>some (some (.tuple #[]),h1)
      | none=>none
     else bif Nat.beq l 0 then some (some (.tuple #[]),h)else none
    | _=>none
   | none=>none
  | _=>none
 | _=>none
theorem Zcxz {s:Nat} (i:Rep (Zcmd s) (Zp P) G r h w) {ts:Array TypeId} {ty:TypeId} {v v':Value} (p:ValR (Zp P) r v v') {y h1} (a:clrC P h ts v=some (y,h1)):
  ES P (Zp P) G s r h w y h1 (do pure (.value (<-Builtin.clear_ ts ty #[v']))):=by
 unfold clrC at a;split at a
 case h_2=>cases a
 rename_i O g
 obtain⟨t,m,g⟩:=Zcnh g;split at a
 ·cases a
  obtain rfl:=Zcna rfl p;refine⟨r,w,Nx.refl r h w,i.weak Zcqr,.tuple #[],ValR.undef,?_⟩;simp[Builtin.clear_,m,run_underlying g]
 ·rename_i n o l c
  split at a
  case h_2=>cases a
  rename_i z q
  split at a
  case h_2=>cases a
  rename_i x S B J k
  cases p with
  | same A=>simp[atom]at A
  | @slice _ _ _ _ c' e he _ _ _=>
   cases d:(!(Nat.beq l 0)&&Nat.ble (o+l*z.cells.size) x.length)with
   | false=>
    rw[d]at a;simp only[cond_false]at a
    cases b:Nat.beq l 0 with
    | false=>rw[b]at a;cases a
    | true=>
     rw[b]at a;cases a;obtain rfl:=Zcnc.1 b;refine⟨r,w,Nx.refl r h w,i.weak Zcqr,.tuple #[],ValR.undef,?_⟩;simp[Builtin.clear_,m,run_underlying g]
   | true=>
    rw[d]at a;simp only[cond_true]at a;simp only[Bool.and_eq_true,Bool.not_eq_true',Zcnd]at d;have L:=Nat.le_of_ble_eq_true d.2;split at a
    case h_2=>cases a
    rename_i R E
    cases a
    obtain⟨M,Q,D,j⟩:=Zctc i k he;have f:ValsR (Zp P) r (Builtin.zeroCells z.cells l).toList (Builtin.zeroCells z.cells l).toList:=(Zcqj (Zcql (Z:=Zp P) (r:=r) 4 (Zcwi q)).cells (l*z.cells.size)).list;obtain⟨K,F,H,I⟩:=Zcwg (P:=P) i he f E (by
     have:=j.2.2.2.1;simp[Builtin.zeroCells];omega)
    refine⟨r,K,I,H.weak Zcqr,.tuple #[],ValR.undef,?_⟩;have C:l≠0:=d.1;obtain⟨u,rfl⟩:∃u,l=u+1:=⟨l-1,by omega⟩;simp[Builtin.clear_,m,run_underlying g,Zcwj q,F]
 ·cases a
def Zcny (P:Program) (k:Nat) (h:Hp) (ev:Ev) (b:Builtin) (ts:Array TypeId) (args:List Operand):Eff:=match b with
 | .append=>match args with
  | [x,y]=>eff2 ev x y (appC P k h ts)
  | _=>none
 | .copy=>match args with
  | [x,y]=>eff2 ev x y (Zcop P h ts)
  | _=>none
 | .unsafeString=>match args with
  | [x,y]=>eff2 ev x y (strC P h ts)
  | _=>none
 | .delete=>match args with
  | [x,y]=>eff2 ev x y (delC P h ts)
  | _=>none
 | .clear=>match args with
  | [x]=>eff1 ev x (clrC P h ts)
  | _=>none
 | _=>none
def Zcpa (P:Program) (k:Nat) (h:Hp) (ev:Ev) (o:Op):Eff:=match o with
 | .alloc t=>Zcmq P k h t
 | .box t x=>eff1 ev x (boxC k h t)
 | .convert src dst x=>eff1 ev x (Zcob P k h src dst)
 | .buildSlice t n ps=>effP ev ps.toList (Zcvg P k h t n)
 | .store t a x=>eff2 ev a x λa x=>Zcvk P h t x a
 | .makeSlice t l c=>eff2 ev l c (Zcsi P k h t)
 | .makeMap _ none=>mapC k h
 | .makeMap t (some x)=>eff1 ev x (Zcrb P k h t)
 | .mapUpdate t m x v=>eff2 ev m x λm x=>eff1 ev v λv=>Zcsl P h t m x v
 | .insert t m x v=>eff2 ev m x λm x=>eff1 ev v λv=>Zcsl P h t m x v
 | .call { callee:= .builtin b,args:=args,argTypes:=ts }=>Zcny P k h ev b ts args.toList
 | _=>none
theorem Zcpb {k:Nat} (l:Rep (Zcmd k) (Zp P) G r h w) {H:Ev} {f:Operand->Value} (i:EvR P r H f) {o:Oper} {y g} (c:Zcpa P k h H o.op=some (y,g)):ES P (Zp P) G k r h w y g (execOp f o):=by
 obtain⟨C,M,K,F,s,z⟩:=o
 dsimp only at c
 unfold Zcpa at c;split at c
 ·exact Zcmr l c
 ·obtain⟨v,g,d⟩:=Zcoy c;exact Zcnt l (i _ _ g) d
 ·obtain⟨v,g,d⟩:=Zcoy c;exact Zcoc l (i _ _ g) d
 ·rename_i t n I
  unfold effP at c;split at c
  case h_2=>cases c
  rename_i B A
  have:=Zcvh l (Zcpl i A) c;have e:(I.toList.map λp=>(p.1,f p.2)).toArray=I.map λx=>(x.1,f x.2):=by apply Array.ext';simp
  rw[e]at this;exact this
 ·obtain⟨v,u,g,d,j⟩:=Zcoz c;exact Zcvl l (i _ _ g) (i _ _ d) j
 ·obtain⟨v,u,g,d,j⟩:=Zcoz c;exact Zcsj l (i _ _ g) (i _ _ d) j
 ·exact Zcsk l c (.inl rfl)
 ·obtain⟨v,g,d⟩:=Zcoy c
  unfold Zcrb at d;split at d
  case h_2=>cases d
  split at d
  case h_2=>cases d
  rename_i a b L
  have e:=Zcna rfl (i _ _ g);have:=Zcsk l d (hint:=some (f _)) (.inr ⟨_,_,a,b,congrArg some e,L⟩);exact this
 ·obtain⟨v,u,g,d,j⟩:=Zcoz c
  obtain⟨x,D,E⟩:=Zcoy j;exact Zcsm l (i _ _ g) (i _ _ d) (i _ _ D) E
 ·obtain⟨v,u,g,d,j⟩:=Zcoz c
  obtain⟨x,D,E⟩:=Zcoy j;exact Zcsm l (i _ _ g) (i _ _ d) (i _ _ D) E
 ·rename_i b m J
  have q:∀B:List Operand,m.toList=B->execOp f ⟨C,.call ⟨.builtin b,m,J⟩,K,F,s,z⟩=builtin b J K (m.map fun | .const _=>true|_=>false) (B.map f).toArray:=by
   intro B A;have:(B.map f).toArray=m.map f:=by rw[<-A];apply Array.ext';simp
   rw[this];rfl
  unfold Zcny at c;split at c
  ·split at c
   ·rename_i x y hx
    obtain⟨v,u,g,d,j⟩:=Zcoz c;rw[q _ hx];exact Zcmt l (i _ _ g) (i _ _ d) j
   ·cases c
  ·split at c
   ·rename_i x y hx
    obtain⟨v,u,g,d,j⟩:=Zcoz c;rw[q _ hx];exact Zcoq l (i _ _ g) (i _ _ d) j
   ·cases c
  ·split at c
   ·rename_i x y hx
    obtain⟨v,u,g,d,j⟩:=Zcoz c;rw[q _ hx];exact Zcvm l (i _ _ g) (i _ _ d) j
   ·cases c
  ·split at c
   ·rename_i x y hx
    obtain⟨v,u,g,d,j⟩:=Zcoz c;rw[q _ hx];exact Zcye l (i _ _ g) (i _ _ d) j
   ·cases c
  ·split at c
   ·rename_i x hx
    obtain⟨v,g,d⟩:=Zcoy c;rw[q _ hx];exact Zcxz l (i _ _ g) d
   ·cases c
  ·cases c
 ·cases c
inductive CK where
 | fn (f:FuncId)
 | rd (l:Nat)
def CkS (r:Ren):CK->List Value->Sem Next->Prop
 | .fn g,vs,s=>s=callFunc g vs.toArray
 | .rd l,vs,s=>∃e,r l=some e/\s=Instr.yield e.b vs.toArray
def Zcoe (ev:Ev) (o:Op):Option (CK×List Value):=match o with
 | .call { callee:= .value g,args:=args,.. }=>match ev g with
  | some (.func (.func f) fs cs)=>match evL ev args.toList with
   | some vs=>some (.fn f,fs.toList++vs++cs.toList)
   | none=>none
  | some (.func (.yield l) _ _)=>match evL ev args.toList with
   | some vs=>some (.rd l,vs)
   | none=>none
  | _=>none
 | _=>none
theorem Zcof {C:Ev} {f:Operand->Value} (x:EvR P r C f) {o:Oper} {g:CK} {vs:List Value} (d:Zcoe C o.op=some (g,vs)):
  ∃c,ValsR (Zp P) r vs c/\CkS r g c (execOp f o):=by
 obtain⟨q,I,F,s,i,j⟩:=o
 dsimp only at d
 unfold Zcoe at d;split at d
 case h_2=>cases d
 rename_i v a E
 split at d
 case h_3=>cases d
 ·rename_i D u t A
  split at d
  case h_2=>cases d
  rename_i H n
  cases d
  have B:=x _ _ A;have hargs:=Zcpj x n;have p:∀k,ValR (Zp P) r (.func (.func D) u t) k->k=f v->∃c,ValsR (Zp P) r (u.toList++H++t.toList) c/\execOp f ⟨q,.call ⟨.value v,a,E⟩,F,s,i,j⟩=callFunc D c.toArray:=by
   intro k m z
   cases m with
   | same y=>simp[atom]at y
   | @func _ _ ys _ zs a1 a2 a3 a4=>
    refine⟨ys.toList++a.toList.map f++zs.toList,((ArrR.list (P:=P) ⟨a1,a2⟩).append hargs).append (ArrR.list (P:=P) ⟨a3,a4⟩),?_⟩;have:(ys.toList++a.toList.map f++zs.toList).toArray=ys++a.map f++zs:=by apply Array.ext';simp
    rw[this];simp only[execOp,resolve,<-z];rfl
  exact p _ B rfl
 ·rename_i l u t A
  split at d
  case h_2=>cases d
  rename_i H n
  cases d
  have B:=x _ _ A;have hargs:=Zcpj x n;have p:∀k,ValR (Zp P) r (.func (.yield l) u t) k->k=f v->∃c,ValsR (Zp P) r vs c/\∃e,r l=some e/\execOp f ⟨q,.call ⟨.value v,a,E⟩,F,s,i,j⟩=Instr.yield e.b c.toArray:=by
   intro k m z
   cases m with
   | same y=>simp[atom]at y
   | @yield _ e hr=>
    refine⟨a.toList.map f,hargs,e,hr,?_⟩;have:(a.toList.map f).toArray = #[]++a.map f:=by apply Array.ext';simp
    rw[this];simp only[execOp,resolve,<-z];rfl
  exact p _ B rfl
def Zcvi (t:Tr) (d:Option Tmp) (want:Bool):Bool:=match d with
 | some d=>match t.get d with
  | .bool b=>b==want
  | _=>false
 | none=>false
def Zcvx (ops:Array Oper) (t:Tr) (o:Oper):Bool:=match o.guard with
 | none=>true
 | some (j,want)=>Zcvi t ((ops[j]?).bind (·.dst)) want
theorem Zcvy {Z:TypeId->Nat} {e:Env} {a:Act} (n:EnvR Z r e a) (c:Array Oper) (o:Oper):Region.wanted o (yielded c a.tmps)=Zcvx c e.t o:=by
 unfold Region.wanted Zcvx
 cases s:o.guard with
 | none=>rfl
 | some p=>
  obtain⟨j,m⟩:=p;simp only;unfold yielded Zcvi
  cases q:(c[j]?).bind (·.dst)with
  | none=>simp
  | some d=>
   have b:=n.2.2 d;simp only[Option.bind_some]
   rcases Nat.lt_or_ge d a.tmps.size with g|f
   ·have i:a.tmps[d]? =some a.tmps[d]:=by simp[g]
    have k:a.tmps.getD d undef=a.tmps[d]:=by simp[g]
    rw[k]at b;rw[i];generalize a.tmps[d]=u at b;generalize e.t.get d=v at b
    cases b with
    | same l=>cases u<;>first|(simp;done)|(simp[atom]at l;done)
    | _=>simp
   ·have i:a.tmps[d]? =none:=by simp[f]
    have k:a.tmps.getD d undef=undef:=by simp[f]
    rw[k]at b;rw[i];generalize e.t.get d=v at b;unfold undef at b
    cases b with
    | same l=>simp[atom]at l
    | tuple _ _=>simp
end
open Go
section
variable {F:Fence} {n:Nat} {P:Program} {ops:Array Oper} {R:Act->World->Prop} {T:List Nat}
abbrev QN (R:Act->World->Prop):Exit->Act->World->Prop:=λe a w=>e = .normal/\R a w
abbrev Gd:=List (Nat×(World->Prop))
def depB (T:List Nat) (j i:Nat):Bool:=(T.getD j 0).testBit i
def wpG (F:Fence) (n:Nat) (P:Program) (ops:Array Oper) (R:Act->World->Prop) (T:List Nat):Nat->Gd->Array Bool->Act->World->Prop
 | 0,_,l,a,w=>Region.ready .any ops l = []/\R a w
 | fuel+1,G,l,a,w=>(Region.ready .any ops l = []->R a w)/\∀j∈Region.ready .any ops l,
  wpOpIn F n P ops (QN R) j (λa' w'=>(∀g∈G,depB T j g.1=false->g.2 w')/\wpG F n P ops R T fuel (G.filter λg=> !depB T j g.1) (l.setIfInBounds j true) a' w') a w
theorem Zcvz:∀(b:Nat) (G:Gd) (l:Array Bool) (a:Act) (w:World),wpG F n P ops R T b G l a w->wpAnyIn F n P .any ops (QN R) b l a w
 | 0,_,_,_,_,h=>⟨h.1,rfl,h.2⟩
 | b+1,_,_,_,_,h=>⟨λe=>⟨rfl,h.1 e⟩,λj d=>wpOpIn_mono (λa' w' c=>Zcvz b _ _ a' w' c.2) (h.2 j d)⟩
theorem Zcwb:∀(b:Nat) (G d:Gd) (l:Array Bool) (a:Act) (w:World),(∀g∈d,g∈G)->wpG F n P ops R T b G l a w->wpG F n P ops R T b d l a w
 | 0,_,_,_,_,_,_,h=>h
 | b+1,G,d,_,_,_,hs,h=>⟨h.1,λj i=>wpOpIn_mono (λa' w' e=>⟨λg c f=>e.1 g (hs g c) f,
  Zcwb b _ _ _ a' w' (λg c=>by simp only[List.mem_filter]at c⊢;exact⟨hs g c.1,c.2⟩) e.2⟩) (h.2 j i)⟩
def YF (P:Program) (ops:Array Oper) (A:World->Prop) (o:Oper) (v:Value) (a:Act):Prop:=
 (Region.wanted o (yielded ops a.tmps)=true/\∀w,A w->(execOp a.eval o).run P w = .ok (.value v) w)\/(Region.wanted o (yielded ops a.tmps)=false/\v=undef)
def noDS (ops:Array Oper):Bool:=ops.all λo=>match o.op with | .select .. =>false | .defer _=>false|_=>true
theorem Zcsw (h:noDS ops=true) {j:Nat} {o:Oper} (d:ops[j]? =some o):(∀a b,o.op≠.select a b)/\∀c,o.op≠.defer c:=by
 have:=Array.all_eq_true_iff_forall_mem.1 h o (Array.mem_of_getElem? d)
 grind
theorem YF.wpOpIn {A:World->Prop} {i:Nat} {o:Oper} {v:Value} {a:Act} (e:∀f,F.fn f) (g:∀c,o.op≠.defer c) (hi:ops[i]? =some o) (k:YF P ops A o v a)
  {K:Act->World->Prop} {w:World} {Q:Exit->Act->World->Prop} (d:A w) (h:K (a.put o.dst v) w):wpOpIn F n P ops Q i K a w:=by
 unfold Go.wpOpIn;simp only[hi]
 rcases k with⟨b,j⟩|⟨b,rfl⟩
 ·simp only[b,if_true,Oper.wpIn,Oper.semAt_eq F.round _ o g,j w d,Oper.uponIn];exact⟨λf _=>e f,h⟩
 ·grind
theorem YF.of_same {A:World->Prop} {o:Oper} {v:Value} {a a':Act} (d:YF P ops A o v a) (b:execOp a'.eval o=execOp a.eval o)
  (c:Region.wanted o (yielded ops a'.tmps)=Region.wanted o (yielded ops a.tmps)):YF P ops A o v a':=by
 unfold YF at *;rw[b,c];exact d
theorem Zcwe {A:World->Prop} {j:Nat} {oi e:Oper} {v:Value} (y:∀f,F.fn f) (z:ops[j]? =some e) (o:oi.apart ops e=true)
  (i:∀m b,oi.op≠.select m b) (p:∀m b,e.op≠.select m b) (g:∀c,e.op≠.defer c) {K:Act->World->Prop} {a:Act} {w:World}
  (s:YF P ops A oi v a) (h:wpOpIn F n P ops (QN R) j K (a.put oi.dst v) w):
  wpOpIn F n P ops (QN R) j (λa' w'=>YF P ops A oi v a'/\K (a'.put oi.dst v) w') a w:=by
 obtain⟨q,C,k⟩:=Oper.apart_spec o;have t:∀u,YF P ops A oi v (a.put e.dst u):=λu=>
  s.of_same (execOp_put oi i a e.dst u k) (wanted_put oi a e.dst u k)
 unfold Go.wpOpIn at *;simp only[z]at *;rw[wanted_put e a oi.dst v q]at h;split
 ·rename_i B
  simp only[B,if_true]at h;refine⟨λf _=>y f,?_⟩;have h:=h.2;rw[Oper.semAt_eq F.round _ e g,execOp_put e p a oi.dst v q]at h;rw[Oper.semAt_eq F.round _ e g];generalize (execOp a.eval e).run P w=r at *
  cases r with
  | ok x w'=>
   cases x<;>simp only[Oper.uponIn]at h⊢
   case value u=>grind [Act.put_comm]
   case skip=>grind [Act.put_comm]
   case defer d=>
    refine⟨(s.of_same (a':={ a with defers:=d::a.defers }) rfl rfl).of_same (execOp_put oi i _ e.dst _ k) (wanted_put oi _ e.dst _ k),?_⟩
    grind [Act.put_comm,Act.put_defers]
   case enter f args=>grind [Act.put_comm]
   case row row args=>grind [Act.put_comm]
   case round l f tmps assign body=>grind [Act.put_comm]
  | halt x w'=>
   cases x<;>simp only[Oper.uponIn]at h⊢
   case panic u=>grind
 ·grind [Act.put_comm]
def Cl (ops:Array Oper) (l:Array Bool):Prop:=∀j,l.getD j false=true->∀o,ops[j]? =some o->∀e∈o.after,Region.binds .any e=true->l.getD e.on false=true
def okT (ops:Array Oper) (T:List Nat):Bool:=
 (List.range ops.size).all λj=>match ops[j]? with
  | some o=>o.after.all (λe=> !Region.binds .any e||Nat.blt e.on j) &&
   Nat.beq (Nat.lor (T.getD j 0) (o.after.toList.foldl (λs e=>bif Region.binds .any e then Nat.lor (Nat.lor s (2^e.on)) (T.getD e.on 0)else s) 0))
    (o.after.toList.foldl (λs e=>bif Region.binds .any e then Nat.lor (Nat.lor s (2^e.on)) (T.getD e.on 0)else s) 0)
  | none=>true
theorem Zctf {a:List Edge} {i:Nat}:∀ {s:Nat},(a.foldl (λs e=>bif Region.binds .any e then Nat.lor (Nat.lor s (2^e.on)) (T.getD e.on 0)else s) s).testBit i=true->
  s.testBit i=true\/∃e∈a,Region.binds .any e=true/\(e.on=i\/(T.getD e.on 0).testBit i=true):=by
 induction a with
 | nil=>grind
 | cons e a f=>
  intro s h
  rcases f h with b|⟨g,d,j⟩
  ·cases c:Region.binds .any e with
   | false=>grind
   | true=>
    dsimp only at b;rw[c]at b
    have b:((s ||| 2^e.on) ||| T.getD e.on 0).testBit i=true:=b
    grind
  ·grind
theorem Zcot (v:okT ops T=true) {l:Array Bool} (x:Cl ops l) {i:Nat} (hi:l.getD i false=false):
  ∀j o,ops[j]? =some o->(∀e∈o.after,Region.binds .any e=true->l.getD e.on false=true)->depB T j i=false:=by
 intro j
 induction j using Nat.strongRecOn with
 | _ j z=>
  intro o r a
  cases p:depB T j i with
  | false=>rfl
  | true=>
   have c:=List.all_eq_true.1 v j (List.mem_range.2 (Array.getElem?_eq_some_iff.1 r).1);simp only[r,Bool.and_eq_true]at c;have u:=Nat.eq_of_beq_eq_true c.2;have k:(Nat.lor (T.getD j 0) (o.after.toList.foldl (λs e=>bif Region.binds .any e then Nat.lor (Nat.lor s (2^e.on)) (T.getD e.on 0)else s) 0)).testBit i=true:=by
    show((T.getD j 0) ||| _).testBit i=true;rw[Nat.testBit_or];simp only[depB]at p;rw[p];rfl
   rw[u]at k
   rcases Zctf k with A|⟨e,q,w,m⟩
   ·grind
   ·have y:=a e (by simpa using q) w
    rcases m with rfl|m
    ·grind
    ·have g:e.on<j:=by
      have:=Array.all_eq_true_iff_forall_mem.1 c.1 e (by simpa using q)
      simp_all
     have h:∃o',ops[e.on]? =some o':=by grind
     obtain⟨o',b⟩:=h;have:=z e.on g o' b (λt f d=>x e.on y o' b t f d)
     grind [depB]
theorem Cl.set {l:Array Bool} {j:Nat} (d:Cl ops l) (h:j∈Region.ready .any ops l):Cl ops (l.setIfInBounds j true):=by
 intro k b o g e f c
 by_cases a:j=k
 ·grind [mem_ready,Option.some.inj,getD_set_true]
 ·rw[getD_set_ne false a]at b
  exact getD_set_true (d k b o g e f c)
theorem Zcuf {l:Array Bool} {i:Nat} (h:i∈Region.ready .any ops l):l.getD i false=false:=by
 grind [mem_ready]
theorem Zcwd (E:∀f,F.fn f) (y:noDS ops=true) (hT:okT ops T=true) {A:World->Prop} {i:Nat} {oi:Oper} {v:Value} (hi:ops[i]? =some oi):
  ∀(b:Nat) (G:Gd) (l:Array Bool) (a:Act) (w:World),Cl ops l->
   (∀j r,ops[j]? =some r->j≠i->l.getD j true=false->(∀e∈r.after,Region.binds .any e=true->e.on≠i)->oi.apart ops r=true)->
   i∈Region.ready .any ops l->YF P ops A oi v a->A w->(∀g∈G,g.2 w)->
   wpG F n P ops R T b ((i,A)::G) (l.setIfInBounds i true) (a.put oi.dst v) w->wpG F n P ops R T (b+1) G l a w:=by
 intro b
 induction b with
 | zero=>
  intro G l a w _ _ q C D I H;refine⟨λh=>(by rw[h]at q;cases q),λj u=>?_⟩
  by_cases c:j=i
  ·subst c
   exact C.wpOpIn E (Zcsw y hi).2 hi D ⟨λg m _=>I g m,Zcwb 0 _ _ _ _ _ (λg m=>by simp only[List.mem_filter]at m;exact List.mem_cons_of_mem _ m.1) H⟩
  ·have:=ready_mono u c
   rw[H.1]at this
   grind
 | succ b ih=>
  intro G l a w W d q C D I H;refine⟨λh=>(by rw[h]at q;cases q),λj u=>?_⟩
  by_cases c:j=i
  ·subst c
   exact C.wpOpIn E (Zcsw y hi).2 hi D ⟨λg m _=>I g m,Zcwb _ _ _ _ _ _ (λg m=>by simp only[List.mem_filter]at m;exact List.mem_cons_of_mem _ m.1) H⟩
  ·have Q:=H.2 j (ready_mono u c)
   obtain⟨x,r,p,M⟩:=mem_ready.1 u;have aa:=Zcuf q;have z:∀e∈r.after,Region.binds .any e=true->e.on≠i:=by grind
   have s:depB T j i=false:=by grind [Zcot]
   have S:=Zcwe (A:=A) E p (d j r p c x z) (Zcsw y hi).1 (Zcsw y p).1 (Zcsw y p).2 C Q;have o:∀k B,ops[k]? =some B->k≠i->(l.setIfInBounds j true).getD k true=false->
     (∀e∈B.after,Region.binds .any e=true->e.on≠i)->oi.apart ops B=true:=λk B Z J ab K=>by
    refine d k B Z J ?_ K
    by_cases Y:j=k
    all_goals (simp_all)
   refine wpOpIn_mono (λO w' U=>?_) S;obtain⟨L,t,V⟩:=U;refine⟨λg m X=>t g (List.mem_cons_of_mem _ m) X,ih _ (l.setIfInBounds j true) O w' (W.set u) o (ready_mono q (Ne.symm c)) L (t (i,A) (by simp) s) ?_ ?_⟩
   all_goals (grind [Array.setIfInBounds_comm])
theorem Zcwc {b:Nat} {G:Gd} {l:Array Bool} {a:Act} {w:World} {j:Nat} (d:Region.ready .any ops l = [j])
  (h:wpOpIn F n P ops (QN R) j (λa' w'=>(∀g∈G,depB T j g.1=false->g.2 w')/\wpG F n P ops R T b (G.filter λg=> !depB T j g.1) (l.setIfInBounds j true) a' w') a w):
  wpG F n P ops R T (b+1) G l a w:=by
 refine⟨λe=>?_,λk c=>?_⟩
 all_goals (grind)
theorem Zcwa {b:Nat} {G:Gd} {l:Array Bool} {a:Act} {w:World} (d:Region.ready .any ops l = []) (h:R a w):wpG F n P ops R T b G l a w:=by
 cases b with
 | zero=>exact⟨d,h⟩
 | succ f=>exact⟨λ_=>h,λk c=>by rw[d]at c;cases c⟩
end
section
variable {P:Program} {G:Nat} {r:Ren} {h:Hp} {w:World}
structure St where
 e:Env
 k:Nat
 h:Hp
abbrev KF:=CK->List Value->Nat->Hp->Option (Value×Nat×Hp)
def CT (P:Program) (G:Nat) (r:Ren) (h:Hp) (w:World) (v:Value) (k1:Nat) (h1:Hp):Ending->World->Prop:=
 λe w1=>∃r1 v',e = .returned v'/\Nx r h w r1 h1 w1/\Rep (Zcmd k1) (Zp P) G r1 h1 w1/\ValR (Zp P) r1 v v'
def KSc (P:Program) (G:Nat) (r:Ren) (h:Hp) (w:World) (v:Value) (k1:Nat) (h1:Hp) (vs':List Value):CK->Prop
 | .fn f=>(∃r1 v' w1,(callFunc f vs'.toArray).run P w = .ok (.value v') w1/\Nx r h w r1 h1 w1/\Rep (Zcmd k1) (Zp P) G r1 h1 w1/\ValR (Zp P) r1 v v')\/
  ((callFunc f vs'.toArray).run P w = .ok (.enter f vs'.toArray) w/\CallsIn Fence.wide 0 P f vs'.toArray w (CT P G r h w v k1 h1))
 | .rd l=>∀e,r l=some e->∃f tmps asg body,(Instr.yield e.b vs'.toArray).run P w = .ok (.round e.b f tmps asg body) w/\RoundIn Fence.wide 0 P e.b f tmps asg body w (CT P G r h w v k1 h1)
def KS (P:Program) (G:Nat) (K:KF):Prop:=∀c vs k h v k1 h1,K c vs k h=some (v,k1,h1)->∀(r:Ren) (w:World) (vs':List Value),Rep (Zcmd k) (Zp P) G r h w->ValsR (Zp P) r vs vs'->KSc P G r h w v k1 h1 vs' c
structure FF (F:Fence):Prop where
 fn:∀f,F.fn f
 depth:F.depth=none
 lift:∀ {P:Program} {f:FuncId} {args:Array Value} {w:World} {R:Ending->World->Prop},CallsIn Fence.wide 0 P f args w R->CallsIn F 0 P f args w R
 liftR:∀ {P:Program} {l:Nat} {f:FuncId} {tmps:Array Value} {asg body:Code} {w:World} {R:Ending->World->Prop},RoundIn Fence.wide 0 P l f tmps asg body w R->RoundIn F 0 P l f tmps asg body w R
theorem FF.wide:FF Fence.wide:=⟨λ_=>trivial,rfl,λh=>h,λh=>h⟩
theorem FF.round (l:Nat):FF (Fence.wide.inRound l):=⟨λ_=>trivial,rfl,λh=>h.inRound l,λh=>h⟩
def SR (P:Program) (G:Nat) (r:Ren) (s:St) (a:Act) (w:World):Prop:=Rep (Zcmd s.k) (Zp P) G r s.h w/\EnvR (Zp P) r s.e a
def Zcro (o:Op):Nat:=match o with
 | .call { callee:= .value _,.. }=>2
 | .call { callee:= .builtin .append,.. }=>1
 | .call { callee:= .builtin .copy,.. }=>1
 | .call { callee:= .builtin .delete,.. }=>1
 | .call { callee:= .builtin .clear,.. }=>1
 | .call { callee:= .builtin .unsafeString,.. }=>1
 | .alloc _=>1
 | .box _ _=>1
 | .buildSlice _ _ _=>1
 | .store _ _ _=>1
 | .makeSlice _ _ _=>1
 | .makeMap _ _=>1
 | .mapUpdate _ _ _ _=>1
 | .insert _ _ _ _=>1
 | _=>0
def effX (P:Program) (G:Nat) (o:Oper) (s:St):Option St:=match Zcpa P s.k s.h (evC G s.e.t) o.op with
 | some (some v,h)=>some ⟨s.e.put o.dst v,s.k+1,h⟩
 | some (none,h)=>some ⟨s.e.put o.dst undef,s.k+1,h⟩
 | none=>none
def opX (P:Program) (G:Nat) (K:KF) (ops:Array Oper) (o:Oper) (s:St):Option St:=
 bif Zcvx ops s.e.t o then
  match Zcro o.op with
  | 0=>match Zcty P s.h (evC G s.e.t) o.op with
   | some (_,v)=>some ⟨s.e.put o.dst v,s.k,s.h⟩
   | none=>effX P G o s
  | 1=>effX P G o s
  | _=>match Zcoe (evC G s.e.t) o.op with
   | some (f,vs)=>match K f vs s.k s.h with
    | some (v,k,h)=>some ⟨s.e.put o.dst v,k,h⟩
    | none=>none
   | none=>none
 else some ⟨s.e.put o.dst undef,s.k,s.h⟩
theorem Zctl {F:Fence} (C:FF F) {K:KF} (hK:KS P G K) {u:Array Oper} {o:Oper} {i:Nat} (hi:u[i]? =some o) (hd:∀c,o.op≠.defer c) {s y:St} {a:Act} (hS:SR P G r s a w) (g:opX P G K u o s=some y) {Q:Exit->Act->World->Prop}:
  wpOpIn F 0 P u Q i (λE w1=>E.defers=a.defers/\∃j,Nx r s.h w j y.h w1/\SR P G j y E w1) a w:=by
 obtain⟨z,p⟩:=hS;have q:EvR P r (evC G s.e.t) a.eval:=λx v S=>Zcpi z p S
 have b:∀d v,(a.put d v).defers=a.defers:=λd v=>by cases d<;>rfl
 unfold opX at g;unfold wpOpIn;simp only[hi,Zcvy p]
 cases Y:Zcvx u s.e.t o with
 | false=>
  rw[Y]at g;cases g;simp only[Bool.false_eq_true,if_false];exact⟨λf _=>C.fn f,b _ _,r,Nx.refl r s.h w,z,p.put .undef o.dst⟩
 | true=>
  rw[Y]at g;simp only[cond_true]at g;simp only[if_true,Oper.wpIn,Oper.semAt_eq F.round _ o hd];refine⟨λf _=>C.fn f,?_⟩;have H:∀y,effX P G o s=some y->Oper.uponIn F 0 P o a (λE w1=>E.defers=a.defers/\∃j,Nx r s.h w j y.h w1/\SR P G j y E w1) Q ((execOp a.eval o).run P w):=by
   intro y g;unfold effX at g;split at g
   ·rename_i v X I
    cases g
    obtain⟨j,w1,n,B,R,M,U⟩:=Zcpb z q I;rw[U];exact⟨b _ _,j,n,B,(p.mono n.ext).put M o.dst⟩
   ·rename_i X I
    cases g
    obtain⟨j,w1,n,B,U⟩:=Zcpb z q I;rw[U];exact⟨b _ _,j,n,B,(p.mono n.ext).put .undef o.dst⟩
   ·cases g
  split at g
  ·split at g
   case h_2=>exact H _ g
   rename_i rd v hp
   cases g
   obtain⟨R,S,L⟩:=Zctz z q hp;rw[L w (λ_ _ _ _=>rfl)];exact⟨b _ _,r,Nx.refl r s.h w,z,p.put S o.dst⟩
  ·exact H _ g
  ·split at g
   case h_2=>cases g
   rename_i f vs A
   split at g
   case h_2=>cases g
   rename_i v k X hk
   cases g
   obtain⟨V,T,m⟩:=Zcof q A;have J:=hK _ _ _ _ _ _ _ hk r w V z T
   cases f with
   | fn f=>
    simp only[CkS]at m;rw[m]
    rcases J with⟨j,R,w1,O,D,q3,q4⟩|⟨O,D⟩
    ·rw[O]
     exact⟨b _ _,j,D,q3,(p.mono D.ext).put q4 o.dst⟩
    ·rw[O]
     refine⟨λhx=>(by rw[C.depth]at hx;cases hx),(C.lift D).mono ?_⟩;rintro e w1 ⟨j,R,rfl,n,B,M⟩;exact⟨b _ _,j,n,B,(p.mono n.ext).put M o.dst⟩
   | rd l=>
    obtain⟨e,I,m⟩:=m;rw[m];obtain⟨f,Z,aa,W,O,D⟩:=J e I;rw[O];refine⟨λhx=>(by rw[C.depth]at hx;cases hx),(C.liftR D).mono ?_⟩;rintro e w1 ⟨j,R,rfl,n,B,M⟩;exact⟨b _ _,j,n,B,(p.mono n.ext).put M o.dst⟩
def regL (P:Program) (G:Nat) (K:KF) (ops:Array Oper):List Oper->St->Option St
 | [],s=>some s
 | o::l,s=>match opX P G K ops o s with
  | some s1=>regL P G K ops l s1
  | none=>none
theorem Zcug {F:Fence} (t:FF F) {K:KF} (u:KS P G K) {b:Array Oper} (x:noDS b=true) {Q:Exit->Act->World->Prop}:∀ {l:List Oper} {pre:List Oper} {s d:St} {a:Act} {r:Ren} {w:World},b.toList=pre++l->SR P G r s a w->regL P G K b l s=some d->
  (∀i e w1,e.defers=a.defers->Nx r s.h w i d.h w1->SR P G i d e w1->Q .normal e w1)->wpOpsIn F 0 P b Q (List.range' pre.length l.length) a w:=by
 intro l
 induction l with
 | nil=>
  intro pre s d a r w _ g c f
  cases c
  exact f r a w rfl (Nx.refl _ _ _) g
 | cons o l z=>
  intro pre s d a r w k g c f;simp only[regL]at c;split at c
  case h_2=>cases c
  rename_i E y
  have j:b[pre.length]? =some o:=by rw[<-Array.getElem?_toList,k];simp
  simp only[List.length_cons,List.range'_succ];rw[wpOpsIn_cons];refine wpOpIn_mono ?_ (Zctl t u j (Zcsw x j).2 g y);rintro e w1 ⟨v,i,A,B⟩;have:=z (pre:=pre ++ [o]) (by simp[k]) B c (λC m D n p q=>f C m D (n.trans v) (A.trans p) q);simpa using this
end
section
variable {N:Nat->Prop} {P:Program} {Z:TypeId->Nat} {G:Nat} {r r1:Ren} {h h1 h0:Hp} {w w1 w0:World} {r0:Ren}
def mark (b:Nat):Deferred:={ target:= .collected b,args:=#[] }
def Mk (r:Ren) (h:Hp) (w:World) (b:Nat):Prop:=b<w.heap.size/\¬Own r h b/\w.heap[b]? =some (.deferred (some []))
def MS (w0:World) (r:Ren) (h:Hp) (w:World) (bs:List Nat):Prop:=bs.Nodup/\∀b∈bs,w0.heap.size<=b/\Mk r h w b
theorem MS.nil:MS w0 r h w []:=⟨List.nodup_nil,λb a=>by cases a⟩
theorem Mk.nx {b:Nat} (a:Mk r h w b) (c:Nx r h w r1 h1 w1):Mk r1 h1 w1 b:=
 ⟨Nat.lt_of_lt_of_le a.1 c.size,λk=>a.2.1 (c.own b a.1 k),by rw[c.frame b a.1 a.2.1];exact a.2.2⟩
theorem MS.append {j:Ren} {f:Hp} {k:World} {bs l:List Nat} (o:w0.heap.size<=w1.heap.size) (g:MS w0 r1 h1 w1 bs) (n:Nx r1 h1 w1 j f k) (i:MS w1 j f k l):MS w0 j f k (l++bs):=by
 refine⟨List.nodup_append.2 ⟨i.1,g.1,λa m b d e=>?_⟩,λb d=>?_⟩
 ·subst e
  have h1:=(i.2 a m).1;have f:=(g.2 a d).2.1;omega
 ·rcases List.mem_append.1 d with d|d
  ·obtain⟨a,c⟩:=i.2 b d
   grind
  ·obtain⟨a,c⟩:=g.2 b d
   exact⟨a,c.nx n⟩
theorem Rep.bump (c:Rep N Z G r h w) (o:Obj):Rep N Z G r h (w.alloc o)/\Nx r h w r h (w.alloc o):=by
 have a:∀b,b<w.heap.size->(w.alloc o).heap[b]? =w.heap[b]?:=λb g=>by
  show(w.heap.push o)[b]? =_;rw[Array.getElem?_push,if_neg (by omega)]
 have l:(w.alloc o).heap.size=w.heap.size+1:=by show(w.heap.push o).size=_;simp
 refine⟨⟨λn p j=>?_,c.inj,λn e d=>?_,c.new,c.glo⟩,⟨Ext.refl r,by omega,λb g _=>a b g,λ_ _ k=>k,λ_ _ k=>k,rfl,rfl,rfl⟩⟩
 ·obtain⟨e,d,m,f,i⟩:=c.obj n p j
  exact⟨e,d,m,by rw[a _ (c.low _ _ d)];exact f,i⟩
 ·have:=c.low n e d;omega
theorem Rep.mk_bump (a:Rep N Z G r h w):Mk r h (w.alloc (.deferred (some []))) w.heap.size:=by
 refine⟨by show _<(w.heap.push _).size;simp,?_,World.alloc_heap_new w _⟩;rintro⟨n,o,e,_,_,b,c⟩;have:=a.low n e b;omega
theorem Rep.putDef (c:Rep N Z G r h w) {b:Nat} {ds} (i:w.heap[b]? =some (.deferred ds)) (d:Option (List Deferred)):Rep N Z G r h (w.putObj b (.deferred d)):=by
 refine⟨λn p j=>?_,c.inj,λn e f=>by rw[World.putObj_size];exact c.low n e f,c.new,c.glo⟩;obtain⟨e,f,k,a,g⟩:=c.obj n p j;refine⟨e,f,k,?_,g⟩;rw[World.putObj_heap_other]
 ·exact a
 ·intro hx
  rw[hx,i]at a
  cases a
  cases p<;>exact g.elim
theorem Nx.putDef (a:Nx r0 h0 w0 r h w) {b:Nat} (f:w0.heap.size<=b) (o:Obj):Nx r0 h0 w0 r h (w.putObj b o):=
 ⟨a.ext,by rw[World.putObj_size];exact a.size,λc e d=>by rw[World.putObj_heap_other (by omega)];exact a.frame c e d,a.own,a.live,a.os,a.tape,a.output⟩
def Zcvq:List Nat->World->World
 | [],w=>w
 | b::bs,w=>Zcvq bs (w.putObj b (.deferred none))
theorem MS.putDef {b:Nat} {bs:List Nat} (n:MS w0 r h w (b::bs)):MS w0 r h (w.putObj b (.deferred none)) bs:=by
 obtain⟨h1,k⟩:=n;obtain⟨l,m⟩:=List.nodup_cons.1 h1;refine⟨m,λc d=>?_⟩;obtain⟨f,g,i,j⟩:=k c (List.mem_cons_of_mem _ d);refine⟨f,by rw[World.putObj_size];exact g,i,?_⟩;have a:c≠b:=λe=>l (e▸d)
 rw[World.putObj_heap_other a];exact j
theorem Zcvr:∀(bs:List Nat) (w:World),Rep N Z G r h w->Nx r0 h0 w0 r h w->MS w0 r h w bs->Rep N Z G r h (Zcvq bs w)/\Nx r0 h0 w0 r h (Zcvq bs w)
 | [],_,hR,hn,_=>⟨hR,hn⟩
 | b::bs,w,hR,hn,hm=>Zcvr bs _ (hR.putDef (hm.2 b (by simp)).2.2.2 none) (hn.putDef (hm.2 b (by simp)).1 _) hm.putDef
theorem Zcrq {F:Fence} {n:Nat} {c:Func} {a:Array Value} {R:Ending->World->Prop}:∀(bs:List Nat) (w:World),MS w0 r h w bs->
  (∃v,(results c a).run P (Zcvq bs w) = .ok v (Zcvq bs w)/\R (.returned v) (Zcvq bs w))->LeavesInM F n P c a R (bs.map mark) .returning w
 | [],_,_,hf=>hf
 | b::bs,w,hm,hf=>⟨by simp,.inl ⟨b,w.putObj b (.deferred none),rfl,run_takeDeferred (hm.2 b (by simp)).2.2.2,Zcrq bs _ hm.putDef hf⟩⟩
