import Derived.Test.YtphjfaoghphleaaGreatDoorMab
import Derived.Lib.SlBytesRow
import Derived.Laws.CopyOwn
set_option maxHeartbeats 2000000
namespace Go.Proofs.YtphjfaoghphleaaGreatDoor
namespace Exe
section
open Go
variable {N:Nat->Prop} {P:Program} {G:Nat} {r:Ren} {h:Hp} {w:World}
def capC (P:Program) (t:TypeId):Value->Res
 | .slice none _ c=>match P.underlying t with
  | some (.slice _)=>some (none,goInt c)
  | _=>none
 | .slice (some ⟨n,_,none⟩) _ c=>bif exN n then match P.underlying t with
  | some (.slice _)=>some (none,goInt c)
  | _=>none else none
 | _=>none
theorem Zcoj {t ty:TypeId} {ts:Array TypeId} {v v':Value} {us:Array Value} (g:ts[0]? =some t) (f:us[0]? =some v') (i:ValR (Zp P) r v v') {rd x} (a:capC P t v=some (rd,x)):
  PS P (Zp P) r w rd x (Builtin.cap_ ts ty us):=by
 unfold capC at a;split at a
 ·obtain rfl:=Zcna rfl i
  split at a
  ·rename_i e;cases a;exact .of _ (.same rfl) (λk=>by simp[Builtin.cap_,g,f,run_underlying e])
  ·cases a
 ·rename_i n o l c
  cases d:exN n with
  | false=>rw[d]at a;cases a
  | true=>
   rw[d]at a;simp only[cond_true]at a;split at a
   ·rename_i e;cases a
    cases i with
    | same b=>simp[atom]at b
    | slice _ _ j _=>obtain rfl:=j d;exact .of _ (.same rfl) (λk=>by simp[Builtin.cap_,g,f,run_underlying e])
   ·cases a
 ·cases a
def Zcor:Value->Res
 | .slice none _ _=>some (none,.pointer none)
 | .slice (some ⟨n,o,none⟩) _ c=>bif Nat.beq c 0 then none else some (none,.pointer (some ⟨n,o,none⟩))
 | _=>none
theorem Zcos {ty:TypeId} {ts:Array TypeId} {v v':Value} (i:ValR (Zp P) r v v') {rd x} (a:Zcor v=some (rd,x)):
  PS P (Zp P) r w rd x (Builtin.unsafeSliceData_ ts ty #[v']):=by
 unfold Zcor at a;split at a
 ·obtain rfl:=Zcna rfl i
  cases a;exact .of _ (.same rfl) (λj=>rfl)
 ·rename_i n o l c
  cases g:Nat.beq c 0 with
  | true=>rw[g]at a;cases a
  | false=>
   rw[g]at a;cases a;have:=Zcnd.1 g
   cases i with
   | same d=>simp[atom]at d
   | @slice _ _ _ _ c' e he hle _ _=>
    refine .of _ (.ptr he) (λj=>?_);have f:c'≠0:=by omega
    show Sem.run P (if c'≠0 then pure (Value.pointer (some ⟨e.b,o+e.sh,none⟩))else _) j=_;rw[if_pos f];rfl
 ·cases a
def Zdjp:Nat->List Value->Option (List UInt8)
 | 0,_=>some []
 | n+1,.int .u8 (.ofNat k)::vs=>bif Nat.blt k 256 then match Zdjp n vs with
  | some bs=>some (UInt8.ofNat k::bs)
  | none=>none else none
 | _+1,_=>none
theorem Zdjq:∀ {n:Nat} {vs:List Value} {bs:List UInt8},Zdjp n vs=some bs->bs.length=n/\∀i (h:i<bs.length),vs[i]? =some (.int .u8 (bs[i].toNat:Int))
 | 0,vs,bs,h=>by simp[Zdjp]at h;subst h;exact⟨rfl,λi hi=>by simp at hi⟩
 | n+1,vs,bs,h=>by
  unfold Zdjp at h;split at h
  ·rename_i e;cases e
  ·rename_i m k us e
   cases e
   cases a:Nat.blt k 256 with
   | false=>rw[a]at h;cases h
   | true=>
    rw[a]at h;simp only[cond_true]at h;split at h
    case h_2=>cases h
    rename_i f d
    cases h
    obtain⟨b,c⟩:=Zdjq d;have a:=Nat.le_of_ble_eq_true a;refine⟨by simp[b],λi hi=>?_⟩
    cases i with
    | zero=>simp;omega
    | succ i=>simpa using c i (by simpa using hi)
  ·cases h
def Zcon (P:Program) (h:Hp) (src dst:TypeId):Value->Res
 | .pointer (some ⟨n,o,none⟩)=>bif exN n then
   match look h n with
   | some (.cells cs te _ _)=>match P.underlying src,P.underlying dst with
    | some (.pointer t),some .unsafePointer=>match szC P t with
     | some k=>bif Nat.beq k 0 then none else bif Nat.blt o cs.length then some (some n,.pointer (some ⟨n,o,none⟩))else none
     | none=>none
    | some .unsafePointer,some (.pointer u)=>match szC P u with
     | some _=>bif liesAt P P.depth te (cs.length/P.cellsOf te) o u 1 then some (some n,.pointer (some ⟨n,o,none⟩))else none
     | none=>none
    | _,_=>none
   | _=>none
  else none
 | .slice (some ⟨n,o,none⟩) l _=>match look h n with
  | some (.cells cs _ _ _)=>match P.underlying src,P.underlying dst with
   | some (.slice el),some .string=>match P.underlying el with
    | some (.int .u8)=>match Zdjp l (cs.drop o)with
     | some bs=>some (some n,.string ⟨⟨bs⟩⟩)
     | none=>none
    | _=>none
   | _,_=>none
  | _=>none
 | v=>bif flat 3 v then fl P (convert src dst v)else none
theorem Zcoo (hR:Rep N (Zp P) G r h w) {C p:TypeId} {v v':Value} (Y:ValR (Zp P) r v v') {rd x} (a:Zcon P h C p v=some (rd,x)):
  PS P (Zp P) r w rd x (convert C p v'):=by
 unfold Zcon at a;split at a
 ·rename_i n o
  cases W:exN n with
  | false=>rw[W]at a;cases a
  | true=>
   rw[W]at a;simp only[cond_true]at a;split at a
   case h_2=>cases a
   rename_i L M R ro V
   cases Y with
   | same s=>simp[atom]at s
   | @ptr _ _ e he=>
    obtain⟨e',y,Z,j,E⟩:=hR.obj n _ V;obtain rfl:=Option.some.inj (he.symm.trans y)
    cases Z with
    | cells m t' f=>
     obtain⟨h1,h2,h3,h4,h5,h6,h7⟩:=E;obtain⟨X,H⟩:=h5 W;split at a
     ·rename_i t I F
      split at a
      case h_2=>cases a
      rename_i k T
      cases z:Nat.beq k 0 with
      | true=>rw[z]at a;cases a
      | false=>
       rw[z]at a;simp only[cond_false]at a
       cases g:Nat.blt o L.length with
       | false=>rw[g]at a;cases a
       | true=>
        rw[g]at a;cases a;have g:=Nat.le_of_ble_eq_true g;have U:=Zcnd.1 z;refine⟨_,.ptr he,λD d=>?_⟩;have J:=(d n _ rfl he).trans j;have B:D.shape? e.b=some (t',m.size):=by simp[World.shape?,J]
        have:¬(m.size<=o+e.sh):=by omega
        simp[convert,run_underlying I,run_underlying F,Conv.unsafePointer,Conv.seenAt,viewAt,shape,Sem.run,B,cellsIn,Zcvp T,U,this]
     ·rename_i u I F
      split at a
      case h_2=>cases a
      rename_i k T
      cases A:liesAt P P.depth M (L.length/P.cellsOf M) o u 1 with
      | false=>rw[A]at a;cases a
      | true=>
       rw[A]at a;cases a;refine⟨_,.ptr he,λD d=>?_⟩;have J:=(d n _ rfl he).trans j;have B:D.shape? e.b=some (M,L.length):=by simp[World.shape?,J,h1,h3,H]
       simp[convert,run_underlying I,run_underlying F,Conv.unsafePointer,Conv.seenAt,viewAt,shape,Sem.run,B,variablesAt,program,Zcvp T,X,A]
     ·cases a
    | _=>exact E.elim
 ·rename_i n o l c
  split at a
  case h_2=>cases a
  rename_i L M R ro V
  cases Y with
  | same s=>simp[atom]at s
  | @slice _ _ _ _ c' e he _ _ _=>
   obtain⟨e',y,Z,j,E⟩:=hR.obj n _ V;obtain rfl:=Option.some.inj (he.symm.trans y)
   cases Z with
   | cells m t' f=>
    obtain⟨h1,h2,h3,h4,h5,h6,h7⟩:=E;split at a
    case h_2=>cases a
    rename_i el I F
    split at a
    case h_2=>cases a
    rename_i O
    split at a
    case h_2=>cases a
    rename_i K hb
    cases a
    obtain⟨b1,b2⟩:=Zdjq hb;refine⟨_,.same rfl,λD d=>?_⟩;have J:=(d n _ rfl he).trans j;have hB:Lib.Bytes D e.b (o+e.sh) ⟨⟨K⟩⟩:=by
     intro i R;have S:i<K.length:=R;have q:=b2 i S;rw[List.getElem?_drop]at q;obtain⟨v',q1,q2⟩:=h6 _ _ q;obtain rfl:=Zcna rfl q2;have e3:o+e.sh+i=e.sh+(o+i):=by omega
     show D.cell? ⟨e.b,o+e.sh+i,none⟩=_;rw[e3];simp[World.cell?,J]
     first|exact q1|(rw[Nat.add_comm];exact q1)|simpa[Nat.add_comm]using q1
    have:=Lib.run_convert_whole (P:=P) D C el p I O F e.b (o+e.sh) ⟨⟨K⟩⟩ hB c';rw[show(⟨⟨K⟩⟩:ByteArray).size=l from b1]at this;exact this
   | _=>exact E.elim
 ·cases Q:flat 3 v with
  | false=>rw[Q]at a;cases a
  | true=>
   rw[Q]at a;obtain rfl:=Zcqk 3 Q Y;exact Zcqg a
def evL (ev:Ev):List Operand->Option (List Value)
 | []=>some []
 | x::xs=>match ev x with
  | some v=>match evL ev xs with
   | some vs=>some (v::vs)
   | none=>none
  | none=>none
def evP (ev:Ev):List (Nat×Operand)->Option (List (Nat×Value))
 | []=>some []
 | (i,x)::xs=>match ev x with
  | some v=>match evP ev xs with
   | some vs=>some ((i,v)::vs)
   | none=>none
  | none=>none
def EvR (P:Program) (r:Ren) (ev:Ev) (f:Operand->Value):Prop:=∀x v,ev x=some v->ValR (Zp P) r v (f x)
theorem Zcpj {b:Ev} {f:Operand->Value} (c:EvR P r b f):∀ {xs:List Operand} {vs},evL b xs=some vs->ValsR (Zp P) r vs (xs.map f):=by
 intro xs
 induction xs with
 | nil=>intro vs a;cases a;exact .nil
 | cons x xs g=>
  intro vs a;simp only[evL]at a;split at a
  case h_2=>cases a
  rename_i v e
  split at a
  case h_2=>cases a
  rename_i i d
  cases a
  exact(g d).cons (c _ _ e)
theorem Zcpl {g:Ev} {f:Operand->Value} (m:EvR P r g f):∀ {xs:List (Nat×Operand)} {vs},evP g xs=some vs->Zcmi P r vs (xs.map λp=>(p.1,f p.2)):=by
 intro xs
 induction xs with
 | nil=>intro vs c;cases c;exact⟨rfl,λi x y a=>by simp at a⟩
 | cons x xs q=>
  intro vs c;obtain⟨i,x⟩:=x;simp only[evP]at c;split at c
  case h_2=>cases c
  rename_i v o
  split at c
  case h_2=>cases c
  rename_i s n
  cases c
  obtain⟨k,l⟩:=q n;refine⟨by simp[k],λj a b d e=>?_⟩
  cases j with
  | zero=>simp at d e;subst d;subst e;exact⟨rfl,m _ _ o⟩
  | succ j=>exact l j a b (by simpa using d) (by simpa using e)
def ev1 (ev:Ev) (x:Operand) (f:Value->Res):Res:=match ev x with
 | some v=>f v
 | none=>none
def ev2 (ev:Ev) (x y:Operand) (f:Value->Value->Res):Res:=match ev x with
 | some v=>match ev y with
  | some u=>f v u
  | none=>none
 | none=>none
def evO (ev:Ev) (x:Option Operand) (f:Option Value->Res):Res:=match x with
 | none=>f none
 | some x=>match ev x with
  | some v=>f (some v)
  | none=>none
theorem Zcpg {b:Ev} {x f p} (a:ev1 b x f=some p):∃v,b x=some v/\f v=some p:=by
 unfold ev1 at a;split at a
 ·exact⟨_,by assumption,a⟩
 ·cases a
theorem Zcph {b:Ev} {x y f p} (a:ev2 b x y f=some p):∃v u,b x=some v/\b y=some u/\f v u=some p:=by
 unfold ev2 at a;split at a
 ·split at a
  ·exact⟨_,_,by assumption,by assumption,a⟩
  ·cases a
 ·cases a
theorem Zcpk {b:Ev} {g:Operand->Value} (c:EvR P r b g) {x f p} (a:evO b x f=some p):∃v,OptR r P v (x.map g)/\f v=some p:=by
 unfold evO at a;split at a
 ·exact⟨none,trivial,a⟩
 ·split at a
  ·exact⟨some _,(c _ _ (by assumption):ValR (Zp P) r _ _),a⟩
  ·cases a
def Zcqh (v:Value) (x:Res):Res:=bif flat 4 v then x else none
theorem Zcqi {v:Value} {x p} (a:Zcqh v x=some p):flat 4 v=true/\x=some p:=by
 unfold Zcqh at a
 cases b:flat 4 v with
 | false=>rw[b]at a;cases a
 | true=>rw[b]at a;exact⟨rfl,a⟩
def nilC:Value->Res
 | .pointer (some a)=>some (none,.pointer (some a))
 | .func (.func f) xs ys=>some (none,.func (.func f) xs ys)
 | _=>none
def Zcqs (ev:Ev) (fs cs:List Operand) (f:FuncId):Res:=match evL ev fs with
 | some xs=>match evL ev cs with
  | some ys=>some (none,.func (.func f) xs.toArray ys.toArray)
  | none=>none
 | none=>none
def Zcnw (P:Program) (ev:Ev) (t:TypeId) (ps:List (Nat×Operand)):Res:=match evP ev ps with
 | some vs=>Zcnu P t vs
 | none=>none
def Zcnx (P:Program) (h:Hp) (ev:Ev) (b:Builtin) (ts:Array TypeId) (args:List Operand):Res:=match b with
 | .len=>match args,ts[0]? with
  | [x],some t=>ev1 ev x (lenC P h t)
  | _,_=>none
 | .cap=>match args,ts[0]? with
  | [x],some t=>ev1 ev x (capC P t)
  | _,_=>none
 | .unsafeSliceData=>match args with
  | [x]=>ev1 ev x Zcor
  | _=>none
 | .min=>match args with
  | [x,y]=>ev2 ev x y λa b=>Zcqh a (Zcqh b (fl P (Builtin.min_ #[] 0 #[a,b])))
  | _=>none
 | .max=>match args with
  | [x,y]=>ev2 ev x y λa b=>Zcqh a (Zcqh b (fl P (Builtin.max_ #[] 0 #[a,b])))
  | _=>none
 | _=>none
def Zcty (P:Program) (h:Hp) (ev:Ev) (o:Op):Res:=match o with
 | .move x=>ev1 ev x λv=>some (none,v)
 | .assign x=>ev1 ev x λv=>some (none,v)
 | .pick c x y=>ev1 ev c fun
  | .bool true=>ev1 ev x λv=>some (none,v)
  | .bool false=>ev1 ev y λv=>some (none,v)
  | _=>none
 | .nilCheck x=>ev1 ev x nilC
 | .binOp op t x y _=>ev2 ev x y (binC P op t x y)
 | .unOp op _ x=>ev1 ev x λv=>Zcqh v (fl P (Op.unary op v))
 | .load t x=>ev1 ev x (Zcrs P h t)
 | .fieldAddr s x f=>ev1 ev x (Zcpv P s f)
 | .field s x f=>ev1 ev x (Zcpz P s f)
 | .indexAddr t x i=>ev2 ev x i (Zcrf P t)
 | .index t x i=>ev2 ev x i λa b=>Zcqh a (Zcqh b (fl P (Instr.index t a b)))
 | .slice t x lo hi mx=>ev1 ev x λv=>evO ev lo λlo=>evO ev hi λhi=>evO ev mx λmx=>Zcve P h t lo hi mx v
 | .lookup t m k ok=>ev2 ev m k (Zcsd P h t ok)
 | .extract t i=>ev1 ev t (Zcpp i)
 | .makeFunc (.func f) fs cs=>Zcqs ev fs.toList cs.toList f
 | .build t ps=>Zcnw P ev t ps.toList
 | .convert src dst x=>ev1 ev x (Zcon P h src dst)
 | .call { callee:= .builtin b,args:=args,argTypes:=ts }=>Zcnx P h ev b ts args.toList
 | _=>none
def PN (P:Program) (Z:TypeId->Nat) (r:Ren) (w0:World) (rd:Option Nat) (v:Value) (s:Sem Next):Prop:=
 ∃v',ValR Z r v v'/\∀w:World,(∀n e,rd=some n->r n=some e->w.heap[e.b]? =w0.heap[e.b]?)->s.run P w = .ok (.value v') w
theorem PS.next {Z rd v s} (c:PS P Z r w rd v s):PN P Z r w rd v (do pure (.value (<-s))):=by
 obtain⟨e,a,b⟩:=c;exact⟨e,a,λf d=>by simp[b f d]⟩
theorem PN.of {Z rd v v' s} (a:ValR Z r v v') (h:∀w1:World,s.run P w1 = .ok (.value v') w1):PN P Z r w rd v s:=⟨v',a,λw1 _=>h w1⟩
theorem Zctz (K:Rep N (Zp P) G r h w) {S:Ev} {f:Operand->Value} (k:EvR P r S f) {o:Oper} {rd x} (d:Zcty P h S o.op=some (rd,x)):PN P (Zp P) r w rd x (execOp f o):=by
 obtain⟨M,op,X,R,z,A⟩:=o
 dsimp only at d
 unfold Zcty at d;split at d
 ·obtain⟨v,j,g⟩:=Zcpg d;cases g;exact .of (k _ _ j) (λE=>rfl)
 ·obtain⟨v,j,g⟩:=Zcpg d;cases g;exact .of (k _ _ j) (λE=>rfl)
 ·rename_i c x y
  obtain⟨v,j,g⟩:=Zcpg d;have s:=k _ _ j;split at g
  ·have:=Zcna rfl s
   obtain⟨u,l,n⟩:=Zcpg g;cases n;exact .of (k _ _ l) (λE=>by simp[execOp,this,asBool])
  ·have:=Zcna rfl s
   obtain⟨u,l,n⟩:=Zcpg g;cases n;exact .of (k _ _ l) (λE=>by simp[execOp,this,asBool])
  ·cases g
 ·rename_i x
  obtain⟨v,j,g⟩:=Zcpg d;have s:=k _ _ j;unfold nilC at g;split at g
  ·cases g
   refine .of s (λE=>?_);simp only[execOp];generalize f x=y at s⊢
   cases s with
   | same C=>simp[atom]at C
   | ptr he=>rfl
  ·cases g
   refine .of s (λE=>?_);simp only[execOp];generalize f x=y at s⊢
   cases s with
   | same C=>simp[atom]at C
   | func _ _ _ _=>rfl
  ·cases g
 ·obtain⟨v,u,j,g,l⟩:=Zcph d;exact(Zcne (k _ _ j) (k _ _ g) l).next
 ·obtain⟨v,j,g⟩:=Zcpg d
  obtain⟨l,n⟩:=Zcqi g;have e:=Zcqk 4 l (k _ _ j);have:=(Zcqg (r:=r) (w:=w) n).next;simp only[execOp,e];exact this
 ·obtain⟨v,j,g⟩:=Zcpg d;exact(Zcrt K (k _ _ j) g).next
 ·obtain⟨v,j,g⟩:=Zcpg d;exact(Zcpw (k _ _ j) g).next
 ·obtain⟨v,j,g⟩:=Zcpg d;exact(Zcqa (k _ _ j) g).next
 ·obtain⟨v,u,j,g,l⟩:=Zcph d;exact(Zcrg (k _ _ j) (k _ _ g) l).next
 ·obtain⟨v,u,j,g,l⟩:=Zcph d
  obtain⟨n,B⟩:=Zcqi l;obtain⟨I,J⟩:=Zcqi B;have F:=Zcqk 4 n (k _ _ j);have H:=Zcqk 4 I (k _ _ g);have:=(Zcqg (r:=r) (w:=w) J).next;simp only[execOp,F,H];exact this
 ·obtain⟨v,j,g⟩:=Zcpg d
  obtain⟨lo,l1,l⟩:=Zcpk k g;obtain⟨hi,l2,n⟩:=Zcpk k l;obtain⟨mx,l3,B⟩:=Zcpk k n;exact(Zcvf K (k _ _ j) l1 l2 l3 B).next
 ·obtain⟨v,u,j,g,l⟩:=Zcph d;exact(Zcse K (k _ _ j) (k _ _ g) l).next
 ·obtain⟨v,j,g⟩:=Zcpg d;exact(Zcpq (k _ _ j) g).next
 ·rename_i O Z Y
  unfold Zcqs at d;split at d
  case h_2=>cases d
  rename_i xs hx
  split at d
  case h_2=>cases d
  rename_i ys hy
  cases d
  have T:=Zcpj k hx;have U:=Zcpj k hy;exact .of (v':= .func (.func O) (Z.map f) (Y.map f)) (.func (by simpa using T.1) (λi x y a b=>T.2 i x y (by simpa using a) (by simpa using b)) (by simpa using U.1) (λi x y a b=>U.2 i x y (by simpa using a) (by simpa using b))) (λE=>rfl)
 ·rename_i t V
  unfold Zcnw at d;split at d
  case h_2=>cases d
  rename_i L D
  have:=(Zcnv (r:=r) (w:=w) (Zcpl k D) d).next;have e:(V.toList.map λp=>(p.1,f p.2)).toArray=V.map λx=>(x.1,f x.2):=by apply Array.ext';simp
  rw[e]at this;exact this
 ·obtain⟨v,j,g⟩:=Zcpg d;exact(Zcoo K (k _ _ j) g).next
 ·rename_i b m W
  have q:∀L:List Operand,m.toList=L->execOp f ⟨M,.call ⟨.builtin b,m,W⟩,X,R,z,A⟩=builtin b W X (m.map fun | .const _=>true|_=>false) (L.map f).toArray:=by
   intro L D;have:(L.map f).toArray=m.map f:=by rw[<-D];apply Array.ext';simp
   rw[this];rfl
  unfold Zcnx at d;split at d
  ·split at d
   ·rename_i x t hx Q
    obtain⟨v,j,g⟩:=Zcpg d;rw[q _ hx];exact(Zcrr K Q rfl (k _ _ j) g).next
   ·cases d
  ·split at d
   ·rename_i x t hx Q
    obtain⟨v,j,g⟩:=Zcpg d;rw[q _ hx];exact(Zcoj Q rfl (k _ _ j) g).next
   ·cases d
  ·split at d
   ·rename_i x hx
    obtain⟨v,j,g⟩:=Zcpg d;rw[q _ hx];exact(Zcos (k _ _ j) g).next
   ·cases d
  ·split at d
   ·rename_i x y hx
    obtain⟨v,u,j,g,l⟩:=Zcph d;obtain⟨n,B⟩:=Zcqi l;obtain⟨I,J⟩:=Zcqi B;have F:=Zcqk 4 n (k _ _ j);have H:=Zcqk 4 I (k _ _ g);have:=(Zcqg (r:=r) (w:=w) J).next;rw[q _ hx];simp only[List.map,F,H];exact this
   ·cases d
  ·split at d
   ·rename_i x y hx
    obtain⟨v,u,j,g,l⟩:=Zcph d;obtain⟨n,B⟩:=Zcqi l;obtain⟨I,J⟩:=Zcqi B;have F:=Zcqk 4 n (k _ _ j);have H:=Zcqk 4 I (k _ _ g);have:=(Zcqg (r:=r) (w:=w) J).next;rw[q _ hx];simp only[List.map,F,H];exact this
   ·cases d
  ·cases d
 ·cases d
end
section
open Go
variable {N N':Nat->Prop} {P:Program} {Z:TypeId->Nat} {G:Nat} {r:Ren} {h:Hp} {w:World}
def Zcmd (k:Nat):Nat->Prop:=λn=>2*k<=n
theorem Rep.weak (a:Rep N Z G r h w) (b:∀n,N' n->N n):Rep N' Z G r h w:=⟨a.obj,a.inj,a.low,λn c=>a.new n (b n c),a.glo⟩
theorem Zcrz (a:Rep N Z G r h w) {n:Nat} (d:N n):look h n=none:=by
 cases c:look h n with
 | none=>rfl
 | some o=>obtain⟨e,b,_⟩:=a.obj n o c;rw[a.new n d]at b;cases b
def set1 (r:Ren) (n:Nat) (e:Ent):Ren:=λm=>if m=n then some e else r m
theorem Zcuy (c:Rep N Z G r h w) {n:Nat} (d:N n) (e:Ent):Ext r (set1 r n e):=by
 intro m f b;unfold set1;split
 ·rename_i a;subst a;rw[c.new _ d]at b;cases b
 ·omega
theorem Rep.alloc {k:Nat} (f:Rep (Zcmd k) Z G r h w) {nm S:Nat} {t:TypeId} {o:CO} {o':Obj} (F:2*k<=nm) (L:nm<2*(k+1))
  (H:ObjR Z r nm ⟨w.heap.size,0,S,t⟩ o o'):
  Rep (Zcmd (k+1)) Z G (set1 r nm ⟨w.heap.size,0,S,t⟩) ((nm,o)::h) (w.alloc o')/\Nx r h w (set1 r nm ⟨w.heap.size,0,S,t⟩) ((nm,o)::h) (w.alloc o'):=by
 have hx:=Zcuy f (n:=nm) F ⟨w.heap.size,0,S,t⟩;have j:∀b,b<w.heap.size->(w.alloc o').heap[b]? =w.heap[b]?:=λb i=>by
  show(w.heap.push o')[b]? =_
  grind
 have x:(w.alloc o').heap[w.heap.size]? =some o':=by
  show(w.heap.push o')[_]? =_;simp
 have C:(w.alloc o').heap.size=w.heap.size+1:=by simp_all
 refine⟨⟨λn p d=>?_,λn m p q E D v y a b i=>?_,λn e c=>?_,λn v=>?_,λg I=>?_⟩,⟨hx,by rw[C];omega,λb i _=>j b i,λb i s=>?_,λb i s=>?_,rfl,rfl,rfl⟩⟩
 ·rw[Zcrv]at d
  split at d
  ·rename_i e;subst e;cases d
   exact⟨_,by simp[set1],o',x,H.mono hx⟩
  ·obtain⟨e,c,K,A,z⟩:=f.obj n p d
   exact⟨e,hx _ _ c,K,by rw[j _ (f.low _ _ c)];exact A,z.mono hx⟩
 ·rw[Zcrv]at v y
  unfold set1 at a b;split at v
  ·rename_i l;subst l;simp at a;subst a
   split at y
   ·omega
   ·rename_i u
    rw[if_neg u]at b;have:=f.low _ _ b
    grind
  ·rename_i l
   rw[if_neg l]at a;split at y
   ·rename_i u;subst u;simp at b;subst b
    have:=f.low _ _ a
    grind
   ·rename_i u
    rw[if_neg u]at b;exact f.inj n m p q E D v y a b i
 ·unfold set1 at c
  split at c
  ·grind
  ·have:=f.low _ _ c;omega
 ·unfold set1
  unfold Zcmd at v;rw[if_neg (by omega)];exact f.new n (by unfold Zcmd;omega)
 ·obtain⟨e,c,i,J⟩:=f.glo g I
  exact⟨e,hx _ _ c,i,J⟩
 ·obtain⟨n,p,e,d,B,c,rfl⟩:=s
  rw[Zcrv]at d;unfold set1 at c;split at d
  ·grind
  ·rename_i l;rw[if_neg l]at c
   exact⟨n,p,e,d,B,c,rfl⟩
 ·obtain⟨n,p,e,d,c,rfl⟩:=s
  rw[Zcrv]at d;unfold set1 at c;split at d
  ·grind
  ·rename_i l;rw[if_neg l]at c
   exact⟨n,p,e,d,c,rfl⟩
theorem Rep.write (l:Rep N Z G r h w) {n:Nat} {e:Ent} {o o1:CO} {o1':Obj} {w':World} (u:look h n=some o) (y:o.ro=false) (K:o1.ro=false) (C:r n=some e)
  (T:w'.heap[e.b]? =some o1') (c:∀b,b≠e.b->w'.heap[b]? =w.heap[b]?) (J:w'.heap.size=w.heap.size) (Q:ObjR Z r n e o1 o1')
  (E:w'.os=w.os) (k:w'.tape=w.tape) (x:w'.output=w.output):Rep N Z G r (upd h n o1) w'/\Nx r h w r (upd h n o1) w':=by
 have g:∀m p,look (upd h n o1) m=some p->∃q,look h m=some q/\(m=n/\p=o1\/m≠n/\p=q):=by
  intro m p d;rw[Zcsc]at d;split at d
  ·rename_i z;subst z;rw[u]at d;cases d;exact⟨o,u,.inl ⟨rfl,rfl⟩⟩
  ·rename_i z;exact⟨p,d,.inr ⟨z,rfl⟩⟩
 refine⟨⟨λm p d=>?_,λm L p q O M R d a b s=>?_,λm f i=>by rw[J];exact l.low m f i,l.new,l.glo⟩,⟨Ext.refl r,by omega,λb s D=>?_,λb s j=>?_,λb s j=>?_,E,k,x⟩⟩
 ·obtain⟨q,t,⟨rfl,rfl⟩|⟨v,rfl⟩⟩:=g m p d
  ·exact⟨e,C,o1',T,Q⟩
  ·obtain⟨f,i,U,F,A⟩:=l.obj m p t
   refine⟨f,i,U,?_,A⟩;rw[c _ (λs=>v (l.inj m n p o f e t u i C s))];exact F
 ·obtain⟨V,H,_⟩:=g m p R
  obtain⟨W,I,_⟩:=g L q d;exact l.inj m L V W O M H I a b s
 ·refine c b (λB=>D ⟨n,o,e,u,y,C,B.symm⟩)
 ·obtain⟨m,p,f,d,S,i,rfl⟩:=j
  obtain⟨q,t,⟨rfl,rfl⟩|⟨v,rfl⟩⟩:=g m p d
  ·exact⟨m,o,f,u,y,i,rfl⟩
  ·exact⟨m,p,f,t,S,i,rfl⟩
 ·obtain⟨m,p,f,d,i,rfl⟩:=j
  obtain⟨q,t,_⟩:=g m p d;exact⟨m,q,f,t,i,rfl⟩
def ES (P:Program) (Z:TypeId->Nat) (G k:Nat) (r:Ren) (h:Hp) (w:World) (v:Option Value) (h1:Hp) (s:Sem Next):Prop:=
 ∃r1 w1,Nx r h w r1 h1 w1/\Rep (Zcmd (k+1)) Z G r1 h1 w1/\match v with
  | some v=>∃v',ValR Z r1 v v'/\s.run P w = .ok (.value v') w1
  | none=>s.run P w = .ok .skip w1
theorem ES.alloc {k nm S:Nat} {t:TypeId} {o:CO} {o':Obj} {v v':Value} {s:Sem Next} (f:Rep (Zcmd k) Z G r h w) (c:2*k<=nm) (d:nm<2*(k+1))
  (e:ObjR Z r nm ⟨w.heap.size,0,S,t⟩ o o') (i:ValR Z (set1 r nm ⟨w.heap.size,0,S,t⟩) v v') (g:s.run P w = .ok (.value v') (w.alloc o')):ES P Z G k r h w (some v) ((nm,o)::h) s:=
 let ⟨a,b⟩:=f.alloc c d e
 ⟨_,_,b,a,v',i,g⟩
theorem Zcst {nm b:Nat} {t:TypeId} {c:List Value} {cs':Array Value} (e:ValsR Z r c cs'.toList):ObjR Z r nm ⟨b,0,cs'.size,t⟩ (.cells c t 0 false) (.cells cs' t (0,0)):=by
 have d:c.length=cs'.size:=by simpa using e.1
 refine⟨rfl,rfl,rfl,by simp[d],λ_=>⟨rfl,d⟩,λi v f=>?_,FzS.zero⟩;have a:i<cs'.size:=by rw[<-d];exact(List.getElem?_eq_some_iff.1 f).1
 exact⟨cs'[i],by simp[a],e.2 i v _ f (by simp[a])⟩
theorem Zcut {t:TypeId} {v:Value}:(newVar t v).run P w = .ok ⟨w.heap.size,0,none⟩ (w.alloc (.cells v.cells t)):=rfl
theorem Zcus {t:TypeId} {v:Array Value}:(newRow t v).run P w = .ok ⟨w.heap.size,0,none⟩ (w.alloc (.cells v t)):=rfl
theorem ArrR.list {P:Program} {xs ys:Array Value} (hx:ArrR P r xs ys):ValsR (Zp P) r xs.toList ys.toList:=⟨by simpa using hx.1,λi x y a b=>hx.2 i x y (by simpa using a) (by simpa using b)⟩
abbrev Eff:=Option (Option Value×Hp)
def boxC (k:Nat) (h:Hp) (t:TypeId) (v:Value):Eff:=some (some (.pointer (some ⟨2*k,0,none⟩)),(2*k,.cells v.cells.toList t 0 false)::h)
theorem Zcnt {k:Nat} (c:Rep (Zcmd k) (Zp P) G r h w) {t:TypeId} {v v':Value} (d:ValR (Zp P) r v v') {x h1} (b:boxC k h t v=some (x,h1)):
  ES P (Zp P) G k r h w x h1 (do pure (.value (<-Instr.box t v'))):=by
 unfold boxC at b;cases b;have a:=d.cells.list;refine .alloc (nm:=2*k) (S:=v'.cells.size) c (by omega) (by omega) (Zcst a) (.ptr (e:=⟨w.heap.size,0,v'.cells.size,t⟩) (by simp[set1])) ?_;simp[Instr.box,Zcut]
def Zcmq (P:Program) (k:Nat) (h:Hp) (t:TypeId):Eff:=match Zcwh P t with
 | some z=>boxC k h t z
 | none=>none
theorem Zcmr {k:Nat} (i:Rep (Zcmd k) (Zp P) G r h w) {t:TypeId} {x e} (d:Zcmq P k h t=some (x,e)):
  ES P (Zp P) G k r h w x e (do pure (.value (<-Instr.alloc t true (.tuple #[])))):=by
 unfold Zcmq at d;split at d
 case h_2=>cases d
 rename_i z g
 obtain⟨j,m,a,b,c⟩:=Zcnt (P:=P) i (Zcql 4 (Zcwi g)) d;refine⟨j,m,a,b,?_⟩;unfold boxC at d;cases d;obtain⟨l,e,f⟩:=c;refine⟨l,e,?_⟩;simp[Instr.box]at f;simp[Instr.alloc,Zcwj g,f]
def Zcvg (P:Program) (k:Nat) (h:Hp) (t:TypeId) (len:Nat) (ps:List (Nat×Value)):Eff:=
 match P.underlying t with
 | some (.slice el)=>match szC P el with
  | some z=>bif Nat.ble (len*z) 100000 then
    match (bif Nat.beq (len*z) 0 then some #[]else match Zcwh P el with|some v=>some v.cells|none=>none)with
    | some zs=>match Instr.fill (λi=>some (i*z,z)) ((Array.range (len*z)).map (zs[· % zs.size]!)) ps with
     | some cs=>some (some (.slice (some ⟨2*k,0,none⟩) len len),(2*k,.cells cs.toList el 0 false)::h)
     | none=>none
    | none=>none
   else none
  | none=>none
 | _=>none
theorem Zcvh {k:Nat} (D:Rep (Zcmd k) (Zp P) G r h w) {t:TypeId} {len:Nat} {ps A:List (Nat×Value)} (I:Zcmi P r ps A) {x m} (d:Zcvg P k h t len ps=some (x,m)):
  ES P (Zp P) G k r h w x m (do pure (.value (<-Instr.buildSlice t len A.toArray))):=by
 unfold Zcvg at d;split at d
 case h_2=>cases d
 rename_i B J
 split at d
 case h_2=>cases d
 rename_i z K
 cases n:Nat.ble (len*z) 100000 with
 | false=>rw[n]at d;cases d
 | true=>
  rw[n]at d;simp only[cond_true]at d;have H:=Nat.le_of_ble_eq_true n;split at d
  case h_2=>cases d
  rename_i s c
  split at d
  case h_2=>cases d
  rename_i L E
  cases d
  have j:ArrR P r ((Array.range (len*z)).map (s[· % s.size]!)) ((Array.range (len*z)).map (s[· % s.size]!)):=by
   refine⟨rfl,λi a b f n=>?_⟩;obtain rfl:=Option.some.inj (f.symm.trans n)
   cases g:Nat.beq (len*z) 0 with
   | true=>
    have:=Zcnc.1 g;rw[this]at f;simp at f
   | false=>
    rw[g]at c;simp only[cond_false]at c;split at c
    ·rename_i v u
     cases c
     have y:=(Zcql (Z:=Zp P) (r:=r) 4 (Zcwi u)).cells;have F:i<len*z:=by
      have:=(Array.getElem?_eq_some_iff.1 f).1;simpa using this
     simp[F]at f
     by_cases q:i % v.cells.size<v.cells.size
     ·rw[getElem!_pos v.cells _ q]at f
      subst f;exact y.2 (i % v.cells.size) _ _ (by simp[q]) (by simp[q])
     ·rw[getElem!_neg v.cells _ q]at f
      subst f;exact .same rfl
    ·cases c
  obtain⟨l,m,C⟩:=Zcqd I j E;refine .alloc (nm:=2*k) (S:=l.size) D (by omega) (by omega) (Zcst C.list) (.slice (e:=⟨w.heap.size,0,l.size,B⟩) (by simp[set1]) (Nat.le_refl _) (λ_=>rfl) (λp=>?_)) ?_
  ·have:exN (2*k)=true:=by simp[exN]
   rw[this]at p;cases p
  ·have o:¬(len*z>2^24):=by omega
   simp only[Instr.buildSlice,Sem.run_bind,run_underlying J,Result.andThen_ok,Zcvp K,if_neg o]
   by_cases g:len*z=0
   ·rw[show Nat.beq (len*z) 0=true from Zcnc.2 g]at c
    cases c
    rw[if_pos g];simp only[Sem.run_bind,Sem.run_pure,Result.andThen_ok,m,Zcus,Nat.add_zero]
   ·rw[show Nat.beq (len*z) 0=false from Zcnd.2 g]at c
    simp only[cond_false]at c;split at c
    ·rename_i v u
     cases c
     rw[if_neg g];simp only[Sem.run_bind,Zcwj u,Sem.run_pure,Result.andThen_ok,m,Zcus,Nat.add_zero]
    ·cases c
end
section
open Go
variable {N N':Nat->Prop} {P:Program} {Z:TypeId->Nat} {G:Nat} {r:Ren} {h:Hp} {w:World}
def setL (cs:List Value) (o:Nat) (us:List Value):List Value:=cs.take o++us++cs.drop (o+us.length)
def setA:Array Value->Nat->List Value->Array Value
 | c,_,[]=>c
 | c,o,v::r=>setA (c.setIfInBounds o v) (o+1) r
theorem Zcva:∀(vs:List Value) (c:Array Value) (o:Nat),(setA c o vs).size=c.size
 | [],_,_=>rfl
 | v::r,c,o=>by rw[setA,Zcva r];simp
theorem Zcuz:∀(vs:List Value) (c:Array Value) (o i:Nat),o+vs.length<=c.size->(setA c o vs)[i]? =if o<=i/\i<o+vs.length then vs[i-o]? else c[i]?
 | [],c,o,i,_=>by
  rw[setA,if_neg (by simp)]
 | v::r,c,o,i,hl=>by
  simp only[List.length_cons]at hl;rw[setA,Zcuz r _ _ _ (by simp;omega)]
  by_cases a:o+1<=i/\i<o+1+r.length
  ·rw[if_pos a,if_pos (by simp;omega)]
   have:i-o=(i-(o+1))+1:=by omega
   rw[this];simp
  ·rw[if_neg a]
   by_cases b:i=o
   ·subst b
    rw[if_pos (by simp)];simp[show i<c.size by omega]
   ·rw[Array.getElem?_setIfInBounds_ne (Ne.symm b),if_neg (by simp;omega)]
theorem Zcra {b:Nat}:∀(vs:List Value) (o:Nat) (w:World) (c:Array Value) (t:TypeId) (f:Nat×Nat),w.heap[b]? =some (.cells c t f)->
  (w.setCells b o vs).heap[b]? =some (.cells (setA c o vs) t f)/\(∀g,g≠b->(w.setCells b o vs).heap[g]? =w.heap[g]?)/\(w.setCells b o vs).heap.size=w.heap.size/\
  (w.setCells b o vs).os=w.os/\(w.setCells b o vs).tape=w.tape/\(w.setCells b o vs).output=w.output
 | [],_,_,_,_,_,h=>⟨h,λ_ _=>rfl,rfl,rfl,rfl,rfl⟩
 | v::r,o,w,c,t,f,h=>by
  have m:(w.setCell ⟨b,o,none⟩ v).heap[b]? =some (.cells (c.setIfInBounds o v) t f):=by
   simp[World.setCell,Array.getElem?_modify,h]
  obtain⟨d,e,i,j,k,l⟩:=Zcra r (o+1) _ _ _ _ m;refine⟨d,λg a=>(e g a).trans ?_,i.trans ?_,j,k,l⟩
  ·simp[World.setCell,Array.getElem?_modify,Ne.symm a]
  ·simp[World.setCell]
theorem Zcvb {n:Nat} {e:Ent} {b:List Value} {t:TypeId} {hi:Nat} {D ro':Bool} {c:Array Value} {f:Nat×Nat} (A:ObjR Z r n e (.cells b t hi D) (.cells c t f)) {o:Nat} {us vs:List Value}
  (I:o<=b.length) (y:exN n=true->o+us.length<=b.length) (J:o+e.sh+us.length<=e.S) (m:ValsR Z r us vs) (z:Zcqz b=true->Zcqz (setL b o us)=true):
  ObjR Z r n e (.cells (setL b o us) t hi ro') (.cells (setA c (o+e.sh) vs) t f):=by
 obtain⟨E,p,q,F,s,k,l⟩:=A;have d:(setL b o us).length=o+us.length+(b.length-(o+us.length)):=by simp[setL];omega
 have B:=m.1;refine⟨rfl,p,by rw[Zcva];exact q,by rw[d];omega,λhx=>?_,λi v a=>?_,l.1,l.2.imp id z⟩
 ·obtain⟨u,H⟩:=s hx
  have:=y hx;exact⟨u,by rw[d];omega⟩
 ·rw[Zcuz _ _ _ _ (by omega)]
  unfold setL at a
  by_cases C:i<o
  ·rw[List.append_assoc,List.getElem?_append_left (by simp;omega),List.getElem?_take,if_pos C]at a
   rw[if_neg (by omega)];exact k i v a
  ·by_cases K:i<o+us.length
   ·rw[List.append_assoc,List.getElem?_append_right (by simp;omega),List.getElem?_append_left (by simp;omega)]at a
    rw[if_pos (by omega)];have j:i-(b.take o).length=i-o:=by simp;omega
    rw[j]at a;have x:i+e.sh-(o+e.sh)=i-o:=by omega
    rw[x];have g:i-o<vs.length:=by omega
    exact⟨vs[i-o],by simp[g],m.2 (i-o) _ _ a (by simp[g])⟩
   ·rw[List.getElem?_append_right (by simp;omega),List.getElem?_drop]at a
    rw[if_neg (by omega)];have j:o+us.length+(i-(b.take o++us).length)=i:=by simp;omega
    rw[j]at a;exact k i v a
def oneC:Value->Bool
 | .agg _=>false
 | .tuple _=>false
 | _=>true
theorem Zcti {v v':Value} (h:oneC v=true) (a:ValR Z r v v'):v'.oneCell'=true:=by
 cases a<;>first|rfl|(simp[oneC]at h;done)|skip
 rename_i b
 cases v<;>first|rfl|(simp[oneC]at h;done)
def Zcwf (h:Hp) (n o:Nat) (us:List Value):Option Hp:=
 match look h n with
 | some (.cells cs t hi ro)=>bif !ro&&(Nat.ble hi o&&Nat.blt hi 9223372036854775808)&&Nat.ble o cs.length&&(!exN n||Nat.ble (o+us.length) cs.length)&&us.all oneC&&(!Zcqz cs||Zcqz (setL cs o us))then some (upd h n (.cells (setL cs o us) t hi false))else none
 | _=>none
theorem Zcwg (F:Rep N Z G r h w) {n o:Nat} {e:Ent} (H:r n=some e) {us vs:List Value} (k:ValsR Z r us vs) {y:Hp} (a:Zcwf h n o us=some y) (Y:o+e.sh+us.length<=e.S):
  ∃w1,(storeCells ⟨e.b,o+e.sh,none⟩ vs).run P w = .ok () w1/\Rep N Z G r y w1/\Nx r h w r y w1:=by
 unfold Zcwf at a;split at a
 case h_2=>cases a
 rename_i m t C ro I
 cases q:(!ro&&(Nat.ble C o&&Nat.blt C 9223372036854775808)&&Nat.ble o m.length&&(!exN n||Nat.ble (o+us.length) m.length)&&us.all oneC&&(!Zcqz m||Zcqz (setL m o us)))with
 | false=>rw[q]at a;cases a
 | true=>
  rw[q]at a;cases a;simp only[Bool.and_eq_true,Bool.not_eq_true',Bool.or_eq_true]at q;obtain⟨⟨⟨⟨⟨V,u⟩,x⟩,g⟩,X⟩,E⟩:=q;have W:C<9223372036854775808:=Nat.le_of_ble_eq_true u.2;have u:=Nat.le_of_ble_eq_true u.1;have x:=Nat.le_of_ble_eq_true x;obtain⟨e',A,o',d,p⟩:=F.obj n _ I;obtain rfl:=Option.some.inj (H.symm.trans A)
  cases o' with
  | cells c R f=>
   obtain rfl:R=t:=p.1;have z:=Zcvb (ro':=false) p x (λhx=>by
    rcases g with g|g
    ·rw[hx]at g;cases g
    ·exact Nat.le_of_ble_eq_true g) Y k (λhx=>by rw[hx]at E;simpa using E)
   obtain⟨a1,a2,a3,a4,a5,a6,T⟩:=p;have U:=T.1.1;obtain⟨J,K,L,M,O,Q⟩:=Zcra vs (o+e.sh) w c R f d;have i:=run_storeCells_cells (P:=P) e.b (o+e.sh) vs 0 w (λj s=>by
    rw[cell_of d];have:=k.1;simp;omega) (λj s=>by
    simp only[World.frozen?,d]
    cases B:(decide (f.1<=o+e.sh+0+j)&&decide (o+e.sh+0+j<f.2))with
    | false=>rfl
    | true=>
     exfalso
     simp only[Bool.and_eq_true,decide_eq_true_eq]at B;have:=k.1;omega) (λv hm=>by
    obtain⟨j,s⟩:=List.getElem?_of_mem hm;have D:j<us.length:=by rw[k.1];exact(List.getElem?_eq_some_iff.1 s).1
    exact Zcti (List.all_eq_true.1 X us[j] (by simp)) (k.2 j _ _ (by simp[D]) s))
   obtain⟨w1,l⟩:∃w1,w1=w.setCells e.b (o+e.sh) vs:=⟨_,rfl⟩;rw[<-l]at J K L M O Q;obtain⟨p1,p2⟩:=F.write I V rfl H J K L z M O Q;exact⟨w1,by rw[i,l];rfl,p1,p2⟩
  | _=>exact p.elim
theorem Zctc (k:Rep N Z G r h w) {n:Nat} {e:Ent} {i:List Value} {t:TypeId} {hi:Nat} {j:Bool} (m:look h n=some (.cells i t hi j)) (l:r n=some e):
  ∃c f,w.heap[e.b]? =some (.cells c t f)/\ObjR Z r n e (.cells i t hi j) (.cells c t f):=by
 obtain⟨q,d,o,g,a⟩:=k.obj n _ m;obtain rfl:=Option.some.inj (l.symm.trans d)
 cases o with
 | cells c p f=>obtain rfl:p=t:=a.1;exact⟨c,f,g,a⟩
 | _=>exact a.elim
def Zcvk (P:Program) (h:Hp) (t:TypeId) (x:Value):Value->Eff
 | .pointer (some ⟨n,o,none⟩)=>match szC P t with
  | some k=>match look h n with
   | some (.cells cs _ _ _)=>bif Nat.beq x.cells.size k&&Nat.ble (o+k) cs.length then
     match Zcwf h n o x.cells.toList with
     | some h1=>some (none,h1)
     | none=>none
    else none
   | _=>none
  | none=>none
 | _=>none
theorem Zcvl {k:Nat} (j:Rep (Zcmd k) (Zp P) G r h w) {t:TypeId} {v v' x l:Value} (u:ValR (Zp P) r v v') (hx:ValR (Zp P) r x l) {y h1} (a:Zcvk P h t x v=some (y,h1)):
  ES P (Zp P) G k r h w y h1 (do Instr.storeAt t v' l;pure .skip):=by
 unfold Zcvk at a;split at a
 case h_2=>cases a
 rename_i n o
 split at a
 case h_2=>cases a
 rename_i z B
 split at a
 case h_2=>cases a
 rename_i p M J L s
 cases b:(Nat.beq x.cells.size z&&Nat.ble (o+z) p.length)with
 | false=>rw[b]at a;cases a
 | true=>
  rw[b]at a;simp only[cond_true]at a;simp only[Bool.and_eq_true]at b;have m:=Zcnc.1 b.1;have H:=Nat.le_of_ble_eq_true b.2;split at a
  case h_2=>cases a
  rename_i I A
  cases a
  cases u with
  | same g=>simp[atom]at g
  | @ptr _ _ e he=>
   obtain⟨c,f,i,q⟩:=Zctc j s he;have d:=hx.cells;obtain⟨F,C,D,E⟩:=Zcwg (P:=P) j he d.list A (by
    have:=q.2.2.2.1;simp only[Array.length_toList];omega)
   refine⟨r,F,E,D.weak (λn K=>by unfold Zcmd at *;omega),?_⟩;simp[Instr.storeAt,Instr.sureAddr,storeVar,Zcvp B,<-d.1,m,C]
def mapC (k:Nat) (h:Hp):Eff:=some (some (.map (some (2*k))),(2*k,.map [] 0 false)::h)
theorem Zcsk {k:Nat} (d:Rep (Zcmd k) (Zp P) G r h w) {x h1} (c:mapC k h=some (x,h1)) {t:TypeId} {hint:Option Value} (f:hint=none\/∃i j a b,hint=some (.int i j)/\P.underlying t=some (.map a b)):
  ES P (Zp P) G k r h w x h1 (do pure (.value (<-Instr.makeMap t hint))):=by
 unfold mapC at c;cases c;refine .alloc (nm:=2*k) (S:=0) (t:=0) (o':= .map #[] 0) d (by omega) (by omega) ⟨rfl,rfl,λi x y a=>by simp at a⟩ (.map (e:=⟨w.heap.size,0,0,0⟩) (by simp[set1])) ?_
 rcases f with rfl|⟨i,j,a,b,rfl,g⟩
 ·simp[Instr.makeMap]
 ·simp[Instr.makeMap,run_underlying g,asInt,asIntOf]
end
section
open Go
variable {N N':Nat->Prop} {P:Program} {Z:TypeId->Nat} {G:Nat} {r:Ren} {h:Hp} {w:World}
theorem Rep.drew (a:Rep N Z G r h w):Rep N Z G r h w.drew:=⟨a.obj,a.inj,a.low,a.new,a.glo⟩
theorem Nx.drew (r:Ren) (h:Hp) (w:World):Nx r h w r h w.drew:=⟨Ext.refl r,Nat.le_refl _,λ_ _ _=>rfl,λ_ _ k=>k,λ_ _ k=>k,rfl,rfl,rfl⟩
theorem Rep.sub {i:Hp} (f:Rep N Z G r h w) (g:∀n o,look i n=some o->look h n=some o):Rep N Z G r i w:=
 ⟨λn o l=>f.obj n o (g n o l),λn m o p k j a b c d e=>f.inj n m o p k j (g _ _ a) (g _ _ b) c d e,f.low,f.new,f.glo⟩
theorem Nx.sub {f:Hp} (r:Ren) (w:World) (g:∀n o,look f n=some o->look h n=some o):Nx r h w r f w:=
 ⟨Ext.refl r,Nat.le_refl _,λ_ _ _=>rfl,λ_ _ ⟨n,o,e,a,b,c,d⟩=>⟨n,o,e,g n o a,b,c,d⟩,λ_ _ ⟨n,o,e,a,c,d⟩=>⟨n,o,e,g n o a,c,d⟩,rfl,rfl,rfl⟩
theorem Zcrx {n:Nat}:∀m o,look (del h n) m=some o->look h m=some o:=λm o a=>by
 rw[Zcrw]at a;split at a
 ·cases a
 ·exact a
def srcC (h:Hp) (z:Nat):Value->Option (Nat×List Value)
 | .slice (some ⟨n,o,none⟩) l _=>match look h n with
  | some (.cells cs _ _ _)=>bif Nat.ble (o+l*z) cs.length then some (l,(cs.drop o).take (l*z))else none
  | _=>none
 | .slice none 0 _=>some (0,[])
 | .string s=>bif Nat.beq z 1 then some (s.size,s.data.toList.map λb=> .int .u8 b.toNat)else none
 | _=>none
theorem Zcvj (F:Rep N Z G r h w) {z:Nat} {x y:Value} (hx:ValR Z r x y) {n us} (d:srcC h z x=some (n,us)):
  ∃vs,ValsR Z r us vs/\us.length=n*z/\(∀w1:World,(Builtin.lenOf y).run P w1 = .ok n w1)/\∀w1:World,w1.heap=w.heap->(Builtin.firstCells z n y).run P w1 = .ok vs.toArray w1:=by
 unfold srcC at d;split at d
 ·rename_i m o l c
  split at d
  case h_2=>cases d
  rename_i B t K L H
  cases j:Nat.ble (o+l*z) B.length with
  | false=>rw[j]at d;cases d
  | true=>
   rw[j]at d;cases d;have p:=Nat.le_of_ble_eq_true j
   cases hx with
   | same k=>simp[atom]at k
   | @slice _ _ _ _ c' e he _ _ _=>
    obtain⟨I,f,g,E⟩:=Zctc F H he;obtain⟨vs,C,J,D⟩:=Zcru (P:=P) g E p;refine⟨vs,C,by simp;omega,λw1=>by simp[Builtin.lenOf],λw1 q=>?_⟩;have:=D w1 (by rw[q];exact g);simpa[Builtin.firstCells]using this
 ·obtain rfl:=Zcna rfl hx
  cases d
  exact⟨[],.nil,by simp,λw1=>by simp[Builtin.lenOf],λw1 _=>by simp[Builtin.firstCells]⟩
 ·rename_i s
  obtain rfl:=Zcna rfl hx
  cases v:Nat.beq z 1 with
  | false=>rw[v]at d;cases d
  | true=>
   rw[v]at d;cases d;obtain rfl:=Zcnc.1 v;refine⟨s.data.toList.map λb=> .int .u8 b.toNat,⟨rfl,λi a b A j=>?_⟩,by simp,λw1=>by simp[Builtin.lenOf],λw1 _=>?_⟩
   ·obtain rfl:=Option.some.inj (A.symm.trans j)
    obtain⟨u,_,rfl⟩:=List.mem_map.1 (List.mem_of_getElem? A);exact .same rfl
   ·simp[Builtin.firstCells]
    apply Array.ext';simp
 ·cases d
def Zcsy:TypeDesc->Bool
 | .slice _=>true
 | .string=>true
 | _=>false
structure AppT (P:Program) (ts:Array TypeId) (el:TypeId) (z bytes:Nat) (zv:Value):Prop where
 t0:∃t,ts[0]? =some t/\P.underlying t=some (.slice el)
 t1:∃u d,ts[1]? =some u/\P.underlying u=some d/\Zcsy d=true
 info:∃i,P.info? el=some i/\i.size=z/\i.bytes=bytes/\i.zero=some zv
 zero:zv.cells.size=z
theorem Zcwk (zs:Array Value) (n:Nat):(Builtin.zeroCells zs n).size=n*zs.size:=by simp[Builtin.zeroCells]
theorem Zcmx {ts:Array TypeId} {q:TypeId} {z bytes:Nat} {x:Value} (s:AppT P ts q z bytes x) {ty:TypeId} {base:Option Addr} {sl sc:Nat} {j:Value} {n:Nat} {vs:List Value}
  (c:∀w1:World,(Builtin.lenOf j).run P w1 = .ok n w1) (e:(Builtin.firstCells z n j).run P w = .ok vs.toArray w) (f:sl+n<=sc) {w1:World}
  (b:(match base with|some a=>storeCells (a.add (sl*z)) vs|none=>pure ():Sem Unit).run P w = .ok () w1):
  (Builtin.append_ ts ty #[.slice base sl sc,j]).run P w = .ok (.slice base (sl+n) sc) w1:=by
 obtain⟨⟨t,o,p⟩,⟨u,d,g,k,m⟩,⟨i,l,rfl,rfl,y⟩,v⟩:=s
 cases base with
 | none=>
  simp at b;subst b
  cases d<;>first|(simp[Zcsy]at m;done)|simp[Builtin.append_,o,g,run_underlying p,run_underlying k,sizeOf,typeInfo,l,c,f,e]
 | some a=>
  simp only at b
  cases d<;>first|(simp[Zcsy]at m;done)|simp[Builtin.append_,o,g,run_underlying p,run_underlying k,sizeOf,typeInfo,l,c,f,e,b]
theorem Zcmy {ts:Array TypeId} {b:TypeId} {z bytes:Nat} {q:Value} (x:AppT P ts b z bytes q) {ty:TypeId} {base:Option Addr} {sl sc:Nat} {p:Value} {n:Nat} {us vs:List Value}
  (g:∀w1:World,(Builtin.lenOf p).run P w1 = .ok n w1) (j:(Builtin.firstCells z n p).run P w.drew = .ok vs.toArray w.drew)
  (k:(Builtin.firstCells z sl (.slice base sl sc)).run P w.drew = .ok us.toArray w.drew) (l:sc<sl+n) (f:(sl+n)*bytes<=140737488355328) (v:sl+n<=4611686018427387904) (y:bytes≠0):
  ∃a,(sl+n<=a/\a<=9223372036854775807)/\(Builtin.append_ ts ty #[.slice base sl sc,p]).run P w = .ok (.slice (some ⟨w.heap.size,0,none⟩) (sl+n) a)
   (w.drew.alloc (.cells (us.toArray++vs.toArray++Builtin.zeroCells q.cells (a-(sl+n))) b)):=by
 obtain⟨⟨t,D,E⟩,⟨u,d,o,A,C⟩,⟨i,B,rfl,rfl,F⟩,H⟩:=x;refine⟨(Question.appendCap (sl+n) sc b).cut (w.tape w.drawn (Question.appendCap (sl+n) sc b)),⟨by simp[Question.cut],by
  simp only[Question.cut];have:=Nat.mod_lt (w.tape w.drawn (Question.appendCap (sl+n) sc b)) (show 0<2^63-(sl+n) by omega);omega⟩,?_⟩
 have m:¬(sl+n<=sc):=by omega
 have s:=growslice_fits l f;have c:¬(281474976710656<Builtin.nextslicecap (sl+n) sc*i.bytes):=by omega
 have e:¬(9223372036854775807<((sl:Int)+(n:Int))):=by omega
 cases d<;>first|(simp[Zcsy]at C;done)|simp[Builtin.append_,D,o,run_underlying E,run_underlying A,sizeOf,typeInfo,zeroValue,B,F,g,m,c,e,y,Question.forced,j,k,newRow,Question.cut]
 all_goals (congr 2;apply Array.ext';simp)
