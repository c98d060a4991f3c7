import Derived.Test.YtphjfaoghphleaaGreatDoorMaf
namespace Go.Proofs.YtphjfaoghphleaaGreatDoor
namespace Exe
section
open Go
variable {P:Program} {G:Nat} {r:Ren} {h:Hp} {w:World}
def bit (m i:Nat):Bool:=Nat.beq (Nat.land (Nat.shiftRight m i) 1) 1
theorem Zcxk (m i:Nat):bit m i=m.testBit i:=by
 unfold bit;have e:Nat.land (Nat.shiftRight m i) 1=(m >>> i) % 2:=Nat.and_one_is_mod _;rw[e,Nat.testBit_eq_decide_div_mod_eq,Nat.shiftRight_eq_div_pow];rw[Bool.eq_iff_iff,Zcnc,decide_eq_true_eq]
def one (i:Nat):Nat:=Nat.shiftLeft 1 i
theorem Zdfo (i j:Nat):(one i).testBit j=decide (i=j):=by
 simp_all[Nat.one_shiftLeft,Nat.testBit_two_pow,one]
def sub (a m:Nat):Bool:=Nat.beq (Nat.land a m) a
theorem Zdjl {a m:Nat}:sub a m=true↔∀k,a.testBit k=true->m.testBit k=true:=by
 unfold sub;rw[Zcnc];constructor
 ·intro c k b
  have:(a &&& m).testBit k=a.testBit k:=by
   simp_all
  grind
 ·intro c
  show a &&& m=a;apply Nat.eq_of_testBit_eq;intro k;rw[Nat.testBit_and]
  cases b:a.testBit k with
  | false=>rfl
  | true=>grind
def edgM:List Edge->Nat
 | []=>0
 | e::es=>bif Region.binds .any e then Nat.lor (one e.on) (edgM es)else edgM es
theorem Zcyi:∀ {es:List Edge} {k:Nat},(edgM es).testBit k=true↔∃e∈es,Region.binds .any e=true/\e.on=k
 | [],k=>by simp[edgM]
 | e::es,k=>by
  simp only[edgM]
  cases c:Region.binds .any e with
  | false=>
   simp only[cond_false,Zcyi,List.mem_cons];constructor
   ·rintro⟨x,hx,h⟩;exact⟨x,.inr hx,h⟩
   ·rintro⟨x,rfl|hx,a,b⟩
    ·rw[c]at a;cases a
    ·exact⟨x,hx,a,b⟩
  | true=>
   have d:Nat.lor (one e.on) (edgM es)=one e.on ||| edgM es:=rfl
   simp only[cond_true,d,Nat.testBit_or,Bool.or_eq_true,Zdfo,decide_eq_true_eq,Zcyi,List.mem_cons];constructor
   ·rintro(f|⟨x,hx,h⟩)
    ·exact⟨e,.inl rfl,c,f⟩
    ·exact⟨x,.inr hx,h⟩
   ·rintro⟨x,rfl|hx,a,b⟩
    ·exact .inl b
    ·exact .inr ⟨x,hx,a,b⟩
def oprM:List Operand->Nat
 | []=>0
 | .tmp t::xs=>Nat.lor (one t) (oprM xs)
 | _::xs=>oprM xs
theorem Zdfp:∀ {xs:List Operand} {k:Nat},(oprM xs).testBit k=true↔k∈xs.filterMap fun | .tmp t=>some t|_=>none
 | [],k=>by simp[oprM]
 | x::xs,k=>by
  cases x with
  | tmp t=>
   have a:oprM (.tmp t::xs)=one t ||| oprM xs:=rfl
   rw[a,Nat.testBit_or,Bool.or_eq_true,Zdfo,decide_eq_true_eq,Zdfp];simp[eq_comm]
  | _=>simp only[oprM];rw[Zdfp];simp
def grdM (ops:Array Oper) (o:Oper):Nat:=match o.guard with
 | some (g,_)=>match (ops[g]?).bind (·.dst)with
  | some d=>one d
  | none=>0
 | none=>0
def Zddg (ops:Array Oper) (o:Oper):Nat:=Nat.lor (oprM o.op.operands.toList) (grdM ops o)
theorem Zddh {ops:Array Oper} {o:Oper} {k:Nat}:(Zddg ops o).testBit k=true↔k∈o.looksAt ops:=by
 have a:Zddg ops o=oprM o.op.operands.toList ||| grdM ops o:=rfl
 rw[a,Nat.testBit_or,Bool.or_eq_true,Zdfp];unfold Oper.looksAt;rw[List.mem_append];refine or_congr Iff.rfl ?_;unfold grdM
 cases b:o.guard with
 | none=>simp
 | some p=>grind [Zdfo]
structure PI where
 w:Nat
 k:Nat
 d:Nat
 lk:Nat
 fl:Bool
def dstN:Option Tmp->Nat
 | none=>0
 | some d=>d+1
def isFl:Op->Bool
 | .alloc _=>true
 | .buildSlice .. =>true
 | _=>false
def infO (ops:Array Oper) (o:Oper):PI:=⟨edgM o.after.toList,Zcro o.op,dstN o.dst,Zddg ops o,isFl o.op⟩
def Zcyd (a b:PI):Bool:=(!(Nat.beq a.d 0)&&(bit b.lk (Nat.sub a.d 1)||Nat.beq a.d b.d))||(!(Nat.beq b.d 0)&&bit a.lk (Nat.sub b.d 1))
theorem Zcxc {a:Array Oper} {x y:Oper} (h:Zcyd (infO a x) (infO a y)=false):x.apart a y=true/\y.apart a x=true:=by
 have g:(∀d,x.dst=some d->d∉y.looksAt a/\y.dst≠some d)/\(∀d,y.dst=some d->d∉x.looksAt a):=by
  simp only[Zcyd,infO,Bool.or_eq_false_iff,Bool.and_eq_false_iff,Bool.not_eq_false']at h;obtain⟨b,c⟩:=h;refine⟨λd e=>?_,λd e=>?_⟩
  ·rw[e]at b
   rcases b with b|⟨b,i⟩
   ·simp[dstN]at b
   ·constructor
    ·intro f
     rw[Zcxk,show Nat.sub (dstN (some d)) 1=d from rfl,Zddh.2 f]at b
     grind
    ·grind [Zcnd]
  ·rw[e]at c
   rcases c with c|c
   ·simp[dstN]at c
   ·intro f
    rw[Zcxk,show Nat.sub (dstN (some d)) 1=d from rfl,Zddh.2 f]at c
    grind
 grind [Oper.apart]
def Zdje (a:PI) (i:Nat):List PI->Nat->Bool
 | [],_=>true
 | b::bs,j=>(!(Zcyd a b)||bit a.w j||bit b.w i)&&Zdje a i bs (j+1)
def Zdjc:List PI->Nat->Bool
 | [],_=>true
 | a::us,i=>Zdje a i us (i+1)&&Zdjc us (i+1)
theorem Zdjf {a:PI} {i:Nat}:∀ {l:List PI} {j:Nat},Zdje a i l j=true->∀(k:Nat) b,l[k]? =some b->Zcyd a b=false\/bit a.w (j+k)=true\/bit b.w i=true
 | [],_,_,k,b,hb=>by simp at hb
 | c::bs,j,h,k,b,hb=>by
  simp only[Zdje,Bool.and_eq_true,Bool.or_eq_true,Bool.not_eq_true']at h
  cases k with
  | zero=>simp at hb;subst hb;rcases h.1 with(d|d)|d<;>simp_all
  | succ k=>
   have:=Zdjf h.2 k b (by simpa using hb)
   rwa [show j+1+k=j+(k+1) by omega]at this
theorem Zdjd:∀ {l:List PI} {s:Nat},Zdjc l s=true->∀(i j:Nat) a b,i<j->l[i]? =some a->l[j]? =some b->Zcyd a b=false\/bit a.w (s+j)=true\/bit b.w (s+i)=true
 | [],_,_,i,j,a,b,_,ha,_=>by simp at ha
 | c::us,s,h,i,j,a,b,hij,ha,hb=>by
  simp only[Zdjc,Bool.and_eq_true]at h
  cases j with
  | zero=>omega
  | succ j=>
   cases i with
   | zero=>
    simp at ha;subst ha;have:=Zdjf h.1 j b (by simpa using hb)
    rwa [show s+1+j=s+(j+1) by omega]at this
   | succ i=>
    have:=Zdjd h.2 i j a b (by omega) (by simpa using ha) (by simpa using hb)
    rwa [show s+1+j=s+(j+1) by omega,show s+1+i=s+(i+1) by omega]at this
def tabM (ops:Array Oper):List PI:=ops.toList.map (infO ops)
theorem Zdjo {a:Array Oper} {i:Nat} {o:Oper} (h:a[i]? =some o):(tabM a)[i]? =some (infO a o):=by
 unfold tabM;rw[List.getElem?_map,Array.getElem?_toList,h];rfl
theorem Zdjg {a:Array Oper} (f:Zdjc (tabM a) 0=true) {i j:Nat} {oi d:Oper} (c:i≠j) (hi:a[i]? =some oi) (e:a[j]? =some d):oi.apart a d=true\/(edgM oi.after.toList).testBit j=true\/(edgM d.after.toList).testBit i=true:=by
 rcases Nat.lt_or_gt_of_ne c with b|b
 ·rcases Zdjd f i j _ _ b (Zdjo hi) (Zdjo e)with h|h|h
  ·grind [Zcxc]
  ·rw[Zcxk,Nat.zero_add]at h;exact .inr (.inl h)
  ·rw[Zcxk,Nat.zero_add]at h;exact .inr (.inr h)
 ·rcases Zdjd f j i _ _ b (Zdjo e) (Zdjo hi)with h|h|h
  ·grind [Zcxc]
  ·rw[Zcxk,Nat.zero_add]at h;exact .inr (.inr h)
  ·rw[Zcxk,Nat.zero_add]at h;exact .inr (.inl h)
def Lm (ops:Array Oper) (l:Array Bool) (m:Nat):Prop:=l.size=ops.size/\∀k,l.getD k false=m.testBit k
theorem Lm.start (a:Array Oper):Lm a (Array.replicate a.size false) 0:=by
 refine⟨by simp,λk=>?_⟩
 rcases Nat.lt_or_ge k a.size with h|h<;>simp[h]
theorem Lm.set {a:Array Oper} {l:Array Bool} {m i:Nat} (h:Lm a l m) (hi:i<a.size):Lm a (l.setIfInBounds i true) (Nat.lor m (one i)):=by
 refine⟨by simp[h.1],λk=>?_⟩;have b:Nat.lor m (one i)=m ||| one i:=rfl
 rw[b,Nat.testBit_or,Zdfo,<-h.2 k]
 by_cases c:i=k
 ·subst c
  simp[h.1,hi]
 ·simp_all
def Zdgx:List PI->Nat->Nat->List (Nat×PI)
 | [],_,_=>[]
 | r::rs,i,m=>bif bit m i then Zdgx rs (i+1) m else bif sub r.w m then(i,r)::Zdgx rs (i+1) m else Zdgx rs (i+1) m
def rdyP (ops:Array Oper) (l:Array Bool) (i:Nat):Bool:= !l.getD i true&&((ops[i]?).map (·.after.all λe=> !Region.binds .any e||l.getD e.on false)).getD false
theorem Zdgr {a:Array Oper} {l:Array Bool} {m i:Nat} {o:Oper} (h:Lm a l m) (hi:a[i]? =some o):rdyP a l i=(!(bit m i)&&sub (edgM o.after.toList) m):=by
 have f:i<a.size:=by grind
 unfold rdyP;have g:l.getD i true=l.getD i false:=by
  have:i<l.size:=by rw[h.1];exact f
  grind
 rw[g,h.2 i,Zcxk,hi]
 congr 1
 show(o.after.all λe=> !Region.binds .any e||l.getD e.on false)=_;rw[Bool.eq_iff_iff,Array.all_eq_true_iff_forall_mem,Zdjl];constructor
 ·intro b k j
  obtain⟨e,d,c,rfl⟩:=Zcyi.1 j;have:=b e (by simpa using d);rw[c,h.2]at this
  grind
 ·intro b e d
  cases c:Region.binds .any e with
  | false=>rfl
  | true=>
   rw[h.2,b e.on (Zcyi.2 ⟨e,by simpa using d,c,rfl⟩)];rfl
theorem Zdgz {a:Array Oper} {l:Array Bool} {m:Nat} (h:Lm a l m):∀(os:List Oper) (s:Nat),(∀(k:Nat) o,os[k]? =some o->a[s+k]? =some o)->
  ((Zdgx (os.map (infO a)) s m).map (·.1)=(List.range' s os.length).filter (rdyP a l)/\∀p∈Zdgx (os.map (infO a)) s m,∃o,a[p.1]? =some o/\p.2=infO a o/\sub (edgM o.after.toList) m=true/\bit m p.1=false)
 | [],s,_=>by simp[Zdgx]
 | o::os,s,ho=>by
  obtain⟨g,i⟩:=Zdgz h os (s+1) (λk q j=>by rw[show s+1+k=s+(k+1) by omega];exact ho (k+1) q (by simpa using j));have d:=ho 0 o rfl;rw[Nat.add_zero]at d;have c:=Zdgr h d;simp only[List.map_cons,Zdgx,List.length_cons,List.range'_succ,List.filter_cons]
  cases e:bit m s with
  | true=>
   rw[e]at c;rw[c];exact⟨g,i⟩
  | false=>
   rw[e]at c;simp only[cond_false];have n:(infO a o).w=edgM o.after.toList:=rfl;rw[n]
   cases f:sub (edgM o.after.toList) m with
   | true=>
    rw[f]at c;rw[c];refine⟨by simp[g],λp b=>?_⟩;simp only[cond_true,List.mem_cons]at b
    rcases b with rfl|b
    ·exact⟨o,d,rfl,f,e⟩
    ·exact i p b
   | false=>
    rw[f]at c;rw[c];exact⟨g,i⟩
theorem Zdgy {a:Array Oper} {l:Array Bool} {m:Nat} (h:Lm a l m):(Zdgx (tabM a) 0 m).map (·.1)=Region.ready .any a l/\∀p∈Zdgx (tabM a) 0 m,∃o,a[p.1]? =some o/\p.2=infO a o/\sub (edgM o.after.toList) m=true/\bit m p.1=false:=by
 obtain⟨b,c⟩:=Zdgz h a.toList 0 (λk o d=>by rw[Nat.zero_add];simpa using d);refine⟨?_,c⟩;rw[show tabM a=a.toList.map (infO a)from rfl,b];unfold Region.ready;rw[List.range_eq_range'];rfl
theorem Zdaf {a:Array Oper} (g:Zdjc (tabM a) 0=true) {l:Array Bool} {m i:Nat} {oi:Oper} (h:Lm a l m) (hi:a[i]? =some oi) (k:sub (edgM oi.after.toList) m=true):Region.free .any a l i=true:=by
 unfold Region.free;simp only[hi,List.all_eq_true,List.mem_range,Bool.or_eq_true,beq_iff_eq];intro j f
 by_cases d:j=i
 ·omega
 ·cases n:l.getD j true with
  | true=>grind
  | false=>
   have b:a[j]? =some a[j]:=by simp[f]
   rw[b];rw[Bool.or_eq_true]
   rcases Zdjg g (Ne.symm d) hi b with c|c|c
   ·grind
   ·have e:=Zdjl.1 k j c
    rw[<-h.2 j]at e
    grind
   ·grind [Zcyi,Array.any_eq_true']
def Zdfw:List (Nat×PI)->Option Nat
 | []=>none
 | (i,r)::rs=>match r.k with
  | 0=>some i
  | _=>Zdfw rs
theorem Zdfx {a:Array Oper} (d:Zdjc (tabM a) 0=true) {l:Array Bool} {m:Nat} (h:Lm a l m):∀ {rs:List (Nat×PI)},(∀p∈rs,∃o,a[p.1]? =some o/\p.2=infO a o/\sub (edgM o.after.toList) m=true/\bit m p.1=false)->Zcjs a l (rs.map (·.1))=Zdfw rs
 | [],_=>rfl
 | (i,r)::rs,hr=>by
  obtain⟨o,c,b,g,_⟩:=hr (i,r) (by simp);have j:=Zdfx d h (rs:=rs) (λp f=>hr p (List.mem_cons_of_mem _ f))
  dsimp only at c b
  subst b;simp only[List.map_cons,Zcjs,c,Zdfw];have e:(infO a o).k=Zcro o.op:=rfl;rw[e,Zdaf d h c g]
  cases Zcro o.op with
  | zero=>rfl
  | succ k=>exact j
def oneM:List (Nat×PI)->Nat->Bool
 | [p],j=>Nat.beq p.1 j
 | _,_=>false
theorem Zdfn (rs:List (Nat×PI)) (j:Nat):oneB (rs.map (·.1)) j=oneM rs j:=by
 match rs with
 | []=>rfl
 | [p]=>rfl
 | p::q::t=>rfl
def Zczs (ops:Array Oper) (tab:List PI) (m:Nat) (x y:Nat×PI):Bool:=x.2.fl&&(match ops[x.1]?,ops[y.1]? with|some ox,some oy=>ox.apart ops oy|_,_=>false)&&oneM (Zdgx tab 0 (Nat.lor m (one x.1))) y.1
theorem Zczt {a:Array Oper} {l:Array Bool} {m:Nat} (h:Lm a l m) {x y:Nat×PI} {c f:Oper} (hx:a[x.1]? =some c) (b:x.2=infO a c) (e:a[y.1]? =some f):Zczu a l x.1 y.1=Zczs a (tabM a) m x y:=by
 unfold Zczu Zczs;simp only[hx,e];have d:=(Zdgy (h.set (Array.getElem?_eq_some_iff.1 hx).1)).1;rw[<-d,Zdfn,b]
 congr 2
def schM (ops:Array Oper) (tab:List PI):Nat->Option Nat->Nat->Option (List (Nat×Nat))
 | 0,none,m=>match Zdgx tab 0 m with
  | []=>some []
  | _=>none
 | 0,some _,_=>none
 | f+1,none,m=>match Zdgx tab 0 m with
  | []=>some []
  | rs=>match Zdfw rs with
   | some i=>match schM ops tab f none (Nat.lor m (one i))with
    | some q=>some ((i,0)::q)
    | none=>none
   | none=>match rs with
    | [j]=>match schM ops tab f none (Nat.lor m (one j.1))with
     | some q=>some ((j.1,1)::q)
     | none=>none
    | [x,y]=>bif Nat.beq x.1 y.1 then none else bif Zczs ops tab m x y then match schM ops tab f (some x.1) (Nat.lor m (one y.1))with
      | some q=>some ((y.1,x.1+3)::q)
      | none=>none
     else bif Zczs ops tab m y x then match schM ops tab f (some y.1) (Nat.lor m (one x.1))with
      | some q=>some ((x.1,y.1+3)::q)
      | none=>none
     else none
    | _=>none
 | f+1,some i,m=>match Zdgx tab 0 m with
  | [x]=>bif Nat.beq x.1 i then match schM ops tab f none (Nat.lor m (one i))with
    | some q=>some ((i,2)::q)
    | none=>none
   else none
  | [x,y]=>bif Nat.beq x.1 i then bif Zczs ops tab m x y then match schM ops tab f (some i) (Nat.lor m (one y.1))with
      | some q=>some ((y.1,i+3)::q)
      | none=>none
     else none
    else bif Nat.beq y.1 i then bif Zczs ops tab m y x then match schM ops tab f (some i) (Nat.lor m (one x.1))with
      | some q=>some ((x.1,i+3)::q)
      | none=>none
     else none
    else none
  | _=>none
theorem Zdid {d:Array Oper} (F:Zdjc (tabM d) 0=true):∀(f:Nat) (p:Option Nat) (l:Array Bool) (m:Nat),Lm d l m->(∀i,p=some i->i<d.size)->schM d (tabM d) f p m=sch d f p l:=by
 intro f
 induction f with
 | zero=>
  intro p l m h u
  cases p with
  | some i=>rfl
  | none=>
   obtain⟨A,_⟩:=Zdgy h;simp only[schM,sch,<-A]
   cases Zdgx (tabM d) 0 m<;>rfl
 | succ f v=>
  intro p l m h u;obtain⟨A,k⟩:=Zdgy h;have j:∀p∈Zdgx (tabM d) 0 m,p.1<d.size:=λp u=>by
   obtain⟨o,E,_⟩:=k p u;exact(Array.getElem?_eq_some_iff.1 E).1
  have g:∀p∈Zdgx (tabM d) 0 m,Lm d (l.setIfInBounds p.1 true) (Nat.lor m (one p.1)):=λp u=>h.set (j p u)
  have q:=Zdfx F h k
  cases p with
  | none=>
   simp only[schM,sch];rw[<-A];generalize Zdgx (tabM d) 0 m=rs at *
   match rs,k,j,g,q with
   | [],_,_,_,_=>rfl
   | a::t,k,j,g,q=>
    simp only[List.map_cons]at q⊢;rw[q]
    cases C:Zdfw (a::t)with
    | some i=>
     have z:∃p∈a::t,p.1=i:=by
      have D:=q.trans C;have:=(Zcts D).1;simp only[List.mem_cons,List.mem_map]at this
      rcases this with rfl|⟨p,u,rfl⟩
      ·exact⟨a,by simp,rfl⟩
      ·exact⟨p,List.mem_cons_of_mem _ u,rfl⟩
     obtain⟨p,B,rfl⟩:=z
     dsimp only
     rw[v none _ _ (g p B) (λi e=>by cases e)]
     cases sch d f none (l.setIfInBounds p.1 true)<;>rfl
    | none=>
     dsimp only
     match t,k,j,g with
     | [],k,j,g=>
      simp only[List.map_nil];rw[v none _ _ (g a (by simp)) (λi e=>by cases e)]
      cases sch d f none (l.setIfInBounds a.1 true)<;>rfl
     | [b],k,j,g=>
      simp only[List.map_cons,List.map_nil];obtain⟨I,x,n,_⟩:=k a (by simp);obtain⟨J,y,s,_⟩:=k b (by simp);rw[Zczt h x n y,Zczt h y s x,v (some a.1) _ _ (g b (by simp)) (λi e=>by cases e;exact j a (by simp)),v (some b.1) _ _ (g a (by simp)) (λi e=>by cases e;exact j b (by simp))];generalize sch d f (some a.1) (l.setIfInBounds b.1 true)=z1;generalize sch d f (some b.1) (l.setIfInBounds a.1 true)=z2
      cases Nat.beq a.1 b.1<;>cases Zczs d (tabM d) m a b<;>cases Zczs d (tabM d) m b a<;>cases z1<;>cases z2<;>rfl
     | b::c::t,_,_,_=>rfl
  | some i=>
   simp only[schM,sch];rw[<-A];generalize Zdgx (tabM d) 0 m=rs at *
   match rs,k,j,g with
   | [],_,_,_=>rfl
   | [a],k,j,g=>
    simp only[List.map_cons,List.map_nil]
    cases n:Nat.beq a.1 i with
    | false=>rfl
    | true=>
     have e:=Zcnc.1 n;subst e;simp only[cond_true];rw[v none _ _ (g a (by simp)) (λi e=>by cases e)]
     cases sch d f none (l.setIfInBounds a.1 true)<;>rfl
   | [a,b],k,j,g=>
    simp only[List.map_cons,List.map_nil];obtain⟨I,x,n,_⟩:=k a (by simp);obtain⟨J,y,s,_⟩:=k b (by simp)
    cases hx:Nat.beq a.1 i with
    | true=>
     have e:=Zcnc.1 hx;subst e;simp only[cond_true];rw[Zczt h x n y,v (some a.1) _ _ (g b (by simp)) (λi e=>by cases e;exact j a (by simp))]
     cases Zczs d (tabM d) m a b<;>cases sch d f (some a.1) (l.setIfInBounds b.1 true)<;>rfl
    | false=>
     simp only[cond_false]
     cases H:Nat.beq b.1 i with
     | false=>rfl
     | true=>
      have e:=Zcnc.1 H;subst e;simp only[cond_true];rw[Zczt h y s x,v (some b.1) _ _ (g a (by simp)) (λi e=>by cases e;exact j b (by simp))]
      cases Zczs d (tabM d) m b a<;>cases sch d f (some b.1) (l.setIfInBounds a.1 true)<;>rfl
   | a::b::c::t,_,_,_=>rfl
def noDL:List Oper->Bool
 | []=>true
 | o::os=>match o.op with
  | .select .. =>false
  | .defer _=>false
  | _=>noDL os
theorem Zdfa:∀ {l:List Oper},noDL l=true->∀o∈l,(match o.op with | .select .. =>false | .defer _=>false|_=>true)=true
 | [],_,o,d=>by cases d
 | a::l,h,o,d=>by
  unfold noDL at h;split at h
  ·cases h
  ·cases h
  ·rename_i f g
   rcases List.mem_cons.1 d with rfl|d
   ·split
    ·rename_i c b e;exact absurd e (f c b)
    ·rename_i c e;exact absurd e (g c)
    ·rfl
   ·exact Zdfa h o d
abbrev edF (T:List Nat) (s:Nat) (e:Edge):Nat:=bif Region.binds .any e then Nat.lor (Nat.lor s (2^e.on)) (T.getD e.on 0)else s
def edL (j:Nat):List Edge->Bool
 | []=>true
 | e::es=>(!Region.binds .any e||Nat.blt e.on j)&&edL j es
theorem Zcyh {j:Nat}:∀ {c:List Edge},edL j c=true->∀e∈c,(!Region.binds .any e||Nat.blt e.on j)=true
 | [],_,e,b=>by cases b
 | a::c,h,e,b=>by
  simp only[edL,Bool.and_eq_true]at h
  rcases List.mem_cons.1 b with rfl|b
  ·exact h.1
  ·exact Zcyh h.2 e b
def befL (acc:List Nat):List Oper->List Nat
 | []=>acc
 | o::os=>befL (acc ++ [o.after.toList.foldl (edF acc) 0]) os
def okL (T:List Nat):List Oper->Nat->Bool
 | [],_=>true
 | o::os,j=>edL j o.after.toList&&Nat.beq (T.getD j 0) (o.after.toList.foldl (edF T) 0)&&okL T os (j+1)
theorem Zdfi {T:List Nat}:∀ {os:List Oper} {s:Nat},okL T os s=true->∀(k:Nat) o,os[k]? =some o->edL (s+k) o.after.toList=true/\T.getD (s+k) 0=o.after.toList.foldl (edF T) 0
 | [],_,_,k,o,ho=>by simp at ho
 | a::os,s,h,k,o,ho=>by
  simp only[okL,Bool.and_eq_true,Zcnc]at h
  cases k with
  | zero=>simp at ho;subst ho;exact⟨h.1.1,h.1.2⟩
  | succ k=>
   have:=Zdfi h.2 k o (by simpa using ho)
   rwa [show s+1+k=s+(k+1) by omega]at this
theorem Zdfk {a:Array Oper} {T:List Nat} (h:okL T a.toList 0=true):okT a T=true:=by
 unfold okT;rw[List.all_eq_true];intro j g;have b:=List.mem_range.1 g;have i:a[j]? =some a[j]:=by simp[b]
 rw[i]
 dsimp only
 obtain⟨c,d⟩:=Zdfi h j a[j] (by simp[b]);rw[Nat.zero_add]at c d;rw[Bool.and_eq_true];refine⟨Array.all_eq_true_iff_forall_mem.2 λe f=>Zcyh c e (by simpa using f),?_⟩;rw[Zcnc,d];show(a[j].after.toList.foldl (edF T) 0) ||| _=_
 exact Nat.or_self _
def Zdfy (ops:Array Oper):Option (List (Nat×Nat)×List Nat):=
 let T:=befL [] ops.toList
 let tab:=tabM ops
 bif noDL ops.toList&&okL T ops.toList 0&&Zdjc tab 0 then match schM ops tab ops.size none 0 with
  | some q=>some (q,T)
  | none=>none else none
theorem Zdfz {a:Array Oper} {q T} (h:Zdfy a=some (q,T)):noDS a=true/\okT a T=true/\sch a a.size none (Array.replicate a.size false)=some q:=by
 unfold Zdfy at h
 dsimp only at h
 cases b:(noDL a.toList&&okL (befL [] a.toList) a.toList 0&&Zdjc (tabM a) 0)with
 | false=>rw[b]at h;cases h
 | true=>
  rw[b]at h;simp only[cond_true]at h;simp only[Bool.and_eq_true]at b;split at h
  ·rename_i f d
   cases h
   refine⟨Array.all_eq_true_iff_forall_mem.2 λo c=>Zdfa b.1.1 o (by simpa using c),Zdfk b.1.2,?_⟩;rw[<-Zdid b.2 _ none _ 0 (Lm.start a) (λi e=>by cases e)];exact d
  ·cases h
def Zctw (ops:Array Oper):Option (List (Nat×Nat)×List Nat):=match Zdfy ops with
 | some p=>some p
 | none=>bif noDS ops&&okT ops (Region.before ops).toList then match sch ops ops.size none (Array.replicate ops.size false)with
  | some q=>some (q,(Region.before ops).toList)
  | none=>none else none
theorem Zctx {a:Array Oper} {q T} (h:Zctw a=some (q,T)):noDS a=true/\okT a T=true/\sch a a.size none (Array.replicate a.size false)=some q:=by
 unfold Zctw at h;split at h
 ·rename_i p c;cases h;exact Zdfz c
 ·cases b:(noDS a&&okT a (Region.before a).toList)with
  | false=>rw[b]at h;cases h
  | true=>
   rw[b]at h;simp only[cond_true]at h;simp only[Bool.and_eq_true]at b;split at h
   ·rename_i e d;cases h;exact⟨b.1,b.2,d⟩
   ·cases h
def Zcyj:List Oper->Nat->Bool
 | [],_=>true
 | o::os,j=>edL j o.after.toList&&Zcyj os (j+1)
theorem Zcyk:∀ {os:List Oper} {s:Nat},Zcyj os s=true->∀(k:Nat) o,os[k]? =some o->edL (s+k) o.after.toList=true
 | [],_,_,k,o,ho=>by simp at ho
 | a::os,s,h,k,o,ho=>by
  simp only[Zcyj,Bool.and_eq_true]at h
  cases k with
  | zero=>simp at ho;subst ho;exact h.1
  | succ k=>
   have:=Zcyk h.2 k o (by simpa using ho)
   rwa [show s+1+k=s+(k+1) by omega]at this
theorem Zdfj {a:Array Oper} (h:Zcyj a.toList 0=true):okT a []=true:=by
 unfold okT;rw[List.all_eq_true];intro j f;have b:=List.mem_range.1 f;have g:a[j]? =some a[j]:=by simp[b]
 rw[g]
 dsimp only
 have c:=Zcyk h j a[j] (by simp[b]);rw[Nat.zero_add]at c;rw[Bool.and_eq_true];refine⟨Array.all_eq_true_iff_forall_mem.2 λe d=>Zcyh c e (by simpa using d),?_⟩;rw[Zcnc];show 0 ||| _=_
 exact Nat.zero_or _
def Zdga (ops:Array Oper):Option (List (Nat×Nat)):=
 bif noDL ops.toList&&Zcyj ops.toList 0&&Zdjc (tabM ops) 0 then schM ops (tabM ops) ops.size none 0 else none
theorem Zdgb {a:Array Oper} {q} (h:Zdga a=some q):noDS a=true/\okT a []=true/\sch a a.size none (Array.replicate a.size false)=some q:=by
 unfold Zdga at h
 cases b:(noDL a.toList&&Zcyj a.toList 0&&Zdjc (tabM a) 0)with
 | false=>rw[b]at h;cases h
 | true=>
  rw[b]at h;simp only[cond_true]at h;simp only[Bool.and_eq_true]at b;refine⟨Array.all_eq_true_iff_forall_mem.2 λo c=>Zdfa b.1.1 o (by simpa using c),Zdfj b.1.2,?_⟩;rw[<-Zdid b.2 _ none _ 0 (Lm.start a) (λi e=>by cases e)];exact h
def Zcyf (P:Program) (G:Nat) (K:KF) (ops:Array Oper) (s:St):Option St:=match Zctw ops with
 | some (q,T)=>regS P G K ops T q [] s
 | none=>none
def Zcov (P:Program) (G:Nat) (K:KF):RF:=λops s=>
 match Zdga ops with
 | some q=>match regS P G K ops [] q [] s with
  | some s1=>some s1
  | none=>Zcyf P G K ops s
 | none=>Zcyf P G K ops s
theorem Zcow {K:KF} (u:KS P G K) (x:P.follows .mixedOrders=true):RS P G (Zcov P G K):=by
 intro F t b s s1 d z r a w n;have m:∃q T,noDS b=true/\okT b T=true/\sch b b.size none (Array.replicate b.size false)=some q/\regS P G K b T q [] s=some s1:=by
  have c:Zcyf P G K b s=some s1->∃q T,noDS b=true/\okT b T=true/\sch b b.size none (Array.replicate b.size false)=some q/\regS P G K b T q [] s=some s1:=λh=>by
   unfold Zcyf at h;split at h
   case h_2=>cases h
   rename_i q T l
   obtain⟨e,f,g⟩:=Zctx l;exact⟨q,T,e,f,g,h⟩
  unfold Zcov at d;split at d
  ·rename_i q l
   obtain⟨e,f,g⟩:=Zdgb l;split at d
   ·rename_i A i;cases d;exact⟨q,[],e,f,g,i⟩
   ·exact c d
  ·exact c d
 obtain⟨q,T,e,f,g,i⟩:=m;refine wpIn_region_any x ?_;have k:SR P G r s a { w with drawn:=w.drawn+1 }:=⟨n.1.drew,n.2⟩;have:=(Zdhg (F:=F) (r0:=r) (w0:=w) (s0:=s) (ds:=a.defers) t u e f b.size none _ q [] s g i).2 r a { w with drawn:=w.drawn+1 } [] (λj v=>by
  simp at v
  rcases Nat.lt_or_ge j b.size with o|o<;>simp_all) k rfl (Nx.drew r s.h w) (λp y=>by cases y)
 exact Zcvz _ _ _ _ _ this
end
section
open Go
variable {P:Program} {G:Nat} {r:Ren} {h:Hp} {w:World}
def resC (P:Program) (h:Hp) (t:Tr):List ResultVar->Option (List Value)
 | []=>some []
 | .tmp k::rs=>match resC P h t rs with
  | some vs=>some (t.get k::vs)
  | none=>none
 | .cell k ty::rs=>match Zcrs P h ty (t.get k)with
  | some (_,v)=>match resC P h t rs with
   | some vs=>some (v::vs)
   | none=>none
  | none=>none
def finC:List Value->Value
 | [v]=>v
 | vs=> .tuple vs.toArray
abbrev resF (tmps:Array Value):ResultVar->Sem Value:=fun
 | .tmp t=>pure (tmps.getD t undef)
 | .cell a t=>do loadVar t (<-asAddr (tmps.getD a undef))
theorem Zcui {N:Nat->Prop} (B:Rep N (Zp P) G r h w) {e:Env} {a:Act} (s:EnvR (Zp P) r e a):∀ {rs:List ResultVar} {vs},resC P h e.t rs=some vs->∃c,ValsR (Zp P) r vs c/\(rs.mapM (resF a.tmps)).run P w = .ok c w:=by
 intro rs
 induction rs with
 | nil=>intro vs b;cases b;exact⟨[],.nil,rfl⟩
 | cons x rs u=>
  intro vs b
  cases x with
  | tmp k=>
   simp only[resC]at b;split at b
   case h_2=>cases b
   rename_i E l
   cases b
   obtain⟨m,g,i⟩:=u l;refine⟨_,g.cons (s.2.2 k),?_⟩;rw[List.mapM_cons];simp only[Sem.run_bind,resF,Sem.run_pure,Result.andThen_ok,i]
  | cell k D=>
   simp only[resC]at b;split at b
   case h_2=>cases b
   rename_i I v d
   split at b
   case h_2=>cases b
   rename_i E l
   cases b
   obtain⟨m,g,i⟩:=u l;have f:=s.2.2 k;obtain⟨F,z,A⟩:=Zcrt B f d;refine⟨_,g.cons z,?_⟩;have p:=A w (λ_ _ _ _=>rfl);have q:(do loadVar D (<-asAddr (a.tmps.getD k undef)):Sem Value).run P w = .ok F w:=by
    generalize a.tmps.getD k undef=y at f p;unfold Zcrs at d;split at d
    case h_2=>cases d
    rename_i n o j
    rw[j]at f
    cases f with
    | same C=>simp[atom]at C
    | ptr H=>simpa[Instr.loadAt,Instr.sureAddr,asAddr]using p
   rw[List.mapM_cons];simp only[Sem.run_bind,resF]at q⊢;rw[q];simp only[Result.andThen_ok,i,Sem.run_pure]
theorem Zcuj {N:Nat->Prop} (m:Rep N (Zp P) G r h w) {e:Env} {a:Act} (l:EnvR (Zp P) r e a) {c:Func} {vs} (n:resC P h e.t c.results.toList=some vs):∃v',ValR (Zp P) r (finC vs) v'/\(results c a.tmps).run P w = .ok v' w:=by
 obtain⟨b,d,i⟩:=Zcui m l n;have j:(c.results.mapM (resF a.tmps)).run P w = .ok b.toArray w:=by
  rw[Array.mapM_eq_mapM_toList];simp only[Sem.run_map,i,Result.andThen_ok]
 refine⟨finC b,?_,?_⟩
 ·cases vs with
  | nil=>
   cases b with
   | nil=>exact .tupleL .nil
   | cons _ _=>have:=d.1;simp at this
  | cons v vs=>
   obtain⟨v',f,rfl,k,g⟩:=d.head
   cases vs with
   | nil=>
    cases f with
    | nil=>exact k
    | cons _ _=>have:=g.1;simp at this
   | cons u vs=>
    obtain⟨p,o,rfl,_,_⟩:=g.head;exact .tupleL d
 ·have:results c a.tmps=(do let vs <-c.results.mapM (resF a.tmps);pure (if h:vs.size=1 then vs[0]else .tuple vs)):=rfl
  rw[this,Sem.run_bind,j];simp only[Result.andThen_ok]
  cases b with
  | nil=>rfl
  | cons v vs=>
   cases vs with
   | nil=>rfl
   | cons u vs=>simp[finC]
def ini:List Value->Nat->Tr->Tr
 | [],_,t=>t
 | v::vs,i,t=>ini vs (i+1) (Tr.put 24 t i v)
theorem Zcri:∀(vs:List Value) (i:Nat) (t:Tr) (j:Nat),i+vs.length<16000000->(ini vs i t).get j=if i<=j/\j<i+vs.length then vs.getD (j-i) undef else t.get j
 | [],i,t,j,_=>by simp only[ini,List.length_nil];rw[if_neg (by omega)]
 | v::vs,i,t,j,hl=>by
  simp only[List.length_cons]at hl;rw[ini,Zcri vs (i+1) _ j (by omega),Tr.get_put 24 _ _ _ _ (by
     have:(2:Nat)^24=16777216:=by decide
     omega)]
  by_cases a:i+1<=j/\j<i+1+vs.length
  ·rw[if_pos a,if_pos (by simp;omega)]
   have:j-i=(j-(i+1))+1:=by omega
   rw[this];simp
  ·rw[if_neg a]
   by_cases b:j=i
   ·subst b;rw[if_pos rfl,if_pos (by simp)];simp
   ·rw[if_neg b,if_neg (by simp;omega)]
theorem Zcrh {vs a:List Value} (d:ValsR (Zp P) r vs a) {m:Nat} (g:vs.length+m<16000000):
  EnvR (Zp P) r ⟨ini vs 0 .lf,vs.length+(m-vs.length)⟩ { tmps:=a.toArray++Array.replicate (m-a.toArray.size) undef,defers:=[] }:=by
 have f:=d.1;refine⟨by simp;omega,by simp only;omega,λk=>?_⟩;simp only;rw[Zcri _ _ _ _ (by omega)]
 by_cases c:k<vs.length
 ·rw[if_pos ⟨Nat.zero_le _,by omega⟩]
  have b:(a.toArray++Array.replicate (m-a.toArray.size) undef).getD k undef=a[k]:=by
   rw[Array.getD_eq_getD_getElem?,Array.getElem?_append_left (by simp;omega)];simp[show k<a.length by omega]
  rw[b];have e:vs.getD (k-0) undef=vs[k]:=by simp[c]
  rw[e];exact d.2 k _ _ (by simp[c]) (by simp[show k<a.length by omega])
 ·rw[if_neg (by omega),Tr.get_lf]
  have b:(a.toArray++Array.replicate (m-a.toArray.size) undef).getD k undef=undef:=by
   rw[Array.getD_eq_getD_getElem?,Array.getElem?_append_right (by simp;omega)];rw[Array.getElem?_replicate];split<;>rfl
  rw[b];exact .undef
def Zcrm (p:Nat->Bool):Hp->Hp
 | []=>[]
 | (k,o)::h=>bif p k then(k,o)::Zcrm p h else Zcrm p h
theorem Zcrn {p:Nat->Bool}:∀n o,look (Zcrm p h) n=some o->look h n=some o:=by
 induction h with
 | nil=>intro n o a;cases a
 | cons q h d=>
  obtain⟨k,g⟩:=q;intro n o a;simp only[Zcrm]at a;have e:∀n o,look (Zcrm p h) n=some o->p n=true:=by
   clear d a
   induction h with
   | nil=>intro n o a;cases a
   | cons q h d=>
    obtain⟨f,i⟩:=q;intro n o a;simp only[Zcrm]at a
    cases c:p f with
    | false=>rw[c]at a;exact d n o a
    | true=>
     rw[c]at a;simp only[cond_true,look]at a
     cases b:Nat.beq f n with
     | true=>obtain rfl:=Zcnc.1 b;exact c
     | false=>rw[b]at a;exact d n o a
  cases c:p k with
  | true=>
   rw[c]at a;simp only[cond_true,look]at a⊢
   cases b:Nat.beq k n with
   | true=>rw[b]at a;exact a
   | false=>rw[b]at a;exact d n o a
  | false=>
   rw[c]at a;simp only[look]
   cases b:Nat.beq k n with
   | true=>
    obtain rfl:=Zcnc.1 b;have:=e _ _ a;rw[c]at this;cases this
   | false=>exact d n o a
def nms (lo:Nat):Nat->Value->List Nat->List Nat
 | 0,_,acc=>acc
 | n+1,v,acc=>match v with
  | .pointer (some a)=>bif Nat.blt a.block lo then acc else a.block::acc
  | .slice (some a) _ _=>bif Nat.blt a.block lo then acc else a.block::acc
  | .map (some m)=>bif Nat.blt m lo then acc else m::acc
  | .func (.yield l) _ _=>bif Nat.blt l lo then acc else l::acc
  | .func _ xs ys=>xs.toList.foldl (λacc v=>nms lo n v acc) (ys.toList.foldl (λacc v=>nms lo n v acc) acc)
  | .iface _ v=>nms lo n v acc
  | .agg xs=>xs.toList.foldl (λacc v=>nms lo n v acc) acc
  | .tuple xs=>xs.toList.foldl (λacc v=>nms lo n v acc) acc
  | _=>acc
def nmsL (lo:Nat):List Value->List Nat->List Nat
 | [],acc=>acc
 | v::vs,acc=>match v with
  | .string _=>nmsL lo vs acc
  | .int _ _=>nmsL lo vs acc
  | .bool _=>nmsL lo vs acc
  | v=>nmsL lo vs (nms lo 6 v acc)
def nmsO (lo:Nat) (o:CO) (acc:List Nat):List Nat:=match o with
 | .cells cs _ _ _=>nmsL lo cs acc
 | .map es _ _=>es.foldl (λacc x=>nms lo 6 x.2.1 acc) acc
 | .loop .. =>acc
def Zcsn (lo:Nat):Nat->Hp->List Nat->List Nat->List Nat
 | 0,_,_,seen=>seen
 | n+1,h,todo,seen=>match todo with
  | []=>seen
  | x::todo=>bif memB seen x then Zcsn lo n h todo seen else match look h x with
   | some o=>Zcsn lo n h (nmsO lo o todo) (x::seen)
   | none=>Zcsn lo n h todo seen
def Zcuk (lo:Nat):Hp->List Nat->List Nat
 | [],acc=>acc
 | (k,o)::h,acc=>bif Nat.blt k lo then Zcuk lo h (nmsO lo o acc)else Zcuk lo h acc
def gcC (k k1:Nat) (v:Value) (h:Hp):Hp:=
 bif Nat.blt k1 (k+16)then h else(λseen=>Zcrm (λn=>bif Nat.blt n (2*k)then true else memB seen n) h) (Zcsn (2*k) 100000 h (nms (2*k) 6 v (Zcuk (2*k) h [])) [])
theorem Zcqt {k a:Nat} {v:Value}:∀n o,look (gcC k a v h) n=some o->look h n=some o:=by
 unfold gcC
 cases Nat.blt a (k+16)with
 | true=>exact λ_ _ h=>h
 | false=>exact Zcrn
def finX (P:Program) (fn:Func) (k:Nat) (s:St):Option (Value×Nat×Hp):=match resC P s.h s.e.t fn.results.toList with
 | some us=>some (finC us,s.k,gcC k s.k (finC us) s.h)
 | none=>none
def Zcog (P:Program) (G:Nat) (fuel:Nat) (K:KF) (f:FuncId) (vs:List Value) (k:Nat) (h:Hp):Option (Value×Nat×Hp):=match P.funcs[f]? with
 | some fn=>match fn.body with
  | some c=>bif Nat.blt (vs.length+fn.ntmps) 16000000 then
    match Zcol P G K (Zcov P G K) true fuel c ⟨⟨ini vs 0 .lf,vs.length+(fn.ntmps-vs.length)⟩,k,h⟩with
    | some (.normal,s)=>finX P fn k s
    | some (.ret,s)=>finX P fn k s
    | _=>none
   else none
  | none=>none
 | none=>none
theorem Zcoi {K:KF} (A:KS P G K) (O:P.follows .mixedOrders=true) (B:Zcmj P) (i:Nat) {f:FuncId} {vs:List Value} {k:Nat} {h:Hp} {v:Value} {q:Nat} {p:Hp} (d:Zcog P G i K f vs k h=some (v,q,p)) {g:List Value}
  (L:Rep (Zcmd k) (Zp P) G r h w) (Q:ValsR (Zp P) r vs g):KSc P G r h w v q p g (.fn f):=by
 refine .inr ?_;unfold Zcog at d;split at d
 case h_2=>cases d
 rename_i l n
 split at d
 case h_2=>cases d
 rename_i c C
 cases j:Nat.blt (vs.length+l.ntmps) 16000000 with
 | false=>rw[j]at d;cases d
 | true=>
  rw[j]at d;simp only[cond_true]at d;have t:=Nat.le_of_ble_eq_true j;refine⟨Zcuq B n C _ _,?_⟩;refine callsIn_of_wp_marks n C trivial ?_;have M:SR P G r ⟨⟨ini vs 0 .lf,vs.length+(l.ntmps-vs.length)⟩,k,h⟩ { tmps:=g.toArray++Array.replicate (l.ntmps-g.toArray.size) undef,defers:=[] } w:=⟨L,Zcrh Q t⟩;have m:∀(x:Exit) (s:St),(x = .normal\/x = .ret)->Zcol P G K (Zcov P G K) true i c ⟨⟨ini vs 0 .lf,vs.length+(l.ntmps-vs.length)⟩,k,h⟩=some (x,s)->finX P l k s=some (v,q,p)->
    c.wpIn Fence.wide 0 P (bodyPostM Fence.wide 0 P l (CT P G r h w v q p)) { tmps:=g.toArray++Array.replicate (l.ntmps-g.toArray.size) undef,defers:=[] } w:=by
   intro x s hx a b;refine wpIn_mono (Zcom FF.wide A B (Zcow A O) (λ_=>rfl) i c _ x s a r _ w M).1 ?_;rintro e y w1 ⟨rfl,z,F,T,U,D,E⟩;unfold finX at b;split at b
   case h_2=>cases b
   rename_i I u
   cases b
   obtain⟨H,V⟩:=Zcvr z w1 D.1 U E;obtain⟨J,R,S⟩:=Zcuj H D.2 u;have o:LeavesInM Fence.wide 0 P l y.tmps (CT P G r h w (finC I) s.k (gcC k s.k (finC I) s.h)) y.defers .returning w1:=by
    rw[T,List.append_nil];exact Zcrq z w1 E ⟨J,S,F,J,rfl,V.trans (Nx.sub F _ Zcqt),H.sub Zcqt,R⟩
   rcases hx with rfl|rfl
   ·exact o
   ·exact o
  split at d
  ·rename_i s a;exact m _ s (.inl rfl) a d
  ·rename_i s a;exact m _ s (.inr rfl) a d
  ·cases d
end
section
open Go
variable {P:Program} {G:Nat} {r:Ren} {h:Hp} {w:World}
def Zcnf:List Tmp->List Value->Env->Env
 | p::ps,v::vs,e=>Zcnf ps vs (e.put (some p) v)
 | _,_,e=>e
theorem Zcng {Z:TypeId->Nat}:∀(ps:List Tmp) (vs b:List Value) (e:Env) (a:Act),ValsR Z r vs b->EnvR Z r e a->EnvR Z r (Zcnf ps vs e) { a with tmps:=(ps.zip b).foldl (λtmps (t,a)=>tmps.setIfInBounds t a) a.tmps }
 | [],vs,b,e,a,_,hE=>by simpa[Zcnf]using hE
 | p::ps,[],b,e,a,hv,hE=>by
  have:=hv.1
  cases b with
  | nil=>simpa[Zcnf]using hE
  | cons _ _=>simp at this
 | p::ps,v::vs,b,e,a,hv,hE=>by
  obtain⟨g,f,rfl,c,d⟩:=hv.head;have:=Zcng ps vs f _ _ d (hE.put c (some p));simpa[Zcnf,Act.put]using this
def endR (l:Nat) (s:St) (st:LoopState) (pend:Option Code) (v:Bool):Option CO->Option (Value×Nat×Hp)
 | some (.loop _ _ en ps asg body false)=>some (.bool v,s.k,upd s.h l (.loop st pend en ps asg body false))
 | _=>none
def Zcrp (l:Nat) (s:St):Exit->Option (Value×Nat×Hp)
 | .normal=>endR l s .ready none true (look s.h l)
 | .ret=>endR l s .done (some .ret) false (look s.h l)
 | .exit id=>endR l s .done (some (.exit id)) false (look s.h l)
 | _=>none
def Zcnb (l:Nat) (s:St):Option CO->Option St
 | some (.loop .ready pend en ps asg body false)=>some ⟨s.e,s.k,upd s.h l (.loop .busy pend en ps asg body false)⟩
 | _=>none
def Zcul (P:Program) (G:Nat) (fuel:Nat) (K:KF) (l:Nat) (vs:List Value) (k:Nat) (h:Hp):Option (Value×Nat×Hp):=match look h l with
 | some (.loop _ _ en ps asg body _)=>bif Nat.beq vs.length ps.size then
   match Zcol P G K (Zcov P G K) false fuel asg ⟨Zcnf ps.toList vs en,k,h⟩with
   | some (.normal,s1)=>match Zcnb l s1 (look s1.h l)with
    | some s2=>match Zcol P G K (Zcov P G K) false fuel body s2 with
     | some (x,s3)=>Zcrp l s3 x
     | none=>none
    | none=>none
   | _=>none
  else none
 | _=>none
theorem Zcpc {s:St} {a:Act} (m:SR P G r s a w) {l:Nat} {e:Ent} (n:r l=some e) {st pend b v k1 h1} (d:endR l s st pend b (look s.h l)=some (v,k1,h1)) {jump:Option Code} (u:jump=pend) (t:jump.isNone=b) (j:(if jump.isNone then LoopState.ready else .done)=st):
  ∃w1,(Instr.endRound e.b jump).run P w = .ok v w1/\Nx r s.h w r h1 w1/\Rep (Zcmd k1) (Zp P) G r h1 w1/\ValR (Zp P) r v v:=by
 subst u;subst t;unfold endR at d;split at d
 case h_2=>cases d
 rename_i E k p D f c o
 cases d
 obtain⟨L,q,⟨F,H,x,y,z⟩,A,B,C⟩:=Zcsf m.1 n o;obtain⟨i,g⟩:=Zcsg m.1 n (o1:= .loop st jump p D f c false) (o1':= .loop { L with state:=if jump.isNone then .ready else .done,pending:=jump }) o rfl ⟨⟨j,rfl,x,y,z⟩,A,B,C⟩;exact⟨_,run_endRound jump q,g,i,.same rfl⟩
theorem Zcum {K:KF} (E:KS P G K) (Y:P.follows .mixedOrders=true) (V:Zcmj P) (i:Nat) {l:Nat} {vs:List Value} {k:Nat} {h:Hp} {v:Value} {k1:Nat} {U:Hp} (c:Zcul P G i K l vs k h=some (v,k1,U)) {g:List Value}
  (W:Rep (Zcmd k) (Zp P) G r h w) (Z:ValsR (Zp P) r vs g):KSc P G r h w v k1 U g (.rd l):=by
 intro e X;unfold Zcul at c;split at c
 case h_2=>cases c
 rename_i st aa T ps ab S ro hl
 cases f:Nat.beq vs.length ps.size with
 | false=>rw[f]at c;cases c
 | true=>
  rw[f]at c;simp only[cond_true]at c;have f:=Zcnc.1 f;obtain⟨L,hL,⟨l1,l2,l3,l4,l5⟩,l6,l7,l8⟩:=Zcsf W X hl;subst l3;subst l4;subst l5;refine⟨_,_,_,_,run_yield hL (by have:=Z.1;simp;omega),?_⟩;refine roundIn_of_wpIn trivial ?_;have hE:EnvR (Zp P) r (Zcnf L.params.toList vs T) { tmps:=(L.params.zip g.toArray).foldl (λtmps (t,a)=>tmps.setIfInBounds t a) L.tmps,defers:=[] }:=by
   have:=Zcng L.params.toList vs g T { tmps:=L.tmps,defers:=[] } Z ⟨l6,l7,l8⟩;have e1:(L.params.zip g.toArray).foldl (λtmps (x:Tmp×Value)=>tmps.setIfInBounds x.1 x.2) L.tmps=(L.params.toList.zip g).foldl (λtmps x=>tmps.setIfInBounds x.1 x.2) L.tmps:=by
    rw[<-Array.foldl_toList];simp
   exact e1▸this
  split at c
  case h_2=>cases c
  rename_i s1 j
  split at c
  case h_2=>cases c
  rename_i s2 d
  split at c
  case h_2=>cases c
  rename_i x s3 m
  refine wpIn_mono (Zcom (FF.round e.b) E V (Zcow E Y) (λhx=>by cases hx) i L.assign _ .normal s1 j r _ w ⟨W,hE⟩).1 ?_;rintro y a1 w1 ⟨rfl,bs,r1,q1,q2,Q,q4⟩;have p:=q2.ext _ _ X;unfold Zcnb at d;split at d
  case h_2=>cases d
  rename_i s F O u n z
  cases d
  obtain⟨L1,H,⟨m1,m2,m3,m4,m5⟩,m6,m7,m8⟩:=Zcsf Q.1 p z;obtain⟨J,I⟩:=Zcsg Q.1 p (o1:= .loop .busy s F O u n false) (o1':= .loop { L1 with state:= .busy }) z rfl ⟨⟨rfl,m2,m3,m4,m5⟩,m6,m7,m8⟩;refine⟨_,run_beginRound H m1,?_⟩;refine wpIn_mono (Zcom (FF.round e.b) E V (Zcow E Y) (λhx=>by cases hx) i L.body _ x s3 m r1 a1 _ ⟨J,Q.2⟩).1 ?_;rintro y a3 w3 ⟨rfl,ac,R,p1,p2,M,p4⟩;have q:=p2.ext _ _ p;have o:=(q2.trans I).trans p2;unfold Zcrp at c;split at c
  ·obtain⟨w4,A,B,C,D⟩:=Zcpc M q c (jump:=none) rfl rfl rfl
   exact⟨_,_,A,R,_,rfl,o.trans B,C,D⟩
  ·obtain⟨w4,A,B,C,D⟩:=Zcpc M q c (jump:=some .ret) rfl rfl rfl
   exact⟨_,_,A,R,_,rfl,o.trans B,C,D⟩
  ·rename_i id
   obtain⟨w4,A,B,C,D⟩:=Zcpc M q c (jump:=some (.exit id)) rfl rfl rfl;exact⟨_,_,A,R,_,rfl,o.trans B,C,D⟩
  ·cases c
def KX (P:Program) (G:Nat) (fuel:Nat) (K0:KF):Nat->KF
 | 0=>K0
 | n+1=>λc vs k h=>match K0 c vs k h with
  | some q=>some q
  | none=>match c with
   | .fn f=>Zcog P G fuel (KX P G fuel K0 n) f vs k h
   | .rd l=>Zcul P G fuel (KX P G fuel K0 n) l vs k h
theorem Zcmh {m:KF} (h0:KS P G m) (e:P.follows .mixedOrders=true) (d:Zcmj P) (a:Nat):∀n,KS P G (KX P G a m n)
 | 0=>h0
 | n+1=>by
  intro c vs k h v s p b;simp only[KX]at b;split at b
  ·rename_i q o;cases b;exact h0 _ _ _ _ _ _ _ o
  ·cases c with
   | fn f=>exact λr w j g i=>Zcoi (Zcmh h0 e d a n) e d a b g i
   | rd l=>exact λr w j g i=>Zcum (Zcmh h0 e d a n) e d a b g i
end
section
open Go
variable {P:Program} {G:Nat} {r:Ren} {h:Hp} {w:World}
abbrev FK:=FuncId->List Value->Nat->Hp->Option (Value×Nat×Hp)
def onFn (K:FK):KF
 | .fn f,vs,k,h=>K f vs k h
 | .rd _,_,_,_=>none
theorem Zcth {K:FK} (g:∀f vs k h v d b,K f vs k h=some (v,d,b)->∀(r:Ren) (w:World) (a:List Value),Rep (Zcmd k) (Zp P) G r h w->ValsR (Zp P) r vs a->KSc P G r h w v d b a (.fn f)):KS P G (onFn K):=by
 intro c vs k h v d b e
 cases c with
 | fn f=>exact g f vs k h v d b e
 | rd l=>cases e
abbrev ExtT:=List (FuncId×(Array Value->Sem Value))
def extF:ExtT->FuncId->Option (Array Value->Sem Value)
 | [],_=>none
 | (g,e)::X,f=>bif Nat.beq g f then some e else extF X f
def extK (P:Program) (X:ExtT):FK:=λf vs k h=>match extF X f with
 | some e=>bif vs.all (flat 4)then match Zcua P (e vs.toArray)with
  | some v=>bif flat 4 v then some (v,k,h)else none
  | none=>none else none
 | none=>none
def Ext0 (P:Program) (f:FuncId) (e:Array Value->Sem Value):Prop:=∀args (w:World),(callFunc f args).run P w=((e args).run P w).andThen λv w'=> .ok (.value v) w'
theorem Zcpm {X:ExtT} {f e} (h:extF X f=some e):(f,e)∈X:=by
 induction X with
 | nil=>cases h
 | cons p X b=>
  obtain⟨g,c⟩:=p;simp only[extF]at h
  cases a:Nat.beq g f with
  | true=>rw[a]at h;cases h;obtain rfl:=Zcnc.1 a;simp
  | false=>rw[a]at h;exact List.mem_cons_of_mem _ (b h)
theorem Zcqm {vs a:List Value} (b:vs.all (flat 4)=true) (c:ValsR (Zp P) r vs a):a=vs:=by
 induction vs generalizing a with
 | nil=>have:=c.1;cases a<;>simp_all
 | cons v vs f=>
  obtain⟨i,g,rfl,d,e⟩:=c.head;simp only[List.all_cons,Bool.and_eq_true]at b;rw[Zcqk 4 b.1 d,f b.2 e]
theorem Zcpn {X:ExtT} (g:∀p∈X,Ext0 P p.1 p.2):KS P G (onFn (extK P X)):=by
 refine Zcth ?_;intro f m k h v q o a r w n d l;unfold extK at a;split at a
 case h_2=>cases a
 rename_i e i
 cases c:m.all (flat 4)with
 | false=>rw[c]at a;cases a
 | true=>
  rw[c]at a;simp only[cond_true]at a;split at a
  case h_2=>cases a
  rename_i u j
  cases b:flat 4 u with
  | false=>rw[b]at a;cases a
  | true=>
   rw[b]at a;cases a;obtain rfl:=Zcqm c l;exact .inl ⟨r,_,w,by rw[g _ (Zcpm i),Zcub j];rfl,Nx.refl r h w,d,Zcql 4 b⟩
def idK (F:List FuncId):FK:=λf vs k h=>bif memB F f then match vs with
 | [v]=>some (v,k,h)
 | _=>none else none
theorem Zcrd {F:List FuncId} (g:∀f∈F,∀v (w:World),(callFunc f #[v]).run P w = .ok (.value v) w):KS P G (onFn (idK F)):=by
 refine Zcth ?_;intro f p k h v o n c r w m i j;unfold idK at c
 cases d:memB F f with
 | false=>rw[d]at c;cases c
 | true=>
  rw[d]at c;simp only[cond_true]at c;split at c
  ·cases c
   obtain⟨e,l,rfl,a,b⟩:=j.head
   cases l with
   | nil=>exact .inl ⟨r,e,w,g f (Zcso.1 d) e w,Nx.refl r h w,i,a⟩
   | cons _ _=>have:=b.1;simp at this
  ·cases c
def nzK (nz:FuncId) (el:TypeId):FK:=λf vs k h=>bif Nat.beq f nz then match vs with
 | [.int .i64 n]=>bif decide (0<=n)&&decide (n<=1000000)then some (.slice (some ⟨2*k+1,0,none⟩) n.toNat n.toNat,k+1,(2*k+1,.cells [] el 0 false)::h)else none
 | _=>none else none
theorem Zcou:∀(n t:Nat) (a:Array Value),(Extern.BytealgMakeNoZero.digits n t a).size=a.size+n
 | 0,_,a=>rfl
 | n+1,t,a=>by rw[Extern.BytealgMakeNoZero.digits,Zcou n];simp;omega
theorem Zcta {C:FuncId} {c t:TypeId} {ps rs:Array TypeId} (M:rs[0]? =some t) (O:P.underlying t=some (.slice c)) (R:Zp P c=1)
  (J:∀l (w:World),(callFunc C l).run P w=((Extern.BytealgMakeNoZero.makeNoZero ps rs l).run P w).andThen λv w'=> .ok (.value v) w'):KS P G (onFn (nzK C c)):=by
 refine Zcth ?_;intro f V k h v U T d r w D K Q;unfold nzK at d
 cases A:Nat.beq f C with
 | false=>rw[A]at d;cases d
 | true=>
  rw[A]at d;simp only[cond_true]at d;obtain rfl:=Zcnc.1 A;split at d
  ·rename_i n
   cases x:(decide (0<=n)&&decide (n<=1000000))with
   | false=>rw[x]at d;cases d
   | true=>
    rw[x]at d;cases d;simp only[Bool.and_eq_true,decide_eq_true_eq]at x;obtain rfl:D = [.int .i64 n]:=Zcqm (by simp[flat,atom]) Q;obtain⟨cap,g⟩:∃cap,cap=(Question.appendCap n.toNat 0 c).cut (w.tape w.drawn (Question.appendCap n.toNat 0 c)):=⟨_,rfl⟩;obtain⟨j,y⟩:∃b,b=(Question.extern "internal/bytealg.MakeNoZero.bytes" 0).cut (w.drew.tape w.drew.drawn (Question.extern "internal/bytealg.MakeNoZero.bytes" 0)):=⟨_,rfl⟩;have z:n.toNat<=cap:=by rw[g];simp[Question.cut]
    have p:cap<=9223372036854775807:=by
     rw[g];simp only[Question.cut];have:=Nat.mod_lt (w.tape w.drawn (Question.appendCap n.toNat 0 c)) (show 0<2^63-n.toNat by omega);omega
    have B:=Zcou cap j #[];have q:∀m (w:World),(askRoom m).run P w = .ok () w:=λm w=>by unfold askRoom;split<;>rfl
    have H:¬(n<0):=by omega
    have I:¬(n>281474976710656):=by omega
    have u:(Extern.BytealgMakeNoZero.makeNoZero ps rs #[.int .i64 n]).run P w = .ok (.slice (some ⟨w.heap.size,0,none⟩) n.toNat cap) (w.drew.drew.alloc (.cells (Extern.BytealgMakeNoZero.digits cap j #[]) c)):=by
     have E:(choose (Question.appendCap n.toNat 0 c)).run P w = .ok cap w.drew:=by rw[g];rfl
     have F:(choose (Question.extern "internal/bytealg.MakeNoZero.bytes" 0)).run P w.drew = .ok j w.drew.drew:=by rw[y];rfl
     have s:Extern.BytealgMakeNoZero.makeNoZero ps rs #[.int .i64 n]=(do
      let some t:=rs[0]? |stuck "bytealg.MakeNoZero: no result type"
      let .slice elem <-underlying t|stuck "bytealg.MakeNoZero: slice type expected"
      if n<0||n>2^48 then runtimePanic (.error "makeslice: len out of range")
      let cap <-choose (.appendCap n.toNat 0 elem)
      askRoom cap
      let bytes <-choose (.extern "internal/bytealg.MakeNoZero.bytes" 0)
      let a <-newRow elem (Extern.BytealgMakeNoZero.digits cap bytes #[])
      pure (.slice (some a) n.toNat cap)):=rfl
     rw[s];simp only[M,Sem.run_bind,run_underlying O,Result.andThen_ok];simp only[show(decide (n<0)||decide (n>2^48))=false by simp;omega];simp only[Bool.false_eq_true,if_false,Sem.run_bind,Sem.run_pure,Result.andThen_ok,E,q,F,Zcus];rfl
    obtain⟨a,b⟩:=K.drew.drew.alloc (nm:=2*k+1) (o:= .cells [] c 0 false) (o':= .cells (Extern.BytealgMakeNoZero.digits cap j #[]) c (0,0)) (S:=cap) (t:=c) (by omega) (by omega)
     ⟨rfl,rfl,by rw[B];simp,by simp,λhx=>(by rw[Zctd]at hx;cases hx),λi v L=>by simp at L,FzS.zero⟩
    refine .inl ⟨_,_,_,?_,(Nx.drew r h w).trans ((Nx.drew r h w.drew).trans b),a,.slice (e:=⟨w.drew.drew.heap.size,0,cap,c⟩) (c':=cap) (by simp[set1]) z (λhx=>(by rw[Zctd]at hx;cases hx)) (λ_=>by show CapR (0+0+cap*Zp P c) cap cap (Zp P c);rw[R];exact⟨by omega,λ_ _=>by omega,p⟩)⟩;rw[J,u];rfl
  ·cases d
def orK (K1 K2:KF):KF:=λf vs k h=>match K1 f vs k h with
 | some q=>some q
 | none=>K2 f vs k h
theorem Zctm {b c:KF} (d:KS P G b) (g:KS P G c):KS P G (orK b c):=by
 intro f l k h v j e a;unfold orK at a;split at a
 ·rename_i q i;cases a;exact d _ _ _ _ _ _ _ i
 ·exact g _ _ _ _ _ _ _ a
