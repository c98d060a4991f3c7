import Derived.Test.YtokogjhcidkckaaGreatDoorMaf
namespace Go.Proofs.YtokogjhcidkckaaGreatDoor.Exe
open Go
variable {P:Program} {G:Nat} {r:Ren} {h:Hp} {w:World}
def memB:List Nat->Nat->Bool
 | [],_=>false
 | x::xs,n=>bif Nat.beq x n then true else memB xs n
def CO.setRo (b:Bool):CO->CO
 | .cells cs t hi _=> .cells cs t hi b
 | .map es k _=> .map es k b
 | .loop a c d e f g _=> .loop a c d e f g b
theorem Zcvd (b:Bool) (o:CO):(o.setRo b).ro=b:=by cases o<;>rfl
theorem Zcvc {Z:TypeId->Nat} {n:Nat} {e:Ent} {o:CO} {o':Obj} (b:Bool):ObjR Z r n e (o.setRo b) o'↔ObjR Z r n e o o':=by cases o<;>cases o'<;>exact Iff.rfl
def roMap (b:Bool) (ns:List Nat):Hp->Hp
 | []=>[]
 | (k,o)::h=>(k,bif memB ns k then o.setRo b else o)::roMap b ns h
theorem Zcsa (b:Bool) (ns:List Nat) (h:Hp) (n:Nat):look (roMap b ns h) n=(look h n).map λo=>bif memB ns n then o.setRo b else o:=by
 induction h with
 | nil=>rfl
 | cons p h ih=>
  obtain⟨k,o⟩:=p;simp only[roMap,look]
  cases hk:Nat.beq k n with
  | true=>obtain rfl:=Zcnc.1 hk;rfl
  | false=>exact ih
theorem Zcsb {b:Bool} {ns:List Nat} {n:Nat} {o:CO} (hl:look (roMap b ns h) n=some o):∃o0,look h n=some o0/\o=bif memB ns n then o0.setRo b else o0:=by
 rw[Zcsa]at hl
 cases h0:look h n with
 | none=>rw[h0]at hl;cases hl
 | some o0=>rw[h0]at hl;cases hl;exact⟨o0,rfl,rfl⟩
theorem Rep.roMap {N:Nat->Prop} {Z:TypeId->Nat} (hR:Rep N Z G r h w) (b:Bool) (ns:List Nat):Rep N Z G r (roMap b ns h) w:=by
 refine⟨λn o hl=>?_,λn m o p en em a b c d e=>?_,hR.low,hR.new,hR.glo⟩
 ·obtain⟨o0,h1,rfl⟩:=Zcsb hl
  obtain⟨e,he,o',ho',hO⟩:=hR.obj n o0 h1;refine⟨e,he,o',ho',?_⟩
  cases memB ns n with
  | true=>exact(Zcvc b).2 hO
  | false=>exact hO
 ·obtain⟨o0,h1,_⟩:=Zcsb a
  obtain⟨p0,h2,_⟩:=Zcsb b;exact hR.inj n m o0 p0 en em h1 h2 c d e
def Zcqp (h:Hp):List Nat->List Nat
 | []=>[]
 | n::ns=>match look h n with
  | some o=>bif o.ro then Zcqp h ns else n::Zcqp h ns
  | none=>Zcqp h ns
def Zcmo (h:Hp):List Nat->Bool
 | []=>true
 | n::ns=>match look h n with
  | some _=>Zcmo h ns
  | none=>false
theorem Zcso {ns:List Nat} {n:Nat}:memB ns n=true↔n∈ns:=by
 induction ns with
 | nil=>simp[memB]
 | cons x xs ih=>
  simp only[memB]
  cases hx:Nat.beq x n with
  | true=>simp[Zcnc.1 hx]
  | false=>have:=Zcnd.1 hx;simp[ih,Ne.symm this]
theorem Zcqq {ns:List Nat} {n:Nat}:n∈Zcqp h ns↔n∈ns/\∃o,look h n=some o/\o.ro=false:=by
 induction ns with
 | nil=>simp[Zcqp]
 | cons x xs ih=>
  simp only[Zcqp];split
  ·rename_i o ho
   cases hr:o.ro with
   | true=>
    simp only[cond_true,ih,List.mem_cons];constructor
    ·rintro⟨a,b⟩;exact⟨.inr a,b⟩
    ·rintro⟨rfl|a,o',b,c⟩
     ·rw[ho]at b;cases b;rw[hr]at c;cases c
     ·exact⟨a,o',b,c⟩
   | false=>
    simp only[cond_false,List.mem_cons,ih];constructor
    ·rintro(rfl|⟨a,b⟩)
     ·exact⟨.inl rfl,o,ho,hr⟩
     ·exact⟨.inr a,b⟩
    ·rintro⟨rfl|a,b⟩
     ·exact .inl rfl
     ·exact .inr ⟨a,b⟩
  ·rename_i ho
   rw[ih];constructor
   ·rintro⟨a,b⟩;exact⟨List.mem_cons_of_mem _ a,b⟩
   ·rintro⟨a,o',b,c⟩
    simp only[List.mem_cons]at a
    rcases a with rfl|a
    ·rw[ho]at b;cases b
    ·exact⟨a,o',b,c⟩
theorem Zcmp {ns:List Nat} (hl:Zcmo h ns=true):∀n∈ns,∃o,look h n=some o:=by
 induction ns with
 | nil=>intro n hn;cases hn
 | cons x xs ih=>
  intro n hn;simp only[Zcmo]at hl;split at hl
  ·rename_i o ho
   simp only[List.mem_cons]at hn
   rcases hn with rfl|hn
   ·exact⟨o,ho⟩
   ·exact ih hl n hn
  ·cases hl
def opRO (P:Program) (G:Nat) (K:KF) (ops:Array Oper) (o:Oper) (ns:List Nat) (s:St):Option St:=
 match Zcqp s.h ns with
 | []=>bif Zcmo s.h ns then opX P G K ops o s else none
 | fs=>bif Zcmo s.h ns then match opX P G K ops o ⟨s.e,s.k,roMap true fs s.h⟩with
  | some s1=>some ⟨s1.e,s1.k,roMap false fs s1.h⟩
  | none=>none else none
theorem Zctk {F:Fence} (hF:FF F) {K:KF} (hK:KS P G K) {ops:Array Oper} {o:Oper} {i:Nat} (hi:ops[i]? =some o) (hd:∀c,o.op≠.defer c) {ns:List Nat} {s s1:St} {a:Act} (hS:SR P G r s a w) (hc:opRO P G K ops o ns s=some s1) {Q:Exit->Act->World->Prop}:
  wpOpIn F 0 P ops Q i (λa1 w1=>(∀n∈ns,∀e,r n=some e->w1.heap[e.b]? =w.heap[e.b]?)/\a1.defers=a.defers/\∃r1,Nx r s.h w r1 s1.h w1/\SR P G r1 s1 a1 w1) a w:=by
 unfold opRO at hc;have hkeep:∀ {h':Hp} {r1:Ren} {h1:Hp} {w1:World},(∀n∈ns,∃o,look h' n=some o/\o.ro=true)->(∀n m o p en em,look h' n=some o->look h' m=some p->r n=some en->r m=some em->en.b=em.b->n=m)->Nx r h' w r1 h1 w1->
   ∀n∈ns,∀e,r n=some e->w1.heap[e.b]? =w.heap[e.b]?:=by
  intro h' r1 h1 w1 hro hinj hN n hn e he;refine hN.frame _ (hS.1.low _ _ he) ?_;rintro⟨m,p,em,hm,hp,hem,hb⟩;obtain⟨o0,ho0,hr0⟩:=hro n hn;have:=hinj m n p o0 em e hm ho0 hem he hb;subst this;rw[hm]at ho0;cases ho0;rw[hp]at hr0;cases hr0
 split at hc
 ·rename_i hf
  cases hl:Zcmo s.h ns with
  | false=>rw[hl]at hc;cases hc
  | true=>
   rw[hl]at hc;refine wpOpIn_mono ?_ (Zctl hF hK hi hd hS hc);rintro a1 w1 ⟨q1,r1,q2,q3⟩;refine⟨hkeep (λn hn=>?_) hS.1.inj q2,q1,r1,q2,q3⟩;obtain⟨o0,ho0⟩:=Zcmp hl n hn
   cases hr0:o0.ro with
   | true=>exact⟨o0,ho0,hr0⟩
   | false=>
    have:n∈Zcqp s.h ns:=Zcqq.2 ⟨hn,o0,ho0,hr0⟩;rw[hf]at this;cases this
 ·rename_i fs hne
  obtain⟨gs,hgs⟩:∃gs,gs=Zcqp s.h ns:=⟨_,rfl⟩
  cases hl:Zcmo s.h ns with
  | false=>rw[hl]at hc;cases hc
  | true=>
   rw[hl]at hc;simp only[cond_true]at hc;rw[<-hgs]at hc;split at hc
   case h_2=>cases hc
   rename_i s2 h2
   cases hc
   have hS2:SR P G r ⟨s.e,s.k,roMap true gs s.h⟩ a w:=⟨hS.1.roMap true gs,hS.2⟩;refine wpOpIn_mono ?_ (Zctl hF hK hi hd hS2 h2);rintro a1 w1 ⟨q1,r1,q2,q3⟩;have hOwn:∀b,Own r (roMap true gs s.h) b->Own r s.h b:=by
    rintro b ⟨n,o0,e,a1,a2,a3,a4⟩;obtain⟨o1,h1,rfl⟩:=Zcsb a1
    cases hm:memB gs n with
    | true=>rw[hm]at a2;simp only[cond_true]at a2;rw[Zcvd]at a2;cases a2
    | false=>rw[hm]at a2;exact⟨n,o1,e,h1,a2,a3,a4⟩
   refine⟨hkeep (λn hn=>?_) hS2.1.inj q2,q1,r1,⟨q2.ext,q2.size,λb hb hno=>q2.frame b hb (λk=>hno (hOwn b k)),λb hb hO=>?_,λb hb hO=>?_,q2.os,q2.tape,q2.output⟩,q3.1.roMap false gs,q3.2⟩
   ·obtain⟨o0,ho0⟩:=Zcmp hl n hn
    rw[Zcsa,ho0]
    cases hr0:o0.ro with
    | true=>
     refine⟨_,rfl,?_⟩
     cases memB gs n with
     | true=>exact Zcvd _ _
     | false=>exact hr0
    | false=>
     have:n∈gs:=by rw[hgs];exact Zcqq.2 ⟨hn,o0,ho0,hr0⟩
     refine⟨_,rfl,?_⟩;rw[Zcso.2 this];exact Zcvd _ _
   ·obtain⟨n,o0,e,a1',a2,a3,a4⟩:=hO
    obtain⟨o1,h1,rfl⟩:=Zcsb a1'
    cases hm:memB gs n with
    | true=>
     have:=Zcso.1 hm;rw[hgs]at this;obtain⟨_,o3,h3,h4⟩:=Zcqq.1 this;obtain⟨e',he',_⟩:=hS.1.obj n o3 h3;have:=q2.ext _ _ he';rw[a3]at this;cases this;exact⟨n,o3,e,h3,h4,he',a4⟩
    | false=>
     rw[hm]at a2;exact hOwn b (q2.own b hb ⟨n,o1,e,h1,a2,a3,a4⟩)
   ·have hL:∀ {r:Ren} {h:Hp} {z:Bool},Live r (roMap z gs h) b->Live r h b:=by
     rintro r h z ⟨n,o,e,a1,a2,a3⟩;obtain⟨o1,h1,_⟩:=Zcsb a1;exact⟨n,o1,e,h1,a2,a3⟩
    exact hL (q2.live b hb (hL hO))
def Zcvs (P:Program) (G:Nat) (ops:Array Oper) (s:St) (o:Oper):Option (Option Nat×Value):=
 bif Zcvx ops s.e.t o then Zcty P s.h (evC G s.e.t) o.op else some (none,undef)
def Zcjs (ops:Array Oper) (l:Array Bool):List Nat->Option Nat
 | []=>none
 | i::is=>match ops[i]? with
  | some o=>match Zcro o.op with
   | 0=>bif Region.free .any ops l i then some i else Zcjs ops l is
   | _=>Zcjs ops l is
  | none=>none
def oneB:List Nat->Nat->Bool
 | [x],j=>Nat.beq x j
 | _,_=>false
theorem Zdfm {l:List Nat} {j:Nat} (h:oneB l j=true):l = [j]:=by
 unfold oneB at h;split at h
 ·rw[Zcnc.1 h]
 ·cases h
def Zczu (ops:Array Oper) (l:Array Bool) (i j:Nat):Bool:=match ops[i]?,ops[j]? with
 | some oi,some oj=>(match oi.op with | .alloc _=>true | .buildSlice .. =>true|_=>false)&&oi.apart ops oj&&oneB (Region.ready .any ops (l.setIfInBounds i true)) j
 | _,_=>false
def sch (ops:Array Oper):Nat->Option Nat->Array Bool->Option (List (Nat×Nat))
 | 0,none,l=>match Region.ready .any ops l with
  | []=>some []
  | _=>none
 | 0,some _,_=>none
 | f+1,none,l=>match Region.ready .any ops l with
  | []=>some []
  | rs=>match Zcjs ops l rs with
   | some i=>match sch ops f none (l.setIfInBounds i true)with
    | some q=>some ((i,0)::q)
    | none=>none
   | none=>match rs with
    | [j]=>match sch ops f none (l.setIfInBounds j true)with
     | some q=>some ((j,1)::q)
     | none=>none
    | [x,y]=>bif Nat.beq x y then none else bif Zczu ops l x y then match sch ops f (some x) (l.setIfInBounds y true)with
      | some q=>some ((y,x+3)::q)
      | none=>none
     else bif Zczu ops l y x then match sch ops f (some y) (l.setIfInBounds x true)with
      | some q=>some ((x,y+3)::q)
      | none=>none
     else none
    | _=>none
 | f+1,some i,l=>match Region.ready .any ops l with
  | [x]=>bif Nat.beq x i then match sch ops f none (l.setIfInBounds i true)with
    | some q=>some ((i,2)::q)
    | none=>none
   else none
  | [x,y]=>bif Nat.beq x i then bif Zczu ops l i y then match sch ops f (some i) (l.setIfInBounds y true)with
      | some q=>some ((y,i+3)::q)
      | none=>none
     else none
    else bif Nat.beq y i then bif Zczu ops l i x then match sch ops f (some i) (l.setIfInBounds x true)with
      | some q=>some ((x,i+3)::q)
      | none=>none
     else none
    else none
  | _=>none
theorem Zcts {ops:Array Oper} {l:Array Bool}:∀ {is:List Nat} {i},Zcjs ops l is=some i->i∈is/\Region.free .any ops l i=true:=by
 intro is
 induction is with
 | nil=>intro i hc;cases hc
 | cons j is ih=>
  intro i hc;simp only[Zcjs]at hc;split at hc
  ·split at hc
   ·cases hf:Region.free .any ops l j with
    | true=>rw[hf]at hc;cases hc;exact⟨by simp,hf⟩
    | false=>rw[hf]at hc;obtain⟨a,b⟩:=ih hc;exact⟨by simp[a],b⟩
   ·obtain⟨a,b⟩:=ih hc;exact⟨by simp[a],b⟩
  ·cases hc
def Zcml (T:List Nat) (j:Nat):List (Nat×Nat)->List Nat
 | []=>[]
 | (i,n)::g=>bif depB T j i then Zcml T j g else n::Zcml T j g
def actG (T:List Nat) (j:Nat):List (Nat×Nat)->List (Nat×Nat)
 | []=>[]
 | (i,n)::g=>bif depB T j i then actG T j g else(i,n)::actG T j g
def addG (i:Nat):Option Nat->List (Nat×Nat)->List (Nat×Nat)
 | some n,g=>(i,n)::g
 | none,g=>g
def Zczw (P:Program) (G:Nat) (ops:Array Oper) (o:Oper) (s:St):Option St:=
 bif Zcvx ops s.e.t o then match Zczq P s.k (evC G s.e.t) o.op with
  | some (v,c)=>some ⟨s.e.put o.dst v,s.k+1,(2*s.k,c)::s.h⟩
  | none=>none else none
def regS (P:Program) (G:Nat) (K:KF) (ops:Array Oper) (T:List Nat):List (Nat×Nat)->List (Nat×Nat)->St->Option St
 | [],_,s=>some s
 | (i,m)::q,g,s=>match ops[i]? with
  | some o=>match m with
   | 0=>match Zcvs P G ops s o with
    | some (rd,v)=>regS P G K ops T q (addG i rd g) ⟨s.e.put o.dst v,s.k,s.h⟩
    | none=>none
   | 1=>match opRO P G K ops o (Zcml T i g) s with
    | some s1=>regS P G K ops T q (actG T i g) s1
    | none=>none
   | 2=>match Zczw P G ops o s with
    | some s1=>regS P G K ops T q (actG T i g) s1
    | none=>none
   | m+3=>match ops[m]? with
    | some oi=>match Zczw P G ops oi s with
     | some _=>match opRO P G K ops o (Zcml T i g) s with
      | some s1=>regS P G K ops T q (actG T i g) s1
      | none=>none
     | none=>none
    | none=>none
  | none=>none
def GR (r:Ren) (w:World) (g:List (Nat×Nat)) (Gs:Gd):Prop:=∀p∈Gs,p.2 w/\((∀w',p.2 w')∨∃n e,(p.1,n)∈g/\r n=some e/\∀w',w'.heap[e.b]? =w.heap[e.b]? ->p.2 w')
theorem Zcmk {T:List Nat} {j:Nat} {g:List (Nat×Nat)} {p:Nat×Nat}:p∈actG T j g↔p∈g/\depB T j p.1=false:=by
 induction g with
 | nil=>simp[actG]
 | cons q g ih=>
  obtain⟨i,n⟩:=q;simp only[actG]
  cases hd:depB T j i with
  | true=>
   simp only[cond_true,ih,List.mem_cons];constructor
   ·rintro⟨a,b⟩;exact⟨.inr a,b⟩
   ·rintro⟨rfl|a,b⟩
    ·rw[hd]at b;cases b
    ·exact⟨a,b⟩
  | false=>
   simp only[cond_false,List.mem_cons,ih];constructor
   ·rintro(rfl|⟨a,b⟩)
    ·exact⟨.inl rfl,hd⟩
    ·exact⟨.inr a,b⟩
   ·rintro⟨rfl|a,b⟩
    ·exact .inl rfl
    ·exact .inr ⟨a,b⟩
theorem Zcmm {T:List Nat} {j:Nat} {g:List (Nat×Nat)} {i n:Nat} (h1:(i,n)∈g) (h2:depB T j i=false):n∈Zcml T j g:=by
 induction g with
 | nil=>cases h1
 | cons q g ih=>
  obtain⟨i',n'⟩:=q;simp only[Zcml];simp only[List.mem_cons,Prod.mk.injEq]at h1
  rcases h1 with⟨rfl,rfl⟩|h1
  ·rw[h2];simp
  ·cases depB T j i' with
   | true=>exact ih h1
   | false=>exact List.mem_cons_of_mem _ (ih h1)
theorem Zdii (l:Array Bool) (i j:Nat):(l.setIfInBounds i true).setIfInBounds j true=(l.setIfInBounds j true).setIfInBounds i true:=by
 by_cases h:i=j
 ·subst h;rfl
 ·exact Array.setIfInBounds_comm _ _ h
theorem Zdgh {F:Fence} (hF:FF F) {ops:Array Oper} {Q:Exit->Act->World->Prop} {K:Act->World->Prop} {i:Nat} {oi:Oper} {a:Act} {w w':World} {v:Value} (hi:ops[i]? =some oi) (hd:∀c,oi.op≠.defer c) (hw:Region.wanted oi (yielded ops a.tmps)=true)
  (hrun:(execOp a.eval oi).run P w = .ok (.value v) w') (h:K (a.put oi.dst v) w'):wpOpIn F 0 P ops Q i K a w:=by
 unfold Go.wpOpIn;simp only[hi,hw,if_true,Oper.wpIn,Oper.semAt_eq F.round _ oi hd,hrun,Oper.uponIn];exact⟨λf _=>hF.fn f,h⟩
theorem Zczv {ops:Array Oper} {l:Array Bool} {i j:Nat} (h:Zczu ops l i j=true):∃oi oj,ops[i]? =some oi/\ops[j]? =some oj/\oi.apart ops oj=true/\Region.ready .any ops (l.setIfInBounds i true) = [j]:=by
 unfold Zczu at h;split at h
 ·rename_i oi oj hi hj
  simp only[Bool.and_eq_true]at h;exact⟨oi,oj,hi,hj,h.1.2,Zdfm h.2⟩
 ·cases h
theorem Zczy {ops:Array Oper} {o:Oper} {s s1:St} (h:Zczw P G ops o s=some s1):Zcvx ops s.e.t o=true/\∃v c,Zczq P s.k (evC G s.e.t) o.op=some (v,c)/\s1=⟨s.e.put o.dst v,s.k+1,(2*s.k,c)::s.h⟩:=by
 unfold Zczw at h
 cases hw:Zcvx ops s.e.t o with
 | false=>rw[hw]at h;cases h
 | true=>
  rw[hw]at h;simp only[cond_true]at h;split at h
  ·rename_i v c hc;cases h;exact⟨rfl,v,c,hc,rfl⟩
  ·cases h
theorem Zdhc {K:KF} {ops:Array Oper} {T:List Nat} {i:Nat} {q g:List (Nat×Nat)} {s s1:St} (h:regS P G K ops T ((i,0)::q) g s=some s1):∃o,ops[i]? =some o/\∃rd v,Zcvs P G ops s o=some (rd,v)/\regS P G K ops T q (addG i rd g) ⟨s.e.put o.dst v,s.k,s.h⟩=some s1:=by
 simp only[regS]at h;split at h
 case h_2=>cases h
 rename_i o ho
 split at h
 ·rename_i rd v ht;exact⟨o,ho,rd,v,ht,h⟩
 ·cases h
theorem Zdhd {K:KF} {ops:Array Oper} {T:List Nat} {i:Nat} {q g:List (Nat×Nat)} {s s1:St} (h:regS P G K ops T ((i,1)::q) g s=some s1):∃o,ops[i]? =some o/\∃s2,opRO P G K ops o (Zcml T i g) s=some s2/\regS P G K ops T q (actG T i g) s2=some s1:=by
 simp only[regS]at h;split at h
 case h_2=>cases h
 rename_i o ho
 split at h
 ·rename_i s2 ht;exact⟨o,ho,s2,ht,h⟩
 ·cases h
theorem Zdhe {K:KF} {ops:Array Oper} {T:List Nat} {i:Nat} {q g:List (Nat×Nat)} {s s1:St} (h:regS P G K ops T ((i,2)::q) g s=some s1):∃o,ops[i]? =some o/\∃s2,Zczw P G ops o s=some s2/\regS P G K ops T q (actG T i g) s2=some s1:=by
 simp only[regS]at h;split at h
 case h_2=>cases h
 rename_i o ho
 split at h
 ·rename_i s2 ht;exact⟨o,ho,s2,ht,h⟩
 ·cases h
theorem Zdhf {K:KF} {ops:Array Oper} {T:List Nat} {i m:Nat} {q g:List (Nat×Nat)} {s s1:St} (h:regS P G K ops T ((i,m+3)::q) g s=some s1):∃o oi sf,ops[i]? =some o/\ops[m]? =some oi/\Zczw P G ops oi s=some sf/\∃s2,opRO P G K ops o (Zcml T i g) s=some s2/\regS P G K ops T q (actG T i g) s2=some s1:=by
 simp only[regS]at h;split at h
 case h_2=>cases h
 rename_i o ho
 split at h
 case h_2=>cases h
 rename_i oi hoi
 split at h
 case h_2=>cases h
 rename_i sf hsf
 split at h
 ·rename_i s2 ht;exact⟨o,oi,sf,ho,hoi,hsf,s2,ht,h⟩
 ·cases h
theorem Zczx {ops:Array Oper} {oi:Oper} {s sf:St} (h:Zczw P G ops oi s=some sf) {a:Act} (hS:SR P G r s a w):Region.wanted oi (yielded ops a.tmps)=true/\∃v c,Zczq P s.k (evC G s.e.t) oi.op=some (v,c)/\sf=⟨s.e.put oi.dst v,s.k+1,(2*s.k,c)::s.h⟩/\Zcwn P r s.k v c (execOp a.eval oi):=by
 obtain⟨h1,v,c,h2,h3⟩:=Zczy h;have hEv:EvR P r (evC G s.e.t) a.eval:=λx v hv=>Zcpi hS.1 hS.2 hv
 exact⟨by rw[Zcvy hS.2,h1],v,c,h2,h3,Zczr hEv h2⟩
section
variable {F:Fence} {K:KF} {ops:Array Oper} {T:List Nat} {s0:St} {r0:Ren} {w0:World} {ds:List Deferred} {s1:St}
abbrev Rfin (P:Program) (G:Nat) (s0:St) (r0:Ren) (w0:World) (ds:List Deferred) (s1:St):Act->World->Prop:=λa1 w1=>a1.defers=ds/\∃r1,Nx r0 s0.h w0 r1 s1.h w1/\SR P G r1 s1 a1 w1
def PN1 (F:Fence) (P:Program) (G:Nat) (ops:Array Oper) (T:List Nat) (s0:St) (r0:Ren) (w0:World) (ds:List Deferred) (s1:St) (f:Nat) (l:Array Bool) (g:List (Nat×Nat)) (s:St):Prop:=
 ∀(r:Ren) (a:Act) (w:World) (Gs:Gd),Cl ops l->SR P G r s a w->a.defers=ds->Nx r0 s0.h w0 r s.h w->GR r w g Gs->wpG F 0 P ops (Rfin P G s0 r0 w0 ds s1) T f Gs l a w
def PE1 (F:Fence) (P:Program) (G:Nat) (ops:Array Oper) (T:List Nat) (s0:St) (r0:Ren) (w0:World) (ds:List Deferred) (s1:St) (i f:Nat) (l:Array Bool) (g:List (Nat×Nat)) (s:St):Prop:=
 ∀(r:Ren) (a:Act) (w wf:World) (Gs:Gd) (oi:Oper) (S0:Sem Next) (v:Value) (b:Nat) (o':Obj),ops[i]? =some oi->Cl ops (l.setIfInBounds i true)->SR P G r s a w->a.defers=ds->Nx r0 s0.h w0 r s.h w->GR r w g Gs->
  (∀p∈Gs,depB T i p.1=false)->w0.heap.size<=b->b<w.heap.size->¬Live r s.h b->w.heap[b]? =some o'->SE P ops oi S0 a->S0.run P wf = .ok (.value v) (wf.alloc o')->wf.heap.size=b->
  wpG F 0 P ops (Rfin P G s0 r0 w0 ds s1) T f Gs (l.setIfInBounds i true) (a.put oi.dst v) w
theorem put_defers (a:Act) (d:Option Tmp) (v:Value):(a.put d v).defers=a.defers:=by cases d<;>rfl
theorem Zcwz {w:World} {o o':Obj} (h:w.alloc o=w.alloc o'):o=o':=by
 have:(w.alloc o).heap[w.heap.size]? =(w.alloc o').heap[w.heap.size]?:=by rw[h]
 have e1:(w.alloc o).heap[w.heap.size]? =some o:=by show(w.heap.push o)[_]? =_;simp
 have e2:(w.alloc o').heap[w.heap.size]? =some o':=by show(w.heap.push o')[_]? =_;simp
 rw[e1,e2]at this;exact Option.some.inj this
theorem Zdjh (hF:FF F) (hK:KS P G K) (hn:noDS ops=true) {j:Nat} {o:Oper} (ho:ops[j]? =some o) {g:List (Nat×Nat)} {s s2:St} (h2:opRO P G K ops o (Zcml T j g) s=some s2) {r:Ren} {a:Act} {w:World} {Gs:Gd} (hS:SR P G r s a w) (hG:GR r w g Gs) {Q:Exit->Act->World->Prop}:
  wpOpIn F 0 P ops Q j (λa1 w1=>(∀p∈Gs,depB T j p.1=false->p.2 w1)/\a1.defers=a.defers/\∃r1,Nx r s.h w r1 s2.h w1/\SR P G r1 s2 a1 w1/\GR r1 w1 (actG T j g) (Gs.filter λg=> !depB T j g.1)) a w:=by
 refine wpOpIn_mono ?_ (Zctk hF hK ho (Zcsw hn ho).2 hS h2);rintro a1 w1 ⟨q0,q1,r1,q2,q3⟩;have hkeep:∀p∈Gs,depB T j p.1=false->p.2 w1/\((∀w',p.2 w')∨∃n e,(p.1,n)∈g/\r n=some e/\∀w',w'.heap[e.b]? =w1.heap[e.b]? ->p.2 w'):=by
  intro p hp hdp;obtain⟨b1,b2⟩:=hG p hp
  rcases b2 with b2|⟨n,e,c1,c2,c3⟩
  ·exact⟨b2 w1,.inl b2⟩
  ·have:=q0 n (Zcmm c1 hdp) e c2
   exact⟨c3 w1 this,.inr ⟨n,e,c1,c2,λw' hw'=>c3 w' (hw'.trans this)⟩⟩
 refine⟨λp hp hdp=>(hkeep p hp hdp).1,q1,r1,q2,q3,?_⟩;intro p hp;simp only[List.mem_filter,Bool.not_eq_true']at hp;obtain⟨b1,b2⟩:=hkeep p hp.1 hp.2;refine⟨b1,?_⟩
 rcases b2 with b2|⟨n,e,c1,c2,c3⟩
 ·exact .inl b2
 ·exact .inr ⟨n,e,Zcmk.2 ⟨c1,hp.2⟩,q2.ext _ _ c2,c3⟩
theorem GR.alloc {N:Nat->Prop} {Z:TypeId->Nat} {h:Hp} {r:Ren} {w:World} {g:List (Nat×Nat)} {Gs:Gd} (hR:Rep N Z G r h w) (hG:GR r w g Gs) (o:Obj):GR r (w.alloc o) g Gs:=by
 intro p hp;obtain⟨b1,b2⟩:=hG p hp
 rcases b2 with b2|⟨n,e,c1,c2,c3⟩
 ·exact⟨b2 _,.inl b2⟩
 ·have hold:(w.alloc o).heap[e.b]? =w.heap[e.b]?:=by
   have:=hR.low _ _ c2;show(w.heap.push o)[e.b]? =_;rw[Array.getElem?_push,if_neg (by omega)]
  exact⟨c3 _ hold,.inr ⟨n,e,c1,c2,λw' hw'=>c3 w' (hw'.trans hold)⟩⟩
theorem GR.act {r r1:Ren} {w:World} {g:List (Nat×Nat)} {Gs:Gd} {i:Nat} (hG:GR r w g Gs) (hx:Ext r r1) (hd:∀p∈Gs,depB T i p.1=false):GR r1 w (actG T i g) Gs:=by
 intro p hp;obtain⟨b1,b2⟩:=hG p hp;refine⟨b1,?_⟩
 rcases b2 with b2|⟨n,e,c1,c2,c3⟩
 ·exact .inl b2
 ·exact .inr ⟨n,e,Zcmk.2 ⟨c1,hd p hp⟩,hx _ _ c2,c3⟩
theorem GR.less {r:Ren} {w:World} {g:List (Nat×Nat)} {Gs:Gd} (hG:GR r w g Gs) (q:Nat×(World->Prop)->Bool):GR r w g (Gs.filter q):=λp hp=>hG p (List.mem_filter.1 hp).1
theorem Zczz (hF:FF F) (hK:KS P G K) (hn:noDS ops=true) {f:Nat} (ih:∀(p:Option Nat) (l:Array Bool) (q:List (Nat×Nat)) (g:List (Nat×Nat)) (s:St),sch ops f p l=some q->regS P G K ops T q g s=some s1->
   (∀i,p=some i->∀f',f=f'+1->PE1 F P G ops T s0 r0 w0 ds s1 i f' l g s)/\PN1 F P G ops T s0 r0 w0 ds s1 f l g s)
  {i:Nat} {l:Array Bool} {q:List (Nat×Nat)} {g:List (Nat×Nat)} {s:St} (hs:sch ops (f+1) (some i) l=some q) (hc:regS P G K ops T q g s=some s1):
  PE1 F P G ops T s0 r0 w0 ds s1 i f l g s/\PN1 F P G ops T s0 r0 w0 ds s1 (f+1) l g s:=by
 have pair:∀j q',(Region.ready .any ops l = [i,j]∨Region.ready .any ops l = [j,i])->Zczu ops l i j=true->sch ops f (some i) (l.setIfInBounds j true)=some q'->q=(j,i+3)::q'->
   PE1 F P G ops T s0 r0 w0 ds s1 i f l g s/\PN1 F P G ops T s0 r0 w0 ds s1 (f+1) l g s:=by
  rintro j q' hrd hfo hq' rfl;obtain⟨oi0,oj,hi0,hj0,hap,hri⟩:=Zczv hfo;obtain⟨o,oi1,sf,ho,hi1,hsf,s2,h2,hc2⟩:=Zdhf hc;obtain rfl:oi0=oi1:=by rw[hi0]at hi1;exact Option.some.inj hi1
  obtain rfl:oj=o:=by rw[hj0]at ho;exact Option.some.inj ho
  obtain⟨ihE,ihN⟩:=ih _ _ _ _ _ hq' hc2;obtain⟨f',rfl⟩:∃f',f=f'+1:=by
   cases f with
   | zero=>simp[sch]at hq'
   | succ f'=>exact⟨f',rfl⟩
  have hE:PE1 F P G ops T s0 r0 w0 ds s1 i (f'+1) l g s:=by
   intro r a w wf Gs oi S0 v b o' hi hcl hS hd hN hG hGi hb0 hb1 hno hob hSE hrun hwf;obtain rfl:oi0=oi:=by rw[hi0]at hi;exact Option.some.inj hi
   refine Zcwc hri ?_;refine Zdjy hF.fn hj0 hap (Zcsw hn hi).1 (Zcsw hn hj0).1 (Zcsw hn hj0).2 hSE ?_;refine wpOpIn_mono ?_ (Zdjh hF hK hn hj0 h2 hS hG);rintro a1 w1 ⟨q1,q2,r1,q3,q4,q5⟩ hSE1;refine⟨q1,?_⟩;rw[Zdii];have hjr:j∈Region.ready .any ops (l.setIfInBounds i true):=by rw[hri];simp
   have hcl2:Cl ops ((l.setIfInBounds j true).setIfInBounds i true):=by rw[Zdii];exact hcl.set hjr
   refine ihE i rfl f' rfl r1 a1 w1 wf _ oi0 S0 v b o' hi hcl2 q4 (q2.trans hd) (hN.trans q3) q5 (λp hp=>hGi p (List.mem_filter.1 hp).1) hb0 (Nat.lt_of_lt_of_le hb1 q3.size) (λk=>hno (q3.live b hb1 k)) ?_ hSE1 hrun hwf;rw[q3.frame b hb1 (λk=>hno k.live)];exact hob
  refine⟨hE,?_⟩;intro r a w Gs hcl hS hd hN hG;refine⟨λe=>?_,λk hk=>?_⟩
  ·rcases hrd with hrd|hrd<;>rw[hrd]at e<;>cases e
  ·have hir:i∈Region.ready .any ops l:=by rcases hrd with hrd|hrd<;>rw[hrd]<;>simp
   have hjr:j∈Region.ready .any ops l:=by rcases hrd with hrd|hrd<;>rw[hrd]<;>simp
   have hk2:k=i∨k=j:=by rcases hrd with hrd|hrd<;>rw[hrd]at hk<;>simp at hk<;>omega
   rcases hk2 with rfl|rfl
   ·
    obtain⟨hw,_,_,_,_,S,t,o',val,_,_,hrun⟩:=Zczx hsf hS;refine Zdgh hF hi0 (Zcsw hn hi0).2 hw (hrun w) ⟨λp hp _=>((hG.alloc hS.1 o') p hp).1,?_⟩;have hS':SR P G r s a (w.alloc o'):=⟨(hS.1.bump o').1,hS.2⟩;exact hE r a (w.alloc o') w _ oi0 _ _ w.heap.size o' hi0 (hcl.set hir) hS' hd (hN.trans (hS.1.bump o').2) ((hG.alloc hS.1 o').less _) (λp hp=>by simpa using(List.mem_filter.1 hp).2) hN.size (by show _<(w.heap.push o').size;simp)
     (λ⟨n,p,e,_,he,hb⟩=>by have:=hS.1.low n e he;omega) (World.alloc_heap_new w o') ⟨rfl,hw⟩ (hrun w) rfl
   ·refine wpOpIn_mono ?_ (Zdjh hF hK hn hj0 h2 hS hG)
    rintro a1 w1 ⟨q1,q2,r1,q3,q4,q5⟩;exact⟨q1,ihN r1 a1 w1 _ (hcl.set hjr) q4 (q2.trans hd) (hN.trans q3) q5⟩
 have alone:∀q',Region.ready .any ops l = [i]->sch ops f none (l.setIfInBounds i true)=some q'->q=(i,2)::q'->
   PE1 F P G ops T s0 r0 w0 ds s1 i f l g s/\PN1 F P G ops T s0 r0 w0 ds s1 (f+1) l g s:=by
  rintro q' hrd hq' rfl;obtain⟨oi0,hi0,s2,h2,hc2⟩:=Zdhe hc;obtain⟨_,ihN⟩:=ih _ _ _ _ _ hq' hc2;constructor
  ·intro r a w wf Gs oi S0 v b o' hi hcl hS hd hN hG hGi hb0 hb1 hno hob hSE hrun hwf
   obtain rfl:oi0=oi:=by rw[hi0]at hi;exact Option.some.inj hi
   obtain⟨_,vn,c,_,rfl,S,t,o2,val,hO,hV,hrun2⟩:=Zczx h2 hS;have e:=hrun2 wf;rw[hSE.1,hrun]at e;injection e with e1 e2
   injection e1 with e1
   obtain rfl:=Zcwz e2;subst e1;rw[hwf];have hRn:=hS.1.name (nm:=2*s.k) (by omega) (by omega) hb1 hno hob (hO b);have hNn:=Nx.name hS.1 hN (nm:=2*s.k) (S:=S) (t:=t) (o:=c) (Nat.le_refl _) hb0;have hx:Ext r (set1 r (2*s.k) ⟨b,0,S,t⟩):=Zcuy hS.1 (n:=2*s.k) (Nat.le_refl _) _;exact ihN _ _ w Gs hcl ⟨hRn,(hS.2.mono hx).put (hV b) _⟩ ((put_defers _ _ _).trans hd) hNn (hG.act hx hGi)
  ·intro r a w Gs hcl hS hd hN hG
   obtain⟨hw,vn,c,_,rfl,S,t,o2,val,hO,hV,hrun⟩:=Zczx h2 hS;refine Zcwc hrd ?_;refine Zdgh hF hi0 (Zcsw hn hi0).2 hw (hrun w) ⟨λp hp _=>((hG.alloc hS.1 o2) p hp).1,?_⟩;obtain⟨y1,y2⟩:=hS.1.alloc (nm:=2*s.k) (by omega) (by omega) (hO w.heap.size);have hir:i∈Region.ready .any ops l:=by rw[hrd];simp
   refine ihN _ _ _ _ (hcl.set hir) ⟨y1,(hS.2.mono y2.ext).put (hV w.heap.size) _⟩ ((put_defers _ _ _).trans hd) (hN.trans y2) ?_;exact((hG.alloc hS.1 o2).less _).act y2.ext (λp hp=>by simpa using(List.mem_filter.1 hp).2)
 simp only[sch]at hs;split at hs
 ·rename_i x hrd
  cases hx:Nat.beq x i with
  | false=>rw[hx]at hs;cases hs
  | true=>
   rw[hx]at hs;obtain rfl:=Zcnc.1 hx;simp only[cond_true]at hs;split at hs
   case h_2=>cases hs
   rename_i q' hq'
   cases hs
   exact alone q' hrd hq' rfl
 ·rename_i x y hrd
  cases hx:Nat.beq x i with
  | true=>
   rw[hx]at hs;obtain rfl:=Zcnc.1 hx;simp only[cond_true]at hs
   cases hfo:Zczu ops l x y with
   | false=>rw[hfo]at hs;cases hs
   | true=>
    rw[hfo]at hs;simp only[cond_true]at hs;split at hs
    case h_2=>cases hs
    rename_i q' hq'
    cases hs
    exact pair y q' (.inl hrd) hfo hq' rfl
  | false=>
   rw[hx]at hs;simp only[cond_false]at hs
   cases hy:Nat.beq y i with
   | false=>rw[hy]at hs;cases hs
   | true=>
    rw[hy]at hs;obtain rfl:=Zcnc.1 hy;simp only[cond_true]at hs
    cases hfo:Zczu ops l y x with
    | false=>rw[hfo]at hs;cases hs
    | true=>
     rw[hfo]at hs;simp only[cond_true]at hs;split at hs
     case h_2=>cases hs
     rename_i q' hq'
     cases hs
     exact pair x q' (.inr hrd) hfo hq' rfl
 ·cases hs
theorem Zdhg (hF:FF F) (hK:KS P G K) (hn:noDS ops=true) (hT:okT ops T=true):∀(f:Nat) (p:Option Nat) (l:Array Bool) (q:List (Nat×Nat)) (g:List (Nat×Nat)) (s:St),sch ops f p l=some q->regS P G K ops T q g s=some s1->
   (∀i,p=some i->∀f',f=f'+1->PE1 F P G ops T s0 r0 w0 ds s1 i f' l g s)/\PN1 F P G ops T s0 r0 w0 ds s1 f l g s:=by
 intro f
 induction f with
 | zero=>
  intro p l q g s hs hc;refine⟨λi _ f' e=>(by cases e),?_⟩;intro r a w Gs hcl hS hd hN hG
  cases p with
  | some i=>simp[sch]at hs
  | none=>
   simp only[sch]at hs;split at hs
   ·rename_i hr;cases hs;cases hc;exact Zcwa hr ⟨hd,r,hN,hS⟩
   ·cases hs
 | succ f ih=>
  intro p l q g s hs hc
  cases p with
  | some i=>
   obtain⟨h1,h2⟩:=Zczz hF hK hn ih hs hc;exact⟨λi' e f' e'=>by cases e;cases e';exact h1,h2⟩
  | none=>
   refine⟨λi e=>(by cases e),?_⟩;have hs0:=hs;simp only[sch]at hs;split at hs
   ·rename_i hr;cases hs;cases hc;intro r a w Gs hcl hS hd hN hG;exact Zcwa hr ⟨hd,r,hN,hS⟩
   ·rename_i rs hne
    obtain⟨R,hR⟩:∃R,R=Region.ready .any ops l:=⟨_,rfl⟩;rw[<-hR]at hs;split at hs
    ·rename_i i hfx
     split at hs
     case h_2=>cases hs
     rename_i q' hq'
     cases hs
     intro r a w Gs hcl hS hd hN hG;obtain⟨o,ho,rd,v,ht,hc2⟩:=Zdhc hc;obtain⟨hm,hfree⟩:=Zcts hfx;have hEv:EvR P r (evC G s.e.t) a.eval:=λx v hv=>Zcpi hS.1 hS.2 hv
     have key:∃v',ValR (Zp P) r v v'/\YF P ops (λw1=>∀n e,rd=some n->r n=some e->w1.heap[e.b]? =w.heap[e.b]?) o v' a:=by
      unfold Zcvs at ht
      cases hw:Zcvx ops s.e.t o with
      | false=>
       rw[hw]at ht;cases ht;exact⟨undef,.undef,.inr ⟨by rw[Zcvy hS.2,hw],rfl⟩⟩
      | true=>
       rw[hw]at ht;obtain⟨v',hv,hrun⟩:=Zctz hS.1 hEv ht;exact⟨v',hv,.inl ⟨by rw[Zcvy hS.2,hw],hrun⟩⟩
     obtain⟨v',hv,hY⟩:=key;rw[hR]at hm;refine Zcwd hF.fn hn hT ho f Gs l a w hcl (Region.free_spec ho hfree) hm hY (λ_ _ _ _=>rfl) (λp hp=>(hG p hp).1) ?_;refine(ih _ _ _ _ _ hq' hc2).2 r _ w _ (hcl.set hm) ⟨hS.1,hS.2.put hv o.dst⟩ ((put_defers _ _ _).trans hd) hN ?_;intro p hp;simp only[List.mem_cons]at hp
     rcases hp with rfl|hp
     ·refine⟨λ_ _ _ _=>rfl,?_⟩
      cases rd with
      | none=>exact .inl (λw' n e hx=>by cases hx)
      | some n=>
       by_cases hx:∃e,r n=some e
       ·obtain⟨e,he⟩:=hx
        refine .inr ⟨n,e,by simp[addG],he,λw' hw' m e' hm' he'=>?_⟩
        cases hm'
        rw[he]at he';cases he';exact hw'
       ·exact .inl (λw' m e hm' he'=>by cases hm';exact absurd ⟨e,he'⟩ hx)
     ·obtain⟨q1,q2⟩:=hG p hp
      refine⟨q1,?_⟩
      rcases q2 with q2|⟨n,e,a1,a2,a3⟩
      ·exact .inl q2
      ·refine .inr ⟨n,e,?_,a2,a3⟩
       cases rd with
       | none=>exact a1
       | some m=>exact List.mem_cons_of_mem _ a1
    ·split at hs
     ·rename_i j hfn
      split at hs
      case h_2=>cases hs
      rename_i q' hq'
      cases hs
      intro r a w Gs hcl hS hd hN hG;obtain⟨o,ho,s2,h2,hc2⟩:=Zdhd hc;refine Zcwc hR.symm ?_;refine wpOpIn_mono ?_ (Zdjh hF hK hn ho h2 hS hG);rintro a1 w1 ⟨q1,q2,r1,q3,q4,q5⟩;have hj:j∈Region.ready .any ops l:=by rw[<-hR];simp
      exact⟨q1,(ih _ _ _ _ _ hq' hc2).2 r1 a1 w1 _ (hcl.set hj) q4 (q2.trans hd) (hN.trans q3) q5⟩
     ·rename_i x y hfn
      have fin:∀i,sch ops (f+1) (some i) l=some q->PN1 F P G ops T s0 r0 w0 ds s1 (f+1) l g s:=λi hi=>(Zczz hF hK hn ih hi hc).2
      cases hxy:Nat.beq x y with
      | true=>rw[hxy]at hs;cases hs
      | false=>
       rw[hxy]at hs;simp only[cond_false]at hs
       cases hfo:Zczu ops l x y with
       | true=>
        rw[hfo]at hs;simp only[cond_true]at hs;refine fin x ?_;simp only[sch,<-hR,Nat.beq_refl,cond_true,hfo,hs]
       | false=>
        rw[hfo]at hs;simp only[cond_false]at hs
        cases hfo2:Zczu ops l y x with
        | false=>rw[hfo2]at hs;cases hs
        | true=>
         rw[hfo2]at hs;simp only[cond_true]at hs;refine fin y ?_;simp only[sch,<-hR,hxy,cond_false,Nat.beq_refl,cond_true,hfo2,hs]
     ·cases hs
end
end Go.Proofs.YtokogjhcidkckaaGreatDoor.Exe
