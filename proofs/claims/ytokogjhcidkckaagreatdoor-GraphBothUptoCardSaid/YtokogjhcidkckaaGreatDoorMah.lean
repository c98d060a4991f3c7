import Derived.Test.YtokogjhcidkckaaGreatDoorMag
namespace Go.Proofs.YtokogjhcidkckaaGreatDoor.Exe
open Go
variable {P:Program} {G:Nat} {r:Ren} {h:Hp} {w:World}
def bit (m i:Nat):Bool:=Nat.beq (Nat.land (Nat.shiftRight m i) 1) 1
theorem Zcxk (m i:Nat):bit m i=m.testBit i:=by
 unfold bit;have e:Nat.land (Nat.shiftRight m i) 1=(m >>> i) % 2:=Nat.and_one_is_mod _;rw[e,Nat.testBit_eq_decide_div_mod_eq,Nat.shiftRight_eq_div_pow];rw[Bool.eq_iff_iff,Zcnc,decide_eq_true_eq]
def one (i:Nat):Nat:=Nat.shiftLeft 1 i
theorem Zdfo (i j:Nat):(one i).testBit j=decide (i=j):=by
 have:one i=2^i:=by unfold one;exact Nat.one_shiftLeft i
 rw[this,Nat.testBit_two_pow]
def sub (a m:Nat):Bool:=Nat.beq (Nat.land a m) a
theorem Zdjl {a m:Nat}:sub a m=true↔∀k,a.testBit k=true->m.testBit k=true:=by
 unfold sub;rw[Zcnc];constructor
 ·intro hs k hk
  have:(a &&& m).testBit k=a.testBit k:=by
   have e:a &&& m=a:=hs;rw[e]
  rw[Nat.testBit_and,hk]at this;simpa using this
 ·intro hs
  show a &&& m=a;apply Nat.eq_of_testBit_eq;intro k;rw[Nat.testBit_and]
  cases hk:a.testBit k with
  | false=>rfl
  | true=>rw[hs k hk];rfl
def edgM:List Edge->Nat
 | []=>0
 | e::es=>bif Region.binds .any e then Nat.lor (one e.on) (edgM es)else edgM es
theorem Zcyi:∀ {es:List Edge} {k:Nat},(edgM es).testBit k=true↔∃e∈es,Region.binds .any e=true/\e.on=k
 | [],k=>by simp[edgM]
 | e::es,k=>by
  simp only[edgM]
  cases hb:Region.binds .any e with
  | false=>
   simp only[cond_false,Zcyi,List.mem_cons];constructor
   ·rintro⟨x,hx,h⟩;exact⟨x,.inr hx,h⟩
   ·rintro⟨x,rfl|hx,h1,h2⟩
    ·rw[hb]at h1;cases h1
    ·exact⟨x,hx,h1,h2⟩
  | true=>
   have e0:Nat.lor (one e.on) (edgM es)=one e.on ||| edgM es:=rfl
   simp only[cond_true,e0,Nat.testBit_or,Bool.or_eq_true,Zdfo,decide_eq_true_eq,Zcyi,List.mem_cons];constructor
   ·rintro(hk|⟨x,hx,h⟩)
    ·exact⟨e,.inl rfl,hb,hk⟩
    ·exact⟨x,.inr hx,h⟩
   ·rintro⟨x,rfl|hx,h1,h2⟩
    ·exact .inl h2
    ·exact .inr ⟨x,hx,h1,h2⟩
def oprM:List Operand->Nat
 | []=>0
 | .tmp t::xs=>Nat.lor (one t) (oprM xs)
 | _::xs=>oprM xs
theorem Zdfp:∀ {xs:List Operand} {k:Nat},(oprM xs).testBit k=true↔k∈xs.filterMap fun | .tmp t=>some t|_=>none
 | [],k=>by simp[oprM]
 | x::xs,k=>by
  cases x with
  | tmp t=>
   have e0:oprM (.tmp t::xs)=one t ||| oprM xs:=rfl
   rw[e0,Nat.testBit_or,Bool.or_eq_true,Zdfo,decide_eq_true_eq,Zdfp];simp[eq_comm]
  | _=>simp only[oprM];rw[Zdfp];simp
def grdM (ops:Array Oper) (o:Oper):Nat:=match o.guard with
 | some (g,_)=>match (ops[g]?).bind (·.dst)with
  | some d=>one d
  | none=>0
 | none=>0
def Zddg (ops:Array Oper) (o:Oper):Nat:=Nat.lor (oprM o.op.operands.toList) (grdM ops o)
theorem Zddh {ops:Array Oper} {o:Oper} {k:Nat}:(Zddg ops o).testBit k=true↔k∈o.looksAt ops:=by
 have e0:Zddg ops o=oprM o.op.operands.toList ||| grdM ops o:=rfl
 rw[e0,Nat.testBit_or,Bool.or_eq_true,Zdfp];unfold Oper.looksAt;rw[List.mem_append];refine or_congr Iff.rfl ?_;unfold grdM
 cases hg:o.guard with
 | none=>simp
 | some p=>
  obtain⟨g,b⟩:=p
  dsimp only
  cases (ops[g]?).bind (·.dst)with
  | none=>simp
  | some d=>simp only[Zdfo,decide_eq_true_eq,Option.toList_some,List.mem_singleton];exact eq_comm
structure PI where
 w:Nat
 k:Nat
 d:Nat
 lk:Nat
 fl:Bool
def dstN:Option Tmp->Nat
 | none=>0
 | some d=>d+1
def isFl:Op->Bool
 | .alloc _=>true
 | .buildSlice .. =>true
 | _=>false
def infO (ops:Array Oper) (o:Oper):PI:=⟨edgM o.after.toList,Zcro o.op,dstN o.dst,Zddg ops o,isFl o.op⟩
def Zcyd (a b:PI):Bool:=(!(Nat.beq a.d 0)&&(bit b.lk (Nat.sub a.d 1)||Nat.beq a.d b.d))||(!(Nat.beq b.d 0)&&bit a.lk (Nat.sub b.d 1))
theorem Zcxc {ops:Array Oper} {x y:Oper} (h:Zcyd (infO ops x) (infO ops y)=false):x.apart ops y=true/\y.apart ops x=true:=by
 have key:(∀d,x.dst=some d->d∉y.looksAt ops/\y.dst≠some d)/\(∀d,y.dst=some d->d∉x.looksAt ops):=by
  simp only[Zcyd,infO,Bool.or_eq_false_iff,Bool.and_eq_false_iff,Bool.not_eq_false']at h;obtain⟨h1,h2⟩:=h;refine⟨λd hd=>?_,λd hd=>?_⟩
  ·rw[hd]at h1
   rcases h1 with h1|⟨h1,h3⟩
   ·simp[dstN]at h1
   ·constructor
    ·intro hm
     rw[Zcxk,show Nat.sub (dstN (some d)) 1=d from rfl,Zddh.2 hm]at h1
     cases h1
    ·intro hy
     rw[hy]at h3;rw[Zcnd]at h3;exact h3 rfl
  ·rw[hd]at h2
   rcases h2 with h2|h2
   ·simp[dstN]at h2
   ·intro hm
    rw[Zcxk,show Nat.sub (dstN (some d)) 1=d from rfl,Zddh.2 hm]at h2
    cases h2
 obtain⟨k1,k2⟩:=key;constructor
 ·unfold Oper.apart
  cases hx:x.dst with
  | none=>
   cases hy:y.dst with
   | none=>rfl
   | some e=>simpa using k2 e hy
  | some d=>
   have:=k1 d hx
   cases hy:y.dst with
   | none=>simpa using this.1
   | some e=>
    rw[hy]at this;have h3:=k2 e hy;simp only[ne_eq,Option.some.injEq]at this;simp[this.1,this.2,h3]
 ·unfold Oper.apart
  cases hx:x.dst with
  | none=>
   cases hy:y.dst with
   | none=>rfl
   | some e=>simpa using k2 e hy
  | some d=>
   have:=k1 d hx
   cases hy:y.dst with
   | none=>simpa using this.1
   | some e=>
    rw[hy]at this;have h3:=k2 e hy;simp only[ne_eq,Option.some.injEq]at this;simp[this.1,h3,Ne.symm this.2]
def Zdje (a:PI) (i:Nat):List PI->Nat->Bool
 | [],_=>true
 | b::bs,j=>(!(Zcyd a b)||bit a.w j||bit b.w i)&&Zdje a i bs (j+1)
def Zdjc:List PI->Nat->Bool
 | [],_=>true
 | a::us,i=>Zdje a i us (i+1)&&Zdjc us (i+1)
theorem Zdjf {a:PI} {i:Nat}:∀ {l:List PI} {j:Nat},Zdje a i l j=true->∀(k:Nat) b,l[k]? =some b->Zcyd a b=false∨bit a.w (j+k)=true∨bit b.w i=true
 | [],_,_,k,b,hb=>by simp at hb
 | c::bs,j,h,k,b,hb=>by
  simp only[Zdje,Bool.and_eq_true,Bool.or_eq_true,Bool.not_eq_true']at h
  cases k with
  | zero=>simp at hb;subst hb;rcases h.1 with(h1|h1)|h1<;>simp_all
  | succ k=>
   have:=Zdjf h.2 k b (by simpa using hb)
   rwa [show j+1+k=j+(k+1) by omega]at this
theorem Zdjd:∀ {l:List PI} {s:Nat},Zdjc l s=true->∀(i j:Nat) a b,i<j->l[i]? =some a->l[j]? =some b->Zcyd a b=false∨bit a.w (s+j)=true∨bit b.w (s+i)=true
 | [],_,_,i,j,a,b,_,ha,_=>by simp at ha
 | c::us,s,h,i,j,a,b,hij,ha,hb=>by
  simp only[Zdjc,Bool.and_eq_true]at h
  cases j with
  | zero=>omega
  | succ j=>
   cases i with
   | zero=>
    simp at ha;subst ha;have:=Zdjf h.1 j b (by simpa using hb)
    rwa [show s+1+j=s+(j+1) by omega]at this
   | succ i=>
    have:=Zdjd h.2 i j a b (by omega) (by simpa using ha) (by simpa using hb)
    rwa [show s+1+j=s+(j+1) by omega,show s+1+i=s+(i+1) by omega]at this
def tabM (ops:Array Oper):List PI:=ops.toList.map (infO ops)
theorem Zdjo {ops:Array Oper} {i:Nat} {o:Oper} (h:ops[i]? =some o):(tabM ops)[i]? =some (infO ops o):=by
 unfold tabM;rw[List.getElem?_map,Array.getElem?_toList,h];rfl
theorem Zdjg {ops:Array Oper} (hs:Zdjc (tabM ops) 0=true) {i j:Nat} {oi oj:Oper} (hne:i≠j) (hi:ops[i]? =some oi) (hj:ops[j]? =some oj):oi.apart ops oj=true∨(edgM oi.after.toList).testBit j=true∨(edgM oj.after.toList).testBit i=true:=by
 rcases Nat.lt_or_gt_of_ne hne with hlt|hlt
 ·rcases Zdjd hs i j _ _ hlt (Zdjo hi) (Zdjo hj)with h|h|h
  ·exact .inl (Zcxc h).1
  ·rw[Zcxk,Nat.zero_add]at h;exact .inr (.inl h)
  ·rw[Zcxk,Nat.zero_add]at h;exact .inr (.inr h)
 ·rcases Zdjd hs j i _ _ hlt (Zdjo hj) (Zdjo hi)with h|h|h
  ·exact .inl (Zcxc h).2
  ·rw[Zcxk,Nat.zero_add]at h;exact .inr (.inr h)
  ·rw[Zcxk,Nat.zero_add]at h;exact .inr (.inl h)
def Lm (ops:Array Oper) (l:Array Bool) (m:Nat):Prop:=l.size=ops.size/\∀k,l.getD k false=m.testBit k
theorem Lm.start (ops:Array Oper):Lm ops (Array.replicate ops.size false) 0:=by
 refine⟨by simp,λk=>?_⟩
 rcases Nat.lt_or_ge k ops.size with h|h<;>simp[h]
theorem Lm.set {ops:Array Oper} {l:Array Bool} {m i:Nat} (h:Lm ops l m) (hi:i<ops.size):Lm ops (l.setIfInBounds i true) (Nat.lor m (one i)):=by
 refine⟨by simp[h.1],λk=>?_⟩;have e0:Nat.lor m (one i)=m ||| one i:=rfl
 rw[e0,Nat.testBit_or,Zdfo,<-h.2 k]
 by_cases hk:i=k
 ·subst hk
  simp[h.1,hi]
 ·simp[Array.getElem?_setIfInBounds_ne hk,hk]
def Zdgx:List PI->Nat->Nat->List (Nat×PI)
 | [],_,_=>[]
 | r::rs,i,m=>bif bit m i then Zdgx rs (i+1) m else bif sub r.w m then(i,r)::Zdgx rs (i+1) m else Zdgx rs (i+1) m
def rdyP (ops:Array Oper) (l:Array Bool) (i:Nat):Bool:= !l.getD i true&&((ops[i]?).map (·.after.all λe=> !Region.binds .any e||l.getD e.on false)).getD false
theorem Zdgr {ops:Array Oper} {l:Array Bool} {m i:Nat} {o:Oper} (h:Lm ops l m) (hi:ops[i]? =some o):rdyP ops l i=(!(bit m i)&&sub (edgM o.after.toList) m):=by
 have hlt:i<ops.size:=(Array.getElem?_eq_some_iff.1 hi).1;unfold rdyP;have e1:l.getD i true=l.getD i false:=by
  have:i<l.size:=by rw[h.1];exact hlt
  simp[this]
 rw[e1,h.2 i,Zcxk,hi]
 congr 1
 show(o.after.all λe=> !Region.binds .any e||l.getD e.on false)=_;rw[Bool.eq_iff_iff,Array.all_eq_true_iff_forall_mem,Zdjl];constructor
 ·intro ha k hk
  obtain⟨e,he,hb,rfl⟩:=Zcyi.1 hk;have:=ha e (by simpa using he);rw[hb,h.2]at this;simpa using this
 ·intro ha e he
  cases hb:Region.binds .any e with
  | false=>rfl
  | true=>
   rw[h.2,ha e.on (Zcyi.2 ⟨e,by simpa using he,hb,rfl⟩)];rfl
theorem Zdgz {ops:Array Oper} {l:Array Bool} {m:Nat} (h:Lm ops l m):∀(os:List Oper) (s:Nat),(∀(k:Nat) o,os[k]? =some o->ops[s+k]? =some o)->
  ((Zdgx (os.map (infO ops)) s m).map (·.1)=(List.range' s os.length).filter (rdyP ops l)/\∀p∈Zdgx (os.map (infO ops)) s m,∃o,ops[p.1]? =some o/\p.2=infO ops o/\sub (edgM o.after.toList) m=true/\bit m p.1=false)
 | [],s,_=>by simp[Zdgx]
 | o::os,s,ho=>by
  obtain⟨i1,i2⟩:=Zdgz h os (s+1) (λk o' hk=>by rw[show s+1+k=s+(k+1) by omega];exact ho (k+1) o' (by simpa using hk));have h0:=ho 0 o rfl;rw[Nat.add_zero]at h0;have hp:=Zdgr h h0;simp only[List.map_cons,Zdgx,List.length_cons,List.range'_succ,List.filter_cons]
  cases hb:bit m s with
  | true=>
   rw[hb]at hp;rw[hp];exact⟨i1,i2⟩
  | false=>
   rw[hb]at hp;simp only[cond_false];have hw:(infO ops o).w=edgM o.after.toList:=rfl;rw[hw]
   cases hs:sub (edgM o.after.toList) m with
   | true=>
    rw[hs]at hp;rw[hp];refine⟨by simp[i1],λp hp'=>?_⟩;simp only[cond_true,List.mem_cons]at hp'
    rcases hp' with rfl|hp'
    ·exact⟨o,h0,rfl,hs,hb⟩
    ·exact i2 p hp'
   | false=>
    rw[hs]at hp;rw[hp];exact⟨i1,i2⟩
theorem Zdgy {ops:Array Oper} {l:Array Bool} {m:Nat} (h:Lm ops l m):(Zdgx (tabM ops) 0 m).map (·.1)=Region.ready .any ops l/\∀p∈Zdgx (tabM ops) 0 m,∃o,ops[p.1]? =some o/\p.2=infO ops o/\sub (edgM o.after.toList) m=true/\bit m p.1=false:=by
 obtain⟨h1,h2⟩:=Zdgz h ops.toList 0 (λk o hk=>by rw[Nat.zero_add];simpa using hk);refine⟨?_,h2⟩;rw[show tabM ops=ops.toList.map (infO ops)from rfl,h1];unfold Region.ready;rw[List.range_eq_range'];simp only[Array.length_toList];rfl
theorem Zdaf {ops:Array Oper} (hs:Zdjc (tabM ops) 0=true) {l:Array Bool} {m i:Nat} {oi:Oper} (h:Lm ops l m) (hi:ops[i]? =some oi) (hw:sub (edgM oi.after.toList) m=true):Region.free .any ops l i=true:=by
 unfold Region.free;simp only[hi,List.all_eq_true,List.mem_range,Bool.or_eq_true,beq_iff_eq];intro j hj
 by_cases hji:j=i
 ·exact .inl (.inl hji)
 ·cases hl:l.getD j true with
  | true=>exact .inl (.inr rfl)
  | false=>
   right;have hoj:ops[j]? =some ops[j]:=by simp[hj]
   rw[hoj]
   dsimp only
   rw[Bool.or_eq_true]
   rcases Zdjg hs (Ne.symm hji) hi hoj with h1|h1|h1
   ·exact .inr h1
   ·have h2:=Zdjl.1 hw j h1
    rw[<-h.2 j]at h2;have:l.getD j true=l.getD j false:=by
     have:j<l.size:=by rw[h.1];exact hj
     simp[this]
    rw[this,h2]at hl;cases hl
   ·left
    obtain⟨e,he,hb,rfl⟩:=Zcyi.1 h1;refine Array.any_eq_true'.2 ⟨e,by simpa using he,?_⟩;rw[hb];simp
def Zdfw:List (Nat×PI)->Option Nat
 | []=>none
 | (i,r)::rs=>match r.k with
  | 0=>some i
  | _=>Zdfw rs
theorem Zdfx {ops:Array Oper} (hs:Zdjc (tabM ops) 0=true) {l:Array Bool} {m:Nat} (h:Lm ops l m):∀ {rs:List (Nat×PI)},(∀p∈rs,∃o,ops[p.1]? =some o/\p.2=infO ops o/\sub (edgM o.after.toList) m=true/\bit m p.1=false)->Zcjs ops l (rs.map (·.1))=Zdfw rs
 | [],_=>rfl
 | (i,r)::rs,hr=>by
  obtain⟨o,ho,hro,hw,_⟩:=hr (i,r) (by simp);have ih:=Zdfx hs h (rs:=rs) (λp hp=>hr p (List.mem_cons_of_mem _ hp))
  dsimp only at ho hro
  subst hro;simp only[List.map_cons,Zcjs,ho,Zdfw];have hk:(infO ops o).k=Zcro o.op:=rfl;rw[hk,Zdaf hs h ho hw]
  cases Zcro o.op with
  | zero=>rfl
  | succ k=>exact ih
def oneM:List (Nat×PI)->Nat->Bool
 | [p],j=>Nat.beq p.1 j
 | _,_=>false
theorem Zdfn (rs:List (Nat×PI)) (j:Nat):oneB (rs.map (·.1)) j=oneM rs j:=by
 match rs with
 | []=>rfl
 | [p]=>rfl
 | p::q::t=>rfl
def Zczs (ops:Array Oper) (tab:List PI) (m:Nat) (x y:Nat×PI):Bool:=x.2.fl&&(match ops[x.1]?,ops[y.1]? with|some ox,some oy=>ox.apart ops oy|_,_=>false)&&oneM (Zdgx tab 0 (Nat.lor m (one x.1))) y.1
theorem Zczt {ops:Array Oper} {l:Array Bool} {m:Nat} (h:Lm ops l m) {x y:Nat×PI} {ox oy:Oper} (hx:ops[x.1]? =some ox) (hxi:x.2=infO ops ox) (hy:ops[y.1]? =some oy):Zczu ops l x.1 y.1=Zczs ops (tabM ops) m x y:=by
 unfold Zczu Zczs;simp only[hx,hy];have h2:=(Zdgy (h.set (Array.getElem?_eq_some_iff.1 hx).1)).1;rw[<-h2,Zdfn,hxi]
 congr 2
def schM (ops:Array Oper) (tab:List PI):Nat->Option Nat->Nat->Option (List (Nat×Nat))
 | 0,none,m=>match Zdgx tab 0 m with
  | []=>some []
  | _=>none
 | 0,some _,_=>none
 | f+1,none,m=>match Zdgx tab 0 m with
  | []=>some []
  | rs=>match Zdfw rs with
   | some i=>match schM ops tab f none (Nat.lor m (one i))with
    | some q=>some ((i,0)::q)
    | none=>none
   | none=>match rs with
    | [j]=>match schM ops tab f none (Nat.lor m (one j.1))with
     | some q=>some ((j.1,1)::q)
     | none=>none
    | [x,y]=>bif Nat.beq x.1 y.1 then none else bif Zczs ops tab m x y then match schM ops tab f (some x.1) (Nat.lor m (one y.1))with
      | some q=>some ((y.1,x.1+3)::q)
      | none=>none
     else bif Zczs ops tab m y x then match schM ops tab f (some y.1) (Nat.lor m (one x.1))with
      | some q=>some ((x.1,y.1+3)::q)
      | none=>none
     else none
    | _=>none
 | f+1,some i,m=>match Zdgx tab 0 m with
  | [x]=>bif Nat.beq x.1 i then match schM ops tab f none (Nat.lor m (one i))with
    | some q=>some ((i,2)::q)
    | none=>none
   else none
  | [x,y]=>bif Nat.beq x.1 i then bif Zczs ops tab m x y then match schM ops tab f (some i) (Nat.lor m (one y.1))with
      | some q=>some ((y.1,i+3)::q)
      | none=>none
     else none
    else bif Nat.beq y.1 i then bif Zczs ops tab m y x then match schM ops tab f (some i) (Nat.lor m (one x.1))with
      | some q=>some ((x.1,i+3)::q)
      | none=>none
     else none
    else none
  | _=>none
theorem Zdid {ops:Array Oper} (hs:Zdjc (tabM ops) 0=true):∀(f:Nat) (p:Option Nat) (l:Array Bool) (m:Nat),Lm ops l m->(∀i,p=some i->i<ops.size)->schM ops (tabM ops) f p m=sch ops f p l:=by
 intro f
 induction f with
 | zero=>
  intro p l m h hp
  cases p with
  | some i=>rfl
  | none=>
   obtain⟨h1,_⟩:=Zdgy h;simp only[schM,sch,<-h1]
   cases Zdgx (tabM ops) 0 m<;>rfl
 | succ f ih=>
  intro p l m h hp;obtain⟨h1,h2⟩:=Zdgy h;have hlt:∀p∈Zdgx (tabM ops) 0 m,p.1<ops.size:=λp hp=>by
   obtain⟨o,ho,_⟩:=h2 p hp;exact(Array.getElem?_eq_some_iff.1 ho).1
  have hset:∀p∈Zdgx (tabM ops) 0 m,Lm ops (l.setIfInBounds p.1 true) (Nat.lor m (one p.1)):=λp hp=>h.set (hlt p hp)
  have hpk:=Zdfx hs h h2
  cases p with
  | none=>
   simp only[schM,sch];rw[<-h1];generalize Zdgx (tabM ops) 0 m=rs at *
   match rs,h2,hlt,hset,hpk with
   | [],_,_,_,_=>rfl
   | a::t,h2,hlt,hset,hpk=>
    simp only[List.map_cons]at hpk⊢;rw[hpk]
    cases hpm:Zdfw (a::t)with
    | some i=>
     have hmem:∃p∈a::t,p.1=i:=by
      have h3:=hpk.trans hpm;have:=(Zcts h3).1;simp only[List.mem_cons,List.mem_map]at this
      rcases this with rfl|⟨p,hp,rfl⟩
      ·exact⟨a,by simp,rfl⟩
      ·exact⟨p,List.mem_cons_of_mem _ hp,rfl⟩
     obtain⟨p,hp1,rfl⟩:=hmem
     dsimp only
     rw[ih none _ _ (hset p hp1) (λi e=>by cases e)]
     cases sch ops f none (l.setIfInBounds p.1 true)<;>rfl
    | none=>
     dsimp only
     match t,h2,hlt,hset with
     | [],h2,hlt,hset=>
      simp only[List.map_nil];rw[ih none _ _ (hset a (by simp)) (λi e=>by cases e)]
      cases sch ops f none (l.setIfInBounds a.1 true)<;>rfl
     | [b],h2,hlt,hset=>
      simp only[List.map_cons,List.map_nil];obtain⟨oa,ha,hai,_⟩:=h2 a (by simp);obtain⟨ob,hb,hbi,_⟩:=h2 b (by simp);rw[Zczt h ha hai hb,Zczt h hb hbi ha,ih (some a.1) _ _ (hset b (by simp)) (λi e=>by cases e;exact hlt a (by simp)),ih (some b.1) _ _ (hset a (by simp)) (λi e=>by cases e;exact hlt b (by simp))];generalize sch ops f (some a.1) (l.setIfInBounds b.1 true)=z1;generalize sch ops f (some b.1) (l.setIfInBounds a.1 true)=z2
      cases Nat.beq a.1 b.1<;>cases Zczs ops (tabM ops) m a b<;>cases Zczs ops (tabM ops) m b a<;>cases z1<;>cases z2<;>rfl
     | b::c::t,_,_,_=>rfl
  | some i=>
   simp only[schM,sch];rw[<-h1];generalize Zdgx (tabM ops) 0 m=rs at *
   match rs,h2,hlt,hset with
   | [],_,_,_=>rfl
   | [a],h2,hlt,hset=>
    simp only[List.map_cons,List.map_nil]
    cases hai:Nat.beq a.1 i with
    | false=>rfl
    | true=>
     have e:=Zcnc.1 hai;subst e;simp only[cond_true];rw[ih none _ _ (hset a (by simp)) (λi e=>by cases e)]
     cases sch ops f none (l.setIfInBounds a.1 true)<;>rfl
   | [a,b],h2,hlt,hset=>
    simp only[List.map_cons,List.map_nil];obtain⟨oa,ha,hai,_⟩:=h2 a (by simp);obtain⟨ob,hb,hbi,_⟩:=h2 b (by simp)
    cases hx:Nat.beq a.1 i with
    | true=>
     have e:=Zcnc.1 hx;subst e;simp only[cond_true];rw[Zczt h ha hai hb,ih (some a.1) _ _ (hset b (by simp)) (λi e=>by cases e;exact hlt a (by simp))]
     cases Zczs ops (tabM ops) m a b<;>cases sch ops f (some a.1) (l.setIfInBounds b.1 true)<;>rfl
    | false=>
     simp only[cond_false]
     cases hy:Nat.beq b.1 i with
     | false=>rfl
     | true=>
      have e:=Zcnc.1 hy;subst e;simp only[cond_true];rw[Zczt h hb hbi ha,ih (some b.1) _ _ (hset a (by simp)) (λi e=>by cases e;exact hlt b (by simp))]
      cases Zczs ops (tabM ops) m b a<;>cases sch ops f (some b.1) (l.setIfInBounds a.1 true)<;>rfl
   | a::b::c::t,_,_,_=>rfl
def noDL:List Oper->Bool
 | []=>true
 | o::os=>match o.op with
  | .select .. =>false
  | .defer _=>false
  | _=>noDL os
theorem Zdfa:∀ {l:List Oper},noDL l=true->∀o∈l,(match o.op with | .select .. =>false | .defer _=>false|_=>true)=true
 | [],_,o,ho=>by cases ho
 | a::l,h,o,ho=>by
  unfold noDL at h;split at h
  ·cases h
  ·cases h
  ·rename_i h1 h2
   rcases List.mem_cons.1 ho with rfl|ho
   ·split
    ·rename_i c b e;exact absurd e (h1 c b)
    ·rename_i c e;exact absurd e (h2 c)
    ·rfl
   ·exact Zdfa h o ho
abbrev edF (T:List Nat) (s:Nat) (e:Edge):Nat:=bif Region.binds .any e then Nat.lor (Nat.lor s (2^e.on)) (T.getD e.on 0)else s
def edL (j:Nat):List Edge->Bool
 | []=>true
 | e::es=>(!Region.binds .any e||Nat.blt e.on j)&&edL j es
theorem Zcyh {j:Nat}:∀ {es:List Edge},edL j es=true->∀e∈es,(!Region.binds .any e||Nat.blt e.on j)=true
 | [],_,e,he=>by cases he
 | a::es,h,e,he=>by
  simp only[edL,Bool.and_eq_true]at h
  rcases List.mem_cons.1 he with rfl|he
  ·exact h.1
  ·exact Zcyh h.2 e he
def befL (acc:List Nat):List Oper->List Nat
 | []=>acc
 | o::os=>befL (acc ++ [o.after.toList.foldl (edF acc) 0]) os
def okL (T:List Nat):List Oper->Nat->Bool
 | [],_=>true
 | o::os,j=>edL j o.after.toList&&Nat.beq (T.getD j 0) (o.after.toList.foldl (edF T) 0)&&okL T os (j+1)
theorem Zdfi {T:List Nat}:∀ {os:List Oper} {s:Nat},okL T os s=true->∀(k:Nat) o,os[k]? =some o->edL (s+k) o.after.toList=true/\T.getD (s+k) 0=o.after.toList.foldl (edF T) 0
 | [],_,_,k,o,ho=>by simp at ho
 | a::os,s,h,k,o,ho=>by
  simp only[okL,Bool.and_eq_true,Zcnc]at h
  cases k with
  | zero=>simp at ho;subst ho;exact⟨h.1.1,h.1.2⟩
  | succ k=>
   have:=Zdfi h.2 k o (by simpa using ho)
   rwa [show s+1+k=s+(k+1) by omega]at this
theorem Zdfk {ops:Array Oper} {T:List Nat} (h:okL T ops.toList 0=true):okT ops T=true:=by
 unfold okT;rw[List.all_eq_true];intro j hj;have hlt:=List.mem_range.1 hj;have ho:ops[j]? =some ops[j]:=by simp[hlt]
 rw[ho]
 dsimp only
 obtain⟨h1,h2⟩:=Zdfi h j ops[j] (by simp[hlt]);rw[Nat.zero_add]at h1 h2;rw[Bool.and_eq_true];refine⟨Array.all_eq_true_iff_forall_mem.2 λe he=>Zcyh h1 e (by simpa using he),?_⟩;rw[Zcnc,h2];show(ops[j].after.toList.foldl (edF T) 0) ||| _=_
 exact Nat.or_self _
def Zdfy (ops:Array Oper):Option (List (Nat×Nat)×List Nat):=
 let T:=befL [] ops.toList
 let tab:=tabM ops
 bif noDL ops.toList&&okL T ops.toList 0&&Zdjc tab 0 then match schM ops tab ops.size none 0 with
  | some q=>some (q,T)
  | none=>none else none
theorem Zdfz {ops:Array Oper} {q T} (h:Zdfy ops=some (q,T)):noDS ops=true/\okT ops T=true/\sch ops ops.size none (Array.replicate ops.size false)=some q:=by
 unfold Zdfy at h
 dsimp only at h
 cases hb:(noDL ops.toList&&okL (befL [] ops.toList) ops.toList 0&&Zdjc (tabM ops) 0)with
 | false=>rw[hb]at h;cases h
 | true=>
  rw[hb]at h;simp only[cond_true]at h;simp only[Bool.and_eq_true]at hb;split at h
  ·rename_i q' hq
   cases h
   refine⟨Array.all_eq_true_iff_forall_mem.2 λo ho=>Zdfa hb.1.1 o (by simpa using ho),Zdfk hb.1.2,?_⟩;rw[<-Zdid hb.2 _ none _ 0 (Lm.start ops) (λi e=>by cases e)];exact hq
  ·cases h
def Zctw (ops:Array Oper):Option (List (Nat×Nat)×List Nat):=match Zdfy ops with
 | some p=>some p
 | none=>bif noDS ops&&okT ops (Region.before ops).toList then match sch ops ops.size none (Array.replicate ops.size false)with
  | some q=>some (q,(Region.before ops).toList)
  | none=>none else none
theorem Zctx {ops:Array Oper} {q T} (h:Zctw ops=some (q,T)):noDS ops=true/\okT ops T=true/\sch ops ops.size none (Array.replicate ops.size false)=some q:=by
 unfold Zctw at h;split at h
 ·rename_i p hp;cases h;exact Zdfz hp
 ·cases hb:(noDS ops&&okT ops (Region.before ops).toList)with
  | false=>rw[hb]at h;cases h
  | true=>
   rw[hb]at h;simp only[cond_true]at h;simp only[Bool.and_eq_true]at hb;split at h
   ·rename_i q' hq;cases h;exact⟨hb.1,hb.2,hq⟩
   ·cases h
def Zcyj:List Oper->Nat->Bool
 | [],_=>true
 | o::os,j=>edL j o.after.toList&&Zcyj os (j+1)
theorem Zcyk:∀ {os:List Oper} {s:Nat},Zcyj os s=true->∀(k:Nat) o,os[k]? =some o->edL (s+k) o.after.toList=true
 | [],_,_,k,o,ho=>by simp at ho
 | a::os,s,h,k,o,ho=>by
  simp only[Zcyj,Bool.and_eq_true]at h
  cases k with
  | zero=>simp at ho;subst ho;exact h.1
  | succ k=>
   have:=Zcyk h.2 k o (by simpa using ho)
   rwa [show s+1+k=s+(k+1) by omega]at this
theorem Zdfj {ops:Array Oper} (h:Zcyj ops.toList 0=true):okT ops []=true:=by
 unfold okT;rw[List.all_eq_true];intro j hj;have hlt:=List.mem_range.1 hj;have ho:ops[j]? =some ops[j]:=by simp[hlt]
 rw[ho]
 dsimp only
 have h1:=Zcyk h j ops[j] (by simp[hlt]);rw[Nat.zero_add]at h1;rw[Bool.and_eq_true];refine⟨Array.all_eq_true_iff_forall_mem.2 λe he=>Zcyh h1 e (by simpa using he),?_⟩;rw[Zcnc];show 0 ||| _=_
 exact Nat.zero_or _
def Zdga (ops:Array Oper):Option (List (Nat×Nat)):=
 bif noDL ops.toList&&Zcyj ops.toList 0&&Zdjc (tabM ops) 0 then schM ops (tabM ops) ops.size none 0 else none
theorem Zdgb {ops:Array Oper} {q} (h:Zdga ops=some q):noDS ops=true/\okT ops []=true/\sch ops ops.size none (Array.replicate ops.size false)=some q:=by
 unfold Zdga at h
 cases hb:(noDL ops.toList&&Zcyj ops.toList 0&&Zdjc (tabM ops) 0)with
 | false=>rw[hb]at h;cases h
 | true=>
  rw[hb]at h;simp only[cond_true]at h;simp only[Bool.and_eq_true]at hb;refine⟨Array.all_eq_true_iff_forall_mem.2 λo ho=>Zdfa hb.1.1 o (by simpa using ho),Zdfj hb.1.2,?_⟩;rw[<-Zdid hb.2 _ none _ 0 (Lm.start ops) (λi e=>by cases e)];exact h
def Zcyf (P:Program) (G:Nat) (K:KF) (ops:Array Oper) (s:St):Option St:=match Zctw ops with
 | some (q,T)=>regS P G K ops T q [] s
 | none=>none
def Zcov (P:Program) (G:Nat) (K:KF):RF:=λops s=>
 match Zdga ops with
 | some q=>match regS P G K ops [] q [] s with
  | some s1=>some s1
  | none=>Zcyf P G K ops s
 | none=>Zcyf P G K ops s
theorem Zcow {K:KF} (hK:KS P G K) (hm:P.follows .mixedOrders=true):RS P G (Zcov P G K):=by
 intro F hF ops s s1 hc id r a w hS;have key:∃q T,noDS ops=true/\okT ops T=true/\sch ops ops.size none (Array.replicate ops.size false)=some q/\regS P G K ops T q [] s=some s1:=by
  have viaT:Zcyf P G K ops s=some s1->∃q T,noDS ops=true/\okT ops T=true/\sch ops ops.size none (Array.replicate ops.size false)=some q/\regS P G K ops T q [] s=some s1:=λh=>by
   unfold Zcyf at h;split at h
   case h_2=>cases h
   rename_i q T hq
   obtain⟨h1,h2,h3⟩:=Zctx hq;exact⟨q,T,h1,h2,h3,h⟩
  unfold Zcov at hc;split at hc
  ·rename_i q hq
   obtain⟨h1,h2,h3⟩:=Zdgb hq;split at hc
   ·rename_i s2 h4;cases hc;exact⟨q,[],h1,h2,h3,h4⟩
   ·exact viaT hc
  ·exact viaT hc
 obtain⟨q,T,h1,h2,h3,h4⟩:=key;refine wpIn_region_any hm ?_;have hS':SR P G r s a { w with drawn:=w.drawn+1 }:=⟨hS.1.drew,hS.2⟩;have:=(Zdhg (F:=F) (r0:=r) (w0:=w) (s0:=s) (ds:=a.defers) hF hK h1 h2 ops.size none _ q [] s h3 h4).2 r a { w with drawn:=w.drawn+1 } [] (λj hj=>by
  simp at hj
  rcases Nat.lt_or_ge j ops.size with h'|h'<;>simp_all) hS' rfl (Nx.drew r s.h w) (λp hp=>by cases hp)
 exact Zcvz _ _ _ _ _ this
end Go.Proofs.YtokogjhcidkckaaGreatDoor.Exe
namespace Go.Proofs.YtokogjhcidkckaaGreatDoor.Exe
open Go
variable {P:Program} {G:Nat} {r:Ren} {h:Hp} {w:World}
def resC (P:Program) (h:Hp) (t:Tr):List ResultVar->Option (List Value)
 | []=>some []
 | .tmp k::rs=>match resC P h t rs with
  | some vs=>some (t.get k::vs)
  | none=>none
 | .cell k ty::rs=>match Zcrs P h ty (t.get k)with
  | some (_,v)=>match resC P h t rs with
   | some vs=>some (v::vs)
   | none=>none
  | none=>none
def finC:List Value->Value
 | [v]=>v
 | vs=> .tuple vs.toArray
abbrev resF (tmps:Array Value):ResultVar->Sem Value:=fun
 | .tmp t=>pure (tmps.getD t undef)
 | .cell a t=>do loadVar t (<-asAddr (tmps.getD a undef))
theorem Zcui {N:Nat->Prop} (hR:Rep N (Zp P) G r h w) {e:Env} {a:Act} (hE:EnvR (Zp P) r e a):∀ {rs:List ResultVar} {vs},resC P h e.t rs=some vs->∃vs',ValsR (Zp P) r vs vs'/\(rs.mapM (resF a.tmps)).run P w = .ok vs' w:=by
 intro rs
 induction rs with
 | nil=>intro vs hc;cases hc;exact⟨[],.nil,rfl⟩
 | cons x rs ih=>
  intro vs hc
  cases x with
  | tmp k=>
   simp only[resC]at hc;split at hc
   case h_2=>cases hc
   rename_i us hu
   cases hc
   obtain⟨us',h1,h2⟩:=ih hu;refine⟨_,h1.cons (hE.2.2 k),?_⟩;rw[List.mapM_cons];simp only[Sem.run_bind,resF,Sem.run_pure,Result.andThen_ok,h2]
  | cell k ty=>
   simp only[resC]at hc;split at hc
   case h_2=>cases hc
   rename_i rd v hl
   split at hc
   case h_2=>cases hc
   rename_i us hu
   cases hc
   obtain⟨us',h1,h2⟩:=ih hu;have hv:=hE.2.2 k;obtain⟨v',h3,h4⟩:=Zcrt hR hv hl;refine⟨_,h1.cons h3,?_⟩;have h5:=h4 w (λ_ _ _ _=>rfl);have h6:(do loadVar ty (<-asAddr (a.tmps.getD k undef)):Sem Value).run P w = .ok v' w:=by
    generalize a.tmps.getD k undef=y at hv h5;unfold Zcrs at hl;split at hl
    case h_2=>cases hl
    rename_i n o heq
    rw[heq]at hv
    cases hv with
    | same ha=>simp[atom]at ha
    | ptr he=>simpa[Instr.loadAt,Instr.sureAddr,asAddr]using h5
   rw[List.mapM_cons];simp only[Sem.run_bind,resF]at h6⊢;rw[h6];simp only[Result.andThen_ok,h2,Sem.run_pure]
theorem Zcuj {N:Nat->Prop} (hR:Rep N (Zp P) G r h w) {e:Env} {a:Act} (hE:EnvR (Zp P) r e a) {fn:Func} {vs} (hc:resC P h e.t fn.results.toList=some vs):∃v',ValR (Zp P) r (finC vs) v'/\(results fn a.tmps).run P w = .ok v' w:=by
 obtain⟨vs',h1,h2⟩:=Zcui hR hE hc;have h3:(fn.results.mapM (resF a.tmps)).run P w = .ok vs'.toArray w:=by
  rw[Array.mapM_eq_mapM_toList];simp only[Sem.run_map,h2,Result.andThen_ok]
 refine⟨finC vs',?_,?_⟩
 ·cases vs with
  | nil=>
   cases vs' with
   | nil=>exact .tupleL .nil
   | cons _ _=>have:=h1.1;simp at this
  | cons v vs=>
   obtain⟨v',us',rfl,h4,h5⟩:=h1.head
   cases vs with
   | nil=>
    cases us' with
    | nil=>exact h4
    | cons _ _=>have:=h5.1;simp at this
   | cons u vs=>
    obtain⟨u',ts',rfl,_,_⟩:=h5.head;exact .tupleL h1
 ·have:results fn a.tmps=(do let vs <-fn.results.mapM (resF a.tmps);pure (if h:vs.size=1 then vs[0]else .tuple vs)):=rfl
  rw[this,Sem.run_bind,h3];simp only[Result.andThen_ok]
  cases vs' with
  | nil=>rfl
  | cons v vs=>
   cases vs with
   | nil=>rfl
   | cons u vs=>simp[finC]
def ini:List Value->Nat->Tr->Tr
 | [],_,t=>t
 | v::vs,i,t=>ini vs (i+1) (Tr.put 24 t i v)
theorem Zcri:∀(vs:List Value) (i:Nat) (t:Tr) (j:Nat),i+vs.length<16000000->(ini vs i t).get j=if i<=j/\j<i+vs.length then vs.getD (j-i) undef else t.get j
 | [],i,t,j,_=>by simp only[ini,List.length_nil];rw[if_neg (by omega)]
 | v::vs,i,t,j,hl=>by
  simp only[List.length_cons]at hl;rw[ini,Zcri vs (i+1) _ j (by omega),Tr.get_put 24 _ _ _ _ (by
     have:(2:Nat)^24=16777216:=by decide
     omega)]
  by_cases h1:i+1<=j/\j<i+1+vs.length
  ·rw[if_pos h1,if_pos (by simp;omega)]
   have:j-i=(j-(i+1))+1:=by omega
   rw[this];simp
  ·rw[if_neg h1]
   by_cases h2:j=i
   ·subst h2;rw[if_pos rfl,if_pos (by simp)];simp
   ·rw[if_neg h2,if_neg (by simp;omega)]
theorem Zcrh {vs vs':List Value} (hv:ValsR (Zp P) r vs vs') {m:Nat} (hm:vs.length+m<16000000):
  EnvR (Zp P) r ⟨ini vs 0 .lf,vs.length+(m-vs.length)⟩ { tmps:=vs'.toArray++Array.replicate (m-vs'.toArray.size) undef,defers:=[] }:=by
 have hl:=hv.1;refine⟨by simp;omega,by simp only;omega,λk=>?_⟩;simp only;rw[Zcri _ _ _ _ (by omega)]
 by_cases hk:k<vs.length
 ·rw[if_pos ⟨Nat.zero_le _,by omega⟩]
  have h1:(vs'.toArray++Array.replicate (m-vs'.toArray.size) undef).getD k undef=vs'[k]:=by
   rw[Array.getD_eq_getD_getElem?,Array.getElem?_append_left (by simp;omega)];simp[show k<vs'.length by omega]
  rw[h1];have h2:vs.getD (k-0) undef=vs[k]:=by simp[hk]
  rw[h2];exact hv.2 k _ _ (by simp[hk]) (by simp[show k<vs'.length by omega])
 ·rw[if_neg (by omega),Tr.get_lf]
  have h1:(vs'.toArray++Array.replicate (m-vs'.toArray.size) undef).getD k undef=undef:=by
   rw[Array.getD_eq_getD_getElem?,Array.getElem?_append_right (by simp;omega)];rw[Array.getElem?_replicate];split<;>rfl
  rw[h1];exact .undef
def Zcrm (p:Nat->Bool):Hp->Hp
 | []=>[]
 | (k,o)::h=>bif p k then(k,o)::Zcrm p h else Zcrm p h
theorem Zcrn {p:Nat->Bool}:∀n o,look (Zcrm p h) n=some o->look h n=some o:=by
 induction h with
 | nil=>intro n o hl;cases hl
 | cons q h ih=>
  obtain⟨k,o'⟩:=q;intro n o hl;simp only[Zcrm]at hl;have key:∀n o,look (Zcrm p h) n=some o->p n=true:=by
   clear ih hl
   induction h with
   | nil=>intro n o hl;cases hl
   | cons q h ih=>
    obtain⟨k2,o2⟩:=q;intro n o hl;simp only[Zcrm]at hl
    cases hp:p k2 with
    | false=>rw[hp]at hl;exact ih n o hl
    | true=>
     rw[hp]at hl;simp only[cond_true,look]at hl
     cases hk:Nat.beq k2 n with
     | true=>obtain rfl:=Zcnc.1 hk;exact hp
     | false=>rw[hk]at hl;exact ih n o hl
  cases hp:p k with
  | true=>
   rw[hp]at hl;simp only[cond_true,look]at hl⊢
   cases hk:Nat.beq k n with
   | true=>rw[hk]at hl;exact hl
   | false=>rw[hk]at hl;exact ih n o hl
  | false=>
   rw[hp]at hl;simp only[look]
   cases hk:Nat.beq k n with
   | true=>
    obtain rfl:=Zcnc.1 hk;have:=key _ _ hl;rw[hp]at this;cases this
   | false=>exact ih n o hl
def nms (lo:Nat):Nat->Value->List Nat->List Nat
 | 0,_,acc=>acc
 | n+1,v,acc=>match v with
  | .pointer (some a)=>bif Nat.blt a.block lo then acc else a.block::acc
  | .slice (some a) _ _=>bif Nat.blt a.block lo then acc else a.block::acc
  | .map (some m)=>bif Nat.blt m lo then acc else m::acc
  | .func (.yield l) _ _=>bif Nat.blt l lo then acc else l::acc
  | .func _ xs ys=>xs.toList.foldl (λacc v=>nms lo n v acc) (ys.toList.foldl (λacc v=>nms lo n v acc) acc)
  | .iface _ v=>nms lo n v acc
  | .agg xs=>xs.toList.foldl (λacc v=>nms lo n v acc) acc
  | .tuple xs=>xs.toList.foldl (λacc v=>nms lo n v acc) acc
  | _=>acc
def nmsL (lo:Nat):List Value->List Nat->List Nat
 | [],acc=>acc
 | v::vs,acc=>match v with
  | .string _=>nmsL lo vs acc
  | .int _ _=>nmsL lo vs acc
  | .bool _=>nmsL lo vs acc
  | v=>nmsL lo vs (nms lo 6 v acc)
def nmsO (lo:Nat) (o:CO) (acc:List Nat):List Nat:=match o with
 | .cells cs _ _ _=>nmsL lo cs acc
 | .map es _ _=>es.foldl (λacc x=>nms lo 6 x.2.1 acc) acc
 | .loop .. =>acc
def Zcsn (lo:Nat):Nat->Hp->List Nat->List Nat->List Nat
 | 0,_,_,seen=>seen
 | n+1,h,todo,seen=>match todo with
  | []=>seen
  | x::todo=>bif memB seen x then Zcsn lo n h todo seen else match look h x with
   | some o=>Zcsn lo n h (nmsO lo o todo) (x::seen)
   | none=>Zcsn lo n h todo seen
def Zcuk (lo:Nat):Hp->List Nat->List Nat
 | [],acc=>acc
 | (k,o)::h,acc=>bif Nat.blt k lo then Zcuk lo h (nmsO lo o acc)else Zcuk lo h acc
def gcC (k k1:Nat) (v:Value) (h:Hp):Hp:=
 bif Nat.blt k1 (k+16)then h else(λseen=>Zcrm (λn=>bif Nat.blt n (2*k)then true else memB seen n) h) (Zcsn (2*k) 100000 h (nms (2*k) 6 v (Zcuk (2*k) h [])) [])
theorem Zcqt {k k1:Nat} {v:Value}:∀n o,look (gcC k k1 v h) n=some o->look h n=some o:=by
 unfold gcC
 cases Nat.blt k1 (k+16)with
 | true=>exact λ_ _ h=>h
 | false=>exact Zcrn
def finX (P:Program) (fn:Func) (k:Nat) (s:St):Option (Value×Nat×Hp):=match resC P s.h s.e.t fn.results.toList with
 | some us=>some (finC us,s.k,gcC k s.k (finC us) s.h)
 | none=>none
def Zcog (P:Program) (G:Nat) (fuel:Nat) (K:KF) (f:FuncId) (vs:List Value) (k:Nat) (h:Hp):Option (Value×Nat×Hp):=match P.funcs[f]? with
 | some fn=>match fn.body with
  | some c=>bif Nat.blt (vs.length+fn.ntmps) 16000000 then
    match Zcol P G K (Zcov P G K) true fuel c ⟨⟨ini vs 0 .lf,vs.length+(fn.ntmps-vs.length)⟩,k,h⟩with
    | some (.normal,s)=>finX P fn k s
    | some (.ret,s)=>finX P fn k s
    | _=>none
   else none
  | none=>none
 | none=>none
theorem Zcoi {K:KF} (hK:KS P G K) (hm:P.follows .mixedOrders=true) (hN:Zcmj P) (fuel:Nat) {f:FuncId} {vs:List Value} {k:Nat} {h:Hp} {v:Value} {k1:Nat} {h1:Hp} (hc:Zcog P G fuel K f vs k h=some (v,k1,h1)) {vs':List Value}
  (hR:Rep (Zcmd k) (Zp P) G r h w) (hv:ValsR (Zp P) r vs vs'):KSc P G r h w v k1 h1 vs' (.fn f):=by
 refine .inr ?_;unfold Zcog at hc;split at hc
 case h_2=>cases hc
 rename_i fn hfn
 split at hc
 case h_2=>cases hc
 rename_i c hb
 cases hlen:Nat.blt (vs.length+fn.ntmps) 16000000 with
 | false=>rw[hlen]at hc;cases hc
 | true=>
  rw[hlen]at hc;simp only[cond_true]at hc;have hlt:=Nat.le_of_ble_eq_true hlen;refine⟨Zcuq hN hfn hb _ _,?_⟩;refine callsIn_of_wp_marks hfn hb trivial ?_;have hS:SR P G r ⟨⟨ini vs 0 .lf,vs.length+(fn.ntmps-vs.length)⟩,k,h⟩ { tmps:=vs'.toArray++Array.replicate (fn.ntmps-vs'.toArray.size) undef,defers:=[] } w:=⟨hR,Zcrh hv hlt⟩;have fin:∀(x:Exit) (s:St),(x = .normal∨x = .ret)->Zcol P G K (Zcov P G K) true fuel c ⟨⟨ini vs 0 .lf,vs.length+(fn.ntmps-vs.length)⟩,k,h⟩=some (x,s)->finX P fn k s=some (v,k1,h1)->
    c.wpIn Fence.wide 0 P (bodyPostM Fence.wide 0 P fn (CT P G r h w v k1 h1)) { tmps:=vs'.toArray++Array.replicate (fn.ntmps-vs'.toArray.size) undef,defers:=[] } w:=by
   intro x s hx hcode hres;refine wpIn_mono (Zcom FF.wide hK hN (Zcow hK hm) (λ_=>rfl) fuel c _ x s hcode r _ w hS).1 ?_;rintro e a1 w1 ⟨rfl,bs,r1,q1,q2,q3,q4⟩;unfold finX at hres;split at hres
   case h_2=>cases hres
   rename_i us hus
   cases hres
   obtain⟨t1,t2⟩:=Zcvr bs w1 q3.1 q2 q4;obtain⟨v',p1,p2⟩:=Zcuj t1 q3.2 hus;have out:LeavesInM Fence.wide 0 P fn a1.tmps (CT P G r h w (finC us) s.k (gcC k s.k (finC us) s.h)) a1.defers .returning w1:=by
    rw[q1,List.append_nil];exact Zcrq bs w1 q4 ⟨v',p2,r1,v',rfl,t2.trans (Nx.sub r1 _ Zcqt),t1.sub Zcqt,p1⟩
   rcases hx with rfl|rfl
   ·exact out
   ·exact out
  split at hc
  ·rename_i s hcode;exact fin _ s (.inl rfl) hcode hc
  ·rename_i s hcode;exact fin _ s (.inr rfl) hcode hc
  ·cases hc
end Go.Proofs.YtokogjhcidkckaaGreatDoor.Exe
namespace Go.Proofs.YtokogjhcidkckaaGreatDoor.Exe
open Go
variable {P:Program} {G:Nat} {r:Ren} {h:Hp} {w:World}
def Zcnf:List Tmp->List Value->Env->Env
 | p::ps,v::vs,e=>Zcnf ps vs (e.put (some p) v)
 | _,_,e=>e
theorem Zcng {Z:TypeId->Nat}:∀(ps:List Tmp) (vs vs':List Value) (e:Env) (a:Act),ValsR Z r vs vs'->EnvR Z r e a->EnvR Z r (Zcnf ps vs e) { a with tmps:=(ps.zip vs').foldl (λtmps (t,a)=>tmps.setIfInBounds t a) a.tmps }
 | [],vs,vs',e,a,_,hE=>by simpa[Zcnf]using hE
 | p::ps,[],vs',e,a,hv,hE=>by
  have:=hv.1
  cases vs' with
  | nil=>simpa[Zcnf]using hE
  | cons _ _=>simp at this
 | p::ps,v::vs,vs',e,a,hv,hE=>by
  obtain⟨v',us,rfl,h1,h2⟩:=hv.head;have:=Zcng ps vs us _ _ h2 (hE.put h1 (some p));simpa[Zcnf,Act.put]using this
def endR (l:Nat) (s:St) (st:LoopState) (pend:Option Code) (v:Bool):Option CO->Option (Value×Nat×Hp)
 | some (.loop _ _ en ps asg body false)=>some (.bool v,s.k,upd s.h l (.loop st pend en ps asg body false))
 | _=>none
def Zcrp (l:Nat) (s:St):Exit->Option (Value×Nat×Hp)
 | .normal=>endR l s .ready none true (look s.h l)
 | .ret=>endR l s .done (some .ret) false (look s.h l)
 | .exit id=>endR l s .done (some (.exit id)) false (look s.h l)
 | _=>none
def Zcnb (l:Nat) (s:St):Option CO->Option St
 | some (.loop .ready pend en ps asg body false)=>some ⟨s.e,s.k,upd s.h l (.loop .busy pend en ps asg body false)⟩
 | _=>none
def Zcul (P:Program) (G:Nat) (fuel:Nat) (K:KF) (l:Nat) (vs:List Value) (k:Nat) (h:Hp):Option (Value×Nat×Hp):=match look h l with
 | some (.loop _ _ en ps asg body _)=>bif Nat.beq vs.length ps.size then
   match Zcol P G K (Zcov P G K) false fuel asg ⟨Zcnf ps.toList vs en,k,h⟩with
   | some (.normal,s1)=>match Zcnb l s1 (look s1.h l)with
    | some s2=>match Zcol P G K (Zcov P G K) false fuel body s2 with
     | some (x,s3)=>Zcrp l s3 x
     | none=>none
    | none=>none
   | _=>none
  else none
 | _=>none
theorem Zcpc {s:St} {a:Act} (hS:SR P G r s a w) {l:Nat} {e:Ent} (he:r l=some e) {st pend b v k1 h1} (hc:endR l s st pend b (look s.h l)=some (v,k1,h1)) {jump:Option Code} (hj:jump=pend) (hb:jump.isNone=b) (hst:(if jump.isNone then LoopState.ready else .done)=st):
  ∃w1,(Instr.endRound e.b jump).run P w = .ok v w1/\Nx r s.h w r h1 w1/\Rep (Zcmd k1) (Zp P) G r h1 w1/\ValR (Zp P) r v v:=by
 subst hj;subst hb;unfold endR at hc;split at hc
 case h_2=>cases hc
 rename_i st0 pend0 en ps asg body hl
 cases hc
 obtain⟨L,hL,⟨l1,l2,l3,l4,l5⟩,l6,l7,l8⟩:=Zcsf hS.1 he hl;obtain⟨hR4,hN4⟩:=Zcsg hS.1 he (o1:= .loop st jump en ps asg body false) (o1':= .loop { L with state:=if jump.isNone then .ready else .done,pending:=jump }) hl rfl ⟨⟨hst,rfl,l3,l4,l5⟩,l6,l7,l8⟩;exact⟨_,run_endRound jump hL,hN4,hR4,.same rfl⟩
theorem Zcum {K:KF} (hK:KS P G K) (hm:P.follows .mixedOrders=true) (hN:Zcmj P) (fuel:Nat) {l:Nat} {vs:List Value} {k:Nat} {h:Hp} {v:Value} {k1:Nat} {h1:Hp} (hc:Zcul P G fuel K l vs k h=some (v,k1,h1)) {vs':List Value}
  (hR:Rep (Zcmd k) (Zp P) G r h w) (hv:ValsR (Zp P) r vs vs'):KSc P G r h w v k1 h1 vs' (.rd l):=by
 intro e he;unfold Zcul at hc;split at hc
 case h_2=>cases hc
 rename_i st pend en ps asg body ro hl
 cases hlen:Nat.beq vs.length ps.size with
 | false=>rw[hlen]at hc;cases hc
 | true=>
  rw[hlen]at hc;simp only[cond_true]at hc;have hlen:=Zcnc.1 hlen;obtain⟨L,hL,⟨l1,l2,l3,l4,l5⟩,l6,l7,l8⟩:=Zcsf hR he hl;subst l3;subst l4;subst l5;refine⟨_,_,_,_,run_yield hL (by have:=hv.1;simp;omega),?_⟩;refine roundIn_of_wpIn trivial ?_;have hE:EnvR (Zp P) r (Zcnf L.params.toList vs en) { tmps:=(L.params.zip vs'.toArray).foldl (λtmps (t,a)=>tmps.setIfInBounds t a) L.tmps,defers:=[] }:=by
   have:=Zcng L.params.toList vs vs' en { tmps:=L.tmps,defers:=[] } hv ⟨l6,l7,l8⟩;have e1:(L.params.zip vs'.toArray).foldl (λtmps (x:Tmp×Value)=>tmps.setIfInBounds x.1 x.2) L.tmps=(L.params.toList.zip vs').foldl (λtmps x=>tmps.setIfInBounds x.1 x.2) L.tmps:=by
    rw[<-Array.foldl_toList];simp
   exact e1▸this
  split at hc
  case h_2=>cases hc
  rename_i s1 hcode1
  split at hc
  case h_2=>cases hc
  rename_i s2 hbeg
  split at hc
  case h_2=>cases hc
  rename_i x s3 hcode2
  refine wpIn_mono (Zcom (FF.round e.b) hK hN (Zcow hK hm) (λhx=>by cases hx) fuel L.assign _ .normal s1 hcode1 r _ w ⟨hR,hE⟩).1 ?_;rintro y a1 w1 ⟨rfl,bs,r1,q1,q2,q3,q4⟩;have he1:=q2.ext _ _ he;unfold Zcnb at hbeg;split at hbeg
  case h_2=>cases hbeg
  rename_i pend' en' ps' asg' body' hl1
  cases hbeg
  obtain⟨L1,hL1,⟨m1,m2,m3,m4,m5⟩,m6,m7,m8⟩:=Zcsf q3.1 he1 hl1;obtain⟨hR2,hN2⟩:=Zcsg q3.1 he1 (o1:= .loop .busy pend' en' ps' asg' body' false) (o1':= .loop { L1 with state:= .busy }) hl1 rfl ⟨⟨rfl,m2,m3,m4,m5⟩,m6,m7,m8⟩;refine⟨_,run_beginRound hL1 m1,?_⟩;refine wpIn_mono (Zcom (FF.round e.b) hK hN (Zcow hK hm) (λhx=>by cases hx) fuel L.body _ x s3 hcode2 r1 a1 _ ⟨hR2,q3.2⟩).1 ?_;rintro y a3 w3 ⟨rfl,bs3,r3,p1,p2,p3,p4⟩;have he3:=p2.ext _ _ he1;have hNx:=(q2.trans hN2).trans p2;unfold Zcrp at hc;split at hc
  ·obtain⟨w4,t1,t2,t3,t4⟩:=Zcpc p3 he3 hc (jump:=none) rfl rfl rfl
   exact⟨_,_,t1,r3,_,rfl,hNx.trans t2,t3,t4⟩
  ·obtain⟨w4,t1,t2,t3,t4⟩:=Zcpc p3 he3 hc (jump:=some .ret) rfl rfl rfl
   exact⟨_,_,t1,r3,_,rfl,hNx.trans t2,t3,t4⟩
  ·rename_i id
   obtain⟨w4,t1,t2,t3,t4⟩:=Zcpc p3 he3 hc (jump:=some (.exit id)) rfl rfl rfl;exact⟨_,_,t1,r3,_,rfl,hNx.trans t2,t3,t4⟩
  ·cases hc
def KX (P:Program) (G:Nat) (fuel:Nat) (K0:KF):Nat->KF
 | 0=>K0
 | n+1=>λc vs k h=>match K0 c vs k h with
  | some q=>some q
  | none=>match c with
   | .fn f=>Zcog P G fuel (KX P G fuel K0 n) f vs k h
   | .rd l=>Zcul P G fuel (KX P G fuel K0 n) l vs k h
theorem Zcmh {K0:KF} (h0:KS P G K0) (hm:P.follows .mixedOrders=true) (hN:Zcmj P) (fuel:Nat):∀n,KS P G (KX P G fuel K0 n)
 | 0=>h0
 | n+1=>by
  intro c vs k h v k1 h1 hc;simp only[KX]at hc;split at hc
  ·rename_i q hq;cases hc;exact h0 _ _ _ _ _ _ _ hq
  ·cases c with
   | fn f=>exact λr w vs' hR hv=>Zcoi (Zcmh h0 hm hN fuel n) hm hN fuel hc hR hv
   | rd l=>exact λr w vs' hR hv=>Zcum (Zcmh h0 hm hN fuel n) hm hN fuel hc hR hv
end Go.Proofs.YtokogjhcidkckaaGreatDoor.Exe
namespace Go.Proofs.YtokogjhcidkckaaGreatDoor.Exe
open Go
variable {P:Program} {G:Nat} {r:Ren} {h:Hp} {w:World}
abbrev FK:=FuncId->List Value->Nat->Hp->Option (Value×Nat×Hp)
def onFn (K:FK):KF
 | .fn f,vs,k,h=>K f vs k h
 | .rd _,_,_,_=>none
theorem Zcth {K:FK} (hK:∀f vs k h v k1 h1,K f vs k h=some (v,k1,h1)->∀(r:Ren) (w:World) (vs':List Value),Rep (Zcmd k) (Zp P) G r h w->ValsR (Zp P) r vs vs'->KSc P G r h w v k1 h1 vs' (.fn f)):KS P G (onFn K):=by
 intro c vs k h v k1 h1 hc
 cases c with
 | fn f=>exact hK f vs k h v k1 h1 hc
 | rd l=>cases hc
abbrev ExtT:=List (FuncId×(Array Value->Sem Value))
def extF:ExtT->FuncId->Option (Array Value->Sem Value)
 | [],_=>none
 | (g,e)::X,f=>bif Nat.beq g f then some e else extF X f
def extK (P:Program) (X:ExtT):FK:=λf vs k h=>match extF X f with
 | some e=>bif vs.all (flat 4)then match Zcua P (e vs.toArray)with
  | some v=>bif flat 4 v then some (v,k,h)else none
  | none=>none else none
 | none=>none
def Ext0 (P:Program) (f:FuncId) (e:Array Value->Sem Value):Prop:=∀args (w:World),(callFunc f args).run P w=((e args).run P w).andThen λv w'=> .ok (.value v) w'
theorem Zcpm {X:ExtT} {f e} (h:extF X f=some e):(f,e)∈X:=by
 induction X with
 | nil=>cases h
 | cons p X ih=>
  obtain⟨g,e'⟩:=p;simp only[extF]at h
  cases hg:Nat.beq g f with
  | true=>rw[hg]at h;cases h;obtain rfl:=Zcnc.1 hg;simp
  | false=>rw[hg]at h;exact List.mem_cons_of_mem _ (ih h)
theorem Zcqm {vs vs':List Value} (hf:vs.all (flat 4)=true) (hv:ValsR (Zp P) r vs vs'):vs'=vs:=by
 induction vs generalizing vs' with
 | nil=>have:=hv.1;cases vs'<;>simp_all
 | cons v vs ih=>
  obtain⟨v',us,rfl,h1,h2⟩:=hv.head;simp only[List.all_cons,Bool.and_eq_true]at hf;rw[Zcqk 4 hf.1 h1,ih hf.2 h2]
theorem Zcpn {X:ExtT} (hX:∀p∈X,Ext0 P p.1 p.2):KS P G (onFn (extK P X)):=by
 refine Zcth ?_;intro f vs k h v k1 h1 hc r w vs' hR hv;unfold extK at hc;split at hc
 case h_2=>cases hc
 rename_i e he
 cases hf:vs.all (flat 4)with
 | false=>rw[hf]at hc;cases hc
 | true=>
  rw[hf]at hc;simp only[cond_true]at hc;split at hc
  case h_2=>cases hc
  rename_i u hu
  cases hfu:flat 4 u with
  | false=>rw[hfu]at hc;cases hc
  | true=>
   rw[hfu]at hc;cases hc;obtain rfl:=Zcqm hf hv;exact .inl ⟨r,_,w,by rw[hX _ (Zcpm he),Zcub hu];rfl,Nx.refl r h w,hR,Zcql 4 hfu⟩
def idK (F:List FuncId):FK:=λf vs k h=>bif memB F f then match vs with
 | [v]=>some (v,k,h)
 | _=>none else none
theorem Zcrd {F:List FuncId} (hF:∀f∈F,∀v (w:World),(callFunc f #[v]).run P w = .ok (.value v) w):KS P G (onFn (idK F)):=by
 refine Zcth ?_;intro f vs k h v k1 h1 hc r w vs' hR hv;unfold idK at hc
 cases hm:memB F f with
 | false=>rw[hm]at hc;cases hc
 | true=>
  rw[hm]at hc;simp only[cond_true]at hc;split at hc
  ·cases hc
   obtain⟨v',us,rfl,a,b⟩:=hv.head
   cases us with
   | nil=>exact .inl ⟨r,v',w,hF f (Zcso.1 hm) v' w,Nx.refl r h w,hR,a⟩
   | cons _ _=>have:=b.1;simp at this
  ·cases hc
def nzK (nz:FuncId) (el:TypeId):FK:=λf vs k h=>bif Nat.beq f nz then match vs with
 | [.int .i64 n]=>bif decide (0<=n)&&decide (n<=1000000)then some (.slice (some ⟨2*k+1,0,none⟩) n.toNat n.toNat,k+1,(2*k+1,.cells [] el 0 false)::h)else none
 | _=>none else none
theorem Zcou:∀(n t:Nat) (acc:Array Value),(Extern.BytealgMakeNoZero.digits n t acc).size=acc.size+n
 | 0,_,acc=>rfl
 | n+1,t,acc=>by rw[Extern.BytealgMakeNoZero.digits,Zcou n];simp;omega
theorem Zcta {nz:FuncId} {el t:TypeId} {ps rs:Array TypeId} (ht:rs[0]? =some t) (hu:P.underlying t=some (.slice el)) (hz:Zp P el=1)
  (hF:∀args (w:World),(callFunc nz args).run P w=((Extern.BytealgMakeNoZero.makeNoZero ps rs args).run P w).andThen λv w'=> .ok (.value v) w'):KS P G (onFn (nzK nz el)):=by
 refine Zcth ?_;intro f vs k h v k1 h1 hc r w vs' hR hv;unfold nzK at hc
 cases hm:Nat.beq f nz with
 | false=>rw[hm]at hc;cases hc
 | true=>
  rw[hm]at hc;simp only[cond_true]at hc;obtain rfl:=Zcnc.1 hm;split at hc
  ·rename_i n
   cases hb:(decide (0<=n)&&decide (n<=1000000))with
   | false=>rw[hb]at hc;cases hc
   | true=>
    rw[hb]at hc;cases hc;simp only[Bool.and_eq_true,decide_eq_true_eq]at hb;obtain rfl:vs' = [.int .i64 n]:=Zcqm (by simp[flat,atom]) hv;obtain⟨cap,hcap⟩:∃cap,cap=(Question.appendCap n.toNat 0 el).cut (w.tape w.drawn (Question.appendCap n.toNat 0 el)):=⟨_,rfl⟩;obtain⟨by_,hby⟩:∃b,b=(Question.extern "internal/bytealg.MakeNoZero.bytes" 0).cut (w.drew.tape w.drew.drawn (Question.extern "internal/bytealg.MakeNoZero.bytes" 0)):=⟨_,rfl⟩;have hle:n.toNat<=cap:=by rw[hcap];simp[Question.cut]
    have hcap3:cap<=9223372036854775807:=by
     rw[hcap];simp only[Question.cut];have:=Nat.mod_lt (w.tape w.drawn (Question.appendCap n.toNat 0 el)) (show 0<2^63-n.toNat by omega);omega
    have hsz:=Zcou cap by_ #[];have hroom:∀m (w:World),(askRoom m).run P w = .ok () w:=λm w=>by unfold askRoom;split<;>rfl
    have h48:¬(n<0):=by omega
    have h49:¬(n>281474976710656):=by omega
    have hrun:(Extern.BytealgMakeNoZero.makeNoZero ps rs #[.int .i64 n]).run P w = .ok (.slice (some ⟨w.heap.size,0,none⟩) n.toNat cap) (w.drew.drew.alloc (.cells (Extern.BytealgMakeNoZero.digits cap by_ #[]) el)):=by
     have e1:(choose (Question.appendCap n.toNat 0 el)).run P w = .ok cap w.drew:=by rw[hcap];rfl
     have e2:(choose (Question.extern "internal/bytealg.MakeNoZero.bytes" 0)).run P w.drew = .ok by_ w.drew.drew:=by rw[hby];rfl
     have hdef:Extern.BytealgMakeNoZero.makeNoZero ps rs #[.int .i64 n]=(do
      let some t:=rs[0]? |stuck "bytealg.MakeNoZero: no result type"
      let .slice elem <-underlying t|stuck "bytealg.MakeNoZero: slice type expected"
      if n<0||n>2^48 then runtimePanic (.error "makeslice: len out of range")
      let cap <-choose (.appendCap n.toNat 0 elem)
      askRoom cap
      let bytes <-choose (.extern "internal/bytealg.MakeNoZero.bytes" 0)
      let a <-newRow elem (Extern.BytealgMakeNoZero.digits cap bytes #[])
      pure (.slice (some a) n.toNat cap)):=rfl
     rw[hdef];simp only[ht,Sem.run_bind,run_underlying hu,Result.andThen_ok];simp only[show(decide (n<0)||decide (n>2^48))=false by simp;omega];simp only[Bool.false_eq_true,if_false,Sem.run_bind,Sem.run_pure,Result.andThen_ok,e1,hroom,e2,Zcus];rfl
    obtain⟨a,b⟩:=hR.drew.drew.alloc (nm:=2*k+1) (o:= .cells [] el 0 false) (o':= .cells (Extern.BytealgMakeNoZero.digits cap by_ #[]) el (0,0)) (S:=cap) (t:=el) (by omega) (by omega)
     ⟨rfl,rfl,by rw[hsz];simp,by simp,λhx=>(by rw[Zctd]at hx;cases hx),λi v hi=>by simp at hi,FzS.zero⟩
    refine .inl ⟨_,_,_,?_,(Nx.drew r h w).trans ((Nx.drew r h w.drew).trans b),a,.slice (e:=⟨w.drew.drew.heap.size,0,cap,el⟩) (c':=cap) (by simp[set1]) hle (λhx=>(by rw[Zctd]at hx;cases hx)) (λ_=>by show CapR (0+0+cap*Zp P el) cap cap (Zp P el);rw[hz];exact⟨by omega,λ_ _=>by omega,hcap3⟩)⟩;rw[hF,hrun];rfl
  ·cases hc
def orK (K1 K2:KF):KF:=λf vs k h=>match K1 f vs k h with
 | some q=>some q
 | none=>K2 f vs k h
theorem Zctm {K1 K2:KF} (h1:KS P G K1) (h2:KS P G K2):KS P G (orK K1 K2):=by
 intro f vs k h v k1 h1' hc;unfold orK at hc;split at hc
 ·rename_i q hq;cases hc;exact h1 _ _ _ _ _ _ _ hq
 ·exact h2 _ _ _ _ _ _ _ hc
end Go.Proofs.YtokogjhcidkckaaGreatDoor.Exe
