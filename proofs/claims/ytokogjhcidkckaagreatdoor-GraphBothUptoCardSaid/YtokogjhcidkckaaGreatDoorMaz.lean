import Derived.Test.YtokogjhcidkckaaGreatDoorMay
import Derived.Deep.AppendSrc
import Derived.Maps.AppendAt
import Derived.Below
namespace Go.Proofs.YtokogjhcidkckaaGreatDoor
open Go.Lib (hid)
open Go.Proofs.Tryz
def Zbax (s:Nat) (way:List Nat):List Nat->List (List Nat)->List Bool->Option (List (List Nat)×List Bool)
 | [],q,r=>some (q,r)
 | x::xs,q,r=>if x=s then none else if r[x]? =some true then Zbax s way xs q r else Zbax s way xs (q ++ [way ++ [x]]) (r.set x true)
def bfsF (s:Nat) (nd:Nat->List Nat):Nat->List (List Nat)->List Bool->List Nat
 | 0,_,_=>[]
 | _+1,[],_=>[]
 | n+1,w::q,r=>match Zbax s w (nd (w.getLastD 0)) q r with
  | none=>w
  | some (q',r')=>bfsF s nd n q' r'
def Zbhz (s:Nat) (nd:Nat->List Nat) (N:Nat):List Nat:=bfsF s nd (N+2) [[s]] (List.replicate N false)
def cntF (r:List Bool):Nat:=r.countP (· ==false)
theorem Zka (N:Nat):cntF (List.replicate N false)=N:=by unfold cntF;rw[List.countP_replicate];rfl
theorem Zkb {r:List Bool} {x:Nat} (h:r[x]? =some false):cntF (r.set x true)+1=cntF r:=by
 unfold cntF;obtain⟨hl,e⟩:=List.getElem?_eq_some_iff.1 h;rw[List.countP_set hl];rw[e];have:0<r.countP (· ==false):=List.countP_pos_iff.2 ⟨false,by rw[<-e];exact List.getElem_mem _,by simp⟩;simp only[beq_self_eq_true,if_true,show((true:Bool)==false)=false from rfl,Bool.false_eq_true,if_false];omega
structure WaysOk (s:Nat) (nd:Nat->List Nat) (N:Nat) (q:List (List Nat)) (r:List Bool):Prop where
 ne:∀w∈q,w≠[]
 lt:∀w∈q,∀x∈w,x<N
 len:∀w∈q,w.length+cntF r<=N+1
 many:q.length+cntF r<=N+1
 size:r.length=N
theorem Zbsq {s N:Nat} {nd:Nat->List Nat} (hs:s<N):WaysOk s nd N [[s]] (List.replicate N false):=by
 refine⟨?_,?_,?_,?_,by simp⟩
 ·intro w hw;obtain rfl:w = [s]:=by simpa using hw
  simp
 ·intro w hw x hx;obtain rfl:w = [s]:=by simpa using hw
  obtain rfl:x=s:=by simpa using hx
  exact hs
 ·intro w hw;obtain rfl:w = [s]:=by simpa using hw
  rw[Zka];simp;omega
 ·rw[Zka];simp;omega
theorem WaysOk.tail {s N:Nat} {nd:Nat->List Nat} {w:List Nat} {q:List (List Nat)} {r:List Bool} (h:WaysOk s nd N (w::q) r):WaysOk s nd N q r:=
 ⟨λx hx=>h.ne x (by simp[hx]),λx hx=>h.lt x (by simp[hx]),λx hx=>h.len x (by simp[hx]),by have:=h.many;simp only[List.length_cons]at this;omega,h.size⟩
theorem WaysOk.push {s N x:Nat} {nd:Nat->List Nat} {w:List Nat} {q:List (List Nat)} {r:List Bool} (h:WaysOk s nd N q r) (hw:w.length+cntF r<=N+1) (hwl:∀y∈w,y<N) (hx:x<N) (hr:r[x]? =some false):WaysOk s nd N (q ++ [w ++ [x]]) (r.set x true):=by
 have hc:=Zkb hr;refine⟨?_,?_,?_,?_,by rw[List.length_set];exact h.size⟩
 ·intro y hy
  rcases List.mem_append.1 hy with hy|hy
  ·exact h.ne y hy
  ·obtain rfl:y=w ++ [x]:=by simpa using hy
   simp
 ·intro y hy z hz
  rcases List.mem_append.1 hy with hy|hy
  ·exact h.lt y hy z hz
  ·obtain rfl:y=w ++ [x]:=by simpa using hy
   rcases List.mem_append.1 hz with hz|hz
   ·exact hwl z hz
   ·obtain rfl:z=x:=by simpa using hz
    exact hx
 ·intro y hy
  rcases List.mem_append.1 hy with hy|hy
  ·have:=h.len y hy;omega
  ·obtain rfl:y=w ++ [x]:=by simpa using hy
   rw[List.length_append];simp only[List.length_cons,List.length_nil];omega
 ·have:=h.many;rw[List.length_append];simp only[List.length_cons,List.length_nil];omega
def Zkm (s:Nat) (nd:Nat->List Nat) (m:Nat) (w:List Nat):Option (List (List Nat)×List Bool)->List Nat
 | none=>w
 | some p=>bfsF s nd m p.1 p.2
theorem Zfp (s:Nat) (nd:Nat->List Nat) (m:Nat) (w:List Nat) (q:List (List Nat)) (r:List Bool):bfsF s nd (m+1) (w::q) r=Zkm s nd m w (Zbax s w (nd (w.getLastD 0)) q r):=by
 rw[bfsF]
 cases Zbax s w (nd (w.getLastD 0)) q r with
 | none=>rfl
 | some p=>rfl
inductive Rch (nd:Nat->List Nat):Nat->Nat->Prop
 | one {a b:Nat}:b∈nd a->Rch nd a b
 | more {a b c:Nat}:Rch nd a b->c∈nd b->Rch nd a c
theorem Rch.trans {nd:Nat->List Nat} {a b c:Nat} (h:Rch nd a b) (k:Rch nd b c):Rch nd a c:=by
 induction k with
 | one h'=>exact .more h h'
 | more _ h' ih=>exact .more ih h'
theorem Zbaz {s:Nat} {way:List Nat}:∀ {xs:List Nat} {q:List (List Nat)} {r:List Bool} {q':List (List Nat)} {r':List Bool},Zbax s way xs q r=some (q',r')->(∀y∈xs,y<r.length)->
  (∀x:Nat,r[x]? =some true->r'[x]? =some true)/\(∀y∈xs,y≠s/\r'[y]? =some true)/\(∀w∈q,w∈q')/\(∀x:Nat,r'[x]? =some true->r[x]? =some true∨∃w∈q',w.getLastD 0=x)/\q'.length+cntF r'=q.length+cntF r/\r'.length=r.length
 | [],q,r,q',r',h,_=>by
  obtain⟨rfl,rfl⟩:q=q'/\r=r':=by simpa[Zbax]using h
  exact⟨λ_ h=>h,λy hy=>by simp at hy,λ_ h=>h,λ_ h=> .inl h,rfl,rfl⟩
 | x::xs,q,r,q',r',h,hl=>by
  unfold Zbax at h
  by_cases h1:x=s
  ·rw[if_pos h1]at h;cases h
  rw[if_neg h1]at h;have hxl:=hl x (by simp)
  by_cases h2:r[x]? =some true
  ·rw[if_pos h2]at h
   obtain⟨a,b,c,d,e,f⟩:=Zbaz h (λy hy=>hl y (by simp[hy]));refine⟨a,λy hy=>?_,c,d,e,f⟩
   rcases List.mem_cons.1 hy with rfl|hy
   ·exact⟨h1,a _ h2⟩
   ·exact b y hy
  ·rw[if_neg h2]at h
   have h2':r[x]? =some false:=by
    rw[List.getElem?_eq_getElem hxl]at h2⊢
    cases hb:r[x]with
    | true=>rw[hb]at h2;exact absurd rfl h2
    | false=>rfl
   obtain⟨a,b,c,d,e,f⟩:=Zbaz h (λy hy=>by rw[List.length_set];exact hl y (by simp[hy]));have hset:(r.set x true)[x]? =some true:=by rw[List.getElem?_set_self hxl]
   refine⟨λy hy=>a y ?_,λy hy=>?_,λw hw=>c w (by simp[hw]),λy hy=>?_,?_,by rw[f,List.length_set]⟩
   ·by_cases hxy:x=y
    ·subst hxy;exact hset
    ·rw[List.getElem?_set_ne hxy];exact hy
   ·rcases List.mem_cons.1 hy with rfl|hy
    ·exact⟨h1,a _ hset⟩
    ·exact b y hy
   ·rcases d y hy with h3|h3
    ·by_cases hxy:x=y
     ·subst hxy;exact .inr ⟨way ++ [x],c _ (by simp),by simp⟩
     ·rw[List.getElem?_set_ne hxy]at h3;exact .inl h3
    ·exact .inr h3
   ·have:=Zkb h2'
    rw[e,List.length_append];simp only[List.length_cons,List.length_nil];omega
theorem Zfq {s N:Nat} {nd:Nat->List Nat} (hnd:∀x<N,∀y∈nd x,y<N) (hs:s<N):∀(n:Nat) (q:List (List Nat)) (r:List Bool),q.length+cntF r<n->r.length=N->(∀w∈q,w≠[])->(∀w∈q,w.getLastD 0<N)->
  (∀x:Nat,x<N->(x=s∨r[x]? =some true)->(∃w∈q,w.getLastD 0=x)∨∀y∈nd x,y≠s/\r[y]? =some true)->bfsF s nd n q r = []->¬Rch nd s s
 | 0,q,r,h,_,_,_,_,_=>by omega
 | n+1,[],r,_,hr,_,_,hI,_=>by
  have key:∀x,Rch nd s x->x<N/\x≠s/\r[x]? =some true:=by
   intro x hx
   induction hx with
   | one h=>
    rename_i b
    rcases hI s hs (.inl rfl)with⟨w,hw,_⟩|h2
    ·simp at hw
    ·exact⟨hnd s hs _ h,h2 _ h⟩
   | more _ h ih=>
    rename_i b c _
    obtain⟨i1,_,i3⟩:=ih
    rcases hI b i1 (.inr i3)with⟨w,hw,_⟩|h2
    ·simp at hw
    ·exact⟨hnd b i1 _ h,h2 _ h⟩
  exact λh=>(key s h).2.1 rfl
 | n+1,w::q,r,h,hr,hne,hlt,hI,he=>by
  rw[bfsF]at he
  cases hx:Zbax s w (nd (w.getLastD 0)) q r with
  | none=>rw[hx]at he;exact absurd he (hne w (by simp))
  | some p=>
   obtain⟨q',r'⟩:=p;rw[hx]at he;simp only at he;have hwl:=hlt w (by simp);obtain⟨a,b,c,d,e,f⟩:=Zbaz hx (λy hy=>by rw[hr];exact hnd _ hwl y hy);have hq':∀v∈q',v≠[]/\v.getLastD 0<N:=by
    have:∀(xs:List Nat) (q:List (List Nat)) (r:List Bool),Zbax s w xs q r=some (q',r')->(∀y∈xs,y<N)->(∀v∈q,v≠[]/\v.getLastD 0<N)->∀v∈q',v≠[]/\v.getLastD 0<N:=by
     intro xs
     induction xs with
     | nil=>
         intro q r h _ hq;obtain⟨rfl,rfl⟩:q=q'/\r=r':=by simpa[Zbax]using h
         exact hq
     | cons x xs ih=>
      intro q r h hy hq;unfold Zbax at h;split at h
      ·cases h
      split at h
      ·exact ih _ _ h (λy hy'=>hy y (by simp[hy'])) hq
      ·refine ih _ _ h (λy hy'=>hy y (by simp[hy'])) ?_
       intro v hv
       rcases List.mem_append.1 hv with hv|hv
       ·exact hq v hv
       ·obtain rfl:v=w ++ [x]:=by simpa using hv
        exact⟨by simp,by simpa using hy x (by simp)⟩
    exact this _ _ _ hx (λy hy=>hnd _ hwl y hy) (λv hv=>⟨hne v (by simp[hv]),hlt v (by simp[hv])⟩)
   refine Zfq hnd hs n q' r' (by simp only[List.length_cons]at h;omega) (by rw[f,hr]) (λv hv=>(hq' v hv).1) (λv hv=>(hq' v hv).2) ?_ he;intro x hxN hxr;have hxr':(x=s∨r[x]? =some true)∨∃w∈q',w.getLastD 0=x:=by
    rcases hxr with h|h
    ·exact .inl (.inl h)
    ·rcases d x h with h|h
     ·exact .inl (.inr h)
     ·exact .inr h
   rcases hxr' with h1|h1
   ·rcases hI x hxN h1 with⟨v,hv,e⟩|h2
    ·rcases List.mem_cons.1 hv with rfl|hv
     ·right;intro y hy;rw[e]at b;exact b y hy
     ·exact .inl ⟨v,c v hv,e⟩
    ·exact .inr λy hy=>⟨(h2 y hy).1,a y (h2 y hy).2⟩
   ·exact .inl h1
theorem Zbia {s N:Nat} {nd:Nat->List Nat} (hnd:∀x<N,∀y∈nd x,y<N) (hs:s<N) (h:Zbhz s nd N = []):¬Rch nd s s:=by
 have one:∀w∈[[s]],w = [s]:=λw hw=>by simpa using hw
 refine Zfq hnd hs (N+2) [[s]] (List.replicate N false) (by rw[Zka];simp;omega) (by simp) (λw hw=>by rw[one w hw];simp) (λw hw=>by rw[one w hw];simpa using hs) ?_ h;intro x hx hxr
 rcases hxr with rfl|h
 ·exact .inl ⟨[x],by simp,by simp⟩
 ·rw[List.getElem?_replicate]at h;split at h<;>simp at h
theorem Zcn:∀ {ks L:List ByteArray},(addS L ks).length=L.length+ks.length->ks.Nodup/\∀k∈ks,k∉L
 | [],L,_=>⟨List.nodup_nil,λk hk=>by simp at hk⟩
 | k::ks,L,h=>by
  have e:addS L (k::ks)=addS (insS L k) ks:=rfl;rw[e]at h;have h1:=Zco ks (insS L k);have h2:=Ztb L k;simp only[List.length_cons]at h;have hk:k∉L:=by
   intro hm;have:insS L k=L:=by unfold insS;rw[if_pos (Zsj.2 hm)]
   rw[this]at h1 h;omega
  have hi:insS L k=L ++ [k]:=by unfold insS;rw[if_neg (λh=>hk (Zsj.1 h))]
  obtain⟨i1,i2⟩:=Zcn (ks:=ks) (L:=insS L k) (by omega);rw[hi]at i2;refine⟨List.nodup_cons.2 ⟨λhm=>i2 k hm (by simp),i1⟩,λa ha=>?_⟩
  rcases List.mem_cons.1 ha with rfl|ha
  ·exact hk
  ·exact λhm=>i2 a ha (by simp[hm])
theorem Zpk {rs:List RuleS} {a:ByteArray}:a∈foS rs↔∃r∈rs,a∈r.outs:=by
 have h:∀(rs:List RuleS) (L:List ByteArray),a∈rs.foldl (λL r=>addS L r.outs) L↔a∈L∨∃r∈rs,a∈r.outs:=by
  intro rs
  induction rs with
  | nil=>intro L;simp
  | cons r rs ih=>intro L;rw[List.foldl_cons,ih,Zcp];simp[or_assoc]
 unfold foS;rw[h];simp
theorem Zbbb {rs:List RuleS} {a:ByteArray}:a∈nmS rs↔∃r∈rs,a=r.name:=by
 have h:∀(rs:List RuleS) (L:List ByteArray),a∈rs.foldl (λL r=>addS L [r.name]) L↔a∈L∨∃r∈rs,a=r.name:=by
  intro rs
  induction rs with
  | nil=>intro L;simp
  | cons r rs ih=>intro L;rw[List.foldl_cons,ih,Zcp];simp[or_assoc]
 unfold nmS;rw[h];simp
structure OkTog (rs:List RuleS):Prop where
 each:∀r∈rs,Zbip r=0
 few:rs.length<=40
 names:∀(i j:Nat) x y,rs[i]? =some x->rs[j]? =some y->i<j->x.name≠y.name
 own:∀r∈rs,r.outs.Nodup
 files:∀(i j:Nat) x y,rs[i]? =some x->rs[j]? =some y->i<j->∀a∈x.outs,a∉y.outs
 after:∀r∈rs,∀a∈r.after,∃x∈rs,a=x.name
theorem Zbgg {n:Nat} {p:Nat->Bool} (h:(List.range n).find? p=none) {k:Nat} (hk:k<n):p k=false:=by
 have:=List.find?_eq_none.1 h k (by simpa using hk);simpa using this
theorem Zbcj {rs:List RuleS} (h:(Zet rs).1=0):OkTog rs:=by
 unfold Zet at h
 cases h1:rs.find? (λr=> !decide (Zbip r=0))with
 | some r=>
  rw[h1]at h;have:=List.find?_some h1;simp only[Bool.not_eq_true',decide_eq_false_iff_not]at this;exact absurd h this
 | none=>
  rw[h1]at h;simp only at h;split at h
  ·exact absurd h (by decide)
  rename_i hf
  cases h2:(List.range rs.length).find? (takP rs)with
  | some k=>rw[h2]at h;exact absurd (show(2:Int)=0 from h) (by decide)
  | none=>
   rw[h2]at h;simp only at h
   cases h3:(List.range rs.length).find? (astP rs)with
   | some k=>rw[h3]at h;exact absurd (show(2:Int)=0 from h) (by decide)
   | none=>
    have hT:∀(k:Nat) x,rs[k]? =some x->x.name∉nmS (rs.take k)/\x.outs.Nodup/\∀a∈x.outs,a∉foS (rs.take k):=by
     intro k x hx;have:=Zbgg h2 (List.getElem?_eq_some_iff.1 hx).1;unfold takP at this;rw[hx]at this;simp only[Option.map_some,Option.getD_some]at this;unfold takB at this;rw[Bool.or_eq_false_iff]at this;obtain⟨t1,t2⟩:=this;simp only[Bool.not_eq_false',decide_eq_true_eq]at t2;exact⟨λhm=>(by rw[Zsj.2 hm]at t1;exact absurd t1 (by decide)),Zcn t2⟩
    have hlow:∀ {i j:Nat} {x:RuleS},rs[i]? =some x->i<j->x∈rs.take j:=fun {i j x} hx hij=>List.mem_of_getElem? (i:=i) (by rw[List.getElem?_take,if_pos hij];exact hx)
    refine⟨λr hr=>?_,by omega,λi j x y hx hy hij e=>?_,λr hr=>?_,λi j x y hx hy hij a ha hb=>?_,λr hr a ha=>?_⟩
    ·have:=List.find?_eq_none.1 h1 r hr
     simpa using this
    ·exact(hT j y hy).1 (Zbbb.2 ⟨x,hlow hx hij,e.symm⟩)
    ·obtain⟨k,hk⟩:=List.getElem?_of_mem hr
     exact(hT k r hk).2.1
    ·exact(hT j y hy).2.2 a hb (Zpk.2 ⟨x,hlow hx hij,ha⟩)
    ·obtain⟨k,hk⟩:=List.getElem?_of_mem hr
     have:=Zbgg h3 (List.getElem?_eq_some_iff.1 hk).1;unfold astP at this;rw[hk]at this;simp only[Option.map_some,Option.getD_some,Bool.not_eq_false',List.all_eq_true]at this;exact Zbbb.1 (Zsj.1 (this a ha))
theorem Zbry {ks:List ByteArray} {i j:Nat} {x:ByteArray}:∀ {f:ByteArray->Option Nat},Zbru f ks i x=some j->(x∈ks/\j=i)∨(x∉ks/\f x=some j):=by
 induction ks with
 | nil=>intro f h;exact .inr ⟨by simp,h⟩
 | cons k ks ih=>
  intro f h;have e:Zbru f (k::ks) i=Zbru (updF f k i) ks i:=rfl;rw[e]at h
  rcases ih h with⟨h1,h2⟩|⟨h1,h2⟩
  ·exact .inl ⟨by simp[h1],h2⟩
  ·unfold updF at h2
   by_cases hk:k=x
   ·subst hk
    simp only[if_true]at h2;exact .inl ⟨by simp,(Option.some.inj h2).symm⟩
   ·rw[if_neg hk]at h2
    exact .inr ⟨by simp[h1];exact λe=>hk e.symm,h2⟩
theorem Zbrv {ks:List ByteArray} {i:Nat} {x:ByteArray} (f:ByteArray->Option Nat) (h:x∈ks):Zbru f ks i x=some i:=by
 cases e:Zbru f ks i x with
 | some j=>
       rcases Zbry e with⟨_,rfl⟩|⟨h1,_⟩
       · rfl
       · exact absurd h h1
 | none=>
  exfalso
  have:∀(ks:List ByteArray) (f:ByteArray->Option Nat),(x∈ks∨(f x).isSome=true)->(Zbru f ks i x).isSome=true:=by
   intro ks
   induction ks with
   | nil=>
        intro f h;rcases h with h|h
        · simp at h
        · exact h
   | cons k ks ih=>
    intro f h;show(Zbru (updF f k i) ks i x).isSome=true;apply ih
    by_cases hk:k=x
    ·right;unfold updF;rw[if_pos hk];rfl
    ·rcases h with h|h
     ·rcases List.mem_cons.1 h with rfl|h
      ·exact absurd rfl hk
      ·exact .inl h
     ·right;unfold updF;rw[if_neg hk];exact h
  have:=this ks f (.inl h);rw[e]at this;cases this
theorem Zbrx {ks:List ByteArray} {i:Nat} {x:ByteArray} (f:ByteArray->Option Nat) (h:x∉ks):Zbru f ks i x=f x:=by
 induction ks generalizing f with
 | nil=>rfl
 | cons k ks ih=>
  show Zbru (updF f k i) ks i x=f x;rw[ih _ (λh'=>h (by simp[h']))];unfold updF;rw[if_neg (λe=>h (by simp[e]))]
theorem Zzi {rs:List RuleS} {x:ByteArray}:∀ {n j:Nat},mkrN rs n x=some j->j<n/\x∈Zbdg rs j
 | 0,j,h=>by simp[mkrN]at h
 | n+1,j,h=>by
  rw[mkrN]at h
  rcases Zbry h with⟨h1,rfl⟩|⟨_,h2⟩
  ·exact⟨Nat.lt_succ_self _,h1⟩
  ·have:=Zzi h2;exact⟨by omega,this.2⟩
theorem Zbfe {rs:List RuleS} {x:ByteArray}:∀ {n j:Nat},plcN rs n x=some j->j<n/\x=nmAt rs j
 | 0,j,h=>by simp[plcN]at h
 | n+1,j,h=>by
  rw[plcN]at h;unfold updF at h;split at h
  ·rename_i e
   obtain rfl:=Option.some.inj h;exact⟨Nat.lt_succ_self _,e.symm⟩
  ·have:=Zbfe h;exact⟨by omega,this.2⟩
theorem Zbdh {rs:List RuleS} {k:Nat} {r:RuleS} (h:rs[k]? =some r):Zbdg rs k=r.outs:=by unfold Zbdg;rw[h];rfl
theorem Zzh {rs:List RuleS} (hT:OkTog rs) {k:Nat} {r:RuleS} {x:ByteArray} (hr:rs[k]? =some r) (hx:x∈r.outs):∀ {n:Nat},k<n->n<=rs.length->mkrN rs n x=some k
 | 0,h,_=>by omega
 | n+1,h,hn=>by
  rw[mkrN]
  by_cases e:k=n
  ·subst e
   rw[Zbdh hr];exact Zbrv _ hx
  ·obtain⟨y,hy⟩:∃y,rs[n]? =some y:=⟨rs[n]'(by omega),List.getElem?_eq_getElem _⟩
   rw[Zbdh hy,Zbrx _ (hT.files k n r y hr hy (by omega) x hx)];exact Zzh hT hr hx (by omega) (by omega)
theorem Zbfd {rs:List RuleS} (hT:OkTog rs) {k:Nat} {r:RuleS} (hr:rs[k]? =some r):∀ {n:Nat},k<n->n<=rs.length->plcN rs n r.name=some k
 | 0,h,_=>by omega
 | n+1,h,hn=>by
  rw[plcN]
  by_cases e:k=n
  ·subst e
   unfold updF nmAt;rw[hr];simp
  ·obtain⟨y,hy⟩:∃y,rs[n]? =some y:=⟨rs[n]'(by omega),List.getElem?_eq_getElem _⟩
   unfold updF nmAt;rw[hy];simp only[Option.map_some,Option.getD_some];rw[if_neg (λe=>hT.names k n r y hr hy (by omega) e.symm)];exact Zbfd hT hr (by omega) (by omega)
theorem Zbar {rs:List RuleS} {k j:Nat}:j∈Zban rs k↔(∃a∈Zta rs k,mkrN rs rs.length a=some j)∨∃a∈Zcs rs k,plcN rs rs.length a=some j:=by
 unfold Zban srtN;rw[(List.mergeSort_perm _ _).mem_iff,List.mem_append,List.mem_filterMap,List.mem_filterMap]
theorem Zbaq {rs:List RuleS} {k j:Nat} (h:j∈Zban rs k):j<rs.length:=by
 rcases Zbar.1 h with⟨a,_,h⟩|⟨a,_,h⟩
 ·exact(Zzi h).1
 ·exact(Zbfe h).1
def fcL (nd:Nat->List Nat) (N:Nat):List Nat->List Nat
 | []=>[]
 | s::l=>if Zbhz s nd N = []then fcL nd N l else Zbhz s nd N
def Zot (rs:List RuleS):List ByteArray:=(fcL (Zban rs) rs.length (List.range rs.length)).map (nmAt rs)
theorem Znj {nd:Nat->List Nat} {N:Nat}:∀ {l:List Nat},fcL nd N l = []->∀s∈l,Zbhz s nd N = []
 | [],_,s,hs=>by simp at hs
 | a::l,h,s,hs=>by
  unfold fcL at h;split at h
  ·rename_i h1
   rcases List.mem_cons.1 hs with rfl|hs
   ·exact h1
   ·exact Znj h s hs
  ·rename_i h1;exact absurd h h1
theorem Zov {rs:List RuleS} (h:Zot rs = []):∀s,s<rs.length->¬Rch (Zban rs) s s:=by
 intro s hs;have h1:fcL (Zban rs) rs.length (List.range rs.length) = []:=by simpa[Zot]using h
 exact Zbia (λx _ y hy=>Zbaq hy) hs (Znj h1 s (by simpa using hs))
theorem Zbay {s N:Nat} {nd:Nat->List Nat} {y:List Nat}:∀ {xs:List Nat} {q:List (List Nat)} {r:List Bool} {q':List (List Nat)} {r':List Bool},WaysOk s nd N q r->y.length+cntF r<=N+1->(∀z∈y,z<N)->(∀x∈xs,x<N)->Zbax s y xs q r=some (q',r')->WaysOk s nd N q' r'
 | [],q,r,q',r',hW,_,_,_,h=>by
  obtain⟨rfl,rfl⟩:q=q'/\r=r':=by simpa[Zbax]using h
  exact hW
 | x::xs,q,r,q',r',hW,hy,hz,hx,h=>by
  unfold Zbax at h;split at h
  ·cases h
  have hxl:=hx x (by simp)
  by_cases h2:r[x]? =some true
  ·rw[if_pos h2]at h
   exact Zbay hW hy hz (λz hz'=>hx z (by simp[hz'])) h
  ·rw[if_neg h2]at h
   have h2':r[x]? =some false:=by
    have hl:x<r.length:=by rw[hW.size];exact hxl
    rw[List.getElem?_eq_getElem hl]at h2⊢
    cases hb:r[x]with
    | true=>rw[hb]at h2;exact absurd rfl h2
    | false=>rfl
   have:=Zkb h2';exact Zbay (hW.push hy hz hxl h2') (by omega) hz (λz hz'=>hx z (by simp[hz'])) h
theorem Zfr {s N:Nat} {nd:Nat->List Nat} (hnd:∀x<N,∀y∈nd x,y<N):∀(n:Nat) (q:List (List Nat)) (r:List Bool),WaysOk s nd N q r->(∀x∈bfsF s nd n q r,x<N)/\(bfsF s nd n q r).length<=N+1
 | 0,_,_,_=>by simp[bfsF]
 | _+1,[],_,_=>by simp[bfsF]
 | n+1,w::q,r,hW=>by
  rw[Zfp]
  cases hx:Zbax s w (nd (w.getLastD 0)) q r with
  | none=>exact⟨hW.lt w (by simp),by have:=hW.len w (by simp);show w.length<=N+1;omega⟩
  | some p=>
   obtain⟨q',r'⟩:=p;have hne:=hW.ne w (by simp);have hl:w.getLastD 0<N:=by
    rw[List.getLastD_eq_getLast?,List.getLast?_eq_some_getLast hne];exact hW.lt w (by simp) _ (List.getLast_mem hne)
   exact Zfr hnd n q' r' (Zbay hW.tail (hW.len w (by simp)) (hW.lt w (by simp)) (hnd _ hl) hx)
theorem Zbib {s N:Nat} {nd:Nat->List Nat} (hnd:∀x<N,∀y∈nd x,y<N) (hs:s<N):(∀x∈Zbhz s nd N,x<N)/\(Zbhz s nd N).length<=N+1:=Zfr hnd _ _ _ (Zbsq hs)
def nmLe (x y:RuleS):Bool:=decide (Go.Lib.compareBytes x.name.data.toList y.name.data.toList<=0)
def Zbng (rs:List RuleS):List RuleS:=rs.mergeSort nmLe
open Go.RowKit
def QRow (w:World) (base:Nat) (e:TypeId) (v:Value) (xs:List Value):Prop:=
 (v = .slice none 0 0/\xs = [])∨∃g o cap cur,v = .slice (some ⟨g,o,none⟩) xs.length cap/\base<=g/\w.heap[g]? =some (.cells cur e (0,0))/\xs.length<=cap/\cap<=maxLen/\o+cap<=cur.size/\∀(j:Nat) x,xs[j]? =some x->cur[o+j]? =some x
theorem QRow.shape {w:World} {base:Nat} {e:TypeId} {v:Value} {xs:List Value} (h:QRow w base e v xs):∃a c,v = .slice a xs.length c/\xs.length<=c/\c<=maxLen/\∀(j:Nat) x,xs[j]? =some x->∃b o,a=some ⟨b,o,none⟩/\base<=b/\w.cell? ⟨b,o+j,none⟩=some x:=by
 rcases h with⟨rfl,rfl⟩|⟨g,o,cap,cur,rfl,hb,hg,h1,h2,h3,h4⟩
 ·exact⟨_,_,rfl,Nat.le_refl _,Nat.zero_le _,λj x hx=>by simp at hx⟩
 ·refine⟨_,_,rfl,h1,h2,λj x hx=>⟨g,o,rfl,hb,?_⟩⟩
  simp only[World.cell?,hg,Option.isSome_none,Bool.false_eq_true,if_false];exact h4 j x hx
theorem QRow.lt {w:World} {base:Nat} {e:TypeId} {v:Value} {xs:List Value} (h:QRow w base e v xs):∀k,v.ownBlock=some k->base<=k/\k<w.heap.size:=by
 rcases h with⟨rfl,rfl⟩|⟨g,o,cap,cur,rfl,hb,hg,h1,h2,h3,h4⟩
 ·intro k hk;cases hk
 ·intro k hk
  obtain rfl:g=k:=by simpa[Value.ownBlock]using hk
  exact⟨hb,(Array.getElem?_eq_some_iff.1 hg).1⟩
theorem QRow.heap {w w':World} {base:Nat} {e:TypeId} {v:Value} {xs:List Value} (h:QRow w base e v xs) (hb:∀k,v.ownBlock=some k->w'.heap[k]? =w.heap[k]?):QRow w' base e v xs:=by
 rcases h with h|⟨g,o,cap,cur,rfl,hb',hg,h1⟩
 ·exact .inl h
 ·exact .inr ⟨g,o,cap,cur,rfl,hb',(hb g rfl).trans hg,h1⟩
theorem QRow.drop {w:World} {base:Nat} {e:TypeId} {a:Option Addr} {n c:Nat} {x:Value} {xs:List Value} (h:QRow w base e (.slice a n c) (x::xs)):QRow w base e (.slice (if c=1 then a else a.map (·.add (1*1))) (n-1) (c-1)) xs:=by
 rcases h with⟨_,h⟩|⟨g,o,cap,cur,q,hb,hg,h1,h2,h3,h4⟩
 ·cases h
 ·injection q with q1 q2 q3
  subst q1 q2 q3;rw[List.length_cons]at h1⊢
  by_cases hc:c=1
  ·subst hc
   obtain rfl:xs = []:=List.eq_nil_of_length_eq_zero (by omega);exact .inr ⟨g,o,0,cur,by simp,hb,hg,by simp,by omega,by omega,λj x hx=>by simp at hx⟩
  ·refine .inr ⟨g,o+1,c-1,cur,by rw[if_neg hc];simp[Addr.add_lit],hb,hg,by omega,by omega,by omega,λj y hy=>?_⟩
   have:=h4 (j+1) y (by simpa using hy);rw[show o+1+j=o+(j+1) by omega];exact this
theorem Zbkd {P:Program} {w:World} (base:Nat) (t ty e:TypeId) (i:TypeInfo) (z:Value) (bytes:Nat) (ht:P.underlying t=some (.slice e)) (hi:P.info? e=some i) (hz:i.zero=some z) (hsize:i.size=1) (hby:i.bytes=bytes) (hzs:z.cells.size=1)
  {v:Value} {xs:List Value} (h:QRow w base e v xs) (ad:Addr) (c:Nat) (x:Value) (hx:w.cell? ad=some x) (h1:x.oneCell'=true) (h63:xs.length+1<=maxLen) (hbytes:(xs.length+1)*bytes<=140737488355328) (hbase:base<=w.heap.size):
  ∃v' w',(Builtin.append_ #[t,t] ty #[v,.slice (some ad) 1 c]).run P w = .ok v' w'/\QRow w' base e v' (xs ++ [x])/\w.grownBy w' v.ownBlock/\(v'.ownBlock=v.ownBlock∨v'.ownBlock=some w.heap.size)/\v'.ownBlock≠none:=by
 have hs:Src P i.size t (.slice (some ad) 1 c) 1 [x] w:=Src.ofSlice w ht ad 1 c [x] (by rw[hsize];rfl) (λj u hu=>by
  match j,hu with
  | 0,hu=>
      obtain rfl:x=u:=by simpa using hu
      simpa[Addr.add]using hx) (λu hu=>by
       obtain rfl:u=x:=by simpa using hu
       exact h1)
 have hsmall:xs.length+1<=9223372036854775807:=by simp only[maxLen]at h63;omega
 have grow:∀(bs:Option Addr) (sc:Nat),v = .slice bs xs.length sc->sc<xs.length+1->(Builtin.firstCells i.size xs.length (.slice bs xs.length sc)).run P w.drew = .ok xs.toArray w.drew->
   ∃v' w',(Builtin.append_ #[t,t] ty #[v,.slice (some ad) 1 c]).run P w = .ok v' w'/\QRow w' base e v' (xs ++ [x])/\w.grownBy w' v.ownBlock/\(v'.ownBlock=v.ownBlock∨v'.ownBlock=some w.heap.size)/\v'.ownBlock≠none:=by
  rintro bs sc rfl hg hold;have hrun:=run_append_grow_src (P:=P) w t t ty e i z ht hi hz bs xs.length sc xs hold _ 1 [x] hs hg (by omega) (growslice_fits hg (by rw[hby];exact hbytes));have hge:=grownCap_ge w (xs.length+1) sc e;have hcm:=grownCap_le_maxLen w (xs.length+1) sc e h63;refine⟨_,_,hrun,.inr ⟨w.heap.size,0,grownCap w (xs.length+1) sc e,_,by rw[List.length_append];rfl,hbase,heap_alloc_new w.drew _,by rw[List.length_append];exact hge,hcm,?_,λj u hu=>?_⟩,⟨rfl,rfl,rfl,by simp,λk hk _=>Below.heap_alloc w.drew _ k hk⟩,.inr rfl,by simp[Value.ownBlock]⟩
  ·rw[Array.size_append,List.size_toArray,size_zeroCells,hzs,List.length_append]
   simp only[List.length_cons,List.length_nil];omega
  ·rw[Nat.zero_add,Array.getElem?_append_left (by rw[List.size_toArray];exact(List.getElem?_eq_some_iff.1 hu).1),List.getElem?_toArray]
   exact hu
 rcases h with⟨rfl,rfl⟩|⟨g,o,cap,cur,rfl,hb,hg,h2,h3,h4,h5⟩
 ·exact grow none 0 rfl (by simp) (run_firstCells_none _ _ _ _ _)
 ·by_cases hroom:xs.length+1<=cap
  ·have hlt:o+xs.length<cur.size:=by omega
   have hr:=run_append_room_src (P:=P) w t t ty e i ht hi g o xs.length cap _ 1 [x] hs hroom
    (λj hj=>by
     obtain rfl:j=0:=by simpa using hj
     simp only[hsize,World.cell?,hg,Option.isSome_none,Bool.false_eq_true,if_false,Nat.mul_one,Nat.add_zero];rw[Array.getElem?_eq_getElem hlt];rfl)
    (λj hj=>by simp[World.frozen?,hg])
   refine⟨_,_,hr,.inr ⟨g,o,cap,cur.setIfInBounds (o+xs.length) x,by rw[List.length_append];rfl,hb,?_,by rw[List.length_append];exact hroom,h3,by rw[Array.size_setIfInBounds];exact h4,λj u hu=>?_⟩,?_,.inl rfl,by simp[Value.ownBlock]⟩
   ·rw[hsize,Nat.mul_one]
    show(w.setCell ⟨g,o+xs.length,none⟩ x).heap[g]? =_;rw[setCell_eq_setRow w g _ cur e (0,0) x hg];exact setRow_heap w g cur _ e (0,0) hg
   ·by_cases hj:j<xs.length
    ·rw[List.getElem?_append_left hj]at hu
     rw[Array.getElem?_setIfInBounds_ne (by omega)];exact h5 j u hu
    ·rw[List.getElem?_append_right (by omega)]at hu
     have hjl:=(List.getElem?_eq_some_iff.1 hu).1;obtain rfl:j=xs.length:=by simp at hjl;omega
     obtain rfl:x=u:=by simpa using hu
     rw[Array.getElem?_setIfInBounds_self_of_lt hlt]
   ·exact⟨rfl,rfl,rfl,by simp[World.setCells,World.setCell],λk hk hne=>by
     show(w.setCell ⟨g,_,none⟩ x).heap[k]? =_;exact Below.heap_setCell w _ _ k (λe=>hne (by rw[e];rfl))⟩
  ·have holds:∀j u,xs[j]? =some u->w.cell? ((⟨g,o,none⟩:Addr).add j)=some u:=λj u hu=>by
    rw[Addr.add_lit];simp only[World.cell?,hg,Option.isSome_none,Bool.false_eq_true,if_false];exact h5 j u hu
   exact grow (some ⟨g,o,none⟩) cap rfl (by omega) (by
    have:=run_firstCells_some (P:=P) w.drew i.size xs.length ⟨g,o,none⟩ xs.length cap xs (by rw[hsize];omega) (by simpa using holds);exact this)
theorem Zbug {P:Program} {w:World} {ops:Array Oper} {rest:List Oper} {o:Oper} {a:Act} {Q:Exit->Act->World->Prop} (hgd:o.guard=none) (s x:Operand) (t:TypeId)
  (ho:o.op = .call { callee:= .builtin .append,args:=#[s,x],argTypes:=#[t,t] })
  (base:Nat) (e:TypeId) (i:TypeInfo) (z:Value) (bytes:Nat) (ht:P.underlying t=some (.slice e)) (hi:P.info? e=some i) (hz:i.zero=some z) (hsize:i.size=1) (hby:i.bytes=bytes) (hzs:z.cells.size=1)
  (v:Value) (xs:List Value) (hs:a.eval s=v) (hown:QRow w base e v xs)
  (ad:Addr) (c:Nat) (u:Value) (hx:a.eval x = .slice (some ad) 1 c) (hu:w.cell? ad=some u) (h1:u.oneCell'=true)
  (h63:xs.length+1<=maxLen) (hbytes:(xs.length+1)*bytes<=140737488355328) (hbase:base<=w.heap.size)
  (h:∀v' w',QRow w' base e v' (xs ++ [u])->w.grownBy w' v.ownBlock->(v'.ownBlock=v.ownBlock∨v'.ownBlock=some w.heap.size)->wpList P ops Q rest (a.put o.dst v') w'):
  wpList P ops Q (o::rest) a w:=by
 refine wpList_plain hgd λK hK=>?_
 obtain⟨v',w',hr,h2,h3,h4,_⟩:=Zbkd (P:=P) base t o.type e i z bytes ht hi hz hsize hby hzs hown ad c u hu h1 h63 hbytes hbase;unfold Oper.wp execOp;simp only[ho,resolve,invoke,builtin,Sem.run_bind,Sem.run_pure,Result.andThen_ok,List.map_toArray,List.map_cons,List.map_nil,hs,hx,hr];exact hK _ _ (h v' w' h2 h3 h4)
open Go.Shelf Go.Maps
def Zag (w:World) (xs:List Nat) (e:Ending) (w':World):Prop:=∃v,e = .returned v/\OwnInts w.heap.size w' v xs/\Below w.heap.size w w'
set_option maxHeartbeats 2000000 in
set_option maxRecDepth 100000 in
theorem Zjg (v:Value) (xs:List Nat) (w:World) (h:IsInts w v xs) (hn:xs.length<=8796093022208):
  Calls prog 180 #[v] w (Zag w xs):=by
 obtain⟨a,c,rfl,h1,h1m,h2⟩:=h;obtain⟨i0,hi,hz0,hz1,hz2⟩:=info_parts Zsn
 cases a with
 | none=>
  have hfs:xs = []:=by
   rcases xs with _|⟨f,fs⟩
   ·rfl
   ·obtain⟨b,o,ha,_⟩:=h2 (by simp)
    cases ha
  subst hfs;have hq:∀w,(Go.binOp .eql 131 (.slice none 0 c) (.slice none 0 0)).run prog w = .ok (.bool true) w:=λw=>Lib.run_eql_slice_nil w 131 3 none 0 c 0 0 underlying131
  go_enter func180,ntmps180
  go_wp2;go_ret;exact⟨_,rfl,World.ownsRow_nil _ _ _ _,Below.refl _ _⟩
 | some ad=>
  obtain⟨ab,ao,asp⟩:=ad;have hq:∀w,(Go.binOp .eql 131 (.slice (some ⟨ab,ao,asp⟩) xs.length c) (.slice none 0 0)).run prog w = .ok (.bool false) w:=λw=>Lib.run_eql_slice_nil w 131 3 _ _ _ _ _ underlying131
  have hcells:∀j u,(xs.map intV)[j]? =some u->w.cell? ((⟨ab,ao,asp⟩:Addr).add j)=some u:=by
   intro j u hu;rw[List.getElem?_map]at hu;obtain⟨x,hx,rfl⟩:=Option.map_eq_some_iff.1 hu;obtain⟨b,o,ha,_,hc⟩:=h2 (by rintro rfl;simp at hx)
   cases ha
   rw[Addr.add_lit];exact hc j x hx
  have HC:=hid hcells;clear hcells h2
  go_enter func180,ntmps180
  go_wp2_with (at_builtin;refine wpList_append_own _ rfl _ _ 131 rfl w.heap.size 3 i0 _ 1 8 underlying131 hi hz0 hz1 hz2 rfl (by decide) _ _ _ rfl (World.ownsRow_made w #[] 0 (Nat.le_refl _) (Nat.zero_le _) (by simp)) ⟨ab,ao,asp⟩ xs.length c (xs.map intV) rfl ?qc1 ?qc2 ?qc3 ?qc4 ?qc5 ?qc6 ?_)
  case qc1=>simp
  case qc2=>
   intro j u hj;exact Lib.cell?_alloc_some _ (HC.out j u hj)
  case qc3=>
   intro u hu;obtain⟨x,_,rfl⟩:=List.mem_map.1 hu;rfl
  case qc4=>unfold maxLen;omega
  case qc5=>omega
  case qc6=>simp
  intro v' w1 hown hgrow hnil;go_wp2;go_ret;have hb:Below w.heap.size w w1:=((Below.refl _ w).alloc (Nat.le_refl _) _).grown hgrow (by simp) (by intro k hk;simp[Value.ownBlock]at hk;omega);exact⟨_,rfl,by unfold OwnInts;simpa using hown,hb⟩
structure RouS (w0:World) (n:Nat) (qv:Value) (q:List (List Nat)) (r:List Bool) (W:World):Prop where
 row:∃us:List Value,QRow W (n+1) 131 qv us/\us.length=q.length/\∀(j:Nat) u x,us[j]? =some u->q[j]? =some x->OwnInts (n+1) W u x
 marks:BoolR W n r
 below:Below n w0 W
 size:n+1<=W.heap.size
theorem Zbdo {B:Nat} {w w':World} {v:Value} {xs:List Nat} {row:Option Nat} (h:OwnInts B w v xs) (hg:w.grownBy w' row) (hne:∀k,row=some k->v.ownBlock≠some k):OwnInts B w' v xs:=by
 refine World.ownsRow.kept h hg ?_
 cases hb:v.ownBlock with
 | none=>exact .inl rfl
 | some b=>exact .inr λe=>hne b e.symm hb
theorem below_grown {B:Nat} {w w':World} (h:Below B w w') (hB:w.heap.size<=B):w.grownBy w' none:=⟨h.os,h.tape,h.output,h.size,λk hk _=>h.block k (by omega)⟩
theorem QRow.type {w:World} {base:Nat} {e:TypeId} {v:Value} {xs:List Value} (h:QRow w base e v xs) {b:Nat} (hb:v.ownBlock=some b):∃cur,w.heap[b]? =some (.cells cur e (0,0)):=by
 rcases h with⟨rfl,rfl⟩|⟨g,o,cap,cur,rfl,_,hg,_⟩
 ·cases hb
 ·obtain rfl:g=b:=by simpa[Value.ownBlock]using hb
  exact⟨_,hg⟩
theorem OwnInts.type {B:Nat} {w:World} {v:Value} {xs:List Nat} (h:OwnInts B w v xs) {b:Nat} (hb:v.ownBlock=some b):B<=b/\∃cur,w.heap[b]? =some (.cells cur 3 (0,0)):=by
 rcases h.2 with⟨rfl,_⟩|⟨g,cap,cur,rfl,hB,hg,_⟩
 ·cases hb
 ·obtain rfl:g=b:=by simpa[Value.ownBlock]using hb
  exact⟨hB,_,hg⟩
theorem BoolR.heap {w w':World} {g:Nat} {ms:List Bool} (h:BoolR w g ms) (hb:w'.heap[g]? =w.heap[g]?):BoolR w' g ms:=by unfold BoolR at h⊢;rw[hb];exact h
theorem Zbrj:(3:TypeId)≠131:=by decide
theorem RouS.mark {w0:World} {n x:Nat} {qv:Value} {q:List (List Nat)} {r:List Bool} {W:World} (h:RouS w0 n qv q r W):RouS w0 n qv q (r.set x true) (W.setCell ⟨n,x,none⟩ (.bool true)):=by
 obtain⟨us,h1,h2,h3⟩:=h.row;have hg:W.grownBy (W.setCell ⟨n,x,none⟩ (.bool true)) (some n):=⟨rfl,rfl,rfl,by simp[World.setCell],λk _ hk=>Below.heap_setCell W _ _ k (λe=>hk (by rw[e]))⟩;refine⟨⟨us,h1.heap λk hk=>hg.block k (h1.lt k hk).2 (λe=>by have:=(h1.lt k hk).1;have:=Option.some.inj e;omega),h2,λj u x' hu hx=>Zbdo (h3 j u x' hu hx) hg λk e hb=>?_⟩,h.marks.set x true,h.below.setCell (p:=⟨n,x,none⟩) (Nat.le_refl _) _,by have:=h.size;have:=hg.size;omega⟩;have:=(h3 j u x' hu hx).type hb;have:=Option.some.inj e;omega
theorem RouS.later {w0:World} {n:Nat} {qv:Value} {q:List (List Nat)} {r:List Bool} {W W':World} (h:RouS w0 n qv q r W) (hb:W.grownBy W' none):RouS w0 n qv q r W':=by
 obtain⟨us,h1,h2,h3⟩:=h.row;refine⟨⟨us,h1.heap λk hk=>hb.block k (h1.lt k hk).2 (by simp),h2,λj u x' hu hx=>Zbdo (h3 j u x' hu hx) hb (by simp)⟩,h.marks.heap (hb.block n (by have:=h.size;omega) (by simp)),?_,by have:=h.size;have:=hb.size;omega⟩;exact h.below.grown hb (by have:=h.size;omega) (by simp)
theorem q_ne {B:Nat} {W:World} {qv u:Value} {us:List Value} {y:List Nat} (hq:QRow W B 131 qv us) (hu:OwnInts B W u y):∀k,qv.ownBlock=some k->u.ownBlock≠some k:=by
 intro k hk e;obtain⟨cur,hc⟩:=hq.type hk;obtain⟨_,cur',hc'⟩:=hu.type e;rw[hc]at hc';injection hc' with hc'
 injection hc' with _ ht
 exact Zbrj ht.symm
theorem RouS.push {w0:World} {n:Nat} {qv qv' v:Value} {q:List (List Nat)} {us:List Value} {x:List Nat} {r:List Bool} {W W':World} (h:RouS w0 n qv q r W) (hq:QRow W (n+1) 131 qv us) (hus:us.length=q.length) (h3:∀(j:Nat) u x,us[j]? =some u->q[j]? =some x->OwnInts (n+1) W u x) (hx:OwnInts (n+1) W v x)
  (hq':QRow W' (n+1) 131 qv' (us ++ [v])) (hb:W.grownBy W' qv.ownBlock):RouS w0 n qv' (q ++ [x]) r W':=by
 have hz:=h.size;refine⟨⟨us ++ [v],hq',by rw[List.length_append,List.length_append,hus];rfl,λj u y hu hy=>?_⟩,h.marks.heap (hb.block n (by omega) (λe=>by have:=(hq.lt n e.symm).1;omega)),h.below.grown hb (by omega) (λk e=>by have:=(hq.lt k e).1;omega),by have:=hb.size;omega⟩
 by_cases hj:j<us.length
 ·rw[List.getElem?_append_left hj]at hu
  rw[List.getElem?_append_left (by omega)]at hy;exact Zbdo (h3 j u y hu hy) hb (q_ne hq (h3 j u y hu hy))
 ·rw[List.getElem?_append_right (by omega)]at hu hy
  have hjl:=(List.getElem?_eq_some_iff.1 hu).1;simp only[List.length_cons,List.length_nil]at hjl;obtain rfl:j=us.length:=by omega
  rw[Nat.sub_self]at hu;rw[hus,Nat.sub_self]at hy;obtain rfl:v=u:=by simpa using hu
  obtain rfl:x=y:=by simpa using hy
  exact Zbdo hx hb (q_ne hq hx)
theorem RouS.pop {w0:World} {n:Nat} {a:Option Addr} {m c:Nat} {y:List Nat} {q:List (List Nat)} {r:List Bool} {W:World} (h:RouS w0 n (.slice a m c) (y::q) r W):RouS w0 n (.slice (if c=1 then a else a.map (·.add (1*1))) (m-1) (c-1)) q r W:=by
 obtain⟨us,h1,h2,h3⟩:=h.row
 cases us with
 | nil=>simp at h2
 | cons u us=>
  exact⟨⟨us,h1.drop,by simpa using h2,λj u' x' hu hx=>h3 (j+1) u' x' (by simpa using hu) (by simpa using hx)⟩,h.marks,h.below,h.size⟩
def lenV:Value->Nat
 | .slice _ n _=>n
 | _=>0
def cntW (w:World) (g:Nat):Nat:=match w.heap[g]? with
 | some (.cells cs _ _)=>cs.toList.countP λv=>match v with
  | .bool b=>b==false
  | _=>false
 | _=>0
theorem Zkc {w:World} {g:Nat} {r:List Bool} (h:BoolR w g r):cntW w g=cntF r:=by
 unfold cntW cntF;rw[show w.heap[g]? =some (.cells (r.map Value.bool).toArray 4 (0,0))from h];simp only[List.countP_map];rfl
end Go.Proofs.YtokogjhcidkckaaGreatDoor
