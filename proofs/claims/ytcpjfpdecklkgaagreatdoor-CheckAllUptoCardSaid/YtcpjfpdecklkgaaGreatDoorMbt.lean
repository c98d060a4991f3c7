import Derived.Test.YtcpjfpdecklkgaaGreatDoorMbs
namespace Go.Proofs.YtcpjfpdecklkgaaGreatDoor
open Go.RowKit Go.Shelf
theorem Zces {M:Nat->Nat->Bool} {k a b:Nat} (h:fwK M k a b=true):fwK M (k+1) a b=true:=by
 show(fwK M k a b||(fwK M k a k&&fwK M k k b))=true;rw[h,Bool.true_or]
theorem Zcex {M:Nat->Nat->Bool} {a b:Nat}:∀ {k m:Nat},k<=m->fwK M k a b=true->fwK M m a b=true
 | k,0,h,e=>by
    obtain rfl:k=0:=by omega
    exact e
 | k,m+1,h,e=>by
  by_cases g:k<=m
  ·exact Zces (Zcex g e)
  ·obtain rfl:k=m+1:=by omega
   exact e
theorem Zcew {M:Nat->Nat->Bool} {k a b:Nat} (h:fwK M (k+1) a b=true):fwK M k a b=true∨(fwK M k a k=true/\fwK M k k b=true):=by
 have h:(fwK M k a b||(fwK M k a k&&fwK M k k b))=true:=h;simpa only[Bool.or_eq_true,Bool.and_eq_true]using h
theorem Zcey {M:Nat->Nat->Bool} {k a b:Nat} (h1:fwK M k a k=true) (h2:fwK M k k b=true):fwK M (k+1) a b=true:=by
 show(fwK M k a b||(fwK M k a k&&fwK M k k b))=true;rw[h1,h2,Bool.and_self,Bool.or_true]
theorem Zceu {M:Nat->Nat->Bool}:∀ {k m a b:Nat},m<k->fwK M k a m=true->fwK M k m b=true->fwK M k a b=true
 | 0,_,_,_,h,_,_=>by omega
 | k+1,m,a,b,h,h1,h2=>by
  have e1:=Zcew h1;have e2:=Zcew h2
  by_cases g:m=k
  ·subst g
   have e1:fwK M m a m=true:=e1.elim id And.left;have e2:fwK M m m b=true:=e2.elim id And.right;exact Zcey e1 e2
  ·have hm:m<k:=by omega
   rcases e1 with e1|⟨e1,e3⟩
   ·rcases e2 with e2|⟨e2,e4⟩
    ·exact Zces (Zceu hm e1 e2)
    ·exact Zcey (Zceu hm e1 e2) e4
   ·rcases e2 with e2|⟨e2,e4⟩
    ·exact Zcey e1 (Zceu hm e3 e2)
    ·exact Zcey e1 e4
inductive RchM (M:Nat->Nat->Bool) (n:Nat):Nat->Nat->Prop
 | one {a b:Nat}:M a b=true->RchM M n a b
 | more {a c b:Nat}:M a c=true->c<n->RchM M n c b->RchM M n a b
theorem RchM.trans {M:Nat->Nat->Bool} {n a c b:Nat} (h:RchM M n a c) (hc:c<n) (k:RchM M n c b):RchM M n a b:=by
 induction h with
 | one e=>exact .more e hc k
 | more e hd _ ih=>exact .more e hd (ih hc k)
theorem Zcev {M:Nat->Nat->Bool} {n a b:Nat} (h:RchM M n a b):fwK M n a b=true:=by
 induction h with
 | one e=>exact Zcex (Nat.zero_le n) e
 | more e hc _ ih=>exact Zceu hc (Zcex (Nat.zero_le n) e) ih
theorem Zcgh {M:Nat->Nat->Bool} {n:Nat}:∀ {k:Nat},k<=n->∀ {a b:Nat},fwK M k a b=true->RchM M n a b
 | 0,_,_,_,h=> .one h
 | k+1,hk,a,b,h=>by
  rcases Zcew h with h|⟨h1,h2⟩
  ·exact Zcgh (by omega) h
  ·exact(Zcgh (by omega) h1).trans (by omega) (Zcgh (by omega) h2)
theorem Zcet {M:Nat->Nat->Bool} {n a b:Nat}:fwK M n a b=true↔RchM M n a b:=⟨Zcgh (Nat.le_refl n),Zcev⟩
theorem Zcfg {g:Nat->Int} {ok:Nat->Prop} {nm:Nat->ByteArray} {ρ:Nat->Nat} {n:Nat} (hρ:∀a b,a<n->b<n->(Op.bytesLess (nm a).toList (nm b).toList=true↔ρ a<ρ b)) (h0:g 0 = -1)
  (h1:∀k,ok k->(g k<0∨Op.bytesLess (nm k).toList (nm (g k).toNat).toList=true)->g (k+1)=(k:Int))
  (h2:∀k,¬(ok k/\(g k<0∨Op.bytesLess (nm k).toList (nm (g k).toNat).toList=true))->g (k+1)=g k):
  ∀ {k:Nat},k<=n->(g k = -1/\∀j<k,¬ok j)∨∃x:Nat,x<k/\g k=(x:Int)/\ok x/\∀j<k,ok j->ρ x<=ρ j
 | 0,_=> .inl ⟨h0,by simp⟩
 | k+1,hk=>by
  have ih:=Zcfg hρ h0 h1 h2 (k:=k) (by omega)
  by_cases c:ok k/\(g k<0∨Op.bytesLess (nm k).toList (nm (g k).toNat).toList=true)
  ·refine .inr ⟨k,by omega,h1 k c.1 c.2,c.1,λj hj ho=>?_⟩
   by_cases e:j=k
   ·subst e;exact Nat.le_refl _
   rcases ih with⟨_,ih⟩|⟨x,hx,e1,_,ih⟩
   ·exact absurd ho (ih j (by omega))
   ·rcases c.2 with c|c
    ·omega
    ·rw[e1,Int.toNat_natCast]at c
     have:=(hρ k x (by omega) (by omega)).1 c;have:=ih j (by omega) ho;omega
  ·rw[h2 k c]
   rcases ih with⟨e,ih⟩|⟨x,hx,e1,ho,ih⟩
   ·refine .inl ⟨e,λj hj ho=>?_⟩
    by_cases e':j=k
    ·subst e';exact c ⟨ho,.inl (by omega)⟩
    ·exact ih j (by omega) ho
   ·refine .inr ⟨x,by omega,e1,ho,λj hj hj'=>?_⟩
    by_cases e':j=k
    ·subst e'
     have:¬ρ j<ρ x:=λhl=>c ⟨hj',.inr (by rw[e1,Int.toNat_natCast];exact(hρ j x (by omega) (by omega)).2 hl)⟩
     omega
    ·exact ih j (by omega) hj'
theorem Zcei {C:Nat->Nat->Bool} {nm:Nat->ByteArray} {ρ:Nat->Nat} {n:Nat} (hρ:∀a b,a<n->b<n->(Op.bytesLess (nm a).toList (nm b).toList=true↔ρ a<ρ b)):(Zced C nm n = -1/\∀j<n,¬C j j=true)∨∃x:Nat,x<n/\Zced C nm n=(x:Int)/\C x x=true/\∀j<n,C j j=true->ρ x<=ρ j:=
 Zcfg (g:=Zced C nm) (ok:=λk=>C k k=true) hρ rfl (λk h g=>by rw[Zced,if_pos ⟨h,g⟩]) (λk h=>by rw[Zced,if_neg h]) (Nat.le_refl n)
theorem Zcgd {M:Nat->Nat->Bool} {nm:Nat->ByteArray} {ρ:Nat->Nat} {n p:Nat} {F:Nat->Int} {le:Int} (hρ:∀a b,a<n->b<n->(Op.bytesLess (nm a).toList (nm b).toList=true↔ρ a<ρ b)):(Zcfy M nm p F le n = -1/\∀j<n,¬(M p j=true/\F j=le))∨∃x:Nat,x<n/\Zcfy M nm p F le n=(x:Int)/\(M p x=true/\F x=le)/\∀j<n,(M p j=true/\F j=le)->ρ x<=ρ j:=
 Zcfg (g:=Zcfy M nm p F le) (ok:=λk=>M p k=true/\F k=le) hρ rfl (λk h g=>by rw[Zcfy,if_pos ⟨h.1,h.2,g⟩]) (λk h=>by rw[Zcfy,if_neg (λc=>h ⟨⟨c.1,c.2.1⟩,c.2.2⟩)]) (Nat.le_refl n)
theorem Zccn {M:Nat->Nat->Bool} {f:Nat} {F:Nat->Int}:∀ {k:Nat},(Zccl M f F k=0/\∀j<k,¬(M f j=true/\0<=F j))∨∃j,j<k/\M f j=true/\0<=F j/\Zccl M f F k=F j+1/\∀i<k,M f i=true->0<=F i->F j<=F i
 | 0=> .inl ⟨rfl,by simp⟩
 | k+1=>by
  have ih:=Zccn (M:=M) (f:=f) (F:=F) (k:=k);rw[Zccl]
  by_cases c:M f k=true/\0<=F k/\(Zccl M f F k=0∨F k+1<Zccl M f F k)
  ·rw[if_pos c]
   refine .inr ⟨k,by omega,c.1,c.2.1,rfl,λi hi hm hf=>?_⟩
   by_cases e:i=k
   ·subst e;exact Int.le_refl _
   rcases ih with⟨_,ih⟩|⟨j,hj,h1,h2,h3,ih⟩
   ·exact absurd ⟨hm,hf⟩ (ih i (by omega))
   ·have:=ih i (by omega) hm hf
    rcases c.2.2 with c|c<;>omega
  ·rw[if_neg c]
   rcases ih with⟨e,ih⟩|⟨j,hj,h1,h2,h3,ih⟩
   ·refine .inl ⟨e,λj hj ho=>?_⟩
    by_cases e':j=k
    ·subst e';exact c ⟨ho.1,ho.2,.inl e⟩
    ·exact ih j (by omega) ho
   ·refine .inr ⟨j,by omega,h1,h2,h3,λi hi hm hf=>?_⟩
    by_cases e':i=k
    ·subst e'
     have:¬(F i+1<Zccl M f F i):=λhl=>c ⟨hm,hf,.inr hl⟩
     omega
    ·exact ih i (by omega) hm hf
def rdN (M:Nat->Nat->Bool) (n f:Nat):Nat->Nat->Prop
 | 0,p=>p=f
 | v+1,p=>∃q,q<n/\M p q=true/\rdN M n f v q
def FarY (M:Nat->Nat->Bool) (n f:Nat) (F:Nat->Int) (d:Nat):Prop:=∀p<n,(F p<0/\∀u≤d,¬rdN M n f u p)∨∃v:Nat,F p=(v:Int)/\v<=d/\rdN M n f v p/\∀u<v,¬rdN M n f u p
theorem Zcdn {M:Nat->Nat->Bool} {n f:Nat}:FarY M n f (far0 f) 0:=by
 intro p _;unfold far0
 by_cases h:p=f
 ·rw[if_pos h]
  exact .inr ⟨0,rfl,Nat.le_refl _,h,by simp⟩
 ·rw[if_neg h]
  refine .inl ⟨by omega,λu hu=>?_⟩;obtain rfl:u=0:=by omega
  exact h
theorem Zcdv {M:Nat->Nat->Bool} {d:Int} {p:Nat} {G:Nat->Int} (hd:1<=d) (hp:G p<0):∀m:Nat,(farQ M d p G m=G/\∀q<m,¬(M p q=true/\G q=d-1))∨(farQ M d p G m=(λj=>if j=p then d else G j)/\∃q,q<m/\M p q=true/\G q=d-1)
 | 0=> .inl ⟨rfl,by simp⟩
 | m+1=>by
  rcases Zcdv (M:=M) hd hp m with⟨e,h⟩|⟨e,q,hq,h⟩
  ·rw[farQ,e]
   by_cases c:G p<0/\M p m=true/\G m=d-1
   ·rw[if_pos c]
    exact .inr ⟨rfl,m,by omega,c.2.1,c.2.2⟩
   ·rw[if_neg c]
    refine .inl ⟨rfl,λq hq hc=>?_⟩
    by_cases e':q=m
    ·subst e';exact c ⟨hp,hc.1,hc.2⟩
    ·exact h q (by omega) hc
  ·rw[farQ,e,if_neg (by
    rintro⟨h,_⟩;have h:(if p=p then d else G p)<0:=h;rw[if_pos rfl]at h;omega)]
   exact .inr ⟨rfl,q,by omega,h⟩
theorem Zcdq {M:Nat->Nat->Bool} {d:Nat} {F:Nat->Int} {n:Nat}:∀p:Nat,∀r,(r<p->farP M ((d+1:Nat):Int) F n p r<0->∀q<n,¬(M r q=true/\F q=(d:Int)))/\(farP M ((d+1:Nat):Int) F n p r=F r∨(F r<0/\farP M ((d+1:Nat):Int) F n p r=((d+1:Nat):Int)/\∃q,q<n/\M r q=true/\F q=(d:Int)))/\(p<=r->farP M ((d+1:Nat):Int) F n p r=F r)
 | 0,r=>⟨by omega,.inl rfl,λ_=>rfl⟩
 | p+1,r=>by
  have ih:=Zcdq (M:=M) (d:=d) (F:=F) (n:=n) p;have hq:∀q,farP M ((d+1:Nat):Int) F n p q=((d+1:Nat):Int)-1↔F q=(d:Int):=by
   intro q
   rcases(ih q).2.1 with e|⟨e1,e2,_⟩
   ·rw[e];omega
   ·rw[e2];omega
  have hpp:=(ih p).2.2 (Nat.le_refl p);rw[farP]
  by_cases hn:farP M ((d+1:Nat):Int) F n p p<0
  ·rcases Zcdv (M:=M) (d:=((d+1:Nat):Int)) (by omega) hn n with⟨e,h⟩|⟨e,q,hq1,hq2,hq3⟩
   ·rw[e]
    refine⟨λhr hl q hq'=>?_,(ih r).2.1,λhr=>(ih r).2.2 (by omega)⟩
    by_cases er:r=p
    ·subst er
     exact λc=>h q hq' ⟨c.1,(hq q).2 c.2⟩
    ·exact(ih r).1 (by omega) hl q hq'
   ·rw[e]
    by_cases er:r=p
    ·subst er
     simp only[if_true];exact⟨λ_ h=>by omega,.inr ⟨by rw[<-hpp];exact hn,trivial,q,hq1,hq2,(hq q).1 hq3⟩,by omega⟩
    ·simp only[if_neg er]
     exact⟨λhr=>(ih r).1 (by omega),(ih r).2.1,λhr=>(ih r).2.2 (by omega)⟩
  ·have e:farQ M ((d+1:Nat):Int) p (farP M ((d+1:Nat):Int) F n p) n=farP M ((d+1:Nat):Int) F n p:=by
    have:=Zcdu (M:=M) (d:=((d+1:Nat):Int)) (F:=farP M ((d+1:Nat):Int) F n p) (p:=p) (q:=0) hn n
    rwa [Nat.zero_add]at this
   rw[e];refine⟨λhr hl=>?_,(ih r).2.1,λhr=>(ih r).2.2 (by omega)⟩
   by_cases er:r=p
   ·subst er;exact absurd hl hn
   ·exact(ih r).1 (by omega) hl
theorem Zcdo {M:Nat->Nat->Bool} {n f d:Nat} {F:Nat->Int} (h:FarY M n f F d):FarY M n f (farP M ((d+1:Nat):Int) F n n) (d+1):=by
 intro p hp;obtain⟨h1,h2,_⟩:=Zcdq (M:=M) (d:=d) (F:=F) (n:=n) n p
 rcases h2 with e|⟨e1,e2,q,hq,hm,hf⟩
 ·rcases h p hp with⟨g1,g2⟩|⟨v,g1,g2,g3⟩
  ·refine .inl ⟨by omega,λu hu hr=>?_⟩
   by_cases c:u<=d
   ·exact g2 u c hr
   obtain rfl:u=d+1:=by omega
   obtain⟨q,hq,hm,hr⟩:=hr
   rcases h q hq with⟨k1,k2⟩|⟨v,k1,k2,k3,_⟩
   ·exact k2 d (Nat.le_refl _) hr
   ·by_cases c:v=d
    ·subst c
     exact h1 hp (by omega) q hq ⟨hm,k1⟩
    ·exact g2 (v+1) (by omega) ⟨q,hq,hm,k3⟩
  ·exact .inr ⟨v,by rw[e];exact g1,by omega,g3⟩
 ·refine .inr ⟨d+1,e2,Nat.le_refl _,?_,?_⟩
  ·rcases h q hq with⟨k1,_⟩|⟨v,k1,_,k3,_⟩
   ·omega
   ·obtain rfl:v=d:=by omega
    exact⟨q,hq,hm,k3⟩
  ·intro u hu
   rcases h p hp with⟨_,g2⟩|⟨v,g1,_⟩
   ·exact g2 u (by omega)
   ·omega
theorem Zcdm {M:Nat->Nat->Bool} {n f:Nat}:∀d,FarY M n f (farD M (far0 f) n d) d
 | 0=>Zcdn
 | d+1=>Zcdo (Zcdm d)
def clN (M:Nat->Nat->Bool) (f:Nat):Nat->List Nat->Prop
 | p,[]=>M p f=true
 | p,x::t=>M p x=true/\clN M f x t
theorem Zcgr {M:Nat->Nat->Bool} {n f:Nat} (hf:f<n):∀ {t:List Nat} {p:Nat},(∀x∈t,x<n)->clN M f p t->∃q,q<n/\M p q=true/\rdN M n f t.length q
 | [],p,_,h=>⟨f,hf,h,rfl⟩
 | x::t,p,hl,h=>⟨x,hl x (by simp),h.1,Zcgr hf (λy hy=>hl y (by simp[hy])) h.2⟩
def idxN (M:Nat->Nat->Bool) (nm:Nat->ByteArray) (F:Nat->Int) (n:Nat):Nat->Nat->List Nat
 | 0,_=>[]
 | le+1,p=>(Zcfy M nm p F ((le+1:Nat):Int) n).toNat::idxN M nm F n le (Zcfy M nm p F ((le+1:Nat):Int) n).toNat
theorem Zcgo {M:Nat->Nat->Bool} {nm:Nat->ByteArray} {F:Nat->Int} {n:Nat}:∀ {le p:Nat},Zcgm M nm F n le p=(idxN M nm F n le p).map nm
 | 0,_=>rfl
 | le+1,p=>by rw[Zcgm,idxN,List.map_cons,Zcgo]
theorem Zcez {M:Nat->Nat->Bool} {nm:Nat->ByteArray} {ρ:Nat->Nat} {F:Nat->Int} {n f:Nat} (hρ:∀a b,a<n->b<n->(Op.bytesLess (nm a).toList (nm b).toList=true↔ρ a<ρ b)) (hinj:∀a b,a<n->b<n->ρ a=ρ b->a=b) (hfn:f<n) (hF:FarY M n f F n):
  ∀ {le p:Nat},le<=n->(∃k,k<n/\M p k=true/\F k=(le:Int))->clN M f p (idxN M nm F n le p)/\(idxN M nm F n le p).length=le/\(∀x∈idxN M nm F n le p,x<n)/\
   ((∀k,k<n->M p k=true->F k<0∨(le:Int)<=F k)->∀t:List Nat,(∀x∈t,x<n)->t.length=le->clN M f p t->¬lxL (t.map ρ) ((idxN M nm F n le p).map ρ))
 | 0,p,_,h=>by
  obtain⟨k,hk,hm,hk0⟩:=h;refine⟨?_,rfl,by simp[idxN],λ_ t _ ht _=>?_⟩
  ·rcases hF k hk with⟨h,_⟩|⟨v,h1,_,h3,_⟩
   ·omega
   ·obtain rfl:v=0:=by omega
    obtain rfl:k=f:=h3;exact hm
  ·obtain rfl:=List.eq_nil_of_length_eq_zero ht
   exact λh=>h
 | le+1,p,hle,h=>by
  obtain⟨k,hk,hm,hk0⟩:=h
  rcases Zcgd (M:=M) (nm:=nm) (ρ:=ρ) (p:=p) (F:=F) (le:=((le+1:Nat):Int)) hρ with⟨_,e⟩|⟨x,hx,e,⟨hmx,hfx⟩,hmin⟩
  ·exact absurd ⟨hm,hk0⟩ (e k hk)
  have ei:idxN M nm F n (le+1) p=x::idxN M nm F n le x:=by rw[idxN,e,Int.toNat_natCast]
  have hxr:rdN M n f (le+1) x/\∀u<le+1,¬rdN M n f u x:=by
   rcases hF x hx with⟨h,_⟩|⟨v,h1,_,h3⟩
   ·omega
   ·obtain rfl:v=le+1:=by omega
    exact h3
  have hlow:∀k,k<n->M x k=true->F k<0∨(le:Int)<=F k:=by
   intro k hk hmk
   rcases hF k hk with⟨h,_⟩|⟨v,h1,_,h3,_⟩
   ·exact .inl h
   ·right
    by_cases c:v<le
    ·exact absurd ⟨k,hk,hmk,h3⟩ (hxr.2 (v+1) (by omega))
    ·omega
  have hnext:∃k,k<n/\M x k=true/\F k=(le:Int):=by
   obtain⟨q,hq,hmq,hr⟩:=hxr.1;refine⟨q,hq,hmq,?_⟩
   rcases hF q hq with⟨_,h⟩|⟨v,h1,_,_,h4⟩
   ·exact absurd hr (h le (by omega))
   ·have h5:=hlow q hq hmq
    have:¬le<v:=λc=>h4 le c hr
    omega
  obtain⟨i1,i2,i3,i4⟩:=Zcez (nm:=nm) hρ hinj hfn hF (le:=le) (p:=x) (by omega) hnext;rw[ei];refine⟨⟨hmx,i1⟩,by rw[List.length_cons,i2],?_,?_⟩
  ·intro y hy
   rcases List.mem_cons.1 hy with rfl|hy
   ·exact hx
   ·exact i3 y hy
  ·intro hp t htl ht hc
   cases t with
   | nil=>simp at ht
   | cons y t=>
    have hy:=htl y (by simp);have htl':∀z∈t,z<n:=λz hz=>htl z (by simp[hz])
    have ht':t.length=le:=by simpa using ht
    have hfy:F y=((le+1:Nat):Int):=by
     obtain⟨q,hq,hmq,hr⟩:=Zcgr (M:=M) (n:=n) (f:=f) hfn htl' hc.2;rw[ht']at hr
     rcases hF y hy with⟨_,h⟩|⟨v,h1,_,_,h4⟩
     ·exact absurd ⟨q,hq,hmq,hr⟩ (h (le+1) (by omega))
     ·have h5:=hp y hy hc.1
      have:¬le+1<v:=λc=>h4 (le+1) c ⟨q,hq,hmq,hr⟩
      omega
    have hxy:=hmin y hy ⟨hc.1,hfy⟩;rw[List.map_cons,List.map_cons];rintro(h|⟨h,h'⟩)
    ·omega
    ·obtain rfl:=hinj y x hy hx h
     exact i4 hlow t htl' ht' hc.2 h'
theorem Zcgf {s:Nat} {nd:Nat->List Nat} {g:List Nat} (hg:wayN s nd g):∀ {xs:List Nat} {q:List (List Nat)} {r:List Bool} {q':List (List Nat)} {r':List Bool},(∀x∈xs,x∈nd (g.getLastD 0))->(∀w∈q,wayN s nd w)->Zbax s g xs q r=some (q',r')->∀w∈q',wayN s nd w
 | [],q,r,q',r',_,hq,h=>by
  obtain⟨rfl,rfl⟩:q=q'/\r=r':=by simpa[Zbax]using h
  exact hq
 | x::xs,q,r,q',r',hx,hq,h=>by
  unfold Zbax at h;split at h
  ·cases h
  split at h
  ·exact Zcgf hg (λy hy=>hx y (by simp[hy])) hq h
  ·refine Zcgf hg (λy hy=>hx y (by simp[hy])) (λw hw=>?_) h
   rcases List.mem_append.1 hw with hw|hw
   ·exact hq w hw
   ·obtain rfl:w=g ++ [x]:=by simpa using hw
    have hne:g≠[]:=by intro e;have:=hg.1;rw[e]at this;simp at this
    refine⟨?_,Zcdb hg.2 hne (hx x (by simp))⟩;have:=hg.1
    cases g with
    | nil=>exact absurd rfl hne
    | cons=>simpa using this
theorem Zccq {s:Nat} {nd:Nat->List Nat}:∀(n:Nat) (q:List (List Nat)) (r:List Bool),(∀w∈q,wayN s nd w)->bfsF s nd n q r = []∨cycW s nd (bfsF s nd n q r)
 | 0,_,_,_=> .inl rfl
 | _+1,[],_,_=> .inl rfl
 | n+1,w::q,r,h=>by
  rw[Zfp]
  cases hx:Zbax s w (nd (w.getLastD 0)) q r with
  | none=>exact .inr ⟨h w (by simp),Zchb hx⟩
  | some p=>
   obtain⟨q',r'⟩:=p;exact Zccq n q' r' (Zcgf (h w (by simp)) (λx hx=>hx) (λv hv=>h v (by simp[hv])) hx)
theorem Zcgt {s N:Nat} {nd:Nat->List Nat} (h:Zbhz s nd N≠[]):cycW s nd (Zbhz s nd N):=
 (Zccq _ _ _ (λw hw=>by
  obtain rfl:w = [s]:=by simpa using hw
  exact⟨rfl,trivial⟩)).resolve_left h
theorem Zcde {M:Nat->Nat->Bool} {n f:Nat} {nd:Nat->List Nat} {ρ π:Nat->Nat} (hfn:f<n) (hπ:∀i<n,π i<n/\ρ (π i)=i) (hlt:∀x,∀y∈nd x,y<n) (hnd:∀a b,a<n->b<n->(M a b=true↔ρ b∈nd (ρ a))):
  ∀ {t:List Nat} {p:Nat},p<n->chN nd (ρ p::t)->ρ f∈nd ((ρ p::t).getLastD 0)->clN M f p (t.map π)/\(∀x∈t.map π,x<n)/\(t.map π).map ρ=t
 | [],p,hp,_,h=>⟨(hnd p f hp hfn).2 h,by simp,rfl⟩
 | y::t,p,hp,hc,h=>by
  have hy:=hlt _ y hc.1;obtain⟨h1,h2⟩:=hπ y hy;have hc2:chN nd (ρ (π y)::t):=by rw[h2];exact hc.2
  have hl:ρ f∈nd ((ρ (π y)::t).getLastD 0):=by rw[h2];exact h
  obtain⟨i1,i2,i3⟩:=Zcde hfn hπ hlt hnd h1 hc2 hl;refine⟨⟨(hnd p (π y) hp h1).2 (by rw[h2];exact hc.1),i1⟩,?_,by rw[List.map_cons,List.map_cons,i3,h2]⟩;intro x hx
  rcases List.mem_cons.1 hx with rfl|hx
  ·exact h1
  ·exact i2 x hx
theorem Zcdf {M:Nat->Nat->Bool} {n f:Nat} {nd:Nat->List Nat} {ρ:Nat->Nat} (hfn:f<n) (hnd:∀a b,a<n->b<n->(M a b=true↔ρ b∈nd (ρ a))):
  ∀ {t:List Nat} {p:Nat},p<n->(∀x∈t,x<n)->clN M f p t->chN nd (ρ p::t.map ρ)/\ρ f∈nd ((ρ p::t.map ρ).getLastD 0)
 | [],p,hp,_,h=>⟨trivial,(hnd p f hp hfn).1 h⟩
 | y::t,p,hp,hl,h=>by
  have hy:=hl y (by simp);obtain⟨i1,i2⟩:=Zcdf hfn hnd hy (λx hx=>hl x (by simp[hx])) h.2;exact⟨⟨(hnd p y hp hy).1 h.1,i1⟩,i2⟩
theorem Zcgu {M:Nat->Nat->Bool} {n f:Nat} {nd:Nat->List Nat} {nm:Nat->ByteArray} {ρ π:Nat->Nat} (hfn:f<n) (hρ:∀a b,a<n->b<n->(Op.bytesLess (nm a).toList (nm b).toList=true↔ρ a<ρ b)) (hinj:∀a b,a<n->b<n->ρ a=ρ b->a=b) (hρn:ρ f<n)
  (hπ:∀i<n,π i<n/\ρ (π i)=i) (hlt:∀x,∀y∈nd x,y<n) (hnd:∀a b,a<n->b<n->(M a b=true↔ρ b∈nd (ρ a))) (hsrt:∀x,(nd x).Pairwise (· <= ·)) (hr:Zbhz (ρ f) nd n≠[]):
  ∃I:List Nat,Zbhz (ρ f) nd n=(f::I).map ρ/\(∀x∈f::I,x<n)/\Zcgm M nm (farD M (far0 f) n n) n (Zccl M f (farD M (far0 f) n n) n-1).toNat f=I.map nm:=by
 have hF:=Zcdm (M:=M) (n:=n) (f:=f) n;generalize farD M (far0 f) n n=F at hF⊢;have hcyc:∀ {u:List Nat},cycW (ρ f) nd u->∃t:List Nat,u=ρ f::t.map ρ/\clN M f f t/\(∀x∈t,x<n):=by
  intro u hu;obtain⟨⟨h1,h2⟩,h3⟩:=hu
  cases u with
  | nil=>simp at h1
  | cons x t=>
   obtain rfl:x=ρ f:=by simpa using h1
   obtain⟨i1,i2,i3⟩:=Zcde hfn hπ hlt hnd hfn h2 h3;exact⟨t.map π,by rw[i3],i1,i2⟩
 obtain⟨t0,e0,hc0,ht0⟩:=hcyc (Zcgt hr);have hl0:t0.length<=n:=by
  have:=(Zbib (s:=ρ f) (nd:=nd) (N:=n) (λx _ y hy=>hlt x y hy) hρn).2;rw[e0,List.length_cons,List.length_map]at this;omega
 have hmany:∀ {t:List Nat},clN M f f t->(∀x∈t,x<n)->t.length<=n->∃q:Nat,q<n/\M f q=true/\0<=F q/\F q<=(t.length:Int):=by
  intro t hc ht hl;obtain⟨q,hq,hm,hd⟩:=Zcgr hfn ht hc;refine⟨q,hq,hm,?_⟩
  rcases hF q hq with⟨_,h⟩|⟨v,h1,_,_,h4⟩
  ·exact absurd hd (h _ hl)
  ·have:¬t.length<v:=λc=>h4 _ c hd
   omega
 obtain⟨q0,hq0,hm0,hf0,_⟩:=hmany hc0 ht0 hl0
 rcases Zccn (M:=M) (f:=f) (F:=F) (k:=n)with⟨_,h⟩|⟨j,hj,hm,h0,hb,hmin⟩
 ·exact absurd ⟨hm0,hf0⟩ (h q0 hq0)
 obtain⟨L,hL,hLn⟩:∃L:Nat,F j=(L:Int)/\L<=n:=by
  rcases hF j hj with⟨h,_⟩|⟨v,h1,h2,_⟩
  ·omega
  ·exact⟨v,h1,h2⟩
 obtain⟨i1,i2,i3,i4⟩:=Zcez (nm:=nm) hρ hinj hfn hF (le:=L) (p:=f) hLn ⟨j,hj,hm,hL⟩;have i5:=i4 (λk hk hmk=>by
  by_cases c:F k<0
  ·exact .inl c
  ·exact .inr (by rw[<-hL];exact hmin k hk hmk (by omega)))
 have hbl:(Zccl M f F n-1).toNat=L:=by rw[hb,hL];omega
 refine⟨idxN M nm F n L f,?_,?_,by rw[hbl];exact Zcgo⟩
 ·refine Zcgs ⟨⟨rfl,(Zcdf hfn hnd hfn i3 i1).1⟩,(Zcdf hfn hnd hfn i3 i1).2⟩ ?_ hlt hsrt hr
  intro u hu;obtain⟨t,rfl,hc,ht⟩:=hcyc hu;have hlen:L<=t.length:=by
   by_cases c:t.length<=n
   ·obtain⟨q,hq,hmq,hfq,hfl⟩:=hmany hc ht c
    have:=hmin q hq hmq hfq;omega
   ·omega
  rintro(h|⟨h,h'⟩)
  ·simp only[List.map_cons,List.length_cons,List.length_map,i2]at h
   omega
  ·simp only[List.map_cons,List.length_cons,List.length_map,i2]at h
   rcases h' with h'|⟨_,h'⟩
   ·omega
   ·exact i5 t ht (by omega) hc h'
 ·intro x hx
  rcases List.mem_cons.1 hx with rfl|hx
  ·exact hfn
  ·exact i3 x hx
theorem Zcgq {M:Nat->Nat->Bool} {n:Nat} {nd:Nat->List Nat} {ρ:Nat->Nat} (hnd:∀a b,a<n->b<n->(M a b=true↔ρ b∈nd (ρ a))) {a b:Nat} (ha:a<n) (hb:b<n) (h:RchM M n a b):Rch nd (ρ a) (ρ b):=by
 induction h with
 | one e=>exact .one ((hnd _ _ ha hb).1 e)
 | more e hc _ ih=>exact Rch.trans (.one ((hnd _ _ ha hc).1 e)) (ih hc hb)
theorem Zcgi {M:Nat->Nat->Bool} {n:Nat} {nd:Nat->List Nat} {ρ π:Nat->Nat} (hπ:∀i<n,π i<n/\ρ (π i)=i) (hlt:∀x,∀y∈nd x,y<n) (hnd:∀a b,a<n->b<n->(M a b=true↔ρ b∈nd (ρ a))) {x y:Nat} (hx:x<n) (h:Rch nd x y):y<n/\RchM M n (π x) (π y):=by
 induction h with
 | one e=>
  have hy:=hlt _ _ e;exact⟨hy,.one ((hnd _ _ (hπ _ hx).1 (hπ _ hy).1).2 (by rw[(hπ _ hx).2,(hπ _ hy).2];exact e))⟩
 | more _ e ih=>
  have hy:=hlt _ _ e;exact⟨hy,ih.2.trans (hπ _ ih.1).1 (.one ((hnd _ _ (hπ _ ih.1).1 (hπ _ hy).1).2 (by rw[(hπ _ ih.1).2,(hπ _ hy).2];exact e)))⟩
theorem Zcdx {nd:Nat->List Nat} {N s:Nat}:∀ {l:List Nat},s∈l->l.Pairwise (· < ·)->Zbhz s nd N≠[]->(∀x∈l,x<s->Zbhz x nd N = [])->fcL nd N l=Zbhz s nd N
 | [],h,_,_,_=>by simp at h
 | a::l,h,hp,hs,hn=>by
  unfold fcL
  rcases List.mem_cons.1 h with rfl|h
  ·rw[if_neg hs]
  ·have h1:=(List.pairwise_cons.1 hp).1 s h
   rw[if_pos (hn a (by simp) h1)];exact Zcdx h (List.pairwise_cons.1 hp).2 hs (λx hx=>hn x (by simp[hx]))
theorem Zccr:∀a b:List UInt8,Op.bytesLess a b=decide (a<b)
 | a,[]=>by cases a<;>simp[Op.bytesLess]
 | [],_::_=>by simp[Op.bytesLess]
 | x::a,y::b=>by
  rw[Op.bytesLess,Zccr a b,Bool.eq_iff_iff];simp only[Bool.or_eq_true,Bool.and_eq_true,decide_eq_true_eq,beq_iff_eq,List.cons_lt_cons_iff]
theorem Zcfx {xs:List RuleS} (h:OkTog xs) {i k:Nat} (hk:k<xs.length):Zcfw xs i k=true↔∃x y,xs[i]? =some x/\xs[k]? =some y/\Zbl x y:=by
 obtain⟨y,hy⟩:∃y,xs[k]? =some y:=⟨_,List.getElem?_eq_getElem hk⟩;have hm:∀a,Zcfo xs a=(k:Int)↔a∈y.outs:=by
  intro a;constructor
  ·intro e
   rcases Zcfq xs a with⟨e1,_⟩|⟨j,z,e1,hz,ha,_⟩
   ·omega
   ·obtain rfl:j=k:=by omega
    rw[hy]at hz;obtain rfl:=Option.some.inj hz;exact ha
  ·intro ha
   rcases Zcfq xs a with⟨_,e1⟩|⟨j,z,e1,hz,hz',_⟩
   ·exact absurd ha (e1 y (List.mem_of_getElem? hy))
   ·rcases Nat.lt_trichotomy j k with g|g|g
    ·exact absurd ha (h.files j k z y hz hy g a hz')
    ·rw[e1,g]
    ·exact absurd hz' (h.files k j y z hy hz g a ha)
 have hn:∀a,Zoi (xs.map (·.name)) a=(k:Int)↔a=y.name:=by
  intro a;constructor
  ·intro e
   have:=(Zcdy (xs:=xs.map (·.name)) (s:=a) (by omega)).1;rw[e,Int.toNat_natCast,List.getElem?_map,hy]at this;exact(Option.some.inj this).symm
  ·rintro rfl
   refine Zol (by rw[List.getElem?_map,hy];rfl) (λj hj=>?_);rw[List.getElem?_map]
   cases hz:xs[j]? with
   | none=>simp
   | some z=>exact λe=>h.names j k z y hz hy hj (by simpa using e)
 unfold Zcfw
 cases hx:xs[i]? with
 | none=>simp
 | some x=>
  show(Zcfd xs x.ins k||Zccd xs x.after k)=true↔_;rw[Bool.or_eq_true];unfold Zcfd Zccd;rw[List.any_eq_true,List.any_eq_true];simp only[beq_iff_eq,hm,hn];constructor
  ·rintro(⟨a,h1,h2⟩|⟨a,h1,rfl⟩)
   ·exact⟨x,y,rfl,hy,.inl ⟨a,h1,h2⟩⟩
   ·exact⟨x,y,rfl,hy,.inr h1⟩
  ·rintro⟨x',y',e1,e2,h⟩
   obtain rfl:=Option.some.inj e1;rw[hy]at e2;obtain rfl:=Option.some.inj e2
   rcases h with⟨a,h1,h2⟩|h
   ·exact .inl ⟨a,h1,h2⟩
   ·exact .inr ⟨_,h,rfl⟩
theorem Zcfv (rs:List RuleS) (k:Nat):(Zban rs k).Pairwise (· <= ·):=by
 unfold Zban srtN;exact(List.pairwise_mergeSort (by intro a b c h1 h2;simp only[decide_eq_true_eq]at h1 h2⊢;omega) (by intro a b;simp only[Bool.or_eq_true,decide_eq_true_eq];omega) _).imp λh=>by simpa using h
theorem Zcec {xs:List RuleS} (h:OkTog xs):Zot (Zbng xs)=Zcdi xs:=by
 have hp:(Zbng xs).Perm xs:=List.mergeSort_perm _ _;have hT:=h.perm hp;have hb:=Zbxv xs;have hlen:(Zbng xs).length=xs.length:=hp.length_eq;generalize Zbng xs=ys at hp hT hb hlen⊢;have hone:∀ {zs:List RuleS} (_:OkTog zs) {i j:Nat} {x y:RuleS},zs[i]? =some x->zs[j]? =some y->x.name=y.name->i=j:=by
  intro zs hz i j x y hx hy e
  rcases Nat.lt_trichotomy i j with g|g|g
  ·exact absurd e (hz.names i j x y hx hy g)
  ·exact g
  ·exact absurd e.symm (hz.names j i y x hy hx g)
 have hex:∀a:Nat,∃i:Nat,a<xs.length->i<ys.length/\ys[i]? =xs[a]?:=by
  intro a
  by_cases ha:a<xs.length
  ·have hm:xs[a]∈ys:=hp.mem_iff.2 (List.getElem_mem ha)
   obtain⟨i,hi⟩:=List.getElem?_of_mem hm;exact⟨i,λ_=>⟨(List.getElem?_eq_some_iff.1 hi).1,by rw[hi,List.getElem?_eq_getElem ha]⟩⟩
  ·exact⟨0,λh=>absurd h ha⟩
 have hex2:∀i:Nat,∃a:Nat,i<xs.length->a<xs.length/\xs[a]? =ys[i]?:=by
  intro i
  by_cases hi:i<xs.length
  ·have hi':i<ys.length:=by omega
   have hm:ys[i]∈xs:=hp.mem_iff.1 (List.getElem_mem hi');obtain⟨a,ha⟩:=List.getElem?_of_mem hm;exact⟨a,λ_=>⟨(List.getElem?_eq_some_iff.1 ha).1,by rw[ha,List.getElem?_eq_getElem hi']⟩⟩
  ·exact⟨0,λh=>absurd h hi⟩
 obtain⟨ρ,hρ⟩:=Classical.skolem.1 hex;obtain⟨π,hπ⟩:=Classical.skolem.1 hex2;have hget:∀ {a:Nat},a<xs.length->∃x,xs[a]? =some x/\ys[ρ a]? =some x/\ρ a<ys.length:=by
  intro a ha;exact⟨xs[a],List.getElem?_eq_getElem ha,by rw[(hρ a ha).2,List.getElem?_eq_getElem ha],(hρ a ha).1⟩
 have hρπ:∀i<xs.length,π i<xs.length/\ρ (π i)=i:=by
  intro i hi;obtain⟨h1,h2⟩:=hπ i hi;refine⟨h1,?_⟩;obtain⟨x,hx,hy,_⟩:=hget h1;have:ys[i]? =some x:=by rw[<-h2,hx]
  exact hone hT hy this rfl
 have hinj:∀a b,a<xs.length->b<xs.length->ρ a=ρ b->a=b:=by
  intro a b ha hb e;obtain⟨x,hx,hy,_⟩:=hget ha;obtain⟨z,hz,hw,_⟩:=hget hb;rw[e,hw]at hy;obtain rfl:=Option.some.inj hy;exact hone h hx hz rfl
 have hord:∀a b,a<xs.length->b<xs.length->(Op.bytesLess (nmK xs a).toList (nmK xs b).toList=true↔ρ a<ρ b):=by
  intro a b ha hb';obtain⟨x,hx,hy,hl⟩:=hget ha;obtain⟨z,hz,hw,hl2⟩:=hget hb';have e1:nmK xs a=x.name:=by unfold nmK;rw[hx]
  have e2:nmK xs b=z.name:=by unfold nmK;rw[hz]
  rw[e1,e2,ByteArray.toList_eq,ByteArray.toList_eq,Zccr,decide_eq_true_eq];have hle:∀ {i j:Nat} {x z:RuleS},ys[i]? =some x->ys[j]? =some z->i<j->¬z.name.data.toList<x.name.data.toList:=by
   intro i j x z hx hz hij;have:=Zbet.1 hb i j x z hx hz hij;rw[Zcdg];have h2:=Zjv x.name.data.toList z.name.data.toList;omega
  constructor
  ·intro hlt
   rcases Nat.lt_trichotomy (ρ a) (ρ b)with g|g|g
   ·exact g
   ·rw[g,hw]at hy
    obtain rfl:=Option.some.inj hy;exact absurd hlt (List.lt_irrefl _)
   ·exact absurd hlt (hle hw hy g)
  ·intro g
   rw[Zcdg];have h1:=Zbet.1 hb _ _ x z hy hw g;have h2:=hT.names _ _ x z hy hw g;have h3:Lib.compareBytes x.name.data.toList z.name.data.toList≠0:=by
    intro e;have e:=Zjp _ _ e;exact h2 (ByteArray.ext (Array.toList_inj.1 e))
   omega
 have hnd:∀a b,a<xs.length->b<xs.length->(Zcfw xs a b=true↔ρ b∈Zban ys (ρ a)):=by
  intro a b ha hb';obtain⟨x,hx,hy,_⟩:=hget ha;obtain⟨z,hz,hw,_⟩:=hget hb';rw[Zcfx h hb',Zbao hT,hx,hy,hz,hw]
 have hlt:∀x,∀y∈Zban ys x,y<xs.length:=λx y hy=>by have:=Zbaq hy;omega
 have hbnd:∀x<xs.length,∀y∈Zban ys x,y<xs.length:=λx _ y hy=>hlt x y hy
 unfold Zot;rw[hlen];have hnone:∀ {s:Nat},s<xs.length->(fwK (Zcfw xs) xs.length (π s) (π s)=true↔Zbhz s (Zban ys) xs.length≠[]):=by
  intro s hs;constructor
  ·intro hc e
   have:=Zcgq hnd (hρπ s hs).1 (hρπ s hs).1 (Zcet.1 hc);rw[(hρπ s hs).2]at this;exact Zbia hbnd hs e this
  ·intro e
   exact Zcet.2 (Zcgi hρπ hlt hnd hs (Zbxn e)).2
 rcases Zcei (C:=fwK (Zcfw xs) xs.length) hord with⟨e,hno⟩|⟨f,hf,e,hc,hmin⟩
 ·rw[Zcdk rfl (by omega)]
  rw[Zbwc (λs hs=>?_)]
  ·rfl
  ·have hs:s<xs.length:=by simpa using hs
   by_cases c:Zbhz s (Zban ys) xs.length = []
   ·exact c
   ·exact absurd ((hnone hs).2 c) (hno _ (hρπ s hs).1)
 ·rw[Zcdj rfl e.symm]
  have hfρ:ρ f<xs.length:=by have:=(hρ f hf).1;omega
  have hπf:π (ρ f)=f:=hinj _ _ (hρπ _ hfρ).1 hf (hρπ _ hfρ).2;have hr:Zbhz (ρ f) (Zban ys) xs.length≠[]:=(hnone hfρ).1 (by rw[hπf];exact hc);obtain⟨I,h1,h2,h3⟩:=Zcgu (nm:=nmK xs) hf hord hinj hfρ hρπ hlt hnd (λx=>Zcfv ys x) hr;rw[Zcdx (s:=ρ f) (by simpa using hfρ) List.pairwise_lt_range hr ?_]
  ·rw[h1,h3,<-List.map_cons,List.map_map]
   refine List.map_congr_left λa ha=>?_
   obtain⟨x,hx,hy,_⟩:=hget (h2 a ha);show nmAt ys (ρ a)=nmK xs a;unfold nmAt nmK;rw[hx,hy];rfl
  ·intro s hs hsf
   have hs:s<xs.length:=by simpa using hs
   by_cases c:Zbhz s (Zban ys) xs.length = []
   ·exact c
   ·have:=hmin _ (hρπ s hs).1 ((hnone hs).2 c)
    rw[(hρπ s hs).2]at this;omega
theorem Zcea {xs:List ByteArray} {k:Nat} {s:ByteArray} (h:xs[k]? =some s):Zoi xs s<(k:Int)↔∃j<k,xs[j]? =some s:=by
 have h0:0<=Zoi xs s:=Zoj.2 (List.mem_of_getElem? h);obtain⟨h1,h2⟩:=Zcdy h0;constructor
 ·intro hl
  exact⟨(Zoi xs s).toNat,by omega,h1⟩
 ·rintro⟨j,hj,e⟩
  by_cases c:j<(Zoi xs s).toNat
  ·exact absurd e (h2 j c)
  ·omega
theorem Zcfu {xs:List RuleS} {k:Nat} {x:RuleS} {o:ByteArray} (hx:xs[k]? =some x) (ho:o∈x.outs):Zcfo xs o<(k:Int)↔∃j,j<k/\∃y,xs[j]? =some y/\o∈y.outs:=by
 rcases Zcfq xs o with⟨_,e⟩|⟨j,y,e,hy,hm,hn⟩
 ·exact absurd ho (e x (List.mem_of_getElem? hx))
 ·constructor
  ·intro h
   exact⟨j,by omega,y,hy,hm⟩
  ·rintro⟨i,hi,z,hz,hoz⟩
   by_cases c:i<j
   ·exact absurd hoz (hn i c z hz)
   ·omega
theorem Zchi {xs:List RuleS} {k:Nat} {x:RuleS} (hx:xs[k]? =some x) (hn:x.outs.Nodup):takP xs k=true↔BadN xs k x:=by
 have hlow:∀ {y:RuleS},y∈xs.take k↔∃i,i<k/\xs[i]? =some y:=fun {y}=>⟨Zbya,λ⟨i,hi,h⟩=>List.mem_of_getElem? (i:=i) (by rw[List.getElem?_take,if_pos hi];exact h)⟩
 unfold takP BadN;rw[hx];simp only[Option.map_some,Option.getD_some];unfold takB;rw[Bool.or_eq_true,Zsj,Zbbb,Zcea (by rw[List.getElem?_map,hx];rfl)];refine or_congr ⟨?_,?_⟩ ?_
 ·rintro⟨y,hy,e⟩
  obtain⟨i,hi,h⟩:=hlow.1 hy;exact⟨i,hi,by rw[List.getElem?_map,h,e];rfl⟩
 ·rintro⟨i,hi,h⟩
  rw[List.getElem?_map]at h
  cases hy:xs[i]? with
  | none=>rw[hy]at h;simp at h
  | some y=>
   rw[hy]at h;exact⟨y,hlow.2 ⟨i,hi,hy⟩,(Option.some.inj h).symm⟩
 ·rw[Bool.not_eq_true',decide_eq_false_iff_not]
  constructor
  ·intro h
   refine Classical.byContradiction λhc=>h (Zbvb hn λa ha hm=>hc ?_)
   obtain⟨y,hy,he⟩:=Zpk.1 hm;obtain⟨i,hi,h'⟩:=hlow.1 hy;exact⟨a,ha,(Zcfu hx ha).2 ⟨i,hi,y,h',he⟩⟩
  ·rintro⟨a,ha,h⟩ e
   obtain⟨i,hi,y,h',he⟩:=(Zcfu hx ha).1 h;exact(Zcn e).2 a ha (Zpk.2 ⟨y,hlow.2 ⟨i,hi,h'⟩,he⟩)
theorem Zcci {xs:List RuleS} {k:Nat} {x:RuleS} (hx:xs[k]? =some x):astP xs k=true↔Zccc xs x:=by
 unfold astP Zccc;rw[hx];simp only[Option.map_some,Option.getD_some];rw[Bool.not_eq_true',List.all_eq_false];refine exists_congr λa=>and_congr Iff.rfl ?_
 rw[Zok,Bool.not_eq_true,<-Bool.not_eq_true,Zsj,Zbbb,List.mem_map];exact not_congr ⟨λ⟨r,h1,h2⟩=>⟨r,h1,h2.symm⟩,λ⟨r,h1,h2⟩=>⟨r,h1,h2.symm⟩⟩
theorem Zcgk {x:RuleS} (h:RuleC x 0):x.outs.Nodup:=by
 rcases h with⟨_,h⟩|⟨_,_,h⟩|⟨_,_,_,h⟩|⟨_,_,h,_⟩
 ·cases h
 ·cases h
 ·cases h
 ·exact Classical.byContradiction λhc=>h.2.1 (Zbrq.2 hc)
theorem Zcgj {xs:List RuleS} (h:OkTo xs xs.length):∀r∈xs,Zbip r=0:=by
 intro r hr;obtain⟨k,hk⟩:=List.getElem?_of_mem hr;exact(Zbiq r).one (h k r (List.getElem?_eq_some_iff.1 hk).1 hk)
theorem Zcgp {n k:Nat} {p:Nat->Bool} (hk:k<n) (h:p k=true) (hl:∀j<k,p j=false):(List.range n).find? p=some k:=by
 rw[List.find?_range_eq_some];exact⟨h,by simpa using hk,λj hj=>by rw[hl j hj];rfl⟩
theorem Zccj {xs:List RuleS} (h1:OkTo xs xs.length) (h2:(xs.length:Int)<=40):Zet xs=match (List.range xs.length).find? (takP xs)with
  | some k=>(2,nmAt xs k)
  | none=>match (List.range xs.length).find? (astP xs)with
   | some k=>(2,nmAt xs k)
   | none=>(0,⟨#[]⟩):=by
 unfold Zet;rw[Zbxq (Zcgj h1)];simp only;rw[if_neg (by omega)]
 cases (List.range xs.length).find? (takP xs)with
 | some k=>rfl
 | none=>
  cases (List.range xs.length).find? (astP xs)with
  | some k=>rfl
  | none=>rfl
theorem Zceb {xs:List RuleS} {k:Nat} (h1:OkTo xs xs.length) (h:Zcca xs k) (hk:k<=xs.length):∀j<k,takP xs j=false:=by
 intro j hj;have hx:=List.getElem?_eq_getElem (l:=xs) (i:=j) (by omega);rw[<-Bool.not_eq_true,Zchi hx (Zcgk (h1 j _ (by omega) hx))];exact h j _ hj hx
theorem Zcej {xs:List RuleS} {k:Nat} (h:Zccb xs k) (hk:k<=xs.length):∀j<k,astP xs j=false:=by
 intro j hj;have hx:=List.getElem?_eq_getElem (l:=xs) (i:=j) (by omega);rw[<-Bool.not_eq_true,Zcci hx];exact h j _ hj hx
theorem Zcgg {xs:List RuleS} {k:Nat} {x:RuleS} (hx:xs[k]? =some x):nmAt xs k=x.name:=by unfold nmAt;rw[hx];rfl
theorem Zcck {xs:List RuleS} (h1:OkTo xs xs.length) (h2:(xs.length:Int)<=40) (h3:Zcca xs xs.length) (h4:Zccb xs xs.length):Zet xs=(0,⟨#[]⟩):=by
 rw[Zccj h1 h2,Zbwe (Zceb h1 h3 (Nat.le_refl _))];simp only;rw[Zbwe (Zcej h4 (Nat.le_refl _))]
theorem Zccf {xs:List RuleS} {c:Int} {s:ByteArray} (h:AllC xs c s):allB xs (Zot (Zbng xs))=(c,s):=by
 rcases h with⟨i,x,hx,h1,h2,h3,rfl⟩|⟨h1,h2,rfl,rfl⟩|⟨h1,h2,i,x,hx,h3,h4,rfl,rfl⟩|⟨h1,h2,h3,i,x,hx,h4,h5,rfl,rfl⟩|⟨h1,h2,h3,h4,⟨r,h5⟩,rfl⟩|⟨h1,h2,h3,h4,h5,rfl,rfl⟩
 ·obtain rfl:=h2.one (Zbiq x)
  have e:Zet xs=(Zbip x,x.name):=by
   unfold Zet;rw[Zbjt (λj y hj hy=>(Zbiq y).one (h1 j y hj hy)) hx h3]
  rw[Zbvp (by rw[e];exact h3),e]
 ·have e:Zet xs=(4,⟨#[]⟩):=by
   unfold Zet;rw[Zbxq (Zcgj h1)];simp only;rw[if_pos (by omega)]
  rw[Zbvp (by rw[e];simp),e];rfl
 ·have hi:=(List.getElem?_eq_some_iff.1 hx).1
  have e:Zet xs=(2,x.name):=by
   rw[Zccj h1 h2,Zcgp hi ((Zchi hx (Zcgk (h1 i x hi hx))).2 h4) (Zceb h1 h3 (by omega))];simp only;rw[Zcgg hx]
  rw[Zbvp (by rw[e];simp),e]
 ·have hi:=(List.getElem?_eq_some_iff.1 hx).1
  have e:Zet xs=(2,x.name):=by
   rw[Zccj h1 h2,Zbwe (Zceb h1 h3 (Nat.le_refl _))];simp only;rw[Zcgp hi ((Zcci hx).2 h5) (Zcej h4 (by omega))];simp only;rw[Zcgg hx]
  rw[Zbvp (by rw[e];simp),e]
 ·have e:=Zcck h1 h2 h3 h4
  have hT:OkTog xs:=Zbcj (by rw[e]);unfold allB;rw[e,if_pos rfl,Zcec hT,h5]
 ·have e:=Zcck h1 h2 h3 h4
  have hT:OkTog xs:=Zbcj (by rw[e]);unfold allB;rw[e,if_pos rfl,Zcec hT,h5];rfl
theorem Zccg {xs:List RuleS} {c:Int} {s:ByteArray} (h:AllC xs c s) (hc:c=0∨c=3):Zot (Zbng xs)=Zcdi xs:=by
 have e:=Zccf h;refine Zcec (Zbcj ?_)
 by_cases h0:(Zet xs).1=0
 ·exact h0
 ·have e1:=Zbvp h0
  rw[e]at e1
  rcases Zbve xs with g|g|g|g
  ·exact g
  all_goals
   rw[<-e1]at g;have g:c=_:=g;omega
end Go.Proofs.YtcpjfpdecklkgaaGreatDoor
