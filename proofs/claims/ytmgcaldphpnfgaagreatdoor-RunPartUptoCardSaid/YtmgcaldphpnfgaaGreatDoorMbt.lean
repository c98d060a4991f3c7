import Derived.Test.YtmgcaldphpnfgaaGreatDoorMbp
namespace Go.Proofs.YtmgcaldphpnfgaaGreatDoor
def Zcjy (l:List StepS) (ks:List Nat):List StepS:=ks.filterMap λj=>l[j]?
theorem Zcjz {l:List StepS} {ks:List Nat} (h:∀k∈ks,k<l.length):(Zcjy l ks).length=ks.length/\∀p:Nat,(Zcjy l ks)[p]? =(ks[p]?).bind λk=>l[k]?:=by
 induction ks with
 | nil=>simp[Zcjy]
 | cons k ks ih=>
  obtain⟨i1,i2⟩:=ih (λj hj=>h j (List.mem_cons_of_mem _ hj));have hk:=h k (by simp);have e:Zcjy l (k::ks)=l[k]::Zcjy l ks:=by
   unfold Zcjy;rw[List.filterMap_cons,List.getElem?_eq_getElem hk]
  rw[e];refine⟨by rw[List.length_cons,List.length_cons,i1],λp=>?_⟩
  cases p with
  | zero=>simp[List.getElem?_eq_getElem hk]
  | succ p=>simpa using i2 p
theorem Zcka {l:List StepS} {ks:List Nat} {j k:Nat} {s:StepS} (hk:ks[j]? =some k) (hs:l[k]? =some s):Zcjy l (ks.take (j+1))=Zcjy l (ks.take j) ++ [s]:=by
 unfold Zcjy;rw[List.take_add_one,hk,List.filterMap_append];simp[hs]
def Zcjo (r:RuleS) (o:ByteArray):RuleS:={ r with outs:=[o],steps:=Zcjy r.steps (whL true 0 (Zcbl [o] r.steps)) }
theorem Zcjr (r:RuleS) (o:ByteArray):(Zcjo r o).steps=Zcjs r.steps (Zbak [o] r.steps).1:=by
 show Zcjy _ _=_;rw[<-Zcbp,Zcjt r.steps _ 0 r.steps (Zbal _ _) (λj s h=>by simpa using h)];rfl
theorem Zcjq (r:RuleS) (vs:List ValT) (o:ByteArray) (hl:vs.length=r.ins.length):runP (Zcjo r o) vs = [Zbbt (Zbom r.steps (byE r.ins vs λ_=>noV) o)]:=by
 rw[<-Zcjw r vs o hl];show runP { r with outs:=[o],steps:=(Zcjo r o).steps } vs=_;rw[Zcjr]
theorem Zcjn (outs:List ByteArray) (l:List StepS):(Zcbl outs l).length=l.length:=by rw[<-Zcbp,Zbal]
theorem Zcjp {r:RuleS} (h0:Zbip r=0) {o:ByteArray} (ho:o∈r.outs):Zbip (Zcjo r o)=0:=by
 have hN:=Zcbk h0;unfold Zbip at h0;split at h0
 ·cases h0
 rename_i h1
 split at h0
 ·cases h0
 rename_i h2
 clear h0;have h1:Zpo r=true:=by simpa using h1
 have h2:Zbkx r=true:=by simpa using h2
 obtain⟨MS,hMS⟩:∃M,Zcbl [o] r.steps=M:=⟨_,rfl⟩;have hML:MS.length=r.steps.length:=by rw[<-hMS,Zcjn]
 obtain⟨KS,hKS⟩:∃l,whL true 0 MS=l:=⟨_,rfl⟩;have hmem:∀k,k∈KS↔MS[k]? =some true:=λk=>by rw[<-hKS,Zbsu];simp
 have hlt:∀k∈KS,k<r.steps.length:=λk hk=>by rw[<-hML];exact(List.getElem?_eq_some_iff.1 ((hmem k).1 hk)).1
 have hrise:KS.Pairwise (· < ·):=by rw[<-hKS];exact Zcby _ _ _
 have hfew:KS.length<=r.steps.length:=by rw[<-hML,<-hKS];exact Zbss _ _ _
 obtain⟨m1,m2⟩:=Zcjz hlt;have hx:Zcjo r o = { r with outs:=[o],steps:=Zcjy r.steps KS }:=by unfold Zcjo;rw[hMS,hKS]
 rw[hx];obtain⟨L,hL⟩:∃L,Zcjy r.steps KS=L:=⟨_,rfl⟩;rw[hL]at m1 m2⊢;have hget:∀(p:Nat) y,L[p]? =some y->∃k,KS[p]? =some k/\r.steps[k]? =some y:=λp y hy=>by
  rw[m2]at hy
  cases hk:KS[p]? with
  | none=>rw[hk]at hy;cases hy
  | some k=>rw[hk]at hy;exact⟨k,rfl,hy⟩
 have hsub:∀y∈L,y∈r.steps:=λy hy=>by
  obtain⟨p,hp⟩:=List.getElem?_of_mem hy;obtain⟨k,_,hk⟩:=hget p y hp;exact List.mem_of_getElem? hk
 have hplace:∀(k:Nat) s,r.steps[k]? =some s->MS[k]? =some true->∃p:Nat,KS[p]? =some k/\L[p]? =some s:=λk s hs hm=>by
  obtain⟨p,hp⟩:=List.getElem?_of_mem ((hmem k).2 hm);exact⟨p,hp,by rw[m2,hp];exact hs⟩
 have hord:∀(p q k j:Nat),KS[p]? =some k->KS[q]? =some j->(j<k->q<p)/\(q<p->j<k):=λp q k j hp hq=>by
  obtain⟨b1,e1⟩:=List.getElem?_eq_some_iff.1 hp;obtain⟨b2,e2⟩:=List.getElem?_eq_some_iff.1 hq;have hP:=List.pairwise_iff_getElem.1 hrise;constructor
  ·intro hjk
   rcases Nat.lt_trichotomy q p with g|g|g
   ·exact g
   ·subst g;omega
   ·have:=hP p q b1 b2 g;omega
  ·intro g
   have:=hP q p b2 b1 g;omega
 have hlaw:∀(k:Nat) s,r.steps[k]? =some s->MS[k]? =some (decide (s.out=o)||anyQ s.out r.steps MS):=λk s hs=>by rw[<-hMS];exact Zcbo hN o hs
 have h3:Zbac { r with outs:=[o],steps:=L } =true:=by
  rw[Zbaf];obtain⟨n1,n2,n3,n4,n5,n6⟩:=hN;have memK:∀(x:RuleS) (k:Nat) a,a∈Zbdi x k↔∃j,j<k/\∃t,x.steps[j]? =some t/\t.out=a:=λx k a=>by
   unfold Zbdi;rw[List.mem_map];constructor
   ·rintro⟨t,ht,e⟩
    obtain⟨j,hj⟩:=List.getElem?_of_mem ht;rw[List.getElem?_take]at hj;split at hj
    ·exact⟨j,by assumption,t,hj,e⟩
    ·cases hj
   ·rintro⟨j,hj,t,ht,e⟩
    exact⟨t,List.mem_of_getElem? (i:=j) (by rw[List.getElem?_take,if_pos hj];exact ht),e⟩
  refine⟨n1,?_,n3,n4,λp y hy=>?_,λa ha=>?_⟩
  ·rw[Zbrq]
   exact λh=>h (by simp)
  ·have hy:L[p]? =some y:=hy
   obtain⟨k,hk,hs⟩:=hget p y hy;obtain⟨a1,a2,a3⟩:=n5 k y hs;refine⟨a1,?_,λa ha=>?_⟩
   ·rw[Zok,memK]
    rintro⟨q,hq,t,ht,e⟩;have ht:L[q]? =some t:=ht;obtain⟨j,hj,hst⟩:=hget q t ht;rw[Zok,memK]at a2;exact a2 ⟨j,(hord p q k j hk hj).2 hq,t,hst,e⟩
   ·have h:=a3 a ha
    rw[Zok,Zok,memK]at h⊢;rintro⟨g1,g2⟩;refine h ⟨g1,?_⟩;rintro⟨j,hj,t,ht,e⟩;refine g2 ?_;have hkm:MS[k]? =some true:=(hmem k).1 (List.mem_of_getElem? hk);have hany:anyQ a r.steps MS=true:=by
     rw[<-Zcbf,<-Zbsv,hKS];exact⟨k,List.mem_of_getElem? hk,y,hs,ha⟩
    have hjm:MS[j]? =some true:=by rw[hlaw j t ht,e,hany,Bool.or_true]
    obtain⟨q,hq,hLq⟩:=hplace j t ht hjm;exact⟨q,(hord p q k j hk hq).1 hj,t,hLq,e⟩
  ·obtain rfl:a=o:=by simpa using ha
   obtain⟨b1,b2⟩:=n6 a ho;refine⟨b1,?_⟩;rw[Zoj,memK]at b2⊢;obtain⟨j,hj,t,ht,e⟩:=b2;have hjm:MS[j]? =some true:=by rw[hlaw j t ht,decide_eq_true e,Bool.true_or]
   obtain⟨q,hq,hLq⟩:=hplace j t ht hjm;exact⟨q,(List.getElem?_eq_some_iff.1 hLq).1,t,hLq,e⟩
 have h1':Zpo { r with outs:=[o],steps:=L } =true:=by
  unfold Zpo at h1⊢;simp only[Bool.and_eq_true,decide_eq_true_eq,List.all_eq_true]at h1⊢;obtain⟨⟨⟨⟨⟨c1,c2⟩,c3⟩,c4⟩,c5⟩,c6⟩:=h1;exact⟨⟨⟨⟨⟨c1,c2⟩,by simp⟩,λa ha=>by rw[show a=o by simpa using ha];exact c4 o ho⟩,c5⟩,λy hy=>c6 y (hsub y hy)⟩
 have h2':Zbkx { r with outs:=[o],steps:=L } =true:=by
  unfold Zbkx at h2⊢;simp only[Bool.and_eq_true,decide_eq_true_eq]at h2⊢;exact⟨⟨⟨h2.1.1.1,by simp⟩,h2.1.2⟩,by have:=h2.2;omega⟩
 unfold Zbip;rw[h1',h2',h3,if_neg (by decide),if_neg (by decide),if_neg (by decide)]
end Go.Proofs.YtmgcaldphpnfgaaGreatDoor
