import Derived.Test.YtphjfaoghphleaaGreatDoorMbb
set_option maxHeartbeats 2000000
namespace Go.Proofs.YtphjfaoghphleaaGreatDoor
open Go.Lib (hid)
open Go.Proofs.Tryz Go.RowKit Go.Shelf
def inB (f:ByteArray) (xs:List ByteArray):Bool:=xs.any λx=>decide (x=f)
theorem Zdbl {f:ByteArray} {xs:List ByteArray}:inB f xs=true↔f∈xs:=by
 grind [inB]
def Zdhs (rs:List RuleS) (n:ByteArray):Option RuleS:=rs.find? (λr=>decide (r.name=n))
def Zddu (rs:List RuleS) (f:ByteArray):Option ByteArray:=(rs.find? (λr=>inB f r.outs)).map (·.name)
def Zdes (rs:List RuleS) (l:Lb):List Lb:=if l.1 then(match Zdhs rs l.2 with|some r=>setL (Zcyo r.ins)|none=>[])else(match Zddu rs l.2 with|some n=>[(true,n)]|none=>[])
def Zdjt (rs:List RuleS) (l:Lb):List Lb:=if l.1 then(match Zdhs rs l.2 with|some r=>setL (Zcyo r.outs)|none=>[])else setL (rdOf (Zdgj rs) l.2)
def Zdbt (rs:List RuleS) (l:Lb):Int:=if l.1 then(if (Zdhs rs l.2).isSome then 1 else 0)else if (Zddu rs l.2).isSome then 2 else if rs.any (λr=>inB l.2 r.ins)then 3 else 0
def Zdkc:RuleS:=⟨⟨#[]⟩,[],[],[],[]⟩
def mkQ (M:SKV) (q:ByteArray×ByteArray):SKV:=putA M q.1 (lv (true,q.2))
theorem Zdem (M:SKV) (r:RuleS):Zdel M r=(r.outs.map λx=>(x,r.name)).foldl mkQ M:=by
 unfold Zdel;rw[List.foldl_map];rfl
theorem Zdei:∀(rs:List RuleS) (M:SKV),rs.foldl Zdel M=(rs.flatMap λr=>r.outs.map λx=>(x,r.name)).foldl mkQ M
 | [],_=>rfl
 | r::rs,M=>by
  rw[List.foldl_cons,Zdei rs,List.flatMap_cons,List.foldl_append,Zdem]
theorem Zdek (f:ByteArray) (z:Value):∀(a:List (ByteArray×ByteArray)) (M:SKV),
  (∃q∈a,q.1=f/\getA (a.foldl mkQ M) f z=lv (true,q.2)/\hasA (a.foldl mkQ M) f=true)\/((∀q∈a,q.1≠f)/\getA (a.foldl mkQ M) f z=getA M f z/\hasA (a.foldl mkQ M) f=hasA M f)
 | [],M=> .inr ⟨by simp,rfl,rfl⟩
 | q::a,M=>by
  rw[List.foldl_cons]
  rcases Zdek f z a (mkQ M q)with⟨g,d,c⟩|⟨d,c,e⟩
  ·exact .inl ⟨g,List.mem_cons_of_mem _ d,c⟩
  ·unfold mkQ at c e
   by_cases b:q.1=f
   ·refine .inl ⟨q,List.mem_cons_self,b,?_,?_⟩
    ·show getA (a.foldl mkQ (putA M q.1 (lv (true,q.2)))) f z=_
     have:getA (a.foldl mkQ (putA M q.1 (lv (true,q.2)))) f z=getA (putA M q.1 (lv (true,q.2))) f z:=c;rw[this,b,Zdak]
    ·have:hasA (a.foldl mkQ (putA M q.1 (lv (true,q.2)))) f=hasA (putA M q.1 (lv (true,q.2))) f:=e
     show hasA (a.foldl mkQ (putA M q.1 (lv (true,q.2)))) f=true;rw[this,Zday,b];simp
   ·refine .inr ⟨λx hx=>?_,?_,?_⟩
    ·rcases List.mem_cons.1 hx with rfl|hx
     ·exact b
     ·exact d x hx
    ·have:getA (a.foldl mkQ (putA M q.1 (lv (true,q.2)))) f z=getA (putA M q.1 (lv (true,q.2))) f z:=c
     show getA (a.foldl mkQ (putA M q.1 (lv (true,q.2)))) f z=_;rw[this,Zdaj (Ne.symm b)]
    ·have:hasA (a.foldl mkQ (putA M q.1 (lv (true,q.2)))) f=hasA (putA M q.1 (lv (true,q.2))) f:=e
     show hasA (a.foldl mkQ (putA M q.1 (lv (true,q.2)))) f=_;rw[this,Zday,decide_eq_false b,Bool.false_or]
theorem OkTog.one {rs:List RuleS} (h:OkTog rs) {x y:RuleS} (hx:x∈rs) (k:y∈rs) {f:ByteArray} (d:f∈x.outs) (e:f∈y.outs):x=y:=by
 obtain⟨i,m,g⟩:=List.mem_iff_getElem.1 hx;obtain⟨j,n,l⟩:=List.mem_iff_getElem.1 k;have b:rs[i]? =some x:=by grind
 have c:rs[j]? =some y:=by grind
 rcases Nat.lt_trichotomy i j with a|a|a
 ·exact absurd e (h.files i j x y b c a f d)
 ·grind
 ·exact absurd d (h.files j i y x c b a f e)
theorem Zddx {rs:List RuleS} {f m:ByteArray} (h:Zddu rs f=some m):∃r∈rs,f∈r.outs/\r.name=m:=by
 grind [Option.map_eq_some_iff,Zdbl,Zddu]
theorem Zddw {rs:List RuleS} (b:OkTog rs) {r:RuleS} (d:r∈rs) {f:ByteArray} (c:f∈r.outs):Zddu rs f=some r.name:=by
 cases h:Zddu rs f with
 | none=>
  simp_all[Zdbl,Zddu]
 | some m=>
  obtain⟨x,hx,a,rfl⟩:=Zddx h;rw[b.one hx d a c]
theorem Zddv {rs:List RuleS} {f:ByteArray} (h:Zddu rs f=none):∀r∈rs,f∉r.outs:=by
 simp_all[Zdbl,Zddu]
theorem Zdhv {rs:List RuleS} {n:ByteArray} {r:RuleS} (h:Zdhs rs n=some r):r∈rs/\r.name=n:=⟨List.mem_of_find?_eq_some h,of_decide_eq_true (List.find?_some (p:=λr:RuleS=>decide (r.name=n)) h)⟩
theorem Zdhu {rs:List RuleS} (a:(rs.map (·.name)).Nodup) {r:RuleS} (b:r∈rs):Zdhs rs r.name=some r:=Zczl a b
theorem Zdht {rs:List RuleS} {n:ByteArray} (h:Zdhs rs n=none):∀r∈rs,r.name≠n:=by
 intro r b e;have a:=List.find?_eq_none.1 h r b;simp[e]at a
theorem Zdeg {rs:List RuleS} (j:OkTog rs) (f:ByteArray):hasA (mkM rs) f=(Zddu rs f).isSome/\getA (mkM rs) f zLab=(match Zddu rs f with|some m=>lv (true,m)|none=>zLab):=by
 unfold mkM;rw[Zdei]
 rcases Zdek f zLab (rs.flatMap λr=>r.outs.map λx=>(x,r.name)) []with⟨q,a,b,c,i⟩|⟨a,b,c⟩
 ·grind [Zddw]
 ·have e:Zddu rs f=none:=by
   cases h:Zddu rs f with
   | none=>rfl
   | some m=>
    obtain⟨r,g,d,_⟩:=Zddx h;exact absurd rfl (a (f,r.name) (List.mem_flatMap.2 ⟨r,g,List.mem_map_of_mem d⟩))
  rw[e,b,c];exact⟨rfl,rfl⟩
theorem Zdgl {rs:List RuleS} {q:ByteArray×ByteArray}:q∈Zdgj rs↔∃r∈rs,q.1∈r.ins/\q.2=r.name:=by
 grind [Zdgj,Zdgq]
section
variable {w:World} {B p:Nat} {rs:List RuleS}
theorem Zdbf {Av:Nat->Prop} {A:SKV} (h:AIs Av w A rs) (n:ByteArray):hasA A n=(Zdhs rs n).isSome:=by
 rw[Bool.eq_iff_iff,Zdax,h.keys,Option.isSome_iff_exists];constructor
 ·intro d
  cases a:Zdhs rs n with
  | none=>grind [Zdht]
  | some x=>grind
 ·rintro⟨r,b⟩
  obtain⟨a,c⟩:=Zdhv b
  grind
theorem Zdal {Av:Nat->Prop} {A:SKV} (hn:(rs.map (·.name)).Nodup) (h:AIs Av w A rs) (n:ByteArray):
  ∃d I l f J m g K o i M s,getA A n zRul = .agg #[.string ((Zdhs rs n).getD Zdkc).name,.slice d I l,.slice f J m,.slice g K o,.slice i M s]/\
   IsStrs w (.slice d I l) ((Zdhs rs n).getD Zdkc).ins/\IsStrs w (.slice f J m) ((Zdhs rs n).getD Zdkc).outs/\IsStrs w (.slice g K o) ((Zdhs rs n).getD Zdkc).after/\StepsI w (.slice i M s) ((Zdhs rs n).getD Zdkc).steps:=by
 rcases Zdai (L:=A) (k:=n) (z:=zRul)with⟨y,C⟩|⟨e,U,y,C,h3⟩
 ·have u:Zdhs rs n=none:=by
   have:=Zdbf h n
   cases D:Zdhs rs n with
   | none=>rfl
   | some x=>grind
  rw[u,y];have v:IsStrs w (.slice none 0 0) []:=⟨none,0,rfl,by simp,by simp[maxLen],λh=>absurd rfl h⟩;exact⟨none,0,0,none,0,0,none,0,0,none,0,0,rfl,v,v,v,[],⟨none,0,rfl,by simp,by simp[maxLen],λh=>absurd rfl h⟩,AllA.nil _⟩
 ·obtain⟨j,H,t⟩:=List.mem_iff_getElem.1 U
  have V:j<rs.length:=by rw[<-h.1];exact H
  obtain⟨k1,vi,vo,vf,vs,X,Y⟩:=h.2 j e _ (by rw[List.getElem?_eq_getElem H,t]) (List.getElem?_eq_getElem V);have u:Zdhs rs n=some rs[j]:=by grind [Zdhu]
  rw[u,C,X];obtain⟨_,_,_,_,D,E,F,G,S⟩:=Y;obtain⟨rfl,rfl,rfl,rfl⟩:=D;obtain⟨d,l,O⟩:=Zue E.isStrs;obtain⟨f,m,P⟩:=Zue F.isStrs;obtain⟨g,o,Q⟩:=Zue G.isStrs;subst O;subst P;subst Q;obtain⟨c,a,b⟩:=S;obtain⟨i,s,R,q⟩:=a.1;subst R;exact⟨d,_,l,f,_,m,g,_,o,i,_,s,rfl,E.isStrs,F.isStrs,G.isStrs,c,a.1,b.imp λr x h=>by obtain⟨Z,vl,rfl,T,W⟩:=h;exact⟨Z,vl,rfl,T.isStrs,W.isStrs⟩⟩
end
theorem OkTog.short {rs:List RuleS} (h:OkTog rs) (n:ByteArray):((Zdhs rs n).getD Zdkc).ins.length<=8/\((Zdhs rs n).getD Zdkc).outs.length<=4/\((Zdhs rs n).getD Zdkc).after.length<=8/\((Zdhs rs n).getD Zdkc).steps.length<=12:=by
 cases a:Zdhs rs n with
 | none=>simp[Zdkc]
 | some r=>exact Zckm (h.each r (Zdhv a).1)
section
variable (B p:Nat) (rs:List RuleS) (w:World)
theorem Zdao (l:Lb) (h:GrX w B p rs) (i:OkTog rs):
  Calls prog 16 #[.pointer (some { block:=p,off:=0 }),lv l] w λe w'=>∃a,e = .returned a/\OwnL w.heap.size w' a (Zdes rs l)/\Below w.heap.size w w':=by
 obtain⟨u,C,L,K,J,A,R,_,g⟩:=h;obtain⟨q,k⟩:=l
 cases q with
 | true=>
  obtain⟨v,M,D,x,O,E,y,P,F,z,Q,G,o,d,_⟩:=Zdal i.nodup g.ai k;have I:=i.short k;refine(Zdev p A (mkM rs) R k w g.graph o d (by omega)).mono ?_;rintro e w' ⟨a,rfl,n,j⟩;refine⟨a,rfl,?_,j⟩;have c:Zdes rs (true,k)=setL (Zcyo ((Zdhs rs k).getD Zdkc).ins):=by
   unfold Zdes
   cases H:Zdhs rs k with
   | none=>simp[Zdkc,Zcyo,setL]
   | some r=>simp
  rw[c];exact n
 | false=>
  obtain⟨d,f⟩:=Zdeg i k;obtain⟨q,s,b⟩:=(Zdce rs).get k;refine(Zder p A (mkM rs) R k w g.graph b).mono ?_;rintro e w' ⟨a,rfl,n,j⟩;refine⟨a,rfl,?_,j⟩;have c:Zdes rs (false,k)=if hasA (mkM rs) k then [(q,s)]else []:=by
   unfold Zdes;rw[d]
   cases t:Zddu rs k with
   | none=>simp
   | some m=>
    rw[t]at f;rw[b]at f
    cases f
    simp
  rw[c];exact n
theorem Zdau (l:Lb) (h:GrX w B p rs) (f:OkTog rs):
  Calls prog 18 #[.pointer (some { block:=p,off:=0 }),lv l] w λe w'=>∃j,e = .returned j/\OwnL w.heap.size w' j (Zdjt rs l)/\Below w.heap.size w w':=by
 obtain⟨s,C,K,J,I,A,R,_,d⟩:=h;obtain⟨q,k⟩:=l
 cases q with
 | true=>
  obtain⟨t,L,y,u,M,z,v,O,D,x,P,E,m,_,i,_⟩:=Zdal f.nodup d.ai k;have H:=f.short k;refine(Zdjw p A (mkM rs) R k w d.graph m i (by omega)).mono ?_;have F:Zdjt rs (true,k)=setL (Zcyo ((Zdhs rs k).getD Zdkc).outs):=by
   unfold Zdjt
   cases g:Zdhs rs k with
   | none=>simp[Zdkc,Zcyo,setL]
   | some r=>simp
  grind
 | false=>
  have b:=d.ri.row k;obtain⟨a,c,o,_,_,g,_⟩:=Zdfu b;have n:(rdOf (Zdgj rs) k).length<=1000:=by
   have i:=Zdgo (Zdgj rs) k;have G:=Zdgk λr g=>(Zckm (f.each r g)).1
   have:=f.few;omega
  exact Zdjs p A (mkM rs) R k w d.graph o g n
theorem Zdam (l:Lb) (h:GrX w B p rs) (d:OkTog rs):
  Calls prog 14 #[.pointer (some { block:=p,off:=0 }),lv l] w λe w'=>e = .returned (.int .i64 (Zdbt rs l))/\Below w.heap.size w w':=by
 obtain⟨g,C,k,j,i,A,R,_,a⟩:=h;refine(Zdbu p A (mkM rs) R l w a.graph).mono ?_;have c:hasA R l.2=rs.any (λr=>inB l.2 r.ins):=by
  rw[Bool.eq_iff_iff,a.ri.key,List.any_eq_true];constructor
  ·grind [Zdgl,Zdbl]
  ·rintro⟨r,f,b⟩
   exact⟨(l.2,r.name),Zdgl.2 ⟨r,f,Zdbl.1 b,rfl⟩,rfl⟩
 have e:Zdbs A (mkM rs) R l=Zdbt rs l:=by
  unfold Zdbs Zdbt;rw[Zdbf a.ai l.2,(Zdeg d l.2).1,c]
 grind
theorem Zdan (f:ByteArray) (h:GrX w B p rs) (d:OkTog rs):
  Calls prog 19 #[.pointer (some { block:=p,off:=0 }),.string f] w λe w'=>e = .returned (.tuple #[.string ((Zddu rs f).getD ⟨#[]⟩),.bool (Zddu rs f).isSome])/\Below w.heap.size w w':=by
 obtain⟨g,C,l,k,j,A,R,_,c⟩:=h;obtain⟨i,b⟩:=Zdeg d f;have a:∃q,getA (mkM rs) f zLab = .agg #[.bool q,.string ((Zddu rs f).getD ⟨#[]⟩)]:=by
  rw[b]
  cases Zddu rs f with
  | none=>exact⟨false,rfl⟩
  | some m=>exact⟨true,rfl⟩
 obtain⟨q,a⟩:=a;have:=Zddy p A (mkM rs) R f w c.graph a
 grind
theorem Zdat (n:ByteArray) (h:GrX w B p rs) (d:OkTog rs) (L:∀r∈rs,∀y∈r.steps,y.args.length<=1000000/\y.lits.length<=1000000):
  Calls prog 21 #[.pointer (some { block:=p,off:=0 }),.string n] w λe w'=>(∃g i f j,e = .returned (.tuple #[.agg #[.string ((Zdhs rs n).getD Zdkc).name,g,i,f,j],.bool (Zdhs rs n).isSome])/\StrsA (λb=>b<w.heap.size) w' g ((Zdhs rs n).getD Zdkc).ins/\StrsA (λb=>b<w.heap.size) w' i ((Zdhs rs n).getD Zdkc).outs/\StrsA (λb=>b<w.heap.size) w' f ((Zdhs rs n).getD Zdkc).after/\StepsA (λb=>b<w.heap.size) w' j ((Zdhs rs n).getD Zdkc).steps)/\Below w.heap.size w w':=by
 obtain⟨K,C,S,Q,P,A,R,_,a⟩:=h;obtain⟨k,G,q,l,H,s,m,I,t,o,J,u,F,v,z,D,E⟩:=Zdal d.nodup a.ai n;have O:=d.short n;have c:∀x∈((Zdhs rs n).getD Zdkc).steps,x.args.length<=1000000/\x.lits.length<=1000000:=by
  cases M:Zdhs rs n with
  | none=>intro x hx;cases hx
  | some r=>grind [Zdhv]
 have:=Zdas p A (mkM rs) R n w a.graph ((Zdhs rs n).getD Zdkc) k l m o G q H s I t J u F v z D E (by omega) (by omega) (by omega) (by omega) c;rw[Zdbf a.ai n]at this;omega
end
def allG (rs:List RuleS):List Lb:=setL (rs.flatMap labR)
theorem Zcyq {xs:List ByteArray} {l:Lb}:l∈Zcyo xs↔l.1=false/\l.2∈xs:=by
 grind [Zcyo]
theorem Zdgp {qs:RdL} {k:ByteArray} {l:Lb}:l∈rdOf qs k↔l.1=true/\(k,l.2)∈qs:=by
 unfold rdOf;rw[List.mem_map];constructor
 ·grind
 ·rintro⟨a,b⟩
  exact⟨(k,l.2),by rw[List.mem_filter,decide_eq_true_iff];exact⟨b,rfl⟩,by rw[<-a]⟩
theorem Zcwx {rs:List RuleS} {a:Lb}:a∈allG rs↔∃r∈rs,(a.1=true/\a.2=r.name)\/(a.1=false/\(a.2∈r.ins\/a.2∈r.outs)):=by
 grind [Zdef,Zcyq,allG,labR]
theorem Zdeu {rs:List RuleS} (c:OkTog rs) {a b:Lb}:b∈Zdes rs a↔(a.1=true/\b.1=false/\∃r∈rs,r.name=a.2/\b.2∈r.ins)\/(a.1=false/\b.1=true/\∃r∈rs,r.name=b.2/\a.2∈r.outs):=by
 obtain⟨q,n⟩:=a;unfold Zdes
 cases q with
 | true=>
  simp only[if_true,true_and,Bool.true_eq_false,false_and,or_false];constructor
  ·grind [Zcyq,Zdef,Zdhv]
  ·rintro⟨e,r,d,rfl,f⟩
   rw[Zdhu c.nodup d]
   grind [Zdef,Zcyq]
 | false=>
  grind [List.mem_singleton,Zddx,Zddw]
theorem Zdjv {rs:List RuleS} (c:OkTog rs) {a b:Lb}:b∈Zdjt rs a↔a∈Zdes rs b:=by
 rw[Zdeu c];obtain⟨q,n⟩:=a;unfold Zdjt
 cases q with
 | true=>
  simp only[if_true,Bool.true_eq_false,false_and,and_false,false_or,true_and];constructor
  ·grind [Zcyq,Zdef,Zdhv]
  ·rintro⟨e,r,d,rfl,f⟩
   rw[Zdhu c.nodup d]
   grind [Zdef,Zcyq]
 | false=>
  grind [Zdef,Zdgp,Zdgl]
theorem Zdig (xs:List Lb):(setL xs).length<=xs.length:=by
 have h:=(Zcwu [] xs).2;rw[<-Zdio,(Zdit _).length_eq]
 grind
theorem Zdbz {rs:List RuleS} (h:∀r∈rs,r.ins.length<=8/\r.outs.length<=4):(rs.flatMap labR).length<=rs.length*13:=by
 induction rs with
 | nil=>simp
 | cons r rs c=>
  have a:=c λr b=>h r (List.mem_cons_of_mem _ b)
  unfold labR at a⊢
  grind [Zcyp]
theorem Zdet {rs:List RuleS} (b:OkTog rs) (a:Lb):(Zdes rs a).length<=400:=by
 unfold Zdes;split
 ·cases c:Zdhs rs a.2 with
  | none=>simp
  | some r=>
   have d:=Zdig (Zcyo r.ins);have e:=Zckm (b.each r (Zdhv c).1)
   grind [Zcyp]
 ·grind
theorem Zdju {rs:List RuleS} (b:OkTog rs) (a:Lb):(Zdjt rs a).length<=400:=by
 unfold Zdjt;split
 ·cases c:Zdhs rs a.2 with
  | none=>simp
  | some r=>
   have d:=Zdig (Zcyo r.outs);have e:=Zckm (b.each r (Zdhv c).1)
   grind [Zcyp]
 ·have d:=Zdig (rdOf (Zdgj rs) a.2)
  have e:=Zdgo (Zdgj rs) a.2;have f:=Zdgk λr c=>(Zckm (b.each r c)).1
  have:=b.few;omega
def Zcfr (s:ByteArray):List RuleS->Nat->Int
 | [],_=> -1
 | x::r,k=>if 0<=Zoi x.outs s then(k:Int)else Zcfr s r (k+1)
def Zcfo (xs:List RuleS) (s:ByteArray):Int:=Zcfr s xs 0
def MakR (xs:List RuleS) (s:ByteArray) (r:Int):Prop:=(r = -1/\∀x∈xs,s∉x.outs)\/∃(k:Nat) (x:RuleS),r=(k:Int)/\xs[k]? =some x/\s∈x.outs/\∀j<k,∀y,xs[j]? =some y->s∉y.outs
theorem Zcfs (s:ByteArray):∀(xs:List RuleS) (k:Nat),(Zcfr s xs k = -1/\∀x∈xs,s∉x.outs)\/∃(j:Nat) (x:RuleS),Zcfr s xs k=((k+j:Nat):Int)/\xs[j]? =some x/\s∈x.outs/\∀i<j,∀y,xs[i]? =some y->s∉y.outs
 | [],k=> .inl ⟨rfl,λx hx=>by simp at hx⟩
 | x::r,k=>by
  unfold Zcfr
  by_cases h:0<=Zoi x.outs s
  ·rw[if_pos h]
   exact .inr ⟨0,x,rfl,rfl,Zor (Zom _ _) h,λi hi=>absurd hi (by omega)⟩
  ·rw[if_neg h]
   have b:=Zos (Zom x.outs s) (by omega)
   rcases Zcfs s r (k+1)with⟨c,d⟩|⟨j,y,c,d,e,f⟩
   ·exact .inl ⟨c,λz a=>by rcases List.mem_cons.1 a with rfl|a;exact b;exact d z a⟩
   ·refine .inr ⟨j+1,y,by rw[c];congr 1;omega,by simpa using d,e,λi hi z a=>?_⟩
    cases i with
    | zero=>simp at a;rw[<-a];exact b
    | succ i=>exact f i (by omega) z (by simpa using a)
theorem Zcfq (xs:List RuleS) (s:ByteArray):MakR xs s (Zcfo xs s):=by
 rcases Zcfs s xs 0 with h|⟨j,x,a,b⟩
 ·exact .inl h
 ·exact .inr ⟨j,x,by unfold Zcfo;rw[a];congr 1;omega,b⟩
theorem Zcft {xs:List RuleS} {s:ByteArray} {r t:Int} (h:MakR xs s r) (e:MakR xs s t):r=t:=by
 rcases h with⟨rfl,a⟩|⟨k,x,rfl,a,c,f⟩<;>rcases e with⟨rfl,b⟩|⟨j,y,rfl,b,d,g⟩
 ·rfl
 ·exact absurd d (a y (List.mem_of_getElem? b))
 ·exact absurd c (b x (List.mem_of_getElem? a))
 ·rcases Nat.lt_trichotomy k j with h|h|h
  ·exact absurd c (g k h x a)
  ·rw[h]
  ·exact absurd d (f j h y b)
theorem Zcfp (xs:List RuleS) (s:ByteArray): -1<=Zcfo xs s/\Zcfo xs s<(xs.length:Int):=by
 rcases Zcfq xs s with⟨h,_⟩|⟨k,x,h,a,_⟩
 ·omega
 ·have:=(List.getElem?_eq_some_iff.1 a).1
  omega
def Zcfd (xs:List RuleS) (l:List ByteArray) (k:Nat):Bool:=l.any λf=>Zcfo xs f==(k:Int)
def Zccd (xs:List RuleS) (l:List ByteArray) (k:Nat):Bool:=l.any λa=>Zoi (xs.map (·.name)) a==(k:Int)
def Zcfw (xs:List RuleS) (i k:Nat):Bool:=match xs[i]? with
 | some x=>Zcfd xs x.ins k||Zccd xs x.after k
 | none=>false
def fwK (M:Nat->Nat->Bool):Nat->Nat->Nat->Bool
 | 0=>M
 | k+1=>λa b=>fwK M k a b||(fwK M k a k&&fwK M k k b)
def nmK (xs:List RuleS) (k:Nat):ByteArray:=match xs[k]? with
 | some x=>x.name
 | none=>ByteArray.empty
def Zced (C:Nat->Nat->Bool) (nm:Nat->ByteArray):Nat->Int
 | 0=> -1
 | i+1=>if C i i=true/\(Zced C nm i<0\/Op.bytesLess (nm i).toList (nm (Zced C nm i).toNat).toList=true)then(i:Int)else Zced C nm i
theorem Zceh {C:Nat->Nat->Bool} {nm:Nat->ByteArray} {i:Nat} {f:Int} (h:f=Zced C nm i) (a:C i i=false):f=Zced C nm (i+1):=by
 unfold Zced;rw[if_neg (by rw[a];simp)];exact h
theorem Zceg {C:Nat->Nat->Bool} {nm:Nat->ByteArray} {i:Nat} {f:Int} (h:f=Zced C nm i) (a:C i i=true) (b:f<0):(i:Int)=Zced C nm (i+1):=by
 unfold Zced;rw[if_pos ⟨a,.inl (by rw[<-h];exact b)⟩]
theorem Zcee {C:Nat->Nat->Bool} {nm:Nat->ByteArray} {i f:Nat} (h:(f:Int)=Zced C nm i) (a:C i i=true) (b:Op.bytesLess (nm i).toList (nm f).toList=true):(i:Int)=Zced C nm (i+1):=by
 unfold Zced;rw[if_pos ⟨a,.inr (by rw[<-h,Int.toNat_natCast];exact b)⟩]
theorem Zcef {C:Nat->Nat->Bool} {nm:Nat->ByteArray} {i f:Nat} (h:(f:Int)=Zced C nm i) (a:Op.bytesLess (nm i).toList (nm f).toList=false):(f:Int)=Zced C nm (i+1):=by
 unfold Zced;rw[if_neg (by rw[<-h,Int.toNat_natCast,a];rintro⟨_,h|h⟩;omega;cases h)];exact h
def far0 (f:Nat):Nat->Int:=λj=>if j=f then 0 else -1
def farQ (M:Nat->Nat->Bool) (d:Int) (p:Nat) (F:Nat->Int):Nat->Nat->Int
 | 0=>F
 | q+1=>if farQ M d p F q p<0/\M p q=true/\farQ M d p F q q=d-1 then(λj=>if j=p then d else farQ M d p F q j)else farQ M d p F q
def farP (M:Nat->Nat->Bool) (d:Int) (F:Nat->Int) (n:Nat):Nat->Nat->Int
 | 0=>F
 | p+1=>farQ M d p (farP M d F n p) n
def farD (M:Nat->Nat->Bool) (F:Nat->Int) (n:Nat):Nat->Nat->Int
 | 0=>F
 | d+1=>farP M ((d+1:Nat):Int) (farD M F n d) n n
theorem Zcdt {M:Nat->Nat->Bool} {d:Int} {p q:Nat} {F G:Nat->Int} (h:G=farQ M d p F q) (a:M p q=false\/¬G q=d-1):G=farQ M d p F (q+1):=by
 unfold farQ;rw[<-h,if_neg];rintro⟨_,b,c⟩
 rcases a with a|a
 ·rw[a]at b;cases b
 ·exact a c
theorem Zcdw {M:Nat->Nat->Bool} {d:Int} {p q:Nat} {F G:Nat->Int} (h:G=farQ M d p F q) (h0:G p<0) (a:M p q=true) (b:G q=d-1):(λj=>if j=p then d else G j)=farQ M d p F (q+1):=by
 unfold farQ;rw[<-h,if_pos ⟨h0,a,b⟩]
theorem Zcdu {M:Nat->Nat->Bool} {d:Int} {p q:Nat} {F:Nat->Int} (h:¬farQ M d p F q p<0):∀r,farQ M d p F (q+r)=farQ M d p F q
 | 0=>rfl
 | r+1=>by
  have e:=Zcdu h r;show(if farQ M d p F (q+r) p<0/\_ then _ else _)=_;rw[if_neg (λc=>h (by have:=c.1;rw[e]at this;exact this))];exact e
theorem Zcdr {M:Nat->Nat->Bool} {d:Int} {p q n:Nat} {F G a:Nat->Int} (h:G=farQ M d p F q) (b:F=farP M d a n p) (h0:¬G p<0) (c:q<=n):G=farP M d a n (p+1):=by
 show G=farQ M d p (farP M d a n p) n;rw[<-b];have:=Zcdu (M:=M) (d:=d) (F:=F) (p:=p) (q:=q) (by rw[<-h];exact h0) (n-q);rw[show q+(n-q)=n by omega]at this;rw[this];exact h
theorem Zcds {M:Nat->Nat->Bool} {d:Int} {p q n:Nat} {F G a:Nat->Int} (h:G=farQ M d p F q) (b:F=farP M d a n p) (c:q=n):G=farP M d a n (p+1):=by
 show G=farQ M d p (farP M d a n p) n;rw[<-b,<-c];exact h
theorem Zcdp {M:Nat->Nat->Bool} {d p n:Nat} {F G a:Nat->Int} (h:G=farP M (d:Int) F n p) (b:F=farD M a n (d-1)) (c:p=n) (f:1<=d):G=farD M a n (d+1-1):=by
 obtain⟨e,rfl⟩:∃e,d=e+1:=⟨d-1,by omega⟩;show G=farP M ((e+1:Nat):Int) (farD M a n e) n n;rw[h,b,c];rfl
def Zccl (M:Nat->Nat->Bool) (f:Nat) (F:Nat->Int):Nat->Int
 | 0=>0
 | k+1=>if M f k=true/\0<=F k/\(Zccl M f F k=0\/F k+1<Zccl M f F k)then F k+1 else Zccl M f F k
theorem Zccm {M:Nat->Nat->Bool} {f k:Nat} {F:Nat->Int} {b:Int} (h:b=Zccl M f F k) (a:M f k=false\/¬0<=F k\/(¬b=0/\¬F k+1<b)):b=Zccl M f F (k+1):=by
 unfold Zccl;rw[<-h,if_neg];rintro⟨c,d,e⟩
 rcases a with a|a|⟨a,g⟩
 ·rw[a]at c;cases c
 ·exact a d
 ·exact e.elim a g
theorem Zcco {M:Nat->Nat->Bool} {f k:Nat} {F:Nat->Int} {b t:Int} (h:b=Zccl M f F k) (a:M f k=true) (e:F k=t) (c:0<=t) (d:b=0\/t+1<b):t+1=Zccl M f F (k+1):=by
 unfold Zccl;rw[<-h,e,if_pos ⟨a,c,d⟩]
def Zcfy (M:Nat->Nat->Bool) (nm:Nat->ByteArray) (p:Nat) (F:Nat->Int) (le:Int):Nat->Int
 | 0=> -1
 | k+1=>if M p k=true/\F k=le/\(Zcfy M nm p F le k<0\/Op.bytesLess (nm k).toList (nm (Zcfy M nm p F le k).toNat).toList=true)then(k:Int)else Zcfy M nm p F le k
theorem Zcgc {M:Nat->Nat->Bool} {nm:Nat->ByteArray} {p k:Nat} {F:Nat->Int} {le x:Int} (h:x=Zcfy M nm p F le k) (a:M p k=false\/¬F k=le):x=Zcfy M nm p F le (k+1):=by
 unfold Zcfy;rw[<-h,if_neg];rintro⟨b,c,_⟩
 rcases a with a|a
 ·rw[a]at b;cases b
 ·exact a c
theorem Zcgb {M:Nat->Nat->Bool} {nm:Nat->ByteArray} {p k:Nat} {F:Nat->Int} {le x:Int} (h:x=Zcfy M nm p F le k) (a:M p k=true) (b:F k=le) (c:x<0):(k:Int)=Zcfy M nm p F le (k+1):=by
 unfold Zcfy;rw[<-h,if_pos ⟨a,b,.inl c⟩]
theorem Zcfz {M:Nat->Nat->Bool} {nm:Nat->ByteArray} {p k x:Nat} {F:Nat->Int} {le:Int} (h:(x:Int)=Zcfy M nm p F le k) (a:M p k=true) (b:F k=le) (c:Op.bytesLess (nm k).toList (nm x).toList=true):(k:Int)=Zcfy M nm p F le (k+1):=by
 unfold Zcfy;rw[<-h,if_pos ⟨a,b,.inr (by rw[Int.toNat_natCast];exact c)⟩]
theorem Zcga {M:Nat->Nat->Bool} {nm:Nat->ByteArray} {p k x:Nat} {F:Nat->Int} {le:Int} (h:(x:Int)=Zcfy M nm p F le k) (a:Op.bytesLess (nm k).toList (nm x).toList=false):(x:Int)=Zcfy M nm p F le (k+1):=by
 unfold Zcfy;rw[<-h,if_neg];rintro⟨_,_,h|h⟩
 ·omega
 ·rw[Int.toNat_natCast,a]at h;cases h
def Zcgm (M:Nat->Nat->Bool) (nm:Nat->ByteArray) (F:Nat->Int) (n:Nat):Nat->Nat->List ByteArray
 | 0,_=>[]
 | le+1,p=>nm (Zcfy M nm p F ((le+1:Nat):Int) n).toNat::Zcgm M nm F n le (Zcfy M nm p F ((le+1:Nat):Int) n).toNat
theorem Zcgn {M:Nat->Nat->Bool} {nm:Nat->ByteArray} {F:Nat->Int} {n p x:Nat} {le:Int} (h:(x:Int)=Zcfy M nm p F le n) (a:0<le):Zcgm M nm F n le.toNat p=nm x::Zcgm M nm F n (le-1).toNat x:=by
 obtain⟨l,rfl⟩:∃l:Nat,le=((l+1:Nat):Int):=⟨le.toNat-1,by omega⟩;rw[show(((l+1:Nat):Int)).toNat=l+1 by omega,show(((l+1:Nat):Int)-1).toNat=l by omega];show nm (Zcfy M nm p F ((l+1:Nat):Int) n).toNat::Zcgm M nm F n l (Zcfy M nm p F ((l+1:Nat):Int) n).toNat=_;rw[<-h,Int.toNat_natCast]
def Zcdi (xs:List RuleS):List ByteArray:=
 if Zced (fwK (Zcfw xs) xs.length) (nmK xs) xs.length<0 then []else
  nmK xs (Zced (fwK (Zcfw xs) xs.length) (nmK xs) xs.length).toNat::Zcgm (Zcfw xs) (nmK xs) (farD (Zcfw xs) (far0 (Zced (fwK (Zcfw xs) xs.length) (nmK xs) xs.length).toNat) xs.length xs.length) xs.length
   (Zccl (Zcfw xs) (Zced (fwK (Zcfw xs) xs.length) (nmK xs) xs.length).toNat (farD (Zcfw xs) (far0 (Zced (fwK (Zcfw xs) xs.length) (nmK xs) xs.length).toNat) xs.length xs.length) xs.length-1).toNat (Zced (fwK (Zcfw xs) xs.length) (nmK xs) xs.length).toNat
theorem Zcdk {xs:List RuleS} {n:Nat} (a:xs.length=n) (h:Zced (fwK (Zcfw xs) n) (nmK xs) n<0):Zcdi xs = []:=by
 subst a;unfold Zcdi;rw[if_pos h]
theorem Zcdj {xs:List RuleS} {n f:Nat} (a:xs.length=n) (h:(f:Int)=Zced (fwK (Zcfw xs) n) (nmK xs) n):Zcdi xs=nmK xs f::Zcgm (Zcfw xs) (nmK xs) (farD (Zcfw xs) (far0 f) n n) n (Zccl (Zcfw xs) f (farD (Zcfw xs) (far0 f) n n) n-1).toNat f:=by
 subst a;unfold Zcdi;rw[if_neg (by omega),<-h,Int.toNat_natCast]
def BadN (xs:List RuleS) (i:Nat) (x:RuleS):Prop:=Zoi (xs.map (·.name)) x.name<(i:Int)\/∃o∈x.outs,Zcfo xs o<(i:Int)
def Zccc (xs:List RuleS) (x:RuleS):Prop:=∃a∈x.after,Zoi (xs.map (·.name)) a<0
def OkTo (xs:List RuleS) (i:Nat):Prop:=∀(j:Nat) y,j<i->xs[j]? =some y->RuleC y 0
def Zcca (xs:List RuleS) (i:Nat):Prop:=∀(j:Nat) y,j<i->xs[j]? =some y->¬BadN xs j y
def Zccb (xs:List RuleS) (i:Nat):Prop:=∀(j:Nat) y,j<i->xs[j]? =some y->¬Zccc xs y
def AllC (xs:List RuleS) (c:Int) (s:ByteArray):Prop:=
 (∃(i:Nat) (x:RuleS),xs[i]? =some x/\OkTo xs i/\RuleC x c/\c≠0/\s=x.name)\/
 (OkTo xs xs.length/\(40:Int)<(xs.length:Int)/\c=4/\s=ByteArray.empty)\/
 (OkTo xs xs.length/\(xs.length:Int)<=40/\∃(i:Nat) (x:RuleS),xs[i]? =some x/\Zcca xs i/\BadN xs i x/\c=2/\s=x.name)\/
 (OkTo xs xs.length/\(xs.length:Int)<=40/\Zcca xs xs.length/\∃(i:Nat) (x:RuleS),xs[i]? =some x/\Zccb xs i/\Zccc xs x/\c=2/\s=x.name)\/
 (OkTo xs xs.length/\(xs.length:Int)<=40/\Zcca xs xs.length/\Zccb xs xs.length/\(∃r,Zcdi xs=s::r)/\c=3)\/
 (OkTo xs xs.length/\(xs.length:Int)<=40/\Zcca xs xs.length/\Zccb xs xs.length/\Zcdi xs = []/\c=0/\s=ByteArray.empty)
def lxL:List Nat->List Nat->Prop
 | x::a,y::b=>x<y\/(x=y/\lxL a b)
 | _,_=>False
def slL (a b:List Nat):Prop:=a.length<b.length\/(a.length=b.length/\lxL a b)
theorem Zcfk:∀ {a b c:List Nat},lxL a b->lxL b c->lxL a c
 | [],_,_,h,_=>h.elim
 | _::_,[],_,h,_=>h.elim
 | _::_,_::_,[],_,h=>h.elim
 | x::a,y::b,z::c,e,d=>by
  rcases e with e|⟨rfl,e⟩
  ·rcases d with d|⟨rfl,d⟩
   ·exact .inl (by omega)
   ·exact .inl e
  ·rcases d with d|⟨rfl,d⟩
   ·exact .inl d
   ·exact .inr ⟨rfl,Zcfk e d⟩
theorem Zchh {a b c:List Nat} (e:slL a b) (d:slL b c):slL a c:=by
 rcases e with e|⟨g,e⟩
 ·rcases d with d|⟨f,d⟩
  ·exact .inl (by omega)
  ·exact .inl (by omega)
 ·rcases d with d|⟨f,d⟩
  ·exact .inl (by omega)
  ·exact .inr ⟨by omega,Zcfk e d⟩
def chN (nd:Nat->List Nat):List Nat->Prop
 | []=>True
 | [_]=>True
 | x::y::t=>y∈nd x/\chN nd (y::t)
def wayN (s:Nat) (nd:Nat->List Nat) (w:List Nat):Prop:=w.head? =some s/\chN nd w
structure SeaI (s:Nat) (nd:Nat->List Nat) (N:Nat) (h:List Nat) (q:List (List Nat)) (r:List Bool):Prop where
 way:∀w∈q,wayN s nd w
 ord:q.Pairwise slL
 near:∀w∈q,(w.dropLast=h\/slL w.dropLast h)/\slL h w
 seen:∀x:Nat,r[x]? =some true->∃w,wayN s nd (w ++ [x])/\(w=h\/slL w h)/\(w ++ [x]∈q\/w ++ [x]=h\/slL (w ++ [x]) h)
 size:r.length=N
theorem SeaI.pop {s N:Nat} {nd:Nat->List Nat} {h g:List Nat} {q:List (List Nat)} {r:List Bool} (H:SeaI s nd N h (g::q) r):SeaI s nd N g q r:=by
 have i:=H.near g (by simp);have f:∀ {w:List Nat},(w=h\/slL w h)->slL w g:=by
  rintro w (rfl|e)
  ·exact i.2
  ·exact Zchh e i.2
 refine⟨λw d=>H.way w (by simp[d]),(List.pairwise_cons.1 H.ord).2,λw d=>⟨.inr (f (H.near w (by simp[d])).1),(List.pairwise_cons.1 H.ord).1 w d⟩,?_,H.size⟩;intro x hx;obtain⟨w,a,b,c⟩:=H.seen x hx;refine⟨w,a,.inr (f b),?_⟩
 rcases c with c|c
 ·rcases List.mem_cons.1 c with c|c
  ·exact .inr (.inl c)
  ·exact .inl c
 ·exact .inr (.inr (f c))
theorem Zces {M:Nat->Nat->Bool} {k a b:Nat} (h:fwK M k a b=true):fwK M (k+1) a b=true:=by
 show(fwK M k a b||(fwK M k a k&&fwK M k k b))=true;rw[h,Bool.true_or]
theorem Zcex {M:Nat->Nat->Bool} {a b:Nat}:∀ {k m:Nat},k<=m->fwK M k a b=true->fwK M m a b=true
 | k,0,h,e=>by
    obtain rfl:k=0:=by omega
    exact e
 | k,m+1,h,e=>by
  by_cases g:k<=m
  ·exact Zces (Zcex g e)
  ·obtain rfl:k=m+1:=by omega
   exact e
theorem Zcew {M:Nat->Nat->Bool} {k a b:Nat} (h:fwK M (k+1) a b=true):fwK M k a b=true\/(fwK M k a k=true/\fwK M k k b=true):=by
 have h:(fwK M k a b||(fwK M k a k&&fwK M k k b))=true:=h;simpa only[Bool.or_eq_true,Bool.and_eq_true]using h
theorem Zcey {M:Nat->Nat->Bool} {k a b:Nat} (c:fwK M k a k=true) (d:fwK M k k b=true):fwK M (k+1) a b=true:=by
 show(fwK M k a b||(fwK M k a k&&fwK M k k b))=true;rw[c,d,Bool.and_self,Bool.or_true]
theorem Zceu {M:Nat->Nat->Bool}:∀ {k m a b:Nat},m<k->fwK M k a m=true->fwK M k m b=true->fwK M k a b=true
 | 0,_,_,_,h,_,_=>by omega
 | k+1,m,a,b,h,h1,h2=>by
  have d:=Zcew h1;have c:=Zcew h2
  by_cases g:m=k
  ·subst g
   have d:fwK M m a m=true:=d.elim id And.left;have c:fwK M m m b=true:=c.elim id And.right;exact Zcey d c
  ·have f:m<k:=by omega
   rcases d with d|⟨d,i⟩
   ·rcases c with c|⟨c,e⟩
    ·exact Zces (Zceu f d c)
    ·exact Zcey (Zceu f d c) e
   ·rcases c with c|⟨c,e⟩
    ·exact Zcey d (Zceu f i c)
    ·exact Zcey d e
inductive RchM (M:Nat->Nat->Bool) (n:Nat):Nat->Nat->Prop
 | one {a b:Nat}:M a b=true->RchM M n a b
 | more {a c b:Nat}:M a c=true->c<n->RchM M n c b->RchM M n a b
theorem RchM.trans {M:Nat->Nat->Bool} {n a c b:Nat} (h:RchM M n a c) (d:c<n) (k:RchM M n c b):RchM M n a b:=by
 induction h with
 | one e=>exact .more e d k
 | more e f _ g=>exact .more e f (g d k)
theorem Zcev {M:Nat->Nat->Bool} {n a b:Nat} (h:RchM M n a b):fwK M n a b=true:=by
 induction h with
 | one e=>exact Zcex (Nat.zero_le n) e
 | more e c _ d=>exact Zceu c (Zcex (Nat.zero_le n) e) d
theorem Zcgh {M:Nat->Nat->Bool} {n:Nat}:∀ {k:Nat},k<=n->∀ {a b:Nat},fwK M k a b=true->RchM M n a b
 | 0,_,_,_,h=> .one h
 | k+1,hk,a,b,h=>by
  rcases Zcew h with h|⟨c,d⟩
  ·exact Zcgh (by omega) h
  ·exact(Zcgh (by omega) c).trans (by omega) (Zcgh (by omega) d)
theorem Zcet {M:Nat->Nat->Bool} {n a b:Nat}:fwK M n a b=true↔RchM M n a b:=⟨Zcgh (Nat.le_refl n),Zcev⟩
theorem Zcfx {xs:List RuleS} (h:OkTog xs) {i k:Nat} (q:k<xs.length):Zcfw xs i k=true↔∃x y,xs[i]? =some x/\xs[k]? =some y/\Zbl x y:=by
 obtain⟨y,b⟩:∃y,xs[k]? =some y:=⟨_,List.getElem?_eq_getElem q⟩;have r:∀a,Zcfo xs a=(k:Int)↔a∈y.outs:=by
  intro a;constructor
  ·intro e
   rcases Zcfq xs a with⟨c,_⟩|⟨j,z,c,d,l,_⟩
   ·omega
   ·obtain rfl:j=k:=by omega
    rw[b]at d;obtain rfl:=Option.some.inj d;exact l
  ·intro l
   rcases Zcfq xs a with⟨_,c⟩|⟨j,z,c,d,m,_⟩
   ·exact absurd l (c y (List.mem_of_getElem? b))
   ·rcases Nat.lt_trichotomy j k with g|g|g
    ·exact absurd l (h.files j k z y d b g a m)
    ·rw[c,g]
    ·exact absurd m (h.files k j y z b d g a l)
 have t:∀a,Zoi (xs.map (·.name)) a=(k:Int)↔a=y.name:=by
  intro a;constructor
  ·intro e
   have:=(Zcdy (xs:=xs.map (·.name)) (s:=a) (by omega)).1;rw[e,Int.toNat_natCast,List.getElem?_map,b]at this;exact(Option.some.inj this).symm
  ·rintro rfl
   refine Zol (by rw[List.getElem?_map,b];rfl) (λj p=>?_);rw[List.getElem?_map]
   cases d:xs[j]? with
   | none=>simp
   | some z=>exact λe=>h.names j k z y d b p (by simpa using e)
 unfold Zcfw
 cases hx:xs[i]? with
 | none=>simp
 | some x=>
  show(Zcfd xs x.ins k||Zccd xs x.after k)=true↔_;rw[Bool.or_eq_true];unfold Zcfd Zccd;rw[List.any_eq_true,List.any_eq_true];simp only[beq_iff_eq,r,t];constructor
  ·rintro(⟨a,f,n⟩|⟨a,f,rfl⟩)
   ·exact⟨x,y,rfl,b,.inl ⟨a,f,n⟩⟩
   ·exact⟨x,y,rfl,b,.inr f⟩
  ·rintro⟨u,v,c,o,h⟩
   obtain rfl:=Option.some.inj c;rw[b]at o;obtain rfl:=Option.some.inj o
   rcases h with⟨a,f,n⟩|h
   ·exact .inl ⟨a,f,n⟩
   ·exact .inr ⟨_,h,rfl⟩
theorem Zcea {xs:List ByteArray} {k:Nat} {s:ByteArray} (h:xs[k]? =some s):Zoi xs s<(k:Int)↔∃j<k,xs[j]? =some s:=by
 grind [Zoj,List.mem_of_getElem?,Zcdy]
theorem Zcfu {xs:List RuleS} {k:Nat} {x:RuleS} {o:ByteArray} (hx:xs[k]? =some x) (c:o∈x.outs):Zcfo xs o<(k:Int)↔∃j,j<k/\∃y,xs[j]? =some y/\o∈y.outs:=by
 rcases Zcfq xs o with⟨_,e⟩|⟨j,y,e,d,a,b⟩
 all_goals (grind)
theorem Zchi {xs:List RuleS} {k:Nat} {x:RuleS} (hx:xs[k]? =some x) (n:x.outs.Nodup):takP xs k=true↔BadN xs k x:=by
 have b:∀ {y:RuleS},y∈xs.take k↔∃i,i<k/\xs[i]? =some y:=fun {y}=>⟨Zbya,λ⟨i,c,h⟩=>List.mem_of_getElem? (i:=i) (by rw[List.getElem?_take,if_pos c];exact h)⟩
 unfold takP BadN;rw[hx];simp only[Option.map_some,Option.getD_some];unfold takB;rw[Bool.or_eq_true,Zsj,Zbbb,Zcea (by rw[List.getElem?_map,hx];rfl)];refine or_congr ⟨?_,?_⟩ ?_
 ·rintro⟨y,d,e⟩
  obtain⟨i,c,h⟩:=b.1 d;exact⟨i,c,by rw[List.getElem?_map,h,e];rfl⟩
 ·grind
 ·rw[Bool.not_eq_true',decide_eq_false_iff_not]
  constructor
  ·intro h
   refine Classical.byContradiction λj=>h (Zbvb n λa f m=>j ?_)
   obtain⟨y,d,l⟩:=Zpk.1 m;obtain⟨i,c,g⟩:=b.1 d;exact⟨a,f,(Zcfu hx f).2 ⟨i,c,y,g,l⟩⟩
  ·grind [Zcfu,Zcn,Zpk]
theorem Zcci {xs:List RuleS} {k:Nat} {x:RuleS} (hx:xs[k]? =some x):astP xs k=true↔Zccc xs x:=by
 unfold astP Zccc;rw[hx];simp only[Option.map_some,Option.getD_some];rw[Bool.not_eq_true',List.all_eq_false];refine exists_congr λa=>and_congr Iff.rfl ?_
 rw[Zok,Bool.not_eq_true,<-Bool.not_eq_true,Zsj,Zbbb,List.mem_map]
 grind
theorem Zcgk {x:RuleS} (h:RuleC x 0):x.outs.Nodup:=by
 rcases h with⟨_,h⟩|⟨_,_,h⟩|⟨_,_,_,h⟩|⟨_,_,h,_⟩
 ·omega
 ·omega
 ·omega
 ·exact Classical.byContradiction λa=>h.2.1 (Zbrq.2 a)
theorem Zcgj {xs:List RuleS} (h:OkTo xs xs.length):∀r∈xs,Zbip r=0:=by
 intro r b;obtain⟨k,a⟩:=List.getElem?_of_mem b;exact(Zbiq r).one (h k r (List.getElem?_eq_some_iff.1 a).1 a)
theorem Zccj {xs:List RuleS} (a:OkTo xs xs.length) (b:(xs.length:Int)<=40):Zet xs=match (List.range xs.length).find? (takP xs)with
  | some k=>(2,nmAt xs k)
  | none=>match (List.range xs.length).find? (astP xs)with
   | some k=>(2,nmAt xs k)
   | none=>(0,⟨#[]⟩):=by
 unfold Zet;rw[Zbxq (Zcgj a)];rw[if_neg (by omega)]
 cases (List.range xs.length).find? (takP xs)with
 | some k=>rfl
 | none=>grind
theorem Zceb {xs:List RuleS} {k:Nat} (a:OkTo xs xs.length) (h:Zcca xs k) (c:k<=xs.length):∀j<k,takP xs j=false:=by
 intro j b;have hx:=List.getElem?_eq_getElem (l:=xs) (i:=j) (by omega);rw[<-Bool.not_eq_true,Zchi hx (Zcgk (a j _ (by omega) hx))];exact h j _ b hx
theorem Zcej {xs:List RuleS} {k:Nat} (h:Zccb xs k) (b:k<=xs.length):∀j<k,astP xs j=false:=by
 intro j a;have hx:=List.getElem?_eq_getElem (l:=xs) (i:=j) (by omega);rw[<-Bool.not_eq_true,Zcci hx];exact h j _ a hx
theorem Zcck {xs:List RuleS} (a:OkTo xs xs.length) (b:(xs.length:Int)<=40) (c:Zcca xs xs.length) (d:Zccb xs xs.length):Zet xs=(0,⟨#[]⟩):=by
 rw[Zccj a b,Zbwe (Zceb a c (Nat.le_refl _))];rw[Zbwe (Zcej d (Nat.le_refl _))]
theorem Zdkf {C:Nat->Nat->Bool} {nm:Nat->ByteArray} {i:Nat} (hi:C i i=true):∀ {n:Nat},i<n->0<=Zced C nm n
 | 0,h=>by omega
 | n+1,h=>by
  by_cases e:i=n
  ·subst e
   unfold Zced;split
   ·omega
   ·rename_i a
    exact Classical.byContradiction λc=>a ⟨hi,.inl (by omega)⟩
  ·have b:=Zdkf (nm:=nm) hi (n:=n) (by omega)
   unfold Zced;split
   ·omega
   ·exact b
theorem Zdkg {xs:List RuleS} (d:OkTog xs) {a b:Nat} (h:Rch (Zban xs) a b):b<xs.length/\RchM (Zcfw xs) xs.length a b:=by
 have one:∀ {a b:Nat},b∈Zban xs a->b<xs.length/\Zcfw xs a b=true:=fun {a b} c=>⟨Zbaq c,(Zcfx d (Zbaq c)).2 ((Zbao d).1 c)⟩
 induction h with
 | one c=>exact⟨(one c).1,.one (one c).2⟩
 | more _ c e=>exact⟨(one c).1,e.2.trans e.1 (.one (one c).2)⟩
theorem Zdke {xs:List RuleS} {s:ByteArray} (h:AllC xs 0 s):Zbvn xs=0:=by
 rcases h with⟨_,_,_,_,_,h,_⟩|⟨_,_,h,_⟩|⟨_,_,_,_,_,_,_,h,_⟩|⟨_,_,_,_,_,_,_,_,h,_⟩|⟨_,_,_,_,_,h⟩|⟨d,e,g,j,b,_,_⟩
 ·exact absurd rfl h
 ·cases h
 ·cases h
 ·cases h
 ·cases h
 ·have c:OkTog xs:=Zbcj (by rw[Zcck d e g j])
  refine Zbvs.2 ⟨c,λi l m=>?_⟩;have k:=Zdkf (nm:=nmK xs) (Zcev (Zdkg c m).2) l;obtain⟨f,a⟩:=Int.eq_ofNat_of_zero_le k;rw[Zcdj rfl a.symm]at b
  cases b
theorem Zcgz {w:World} {v:Value} {xs:List RuleS} (h:RulesI w v xs):∃a c,v = .slice a xs.length c/\xs.length<=c/\c<=maxLen/\∀(k:Nat) x,xs[k]? =some x->∃b o d l f m i n j p,a=some ⟨b,o,none⟩/\RuleI w [.string x.name,.slice d x.ins.length l,.slice f x.outs.length m,.slice i x.after.length n,.slice j x.steps.length p] x/\∀w',Below w.heap.size w w'->
  w'.cell? ⟨b,o+k*5,none⟩=some (.string x.name)/\w'.cell? ⟨b,o+k*5+1,none⟩=some (.slice d x.ins.length l)/\w'.cell? ⟨b,o+k*5+2,none⟩=some (.slice f x.outs.length m)/\w'.cell? ⟨b,o+k*5+3,none⟩=some (.slice i x.after.length n)/\w'.cell? ⟨b,o+k*5+4,none⟩=some (.slice j x.steps.length p):=by
 obtain⟨a,c,rfl,s,t⟩:=Zbjn h;refine⟨a,c,rfl,s,t,λk x hx=>?_⟩;obtain⟨g,o,q,d,l,f,m,i,n,j,p,e,_,y,u⟩:=Zbjm h hx;injection e with r _ _
 exact⟨g,o,d,l,f,m,i,n,j,p,r,y,u⟩
theorem Zcct (v:Value) (xs:List RuleS) (s:ByteArray) (w:World) (h:RulesI w v xs):
  Calls prog 22 #[v,.string s] w λe w'=>Zat (xs.map (·.name)) s e/\w=w':=by
 obtain⟨E,G,rfl,_,B,b⟩:=Zcgz h;have p:xs.length<=maxLen:=by omega
 unfold maxLen at p;have f:=hid b;clear b h
 go_enter func22,ntmps22
 go_wp2
 go_loopw [5] (λi wr=>∃k:Nat,k<=xs.length/\i = .int .i64 k/\(∀j<k,(xs.map (·.name))[j]? ≠some s)/\w=wr)
  (λi _=>xs.length-(intOf i).toNat)
 case atStart=>exact⟨0,Nat.zero_le _,rfl,λj u=>absurd u (by omega),rfl⟩
 case round=>
  obtain⟨k,H,rfl,d,rfl⟩:=hrel;have l:=hid (Below.refl w.heap.size w);have a:=hid d;clear d
  by_cases r:k<xs.length
  ·obtain⟨x,hx⟩:∃x,xs[k]? =some x:=⟨xs[k],List.getElem?_eq_getElem r⟩
   obtain⟨F,I,_,_,_,_,_,_,_,_,D,_,c⟩:=f.out k x hx;subst D;have m:Hid ((xs.map (·.name))[k]? =some x.name):=by show(xs.map (·.name))[k]? =_;rw[List.getElem?_map,hx];rfl
   obtain⟨z,_⟩:=c _ l.out;obtain⟨n,y⟩:∃n,x.name=n:=⟨_,rfl⟩;rw[y]at z m;have o:(k:Int)<(xs.length:Int):=by omega
   have A:(0:Int)<=(k:Int):=by omega
   obtain⟨q,C⟩:∃q,(n.toList==s.toList)=q:=⟨_,rfl⟩;have t:=hid C;clear c hx y
   cases q
   ·go_wp2
    all_goals go_roundw
    case rel=>exact⟨k+1,by omega,by go_num,λj u=>by
     rcases Nat.lt_or_ge j k with h|h
     ·exact a.out j h
     ·obtain rfl:j=k:=by omega
      rw[m.out];exact λe=>Zgz t.out (Option.some.inj e),trivial⟩
    case measure=>simp[intOf];omega
   ·go_wp2
    go_ret;exact⟨Zoh (by rw[m.out,Zgx t.out]) a.out,rfl⟩
  ·have o:¬(k:Int)<(xs.length:Int):=by omega
   have g:Hid ((xs.map (·.name)).length<=k):=by show(xs.map (·.name)).length<=k;rw[List.length_map];omega
   go_wp2;go_ret;exact⟨Zog g.out a.out,rfl⟩
def BoolRow (w:World) (b n:Nat):Prop:=∃cur:Array Value,w.heap[b]? =some (.cells cur 4 (0,0))/\n<=cur.size/\∀k<n,∃x,cur[k]? =some (.bool x)
def Mat (B:Nat) (w:World) (g n i:Nat):Prop:=B<=g/\∃cur:Array Value,w.heap[g]? =some (.cells cur 93 (0,0))/\cur.size=n/\∀j<i,∃b c,cur[j]? =some (.slice (some ⟨b,0,none⟩) n c)/\n<=c/\c<=maxLen/\B<=b/\BoolRow w b n
theorem BoolRow.lt {w:World} {b n:Nat} (h:BoolRow w b n):b<w.heap.size:=by
 obtain⟨a,c,_⟩:=h;exact Zfy c
theorem BoolRow.keep {w w':World} {b n:Nat} (h:BoolRow w b n) (e:w'.heap[b]? =w.heap[b]?):BoolRow w' b n:=by
 obtain⟨a,c,d⟩:=h;exact⟨a,e.trans c,d⟩
theorem BoolRow.set {w:World} {b n k:Nat} {x:Bool} (h:BoolRow w b n):BoolRow (w.setCell ⟨b,k,none⟩ (.bool x)) b n:=by
 obtain⟨a,c,d,f⟩:=h;refine⟨_,heap_set k (.bool x) c,by simpa using d,λj g=>?_⟩;obtain⟨y,i⟩:=f j g;rw[Array.getElem?_setIfInBounds];split
 ·rename_i e
  subst e;rw[if_pos (by omega)];exact⟨x,rfl⟩
 ·exact⟨y,i⟩
theorem BoolRow.cell {w:World} {b n k:Nat} (h:BoolRow w b n) (e:k<n):∃x,w.cell? ⟨b,k,none⟩=some (.bool x)/\w.frozen? ⟨b,k,none⟩=false:=by
 obtain⟨c,a,f,d⟩:=h;obtain⟨x,hx⟩:=d k e;exact⟨x,by simp[World.cell?,a,hx],by simp[World.frozen?,a]⟩
theorem Mat.lt {B:Nat} {w:World} {g n i:Nat} (h:Mat B w g n i):g<w.heap.size:=by
 obtain⟨_,a,b,_⟩:=h;exact Zfy b
theorem Mat.keep {B:Nat} {w w':World} {g n i:Nat} (h:Mat B w g n i) (f:∀k,k<w.heap.size->w'.heap[k]? =w.heap[k]?):Mat B w' g n i:=by
 have t:=h.lt;obtain⟨p,a,q,r,s⟩:=h;refine⟨p,a,(f g t).trans q,r,λj u=>?_⟩;obtain⟨b,c,e,l,m,o,d⟩:=s j u;exact⟨b,c,e,l,m,o,d.keep (f b d.lt)⟩
theorem Mat.below {B:Nat} {w w':World} {g n i:Nat} (h:Mat B w g n i) (a:Below w.heap.size w w'):Mat B w' g n i:=h.keep λk b=>a.block k b
theorem Mat.ne {B:Nat} {w:World} {g n i b m:Nat} (h:Mat B w g n i) (f:BoolRow w b m):g≠b:=by
 rintro rfl;obtain⟨_,d,e,_⟩:=h;obtain⟨c,a,_⟩:=f;rw[e]at a;injection a with a
 injection a with _ a _
 exact absurd a (by decide)
theorem Mat.setRow {B:Nat} {w:World} {g n i b c:Nat} (h:Mat B w g n i) (k:BoolRow w b n) (z:B<=b) (A:n<=c) (C:c<=maxLen) (hi:i<n):Mat B (w.setCell ⟨g,i,none⟩ (.slice (some ⟨b,0,none⟩) n c)) g n (i+1):=by
 have d:∀a m,BoolRow w a m->a≠g:=λa m t=>(h.ne t).symm
 obtain⟨u,o,v,x,y⟩:=h;refine⟨u,_,heap_set i _ v,by simpa using x,λj D=>?_⟩;rw[Array.getElem?_setIfInBounds];split
 ·rename_i e
  subst e;rw[if_pos (by omega)];exact⟨b,c,rfl,A,C,z,k.keep (Below.heap_setCell _ _ _ _ (d _ _ k))⟩
 ·rename_i e
  obtain⟨a,l,p,q,r,s,f⟩:=y j (by omega);exact⟨a,l,p,q,r,s,f.keep (Below.heap_setCell _ _ _ _ (d _ _ f))⟩
theorem Mat.cell {B:Nat} {w:World} {g n i j:Nat} (h:Mat B w g n i) (l:j<i):∃b c,w.cell? ⟨g,j,none⟩=some (.slice (some ⟨b,0,none⟩) n c)/\n<=c/\c<=maxLen/\B<=b/\BoolRow w b n:=by
 obtain⟨m,a,f,o,k⟩:=h;obtain⟨b,c,e,d⟩:=k j l;exact⟨b,c,by simp[World.cell?,f,e],d⟩
theorem Mat.slot {B:Nat} {w:World} {g n i j:Nat} (h:Mat B w g n i) (d:j<n):∃u,w.cell? ⟨g,j,none⟩=some u/\w.frozen? ⟨g,j,none⟩=false:=by
 obtain⟨e,a,b,c,f⟩:=h;exact⟨a[j]'(by omega),by simp[World.cell?,b,c,d],by simp[World.frozen?,b]⟩
theorem Mat.begin {B:Nat} {w:World} {a:Array Value} {n:Nat} (b:B<=w.heap.size) (c:a.size=n):Mat B (w.alloc (.cells a 93)) w.heap.size n 0:=⟨b,a,alloc_at w _,c,λj d=>absurd d (by omega)⟩
theorem Zcfa:(prog.info? 4).map (λi=>(i.zero,i.size,i.bytes))=some (some (.bool false),1,1):=by kernel_rfl
theorem Zcfb:(prog.info? 93).map (λi=>(i.zero,i.size,i.bytes))=some (some (.slice none 0 0),1,24):=by kernel_rfl
theorem Zcfl (n:Nat) (f:n<=1000) (w:World):(Instr.makeSlice 93 (.int .i64 (n:Int)) (.int .i64 (n:Int))).run prog w = .ok (.slice (some ⟨w.heap.size,0,none⟩) n n) (w.alloc (.cells (madeCells #[.bool false] n) 4)):=by
 obtain⟨e,b,d,c,a⟩:=Zsv Zcfa;have:=run_make (P:=prog) w 93 4 e (.bool false) underlying93 b d .i64 .i64 n n (by omega) (Int.le_refl _) (by rw[a];omega) (by omega);rw[c,show(Value.bool false).cells = #[.bool false]from rfl]at this;simpa using this
theorem Zcfn (n:Nat) (f:n<=1000) (w:World):(Instr.makeSlice 37 (.int .i64 (n:Int)) (.int .i64 (n:Int))).run prog w = .ok (.slice (some ⟨w.heap.size,0,none⟩) n n) (w.alloc (.cells (madeCells #[.slice none 0 0] n) 93)):=by
 obtain⟨e,b,d,c,a⟩:=Zsv Zcfb;have:=run_make (P:=prog) w 37 93 e (.slice none 0 0) underlying37 b d .i64 .i64 n n (by omega) (Int.le_refl _) (by rw[a];omega) (by omega);rw[c,show(Value.slice none 0 0).cells = #[.slice none 0 0]from rfl]at this;simpa using this
def MatF (w:World) (g n:Nat) (rb rc:Nat->Nat) (M:Nat->Nat->Bool):Prop:=∀i<n,w.cell? ⟨g,i,none⟩=some (.slice (some ⟨rb i,0,none⟩) n (rc i))/\n<=rc i/\rc i<=9223372036854775807/\∀k<n,w.cell? ⟨rb i,k,none⟩=some (.bool (M i k))
theorem Mat.fix {B:Nat} {w:World} {g n:Nat} (h:Mat B w g n n):∃y z M,∀w',Below w.heap.size w w'->MatF w' g n y z M:=by
 have v:=h.lt;have t:∀i:Nat,∃x:Nat×Nat×(Nat->Bool),i<n->w.cell? ⟨g,i,none⟩=some (.slice (some ⟨x.1,0,none⟩) n x.2.1)/\n<=x.2.1/\x.2.1<=9223372036854775807/\x.1<w.heap.size/\∀k<n,w.cell? ⟨x.1,k,none⟩=some (.bool (x.2.2 k)):=by
  intro i
  by_cases d:i<n
  ·obtain⟨b,c,e,j,l,_,o⟩:=h.cell d
   have u:∀k:Nat,∃x:Bool,k<n->w.cell? ⟨b,k,none⟩=some (.bool x):=by
    intro k
    by_cases a:k<n
    ·obtain⟨x,hx,_⟩:=o.cell a
     exact⟨x,λ_=>hx⟩
    ·exact⟨true,λh=>absurd h a⟩
   obtain⟨f,m⟩:=Classical.skolem.1 u;exact⟨(b,c,f),λ_=>⟨e,j,by unfold maxLen at l;omega,o.lt,λk a=>m k a⟩⟩
  ·exact⟨(0,0,λ_=>true),λh=>absurd h d⟩
 obtain⟨f,m⟩:=Classical.skolem.1 t;refine⟨λi=>(f i).1,λi=>(f i).2.1,λi=>(f i).2.2,λw' q i d=>?_⟩;obtain⟨e,j,l,r,s⟩:=m i d;exact⟨(q.cell (p:=⟨g,i,none⟩) v).trans e,j,l,λk a=>(q.cell (p:=⟨(f i).1,k,none⟩) r).trans (s k a)⟩
def FarI (w:World) (g n:Nat) (F:Nat->Int):Prop:=∃cur:Array Value,w.heap[g]? =some (.cells cur 3 (0,0))/\cur.size=n/\∀k<n,cur[k]? =some (.int .i64 (F k))
theorem FarI.lt {w:World} {g n:Nat} {F:Nat->Int} (h:FarI w g n F):g<w.heap.size:=by
 obtain⟨a,b,_⟩:=h;exact Zfy b
theorem FarI.keep {w w':World} {g n:Nat} {F:Nat->Int} (h:FarI w g n F) (d:w'.heap[g]? =w.heap[g]?):FarI w' g n F:=by
 obtain⟨a,b,c⟩:=h;exact⟨a,d.trans b,c⟩
theorem FarI.below {w w':World} {g n:Nat} {F:Nat->Int} (h:FarI w g n F) (a:Below w.heap.size w w'):FarI w' g n F:=h.keep (a.block g h.lt)
theorem FarI.set {w:World} {g n k:Nat} {F:Nat->Int} (h:FarI w g n F) (v:Int):FarI (w.setCell ⟨g,k,none⟩ (.int .i64 v)) g n (λj=>if j=k then v else F j):=by
 obtain⟨a,b,c,d⟩:=h;refine⟨_,heap_set k _ b,by simpa using c,λj f=>?_⟩;rw[Array.getElem?_setIfInBounds]
 by_cases e:j=k
 ·subst e
  rw[if_pos rfl,if_pos (by omega)];simp
 ·rw[if_neg (λh=>e h.symm)]
  simp only[if_neg e];exact d j f
theorem FarI.cell {w:World} {g n k:Nat} {F:Nat->Int} (h:FarI w g n F) (d:k<n):w.cell? ⟨g,k,none⟩=some (.int .i64 (F k))/\w.frozen? ⟨g,k,none⟩=false:=by
 obtain⟨b,a,e,c⟩:=h;exact⟨by simp[World.cell?,a,c k d],by simp[World.frozen?,a]⟩
theorem Zcdl {w:World} {n:Nat}:FarI (w.alloc (.cells (madeCells #[.int .i64 0] n) 3)) w.heap.size n (λ_=>0):=by
 refine⟨_,alloc_at w _,size_madeCells _ _,λk b=>?_⟩;have a:k % 1=0:=Nat.mod_one k;simp[madeCells,b,a]
theorem Zcfc:(prog.info? 3).map (λi=>(i.zero,i.size,i.bytes))=some (some (.int .i64 0),1,8):=by kernel_rfl
theorem Zcfm (n:Nat) (f:n<=1000) (w:World):(Instr.makeSlice 131 (.int .i64 (n:Int)) (.int .i64 (n:Int))).run prog w = .ok (.slice (some ⟨w.heap.size,0,none⟩) n n) (w.alloc (.cells (madeCells #[.int .i64 0] n) 3)):=by
 obtain⟨e,b,d,c,a⟩:=Zsv Zcfc;have:=run_make (P:=prog) w 131 3 e (.int .i64 0) underlying131 b d .i64 .i64 n n (by omega) (Int.le_refl _) (by rw[a];omega) (by omega);rw[c,show(Value.int .i64 0).cells = #[.int .i64 0]from rfl]at this;simpa using this
def FarOk (n:Nat) (M:Nat->Nat->Bool) (F:Nat->Int):Prop:=∀k<n,-1<=F k/\F k<=n/\(0<F k->∃l<n,M k l=true/\F l=F k-1)
theorem FarOk.set {n:Nat} {M:Nat->Nat->Bool} {F:Nat->Int} (h:FarOk n M F) {i k:Nat} {d:Int} (p:k<n) (hi:F i<0) (r:M i k=true) (m:F k=d-1) (u:1<=d) (s:d<=n):FarOk n M (λj=>if j=i then d else F j):=by
 intro j o;show -1<=(if j=i then d else F j)/\(if j=i then d else F j)<=n/\(0<(if j=i then d else F j)->∃l<n,M j l=true/\(if l=i then d else F l)=(if j=i then d else F j)-1)
 by_cases e:j=i
 ·subst e
  rw[if_pos rfl];refine⟨by omega,s,λ_=>⟨k,p,r,?_⟩⟩;rw[if_neg (by rintro rfl;omega)];exact m
 ·rw[if_neg e]
  obtain⟨a,b,c⟩:=h j o;refine⟨a,b,λt=>?_⟩;obtain⟨l,q,g,f⟩:=c t;refine⟨l,q,g,?_⟩;rw[if_neg (by rintro rfl;omega)];exact f
theorem Zcgl {B:Nat} {w:World} {v:Value} {xs:List ByteArray} {g n:Nat} {F:Nat->Int} (h:OwnStrs B w v xs) (i:FarI w g n F):some g≠v.ownBlock:=by
 intro e;obtain⟨d,f,_⟩:=i
 rcases h.2 with⟨rfl,_⟩|⟨j,c,b,rfl,_,a,_⟩
 ·simp[Value.ownBlock]at e
 ·simp only[Value.ownBlock,Option.some.injEq]at e
  subst e;rw[f]at a;injection a with a
  injection a with _ a _
  exact absurd a (by decide)
