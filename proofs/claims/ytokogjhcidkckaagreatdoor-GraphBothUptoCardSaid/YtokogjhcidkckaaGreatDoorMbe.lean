import Derived.Test.YtokogjhcidkckaaGreatDoorMbd
import Derived.Deep.CutBlock
import Derived.Deep.DeepCutAuto
import Derived.Laws.MakeOwn
namespace Go.Proofs.YtokogjhcidkckaaGreatDoor
open Go.Lib (hid)
open Go.Proofs.Tryz
open Go.RowKit Go.Shelf
def inB (f:ByteArray) (xs:List ByteArray):Bool:=xs.any λx=>decide (x=f)
theorem Zdbl {f:ByteArray} {xs:List ByteArray}:inB f xs=true↔f∈xs:=by
 unfold inB;rw[List.any_eq_true];exact⟨λ⟨x,h1,h2⟩=>of_decide_eq_true h2▸h1,λh=>⟨f,h,decide_eq_true rfl⟩⟩
def Zdhs (rs:List RuleS) (n:ByteArray):Option RuleS:=rs.find? (λr=>decide (r.name=n))
def Zddu (rs:List RuleS) (f:ByteArray):Option ByteArray:=(rs.find? (λr=>inB f r.outs)).map (·.name)
def Zdes (rs:List RuleS) (l:Lb):List Lb:=if l.1 then(match Zdhs rs l.2 with|some r=>setL (Zcyo r.ins)|none=>[])else(match Zddu rs l.2 with|some n=>[(true,n)]|none=>[])
def Zdjt (rs:List RuleS) (l:Lb):List Lb:=if l.1 then(match Zdhs rs l.2 with|some r=>setL (Zcyo r.outs)|none=>[])else setL (rdOf (Zdgj rs) l.2)
def Zdbt (rs:List RuleS) (l:Lb):Int:=if l.1 then(if (Zdhs rs l.2).isSome then 1 else 0)else if (Zddu rs l.2).isSome then 2 else if rs.any (λr=>inB l.2 r.ins)then 3 else 0
def Zdkc:RuleS:=⟨⟨#[]⟩,[],[],[],[]⟩
def mkQ (M:SKV) (q:ByteArray×ByteArray):SKV:=putA M q.1 (lv (true,q.2))
theorem Zdem (M:SKV) (r:RuleS):Zdel M r=(r.outs.map λx=>(x,r.name)).foldl mkQ M:=by
 unfold Zdel;rw[List.foldl_map];rfl
theorem Zdei:∀(rs:List RuleS) (M:SKV),rs.foldl Zdel M=(rs.flatMap λr=>r.outs.map λx=>(x,r.name)).foldl mkQ M
 | [],_=>rfl
 | r::rs,M=>by
  rw[List.foldl_cons,Zdei rs,List.flatMap_cons,List.foldl_append,Zdem]
theorem Zdek (f:ByteArray) (z:Value):∀(qs:List (ByteArray×ByteArray)) (M:SKV),
  (∃q∈qs,q.1=f/\getA (qs.foldl mkQ M) f z=lv (true,q.2)/\hasA (qs.foldl mkQ M) f=true)∨((∀q∈qs,q.1≠f)/\getA (qs.foldl mkQ M) f z=getA M f z/\hasA (qs.foldl mkQ M) f=hasA M f)
 | [],M=> .inr ⟨by simp,rfl,rfl⟩
 | q::qs,M=>by
  rw[List.foldl_cons]
  rcases Zdek f z qs (mkQ M q)with⟨q',h1,h2⟩|⟨h1,h2,h3⟩
  ·exact .inl ⟨q',List.mem_cons_of_mem _ h1,h2⟩
  ·unfold mkQ at h2 h3
   by_cases hq:q.1=f
   ·refine .inl ⟨q,List.mem_cons_self,hq,?_,?_⟩
    ·show getA (qs.foldl mkQ (putA M q.1 (lv (true,q.2)))) f z=_
     have:getA (qs.foldl mkQ (putA M q.1 (lv (true,q.2)))) f z=getA (putA M q.1 (lv (true,q.2))) f z:=h2;rw[this,hq,Zdak]
    ·have:hasA (qs.foldl mkQ (putA M q.1 (lv (true,q.2)))) f=hasA (putA M q.1 (lv (true,q.2))) f:=h3
     show hasA (qs.foldl mkQ (putA M q.1 (lv (true,q.2)))) f=true;rw[this,Zday,hq];simp
   ·refine .inr ⟨λx hx=>?_,?_,?_⟩
    ·rcases List.mem_cons.1 hx with rfl|hx
     ·exact hq
     ·exact h1 x hx
    ·have:getA (qs.foldl mkQ (putA M q.1 (lv (true,q.2)))) f z=getA (putA M q.1 (lv (true,q.2))) f z:=h2
     show getA (qs.foldl mkQ (putA M q.1 (lv (true,q.2)))) f z=_;rw[this,Zdaj (Ne.symm hq)]
    ·have:hasA (qs.foldl mkQ (putA M q.1 (lv (true,q.2)))) f=hasA (putA M q.1 (lv (true,q.2))) f:=h3
     show hasA (qs.foldl mkQ (putA M q.1 (lv (true,q.2)))) f=_;rw[this,Zday,decide_eq_false hq,Bool.false_or]
theorem OkTog.one {rs:List RuleS} (h:OkTog rs) {x y:RuleS} (hx:x∈rs) (hy:y∈rs) {f:ByteArray} (fx:f∈x.outs) (fy:f∈y.outs):x=y:=by
 obtain⟨i,hi,hxi⟩:=List.mem_iff_getElem.1 hx;obtain⟨j,hj,hyj⟩:=List.mem_iff_getElem.1 hy;have ei:rs[i]? =some x:=by rw[List.getElem?_eq_getElem hi,hxi]
 have ej:rs[j]? =some y:=by rw[List.getElem?_eq_getElem hj,hyj]
 rcases Nat.lt_trichotomy i j with h1|h1|h1
 ·exact absurd fy (h.files i j x y ei ej h1 f fx)
 ·subst h1
  rw[ei]at ej;exact Option.some.inj ej
 ·exact absurd fx (h.files j i y x ej ei h1 f fy)
theorem Zddx {rs:List RuleS} {f m:ByteArray} (h:Zddu rs f=some m):∃r∈rs,f∈r.outs/\r.name=m:=by
 unfold Zddu at h;obtain⟨r,h1,h2⟩:=Option.map_eq_some_iff.1 h;exact⟨r,List.mem_of_find?_eq_some h1,Zdbl.1 (List.find?_some (p:=λr:RuleS=>inB f r.outs) h1),h2⟩
theorem Zddw {rs:List RuleS} (hT:OkTog rs) {r:RuleS} (hr:r∈rs) {f:ByteArray} (hf:f∈r.outs):Zddu rs f=some r.name:=by
 cases h:Zddu rs f with
 | none=>
  unfold Zddu at h;have h1:=List.find?_eq_none.1 (Option.map_eq_none_iff.1 h) r hr;rw[Zdbl.2 hf]at h1;exact absurd rfl h1
 | some m=>
  obtain⟨x,hx,hfx,rfl⟩:=Zddx h;rw[hT.one hx hr hfx hf]
theorem Zddv {rs:List RuleS} {f:ByteArray} (h:Zddu rs f=none):∀r∈rs,f∉r.outs:=by
 intro r hr hf;unfold Zddu at h;have h1:=List.find?_eq_none.1 (Option.map_eq_none_iff.1 h) r hr;rw[Zdbl.2 hf]at h1;exact absurd rfl h1
theorem Zdhv {rs:List RuleS} {n:ByteArray} {r:RuleS} (h:Zdhs rs n=some r):r∈rs/\r.name=n:=⟨List.mem_of_find?_eq_some h,of_decide_eq_true (List.find?_some (p:=λr:RuleS=>decide (r.name=n)) h)⟩
theorem Zdhu {rs:List RuleS} (hn:(rs.map (·.name)).Nodup) {r:RuleS} (hr:r∈rs):Zdhs rs r.name=some r:=Zczl hn hr
theorem Zdht {rs:List RuleS} {n:ByteArray} (h:Zdhs rs n=none):∀r∈rs,r.name≠n:=by
 intro r hr e;have h1:=List.find?_eq_none.1 h r hr;simp[e]at h1
theorem Zdeg {rs:List RuleS} (hT:OkTog rs) (f:ByteArray):hasA (mkM rs) f=(Zddu rs f).isSome/\getA (mkM rs) f zLab=(match Zddu rs f with|some m=>lv (true,m)|none=>zLab):=by
 unfold mkM;rw[Zdei]
 rcases Zdek f zLab (rs.flatMap λr=>r.outs.map λx=>(x,r.name)) []with⟨q,h1,h2,h3,h4⟩|⟨h1,h2,h3⟩
 ·obtain⟨r,hr,hq⟩:=List.mem_flatMap.1 h1
  obtain⟨x,hx,rfl⟩:=List.mem_map.1 hq
  dsimp only at h2 h3
  subst h2;rw[Zddw hT hr hx,h3,h4];exact⟨rfl,rfl⟩
 ·have hm:Zddu rs f=none:=by
   cases h:Zddu rs f with
   | none=>rfl
   | some m=>
    obtain⟨r,hr,hf,_⟩:=Zddx h;exact absurd rfl (h1 (f,r.name) (List.mem_flatMap.2 ⟨r,hr,List.mem_map_of_mem hf⟩))
  rw[hm,h2,h3];exact⟨rfl,rfl⟩
theorem Zdgl {rs:List RuleS} {q:ByteArray×ByteArray}:q∈Zdgj rs↔∃r∈rs,q.1∈r.ins/\q.2=r.name:=by
 unfold Zdgj Zdgq;rw[List.mem_flatMap];constructor
 ·rintro⟨r,hr,h⟩
  obtain⟨x,hx,rfl⟩:=List.mem_map.1 h;exact⟨r,hr,hx,rfl⟩
 ·rintro⟨r,hr,h1,h2⟩
  exact⟨r,hr,List.mem_map.2 ⟨q.1,h1,by rw[<-h2]⟩⟩
section
variable {w:World} {B p:Nat} {rs:List RuleS}
theorem Zdbf {Av:Nat->Prop} {A:SKV} (h:AIs Av w A rs) (n:ByteArray):hasA A n=(Zdhs rs n).isSome:=by
 rw[Bool.eq_iff_iff,Zdax,h.keys,Option.isSome_iff_exists];constructor
 ·intro hm
  obtain⟨r,hr,e⟩:=List.mem_map.1 hm
  cases h1:Zdhs rs n with
  | none=>exact absurd e (Zdht h1 r hr)
  | some x=>exact⟨x,rfl⟩
 ·rintro⟨r,hr⟩
  obtain⟨h1,h2⟩:=Zdhv hr;exact List.mem_map.2 ⟨r,h1,h2⟩
theorem Zdal {Av:Nat->Prop} {A:SKV} (hn:(rs.map (·.name)).Nodup) (h:AIs Av w A rs) (n:ByteArray):
  ∃a1 n1 c1 a2 n2 c2 a3 n3 c3 a4 n4 c4,getA A n zRul = .agg #[.string ((Zdhs rs n).getD Zdkc).name,.slice a1 n1 c1,.slice a2 n2 c2,.slice a3 n3 c3,.slice a4 n4 c4]/\
   IsStrs w (.slice a1 n1 c1) ((Zdhs rs n).getD Zdkc).ins/\IsStrs w (.slice a2 n2 c2) ((Zdhs rs n).getD Zdkc).outs/\IsStrs w (.slice a3 n3 c3) ((Zdhs rs n).getD Zdkc).after/\StepsI w (.slice a4 n4 c4) ((Zdhs rs n).getD Zdkc).steps:=by
 rcases Zdai (L:=A) (k:=n) (z:=zRul)with⟨h1,h2⟩|⟨e,he,h1,h2,h3⟩
 ·have hr:Zdhs rs n=none:=by
   have:=Zdbf h n;rw[h2]at this
   cases h4:Zdhs rs n with
   | none=>rfl
   | some x=>rw[h4]at this;cases this
  rw[hr,h1];have hs:IsStrs w (.slice none 0 0) []:=⟨none,0,rfl,by simp,by simp[maxLen],λh=>absurd rfl h⟩;exact⟨none,0,0,none,0,0,none,0,0,none,0,0,rfl,hs,hs,hs,[],⟨none,0,rfl,by simp,by simp[maxLen],λh=>absurd rfl h⟩,AllA.nil _⟩
 ·obtain⟨j,hj,hje⟩:=List.mem_iff_getElem.1 he
  have hk:j<rs.length:=by rw[<-h.1];exact hj
  obtain⟨k1,vi,vo,vf,vs,k2,k3⟩:=h.2 j e _ (by rw[List.getElem?_eq_getElem hj,hje]) (List.getElem?_eq_getElem hk);have hr:Zdhs rs n=some rs[j]:=by rw[<-h1,k1];exact Zdhu hn (List.getElem_mem hk)
  rw[hr,h2,k2];obtain⟨_,_,_,_,h4,h5,h6,h7,h8⟩:=k3;simp only[List.cons.injEq,and_true,true_and]at h4;obtain⟨rfl,rfl,rfl,rfl⟩:=h4;obtain⟨a1,c1,e1⟩:=Zue h5.isStrs;obtain⟨a2,c2,e2⟩:=Zue h6.isStrs;obtain⟨a3,c3,e3⟩:=Zue h7.isStrs;subst e1;subst e2;subst e3;obtain⟨rows,hrow,hall⟩:=h8;obtain⟨a4,c4,e4,q⟩:=hrow.1;subst e4;exact⟨a1,_,c1,a2,_,c2,a3,_,c3,a4,_,c4,rfl,h5.isStrs,h6.isStrs,h7.isStrs,rows,hrow.1,hall.imp λr x h=>by obtain⟨va,vl,rfl,ha,hl⟩:=h;exact⟨va,vl,rfl,ha.isStrs,hl.isStrs⟩⟩
end
theorem OkTog.short {rs:List RuleS} (h:OkTog rs) (n:ByteArray):((Zdhs rs n).getD Zdkc).ins.length<=8/\((Zdhs rs n).getD Zdkc).outs.length<=4/\((Zdhs rs n).getD Zdkc).after.length<=8/\((Zdhs rs n).getD Zdkc).steps.length<=12:=by
 cases hr:Zdhs rs n with
 | none=>simp[Zdkc]
 | some r=>exact Zckm (h.each r (Zdhv hr).1)
section
variable (B p:Nat) (rs:List RuleS) (w:World)
theorem Zdao (l:Lb) (h:GrX w B p rs) (hT:OkTog rs):
  Calls prog 17 #[.pointer (some { block:=p,off:=0 }),lv l] w λe w'=>∃v',e = .returned v'/\OwnL w.heap.size w' v' (Zdes rs l)/\Below w.heap.size w w':=by
 obtain⟨B1,C,mr,mm,md,A,R,_,hG⟩:=h;obtain⟨q,k⟩:=l
 cases q with
 | true=>
  obtain⟨a1,n1,c1,a2,n2,c2,a3,n3,c3,a4,n4,c4,hg,h1,_⟩:=Zdal hT.nodup hG.ai k;have hz:=hT.short k;refine(Zdev p A (mkM rs) R k w hG.graph hg h1 (by omega)).mono ?_;rintro e w' ⟨v',rfl,ho,hb⟩;refine⟨v',rfl,?_,hb⟩;have e1:Zdes rs (true,k)=setL (Zcyo ((Zdhs rs k).getD Zdkc).ins):=by
   unfold Zdes
   cases hr:Zdhs rs k with
   | none=>simp[Zdkc,Zcyo,setL]
   | some r=>simp
  rw[e1];exact ho
 | false=>
  obtain⟨h1,h2⟩:=Zdeg hT k;obtain⟨q,s,hqs⟩:=(Zdce rs).get k;refine(Zder p A (mkM rs) R k w hG.graph hqs).mono ?_;rintro e w' ⟨v',rfl,ho,hb⟩;refine⟨v',rfl,?_,hb⟩;have e1:Zdes rs (false,k)=if hasA (mkM rs) k then [(q,s)]else []:=by
   unfold Zdes;rw[h1]
   cases hm:Zddu rs k with
   | none=>simp
   | some m=>
    rw[hm]at h2;rw[hqs]at h2
    cases h2
    simp
  rw[e1];exact ho
theorem Zdau (l:Lb) (h:GrX w B p rs) (hT:OkTog rs):
  Calls prog 19 #[.pointer (some { block:=p,off:=0 }),lv l] w λe w'=>∃v',e = .returned v'/\OwnL w.heap.size w' v' (Zdjt rs l)/\Below w.heap.size w w':=by
 obtain⟨B1,C,mr,mm,md,A,R,_,hG⟩:=h;obtain⟨q,k⟩:=l
 cases q with
 | true=>
  obtain⟨a1,n1,c1,a2,n2,c2,a3,n3,c3,a4,n4,c4,hg,_,h1,_⟩:=Zdal hT.nodup hG.ai k;have hz:=hT.short k;refine(Zdjw p A (mkM rs) R k w hG.graph hg h1 (by omega)).mono ?_;rintro e w' ⟨v',rfl,ho,hb⟩;refine⟨v',rfl,?_,hb⟩;have e1:Zdjt rs (true,k)=setL (Zcyo ((Zdhs rs k).getD Zdkc).outs):=by
   unfold Zdjt
   cases hr:Zdhs rs k with
   | none=>simp[Zdkc,Zcyo,setL]
   | some r=>simp
  rw[e1];exact ho
 | false=>
  have hrow:=hG.ri.row k;obtain⟨a,c,hv,_,_,hr,_⟩:=Zdfu hrow;have hl:(rdOf (Zdgj rs) k).length<=1000:=by
   have h1:=Zdgo (Zdgj rs) k;have h2:=Zdgk λr hr=>(Zckm (hT.each r hr)).1
   have:=hT.few;omega
  exact Zdjs p A (mkM rs) R k w hG.graph hv hr hl
theorem Zdam (l:Lb) (h:GrX w B p rs) (hT:OkTog rs):
  Calls prog 15 #[.pointer (some { block:=p,off:=0 }),lv l] w λe w'=>e = .returned (.int .i64 (Zdbt rs l))/\Below w.heap.size w w':=by
 obtain⟨B1,C,mr,mm,md,A,R,_,hG⟩:=h;refine(Zdbu p A (mkM rs) R l w hG.graph).mono ?_;rintro e w' ⟨rfl,hb⟩;refine⟨?_,hb⟩;have hR:hasA R l.2=rs.any (λr=>inB l.2 r.ins):=by
  rw[Bool.eq_iff_iff,hG.ri.key,List.any_eq_true];constructor
  ·rintro⟨q,h1,h2⟩
   obtain⟨r,hr,h3,_⟩:=Zdgl.1 h1;exact⟨r,hr,by rw[h2]at h3;exact Zdbl.2 h3⟩
  ·rintro⟨r,hr,h1⟩
   exact⟨(l.2,r.name),Zdgl.2 ⟨r,hr,Zdbl.1 h1,rfl⟩,rfl⟩
 have e:Zdbs A (mkM rs) R l=Zdbt rs l:=by
  unfold Zdbs Zdbt;rw[Zdbf hG.ai l.2,(Zdeg hT l.2).1,hR]
 rw[e]
theorem Zdan (f:ByteArray) (h:GrX w B p rs) (hT:OkTog rs):
  Calls prog 20 #[.pointer (some { block:=p,off:=0 }),.string f] w λe w'=>e = .returned (.tuple #[.string ((Zddu rs f).getD ⟨#[]⟩),.bool (Zddu rs f).isSome])/\Below w.heap.size w w':=by
 obtain⟨B1,C,mr,mm,md,A,R,_,hG⟩:=h;obtain⟨h1,h2⟩:=Zdeg hT f;have hg:∃q,getA (mkM rs) f zLab = .agg #[.bool q,.string ((Zddu rs f).getD ⟨#[]⟩)]:=by
  rw[h2]
  cases Zddu rs f with
  | none=>exact⟨false,rfl⟩
  | some m=>exact⟨true,rfl⟩
 obtain⟨q,hg⟩:=hg;have:=Zddy p A (mkM rs) R f w hG.graph hg;rw[h1]at this;exact this
theorem Zdat (n:ByteArray) (h:GrX w B p rs) (hT:OkTog rs) (ha:∀r∈rs,∀y∈r.steps,y.args.length<=1000000/\y.lits.length<=1000000):
  Calls prog 22 #[.pointer (some { block:=p,off:=0 }),.string n] w λe w'=>(∃vi vo vf vs,e = .returned (.tuple #[.agg #[.string ((Zdhs rs n).getD Zdkc).name,vi,vo,vf,vs],.bool (Zdhs rs n).isSome])/\StrsA (λb=>b<w.heap.size) w' vi ((Zdhs rs n).getD Zdkc).ins/\StrsA (λb=>b<w.heap.size) w' vo ((Zdhs rs n).getD Zdkc).outs/\StrsA (λb=>b<w.heap.size) w' vf ((Zdhs rs n).getD Zdkc).after/\StepsA (λb=>b<w.heap.size) w' vs ((Zdhs rs n).getD Zdkc).steps)/\Below w.heap.size w w':=by
 obtain⟨B1,C,mr,mm,md,A,R,_,hG⟩:=h;obtain⟨a1,n1,c1,a2,n2,c2,a3,n3,c3,a4,n4,c4,hg,h1,h2,h3,h4⟩:=Zdal hT.nodup hG.ai n;have hz:=hT.short n;have hst:∀x∈((Zdhs rs n).getD Zdkc).steps,x.args.length<=1000000/\x.lits.length<=1000000:=by
  cases hr:Zdhs rs n with
  | none=>intro x hx;cases hx
  | some r=>exact ha r (Zdhv hr).1
 have:=Zdas p A (mkM rs) R n w hG.graph ((Zdhs rs n).getD Zdkc) a1 a2 a3 a4 n1 c1 n2 c2 n3 c3 n4 c4 hg h1 h2 h3 h4 (by omega) (by omega) (by omega) (by omega) hst;rw[Zdbf hG.ai n]at this;exact this
end
end Go.Proofs.YtokogjhcidkckaaGreatDoor
namespace Go.Proofs.YtokogjhcidkckaaGreatDoor
open Go.Lib (hid)
open Go.Proofs.Tryz
open Go.RowKit Go.Shelf
def allG (rs:List RuleS):List Lb:=setL (rs.flatMap labR)
theorem Zcyq {xs:List ByteArray} {l:Lb}:l∈Zcyo xs↔l.1=false/\l.2∈xs:=by
 unfold Zcyo;rw[List.mem_map];constructor
 ·rintro⟨x,hx,rfl⟩
  exact⟨rfl,hx⟩
 ·rintro⟨h1,h2⟩
  exact⟨l.2,h2,by rw[<-h1]⟩
theorem Zdgp {qs:RdL} {k:ByteArray} {l:Lb}:l∈rdOf qs k↔l.1=true/\(k,l.2)∈qs:=by
 unfold rdOf;rw[List.mem_map];constructor
 ·rintro⟨q,hq,rfl⟩
  rw[List.mem_filter,decide_eq_true_iff]at hq;exact⟨rfl,by rw[<-hq.2];exact hq.1⟩
 ·rintro⟨h1,h2⟩
  exact⟨(k,l.2),by rw[List.mem_filter,decide_eq_true_iff];exact⟨h2,rfl⟩,by rw[<-h1]⟩
theorem Zcwx {rs:List RuleS} {a:Lb}:a∈allG rs↔∃r∈rs,(a.1=true/\a.2=r.name)∨(a.1=false/\(a.2∈r.ins∨a.2∈r.outs)):=by
 unfold allG;rw[Zdef,List.mem_flatMap];unfold labR;constructor
 ·rintro⟨r,hr,h⟩
  refine⟨r,hr,?_⟩
  rcases List.mem_cons.1 h with rfl|h
  ·exact .inl ⟨rfl,rfl⟩
  ·rcases List.mem_append.1 h with h|h
   ·exact .inr ⟨(Zcyq.1 h).1,.inl (Zcyq.1 h).2⟩
   ·exact .inr ⟨(Zcyq.1 h).1,.inr (Zcyq.1 h).2⟩
 ·rintro⟨r,hr,⟨h1,h2⟩|⟨h1,h2⟩⟩
  ·exact⟨r,hr,List.mem_cons.2 (.inl (by rw[<-h1,<-h2]))⟩
  ·exact⟨r,hr,List.mem_cons.2 (.inr (List.mem_append.2 (h2.imp (λh=>Zcyq.2 ⟨h1,h⟩) λh=>Zcyq.2 ⟨h1,h⟩)))⟩
theorem Zdeu {rs:List RuleS} (hT:OkTog rs) {a b:Lb}:b∈Zdes rs a↔(a.1=true/\b.1=false/\∃r∈rs,r.name=a.2/\b.2∈r.ins)∨(a.1=false/\b.1=true/\∃r∈rs,r.name=b.2/\a.2∈r.outs):=by
 obtain⟨q,n⟩:=a;unfold Zdes
 cases q with
 | true=>
  simp only[if_true,true_and,Bool.true_eq_false,false_and,or_false];constructor
  ·intro h
   cases hr:Zdhs rs n with
   | none=>rw[hr]at h;cases h
   | some r=>
    rw[hr]at h;obtain⟨h1,h2⟩:=Zcyq.1 (Zdef.1 h);exact⟨h1,r,(Zdhv hr).1,(Zdhv hr).2,h2⟩
  ·rintro⟨h1,r,hr,rfl,h2⟩
   rw[Zdhu hT.nodup hr];exact Zdef.2 (Zcyq.2 ⟨h1,h2⟩)
 | false=>
  simp only[Bool.false_eq_true,if_false,false_and,false_or,true_and];constructor
  ·intro h
   cases hm:Zddu rs n with
   | none=>rw[hm]at h;cases h
   | some m=>
    rw[hm]at h;simp only[List.mem_singleton]at h;subst h;obtain⟨r,hr,h1,h2⟩:=Zddx hm;exact⟨rfl,r,hr,h2,h1⟩
  ·rintro⟨h1,r,hr,h2,h3⟩
   rw[Zddw hT hr h3,h2];simp only[List.mem_singleton];rw[<-h1]
theorem Zdjv {rs:List RuleS} (hT:OkTog rs) {a b:Lb}:b∈Zdjt rs a↔a∈Zdes rs b:=by
 rw[Zdeu hT];obtain⟨q,n⟩:=a;unfold Zdjt
 cases q with
 | true=>
  simp only[if_true,Bool.true_eq_false,false_and,and_false,false_or,true_and];constructor
  ·intro h
   cases hr:Zdhs rs n with
   | none=>rw[hr]at h;cases h
   | some r=>
    rw[hr]at h;obtain⟨h1,h2⟩:=Zcyq.1 (Zdef.1 h);exact⟨h1,r,(Zdhv hr).1,(Zdhv hr).2,h2⟩
  ·rintro⟨h1,r,hr,rfl,h2⟩
   rw[Zdhu hT.nodup hr];exact Zdef.2 (Zcyq.2 ⟨h1,h2⟩)
 | false=>
  simp only[Bool.false_eq_true,if_false,false_and,and_false,or_false,true_and];rw[Zdef,Zdgp,Zdgl];constructor
  ·rintro⟨h1,r,hr,h2,h3⟩
   exact⟨h1,r,hr,h3.symm,h2⟩
  ·rintro⟨h1,r,hr,h2,h3⟩
   exact⟨h1,r,hr,h3,h2.symm⟩
theorem Zdew {rs:List RuleS} (hT:OkTog rs) {a b:Lb} (h:b∈Zdes rs a):a∈Zdjt rs b/\(a.1==b.1)=false:=by
 refine⟨(Zdjv hT).2 h,?_⟩
 rcases(Zdeu hT).1 h with⟨h1,h2,_⟩|⟨h1,h2,_⟩<;>rw[h1,h2]<;>rfl
theorem Zdie {xs:List ByteArray} (h:xs.Nodup):(setL (Zcyo xs)).length=xs.length:=by
 have hn:(Zcyo xs).Nodup:=by
  unfold Zcyo;refine List.Pairwise.map _ (λx y hne e=>hne ?_) h;exact(Prod.mk.inj e).2
 have hr:=Zdhm (Zcyo xs);have hp:(setL (Zcyo xs)).Perm (Zcyo xs):=(List.perm_ext_iff_of_nodup hr.nodup hn).2 λx=>Zdef
 rw[hp.length_eq,Zcyp]
theorem Zdbp {r:RuleS} (h:Zbip r=0):r.ins.Nodup:=by
 unfold Zbip at h;split at h
 ·cases h
 split at h
 ·cases h
 split at h
 ·cases h
 rename_i h3
 have h3:Zbac r=true:=by simpa using h3
 unfold Zbac at h3;simp only[Bool.and_eq_true]at h3;have h4:=h3.1.1.1.1;exact Zbcl.1 h4
theorem Zdbv {rs:List RuleS} (hT:OkTog rs) {a:Lb} (h:a∈allG rs):
  (Zdbt rs a=3/\Zdes rs a = [])∨(Zdbt rs a=2/\∃m,Zddu rs a.2=some m/\Zdes rs a = [(true,m)])∨(Zdbt rs a=1/\∃r,Zdhs rs a.2=some r/\(Zdes rs a).length=r.ins.length):=by
 obtain⟨r,hr,h⟩:=Zcwx.1 h;obtain⟨q,n⟩:=a
 rcases h with⟨h1,h2⟩|⟨h1,h2⟩
 ·dsimp only at h1 h2
  subst h1;subst h2;have hg:=Zdhu hT.nodup hr;refine .inr (.inr ⟨?_,r,hg,?_⟩)
  ·unfold Zdbt
   simp[hg]
  ·unfold Zdes
   simp only[if_true,hg];exact Zdie (Zdbp (hT.each r hr))
 ·dsimp only at h1 h2
  subst h1
  cases hm:Zddu rs n with
  | some m=>
   refine .inr (.inl ⟨?_,m,rfl,?_⟩)
   ·unfold Zdbt
    simp[hm]
   ·unfold Zdes
    simp[hm]
  | none=>
   refine .inl ⟨?_,?_⟩
   ·have hi:n∈r.ins:=h2.resolve_right (Zddv hm r hr)
    have ha:rs.any (λr=>inB n r.ins)=true:=List.any_eq_true.2 ⟨r,hr,Zdbl.2 hi⟩;unfold Zdbt;simp[hm,ha]
   ·unfold Zdes
    simp[hm]
theorem Zdig (xs:List Lb):(setL xs).length<=xs.length:=by
 have h:=(Zcwu [] xs).2;rw[<-Zdio,(Zdit _).length_eq];simpa using h
theorem Zdbz {rs:List RuleS} (h:∀r∈rs,r.ins.length<=8/\r.outs.length<=4):(rs.flatMap labR).length<=rs.length*13:=by
 induction rs with
 | nil=>simp
 | cons r rs ih=>
  have h1:=ih λr hr=>h r (List.mem_cons_of_mem _ hr)
  have h2:=h r List.mem_cons_self;rw[List.flatMap_cons,List.length_append,List.length_cons,Nat.succ_mul];unfold labR at h1⊢;rw[List.length_cons,List.length_append,Zcyp,Zcyp];omega
theorem Zdet {rs:List RuleS} (hT:OkTog rs) (a:Lb):(Zdes rs a).length<=400:=by
 unfold Zdes;split
 ·cases hr:Zdhs rs a.2 with
  | none=>simp
  | some r=>
   have h1:=Zdig (Zcyo r.ins);have h2:=Zckm (hT.each r (Zdhv hr).1);rw[Zcyp]at h1;show(setL (Zcyo r.ins)).length<=400;omega
 ·cases Zddu rs a.2<;>simp
theorem Zdju {rs:List RuleS} (hT:OkTog rs) (a:Lb):(Zdjt rs a).length<=400:=by
 unfold Zdjt;split
 ·cases hr:Zdhs rs a.2 with
  | none=>simp
  | some r=>
   have h1:=Zdig (Zcyo r.outs);have h2:=Zckm (hT.each r (Zdhv hr).1);rw[Zcyp]at h1;show(setL (Zcyo r.outs)).length<=400;omega
 ·have h1:=Zdig (rdOf (Zdgj rs) a.2)
  have h2:=Zdgo (Zdgj rs) a.2;have h3:=Zdgk λr hr=>(Zckm (hT.each r hr)).1
  have:=hT.few;omega
def Zcfr (s:ByteArray):List RuleS->Nat->Int
 | [],_=> -1
 | x::r,k=>if 0<=Zoi x.outs s then(k:Int)else Zcfr s r (k+1)
def Zcfo (xs:List RuleS) (s:ByteArray):Int:=Zcfr s xs 0
def MakR (xs:List RuleS) (s:ByteArray) (r:Int):Prop:=(r = -1/\∀x∈xs,s∉x.outs)∨∃(k:Nat) (x:RuleS),r=(k:Int)/\xs[k]? =some x/\s∈x.outs/\∀j<k,∀y,xs[j]? =some y->s∉y.outs
theorem Zcfs (s:ByteArray):∀(xs:List RuleS) (k:Nat),(Zcfr s xs k = -1/\∀x∈xs,s∉x.outs)∨∃(j:Nat) (x:RuleS),Zcfr s xs k=((k+j:Nat):Int)/\xs[j]? =some x/\s∈x.outs/\∀i<j,∀y,xs[i]? =some y->s∉y.outs
 | [],k=> .inl ⟨rfl,λx hx=>by simp at hx⟩
 | x::r,k=>by
  unfold Zcfr
  by_cases h:0<=Zoi x.outs s
  ·rw[if_pos h]
   exact .inr ⟨0,x,rfl,rfl,Zor (Zom _ _) h,λi hi=>absurd hi (by omega)⟩
  ·rw[if_neg h]
   have hne:=Zos (Zom x.outs s) (by omega)
   rcases Zcfs s r (k+1)with⟨h1,h2⟩|⟨j,y,h1,h2,h3,h4⟩
   ·exact .inl ⟨h1,λz hz=>by rcases List.mem_cons.1 hz with rfl|hz;exact hne;exact h2 z hz⟩
   ·refine .inr ⟨j+1,y,by rw[h1];congr 1;omega,by simpa using h2,h3,λi hi z hz=>?_⟩
    cases i with
    | zero=>simp at hz;rw[<-hz];exact hne
    | succ i=>exact h4 i (by omega) z (by simpa using hz)
theorem Zcfq (xs:List RuleS) (s:ByteArray):MakR xs s (Zcfo xs s):=by
 rcases Zcfs s xs 0 with h|⟨j,x,h1,h2⟩
 ·exact .inl h
 ·exact .inr ⟨j,x,by unfold Zcfo;rw[h1];congr 1;omega,h2⟩
theorem Zcft {xs:List RuleS} {s:ByteArray} {r t:Int} (h:MakR xs s r) (h':MakR xs s t):r=t:=by
 rcases h with⟨rfl,h1⟩|⟨k,x,rfl,h1,h2,h3⟩<;>rcases h' with⟨rfl,h4⟩|⟨j,y,rfl,h4,h5,h6⟩
 ·rfl
 ·exact absurd h5 (h1 y (List.mem_of_getElem? h4))
 ·exact absurd h2 (h4 x (List.mem_of_getElem? h1))
 ·rcases Nat.lt_trichotomy k j with h|h|h
  ·exact absurd h2 (h6 k h x h1)
  ·rw[h]
  ·exact absurd h5 (h3 j h y h4)
theorem Zcfp (xs:List RuleS) (s:ByteArray): -1<=Zcfo xs s/\Zcfo xs s<(xs.length:Int):=by
 rcases Zcfq xs s with⟨h,_⟩|⟨k,x,h,h1,_⟩
 ·omega
 ·have:=(List.getElem?_eq_some_iff.1 h1).1
  omega
def Zcfd (xs:List RuleS) (l:List ByteArray) (k:Nat):Bool:=l.any λf=>Zcfo xs f==(k:Int)
def Zccd (xs:List RuleS) (l:List ByteArray) (k:Nat):Bool:=l.any λa=>Zoi (xs.map (·.name)) a==(k:Int)
def Zcfw (xs:List RuleS) (i k:Nat):Bool:=match xs[i]? with
 | some x=>Zcfd xs x.ins k||Zccd xs x.after k
 | none=>false
def fwK (M:Nat->Nat->Bool):Nat->Nat->Nat->Bool
 | 0=>M
 | k+1=>λa b=>fwK M k a b||(fwK M k a k&&fwK M k k b)
def nmK (xs:List RuleS) (k:Nat):ByteArray:=match xs[k]? with
 | some x=>x.name
 | none=>ByteArray.empty
def Zced (C:Nat->Nat->Bool) (nm:Nat->ByteArray):Nat->Int
 | 0=> -1
 | i+1=>if C i i=true/\(Zced C nm i<0∨Op.bytesLess (nm i).toList (nm (Zced C nm i).toNat).toList=true)then(i:Int)else Zced C nm i
theorem Zceh {C:Nat->Nat->Bool} {nm:Nat->ByteArray} {i:Nat} {f:Int} (h:f=Zced C nm i) (hc:C i i=false):f=Zced C nm (i+1):=by
 unfold Zced;rw[if_neg (by rw[hc];simp)];exact h
theorem Zceg {C:Nat->Nat->Bool} {nm:Nat->ByteArray} {i:Nat} {f:Int} (h:f=Zced C nm i) (hc:C i i=true) (hn:f<0):(i:Int)=Zced C nm (i+1):=by
 unfold Zced;rw[if_pos ⟨hc,.inl (by rw[<-h];exact hn)⟩]
theorem Zcee {C:Nat->Nat->Bool} {nm:Nat->ByteArray} {i f:Nat} (h:(f:Int)=Zced C nm i) (hc:C i i=true) (hn:Op.bytesLess (nm i).toList (nm f).toList=true):(i:Int)=Zced C nm (i+1):=by
 unfold Zced;rw[if_pos ⟨hc,.inr (by rw[<-h,Int.toNat_natCast];exact hn)⟩]
theorem Zcef {C:Nat->Nat->Bool} {nm:Nat->ByteArray} {i f:Nat} (h:(f:Int)=Zced C nm i) (hn:Op.bytesLess (nm i).toList (nm f).toList=false):(f:Int)=Zced C nm (i+1):=by
 unfold Zced;rw[if_neg (by rw[<-h,Int.toNat_natCast,hn];rintro⟨_,h|h⟩;omega;cases h)];exact h
def far0 (f:Nat):Nat->Int:=λj=>if j=f then 0 else -1
def farQ (M:Nat->Nat->Bool) (d:Int) (p:Nat) (F:Nat->Int):Nat->Nat->Int
 | 0=>F
 | q+1=>if farQ M d p F q p<0/\M p q=true/\farQ M d p F q q=d-1 then(λj=>if j=p then d else farQ M d p F q j)else farQ M d p F q
def farP (M:Nat->Nat->Bool) (d:Int) (F:Nat->Int) (n:Nat):Nat->Nat->Int
 | 0=>F
 | p+1=>farQ M d p (farP M d F n p) n
def farD (M:Nat->Nat->Bool) (F:Nat->Int) (n:Nat):Nat->Nat->Int
 | 0=>F
 | d+1=>farP M ((d+1:Nat):Int) (farD M F n d) n n
theorem Zcdt {M:Nat->Nat->Bool} {d:Int} {p q:Nat} {F G:Nat->Int} (h:G=farQ M d p F q) (hn:M p q=false∨¬G q=d-1):G=farQ M d p F (q+1):=by
 unfold farQ;rw[<-h,if_neg];rintro⟨_,h1,h2⟩
 rcases hn with hn|hn
 ·rw[hn]at h1;cases h1
 ·exact hn h2
theorem Zcdw {M:Nat->Nat->Bool} {d:Int} {p q:Nat} {F G:Nat->Int} (h:G=farQ M d p F q) (h0:G p<0) (h1:M p q=true) (h2:G q=d-1):(λj=>if j=p then d else G j)=farQ M d p F (q+1):=by
 unfold farQ;rw[<-h,if_pos ⟨h0,h1,h2⟩]
theorem Zcdu {M:Nat->Nat->Bool} {d:Int} {p q:Nat} {F:Nat->Int} (h:¬farQ M d p F q p<0):∀r,farQ M d p F (q+r)=farQ M d p F q
 | 0=>rfl
 | r+1=>by
  have e:=Zcdu h r;show(if farQ M d p F (q+r) p<0/\_ then _ else _)=_;rw[if_neg (λc=>h (by have:=c.1;rw[e]at this;exact this))];exact e
theorem Zcdr {M:Nat->Nat->Bool} {d:Int} {p q n:Nat} {F G F1:Nat->Int} (h:G=farQ M d p F q) (hF:F=farP M d F1 n p) (h0:¬G p<0) (hq:q<=n):G=farP M d F1 n (p+1):=by
 show G=farQ M d p (farP M d F1 n p) n;rw[<-hF];have:=Zcdu (M:=M) (d:=d) (F:=F) (p:=p) (q:=q) (by rw[<-h];exact h0) (n-q);rw[show q+(n-q)=n by omega]at this;rw[this];exact h
theorem Zcds {M:Nat->Nat->Bool} {d:Int} {p q n:Nat} {F G F1:Nat->Int} (h:G=farQ M d p F q) (hF:F=farP M d F1 n p) (hq:q=n):G=farP M d F1 n (p+1):=by
 show G=farQ M d p (farP M d F1 n p) n;rw[<-hF,<-hq];exact h
theorem Zcdp {M:Nat->Nat->Bool} {d p n:Nat} {F G F0:Nat->Int} (h:G=farP M (d:Int) F n p) (hF:F=farD M F0 n (d-1)) (hp:p=n) (hd:1<=d):G=farD M F0 n (d+1-1):=by
 obtain⟨e,rfl⟩:∃e,d=e+1:=⟨d-1,by omega⟩;show G=farP M ((e+1:Nat):Int) (farD M F0 n e) n n;rw[h,hF,hp];rfl
def Zccl (M:Nat->Nat->Bool) (f:Nat) (F:Nat->Int):Nat->Int
 | 0=>0
 | k+1=>if M f k=true/\0<=F k/\(Zccl M f F k=0∨F k+1<Zccl M f F k)then F k+1 else Zccl M f F k
theorem Zccm {M:Nat->Nat->Bool} {f k:Nat} {F:Nat->Int} {b:Int} (h:b=Zccl M f F k) (hn:M f k=false∨¬0<=F k∨(¬b=0/\¬F k+1<b)):b=Zccl M f F (k+1):=by
 unfold Zccl;rw[<-h,if_neg];rintro⟨h1,h2,h3⟩
 rcases hn with hn|hn|⟨hn,hm⟩
 ·rw[hn]at h1;cases h1
 ·exact hn h2
 ·exact h3.elim hn hm
theorem Zcco {M:Nat->Nat->Bool} {f k:Nat} {F:Nat->Int} {b t:Int} (h:b=Zccl M f F k) (h1:M f k=true) (ht:F k=t) (h2:0<=t) (h3:b=0∨t+1<b):t+1=Zccl M f F (k+1):=by
 unfold Zccl;rw[<-h,ht,if_pos ⟨h1,h2,h3⟩]
def Zcfy (M:Nat->Nat->Bool) (nm:Nat->ByteArray) (p:Nat) (F:Nat->Int) (le:Int):Nat->Int
 | 0=> -1
 | k+1=>if M p k=true/\F k=le/\(Zcfy M nm p F le k<0∨Op.bytesLess (nm k).toList (nm (Zcfy M nm p F le k).toNat).toList=true)then(k:Int)else Zcfy M nm p F le k
theorem Zcgc {M:Nat->Nat->Bool} {nm:Nat->ByteArray} {p k:Nat} {F:Nat->Int} {le x:Int} (h:x=Zcfy M nm p F le k) (hn:M p k=false∨¬F k=le):x=Zcfy M nm p F le (k+1):=by
 unfold Zcfy;rw[<-h,if_neg];rintro⟨h1,h2,_⟩
 rcases hn with hn|hn
 ·rw[hn]at h1;cases h1
 ·exact hn h2
theorem Zcgb {M:Nat->Nat->Bool} {nm:Nat->ByteArray} {p k:Nat} {F:Nat->Int} {le x:Int} (h:x=Zcfy M nm p F le k) (h1:M p k=true) (h2:F k=le) (h3:x<0):(k:Int)=Zcfy M nm p F le (k+1):=by
 unfold Zcfy;rw[<-h,if_pos ⟨h1,h2,.inl h3⟩]
theorem Zcfz {M:Nat->Nat->Bool} {nm:Nat->ByteArray} {p k x:Nat} {F:Nat->Int} {le:Int} (h:(x:Int)=Zcfy M nm p F le k) (h1:M p k=true) (h2:F k=le) (h3:Op.bytesLess (nm k).toList (nm x).toList=true):(k:Int)=Zcfy M nm p F le (k+1):=by
 unfold Zcfy;rw[<-h,if_pos ⟨h1,h2,.inr (by rw[Int.toNat_natCast];exact h3)⟩]
theorem Zcga {M:Nat->Nat->Bool} {nm:Nat->ByteArray} {p k x:Nat} {F:Nat->Int} {le:Int} (h:(x:Int)=Zcfy M nm p F le k) (h3:Op.bytesLess (nm k).toList (nm x).toList=false):(x:Int)=Zcfy M nm p F le (k+1):=by
 unfold Zcfy;rw[<-h,if_neg];rintro⟨_,_,h|h⟩
 ·omega
 ·rw[Int.toNat_natCast,h3]at h;cases h
def Zcgm (M:Nat->Nat->Bool) (nm:Nat->ByteArray) (F:Nat->Int) (n:Nat):Nat->Nat->List ByteArray
 | 0,_=>[]
 | le+1,p=>nm (Zcfy M nm p F ((le+1:Nat):Int) n).toNat::Zcgm M nm F n le (Zcfy M nm p F ((le+1:Nat):Int) n).toNat
theorem Zcgn {M:Nat->Nat->Bool} {nm:Nat->ByteArray} {F:Nat->Int} {n p x:Nat} {le:Int} (h:(x:Int)=Zcfy M nm p F le n) (hl:0<le):Zcgm M nm F n le.toNat p=nm x::Zcgm M nm F n (le-1).toNat x:=by
 obtain⟨l,rfl⟩:∃l:Nat,le=((l+1:Nat):Int):=⟨le.toNat-1,by omega⟩;rw[show(((l+1:Nat):Int)).toNat=l+1 by omega,show(((l+1:Nat):Int)-1).toNat=l by omega];show nm (Zcfy M nm p F ((l+1:Nat):Int) n).toNat::Zcgm M nm F n l (Zcfy M nm p F ((l+1:Nat):Int) n).toNat=_;rw[<-h,Int.toNat_natCast]
def Zcdi (xs:List RuleS):List ByteArray:=
 if Zced (fwK (Zcfw xs) xs.length) (nmK xs) xs.length<0 then []else
  nmK xs (Zced (fwK (Zcfw xs) xs.length) (nmK xs) xs.length).toNat::Zcgm (Zcfw xs) (nmK xs) (farD (Zcfw xs) (far0 (Zced (fwK (Zcfw xs) xs.length) (nmK xs) xs.length).toNat) xs.length xs.length) xs.length
   (Zccl (Zcfw xs) (Zced (fwK (Zcfw xs) xs.length) (nmK xs) xs.length).toNat (farD (Zcfw xs) (far0 (Zced (fwK (Zcfw xs) xs.length) (nmK xs) xs.length).toNat) xs.length xs.length) xs.length-1).toNat (Zced (fwK (Zcfw xs) xs.length) (nmK xs) xs.length).toNat
theorem Zcdk {xs:List RuleS} {n:Nat} (hn:xs.length=n) (h:Zced (fwK (Zcfw xs) n) (nmK xs) n<0):Zcdi xs = []:=by
 subst hn;unfold Zcdi;rw[if_pos h]
theorem Zcdj {xs:List RuleS} {n f:Nat} (hn:xs.length=n) (h:(f:Int)=Zced (fwK (Zcfw xs) n) (nmK xs) n):Zcdi xs=nmK xs f::Zcgm (Zcfw xs) (nmK xs) (farD (Zcfw xs) (far0 f) n n) n (Zccl (Zcfw xs) f (farD (Zcfw xs) (far0 f) n n) n-1).toNat f:=by
 subst hn;unfold Zcdi;rw[if_neg (by omega),<-h,Int.toNat_natCast]
def BadN (xs:List RuleS) (i:Nat) (x:RuleS):Prop:=Zoi (xs.map (·.name)) x.name<(i:Int)∨∃o∈x.outs,Zcfo xs o<(i:Int)
def Zccc (xs:List RuleS) (x:RuleS):Prop:=∃a∈x.after,Zoi (xs.map (·.name)) a<0
def OkTo (xs:List RuleS) (i:Nat):Prop:=∀(j:Nat) y,j<i->xs[j]? =some y->RuleC y 0
def Zcca (xs:List RuleS) (i:Nat):Prop:=∀(j:Nat) y,j<i->xs[j]? =some y->¬BadN xs j y
def Zccb (xs:List RuleS) (i:Nat):Prop:=∀(j:Nat) y,j<i->xs[j]? =some y->¬Zccc xs y
def AllC (xs:List RuleS) (c:Int) (s:ByteArray):Prop:=
 (∃(i:Nat) (x:RuleS),xs[i]? =some x/\OkTo xs i/\RuleC x c/\c≠0/\s=x.name)∨
 (OkTo xs xs.length/\(40:Int)<(xs.length:Int)/\c=4/\s=ByteArray.empty)∨
 (OkTo xs xs.length/\(xs.length:Int)<=40/\∃(i:Nat) (x:RuleS),xs[i]? =some x/\Zcca xs i/\BadN xs i x/\c=2/\s=x.name)∨
 (OkTo xs xs.length/\(xs.length:Int)<=40/\Zcca xs xs.length/\∃(i:Nat) (x:RuleS),xs[i]? =some x/\Zccb xs i/\Zccc xs x/\c=2/\s=x.name)∨
 (OkTo xs xs.length/\(xs.length:Int)<=40/\Zcca xs xs.length/\Zccb xs xs.length/\(∃r,Zcdi xs=s::r)/\c=3)∨
 (OkTo xs xs.length/\(xs.length:Int)<=40/\Zcca xs xs.length/\Zccb xs xs.length/\Zcdi xs = []/\c=0/\s=ByteArray.empty)
def lxL:List Nat->List Nat->Prop
 | x::a,y::b=>x<y∨(x=y/\lxL a b)
 | _,_=>False
def slL (a b:List Nat):Prop:=a.length<b.length∨(a.length=b.length/\lxL a b)
theorem Zcfk:∀ {a b c:List Nat},lxL a b->lxL b c->lxL a c
 | [],_,_,h,_=>h.elim
 | _::_,[],_,h,_=>h.elim
 | _::_,_::_,[],_,h=>h.elim
 | x::a,y::b,z::c,h1,h2=>by
  rcases h1 with h1|⟨rfl,h1⟩
  ·rcases h2 with h2|⟨rfl,h2⟩
   ·exact .inl (by omega)
   ·exact .inl h1
  ·rcases h2 with h2|⟨rfl,h2⟩
   ·exact .inl h2
   ·exact .inr ⟨rfl,Zcfk h1 h2⟩
theorem Zchh {a b c:List Nat} (h1:slL a b) (h2:slL b c):slL a c:=by
 rcases h1 with h1|⟨e1,h1⟩
 ·rcases h2 with h2|⟨e2,h2⟩
  ·exact .inl (by omega)
  ·exact .inl (by omega)
 ·rcases h2 with h2|⟨e2,h2⟩
  ·exact .inl (by omega)
  ·exact .inr ⟨by omega,Zcfk h1 h2⟩
def chN (nd:Nat->List Nat):List Nat->Prop
 | []=>True
 | [_]=>True
 | x::y::t=>y∈nd x/\chN nd (y::t)
def wayN (s:Nat) (nd:Nat->List Nat) (w:List Nat):Prop:=w.head? =some s/\chN nd w
structure SeaI (s:Nat) (nd:Nat->List Nat) (N:Nat) (h:List Nat) (q:List (List Nat)) (r:List Bool):Prop where
 way:∀w∈q,wayN s nd w
 ord:q.Pairwise slL
 near:∀w∈q,(w.dropLast=h∨slL w.dropLast h)/\slL h w
 seen:∀x:Nat,r[x]? =some true->∃w,wayN s nd (w ++ [x])/\(w=h∨slL w h)/\(w ++ [x]∈q∨w ++ [x]=h∨slL (w ++ [x]) h)
 size:r.length=N
theorem SeaI.pop {s N:Nat} {nd:Nat->List Nat} {h g:List Nat} {q:List (List Nat)} {r:List Bool} (H:SeaI s nd N h (g::q) r):SeaI s nd N g q r:=by
 have hg:=H.near g (by simp);have h1:∀ {w:List Nat},(w=h∨slL w h)->slL w g:=by
  rintro w (rfl|e)
  ·exact hg.2
  ·exact Zchh e hg.2
 refine⟨λw hw=>H.way w (by simp[hw]),(List.pairwise_cons.1 H.ord).2,λw hw=>⟨.inr (h1 (H.near w (by simp[hw])).1),(List.pairwise_cons.1 H.ord).1 w hw⟩,?_,H.size⟩;intro x hx;obtain⟨w,a,b,c⟩:=H.seen x hx;refine⟨w,a,.inr (h1 b),?_⟩
 rcases c with c|c
 ·rcases List.mem_cons.1 c with c|c
  ·exact .inr (.inl c)
  ·exact .inl c
 ·exact .inr (.inr (h1 c))
theorem Zces {M:Nat->Nat->Bool} {k a b:Nat} (h:fwK M k a b=true):fwK M (k+1) a b=true:=by
 show(fwK M k a b||(fwK M k a k&&fwK M k k b))=true;rw[h,Bool.true_or]
theorem Zcex {M:Nat->Nat->Bool} {a b:Nat}:∀ {k m:Nat},k<=m->fwK M k a b=true->fwK M m a b=true
 | k,0,h,e=>by
    obtain rfl:k=0:=by omega
    exact e
 | k,m+1,h,e=>by
  by_cases g:k<=m
  ·exact Zces (Zcex g e)
  ·obtain rfl:k=m+1:=by omega
   exact e
theorem Zcew {M:Nat->Nat->Bool} {k a b:Nat} (h:fwK M (k+1) a b=true):fwK M k a b=true∨(fwK M k a k=true/\fwK M k k b=true):=by
 have h:(fwK M k a b||(fwK M k a k&&fwK M k k b))=true:=h;simpa only[Bool.or_eq_true,Bool.and_eq_true]using h
theorem Zcey {M:Nat->Nat->Bool} {k a b:Nat} (h1:fwK M k a k=true) (h2:fwK M k k b=true):fwK M (k+1) a b=true:=by
 show(fwK M k a b||(fwK M k a k&&fwK M k k b))=true;rw[h1,h2,Bool.and_self,Bool.or_true]
theorem Zceu {M:Nat->Nat->Bool}:∀ {k m a b:Nat},m<k->fwK M k a m=true->fwK M k m b=true->fwK M k a b=true
 | 0,_,_,_,h,_,_=>by omega
 | k+1,m,a,b,h,h1,h2=>by
  have e1:=Zcew h1;have e2:=Zcew h2
  by_cases g:m=k
  ·subst g
   have e1:fwK M m a m=true:=e1.elim id And.left;have e2:fwK M m m b=true:=e2.elim id And.right;exact Zcey e1 e2
  ·have hm:m<k:=by omega
   rcases e1 with e1|⟨e1,e3⟩
   ·rcases e2 with e2|⟨e2,e4⟩
    ·exact Zces (Zceu hm e1 e2)
    ·exact Zcey (Zceu hm e1 e2) e4
   ·rcases e2 with e2|⟨e2,e4⟩
    ·exact Zcey e1 (Zceu hm e3 e2)
    ·exact Zcey e1 e4
inductive RchM (M:Nat->Nat->Bool) (n:Nat):Nat->Nat->Prop
 | one {a b:Nat}:M a b=true->RchM M n a b
 | more {a c b:Nat}:M a c=true->c<n->RchM M n c b->RchM M n a b
theorem RchM.trans {M:Nat->Nat->Bool} {n a c b:Nat} (h:RchM M n a c) (hc:c<n) (k:RchM M n c b):RchM M n a b:=by
 induction h with
 | one e=>exact .more e hc k
 | more e hd _ ih=>exact .more e hd (ih hc k)
theorem Zcev {M:Nat->Nat->Bool} {n a b:Nat} (h:RchM M n a b):fwK M n a b=true:=by
 induction h with
 | one e=>exact Zcex (Nat.zero_le n) e
 | more e hc _ ih=>exact Zceu hc (Zcex (Nat.zero_le n) e) ih
theorem Zcfx {xs:List RuleS} (h:OkTog xs) {i k:Nat} (hk:k<xs.length):Zcfw xs i k=true↔∃x y,xs[i]? =some x/\xs[k]? =some y/\Zbl x y:=by
 obtain⟨y,hy⟩:∃y,xs[k]? =some y:=⟨_,List.getElem?_eq_getElem hk⟩;have hm:∀a,Zcfo xs a=(k:Int)↔a∈y.outs:=by
  intro a;constructor
  ·intro e
   rcases Zcfq xs a with⟨e1,_⟩|⟨j,z,e1,hz,ha,_⟩
   ·omega
   ·obtain rfl:j=k:=by omega
    rw[hy]at hz;obtain rfl:=Option.some.inj hz;exact ha
  ·intro ha
   rcases Zcfq xs a with⟨_,e1⟩|⟨j,z,e1,hz,hz',_⟩
   ·exact absurd ha (e1 y (List.mem_of_getElem? hy))
   ·rcases Nat.lt_trichotomy j k with g|g|g
    ·exact absurd ha (h.files j k z y hz hy g a hz')
    ·rw[e1,g]
    ·exact absurd hz' (h.files k j y z hy hz g a ha)
 have hn:∀a,Zoi (xs.map (·.name)) a=(k:Int)↔a=y.name:=by
  intro a;constructor
  ·intro e
   have:=(Zcdy (xs:=xs.map (·.name)) (s:=a) (by omega)).1;rw[e,Int.toNat_natCast,List.getElem?_map,hy]at this;exact(Option.some.inj this).symm
  ·rintro rfl
   refine Zol (by rw[List.getElem?_map,hy];rfl) (λj hj=>?_);rw[List.getElem?_map]
   cases hz:xs[j]? with
   | none=>simp
   | some z=>exact λe=>h.names j k z y hz hy hj (by simpa using e)
 unfold Zcfw
 cases hx:xs[i]? with
 | none=>simp
 | some x=>
  show(Zcfd xs x.ins k||Zccd xs x.after k)=true↔_;rw[Bool.or_eq_true];unfold Zcfd Zccd;rw[List.any_eq_true,List.any_eq_true];simp only[beq_iff_eq,hm,hn];constructor
  ·rintro(⟨a,h1,h2⟩|⟨a,h1,rfl⟩)
   ·exact⟨x,y,rfl,hy,.inl ⟨a,h1,h2⟩⟩
   ·exact⟨x,y,rfl,hy,.inr h1⟩
  ·rintro⟨x',y',e1,e2,h⟩
   obtain rfl:=Option.some.inj e1;rw[hy]at e2;obtain rfl:=Option.some.inj e2
   rcases h with⟨a,h1,h2⟩|h
   ·exact .inl ⟨a,h1,h2⟩
   ·exact .inr ⟨_,h,rfl⟩
theorem Zcea {xs:List ByteArray} {k:Nat} {s:ByteArray} (h:xs[k]? =some s):Zoi xs s<(k:Int)↔∃j<k,xs[j]? =some s:=by
 have h0:0<=Zoi xs s:=Zoj.2 (List.mem_of_getElem? h);obtain⟨h1,h2⟩:=Zcdy h0;constructor
 ·intro hl
  exact⟨(Zoi xs s).toNat,by omega,h1⟩
 ·rintro⟨j,hj,e⟩
  by_cases c:j<(Zoi xs s).toNat
  ·exact absurd e (h2 j c)
  ·omega
theorem Zcfu {xs:List RuleS} {k:Nat} {x:RuleS} {o:ByteArray} (hx:xs[k]? =some x) (ho:o∈x.outs):Zcfo xs o<(k:Int)↔∃j,j<k/\∃y,xs[j]? =some y/\o∈y.outs:=by
 rcases Zcfq xs o with⟨_,e⟩|⟨j,y,e,hy,hm,hn⟩
 ·exact absurd ho (e x (List.mem_of_getElem? hx))
 ·constructor
  ·intro h
   exact⟨j,by omega,y,hy,hm⟩
  ·rintro⟨i,hi,z,hz,hoz⟩
   by_cases c:i<j
   ·exact absurd hoz (hn i c z hz)
   ·omega
theorem Zchi {xs:List RuleS} {k:Nat} {x:RuleS} (hx:xs[k]? =some x) (hn:x.outs.Nodup):takP xs k=true↔BadN xs k x:=by
 have hlow:∀ {y:RuleS},y∈xs.take k↔∃i,i<k/\xs[i]? =some y:=fun {y}=>⟨Zbya,λ⟨i,hi,h⟩=>List.mem_of_getElem? (i:=i) (by rw[List.getElem?_take,if_pos hi];exact h)⟩
 unfold takP BadN;rw[hx];simp only[Option.map_some,Option.getD_some];unfold takB;rw[Bool.or_eq_true,Zsj,Zbbb,Zcea (by rw[List.getElem?_map,hx];rfl)];refine or_congr ⟨?_,?_⟩ ?_
 ·rintro⟨y,hy,e⟩
  obtain⟨i,hi,h⟩:=hlow.1 hy;exact⟨i,hi,by rw[List.getElem?_map,h,e];rfl⟩
 ·rintro⟨i,hi,h⟩
  rw[List.getElem?_map]at h
  cases hy:xs[i]? with
  | none=>rw[hy]at h;simp at h
  | some y=>
   rw[hy]at h;exact⟨y,hlow.2 ⟨i,hi,hy⟩,(Option.some.inj h).symm⟩
 ·rw[Bool.not_eq_true',decide_eq_false_iff_not]
  constructor
  ·intro h
   refine Classical.byContradiction λhc=>h (Zbvb hn λa ha hm=>hc ?_)
   obtain⟨y,hy,he⟩:=Zpk.1 hm;obtain⟨i,hi,h'⟩:=hlow.1 hy;exact⟨a,ha,(Zcfu hx ha).2 ⟨i,hi,y,h',he⟩⟩
  ·rintro⟨a,ha,h⟩ e
   obtain⟨i,hi,y,h',he⟩:=(Zcfu hx ha).1 h;exact(Zcn e).2 a ha (Zpk.2 ⟨y,hlow.2 ⟨i,hi,h'⟩,he⟩)
theorem Zcci {xs:List RuleS} {k:Nat} {x:RuleS} (hx:xs[k]? =some x):astP xs k=true↔Zccc xs x:=by
 unfold astP Zccc;rw[hx];simp only[Option.map_some,Option.getD_some];rw[Bool.not_eq_true',List.all_eq_false];refine exists_congr λa=>and_congr Iff.rfl ?_
 rw[Zok,Bool.not_eq_true,<-Bool.not_eq_true,Zsj,Zbbb,List.mem_map];exact not_congr ⟨λ⟨r,h1,h2⟩=>⟨r,h1,h2.symm⟩,λ⟨r,h1,h2⟩=>⟨r,h1,h2.symm⟩⟩
theorem Zcgk {x:RuleS} (h:RuleC x 0):x.outs.Nodup:=by
 rcases h with⟨_,h⟩|⟨_,_,h⟩|⟨_,_,_,h⟩|⟨_,_,h,_⟩
 ·cases h
 ·cases h
 ·cases h
 ·exact Classical.byContradiction λhc=>h.2.1 (Zbrq.2 hc)
theorem Zcgj {xs:List RuleS} (h:OkTo xs xs.length):∀r∈xs,Zbip r=0:=by
 intro r hr;obtain⟨k,hk⟩:=List.getElem?_of_mem hr;exact(Zbiq r).one (h k r (List.getElem?_eq_some_iff.1 hk).1 hk)
theorem Zccj {xs:List RuleS} (h1:OkTo xs xs.length) (h2:(xs.length:Int)<=40):Zet xs=match (List.range xs.length).find? (takP xs)with
  | some k=>(2,nmAt xs k)
  | none=>match (List.range xs.length).find? (astP xs)with
   | some k=>(2,nmAt xs k)
   | none=>(0,⟨#[]⟩):=by
 unfold Zet;rw[Zbxq (Zcgj h1)];simp only;rw[if_neg (by omega)]
 cases (List.range xs.length).find? (takP xs)with
 | some k=>rfl
 | none=>
  cases (List.range xs.length).find? (astP xs)with
  | some k=>rfl
  | none=>rfl
theorem Zceb {xs:List RuleS} {k:Nat} (h1:OkTo xs xs.length) (h:Zcca xs k) (hk:k<=xs.length):∀j<k,takP xs j=false:=by
 intro j hj;have hx:=List.getElem?_eq_getElem (l:=xs) (i:=j) (by omega);rw[<-Bool.not_eq_true,Zchi hx (Zcgk (h1 j _ (by omega) hx))];exact h j _ hj hx
theorem Zcej {xs:List RuleS} {k:Nat} (h:Zccb xs k) (hk:k<=xs.length):∀j<k,astP xs j=false:=by
 intro j hj;have hx:=List.getElem?_eq_getElem (l:=xs) (i:=j) (by omega);rw[<-Bool.not_eq_true,Zcci hx];exact h j _ hj hx
theorem Zcck {xs:List RuleS} (h1:OkTo xs xs.length) (h2:(xs.length:Int)<=40) (h3:Zcca xs xs.length) (h4:Zccb xs xs.length):Zet xs=(0,⟨#[]⟩):=by
 rw[Zccj h1 h2,Zbwe (Zceb h1 h3 (Nat.le_refl _))];simp only;rw[Zbwe (Zcej h4 (Nat.le_refl _))]
theorem Zdkf {C:Nat->Nat->Bool} {nm:Nat->ByteArray} {i:Nat} (hi:C i i=true):∀ {n:Nat},i<n->0<=Zced C nm n
 | 0,h=>by omega
 | n+1,h=>by
  by_cases e:i=n
  ·subst e
   unfold Zced;split
   ·omega
   ·rename_i h1
    exact Classical.byContradiction λh2=>h1 ⟨hi,.inl (by omega)⟩
  ·have ih:=Zdkf (nm:=nm) hi (n:=n) (by omega)
   unfold Zced;split
   ·omega
   ·exact ih
theorem Zdkg {xs:List RuleS} (hT:OkTog xs) {a b:Nat} (h:Rch (Zban xs) a b):b<xs.length/\RchM (Zcfw xs) xs.length a b:=by
 have one:∀ {a b:Nat},b∈Zban xs a->b<xs.length/\Zcfw xs a b=true:=fun {a b} hm=>⟨Zbaq hm,(Zcfx hT (Zbaq hm)).2 ((Zbao hT).1 hm)⟩
 induction h with
 | one hm=>exact⟨(one hm).1,.one (one hm).2⟩
 | more _ hm ih=>exact⟨(one hm).1,ih.2.trans ih.1 (.one (one hm).2)⟩
theorem Zdke {xs:List RuleS} {s:ByteArray} (h:AllC xs 0 s):Zbvn xs=0:=by
 rcases h with⟨_,_,_,_,_,h,_⟩|⟨_,_,h,_⟩|⟨_,_,_,_,_,_,_,h,_⟩|⟨_,_,_,_,_,_,_,_,h,_⟩|⟨_,_,_,_,_,h⟩|⟨h1,h2,h3,h4,h5,_,_⟩
 ·exact absurd rfl h
 ·cases h
 ·cases h
 ·cases h
 ·cases h
 ·have hT:OkTog xs:=Zbcj (by rw[Zcck h1 h2 h3 h4])
  refine Zbvs.2 ⟨hT,λi hi hr=>?_⟩;have hf:=Zdkf (nm:=nmK xs) (Zcev (Zdkg hT hr).2) hi;obtain⟨f,hf2⟩:=Int.eq_ofNat_of_zero_le hf;rw[Zcdj rfl hf2.symm]at h5
  cases h5
theorem Zcgz {w:World} {v:Value} {xs:List RuleS} (h:RulesI w v xs):∃a c,v = .slice a xs.length c/\xs.length<=c/\c<=maxLen/\∀(k:Nat) x,xs[k]? =some x->∃b o a1 c1 a2 c2 a3 c3 a4 c4,a=some ⟨b,o,none⟩/\RuleI w [.string x.name,.slice a1 x.ins.length c1,.slice a2 x.outs.length c2,.slice a3 x.after.length c3,.slice a4 x.steps.length c4] x/\∀w',Below w.heap.size w w'->
  w'.cell? ⟨b,o+k*5,none⟩=some (.string x.name)/\w'.cell? ⟨b,o+k*5+1,none⟩=some (.slice a1 x.ins.length c1)/\w'.cell? ⟨b,o+k*5+2,none⟩=some (.slice a2 x.outs.length c2)/\w'.cell? ⟨b,o+k*5+3,none⟩=some (.slice a3 x.after.length c3)/\w'.cell? ⟨b,o+k*5+4,none⟩=some (.slice a4 x.steps.length c4):=by
 obtain⟨a,c,rfl,h1,h2⟩:=Zbjn h;refine⟨a,c,rfl,h1,h2,λk x hx=>?_⟩;obtain⟨g,o,cap,a1,c1,a2,c2,a3,c3,a4,c4,e,_,hr,hc⟩:=Zbjm h hx;injection e with e1 _ _
 exact⟨g,o,a1,c1,a2,c2,a3,c3,a4,c4,e1,hr,hc⟩
set_option maxHeartbeats 2000000 in
theorem Zcct (v:Value) (xs:List RuleS) (s:ByteArray) (w:World) (h:RulesI w v xs):
  Calls prog 23 #[v,.string s] w λe w'=>Zat (xs.map (·.name)) s e/\w=w':=by
 obtain⟨a1,c1,rfl,_,hm1,hc1⟩:=Zcgz h;have hlm:xs.length<=maxLen:=by omega
 unfold maxLen at hlm;have HC1:=hid hc1;clear hc1 h
 go_enter func23,ntmps23
 go_wp2
 go_loopw [5] (λi wr=>∃k:Nat,k<=xs.length/\i = .int .i64 k/\(∀j<k,(xs.map (·.name))[j]? ≠some s)/\w=wr)
  (λi _=>xs.length-(intOf i).toNat)
 case atStart=>exact⟨0,Nat.zero_le _,rfl,λj hj=>absurd hj (by omega),rfl⟩
 case round=>
  obtain⟨k,hk,rfl,hno,rfl⟩:=hrel;have HNX:=hid (Below.refl w.heap.size w);have HNO:=hid hno;clear hno
  by_cases hlt:k<xs.length
  ·obtain⟨x,hx⟩:∃x,xs[k]? =some x:=⟨xs[k],List.getElem?_eq_getElem hlt⟩
   obtain⟨b1,o1,_,_,_,_,_,_,_,_,q1,_,hk1⟩:=HC1.out k x hx;subst q1;have HX:Hid ((xs.map (·.name))[k]? =some x.name):=by show(xs.map (·.name))[k]? =_;rw[List.getElem?_map,hx];rfl
   obtain⟨e1,_⟩:=hk1 _ HNX.out;obtain⟨n,hn⟩:∃n,x.name=n:=⟨_,rfl⟩;rw[hn]at e1 HX;have hi1:(k:Int)<(xs.length:Int):=by omega
   have hi0:(0:Int)<=(k:Int):=by omega
   obtain⟨q,hq⟩:∃q,(n.toList==s.toList)=q:=⟨_,rfl⟩;have HQ:=hid hq;clear hk1 hx hn
   cases q
   ·go_wp2
    all_goals go_roundw
    case rel=>exact⟨k+1,by omega,by go_num,λj hj=>by
     rcases Nat.lt_or_ge j k with h|h
     ·exact HNO.out j h
     ·obtain rfl:j=k:=by omega
      rw[HX.out];exact λe=>Zgz HQ.out (Option.some.inj e),trivial⟩
    case measure=>simp[intOf];omega
   ·go_wp2
    go_ret;exact⟨Zoh (by rw[HX.out,Zgx HQ.out]) HNO.out,rfl⟩
  ·have hi1:¬(k:Int)<(xs.length:Int):=by omega
   have HKL:Hid ((xs.map (·.name)).length<=k):=by show(xs.map (·.name)).length<=k;rw[List.length_map];omega
   go_wp2;go_ret;exact⟨Zog HKL.out HNO.out,rfl⟩
def BoolRow (w:World) (b n:Nat):Prop:=∃cur:Array Value,w.heap[b]? =some (.cells cur 4 (0,0))/\n<=cur.size/\∀k<n,∃x,cur[k]? =some (.bool x)
def Mat (B:Nat) (w:World) (g n i:Nat):Prop:=B<=g/\∃cur:Array Value,w.heap[g]? =some (.cells cur 94 (0,0))/\cur.size=n/\∀j<i,∃b c,cur[j]? =some (.slice (some ⟨b,0,none⟩) n c)/\n<=c/\c<=maxLen/\B<=b/\BoolRow w b n
theorem BoolRow.lt {w:World} {b n:Nat} (h:BoolRow w b n):b<w.heap.size:=by
 obtain⟨cur,h1,_⟩:=h;exact Zfy h1
theorem BoolRow.keep {w w':World} {b n:Nat} (h:BoolRow w b n) (hk:w'.heap[b]? =w.heap[b]?):BoolRow w' b n:=by
 obtain⟨cur,h1,h2⟩:=h;exact⟨cur,hk.trans h1,h2⟩
theorem BoolRow.set {w:World} {b n k:Nat} {x:Bool} (h:BoolRow w b n):BoolRow (w.setCell ⟨b,k,none⟩ (.bool x)) b n:=by
 obtain⟨cur,h1,h2,h3⟩:=h;refine⟨_,heap_set k (.bool x) h1,by simpa using h2,λj hj=>?_⟩;obtain⟨y,hy⟩:=h3 j hj;rw[Array.getElem?_setIfInBounds];split
 ·rename_i e
  subst e;rw[if_pos (by omega)];exact⟨x,rfl⟩
 ·exact⟨y,hy⟩
theorem BoolRow.cell {w:World} {b n k:Nat} (h:BoolRow w b n) (hk:k<n):∃x,w.cell? ⟨b,k,none⟩=some (.bool x)/\w.frozen? ⟨b,k,none⟩=false:=by
 obtain⟨cur,h1,h2,h3⟩:=h;obtain⟨x,hx⟩:=h3 k hk;exact⟨x,by simp[World.cell?,h1,hx],by simp[World.frozen?,h1]⟩
theorem Mat.lt {B:Nat} {w:World} {g n i:Nat} (h:Mat B w g n i):g<w.heap.size:=by
 obtain⟨_,cur,h1,_⟩:=h;exact Zfy h1
theorem Mat.keep {B:Nat} {w w':World} {g n i:Nat} (h:Mat B w g n i) (hk:∀k,k<w.heap.size->w'.heap[k]? =w.heap[k]?):Mat B w' g n i:=by
 have hg:=h.lt;obtain⟨h0,cur,h1,h2,h3⟩:=h;refine⟨h0,cur,(hk g hg).trans h1,h2,λj hj=>?_⟩;obtain⟨b,c,e,e1,e2,e3,e4⟩:=h3 j hj;exact⟨b,c,e,e1,e2,e3,e4.keep (hk b e4.lt)⟩
theorem Mat.below {B:Nat} {w w':World} {g n i:Nat} (h:Mat B w g n i) (hb:Below w.heap.size w w'):Mat B w' g n i:=h.keep λk hk=>hb.block k hk
theorem Mat.ne {B:Nat} {w:World} {g n i b m:Nat} (h:Mat B w g n i) (hb:BoolRow w b m):g≠b:=by
 rintro rfl;obtain⟨_,cur,h1,_⟩:=h;obtain⟨cur',h2,_⟩:=hb;rw[h1]at h2;injection h2 with h2
 injection h2 with _ h2 _
 exact absurd h2 (by decide)
theorem Mat.setRow {B:Nat} {w:World} {g n i b c:Nat} (h:Mat B w g n i) (hb:BoolRow w b n) (hB:B<=b) (hc:n<=c) (hm:c<=maxLen) (hi:i<n):Mat B (w.setCell ⟨g,i,none⟩ (.slice (some ⟨b,0,none⟩) n c)) g n (i+1):=by
 have hgb:∀b' m,BoolRow w b' m->b'≠g:=λb' m h'=>(h.ne h').symm
 obtain⟨h0,cur,h1,h2,h3⟩:=h;refine⟨h0,_,heap_set i _ h1,by simpa using h2,λj hj=>?_⟩;rw[Array.getElem?_setIfInBounds];split
 ·rename_i e
  subst e;rw[if_pos (by omega)];exact⟨b,c,rfl,hc,hm,hB,hb.keep (Below.heap_setCell _ _ _ _ (hgb _ _ hb))⟩
 ·rename_i e
  obtain⟨b',c',e0,e1,e2,e3,e4⟩:=h3 j (by omega);exact⟨b',c',e0,e1,e2,e3,e4.keep (Below.heap_setCell _ _ _ _ (hgb _ _ e4))⟩
theorem Mat.cell {B:Nat} {w:World} {g n i j:Nat} (h:Mat B w g n i) (hj:j<i):∃b c,w.cell? ⟨g,j,none⟩=some (.slice (some ⟨b,0,none⟩) n c)/\n<=c/\c<=maxLen/\B<=b/\BoolRow w b n:=by
 obtain⟨h0,cur,h1,h2,h3⟩:=h;obtain⟨b,c,e,e1⟩:=h3 j hj;exact⟨b,c,by simp[World.cell?,h1,e],e1⟩
theorem Mat.slot {B:Nat} {w:World} {g n i j:Nat} (h:Mat B w g n i) (hj:j<n):∃u,w.cell? ⟨g,j,none⟩=some u/\w.frozen? ⟨g,j,none⟩=false:=by
 obtain⟨h0,cur,h1,h2,h3⟩:=h;exact⟨cur[j]'(by omega),by simp[World.cell?,h1,h2,hj],by simp[World.frozen?,h1]⟩
theorem Mat.begin {B:Nat} {w:World} {cur:Array Value} {n:Nat} (hB:B<=w.heap.size) (hc:cur.size=n):Mat B (w.alloc (.cells cur 94)) w.heap.size n 0:=⟨hB,cur,alloc_at w _,hc,λj hj=>absurd hj (by omega)⟩
theorem Zcfa:(prog.info? 4).map (λi=>(i.zero,i.size,i.bytes))=some (some (.bool false),1,1):=by kernel_rfl
theorem Zcfb:(prog.info? 94).map (λi=>(i.zero,i.size,i.bytes))=some (some (.slice none 0 0),1,24):=by kernel_rfl
theorem Zcfl (n:Nat) (hn:n<=1000) (w:World):(Instr.makeSlice 94 (.int .i64 (n:Int)) (.int .i64 (n:Int))).run prog w = .ok (.slice (some ⟨w.heap.size,0,none⟩) n n) (w.alloc (.cells (madeCells #[.bool false] n) 4)):=by
 obtain⟨i0,hi,hz,hs,hb⟩:=Zsv Zcfa;have:=run_make (P:=prog) w 94 4 i0 (.bool false) underlying94 hi hz .i64 .i64 n n (by omega) (Int.le_refl _) (by rw[hb];omega) (by omega);rw[hs,show(Value.bool false).cells = #[.bool false]from rfl]at this;simpa using this
theorem Zcfn (n:Nat) (hn:n<=1000) (w:World):(Instr.makeSlice 37 (.int .i64 (n:Int)) (.int .i64 (n:Int))).run prog w = .ok (.slice (some ⟨w.heap.size,0,none⟩) n n) (w.alloc (.cells (madeCells #[.slice none 0 0] n) 94)):=by
 obtain⟨i0,hi,hz,hs,hb⟩:=Zsv Zcfb;have:=run_make (P:=prog) w 37 94 i0 (.slice none 0 0) underlying37 hi hz .i64 .i64 n n (by omega) (Int.le_refl _) (by rw[hb];omega) (by omega);rw[hs,show(Value.slice none 0 0).cells = #[.slice none 0 0]from rfl]at this;simpa using this
end Go.Proofs.YtokogjhcidkckaaGreatDoor
