import Derived.Deep.RegionHeld3
import Derived.Test.YtokogjhcidkckaaGreatDoorMal
namespace Go.Proofs.YtokogjhcidkckaaGreatDoor
open Go.Lib (hid)
open Go.Proofs.Tryz
def Zbsp (md:Region.Mode) (ops:Array Oper) (i:Nat):Nat->Nat->Bool
 | 0,_=>false
 | f+1,j=>match ops[j]? with
  | none=>false
  | some o=>o.after.any λe=>Region.binds md e&&(e.on==i||Zbsp md ops i f e.on)
def Zaj (md:Region.Mode) (ops:Array Oper) (L:Array Bool):Prop:=∀(j:Nat) (o:Oper),ops[j]? =some o->L.getD j false=true->∀e∈o.after,Region.binds md e=true->L.getD e.on false=true
def Zjk (md:Region.Mode) (ops:Array Oper) (L:Array Bool):Bool:=(List.range ops.size).all λj=> !L.getD j false||match ops[j]? with
 | some o=>o.after.all λe=> !Region.binds md e||L.getD e.on false
 | none=>true
section
variable {P:Program} {ops:Array Oper} {Q:Exit->Act->World->Prop} {md:Region.Mode} {S:Bool->World->Prop} {st:Nat}
theorem Zjl {L:Array Bool} (h:Zjk md ops L=true):Zaj md ops L:=by
 intro j o ho hl e he hb;have hj:j<ops.size:=(Array.getElem?_eq_some_iff.1 ho).1;have:=List.all_eq_true.1 h j (List.mem_range.2 hj);simp only[hl,Bool.not_true,Bool.false_or,ho,Array.all_eq_true_iff_forall_mem]at this;have:=this e he;simpa[hb]using this
theorem Zqf {L:Array Bool} {i:Nat} (h:L.getD i true=false):L.getD i false=false:=by
 rw[Array.getD_eq_getD_getElem?]at h⊢
 cases h2:L[i]? with
 | none=>rfl
 | some b=>rw[h2]at h;exact h
theorem Zjn {L:Array Bool} {i:Nat} (h:Zaj md ops L):∀(f j:Nat),Zbsp md ops i f j=true->L.getD j false=true->L.getD i false=true
 | 0,_,hw,_=>by simp[Zbsp]at hw
 | f+1,j,hw,hl=>by
  unfold Zbsp at hw
  cases ho:ops[j]? with
  | none=>rw[ho]at hw;cases hw
  | some o=>
   rw[ho]at hw
   dsimp only at hw
   rw[<-Array.any_toList]at hw;obtain⟨e,he,hp⟩:=List.any_eq_true.1 hw;simp only[Bool.and_eq_true,Bool.or_eq_true,beq_iff_eq]at hp;have he:=Array.mem_toList_iff.1 he;obtain⟨hb,h1|h1⟩:=hp
   ·rw[<-h1];exact h j o ho hl e he hb
   ·exact Zjn h f e.on h1 (h j o ho hl e he hb)
theorem Zjm {L:Array Bool} {i:Nat} (h:Zaj md ops L) (hi:i∈Region.ready md ops L):Zaj md ops (L.setIfInBounds i true):=by
 intro j o ho hl e he hb;refine getD_set_true ?_;obtain⟨h1,oi,hoi,hall⟩:=mem_ready.1 hi
 by_cases hji:j=i
 ·subst hji
  rw[ho]at hoi;injection hoi with hoi
  subst hoi;exact hall e he hb
 ·rw[getD_set_ne false (Ne.symm hji)]at hl
  exact h j o ho hl e he hb
def wpAnyS (P:Program) (md:Region.Mode) (ops:Array Oper) (Q:Exit->Act->World->Prop) (S:Bool->World->Prop) (st:Nat):Nat->Array Bool->Act->World->Prop
 | 0,listed,a,w=>Region.ready md ops listed = []/\Q .normal a w
 | fuel+1,listed,a,w=>
  (Region.ready md ops listed = []->Q .normal a w)/\
  ∀i∈Region.ready md ops listed,wpOp P ops Q i (λa' w'=>S ((listed.setIfInBounds i true).getD st false) w'/\wpAnyS P md ops Q S st fuel (listed.setIfInBounds i true) a' w') a w
theorem Zbua:∀(fuel:Nat) (listed:Array Bool) (a:Act) (w:World),wpAnyS P md ops Q S st fuel listed a w->wpAny P md ops Q fuel listed a w
 | 0,_,_,_,h=>h
 | fuel+1,_,_,_,h=>⟨h.1,λi hi=>wpOp_mono (λa' w' h'=>Zbua fuel _ a' w' h'.2) (h.2 i hi)⟩
theorem wpAnyS_first {i:Nat} {oi:Oper} {v:Value} (hi:ops[i]? =some oi) (hsel:∀(j:Nat) (o:Oper) cs b,ops[j]? =some o->o.op≠.select cs b)
  (hQ:∀c a w,Q (.panic c) (a.put oi.dst v) w->Q (.panic c) a w) (hne:i≠st) (f:Nat) (hwt:Zbsp md ops i f st=true):
  ∀(fuel:Nat) (listed:Array Bool) (a:Act) (w:World),Zaj md ops listed->
   (∀j oj,ops[j]? =some oj->j≠i->listed.getD j true=false->(∀e∈oj.after,Region.binds md e=true->e.on≠i)->oi.apart ops oj=true)->
   i∈Region.ready md ops listed->YieldsIf P ops (S false) oi v a->S false w->listed.getD st false=false->
   wpAnyS P md ops Q S st fuel (listed.setIfInBounds i true) (a.put oi.dst v) w->wpAnyS P md ops Q S st (fuel+1) listed a w:=by
 intro fuel
 induction fuel with
 | zero=>
  intro listed a w _ _ hr hy hS hL H;refine⟨λh=>(by rw[h]at hr;cases hr),λj hj=>?_⟩
  by_cases hji:j=i
  ·subst hji;exact hy.wpOp hi hS ⟨by rw[getD_set_ne false hne,hL];exact hS,H⟩
  ·have:=ready_mono hj hji
   rw[H.1]at this
   cases this
 | succ fuel ih=>
  intro listed a w hcl hfree hr hy hS hL H;refine⟨λh=>(by rw[h]at hr;cases hr),λj hj=>?_⟩
  by_cases hji:j=i
  ·subst hji;exact hy.wpOp hi hS ⟨by rw[getD_set_ne false hne,hL];exact hS,H⟩
  ·have h1:=H.2 j (ready_mono hj hji)
   obtain⟨hjun,oj,hoj,hall⟩:=mem_ready.1 hj;have hnot:∀e∈oj.after,Region.binds md e=true->e.on≠i:=λe he hb heq=>by
    have h1:=hall e he hb;have h0:=(mem_ready.1 hr).1;rw[heq]at h1
    rcases Nat.lt_or_ge i listed.size with h'|h'
    ·simp[h']at h0 h1;rw[h0]at h1;cases h1
    ·simp[Array.getElem?_eq_none h']at h1
   have h2:=wpOp_putIf hoj (hfree j oj hoj hji hjun hnot) (λcs b=>hsel i oi cs b hi) (λcs b=>hsel j oj cs b hoj) hQ hy h1;have hfree':∀k ok,ops[k]? =some ok->k≠i->(listed.setIfInBounds j true).getD k true=false->
     (∀e∈ok.after,Region.binds md e=true->e.on≠i)->oi.apart ops ok=true:=λk ok hk hki hun hno=>by
    refine hfree k ok hk hki ?_ hno
    by_cases hjk:j=k
    ·subst hjk;exact hjun
    ·rw[getD_set_ne true hjk]at hun;exact hun
   have hcl':=Zjm hcl hj;have hri:i∈Region.ready md ops (listed.setIfInBounds j true):=ready_mono hr (Ne.symm hji);have hst:(listed.setIfInBounds j true).getD st false=false:=by
    cases hx:(listed.setIfInBounds j true).getD st false with
    | false=>rfl
    | true=>
     exfalso
     have h3:=Zjn hcl' f st hwt hx;rw[Zqf (mem_ready.1 hri).1]at h3
     cases h3
   have hst2:((listed.setIfInBounds i true).setIfInBounds j true).getD st false=false:=by
    rw[Array.setIfInBounds_comm _ _ (Ne.symm hji),getD_set_ne false hne];exact hst
   refine wpOp_mono (λa' w' h3=>?_) h2;have h4:=h3.2.1;rw[hst2]at h4;refine⟨by rw[hst];exact h4,ih (listed.setIfInBounds j true) a' w' hcl' hfree' hri h3.1 h4 hst ?_⟩;rw[Array.setIfInBounds_comm _ _ hji];exact h3.2.2
theorem Zbtw {i:Nat} {oi:Oper} {v:Value} (hi:ops[i]? =some oi) (hsel:∀(j:Nat) (o:Oper) cs b,ops[j]? =some o->o.op≠.select cs b)
  (hQ:∀c a w,Q (.panic c) (a.put oi.dst v) w->Q (.panic c) a w) (hne:i≠st):
  ∀(fuel:Nat) (listed:Array Bool) (a:Act) (w:World),S (listed.getD st false) w->
   (∀j oj,ops[j]? =some oj->j≠i->listed.getD j true=false->(∀e∈oj.after,Region.binds md e=true->e.on≠i)->oi.apart ops oj=true)->
   i∈Region.ready md ops listed->YieldsIf P ops (λw=>∃b,S b w) oi v a->
   wpAnyS P md ops Q S st fuel (listed.setIfInBounds i true) (a.put oi.dst v) w->wpAnyS P md ops Q S st (fuel+1) listed a w:=by
 intro fuel
 induction fuel with
 | zero=>
  intro listed a w hS _ hr hy H;refine⟨λh=>(by rw[h]at hr;cases hr),λj hj=>?_⟩
  by_cases hji:j=i
  ·subst hji;exact hy.wpOp hi ⟨_,hS⟩ ⟨by rw[getD_set_ne false hne];exact hS,H⟩
  ·have:=ready_mono hj hji
   rw[H.1]at this
   cases this
 | succ fuel ih=>
  intro listed a w hS hfree hr hy H;refine⟨λh=>(by rw[h]at hr;cases hr),λj hj=>?_⟩
  by_cases hji:j=i
  ·subst hji;exact hy.wpOp hi ⟨_,hS⟩ ⟨by rw[getD_set_ne false hne];exact hS,H⟩
  ·have h1:=H.2 j (ready_mono hj hji)
   obtain⟨hjun,oj,hoj,hall⟩:=mem_ready.1 hj;have hnot:∀e∈oj.after,Region.binds md e=true->e.on≠i:=λe he hb heq=>by
    have h1:=hall e he hb;have h0:=(mem_ready.1 hr).1;rw[heq]at h1
    rcases Nat.lt_or_ge i listed.size with h'|h'
    ·simp[h']at h0 h1;rw[h0]at h1;cases h1
    ·simp[Array.getElem?_eq_none h']at h1
   have h2:=wpOp_putIf hoj (hfree j oj hoj hji hjun hnot) (λcs b=>hsel i oi cs b hi) (λcs b=>hsel j oj cs b hoj) hQ hy h1;have hfree':∀k ok,ops[k]? =some ok->k≠i->(listed.setIfInBounds j true).getD k true=false->
     (∀e∈ok.after,Region.binds md e=true->e.on≠i)->oi.apart ops ok=true:=λk ok hk hki hun hno=>by
    refine hfree k ok hk hki ?_ hno
    by_cases hjk:j=k
    ·subst hjk;exact hjun
    ·rw[getD_set_ne true hjk]at hun;exact hun
   have hri:i∈Region.ready md ops (listed.setIfInBounds j true):=ready_mono hr (Ne.symm hji);have hst2:((listed.setIfInBounds i true).setIfInBounds j true).getD st false=(listed.setIfInBounds j true).getD st false:=by
    rw[Array.setIfInBounds_comm _ _ (Ne.symm hji),getD_set_ne false hne]
   refine wpOp_mono (λa' w' h3=>?_) h2;have hS':S ((listed.setIfInBounds j true).getD st false) w':=by rw[<-hst2];exact h3.2.1
   refine⟨hS',ih (listed.setIfInBounds j true) a' w' hS' hfree' hri h3.1 ?_⟩;rw[Array.setIfInBounds_comm _ _ hji];exact h3.2.2
theorem Zbty {i f:Nat} {oi:Oper} {v:Value} {fuel:Nat} {listed:Array Bool} {a:Act} {w:World} (hi:ops[i]? =some oi)
  (hs:Region.noSelect ops=true) (hcl:Zjk md ops listed=true) (hwt:Zbsp md ops i f st=true) (hne:(i==st)=false) (hf:Region.free md ops listed i=true) (hr:(Region.ready md ops listed).contains i=true)
  (hQ:∀c a w,Q (.panic c) (a.put oi.dst v) w->Q (.panic c) a w) (hL:listed.getD st false=false) (hy:YieldsIf P ops (S false) oi v a) (hS:S false w)
  (h:wpAnyS P md ops Q S st fuel (listed.setIfInBounds i true) (a.put oi.dst v) w):wpAnyS P md ops Q S st (fuel+1) listed a w:=
 wpAnyS_first hi (Region.noSelect_spec hs) hQ (by simpa using hne) f hwt fuel listed a w (Zjl hcl) (Region.free_spec hi hf) (by simpa using hr) hy hS hL h
theorem Zbtz {i:Nat} {oi:Oper} {v:Value} {fuel:Nat} {listed:Array Bool} {a:Act} {w:World} (hi:ops[i]? =some oi)
  (hs:Region.noSelect ops=true) (hne:(i==st)=false) (hf:Region.free md ops listed i=true) (hr:(Region.ready md ops listed).contains i=true)
  (hQ:∀c a w,Q (.panic c) (a.put oi.dst v) w->Q (.panic c) a w) {b:Bool} (hb:listed.getD st false=b) (hy:YieldsIf P ops (λw=>∃b,S b w) oi v a) (hS:S b w)
  (h:wpAnyS P md ops Q S st fuel (listed.setIfInBounds i true) (a.put oi.dst v) w):wpAnyS P md ops Q S st (fuel+1) listed a w:=
 Zbtw hi (Region.noSelect_spec hs) hQ (by simpa using hne) fuel listed a w (hb▸hS) (Region.free_spec hi hf) (by simpa using hr) hy h
theorem Zbtu {listed:Array Bool} {a:Act} {w:World} (hr:Region.ready md ops listed = []) (h:Q .normal a w):∀fuel,wpAnyS P md ops Q S st fuel listed a w
 | 0=>⟨hr,h⟩
 | _+1=>⟨λ_=>h,by rw[hr];simp⟩
theorem Zbuk {id:Nat} {a:Act} {w:World} (hm:P.follows .mixedOrders=true) (hS:S false w.drew)
  (h:S false w.drew->wpAnyS P .any ops Q S st ops.size (Array.replicate ops.size false) a w.drew):(Code.region id ops true).wp P Q a w:=
 wp_region_any hm (Zbua _ _ _ _ (h hS))
def AllReadyS (P:Program) (md:Region.Mode) (ops:Array Oper) (Q:Exit->Act->World->Prop) (S:Bool->World->Prop) (st fuel:Nat) (listed:Array Bool) (a:Act) (w:World) (rs:List Nat):Prop:=
 ∀i∈rs,wpOp P ops Q i (λa' w'=>S ((listed.setIfInBounds i true).getD st false) w'/\wpAnyS P md ops Q S st fuel (listed.setIfInBounds i true) a' w') a w
theorem AllReadyS.nil {fuel:Nat} {listed:Array Bool} {a:Act} {w:World}:AllReadyS P md ops Q S st fuel listed a w []:=λ_ h=>by cases h
theorem AllReadyS.cons {fuel:Nat} {listed:Array Bool} {a:Act} {w:World} {i:Nat} {o:Oper} {rs:List Nat} {b:Bool} (ho:ops[i]? =some o) (hb:(listed.setIfInBounds i true).getD st false=b)
  (h:∀K':Act->World->Prop,Shut (∀a w,S b w->(S b w->wpAnyS P md ops Q S st fuel (listed.setIfInBounds i true) a w)->K' a w)->if Region.wanted o (yielded ops a.tmps)=true then Oper.wp P o a w K' Q else K' (a.put o.dst undef) w)
  (hs:AllReadyS P md ops Q S st fuel listed a w rs):AllReadyS P md ops Q S st fuel listed a w (i::rs):=λj hj=>by
 rcases List.mem_cons.1 hj with rfl|hj
 ·exact wpOp_step ho (λK' hK=>h K' (λa w hS hW=>hK a w ⟨by rw[hb];exact hS,hW hS⟩))
 ·exact hs j hj
theorem Zbtx {rs:List Nat} {fuel:Nat} {listed:Array Bool} {a:Act} {w:World} (hr:Region.ready md ops listed=rs) (hne:rs≠[])
  (h:AllReadyS P md ops Q S st fuel listed a w rs):wpAnyS P md ops Q S st (fuel+1) listed a w:=
 ⟨λh0=>absurd (hr▸h0) hne,hr▸h⟩
end
end Go.Proofs.YtokogjhcidkckaaGreatDoor
namespace Go.Proofs.YtokogjhcidkckaaGreatDoor
open Go.Lib (hid)
open Go.Proofs.Tryz
open Go.RowKit Go.Shelf
theorem Zid (w:World) (a:Addr):w.drew.cell? a=w.cell? a:=rfl
theorem Zqb (w:World) (a:Addr):w.drew.frozen? a=w.frozen? a:=rfl
def cutS (y:StepS):StepS:={ y with args:=y.args.take 8,lits:=y.lits.take 3 }
def cutQ (x:RuleS):RuleS:={ x with ins:=x.ins.take 10,outs:=x.outs.take 6,after:=x.after.take 10,steps:=x.steps.take 14 }
def cutR (x:RuleS):RuleS:={ cutQ x with steps:=(x.steps.take 14).map cutS }
theorem take_len (n m:Nat) (k:Int) (hk:k=(m:Int)):(min (n:Int) k).toNat=min m n:=by omega
theorem Zuf {w:World} {a:Option Addr} {xs:List ByteArray} {c:Nat} (h:IsStrs w (.slice a xs.length c) xs) (m:Nat):IsStrs w (.slice a (min m xs.length) c) (xs.take m):=by
 obtain⟨a',c',q,h1,h2,h3⟩:=h;injection q with q1 q2 q3
 subst q1 q3;refine⟨a,c,by rw[List.length_take],by rw[List.length_take];omega,h2,λhne=>?_⟩;obtain⟨b,o,ha,hb,hc⟩:=h3 (by rintro rfl;simp at hne);refine⟨b,o,ha,hb,λj x hx=>hc j x ?_⟩;rw[List.getElem?_take]at hx;split at hx
 ·exact hx
 ·cases hx
theorem Zbow {w:World} {a:Option Addr} {xs:List StepS} {n c:Nat} (h:StepsI w (.slice a n c) xs) (m:Nat):StepsI w (.slice a (min m n) c) (xs.take m):=by
 obtain⟨rows,⟨a',c',q,h1,h2,h3⟩,hall⟩:=h;injection q with q1 q2 q3
 subst q1 q3;have hrl:=hall.1;refine⟨rows.take m,⟨a,c,by rw[List.length_take,q2],by rw[List.length_take];omega,h2,λhne=>?_⟩,⟨by rw[List.length_take,List.length_take,hall.1],λj r y hr hy=>?_⟩⟩
 ·obtain⟨b,o,ha,hb,hc⟩:=h3 (by rintro rfl;simp at hne)
  refine⟨b,o,ha,hb,λj x hx=>hc j x ?_⟩;rw[List.getElem?_take]at hx;split at hx
  ·exact hx
  ·cases hx
 ·rw[List.getElem?_take]at hr hy
  split at hr
  ·rename_i hj
   rw[if_pos hj]at hy;exact hall.2 j r y hr hy
  ·cases hr
theorem Zbqi {Av:Nat->Prop} {w:World} {a:Option Addr} {n:Nat} {xs:List ByteArray} {c:Nat} (h:StrsA Av w (.slice a n c) xs) (m:Nat):StrsA Av w (.slice a (min m n) c) (xs.take m):=by
 obtain⟨⟨a',c',q,h1,h2,h3⟩,hb⟩:=h;injection q with q1 q2 q3
 subst q1 q3;rw[Zbpo]at h1 q2;refine⟨⟨a,c,by rw[Zbpo,List.length_take,q2],by rw[Zbpo,List.length_take];omega,h2,λhne=>?_⟩,λb e=>hb b (by rcases a with _|⟨_,_,_|_⟩<;>exact e)⟩;obtain⟨b,o,ha,hbl,hc⟩:=h3 (by rintro e;apply hne;cases xs with
  | nil=>simp[Zbpk]
  | cons x xs=>simp[Zbpk]at e)
 refine⟨b,o,ha,hbl,λj r hr i u hu=>hc j r ?_ i u hu⟩;unfold Zbpk at hr⊢;rw[List.getElem?_map,List.getElem?_take]at hr;rw[List.getElem?_map];split at hr
 ·exact hr
 ·simp at hr
theorem Zbqg {Av:Nat->Prop} {w:World} {v:Value} {xs:List ByteArray} {p:Addr} {u0:Value} (h:StrsA Av w v xs) (hp:w.cell? p=some u0) (hu:∀s,u0≠.string s) (u:Value):StrsA Av (w.setCell p u) v xs:=by
 obtain⟨⟨a,c,rfl,h1,h2,h3⟩,hb⟩:=h;refine⟨⟨a,c,rfl,h1,h2,λhne=>?_⟩,λb e=>⟨by simp[World.setCell];exact(hb b e).1,(hb b e).2⟩⟩;obtain⟨b,o,ha,hbl,hc⟩:=h3 hne;refine⟨b,o,ha,by simp[World.setCell];exact hbl,λj r hr i x hx=>?_⟩;have h4:=hc j r hr i x hx;rw[World.cell?_setCell_other]
 ·exact h4
 ·intro e
  rw[<-e,hp]at h4;injection h4 with h4
  unfold Zbpk at hr;rw[List.getElem?_map]at hr;obtain⟨s,_,rfl⟩:=Option.map_eq_some_iff.1 hr
  match i,hx with
  | 0,hx=>simp at hx;exact hu s (h4.trans hx.symm)
theorem Zbok {Av:Nat->Prop} {w:World} {b o n c k:Nat} {xs:List StepS} {y:StepS} {p1 q1:Option Addr} {c1 d1:Nat} (h:StepsA Av w (.slice (some ⟨b,o,none⟩) n c) xs) (hy:xs[k]? =some y)
  (z2:w.cell? ⟨b,o+k*5+2,none⟩=some (.slice p1 y.args.length c1)) (z3:w.cell? ⟨b,o+k*5+3,none⟩=some (.slice q1 y.lits.length d1)) (m1 m2:Nat):
  StepsA Av ((w.setCell ⟨b,o+k*5+2,none⟩ (.slice p1 (min m1 y.args.length) c1)).setCell ⟨b,o+k*5+3,none⟩ (.slice q1 (min m2 y.lits.length) d1)) (.slice (some ⟨b,o,none⟩) n c) (xs.set k { y with args:=y.args.take m1,lits:=y.lits.take m2 }):=by
 obtain⟨rows,⟨⟨a',c',q,h1,h2,h3⟩,hb⟩,hall⟩:=h;injection q with q1' q2' q3'
 subst q1' q3';have hk:k<xs.length:=(List.getElem?_eq_some_iff.1 hy).1;have hkr:k<rows.length:=by rw[hall.1];exact hk
 obtain⟨va,vl,er,ha,hl⟩:=hall.2 k rows[k] y (List.getElem?_eq_getElem hkr) hy;obtain⟨b',o',e',hbl,hc⟩:=h3 (by rintro e;rw[e]at hkr;simp at hkr)
 cases e'
 have hrow:rows[k]? =some [.string y.out,.int .i64 y.op,va,vl,.int .i64 y.n]:=by rw[List.getElem?_eq_getElem hkr,er]
 obtain rfl:va = .slice p1 y.args.length c1:=by
  have:=hc k _ hrow 2 va rfl;rw[z2]at this;injection this with this;exact this.symm
 obtain rfl:vl = .slice q1 y.lits.length d1:=by
  have:=hc k _ hrow 3 vl rfl;rw[z3]at this;injection this with this;exact this.symm
 have hlen:∀r∈rows,r.length=5:=hall.len λr x h=>h.len
 have z3':(w.setCell ⟨b,o+k*5+2,none⟩ (.slice p1 (min m1 y.args.length) c1)).cell? ⟨b,o+k*5+3,none⟩=some (.slice q1 y.lits.length d1):=by
  rw[World.cell?_setCell_other _ _ _ _ (by simp)];exact z3
 have keep:∀ {v:Value} {zs:List ByteArray},StrsA Av w v zs->StrsA Av ((w.setCell ⟨b,o+k*5+2,none⟩ (.slice p1 (min m1 y.args.length) c1)).setCell ⟨b,o+k*5+3,none⟩ (.slice q1 (min m2 y.lits.length) d1)) v zs:=
  λh=>Zbqg (Zbqg h z2 (by intro s e;cases e) _) z3' (by intro s e;cases e) _
 refine⟨rows.set k [.string y.out,.int .i64 y.op,.slice p1 (min m1 y.args.length) c1,.slice q1 (min m2 y.lits.length) d1,.int .i64 y.n],⟨⟨_,c,by rw[List.length_set,q2'],by rw[List.length_set];exact h1,h2,λhne=>⟨b,o,rfl,by simp[World.setCell];exact hbl,λj r hr i u hu=>?_⟩⟩,λb e=>⟨by simp[World.setCell];exact(hb b e).1,(hb b e).2⟩⟩,⟨by rw[List.length_set,List.length_set,hall.1],λj r x hr hx=>?_⟩⟩
 ·by_cases hj:j=k
  ·subst hj
   rw[List.getElem?_set_self hkr]at hr;injection hr with hr
   subst hr
   match i,hu with
   | 0,hu=>simp at hu;subst hu;rw[World.cell?_setCell_other _ _ _ _ (by simp),World.cell?_setCell_other _ _ _ _ (by simp)];exact hc j _ hrow 0 _ rfl
   | 1,hu=>simp at hu;subst hu;rw[World.cell?_setCell_other _ _ _ _ (by simp),World.cell?_setCell_other _ _ _ _ (by simp)];exact hc j _ hrow 1 _ rfl
   | 2,hu=>simp at hu;subst hu;rw[World.cell?_setCell_other _ _ _ _ (by simp)];exact World.cell?_setCell_same _ _ _ z2
   | 3,hu=>simp at hu;subst hu;exact World.cell?_setCell_same _ _ _ z3'
   | 4,hu=>simp at hu;subst hu;rw[World.cell?_setCell_other _ _ _ _ (by simp),World.cell?_setCell_other _ _ _ _ (by simp)];exact hc j _ hrow 4 _ rfl
  ·rw[List.getElem?_set_ne (Ne.symm hj)]at hr
   have hi:i<5:=by
    have:=hlen r (List.mem_of_getElem? hr);have:=(List.getElem?_eq_some_iff.1 hu).1;omega
   have e1:(⟨b,o+k*5+2,none⟩:Addr)≠⟨b,o+j*5+i,none⟩:=by intro e;injection e with _ e;omega
   have e2:(⟨b,o+k*5+3,none⟩:Addr)≠⟨b,o+j*5+i,none⟩:=by intro e;injection e with _ e;omega
   rw[World.cell?_setCell_other _ _ _ _ e2,World.cell?_setCell_other _ _ _ _ e1];exact hc j r hr i u hu
 ·by_cases hj:j=k
  ·subst hj
   rw[List.getElem?_set_self hkr]at hr;rw[List.getElem?_set_self hk]at hx;injection hr with hr;injection hx with hx
   subst hr hx;exact⟨_,_,rfl,Zbqi (keep ha) m1,Zbqi (keep hl) m2⟩
  ·rw[List.getElem?_set_ne (Ne.symm hj)]at hr hx
   obtain⟨va,vl,rfl,h1,h2⟩:=hall.2 j r x hr hx;exact⟨va,vl,rfl,keep h1,keep h2⟩
theorem Zbog {Av:Nat->Prop} {w:World} {v:Value} {xs:List StepS} (h:StepsA Av w v xs):∀b,v.ownBlock=some b->b<w.heap.size/\¬Av b:=by
 obtain⟨rows,⟨_,hb⟩,_⟩:=h;exact hb
theorem Zbpz {Av:Nat->Prop} {w:World} {v:Value} {xs:List ByteArray} (h:StrsA Av w v xs):∃a c,v = .slice a xs.length c/\xs.length<=c/\c<=maxLen:=by
 obtain⟨⟨a,c,rfl,h1,h2,_⟩,_⟩:=h;rw[Zbpo]at h1⊢;exact⟨a,c,rfl,h1,h2⟩
theorem Zbof {Av:Nat->Prop} {w:World} {s1:Option Addr} {n s3:Nat} {xs:List StepS} (h:StepsA Av w (.slice s1 n s3) xs) {k:Nat} {y:StepS} (hy:xs[k]? =some y):
  ∃b o p1 c1 q1 d1,s1=some ⟨b,o,none⟩/\n=xs.length/\¬Av b/\b<w.heap.size/\y.args.length<=c1/\c1<=maxLen/\y.lits.length<=d1/\d1<=maxLen/\n<=s3/\s3<=maxLen/\
   w.cell? ⟨b,o+k*5+2,none⟩=some (.slice p1 y.args.length c1)/\w.cell? ⟨b,o+k*5+3,none⟩=some (.slice q1 y.lits.length d1):=by
 obtain⟨rows,⟨⟨a',c',q,h1,h2,h3⟩,hb⟩,hall⟩:=h;injection q with q1' q2' q3'
 subst q1' q3';have hk:k<xs.length:=(List.getElem?_eq_some_iff.1 hy).1;have hkr:k<rows.length:=by rw[hall.1];exact hk
 obtain⟨va,vl,er,ha,hl⟩:=hall.2 k rows[k] y (List.getElem?_eq_getElem hkr) hy;obtain⟨b,o,rfl,hbl,hc⟩:=h3 (by rintro e;rw[e]at hkr;simp at hkr);have hrow:rows[k]? =some [.string y.out,.int .i64 y.op,va,vl,.int .i64 y.n]:=by rw[List.getElem?_eq_getElem hkr,er]
 obtain⟨p1,c1,rfl,g1,g2⟩:=Zbpz ha;obtain⟨q1,d1,rfl,g3,g4⟩:=Zbpz hl;exact⟨b,o,p1,c1,q1,d1,rfl,by rw[q2',hall.1],(hb b rfl).2,hbl,g1,g2,g3,g4,by omega,h2,hc k _ hrow 2 _ rfl,hc k _ hrow 3 _ rfl⟩
def mixS (k:Nat) (ys:List StepS):List StepS:=(ys.take k).map cutS++ys.drop k
theorem Zze {k:Nat} (ys:List StepS) (h:ys.length<=k):mixS k ys=ys.map cutS:=by
 unfold mixS;rw[List.take_of_length_le h,List.drop_eq_nil_of_le h,List.append_nil]
theorem Zzf {k:Nat} {ys:List StepS} {y:StepS} (h:ys[k]? =some y):(mixS k ys)[k]? =some y:=by
 have hk:=(List.getElem?_eq_some_iff.1 h).1;unfold mixS;have hl:((ys.take k).map cutS).length=k:=by rw[List.length_map,List.length_take];omega
 rw[List.getElem?_append_right (by omega),hl,Nat.sub_self,List.getElem?_drop,Nat.add_zero];exact h
theorem Zzg {k:Nat} {ys:List StepS} {y:StepS} (h:ys[k]? =some y):(mixS k ys).set k (cutS y)=mixS (k+1) ys:=by
 have hk:=(List.getElem?_eq_some_iff.1 h).1;have he:=(List.getElem?_eq_some_iff.1 h).2;unfold mixS;have hl:((ys.take k).map cutS).length=k:=by rw[List.length_map,List.length_take];omega
 rw[List.set_append_right _ _ (by omega),hl,Nat.sub_self,List.drop_eq_getElem_cons hk,List.set_cons_zero,List.take_succ_eq_append_getElem hk,List.map_append,he];simp
def Zau (xs:List ByteArray) (s:ByteArray) (r:Int):Prop:=(r = -1/\∀k:Nat,xs[k]? ≠some s)∨∃k:Nat,r=(k:Int)/\xs[k]? =some s/\∀j<k,xs[j]? ≠some s
def Zat (xs:List ByteArray) (s:ByteArray) (e:Ending):Prop:=∃r:Int,e = .returned (.int .i64 r)/\Zau xs s r/\-1<=r/\r<(xs.length:Int)
theorem Zoh {xs:List ByteArray} {s:ByteArray} {k:Nat} (h:xs[k]? =some s) (hn:∀j<k,xs[j]? ≠some s):Zat xs s (.returned (.int .i64 (k:Int))):=
 ⟨k,rfl,.inr ⟨k,rfl,h,hn⟩,by omega,by have:=(List.getElem?_eq_some_iff.1 h).1;omega⟩
theorem Zog {xs:List ByteArray} {s:ByteArray} {k:Nat} (hk:xs.length<=k) (hn:∀j<k,xs[j]? ≠some s):Zat xs s (.returned (.int .i64 (-1))):=
 ⟨-1,rfl,.inl ⟨rfl,λj e=>hn j (by have:=(List.getElem?_eq_some_iff.1 e).1;omega) e⟩,by omega,by omega⟩
theorem Zgx {x s:ByteArray} (h:(x.toList==s.toList)=true):x=s:=by
 rw[ByteArray.toList_eq,ByteArray.toList_eq]at h;have:=eq_of_beq h;exact ByteArray.ext (Array.toList_inj.1 this)
theorem Zgz {x s:ByteArray} (h:(x.toList==s.toList)=false):x≠s:=by
 rintro rfl;simp at h
theorem Zua {w:World} {v:Value} {xs:List ByteArray} (h:IsStrs w v xs):∃a c,v = .slice a xs.length c/\xs.length<=c/\c<=maxLen/\∀(k:Nat) x,xs[k]? =some x->∃b o,a=some ⟨b,o,none⟩/\∀w',Below w.heap.size w w'->w'.cell? ⟨b,o+k,none⟩=some (.string x):=by
 obtain⟨a,c,rfl,hlc,hcm,hcell⟩:=h;refine⟨a,c,rfl,hlc,hcm,λk x hx=>?_⟩;obtain⟨b,o,e,hb,hc⟩:=hcell (by rintro rfl;simp at hx);exact⟨b,o,e,λw' hw=>(hw.cell (p:=⟨b,o+k,none⟩) hb).trans (hc k x hx)⟩
set_option maxHeartbeats 2000000 in
theorem Zhd (v:Value) (xs:List ByteArray) (s:ByteArray) (w:World) (h:IsStrs w v xs):
  Calls prog 65 #[v,.string s] w λe w'=>Zat xs s e/\w=w':=by
 obtain⟨a1,c1,rfl,_,hm1,hc1⟩:=Zua h;have hlm:xs.length<=maxLen:=by omega
 unfold maxLen at hlm;have HC1:=hid hc1;clear hc1 h
 go_enter func65,ntmps65
 go_wp2
 go_loopw [5] (λi wr=>∃k:Nat,k<=xs.length/\i = .int .i64 k/\(∀j<k,xs[j]? ≠some s)/\w=wr)
  (λi _=>xs.length-(intOf i).toNat)
 case atStart=>exact⟨0,Nat.zero_le _,rfl,λj hj=>absurd hj (by omega),rfl⟩
 case round=>
  obtain⟨k,hk,rfl,hno,rfl⟩:=hrel;have HNX:=hid (Below.refl w.heap.size w);have HNO:=hid hno;clear hno
  by_cases hlt:k<xs.length
  ·obtain⟨x,hx⟩:∃x,xs[k]? =some x:=⟨xs[k],List.getElem?_eq_getElem hlt⟩
   obtain⟨b1,o1,q1,hk1⟩:=HC1.out k x hx;subst q1;have HX:=hid hx;have e1:=hk1 _ HNX.out;have hi1:(k:Int)<(xs.length:Int):=by omega
   have hi0:(0:Int)<=(k:Int):=by omega
   obtain⟨q,hq⟩:∃q,(x.toList==s.toList)=q:=⟨_,rfl⟩;have HQ:=hid hq;clear hk1 hx
   cases q
   ·go_wp2
    all_goals go_roundw
    case rel=>exact⟨k+1,by omega,by go_num,λj hj=>by
     rcases Nat.lt_or_ge j k with h|h
     ·exact HNO.out j h
     ·obtain rfl:j=k:=by omega
      rw[HX.out];exact λe=>Zgz HQ.out (Option.some.inj e),trivial⟩
    case measure=>simp[intOf];omega
   ·go_wp2
    go_ret;exact⟨Zoh (by rw[HX.out,Zgx HQ.out]) HNO.out,rfl⟩
  ·have hi1:¬(k:Int)<(xs.length:Int):=by omega
   have HKL:=hid (show xs.length<=k by omega);go_wp2;go_ret;exact⟨Zog HKL.out HNO.out,rfl⟩
def Zon (s:ByteArray):List ByteArray->Nat->Int
 | [],_=> -1
 | y::r,k=>if y.toList==s.toList then(k:Int)else Zon s r (k+1)
def Zoi (xs:List ByteArray) (s:ByteArray):Int:=Zon s xs 0
theorem Zoo (s:ByteArray):∀(xs:List ByteArray) (k:Nat),(Zon s xs k = -1/\∀j:Nat,xs[j]? ≠some s)∨∃j:Nat,Zon s xs k=((k+j:Nat):Int)/\xs[j]? =some s/\∀i<j,xs[i]? ≠some s
 | [],k=> .inl ⟨rfl,λj=>by simp⟩
 | y::r,k=>by
  unfold Zon
  by_cases h:(y.toList==s.toList)=true
  ·rw[if_pos h]
   exact .inr ⟨0,rfl,by rw[Zgx h];rfl,λi hi=>absurd hi (by omega)⟩
  ·rw[if_neg h]
   have hne:y≠s:=Zgz (by simpa using h)
   rcases Zoo s r (k+1)with⟨h1,h2⟩|⟨j,h1,h2,h3⟩
   ·refine .inl ⟨h1,λj=>?_⟩
    cases j with
    | zero=>intro e;exact hne (by simpa using e)
    | succ j=>simpa using h2 j
   ·refine .inr ⟨j+1,by rw[h1];congr 1;omega,by simpa using h2,λi hi=>?_⟩
    cases i with
    | zero=>intro e;exact hne (by simpa using e)
    | succ i=>simpa using h3 i (by omega)
theorem Zom (xs:List ByteArray) (s:ByteArray):Zau xs s (Zoi xs s):=by
 rcases Zoo s xs 0 with h|⟨j,h1,h2,h3⟩
 ·exact .inl h
 ·exact .inr ⟨j,by unfold Zoi;rw[h1];congr 1;omega,h2,h3⟩
theorem Zop {xs:List ByteArray} {s:ByteArray} {r t:Int} (h:Zau xs s r) (h':Zau xs s t):r=t:=by
 rcases h with⟨rfl,h1⟩|⟨k,rfl,h1,h2⟩<;>rcases h' with⟨rfl,h3⟩|⟨j,rfl,h3,h4⟩
 ·rfl
 ·exact absurd h3 (h1 j)
 ·exact absurd h1 (h3 k)
 ·rcases Nat.lt_trichotomy k j with h|h|h
  ·exact absurd h1 (h4 k h)
  ·rw[h]
  ·exact absurd h3 (h2 j h)
theorem Zcdz (xs:List ByteArray) (s:ByteArray): -1<=Zoi xs s/\Zoi xs s<(xs.length:Int):=by
 rcases Zom xs s with⟨h,_⟩|⟨k,h,h1,_⟩
 ·omega
 ·have:=(List.getElem?_eq_some_iff.1 h1).1
  omega
theorem Zhe (v:Value) (xs:List ByteArray) (s:ByteArray) (w:World) (h:IsStrs w v xs):
  Calls prog 65 #[v,.string s] w λe w'=>e = .returned (.int .i64 (Zoi xs s))/\w'=w:=by
 refine(Zhd v xs s w h).mono ?_;rintro e w' ⟨⟨r,rfl,hr,_⟩,rfl⟩;exact⟨by rw[Zop hr (Zom xs s)],rfl⟩
theorem Zor {xs:List ByteArray} {s:ByteArray} {r:Int} (h:Zau xs s r) (h0:0<=r):s∈xs:=by
 rcases h with⟨rfl,_⟩|⟨k,_,h,_⟩
 ·omega
 ·exact List.mem_of_getElem? h
theorem Zos {xs:List ByteArray} {s:ByteArray} {r:Int} (h:Zau xs s r) (h0:r<0):s∉xs:=by
 rcases h with⟨_,h⟩|⟨k,h,_⟩
 ·intro hm
  obtain⟨i,hi⟩:=List.getElem?_of_mem hm;exact h i hi
 ·omega
theorem Zbkb {P:Program} (w:World) (base:Nat) (t ty e:TypeId) (i:TypeInfo) (z:Value) (size bytes:Nat) (h1:P.underlying t=some (.slice e)) (h2:P.info? e=some i) (h3:i.zero=some z) (h4:i.size=size) (h5:i.bytes=bytes) (h6:z.cells.size=size) (h7:0<size)
  (v:Value) (n:Nat) (xs:List Value) (hown:w.ownsRow base e size v n xs)
  (ad:Addr) (m c:Nat) (news:List Value) (hn:news.length=m*size) (hc:∀j u,news[j]? =some u->w.cell? (ad.add j)=some u) (h1c:∀u∈news,u.oneCell'=true)
  (b1:n+m<=maxLen) (b2:(n+m)*bytes<=140737488355328) (hbase:base<=w.heap.size):
  ∃v' w',(Builtin.append_ #[t,t] ty #[v,.slice (some ad) m c]).run P w = .ok v' w'/\w'.ownsRow base e size v' (n+m) (xs++news)/\w.grownBy w' v.ownBlock/\∀b,v'.ownBlock=some b->v.ownBlock=some b∨w.heap.size<=b:=by
 obtain⟨hl,⟨rfl,h0⟩|⟨g,cap,cur,rfl,hgB,hgc,hnc,hcm,hcs,htk⟩⟩:=id hown
 ·subst h0
  obtain rfl:xs = []:=List.eq_nil_of_length_eq_zero (by simpa using hl);obtain⟨v',w',hr,r1,r2,_⟩:=run_append_own (P:=P) w w.heap.size t ty e i z size bytes h1 h2 h3 h4 h5 h6 h7 (.slice none 0 0) 0 [] (World.ownsRow_nil w _ e size) ad m c news hn hc h1c b1 b2 (Nat.le_refl _);exact⟨v',w',hr,Zbdt r1 hbase,r2,λb hb=> .inr (r1.lt b hb).1⟩
 ·by_cases hfit:n+m<=cap
  ·obtain⟨w',hr,r1,r2⟩:=run_append_fits (P:=P) w base t ty e i size h1 h2 h4 g n cap xs hown ad m c news hn hc h1c hfit
   exact⟨_,w',hr,r1,r2,λb hb=> .inl hb⟩
  ·obtain⟨v',w',hr,r1,r2⟩:=run_append_arg_grows (P:=P) w t ty e i z size bytes h1 h2 h3 h4 h5 h6 h7 ⟨g,0,none⟩ n cap xs hl (hown.cells rfl) ad m c news hn hc (by omega) b1 b2
   exact⟨v',w',hr,Zbdt r1 hbase,⟨r2.os,r2.tape,r2.output,r2.size,λk hk _=>r2.block k hk (by simp)⟩,λb hb=> .inr (r1.lt b hb).1⟩
def Zly (size k:Nat) (a:Option Addr) (n c:Nat):Value:= .slice (if c=k then a else a.map (·.add (k*size))) (n-k) (c-k)
theorem IsRow.take {w:World} {a:Option Addr} {n c k:Nat} {rows:List (List Value)} (h:IsRow w (.slice a n c) k rows) {m:Nat} (hm:m<=n):IsRow w (.slice a m c) k (rows.take m):=by
 obtain⟨a',c',q,h1,h2,h3⟩:=h;injection q with q1 q2 q3
 subst q1 q3;refine⟨a,c,by rw[List.length_take];congr 1;omega,by rw[List.length_take];omega,h2,λhne=>?_⟩;obtain⟨b,o,ha,hb,hc⟩:=h3 (by rintro rfl;simp at hne);refine⟨b,o,ha,hb,λj x hx=>hc j x ?_⟩;rw[List.getElem?_take]at hx;split at hx
 ·exact hx
 ·cases hx
theorem IsRow.drop {w:World} {a:Option Addr} {n c k:Nat} {rows:List (List Value)} (h:IsRow w (.slice a n c) k rows) {m:Nat} (hm:m<=n):IsRow w (Zly k m a n c) k (rows.drop m):=by
 obtain⟨a',c',q,h1,h2,h3⟩:=h;injection q with q1 q2 q3
 subst q1 q3;refine⟨_,c-m,by unfold Zly;rw[List.length_drop,q2],by rw[List.length_drop];omega,by omega,λhne=>?_⟩;have hlt:m<rows.length:=by
  rcases Nat.lt_or_ge m rows.length with h|h
  ·exact h
  ·rw[List.drop_eq_nil_of_le h]at hne;exact absurd rfl hne
 obtain⟨b,o,ha,hb,hc⟩:=h3 (by rintro rfl;simp at hlt);subst ha;refine⟨b,o+m*k,by rw[if_neg (by omega),Option.map_some,Addr.add_lit],hb,λj r hr i u hu=>?_⟩;rw[List.getElem?_drop]at hr;have:=hc (m+j) r hr i u hu;rw[Nat.add_mul]at this;rw[<-this]
 congr 2
 omega
theorem Zbii {w:World} {b o c n k:Nat} {rows:List (List Value)} (h:IsRow w (.slice (some ⟨b,o,none⟩) n c) k rows) (hk:∀r∈rows,r.length=k) (h0:0<k):∀j u,rows.flatten[j]? =some u->w.cell? ((⟨b,o,none⟩:Addr).add j)=some u:=by
 intro j u hj;obtain⟨a',c',q,h1,h2,h3⟩:=h;injection q with q1 q2 q3
 subst q1 q3;have hl:rows.flatten.length=rows.length*k:=by
  clear hj h1 h3 q2
  induction rows with
  | nil=>simp
  | cons r rows ih=>rw[List.flatten_cons,List.length_append,ih (λr hr=>hk r (by simp[hr])),hk r (by simp),List.length_cons,Nat.succ_mul];omega
 have hjl:=(List.getElem?_eq_some_iff.1 hj).1;rw[hl]at hjl;have hd:j/k<rows.length:=(Nat.div_lt_iff_lt_mul h0).2 hjl;have hm:j % k<k:=Nat.mod_lt _ h0;obtain⟨b',o',e,hb,hc⟩:=h3 (by rintro rfl;simp at hd)
 cases e
 have hr:rows[j/k]? =some rows[j/k]:=List.getElem?_eq_getElem hd;have hrl:rows[j/k].length=k:=hk _ (List.getElem_mem _);have hu:rows[j/k][j % k]? =some (rows[j/k][j % k]'(by rw[hrl];exact hm)):=List.getElem?_eq_getElem _;have h4:=hc _ _ hr _ _ hu;have h5:=Zpf k rows hk _ _ hr _ _ hu;rw[show j/k*k+j % k=j by rw[Nat.mul_comm];exact Nat.div_add_mod j k]at h5;rw[hj]at h5;injection h5 with h5
 rw[Addr.add_lit,h5,<-h4]
 congr 2
 have:=Nat.div_add_mod j k;rw[Nat.mul_comm]at this;omega
section
variable {w:World} {ops:Array Oper} {o:Oper} {a:Act} {K:Act->World->Prop} {Q:Exit->Act->World->Prop} {E:Prop}
theorem run_append_nothing {P:Program} (t ty e:TypeId) (i:TypeInfo) (ht:P.underlying t=some (.slice e)) (hi:P.info? e=some i) (ad:Option Addr) (n cap c:Nat) (hn:n<=cap):
  (Builtin.append_ #[t,t] ty #[.slice ad n cap,.slice none 0 c]).run P w = .ok (.slice ad n cap) w:=by
 cases ad with
 | none=>simp[Builtin.append_,run_underlying ht,sizeOf,typeInfo,hi,Builtin.lenOf,Builtin.firstCells,hn]
 | some ad=>simp[Builtin.append_,run_underlying ht,sizeOf,typeInfo,hi,Builtin.lenOf,Builtin.firstCells,hn,storeCells]
theorem Zbke {P:Program} (t ty e:TypeId) (i:TypeInfo) (z:Value) (size bytes:Nat) (h1:P.underlying t=some (.slice e)) (h2:P.info? e=some i) (h3:i.zero=some z) (h4:i.size=size) (h5:i.bytes=bytes) (h6:z.cells.size=size) (h7:0<size)
  {B:Nat} {v v2:Value} {rows rows2:List (List Value)} (hown:w.ownsRow B e size v rows.length rows.flatten) (hrow:IsRow w v2 size rows2) (hlen:∀r∈rows2,r.length=size) (hone:∀r∈rows2,∀u∈r,u.oneCell'=true)
  (b1:rows.length+rows2.length<=maxLen) (b2:(rows.length+rows2.length)*bytes<=140737488355328) (hB:B<=w.heap.size):
  ∃v' w',(Builtin.append_ #[t,t] ty #[v,v2]).run P w = .ok v' w'/\w'.ownsRow B e size v' (rows++rows2).length (rows++rows2).flatten/\w.grownBy w' v.ownBlock/\(∀b,v'.ownBlock=some b->v.ownBlock=some b∨w.heap.size<=b):=by
 obtain⟨a2,c2,rfl,g1,g2,g3⟩:=id hrow;rw[List.length_append,List.flatten_append];have hfl:rows2.flatten.length=rows2.length*size:=by
  clear hrow g1 g3 b1 b2 hone
  induction rows2 with
  | nil=>simp
  | cons r rows ih=>rw[List.flatten_cons,List.length_append,ih (λr hr=>hlen r (by simp[hr])),hlen r (by simp),List.length_cons,Nat.succ_mul];omega
 cases a2 with
 | none=>
  have hr0:rows2 = []:=by
   rcases rows2 with _|⟨r,rs⟩
   ·rfl
   ·obtain⟨b,o,e,_⟩:=g3 (by simp);cases e
  subst hr0;obtain⟨av,cv,rfl,_,hc,_⟩:=Zbea hown;refine⟨_,w,run_append_nothing t ty e i h1 h2 av rows.length cv c2 hc,by simpa using hown,⟨rfl,rfl,rfl,Nat.le_refl _,λ_ _ _=>rfl⟩,λb hb=> .inl hb⟩
 | some ad=>
  by_cases hne:rows2 = []
  ·subst hne
   exact Zbkb w B t ty e i z size bytes h1 h2 h3 h4 h5 h6 h7 v rows.length rows.flatten hown ad 0 c2 [] (by simp) (by simp) (by simp) (by simpa using b1) (by simpa using b2) hB
  ·obtain⟨b,o,e',_,_⟩:=g3 hne
   injection e' with e'
   subst e';exact Zbkb w B t ty e i z size bytes h1 h2 h3 h4 h5 h6 h7 v rows.length rows.flatten hown ⟨b,o,none⟩ rows2.length c2 rows2.flatten hfl (Zbii hrow hlen h7) (λu hu=>by
    obtain⟨r,hr,hu⟩:=List.mem_flatten.1 hu;exact hone r hr u hu) b1 b2 hB
theorem Zboc (hgd:o.guard=none) (s x:Operand) (t:TypeId) (ho:o.op = .call { callee:= .builtin .append,args:=#[s,x],argTypes:=#[t,t] })
  (e:TypeId) (i:TypeInfo) (z:Value) (size bytes:Nat) (h1:prog.underlying t=some (.slice e)) (h2:prog.info? e=some i) (h3:i.zero=some z) (h4:i.size=size) (h5:i.bytes=bytes) (h6:z.cells.size=size) (h7:0<size)
  (B:Nat) (v v2:Value) (rows rows2:List (List Value)) (hs:a.eval s=v) (hx:a.eval x=v2) (hown:w.ownsRow B e size v rows.length rows.flatten) (hrow:IsRow w v2 size rows2) (hlen:∀r∈rows2,r.length=size) (hone:∀r∈rows2,∀u∈r,u.oneCell'=true)
  (b1:rows.length+rows2.length<=1000000000) (b3:bytes<=1000) (hB:B<=w.heap.size)
  (h:∀v' w',w'.ownsRow B e size v' (rows++rows2).length (rows++rows2).flatten->w.grownBy w' v.ownBlock->(∀b,v'.ownBlock=some b->v.ownBlock=some b∨w.heap.size<=b)->K (a.put o.dst v') w'):
  if Region.wanted o (yielded ops a.tmps)=true then Oper.wp prog o a w K Q else E:=by
 have hw:Region.wanted o (yielded ops a.tmps)=true:=by simp[Region.wanted,hgd]
 rw[if_pos hw];have hb2:(rows.length+rows2.length)*bytes<=140737488355328:=Nat.le_trans (Nat.mul_le_mul b1 b3) (by decide);obtain⟨v',w',hr,r1,r2,r3⟩:=Zbke (P:=prog) t o.type e i z size bytes h1 h2 h3 h4 h5 h6 h7 hown hrow hlen hone (by unfold maxLen;omega) hb2 hB;unfold Oper.wp execOp;simp only[ho,resolve,invoke,builtin,Sem.run_bind,Sem.run_pure,Result.andThen_ok,List.map_toArray,List.map_cons,List.map_nil,hs,hx,hr];exact h v' w' r1 r2 r3
end
theorem Zbpp (xs:List ByteArray):∀r∈Zbpk xs,∀u∈r,u.oneCell'=true:=by
 intro r hr u hu;obtain⟨x,_,rfl⟩:=List.mem_map.1 hr;simp at hu;subst hu;rfl
theorem Zbpl (xs ys:List ByteArray):Zbpk xs++Zbpk ys=Zbpk (xs++ys):=by unfold Zbpk;rw[List.map_append]
theorem Zty {w:World} {g k:Nat} {r:List Value} (hg:g<w.heap.size) (hk:∀(i:Nat) u,r[i]? =some u->w.cell? ⟨g,i,none⟩=some u):IsRow w (.slice (some ⟨g,0,none⟩) 1 1) k [r]:=
 ⟨_,1,rfl,by simp,by unfold maxLen;omega,λ_=>⟨g,0,rfl,hg,λj r' hr i u hu=>by
  match j,hr with
  | 0,hr=>
   simp at hr;subst hr;have:=hk i u hu;simpa using this⟩⟩
theorem Zbdl {B:Nat} {w:World} {v:Value} {xs:List ByteArray}:OwnStrs B w v xs↔w.ownsRow B 9 1 v (Zbpk xs).length (Zbpk xs).flatten:=by
 unfold OwnStrs;rw[Zbpo,Zbpm]
theorem Zbob {w:World} {ops:Array Oper} {o:Oper} {a:Act} {K:Act->World->Prop} {Q:Exit->Act->World->Prop} {E:Prop} (hgd:o.guard=none) (s x:Operand) (ho:o.op = .call { callee:= .builtin .append,args:=#[s,x],argTypes:=#[47,47] })
  (B:Nat) (v v2:Value) (xs ys:List ByteArray) (hs:a.eval s=v) (hx:a.eval x=v2) (hown:OwnStrs B w v xs) (hI:IsRow w v2 1 (Zbpk ys)) (b1:xs.length+ys.length<=1000000000) (hB:B<=w.heap.size)
  (h:∀v' w',OwnStrs B w' v' (xs++ys)->w.grownBy w' v.ownBlock->(∀b,v'.ownBlock=some b->v.ownBlock=some b∨w.heap.size<=b)->K (a.put o.dst v') w'):
  if Region.wanted o (yielded ops a.tmps)=true then Oper.wp prog o a w K Q else E:=by
 obtain⟨i0,hi,hz0,hz1,hz2⟩:=Zsv Zsy;refine Zboc hgd s x 47 ho 9 i0 (.string ByteArray.empty) 1 16 underlying47 hi hz0 hz1 hz2 rfl (by decide) B v v2 (Zbpk xs) (Zbpk ys) hs hx (Zbdl.1 hown) hI (Zbpn ys) (Zbpp ys) (by rw[Zbpo,Zbpo];exact b1) (by decide) hB ?_;intro v' w' h1 h2 h3;rw[Zbpl]at h1;exact h v' w' (Zbdl.2 h1) h2 h3
theorem Zbdk (B:Nat) (w:World):OwnStrs B w (.slice none 0 0) []:=World.ownsRow_nil _ _ _ _
theorem OwnStrs.strsA {B:Nat} {w:World} {v:Value} {xs:List ByteArray} (h:OwnStrs B w v xs):StrsA (λb=>b<B) w v xs:=Zbqf h
theorem OwnStrs.below {B:Nat} {w w':World} {v:Value} {xs:List ByteArray} (h:OwnStrs B w v xs) (hb:Below w.heap.size w w'):OwnStrs B w' v xs:=World.ownsRow.kept (row:=none) h ⟨hb.os,hb.tape,hb.output,hb.size,λk hk _=>hb.block k hk⟩ (by cases Value.ownBlock _<;>simp)
theorem Zfl {B:Nat} {w0 w w':World} {v:Value} (h:Below B w0 w) (hg:w.grownBy w' v.ownBlock) (hB:B<=w.heap.size) (hv:∀k,v.ownBlock=some k->B<=k):Below B w0 w':=h.grown hg hB hv
theorem Zfy {w:World} {g:Nat} {o:Obj} (h:w.heap[g]? =some o):g<w.heap.size:=by
 rcases Nat.lt_or_ge g w.heap.size with h'|h'
 ·exact h'
 ·rw[Array.getElem?_eq_none h']at h;cases h
theorem Zbik {w:World} {g:Nat} {x:ByteArray} {t:TypeId} (h:w.heap[g]? =some (.cells #[.string x] t)):IsRow w (.slice (some ⟨g,0,none⟩) 1 1) 1 (Zbpk [x]):=by
 have hg:g<w.heap.size:=by
  rcases Nat.lt_or_ge g w.heap.size with h'|h'
  ·exact h'
  ·rw[Array.getElem?_eq_none h']at h;cases h
 refine Zty (r:=[.string x]) hg λi u hu=>?_
 match i,hu with
 | 0,hu=>simp at hu;subst hu;simp[World.cell?,h]
end Go.Proofs.YtokogjhcidkckaaGreatDoor
