import Derived.Deep.RegionHeld3
import Derived.Test.YtokogjhcidkckaaGreatDoorMas
namespace Go.Proofs.YtokogjhcidkckaaGreatDoor
open Go.Lib (hid)
open Go.Proofs.Tryz
open Go.RowKit Go.Shelf
abbrev SKV:=List (ByteArray×Value)
def skv (L:SKV):List KV:=L.map λe=>(.string e.1,e.2)
theorem Zdil (L:SKV):(skv L).length=L.length:=List.length_map _
def MpS (w:World) (b:Nat) (L:SKV):Prop:=RM w b (skv L)/\(L.map (·.1)).Nodup
theorem MpS.lt {w:World} {b:Nat} {L:SKV} (h:MpS w b L):b<w.heap.size:=h.1.lt
theorem MpS.heap {w w':World} {b:Nat} {L:SKV} (h:MpS w b L) (hb:w'.heap[b]? =w.heap[b]?):MpS w' b L:=⟨h.1.heap hb,h.2⟩
theorem MpS.below {w w':World} {b B:Nat} {L:SKV} (h:MpS w b L) (hb:Below B w w') (hlt:b<B):MpS w' b L:=⟨h.1.below hb hlt,h.2⟩
theorem MpS.made (w:World):MpS (w.alloc (.map #[] 0)) w.heap.size []:=⟨⟨#[],0,(MapKept.heap_alloc w _).1,rfl,by simp,by simp⟩,by simp⟩
def hasA:SKV->ByteArray->Bool
 | [],_=>false
 | e::L,k=>if e.1=k then true else hasA L k
def getA:SKV->ByteArray->Value->Value
 | [],_,z=>z
 | e::L,k,z=>if e.1=k then e.2 else getA L k z
def putA:SKV->ByteArray->Value->SKV
 | [],k,v=>[(k,v)]
 | e::L,k,v=>if e.1=k then(k,v)::L else e::putA L k v
theorem Zdax {k:ByteArray}:∀ {L:SKV},hasA L k=true↔k∈L.map (·.1)
 | []=>by simp[hasA]
 | e::L=>by
  unfold hasA;rw[List.map_cons,List.mem_cons,<-Zdax (L:=L)]
  by_cases h:e.1=k
  ·simp[h]
  ·simp[h,Ne.symm h]
theorem Zdgc {k:ByteArray} {v:Value}:∀ {L:SKV},(putA L k v).map (·.1)=if hasA L k then L.map (·.1)else L.map (·.1) ++ [k]
 | []=>rfl
 | e::L=>by
  unfold putA hasA
  by_cases h:e.1=k
  ·simp[h]
  ·have ih:=Zdgc (k:=k) (v:=v) (L:=L)
   rw[if_neg h,if_neg h,List.map_cons,ih];split<;>simp
theorem Zdge {k:ByteArray} {v:Value} {L:SKV} (h:(L.map (·.1)).Nodup):((putA L k v).map (·.1)).Nodup:=by
 rw[Zdgc];split
 ·exact h
 ·rename_i hn
  rw[List.nodup_append];refine⟨h,by simp,λy hy z hz e=>?_⟩;simp at hz;subst hz;subst e;exact hn (Zdax.2 hy)
theorem Zdak {k:ByteArray} {v z:Value}:∀ {L:SKV},getA (putA L k v) k z=v
 | []=>by simp[putA,getA]
 | e::L=>by
  unfold putA;split
  ·simp[getA]
  ·rename_i h
   unfold getA;rw[if_neg h];exact Zdak
theorem Zdaj {k k':ByteArray} {v z:Value} (h:k'≠k):∀ {L:SKV},getA (putA L k v) k' z=getA L k' z
 | []=>by simp[putA,getA,Ne.symm h]
 | e::L=>by
  unfold putA;split
  ·rename_i h1
   simp[getA,h1,Ne.symm h]
  ·unfold getA
   rw[Zdaj h]
theorem Zday {k k':ByteArray} {v:Value} {L:SKV}:hasA (putA L k v) k'=(decide (k=k')||hasA L k'):=by
 have hk:=Zdgc (k:=k) (v:=v) (L:=L);rw[Bool.eq_iff_iff,Bool.or_eq_true,decide_eq_true_iff,Zdax,Zdax,hk];split
 ·rename_i h
  exact⟨.inr,λh1=>h1.elim (λe=>e▸Zdax.1 h) id⟩
 ·rw[List.mem_append,List.mem_singleton]
  exact⟨λh1=>h1.elim .inr (λe=> .inl e.symm),λh1=>h1.elim (λe=> .inr e.symm) .inl⟩
theorem Zcxi (a b:ByteArray):(a==b)=decide (a=b):=by
 cases h:(a==b)with
 | true=>rw[decide_eq_true ((MapKept.bytes_beq a b).1 h)]
 | false=>rw[decide_eq_false λe=>by rw[(MapKept.bytes_beq a b).2 e]at h;cases h]
theorem Zczh (x:ByteArray):∀(es:List MapEntry) (L:SKV) (i:Nat),es.map kvE=skv L->
  (hasA L x=false/\Instr.findNow .string (.string x) es i=some none/\(∀v,putA L x v=L ++ [(x,v)])/\∀z,getA L x z=z)∨
  ∃j u e,L[j]? =some (x,u)/\es[j]? =some e/\e.key = .string x/\hasA L x=true/\Instr.findNow .string (.string x) es i=some (some (i+j,u))/\(∀v,putA L x v=L.set j (x,v))/\∀z,getA L x z=u
 | [],L,i,h=>by
  have:L = []:=by cases L with
   | nil=>rfl
   | cons _ _=>simp[skv]at h
  subst this;exact .inl ⟨rfl,rfl,λ_=>rfl,λ_=>rfl⟩
 | e::es,L,i,h=>by
  cases L with
  | nil=>simp[skv]at h
  | cons a L=>
   simp only[skv,List.map_cons,List.cons.injEq]at h;obtain⟨h1,h2⟩:=h;have hk:e.key = .string a.1:=congrArg Prod.fst h1;have hv:e.val=a.2:=congrArg Prod.snd h1
   by_cases hx:a.1=x
   ·subst hx
    refine .inr ⟨0,a.2,e,rfl,rfl,hk,by simp[hasA],?_,λv=>by simp[putA],λz=>by simp[getA]⟩;simp only[Instr.findNow,hk,Instr.sameNow];rw[Zcxi,decide_eq_true rfl];simp[hv]
   ·have hne:(x==a.1)=false:=by rw[Zcxi];exact decide_eq_false λe=>hx e.symm
    rcases Zczh x es L (i+1) h2 with⟨g1,g2,g3,g4⟩|⟨j,u,e',g1,g2,g3,g4,g5,g6,g7⟩
    ·refine .inl ⟨by simp[hasA,hx,g1],?_,λv=>by simp[putA,hx,g3],λz=>by simp[getA,hx,g4]⟩
     simp only[Instr.findNow,hk,Instr.sameNow,hne];exact g2
    ·refine .inr ⟨j+1,u,e',by simpa using g1,by simpa using g2,g3,by simp[hasA,hx,g4],?_,λv=>by simp[putA,hx,g6],λz=>by simp[getA,hx,g7]⟩
     simp only[Instr.findNow,hk,Instr.sameNow,hne];rw[g5]
     congr 3
     omega
section
variable {P:Program} {w:World} {b:Nat} {L:SKV} {t kt e:TypeId}
theorem Zdic (x:ByteArray):Instr.sameBits 10000 (.string x) (.string x)=true:=by
 have:(10000:Nat)=9999+1:=rfl;rw[this];generalize 9999=D;simp[Instr.sameBits,(MapKept.bytes_beq x x).2 rfl]
theorem Zcxw (hk:P.underlying kt=some .string) (x:ByteArray) (em:Bool) (w:World):(Instr.checkKey em 10000 kt (.string x)).run P w = .ok () w:=by
 have:(10000:Nat)=9999+1:=rfl;rw[this];generalize 9999=D;simp[Instr.checkKey,run_underlying hk]
theorem MpS.get_ok (h:MpS w b L) (ht:P.underlying t=some (.map kt e)) (hk:P.underlying kt=some .string) {z:Value} (hz:(zeroValue e).run P w = .ok z w) (x:ByteArray):
  (Instr.lookup t (.map (some b)) (.string x) true).run P w = .ok (.tuple #[getA L x z,.bool (hasA L x)]) w:=by
 obtain⟨⟨es,ck,h1,h2,_⟩,_⟩:=h
 rcases Zczh x es.toList L 0 h2 with⟨g1,g2,_,g4⟩|⟨j,u,_,_,_,_,g4,g5,_,g7⟩
 ·rw[g1,g4]
  simp[Instr.lookup,run_underlying ht,MapKept.run_getObj_map h1,Zcxw hk,Instr.findKey,run_underlying hk,g2,hz]
 ·rw[g4,g7]
  simp[Instr.lookup,run_underlying ht,MapKept.run_getObj_map h1,Zcxw hk,Instr.findKey,run_underlying hk,g5]
theorem MpS.get (h:MpS w b L) (ht:P.underlying t=some (.map kt e)) (hk:P.underlying kt=some .string) {z:Value} (hz:(zeroValue e).run P w = .ok z w) (x:ByteArray):
  (Instr.lookup t (.map (some b)) (.string x) false).run P w = .ok (getA L x z) w:=by
 obtain⟨⟨es,ck,h1,h2,_⟩,_⟩:=h
 rcases Zczh x es.toList L 0 h2 with⟨g1,g2,_,g4⟩|⟨j,u,_,_,_,_,g4,g5,_,g7⟩
 ·rw[g4]
  simp[Instr.lookup,run_underlying ht,MapKept.run_getObj_map h1,Zcxw hk,Instr.findKey,run_underlying hk,g2,hz]
 ·rw[g7]
  simp[Instr.lookup,run_underlying ht,MapKept.run_getObj_map h1,Zcxw hk,Instr.findKey,run_underlying hk,g5]
theorem MpS.put (h:MpS w b L) (ht:P.underlying t=some (.map kt e)) (hk:P.underlying kt=some .string) (x:ByteArray) (v:Value):
  ∃o,(Instr.mapUpdate t (.map (some b)) (.string x) v).run P w = .ok () { w with heap:=w.heap.setIfInBounds b o }/\MpS { w with heap:=w.heap.setIfInBounds b o } b (putA L x v):=by
 have hlt:=h.lt;obtain⟨⟨es,ck,hb,hkv,hn,hck⟩,hnd⟩:=h
 rcases Zczh x es.toList L 0 hkv with⟨g1,g2,g3,_⟩|⟨j,u,en,g1,g2,g3,g4,g5,g6,_⟩
 ·refine⟨.map (es.push ⟨.string x,v,ck⟩) (ck+1),?_,?_,Zdge hnd⟩
  ·simp[Instr.mapUpdate,run_underlying ht,MapKept.run_getObj_map hb,Zcxw hk,Instr.findKey,run_underlying hk,g2,setObj,Sem.run,hb]
  ·rw[g3]
   refine⟨es.push ⟨.string x,v,ck⟩,ck+1,by simp[hlt],?_,?_,?_⟩
   ·simp[hkv,kvE,skv]
   ·rw[Array.toList_push,List.map_append,List.nodup_append]
    refine⟨hn,by simp,λy hy z hz=>?_⟩;obtain⟨e,he,rfl⟩:=List.mem_map.1 hy;simp at hz;subst hz;exact Nat.ne_of_lt (hck e he)
   ·intro e he
    rw[Array.toList_push]at he
    rcases List.mem_append.1 he with he|he
    ·exact Nat.lt_succ_of_lt (hck e he)
    ·simp at he;subst he;exact Nat.lt_succ_self _
 ·have h2':es[j]? =some en:=by simpa using g2
  refine⟨.map (es.modify j λe=>{ e with key:= .string x,val:=v }) ck,?_,?_,Zdge hnd⟩
  ·rw[Nat.zero_add]at g5
   simp[Instr.mapUpdate,run_underlying ht,MapKept.run_getObj_map hb,Zcxw hk,Instr.findKey,run_underlying hk,g5,setObj,Sem.run,h2',Instr.keyThatStays,g3,hb,Zdic]
  ·rw[g6]
   have hb2:(es.modify j λe=>{ e with key:= .string x,val:=v }).toList.map (·.born)=es.toList.map (·.born):=by
    apply List.ext_getElem?;intro k;rw[List.getElem?_map,List.getElem?_map,Array.getElem?_toList,Array.getElem?_modify]
    by_cases hk:j=k
    ·subst hk
     rw[if_pos rfl,h2',Array.getElem?_toList,h2'];rfl
    ·rw[if_neg hk,Array.getElem?_toList]
   refine⟨es.modify j λe=>{ e with key:= .string x,val:=v },ck,by simp[hlt],?_,by rw[hb2];exact hn,?_⟩
   ·apply List.ext_getElem?
    intro k;have hk0:=congrArg (λl=>l[k]?) hkv;simp only[List.getElem?_map,skv]at hk0⊢;rw[Array.getElem?_toList,Array.getElem?_modify,List.getElem?_set]
    by_cases hk:j=k
    ·subst hk
     have hjl:=(List.getElem?_eq_some_iff.1 g1).1;rw[if_pos rfl,if_pos rfl,if_pos hjl,h2'];rfl
    ·rw[if_neg hk,if_neg hk]
     rw[Array.getElem?_toList]at hk0;exact hk0
   ·intro e he
    have h3:e.born∈(es.modify j λe=>{ e with key:= .string x,val:=v }).toList.map (·.born):=List.mem_map.2 ⟨e,he,rfl⟩;rw[hb2]at h3;obtain⟨e',he',h4⟩:=List.mem_map.1 h3;rw[<-h4];exact hck e' he'
end
end Go.Proofs.YtokogjhcidkckaaGreatDoor
namespace Go.Proofs.YtokogjhcidkckaaGreatDoor
open Go.Lib (hid)
open Go.Proofs.Tryz
open Go.RowKit Go.Shelf
def zRul:Value:= .agg #[.string ⟨#[]⟩,.slice none 0 0,.slice none 0 0,.slice none 0 0,.slice none 0 0]
def zLab:Value:= .agg #[.bool false,.string ⟨#[]⟩]
theorem Zdkb:∀w,(zeroValue 50).run prog w = .ok zRul w:=zeroValue50
theorem Zdjz:∀w,(zeroValue 24).run prog w = .ok zLab w:=zeroValue24
theorem Zdka:∀w,(zeroValue 35).run prog w = .ok (.slice none 0 0) w:=zeroValue35
def RulVs (L:SKV):Prop:=∀e∈L,∃s a1 n1 c1 a2 n2 c2 a3 n3 c3 a4 n4 c4,e.2 = .agg #[.string s,.slice a1 n1 c1,.slice a2 n2 c2,.slice a3 n3 c3,.slice a4 n4 c4]
def LabVs (L:SKV):Prop:=∀e∈L,∃p s,e.2 = .agg #[.bool p,.string s]
def SliVs (L:SKV):Prop:=∀e∈L,∃a n c,e.2 = .slice a n c
theorem Zdai {L:SKV} {k:ByteArray} {z:Value}:getA L k z=z/\hasA L k=false∨∃e∈L,e.1=k/\getA L k z=e.2/\hasA L k=true:=by
 induction L with
 | nil=>exact .inl ⟨rfl,rfl⟩
 | cons e L ih=>
  unfold getA hasA
  by_cases h:e.1=k
  ·exact .inr ⟨e,by simp,h,by rw[if_pos h],by rw[if_pos h]⟩
  ·rw[if_neg h,if_neg h]
   rcases ih with h1|⟨e',h1,h2⟩
   ·exact .inl h1
   ·exact .inr ⟨e',by simp[h1],h2⟩
theorem RulVs.get {L:SKV} (h:RulVs L) (k:ByteArray):∃s a1 n1 c1 a2 n2 c2 a3 n3 c3 a4 n4 c4,getA L k zRul = .agg #[.string s,.slice a1 n1 c1,.slice a2 n2 c2,.slice a3 n3 c3,.slice a4 n4 c4]:=by
 rcases Zdai (L:=L) (k:=k) (z:=zRul)with⟨h1,_⟩|⟨e,h1,_,h2,_⟩
 ·exact⟨_,_,_,_,_,_,_,_,_,_,_,_,_,h1⟩
 ·rw[h2];exact h e h1
theorem LabVs.get {L:SKV} (h:LabVs L) (k:ByteArray):∃p s,getA L k zLab = .agg #[.bool p,.string s]:=by
 rcases Zdai (L:=L) (k:=k) (z:=zLab)with⟨h1,_⟩|⟨e,h1,_,h2,_⟩
 ·exact⟨_,_,h1⟩
 ·rw[h2];exact h e h1
theorem SliVs.get {L:SKV} (h:SliVs L) (k:ByteArray):∃a n c,getA L k (.slice none 0 0) = .slice a n c:=by
 rcases Zdai (L:=L) (k:=k) (z:= .slice none 0 0)with⟨h1,_⟩|⟨e,h1,_,h2,_⟩
 ·exact⟨_,_,_,h1⟩
 ·rw[h2];exact h e h1
set_option maxHeartbeats 4000000
set_option maxRecDepth 100000
theorem Zdbd (b:Nat) (L:SKV) (k:ByteArray) (w:World) (h:MpS w b L) (hv:RulVs L):
  Calls prog 61 #[.map (some b),.string k] w λe w'=>e = .returned (.bool (hasA L k))/\Below w.heap.size w w':=by
 have hl:=h.get_ok (P:=prog) underlying87 underlying9 (Zdkb w) k;obtain⟨s,a1,n1,c1,a2,n2,c2,a3,n3,c3,a4,n4,c4,hg⟩:=hv.get k;rw[hg]at hl;clear hg h
 go_enter func61,ntmps61
 go_wp2;go_ret;exact⟨rfl,(Below.refl _ _).alloc (Nat.le_refl _) _⟩
theorem Zdbc (b:Nat) (L:SKV) (k:ByteArray) (w:World) (h:MpS w b L) (hv:LabVs L):
  Calls prog 62 #[.map (some b),.string k] w λe w'=>e = .returned (.bool (hasA L k))/\Below w.heap.size w w':=by
 have hl:=h.get_ok (P:=prog) underlying88 underlying9 (Zdjz w) k;obtain⟨p,s,hg⟩:=hv.get k;rw[hg]at hl;clear hg h
 go_enter func62,ntmps62
 go_wp2;go_ret;exact⟨rfl,(Below.refl _ _).alloc (Nat.le_refl _) _⟩
theorem Zdbe (b:Nat) (L:SKV) (k:ByteArray) (w:World) (h:MpS w b L) (hv:SliVs L):
  Calls prog 63 #[.map (some b),.string k] w λe w'=>e = .returned (.bool (hasA L k))/\Below w.heap.size w w':=by
 have hl:=h.get_ok (P:=prog) underlying89 underlying9 (Zdka w) k;obtain⟨a,n,c,hg⟩:=hv.get k;rw[hg]at hl;clear hg h
 go_enter func63,ntmps63
 go_wp2;go_ret;exact⟨rfl,Below.refl _ _⟩
structure GrM (w:World) (p:Nat) (A M R:SKV):Prop where
 ex:∃mr mm md,w.heap[p]? =some (.cells #[.map (some mr),.map (some mm),.map (some md)] 91)/\MpS w mr A/\MpS w mm M/\MpS w md R
 ra:RulVs A
 lm:LabVs M
 sr:SliVs R
theorem GrM.lt {w:World} {p:Nat} {A M R:SKV} (h:GrM w p A M R):p<w.heap.size:=by
 obtain⟨_,_,_,h1,_⟩:=h.ex;exact(Array.getElem?_eq_some_iff.1 h1).1
theorem GrM.below {w w':World} {p B:Nat} {A M R:SKV} (h:GrM w p A M R) (hb:Below B w w') (hB:w.heap.size<=B):GrM w' p A M R:=by
 obtain⟨mr,mm,md,h1,h2,h3,h4⟩:=h.ex;exact⟨⟨mr,mm,md,(hb.block p (Nat.lt_of_lt_of_le h.lt hB)).trans h1,h2.below hb (Nat.lt_of_lt_of_le h2.lt hB),h3.below hb (Nat.lt_of_lt_of_le h3.lt hB),h4.below hb (Nat.lt_of_lt_of_le h4.lt hB)⟩,h.ra,h.lm,h.sr⟩
theorem Zcym {b:Nat} (w:World):(binOp .eql 30 (.pointer (some { block:=b,off:=0 })) (.pointer none)).run prog w = .ok (.bool false) w:=by
 have key:∀d,(Op.equalIn (d+1) 30 (.pointer (some { block:=b,off:=0 })) (.pointer none)).run prog w = .ok false w:=by
  intro d;simp[Op.equalIn,run_underlying underlying30,Sem.run_bind]
 have:=key 9999;simp[binOp,Op.equal,Op.maxDepth,this]
set_option maxHeartbeats 8000000
set_option maxRecDepth 100000
theorem Zddy (p:Nat) (A M R:SKV) (k:ByteArray) (w:World) (h:GrM w p A M R) {q:Bool} {s:ByteArray} (hg:getA M k zLab = .agg #[.bool q,.string s]):
  Calls prog 20 #[.pointer (some { block:=p,off:=0 }),.string k] w λe w'=>e = .returned (.tuple #[.string s,.bool (hasA M k)])/\Below w.heap.size w w':=by
 obtain⟨mr,mm,md,h1,_,h3,_⟩:=h.ex;have hl:=h3.get_ok (P:=prog) underlying88 underlying9 (Zdjz w) k;rw[hg]at hl;have hc:w.cell? { block:=p,off:=1 } =some (.map (some mm)):=by simp[World.cell?,h1]
 clear h h1 h3 hg
 go_enter func20,ntmps20
 go_wp2
 go_ret2
 exact⟨rfl,(Below.refl _ _).alloc (Nat.le_refl _) _⟩
def Zdbs (A M R:SKV) (l:Lb):Int:=if l.1 then(if hasA A l.2 then 1 else 0)else if hasA M l.2 then 2 else if hasA R l.2 then 3 else 0
theorem Zdbu (p:Nat) (A M R:SKV) (l:Lb) (w:World) (h:GrM w p A M R):
  Calls prog 15 #[.pointer (some { block:=p,off:=0 }),lv l] w λe w'=>e = .returned (.int .i64 (Zdbs A M R l))/\Below w.heap.size w w':=by
 have mixed:prog.follows .mixedOrders=true:=by kernel_rfl
 obtain⟨mr,mm,md,h1,h2,h3,h4⟩:=h.ex;obtain⟨W0,hW0⟩:∃V,V=w.alloc (.cells #[.bool l.1,.string l.2] 24):=⟨_,rfl⟩;have hb0:Below w.heap.size w W0:=by rw[hW0];exact(Below.refl _ _).alloc (Nat.le_refl _) _
 have bx:BoxL W0 w.heap.size l:=by rw[hW0];exact alloc_at w _
 have HS:Hid (∀V,Below W0.heap.size W0 V->Below w.heap.size w V/\V.cell? { block:=p,off:=0 } =some (.map (some mr))/\V.cell? { block:=p,off:=1 } =some (.map (some mm))/\V.cell? { block:=p,off:=2 } =some (.map (some md))/\V.cell? { block:=w.heap.size,off:=0 } =some (.bool l.1)/\V.cell? { block:=w.heap.size,off:=1 } =some (.string l.2)/\MpS V mr A/\MpS V mm M/\MpS V md R):=by
  show ∀V,_;intro V hV;have hb:=hb0.trans (hV.mono hb0.size);have hp:=(hb.block p h.lt).trans h1;obtain⟨c0,c1⟩:=(bx.below hV (Nat.le_refl _)).cells;exact⟨hb,by simp[World.cell?,hp],by simp[World.cell?,hp],by simp[World.cell?,hp],c0,c1,h2.below hb h2.lt,h3.below hb h3.lt,h4.below hb h4.lt⟩
 have HCA:Hid (∀V,Below W0.heap.size W0 V->Calls prog 61 #[.map (some mr),.string l.2] V λe w'=>e = .returned (.bool (hasA A l.2))/\Below V.heap.size V w'):=hid λV hV=>Zdbd mr A l.2 V (HS.out V hV).2.2.2.2.2.2.1 h.ra
 have HCM:Hid (∀V,Below W0.heap.size W0 V->Calls prog 62 #[.map (some mm),.string l.2] V λe w'=>e = .returned (.bool (hasA M l.2))/\Below V.heap.size V w'):=hid λV hV=>Zdbc mm M l.2 V (HS.out V hV).2.2.2.2.2.2.2.1 h.lm
 have HCR:Hid (∀V,Below W0.heap.size W0 V->Calls prog 63 #[.map (some md),.string l.2] V λe w'=>e = .returned (.bool (hasA R l.2))/\Below V.heap.size V w'):=hid λV hV=>Zdbe md R l.2 V (HS.out V hV).2.2.2.2.2.2.2.2 h.sr
 have HB0:=hid (Below.refl W0.heap.size W0);have hK:∃t1 t2 t3:Bool,hasA A l.2=t1/\hasA M l.2=t2/\hasA R l.2=t3:=⟨_,_,_,rfl,rfl,rfl⟩;obtain⟨t1,t2,t3,e1,e2,e3⟩:=hK;rw[e1]at HCA;rw[e2]at HCM;rw[e3]at HCR;have hk:Zdbs A M R l=if l.1 then(if t1 then 1 else 0)else if t2 then 2 else if t3 then 3 else 0:=by unfold Zdbs;rw[e1,e2,e3]
 rw[hk];have hq:=λw=>Zcym (b:=p) w
 unfold lv;obtain⟨lb,ls⟩:=l;simp only at *;clear h h1 h2 h3 h4 hb0 bx e1 e2 e3 hk
 cases lb
 ·go_enter func15,ntmps15
  go_wp2_with fail
  rw[<-hW0];clear hW0;refine wp_region_held_drew (S:=λV=>Below W0.heap.size W0 V) (by kernel_rfl) ?_ (λhHeld=>?_)
  ·exact below_drewN HB0.out _
  refine tkH 0 (v:=?_) ?_ ?_;rotate_left
  ·intro w hSw;obtain⟨_,c0,c1,c2,c3,c4,_⟩:=HS.out _ hSw;go_simp;try with_reducible rfl
  try simp only[Act.put,sA,sZ,sS]
  refine tkH 1 (v:=?_) ?_ ?_;rotate_left
  ·intro w hSw;obtain⟨_,c0,c1,c2,c3,c4,_⟩:=HS.out _ hSw;go_simp;try with_reducible rfl
  try simp only[Act.put,sA,sZ,sS]
  refine tkK 2 ?_
  try simp only[Act.put,sA,sZ,sS]
  refine tuH 3 ?_
  try simp only[Act.put,sA,sZ,sS]
  refine tuH 4 ?_
  try simp only[Act.put,sA,sZ,sS]
  refine tuH 5 ?_
  try simp only[Act.put,sA,sZ,sS]
  refine tuH 6 ?_
  try simp only[Act.put,sA,sZ,sS]
  refine tuH 7 ?_
  try simp only[Act.put,sA,sZ,sS]
  refine tuH 8 ?_
  try simp only[Act.put,sA,sZ,sS]
  refine rdH [9] ?_;refine rcH (λK hK=>?_) ?_
  ·rw[if_neg];rotate_left;exact Bool.eq_false_iff.1 (by rfl)
   refine hK.out _ _ ?_ (λhHeld=>?_)
   ·try dsimp only
    assumption
   clear hK K
   try simp only[Act.put,sA,sZ,sS]
   refine tkK 10 ?_;refine tkK 11 ?_
   try simp only[Act.put,sA,sZ,sS]
   refine wpAnyH_done (by kernel_rfl) ?_ _
   go_wp2_with fail
   refine wp_region_held_drew (S:=λV=>Below W0.heap.size W0 V) (by kernel_rfl) ?_ (λhHeld=>?_)
   ·exact below_drewN hHeld _
   refine tkH 0 (v:=?_) ?_ ?_;rotate_left
   ·intro w hSw;obtain⟨_,c0,c1,c2,c3,c4,_⟩:=HS.out _ hSw;go_simp;try with_reducible rfl
   try simp only[Act.put,sA,sZ,sS]
   refine tkH 1 (v:=?_) ?_ ?_;rotate_left
   ·intro w hSw;obtain⟨_,c0,c1,c2,c3,c4,_⟩:=HS.out _ hSw;go_simp;try with_reducible rfl
   try simp only[Act.put,sA,sZ,sS]
   refine tkK 2 ?_;refine tkK 3 ?_
   try simp only[Act.put,sA,sZ,sS]
   refine tkH 4 (v:=?_) ?_ ?_;rotate_left
   ·intro w hSw;obtain⟨_,c0,c1,c2,c3,c4,_⟩:=HS.out _ hSw;go_simp;try with_reducible rfl
   try simp only[Act.put,sA,sZ,sS]
   refine tkH 5 (v:=?_) ?_ ?_;rotate_left
   ·intro w hSw;obtain⟨_,c0,c1,c2,c3,c4,_⟩:=HS.out _ hSw;go_simp;try with_reducible rfl
   try simp only[Act.put,sA,sZ,sS]
   refine tkH 6 (v:=?_) ?_ ?_;rotate_left
   ·intro w hSw;obtain⟨_,c0,c1,c2,c3,c4,_⟩:=HS.out _ hSw;go_simp;try with_reducible rfl
   try simp only[Act.put,sA,sZ,sS]
   refine tkH 7 (v:=?_) ?_ ?_;rotate_left
   ·intro w hSw;obtain⟨_,c0,c1,c2,c3,c4,_⟩:=HS.out _ hSw;go_simp;try with_reducible rfl
   try simp only[Act.put,sA,sZ,sS]
   refine tkH 8 (v:=?_) ?_ ?_;rotate_left
   ·intro w hSw;obtain⟨_,c0,c1,c2,c3,c4,_⟩:=HS.out _ hSw;go_simp;try with_reducible rfl
   try simp only[Act.put,sA,sZ,sS]
   refine tkH 9 (v:=?_) ?_ ?_;rotate_left
   ·intro w hSw;obtain⟨_,c0,c1,c2,c3,c4,_⟩:=HS.out _ hSw;go_simp;try with_reducible rfl
   try simp only[Act.put,sA,sZ,sS]
   refine rdH [10] ?_;refine rcH (λK hK=>?_) ?_
   ·go_simp;refine(HCM.out _ hHeld).mono ?_;rintro e' V2 ⟨rfl,hb2⟩;dsimp only
    refine hK.out _ _ ?_ (λhHeld=>?_)
    ·try dsimp only
     exact hHeld.trans (hb2.mono hHeld.size)
    clear hK K
    try simp only[Act.put,sA,sZ,sS]
    refine tkK 11 ?_;refine tkK 12 ?_
    try simp only[Act.put,sA,sZ,sS]
    refine wpAnyH_done (by kernel_rfl) ?_ _
    cases t2
    ·go_wp2_with fail
     refine wp_region_held_drew (S:=λV=>Below W0.heap.size W0 V) (by kernel_rfl) ?_ (λhHeld=>?_)
     ·exact below_drewN hHeld _
     refine tkH 0 (v:=?_) ?_ ?_;rotate_left
     ·intro w hSw;obtain⟨_,c0,c1,c2,c3,c4,_⟩:=HS.out _ hSw;go_simp;try with_reducible rfl
     try simp only[Act.put,sA,sZ,sS]
     refine tkH 1 (v:=?_) ?_ ?_;rotate_left
     ·intro w hSw;obtain⟨_,c0,c1,c2,c3,c4,_⟩:=HS.out _ hSw;go_simp;try with_reducible rfl
     try simp only[Act.put,sA,sZ,sS]
     refine tkK 2 ?_;refine tkK 3 ?_
     try simp only[Act.put,sA,sZ,sS]
     refine tkH 4 (v:=?_) ?_ ?_;rotate_left
     ·intro w hSw;obtain⟨_,c0,c1,c2,c3,c4,_⟩:=HS.out _ hSw;go_simp;try with_reducible rfl
     try simp only[Act.put,sA,sZ,sS]
     refine tkH 5 (v:=?_) ?_ ?_;rotate_left
     ·intro w hSw;obtain⟨_,c0,c1,c2,c3,c4,_⟩:=HS.out _ hSw;go_simp;try with_reducible rfl
     try simp only[Act.put,sA,sZ,sS]
     refine tkH 6 (v:=?_) ?_ ?_;rotate_left
     ·intro w hSw;obtain⟨_,c0,c1,c2,c3,c4,_⟩:=HS.out _ hSw;go_simp;try with_reducible rfl
     try simp only[Act.put,sA,sZ,sS]
     refine tkH 7 (v:=?_) ?_ ?_;rotate_left
     ·intro w hSw;obtain⟨_,c0,c1,c2,c3,c4,_⟩:=HS.out _ hSw;go_simp;try with_reducible rfl
     try simp only[Act.put,sA,sZ,sS]
     refine tkH 8 (v:=?_) ?_ ?_;rotate_left
     ·intro w hSw;obtain⟨_,c0,c1,c2,c3,c4,_⟩:=HS.out _ hSw;go_simp;try with_reducible rfl
     try simp only[Act.put,sA,sZ,sS]
     refine tkH 9 (v:=?_) ?_ ?_;rotate_left
     ·intro w hSw;obtain⟨_,c0,c1,c2,c3,c4,_⟩:=HS.out _ hSw;go_simp;try with_reducible rfl
     try simp only[Act.put,sA,sZ,sS]
     refine rdH [10] ?_;refine rcH (λK hK=>?_) ?_
     ·go_simp;refine(HCR.out _ hHeld).mono ?_;rintro e' V1 ⟨rfl,hb1⟩;dsimp only
      refine hK.out _ _ ?_ (λhHeld=>?_)
      ·try dsimp only
       exact hHeld.trans (hb1.mono hHeld.size)
      clear hK K
      try simp only[Act.put,sA,sZ,sS]
      refine tkK 11 ?_;refine tkK 12 ?_
      try simp only[Act.put,sA,sZ,sS]
      refine wpAnyH_done (by kernel_rfl) ?_ _
      cases t3
      ·go_wp2
       go_ret;exact⟨rfl,(HS.out _ hHeld).1⟩
      ·go_wp2
       go_ret;exact⟨rfl,(HS.out _ hHeld).1⟩
     exact AllReadyH.nil
    ·go_wp2
     go_ret;exact⟨rfl,(HS.out _ hHeld).1⟩
   exact AllReadyH.nil
  exact AllReadyH.nil
 ·go_enter func15,ntmps15
  go_wp2_with fail
  rw[<-hW0];clear hW0;refine wp_region_held_drew (S:=λV=>Below W0.heap.size W0 V) (by kernel_rfl) ?_ (λhHeld=>?_)
  ·exact below_drewN HB0.out _
  refine tkH 0 (v:=?_) ?_ ?_;rotate_left
  ·intro w hSw;obtain⟨_,c0,c1,c2,c3,c4,_⟩:=HS.out _ hSw;go_simp;try with_reducible rfl
  try simp only[Act.put,sA,sZ,sS]
  refine tkH 1 (v:=?_) ?_ ?_;rotate_left
  ·intro w hSw;obtain⟨_,c0,c1,c2,c3,c4,_⟩:=HS.out _ hSw;go_simp;try with_reducible rfl
  try simp only[Act.put,sA,sZ,sS]
  refine tkK 2 ?_
  try simp only[Act.put,sA,sZ,sS]
  refine tkH 3 (v:=?_) ?_ ?_;rotate_left
  ·intro w hSw;obtain⟨_,c0,c1,c2,c3,c4,_⟩:=HS.out _ hSw;go_simp;try with_reducible rfl
  try simp only[Act.put,sA,sZ,sS]
  refine tkH 4 (v:=?_) ?_ ?_;rotate_left
  ·intro w hSw;obtain⟨_,c0,c1,c2,c3,c4,_⟩:=HS.out _ hSw;go_simp;try with_reducible rfl
  try simp only[Act.put,sA,sZ,sS]
  refine tkH 5 (v:=?_) ?_ ?_;rotate_left
  ·intro w hSw;obtain⟨_,c0,c1,c2,c3,c4,_⟩:=HS.out _ hSw;go_simp;try with_reducible rfl
  try simp only[Act.put,sA,sZ,sS]
  refine tkH 6 (v:=?_) ?_ ?_;rotate_left
  ·intro w hSw;obtain⟨_,c0,c1,c2,c3,c4,_⟩:=HS.out _ hSw;go_simp;try with_reducible rfl
  try simp only[Act.put,sA,sZ,sS]
  refine tkH 7 (v:=?_) ?_ ?_;rotate_left
  ·intro w hSw;obtain⟨_,c0,c1,c2,c3,c4,_⟩:=HS.out _ hSw;go_simp;try with_reducible rfl
  try simp only[Act.put,sA,sZ,sS]
  refine tkH 8 (v:=?_) ?_ ?_;rotate_left
  ·intro w hSw;obtain⟨_,c0,c1,c2,c3,c4,_⟩:=HS.out _ hSw;go_simp;try with_reducible rfl
  try simp only[Act.put,sA,sZ,sS]
  refine rdH [9] ?_;refine rcH (λK hK=>?_) ?_
  ·go_simp;refine(HCA.out _ hHeld).mono ?_;rintro e' V6 ⟨rfl,hb6⟩;dsimp only
   refine hK.out _ _ ?_ (λhHeld=>?_)
   ·try dsimp only
    exact hHeld.trans (hb6.mono hHeld.size)
   clear hK K
   try simp only[Act.put,sA,sZ,sS]
   refine tkK 10 ?_;refine tkK 11 ?_
   try simp only[Act.put,sA,sZ,sS]
   refine wpAnyH_done (by kernel_rfl) ?_ _
   cases t1
   ·go_wp2_with fail
    refine wp_region_held_drew (S:=λV=>Below W0.heap.size W0 V) (by kernel_rfl) ?_ (λhHeld=>?_)
    ·exact below_drewN hHeld _
    refine tkH 0 (v:=?_) ?_ ?_;rotate_left
    ·intro w hSw;obtain⟨_,c0,c1,c2,c3,c4,_⟩:=HS.out _ hSw;go_simp;try with_reducible rfl
    try simp only[Act.put,sA,sZ,sS]
    refine tkH 1 (v:=?_) ?_ ?_;rotate_left
    ·intro w hSw;obtain⟨_,c0,c1,c2,c3,c4,_⟩:=HS.out _ hSw;go_simp;try with_reducible rfl
    try simp only[Act.put,sA,sZ,sS]
    refine tkK 2 ?_;refine tkK 3 ?_
    try simp only[Act.put,sA,sZ,sS]
    refine tuH 4 ?_
    try simp only[Act.put,sA,sZ,sS]
    refine tuH 5 ?_
    try simp only[Act.put,sA,sZ,sS]
    refine tuH 6 ?_
    try simp only[Act.put,sA,sZ,sS]
    refine tuH 7 ?_
    try simp only[Act.put,sA,sZ,sS]
    refine tuH 8 ?_
    try simp only[Act.put,sA,sZ,sS]
    refine tuH 9 ?_
    try simp only[Act.put,sA,sZ,sS]
    refine rdH [10] ?_;refine rcH (λK hK=>?_) ?_
    ·rw[if_neg];rotate_left;exact Bool.eq_false_iff.1 (by rfl)
     refine hK.out _ _ ?_ (λhHeld=>?_)
     ·try dsimp only
      assumption
     clear hK K
     try simp only[Act.put,sA,sZ,sS]
     refine tkK 11 ?_;refine tkK 12 ?_
     try simp only[Act.put,sA,sZ,sS]
     refine wpAnyH_done (by kernel_rfl) ?_ _
     go_wp2_with fail
     refine wp_region_held_drew (S:=λV=>Below W0.heap.size W0 V) (by kernel_rfl) ?_ (λhHeld=>?_)
     ·exact below_drewN hHeld _
     refine tkH 0 (v:=?_) ?_ ?_;rotate_left
     ·intro w hSw;obtain⟨_,c0,c1,c2,c3,c4,_⟩:=HS.out _ hSw;go_simp;try with_reducible rfl
     try simp only[Act.put,sA,sZ,sS]
     refine tkH 1 (v:=?_) ?_ ?_;rotate_left
     ·intro w hSw;obtain⟨_,c0,c1,c2,c3,c4,_⟩:=HS.out _ hSw;go_simp;try with_reducible rfl
     try simp only[Act.put,sA,sZ,sS]
     refine tkK 2 ?_;refine tkK 3 ?_
     try simp only[Act.put,sA,sZ,sS]
     refine tuH 4 ?_
     try simp only[Act.put,sA,sZ,sS]
     refine tuH 5 ?_
     try simp only[Act.put,sA,sZ,sS]
     refine tuH 6 ?_
     try simp only[Act.put,sA,sZ,sS]
     refine tuH 7 ?_
     try simp only[Act.put,sA,sZ,sS]
     refine tuH 8 ?_
     try simp only[Act.put,sA,sZ,sS]
     refine tuH 9 ?_
     try simp only[Act.put,sA,sZ,sS]
     refine rdH [10] ?_;refine rcH (λK hK=>?_) ?_
     ·rw[if_neg];rotate_left;exact Bool.eq_false_iff.1 (by rfl)
      refine hK.out _ _ ?_ (λhHeld=>?_)
      ·try dsimp only
       assumption
      clear hK K
      try simp only[Act.put,sA,sZ,sS]
      refine tkK 11 ?_;refine tkK 12 ?_
      try simp only[Act.put,sA,sZ,sS]
      refine wpAnyH_done (by kernel_rfl) ?_ _;go_wp2;go_ret;exact⟨rfl,(HS.out _ hHeld).1⟩
     exact AllReadyH.nil
    exact AllReadyH.nil
   ·go_wp2
    go_ret;exact⟨rfl,(HS.out _ hHeld).1⟩
  exact AllReadyH.nil
theorem Zczo (a b c d e:Value) (w:World):Sem.run prog (Instr.field 50 (.agg #[a,b,c,d,e]) 1) w = .ok b w:=by
 unfold Instr.field;simp[go_sem,part,asAgg]
theorem Zczp (a b c d e:Value) (w:World):Sem.run prog (Instr.field 50 (.agg #[a,b,c,d,e]) 2) w = .ok c w:=by
 unfold Instr.field;simp[go_sem,part,asAgg]
theorem Zdft {w:World} {g:Nat} {x:Lb} (h:w.heap[g]? =some (.cells #[.bool x.1,.string x.2] 24)) {B:Nat} (hB:B<=g):OwnL B w (.slice (some ⟨g,0,none⟩) 1 1) [x]:=
 ⟨rfl,.inr ⟨g,1,_,rfl,hB,h,Nat.le_refl _,by unfold maxLen;omega,rfl,rfl⟩⟩
structure GrW (w W0:World) (p mr mm md:Nat) (A M R:SKV) (l:Lb) (V:World):Prop where
 b:Below w.heap.size w V
 c0:V.cell? { block:=p,off:=0 } =some (.map (some mr))
 c1:V.cell? { block:=p,off:=1 } =some (.map (some mm))
 c2:V.cell? { block:=p,off:=2 } =some (.map (some md))
 x0:V.cell? { block:=w.heap.size,off:=0 } =some (.bool l.1)
 x1:V.cell? { block:=w.heap.size,off:=1 } =some (.string l.2)
 a:MpS V mr A
 m:MpS V mm M
 r:MpS V md R
theorem GrM.later {w W0:World} {p:Nat} {A M R:SKV} {l:Lb} (h:GrM w p A M R) (hW0:W0=w.alloc (.cells #[.bool l.1,.string l.2] 24)):∃mr mm md,∀V,Below W0.heap.size W0 V->GrW w W0 p mr mm md A M R l V:=by
 obtain⟨mr,mm,md,h1,h2,h3,h4⟩:=h.ex;refine⟨mr,mm,md,λV hV=>?_⟩;have hb0:Below w.heap.size w W0:=by rw[hW0];exact(Below.refl _ _).alloc (Nat.le_refl _) _
 have bx:BoxL W0 w.heap.size l:=by rw[hW0];exact alloc_at w _
 have hb:=hb0.trans (hV.mono hb0.size);have hp:=(hb.block p h.lt).trans h1;obtain⟨c0,c1⟩:=(bx.below hV (Nat.le_refl _)).cells;exact⟨hb,by simp[World.cell?,hp],by simp[World.cell?,hp],by simp[World.cell?,hp],c0,c1,h2.below hb h2.lt,h3.below hb h3.lt,h4.below hb h4.lt⟩
set_option maxHeartbeats 8000000
set_option maxRecDepth 100000
theorem Zdev (p:Nat) (A M R:SKV) (k:ByteArray) (w:World) (h:GrM w p A M R) {s:ByteArray} {a1 a2 a3 a4:Option Addr} {n1 c1 n2 c2 n3 c3 n4 c4:Nat} (hg:getA A k zRul = .agg #[.string s,.slice a1 n1 c1,.slice a2 n2 c2,.slice a3 n3 c3,.slice a4 n4 c4]) {xs:List ByteArray} (hi:IsStrs w (.slice a1 n1 c1) xs) (hn:xs.length<=1000):
  Calls prog 17 #[.pointer (some { block:=p,off:=0 }),lv (true,k)] w λe w'=>∃v',e = .returned v'/\OwnL w.heap.size w' v' (setL (Zcyo xs))/\Below w.heap.size w w':=by
 have mixed:prog.follows .mixedOrders=true:=by kernel_rfl
 obtain⟨W0,hW0⟩:∃V,V=w.alloc (.cells #[.bool true,.string k] 24):=⟨_,rfl⟩;have hs0:w.heap.size<=W0.heap.size:=by rw[hW0];simp
 obtain⟨mr,mm,md,hL⟩:=h.later (l:=(true,k)) hW0;have HS:=hid hL;have HLK:Hid (∀V,Below W0.heap.size W0 V->(Instr.lookup 87 (.map (some mr)) (.string k) false).run prog V = .ok (.agg #[.string s,.slice a1 n1 c1,.slice a2 n2 c2,.slice a3 n3 c3,.slice a4 n4 c4]) V):=by
  show ∀V,_;intro V hV;have:=(hL V hV).a.get (P:=prog) underlying87 underlying9 (Zdkb V) k;rw[hg]at this;exact this
 have HI:Hid (∀V,Below W0.heap.size W0 V->IsStrs V (.slice a1 n1 c1) xs):=hid λV hV=>hi.below (hL V hV).b
 have HS0:=hid hs0;have HB0:=hid (Below.refl W0.heap.size W0);have hq:=λw=>Zcym (b:=p) w
 have hf:=Zczo;unfold lv;clear h hL hg hi hs0
 go_enter func17,ntmps17
 go_wp2_with fail
 rw[<-hW0];clear hW0;refine wp_region_held_drew (S:=λV=>Below W0.heap.size W0 V) (by kernel_rfl) ?_ (λhHeld=>?_)
 ·exact below_drewN HB0.out _
 refine tkK 0 ?_;refine tkK 1 ?_;refine tkK 2 ?_
 try simp only[Act.put,sA,sZ,sS]
 refine tkH 3 (v:=?_) ?_ ?_;rotate_left
 ·intro w hSw;obtain⟨_,c0,c1,c2,c3,c4,_,_,_⟩:=HS.out _ hSw;go_simp;try with_reducible rfl
 try simp only[Act.put,sA,sZ,sS]
 refine tkK 4 ?_
 try simp only[Act.put,sA,sZ,sS]
 refine tkH 5 (v:=?_) ?_ ?_;rotate_left
 ·intro w hSw;obtain⟨_,c0,c1,c2,c3,c4,_,_,_⟩:=HS.out _ hSw;go_simp;try with_reducible rfl
 try simp only[Act.put,sA,sZ,sS]
 refine tkH 6 (v:=?_) ?_ ?_;rotate_left
 ·intro w hSw;have hlk:=HLK.out _ hSw;go_simp;try with_reducible rfl
 try simp only[Act.put,sA,sZ,sS]
 refine tkK 7 ?_
 try simp only[Act.put,sA,sZ,sS]
 refine rdH [8] ?_;refine rcH (λK hK=>?_) ?_
 ·go_simp;refine(Zcyn _ xs _ (HI.out _ hHeld) (by omega)).mono ?_;rintro e' V1 ⟨v1,rfl,ho1,hb1⟩;obtain⟨b1,d1,rfl,_,_,hr1,_⟩:=Zdfu ho1;dsimp only
  refine hK.out _ _ ?_ (λhHeld=>?_)
  ·try dsimp only
   exact hHeld.trans (hb1.mono hHeld.size)
  clear hK K
  try simp only[Act.put,sA,sZ,sS]
  refine rdH [9] ?_;refine rcH (λK hK=>?_) ?_
  ·go_simp;refine(Zcxd (Zcyo xs) b1 d1 V1 hr1 (by rw[Zcyp];exact hn)).mono ?_;rintro e' V2 ⟨v2,rfl,ho2,hb2⟩;have HO:=hid (Zbdt ho2 (Nat.le_trans HS0.out hHeld.size));dsimp only
   refine hK.out _ _ ?_ (λhHeld=>?_)
   ·try dsimp only
    exact hHeld.trans (hb2.mono hHeld.size)
   clear hK K
   try simp only[Act.put,sA,sZ,sS]
   refine tkK 10 ?_
   try simp only[Act.put,sA,sZ,sS]
   refine wpAnyH_done (by kernel_rfl) ?_ _
   go_wp2_with fail
   go_ret;exact⟨_,rfl,HO.out,(HS.out _ hHeld).b⟩
  exact AllReadyH.nil
 exact AllReadyH.nil
theorem Zdjw (p:Nat) (A M R:SKV) (k:ByteArray) (w:World) (h:GrM w p A M R) {s:ByteArray} {a1 a2 a3 a4:Option Addr} {n1 c1 n2 c2 n3 c3 n4 c4:Nat} (hg:getA A k zRul = .agg #[.string s,.slice a1 n1 c1,.slice a2 n2 c2,.slice a3 n3 c3,.slice a4 n4 c4]) {xs:List ByteArray} (hi:IsStrs w (.slice a2 n2 c2) xs) (hn:xs.length<=1000):
  Calls prog 19 #[.pointer (some { block:=p,off:=0 }),lv (true,k)] w λe w'=>∃v',e = .returned v'/\OwnL w.heap.size w' v' (setL (Zcyo xs))/\Below w.heap.size w w':=by
 have mixed:prog.follows .mixedOrders=true:=by kernel_rfl
 obtain⟨W0,hW0⟩:∃V,V=w.alloc (.cells #[.bool true,.string k] 24):=⟨_,rfl⟩;have hs0:w.heap.size<=W0.heap.size:=by rw[hW0];simp
 obtain⟨mr,mm,md,hL⟩:=h.later (l:=(true,k)) hW0;have HS:=hid hL;have HLK:Hid (∀V,Below W0.heap.size W0 V->(Instr.lookup 87 (.map (some mr)) (.string k) false).run prog V = .ok (.agg #[.string s,.slice a1 n1 c1,.slice a2 n2 c2,.slice a3 n3 c3,.slice a4 n4 c4]) V):=by
  show ∀V,_;intro V hV;have:=(hL V hV).a.get (P:=prog) underlying87 underlying9 (Zdkb V) k;rw[hg]at this;exact this
 have HI:Hid (∀V,Below W0.heap.size W0 V->IsStrs V (.slice a2 n2 c2) xs):=hid λV hV=>hi.below (hL V hV).b
 have HS0:=hid hs0;have HB0:=hid (Below.refl W0.heap.size W0);have hq:=λw=>Zcym (b:=p) w
 have hf:=Zczp;unfold lv;clear h hL hg hi hs0
 go_enter func19,ntmps19
 go_wp2_with fail
 rw[<-hW0];clear hW0;refine wp_region_held_drew (S:=λV=>Below W0.heap.size W0 V) (by kernel_rfl) ?_ (λhHeld=>?_)
 ·exact below_drewN HB0.out _
 refine tkK 0 ?_;refine tkK 1 ?_;refine tkK 2 ?_
 try simp only[Act.put,sA,sZ,sS]
 refine tkH 3 (v:=?_) ?_ ?_;rotate_left
 ·intro w hSw;obtain⟨_,c0,c1,c2,c3,c4,_,_,_⟩:=HS.out _ hSw;go_simp;try with_reducible rfl
 try simp only[Act.put,sA,sZ,sS]
 refine tkK 4 ?_
 try simp only[Act.put,sA,sZ,sS]
 refine tkH 5 (v:=?_) ?_ ?_;rotate_left
 ·intro w hSw;obtain⟨_,c0,c1,c2,c3,c4,_,_,_⟩:=HS.out _ hSw;go_simp;try with_reducible rfl
 try simp only[Act.put,sA,sZ,sS]
 refine tkH 6 (v:=?_) ?_ ?_;rotate_left
 ·intro w hSw;have hlk:=HLK.out _ hSw;go_simp;try with_reducible rfl
 try simp only[Act.put,sA,sZ,sS]
 refine tkK 7 ?_
 try simp only[Act.put,sA,sZ,sS]
 refine rdH [8] ?_;refine rcH (λK hK=>?_) ?_
 ·go_simp;refine(Zcyn _ xs _ (HI.out _ hHeld) (by omega)).mono ?_;rintro e' V1 ⟨v1,rfl,ho1,hb1⟩;obtain⟨b1,d1,rfl,_,_,hr1,_⟩:=Zdfu ho1;dsimp only
  refine hK.out _ _ ?_ (λhHeld=>?_)
  ·try dsimp only
   exact hHeld.trans (hb1.mono hHeld.size)
  clear hK K
  try simp only[Act.put,sA,sZ,sS]
  refine rdH [9] ?_;refine rcH (λK hK=>?_) ?_
  ·go_simp;refine(Zcxd (Zcyo xs) b1 d1 V1 hr1 (by rw[Zcyp];exact hn)).mono ?_;rintro e' V2 ⟨v2,rfl,ho2,hb2⟩;have HO:=hid (Zbdt ho2 (Nat.le_trans HS0.out hHeld.size));dsimp only
   refine hK.out _ _ ?_ (λhHeld=>?_)
   ·try dsimp only
    exact hHeld.trans (hb2.mono hHeld.size)
   clear hK K
   try simp only[Act.put,sA,sZ,sS]
   refine tkK 10 ?_
   try simp only[Act.put,sA,sZ,sS]
   refine wpAnyH_done (by kernel_rfl) ?_ _
   go_wp2_with fail
   go_ret;exact⟨_,rfl,HO.out,(HS.out _ hHeld).b⟩
  exact AllReadyH.nil
 exact AllReadyH.nil
theorem Zdjs (p:Nat) (A M R:SKV) (k:ByteArray) (w:World) (h:GrM w p A M R) {ar:Option Addr} {cr:Nat} {ls:List Lb} (hg:getA R k (.slice none 0 0) = .slice ar ls.length cr) (hi:RowL w ar ls) (hn:ls.length<=1000):
  Calls prog 19 #[.pointer (some { block:=p,off:=0 }),lv (false,k)] w λe w'=>∃v',e = .returned v'/\OwnL w.heap.size w' v' (setL ls)/\Below w.heap.size w w':=by
 have mixed:prog.follows .mixedOrders=true:=by kernel_rfl
 obtain⟨W0,hW0⟩:∃V,V=w.alloc (.cells #[.bool false,.string k] 24):=⟨_,rfl⟩;have hs0:w.heap.size<=W0.heap.size:=by rw[hW0];simp
 obtain⟨mr,mm,md,hL⟩:=h.later (l:=(false,k)) hW0;have HS:=hid hL;have HLK:Hid (∀V,Below W0.heap.size W0 V->(Instr.lookup 89 (.map (some md)) (.string k) false).run prog V = .ok (.slice ar ls.length cr) V):=by
  show ∀V,_;intro V hV;have:=(hL V hV).r.get (P:=prog) underlying89 underlying9 (Zdka V) k;rw[hg]at this;exact this
 have HI:Hid (∀V,Below W0.heap.size W0 V->RowL V ar ls):=hid λV hV=>hi.below (hL V hV).b (Nat.le_refl _)
 have HS0:=hid hs0;have HB0:=hid (Below.refl W0.heap.size W0);have hq:=λw=>Zcym (b:=p) w
 unfold lv;clear h hL hg hi hs0
 go_enter func19,ntmps19
 go_wp2_with fail
 rw[<-hW0];clear hW0;refine wp_region_held_drew (S:=λV=>Below W0.heap.size W0 V) (by kernel_rfl) ?_ (λhHeld=>?_)
 ·exact below_drewN HB0.out _
 refine tkK 0 ?_;refine tkK 1 ?_;refine tkK 2 ?_
 try simp only[Act.put,sA,sZ,sS]
 refine tkH 3 (v:=?_) ?_ ?_;rotate_left
 ·intro w hSw;obtain⟨_,c0,c1,c2,c3,c4,_,_,_⟩:=HS.out _ hSw;go_simp;try with_reducible rfl
 try simp only[Act.put,sA,sZ,sS]
 refine tkK 4 ?_
 try simp only[Act.put,sA,sZ,sS]
 refine tkH 5 (v:=?_) ?_ ?_;rotate_left
 ·intro w hSw;obtain⟨_,c0,c1,c2,c3,c4,_,_,_⟩:=HS.out _ hSw;go_simp;try with_reducible rfl
 try simp only[Act.put,sA,sZ,sS]
 refine tkH 6 (v:=?_) ?_ ?_;rotate_left
 ·intro w hSw;have hlk:=HLK.out _ hSw;go_simp;try with_reducible rfl
 try simp only[Act.put,sA,sZ,sS]
 refine rdH [7] ?_;refine rcH (λK hK=>?_) ?_
 ·go_simp;refine(Zcxd ls ar cr _ (HI.out _ hHeld) hn).mono ?_;rintro e' V2 ⟨v2,rfl,ho2,hb2⟩;have HO:=hid (Zbdt ho2 (Nat.le_trans HS0.out hHeld.size));dsimp only
  refine hK.out _ _ ?_ (λhHeld=>?_)
  ·try dsimp only
   exact hHeld.trans (hb2.mono hHeld.size)
  clear hK K
  try simp only[Act.put,sA,sZ,sS]
  refine tkK 8 ?_
  try simp only[Act.put,sA,sZ,sS]
  refine wpAnyH_done (by kernel_rfl) ?_ _
  go_wp2_with fail
  go_ret;exact⟨_,rfl,HO.out,(HS.out _ hHeld).b⟩
 exact AllReadyH.nil
set_option maxHeartbeats 8000000
set_option maxRecDepth 100000
theorem Zder (p:Nat) (A M R:SKV) (k:ByteArray) (w:World) (h:GrM w p A M R) {q:Bool} {s:ByteArray} (hg:getA M k zLab = .agg #[.bool q,.string s]):
  Calls prog 17 #[.pointer (some { block:=p,off:=0 }),lv (false,k)] w λe w'=>∃v',e = .returned v'/\OwnL w.heap.size w' v' (if hasA M k then [(q,s)]else [])/\Below w.heap.size w w':=by
 have mixed:prog.follows .mixedOrders=true:=by kernel_rfl
 obtain⟨W0,hW0⟩:∃V,V=w.alloc (.cells #[.bool false,.string k] 24):=⟨_,rfl⟩;have hs0:w.heap.size<=W0.heap.size:=by rw[hW0];simp
 obtain⟨mr,mm,md,hL⟩:=h.later (l:=(false,k)) hW0;have HS:=hid hL;have HLK:Hid (∀V,Below W0.heap.size W0 V->(Instr.lookup 88 (.map (some mm)) (.string k) true).run prog V = .ok (.tuple #[.agg #[.bool q,.string s],.bool (hasA M k)]) V):=by
  show ∀V,_;intro V hV;have:=(hL V hV).m.get_ok (P:=prog) underlying88 underlying9 (Zdjz V) k;rw[hg]at this;exact this
 have HS0:=hid hs0;have HB0:=hid (Below.refl W0.heap.size W0);have hq:=λw=>Zcym (b:=p) w
 obtain⟨t,ht⟩:∃t,hasA M k=t:=⟨_,rfl⟩;rw[ht]at HLK⊢;unfold lv;clear h hL hg hs0 ht
 go_enter func17,ntmps17
 go_wp2_with fail
 rw[<-hW0];clear hW0;refine wp_region_held_drew (S:=λV=>Below W0.heap.size W0 V) (by kernel_rfl) ?_ (λhHeld=>?_)
 ·exact below_drewN HB0.out _
 refine tkK 0 ?_;refine tkK 1 ?_;refine tkK 2 ?_
 try simp only[Act.put,sA,sZ,sS]
 refine tkH 3 (v:=?_) ?_ ?_;rotate_left
 ·intro w hSw;obtain⟨_,c0,c1,c2,c3,c4,_,_,_⟩:=HS.out _ hSw;go_simp;try with_reducible rfl
 try simp only[Act.put,sA,sZ,sS]
 refine tkK 4 ?_
 try simp only[Act.put,sA,sZ,sS]
 refine tkH 5 (v:=?_) ?_ ?_;rotate_left
 ·intro w hSw;obtain⟨_,c0,c1,c2,c3,c4,_,_,_⟩:=HS.out _ hSw;go_simp;try with_reducible rfl
 try simp only[Act.put,sA,sZ,sS]
 refine tkH 6 (v:=?_) ?_ ?_;rotate_left
 ·intro w hSw;have hlk:=HLK.out _ hSw;go_simp;try with_reducible rfl
 try simp only[Act.put,sA,sZ,sS]
 refine tkK 7 ?_;refine tkK 8 ?_;refine tkK 9 ?_
 try simp only[Act.put,sA,sZ,sS]
 refine rdH [10] ?_;refine rcH (λK hK=>?_) ?_
 ·go_simp
  refine hK.out _ _ ?_ (λhHeld=>?_)
  ·try dsimp only
   exact hHeld.alloc hHeld.size _
  clear hK K
  try simp only[Act.put,sA,sZ,sS]
  refine rdH [11] ?_;refine rcH (λK hK=>?_) ?_
  ·go_simp
   refine hK.out _ _ ?_ (λhHeld=>?_)
   ·try dsimp only
    exact(HB0.out.alloc (Nat.le_refl _) _).drew
   clear hK K
   try simp only[Act.put,sA,sZ,sS]
   refine tkK 12 ?_
   try simp only[Act.put,sA,sZ,sS]
   refine wpAnyH_done (by kernel_rfl) ?_ _
   cases t
   ·go_wp2
    go_ret;exact⟨_,rfl,Zdfs _ _,(HS.out _ hHeld).b⟩
   ·go_wp2
    go_ret;refine⟨_,rfl,Zdft (x:=(q,s)) ?_ (by have:=HS0.out;omega),?_⟩
    ·have h2:=alloc_at (W0.alloc (.cells #[.bool q,.string s] 24)) (.cells #[.bool q,.string s] 24)
     rw[World.size_alloc]at h2;exact h2
    ·have h3:=(HB0.out.alloc (Nat.le_refl _) (.cells #[.bool q,.string s] 24)).alloc (by simp) (.cells #[.bool q,.string s] 24)
     exact(HS.out _ h3.drew).b
  exact AllReadyH.nil
 exact AllReadyH.nil
theorem Zph (k:Nat):∀(rows:List (List Value)),(∀r∈rows,r.length=k)->rows.flatten.length=rows.length*k
 | [],_=>by simp
 | r::rows,h=>by
  rw[List.flatten_cons,List.length_append,Zph k rows (λr hr=>h r (by simp[hr])),h r (by simp),List.length_cons,Nat.succ_mul];omega
set_option maxHeartbeats 2000000
set_option maxRecDepth 100000
theorem Zcxy (v:Value) (rows:List (List Value)) (w:World) (h:IsRow w v 5 rows) (hl:∀r∈rows,r.length=5) (ho:∀r∈rows,∀u∈r,u.oneCell'=true) (hn:rows.length<=1000000):
  Calls prog 90 #[v] w λe w'=>∃v',e = .returned v'/\w'.ownsRow w.heap.size 60 5 v' rows.length rows.flatten/\Below w.heap.size w w':=by
 obtain⟨a,c,rfl,h1,h1m,h2⟩:=id h;obtain⟨i0,hi,hz0,hz1,hz2⟩:=Zsv Zsx
 cases a with
 | none=>
  have hfs:rows = []:=by
   rcases rows with _|⟨f,fs⟩
   ·rfl
   ·obtain⟨b,o,ha,_⟩:=h2 (by simp)
    cases ha
  subst hfs;have hq:∀w,(Go.binOp .eql 48 (.slice none 0 c) (.slice none 0 0)).run prog w = .ok (.bool true) w:=λw=>Lib.run_eql_slice_nil w 48 60 none 0 c 0 0 underlying48
  go_enter func90,ntmps90
  go_wp2;go_ret;exact⟨_,rfl,World.ownsRow_nil _ _ _ _,Below.refl _ _⟩
 | some ad=>
  obtain⟨ab,ao,asp⟩:=ad;have hq:∀w,(Go.binOp .eql 48 (.slice (some ⟨ab,ao,asp⟩) rows.length c) (.slice none 0 0)).run prog w = .ok (.bool false) w:=λw=>Lib.run_eql_slice_nil w 48 60 _ _ _ _ _ underlying48
  have hfl:=Zph 5 rows hl;have hcells:∀j u,rows.flatten[j]? =some u->w.cell? ((⟨ab,ao,asp⟩:Addr).add j)=some u:=by
   intro j u hu;obtain⟨b,o,ha,_,_⟩:=h2 (by rintro rfl;simp at hu)
   cases ha
   exact Zbii h hl (by decide) j u hu
  have hone:∀u∈rows.flatten,u.oneCell'=true:=by
   intro u hu;obtain⟨r,hr,hu⟩:=List.mem_flatten.1 hu;exact ho r hr u hu
  have HC:=hid hcells;have HO:=hid hone;have HF:=hid hfl;clear hcells h2 hone hfl h
  go_enter func90,ntmps90
  go_wp2_with (at_builtin;refine wpList_append_own _ rfl _ _ 48 rfl w.heap.size 60 i0 _ 5 80 underlying48 hi hz0 hz1 hz2 rfl (by decide) _ _ _ rfl (World.ownsRow_made w #[] 0 (Nat.le_refl _) (Nat.zero_le _) (by simp)) ⟨ab,ao,asp⟩ rows.length c rows.flatten rfl ?qc1 ?qc2 ?qc3 ?qc4 ?qc5 ?qc6 ?_)
  case qc1=>exact HF.out
  case qc2=>
   intro j u hj;exact Lib.cell?_alloc_some _ (HC.out j u hj)
  case qc3=>exact HO.out
  case qc4=>unfold maxLen;omega
  case qc5=>omega
  case qc6=>simp
  intro v' w1 hown hgrow hnil;have HW:=hid hown;have hb:Below w.heap.size w w1:=((Below.refl _ w).alloc (Nat.le_refl _) _).grown hgrow (by simp) (by intro k hk;simp[Value.ownBlock]at hk;omega);have HB:=hid hb;clear hown hgrow hnil hb;go_wp2;go_ret;refine⟨_,rfl,?_,HB.out⟩;have:=HW.out;simpa using this
end Go.Proofs.YtokogjhcidkckaaGreatDoor
