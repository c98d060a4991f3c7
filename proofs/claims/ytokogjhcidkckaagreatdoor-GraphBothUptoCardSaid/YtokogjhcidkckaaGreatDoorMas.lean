import Derived.Deep.RegionHeld
import Derived.Deep.RegionHeld3
import Derived.Test.YtokogjhcidkckaaGreatDoorMam
import Derived.Deep.CutBlock
import Derived.Deep.DeepCutAuto
namespace Go.Proofs.YtokogjhcidkckaaGreatDoor
open Go.Lib (hid)
open Go.Proofs.Tryz
open Go.RowKit Go.Shelf
structure LabKeys (P:Program) (t kt:TypeId):Prop where
 und:∃el kd,P.underlying t=some (.map kt el)/\P.underlying kt=some kd/\Exe.wideK kd=true/\∀w,(zeroValue el).run P w = .ok (.agg #[]) w
 eq:∀(a b:Lb) w,(Op.equal kt (lv a) (lv b)).run P w = .ok (decide (a=b)) w
 chk:∀(a:Lb) em w,(Instr.checkKey em 10000 kt (lv a)).run P w = .ok () w
 bits:∀a:Lb,Instr.sameBits 10000 (lv a) (lv a)=true
def LM (w:World) (b:Nat) (ls:List Lb):Prop:=RM w b (lkv ls)/\ls.Nodup
def hasL (x:Lb) (ls:List Lb):Bool:=ls.any λy=>decide (y=x)
theorem Zdba {x:Lb} {ls:List Lb}:hasL x ls=true↔x∈ls:=by
 unfold hasL;rw[List.any_eq_true];exact⟨λ⟨y,hy,h⟩=>of_decide_eq_true h▸hy,λh=>⟨x,h,decide_eq_true rfl⟩⟩
theorem Zdbb {x:Lb} {ls:List Lb} (h:x∉ls):hasL x ls=false:=Bool.eq_false_iff.2 λh1=>h (Zdba.1 h1)
def addL (x:Lb) (ls:List Lb):List Lb:=if hasL x ls then ls else ls ++ [x]
variable {P:Program} {t kt:TypeId} {w:World} {b:Nat} {ls:List Lb}
theorem Zczc (h:LabKeys P t kt) (x:Lb) (w:World):∀(es:List MapEntry) (ls:List Lb) (j:Nat),es.map kvE=lkv ls->
  (x∉ls/\(Instr.findAsking kt (lv x) es j).run P w = .ok none w)∨∃i e,ls[i]? =some x/\es[i]? =some e/\e.key=lv x/\e.val = .agg #[]/\(Instr.findAsking kt (lv x) es j).run P w = .ok (some (j+i,.agg #[])) w
 | [],[],j,_=> .inl ⟨by simp,rfl⟩
 | [],_::_,_,h=>by cases h
 | _::_,[],_,h=>by cases h
 | e::es,y::ls,j,hm=>by
  unfold lkv at hm;rw[List.map_cons,List.map_cons,List.cons.injEq]at hm;obtain⟨h1,h2⟩:=hm;have hk:e.key=lv y:=congrArg Prod.fst h1;have hv:e.val = .agg #[]:=congrArg Prod.snd h1;have hr:=h.eq x y w
  by_cases hxy:x=y
  ·subst hxy
   rw[decide_eq_true rfl]at hr;exact .inr ⟨0,e,rfl,rfl,hk,hv,by simp[Instr.findAsking,hk,hv,Sem.run_bind,hr,Result.andThen]⟩
  ·rw[decide_eq_false hxy]at hr
   rcases Zczc h x w es ls (j+1) h2 with⟨h3,h4⟩|⟨i,e',h3,h4,h5,h6,h7⟩
   ·exact .inl ⟨by simp[hxy,h3],by simp[Instr.findAsking,hk,Sem.run_bind,hr,Result.andThen,h4]⟩
   ·exact .inr ⟨i+1,e',by simpa using h3,by simpa using h4,h5,h6,by simp[Instr.findAsking,hk,Sem.run_bind,hr,Result.andThen,h7,Nat.add_assoc,Nat.add_comm 1 i]⟩
theorem LM.get (h:LabKeys P t kt) (hm:LM w b ls) (x:Lb):(Instr.lookup t (.map (some b)) (lv x) true).run P w = .ok (.tuple #[.agg #[],.bool (hasL x ls)]) w:=by
 obtain⟨el,kd,hu,hkd,hwk,hz⟩:=h.und;obtain⟨⟨es,ck,hb,hkv,_,_⟩,_⟩:=hm
 rcases Zczc h x w es.toList ls 0 hkv with⟨h1,h2⟩|⟨i,e,h1,h2,h3,h4,h5⟩
 ·rw[Zdbb h1]
  simp only[Instr.lookup,Sem.run_bind,run_underlying hu,Result.andThen_ok,getObj,Sem.run,hb,Exe.findKey_wide hkd hwk];simp[h2,h.chk,hz]
 ·rw[Zdba.2 (List.mem_of_getElem? h1)]
  simp only[Instr.lookup,Sem.run_bind,run_underlying hu,Result.andThen_ok,getObj,Sem.run,hb,Exe.findKey_wide hkd hwk];simp[h5,h.chk]
theorem LM.put (h:LabKeys P t kt) (hm:LM w b ls) (x:Lb):
  ∃o,(Instr.mapUpdate t (.map (some b)) (lv x) (.agg #[])).run P w = .ok () { w with heap:=w.heap.setIfInBounds b o }/\LM { w with heap:=w.heap.setIfInBounds b o } b (addL x ls):=by
 obtain⟨el,kd,hu,hkd,hwk,hz⟩:=h.und;have hlt:=hm.1.lt;obtain⟨⟨es,ck,hb,hkv,hn,hck⟩,hnd⟩:=hm
 rcases Zczc h x w es.toList ls 0 hkv with⟨h1,h2⟩|⟨i,e,h1,h2,h3,h4,h5⟩
 ·refine⟨.map (es.push ⟨lv x,.agg #[],ck⟩) (ck+1),?_,?_⟩
  ·simp only[Instr.mapUpdate,Sem.run_bind,run_underlying hu,Result.andThen_ok,getObj,setObj,Sem.run,hb,h.chk,Exe.findKey_wide hkd hwk,h2]
  ·rw[addL,Zdbb h1,if_neg (by simp)]
   refine⟨⟨es.push ⟨lv x,.agg #[],ck⟩,ck+1,by simp[hlt],?_,?_,?_⟩,?_⟩
   ·simp[hkv,kvE,lkv]
   ·rw[Array.toList_push,List.map_append,List.nodup_append]
    refine⟨hn,by simp,λy hy z hz=>?_⟩;obtain⟨e,he,rfl⟩:=List.mem_map.1 hy;simp at hz;subst hz;exact Nat.ne_of_lt (hck e he)
   ·intro e he
    rw[Array.toList_push]at he
    rcases List.mem_append.1 he with he|he
    ·exact Nat.lt_succ_of_lt (hck e he)
    ·simp at he;subst he;exact Nat.lt_succ_self _
   ·rw[List.nodup_append]
    exact⟨hnd,by simp,λy hy z hz=>by simp at hz;subst hz;exact λe=>h1 (e▸hy)⟩
 ·have h2':es[i]? =some e:=by simpa using h2
  have hlt':i<es.size:=(Array.getElem?_eq_some_iff.1 h2').1;have hsame:es.modify i (λe=>{ e with key:=lv x,val:= .agg #[] })=es:=by
   apply Array.ext_getElem?;intro k;rw[Array.getElem?_modify]
   by_cases hk:i=k
   ·subst hk
    rw[if_pos rfl,h2'];simp[<-h3,<-h4]
   ·rw[if_neg hk]
  refine⟨.map es ck,?_,?_⟩
  ·simp only[Nat.zero_add]at h5
   simp only[Instr.mapUpdate,Sem.run_bind,run_underlying hu,Result.andThen_ok,getObj,setObj,Sem.run,hb,h.chk,Exe.findKey_wide hkd hwk,h5];simp[hb,h2',Instr.keyThatStays,h3,h.bits,hsame]
  ·rw[addL,Zdba.2 (List.mem_of_getElem? h1),if_pos rfl]
   exact⟨⟨es,ck,by simp[hlt],hkv,hn,hck⟩,hnd⟩
section
theorem Zcyl (a b:Lb) (w:World):(Op.equal 24 (lv a) (lv b)).run prog w = .ok (decide (a=b)) w:=by
 obtain⟨p,s⟩:=a;obtain⟨q,t⟩:=b;unfold lv;have key:∀d,(Op.equalIn (d+2) 24 (.agg #[.bool p,.string s]) (.agg #[.bool q,.string t])).run prog w = .ok (decide ((p,s)=(q,t))) w:=by
  intro d;have hin:prog.stoodInHeld 24=false:=by kernel_rfl
  simp[Op.equalIn,run_underlying underlying24,run_underlying underlying4,run_underlying underlying9,Sem.run_bind,hin,part];have hb:(s==t)=decide (s=t):=by
   cases h:(s==t)with
   | true=>rw[decide_eq_true ((MapKept.bytes_beq s t).1 h)]
   | false=>rw[decide_eq_false λe=>by rw[(MapKept.bytes_beq s t).2 e]at h;cases h]
  rw[hb]
  by_cases h1:p=q<;>by_cases h2:s=t<;>simp[h1,h2]
 exact key 9998
theorem Zdby:LabKeys prog 70 24:=by
 refine⟨⟨_,_,underlying70,underlying24,rfl,?_⟩,Zcyl,?_,?_⟩
 ·intro w
  go_simp
 ·intro a em w
  unfold lv;have key:∀d,(Instr.checkKey em (d+2) 24 (.agg #[.bool a.1,.string a.2])).run prog w = .ok () w:=by
   intro d;simp[Instr.checkKey,run_underlying underlying24,run_underlying underlying4,run_underlying underlying9,Sem.run_bind,part]
  exact key 9998
 ·intro a
  unfold lv;have key:∀d,Instr.sameBits (d+2) (.agg #[.bool a.1,.string a.2]) (.agg #[.bool a.1,.string a.2])=true:=by
   intro d;simp[Instr.sameBits,(MapKept.bytes_beq a.2 a.2).2 rfl]
  exact key 9998
end
end Go.Proofs.YtokogjhcidkckaaGreatDoor
namespace Go.Proofs.YtokogjhcidkckaaGreatDoor
open Go.Lib (hid)
open Go.Proofs.Tryz
open Go.RowKit Go.Shelf
def SetAt (w:World) (p:Nat) (ls:List Lb):Prop:=∃m,w.cell? { block:=p,off:=0 } =some (.map m)/\((m=none/\ls = [])∨∃b,m=some b/\b≠p/\LM w b ls)
theorem LM.below {B:Nat} {w w':World} {b:Nat} {ls:List Lb} (h:LM w b ls) (hb:Below B w w') (hlt:b<B):LM w' b ls:=⟨h.1.below hb hlt,h.2⟩
theorem cell_below {B:Nat} {w w':World} {p o:Nat} {v:Value} (h:w.cell? { block:=p,off:=o } =some v) (hb:Below B w w') (hlt:p<B):w'.cell? { block:=p,off:=o } =some v:=by
 unfold World.cell? at h⊢;rw[hb.block p hlt];exact h
theorem SetAt.lt {w:World} {p:Nat} {ls:List Lb} (h:SetAt w p ls):p<w.heap.size:=by
 obtain⟨m,hc,_⟩:=h;exact World.block_lt_of_cell? _ _ hc
theorem SetAt.below {w w':World} {p:Nat} {ls:List Lb} (h:SetAt w p ls) (hb:Below w.heap.size w w'):SetAt w' p ls:=by
 have hlt:=h.lt;obtain⟨m,hc,hm⟩:=h;refine⟨m,cell_below hc hb hlt,?_⟩
 rcases hm with h|⟨b,h1,h2,h3⟩
 ·exact .inl h
 ·exact .inr ⟨b,h1,h2,h3.below hb h3.1.lt⟩
set_option maxHeartbeats 4000000
set_option maxRecDepth 100000
def Zcws (ls:List Lb) (xs:List Lb):List Lb:=xs.foldl (λl x=>addL x l) ls
theorem Zcwv {ls xs:List Lb} {k:Nat} {x:Lb} (h:xs[k]? =some x):Zcws ls (xs.take (k+1))=addL x (Zcws ls (xs.take k)):=by
 unfold Zcws;rw[List.take_add_one,h,List.foldl_append];rfl
theorem Zcwr (x:Lb) (l:List Lb):l.length<=(addL x l).length/\(addL x l).length<=l.length+1:=by
 unfold addL;split<;>simp
theorem Zcwu (ls xs:List Lb):ls.length<=(Zcws ls xs).length/\(Zcws ls xs).length<=ls.length+xs.length:=by
 unfold Zcws
 induction xs generalizing ls with
 | nil=>simp
 | cons x xs ih=>
  have h1:=ih (addL x ls);have h2:=Zcwr x ls;simp only[List.foldl_cons,List.length_cons];omega
def RowL (w:World) (a:Option Addr) (xs:List Lb):Prop:=∀i x,xs[i]? =some x->∃b o,a=some { block:=b,off:=o }/\w.cell? { block:=b,off:=o+i*2 } =some (.bool x.1)/\w.cell? { block:=b,off:=o+i*2+1 } =some (.string x.2)
structure KeepBut (p m:Nat) (w w':World):Prop where
 os:w'.os=w.os
 tape:w'.tape=w.tape
 output:w'.output=w.output
 size:w.heap.size<=w'.heap.size
 block:∀k,k<w.heap.size->k≠p->k≠m->w'.heap[k]? =w.heap[k]?
variable {p m:Nat} {w w' w'':World}
theorem KeepBut.refl (p m:Nat) (w:World):KeepBut p m w w:=⟨rfl,rfl,rfl,Nat.le_refl _,λ_ _ _ _=>rfl⟩
theorem KeepBut.trans (h:KeepBut p m w w') (k:KeepBut p m w' w''):KeepBut p m w w'':=
 ⟨k.os.trans h.os,k.tape.trans h.tape,k.output.trans h.output,Nat.le_trans h.size k.size,λi h1 h2 h3=>(k.block i (Nat.lt_of_lt_of_le h1 h.size) h2 h3).trans (h.block i h1 h2 h3)⟩
theorem Zcxg {B:Nat} (h:Below B w w') (hB:w.heap.size<=B):KeepBut p m w w':=⟨h.os,h.tape,h.output,h.size,λk hk _ _=>h.block k (Nat.lt_of_lt_of_le hk hB)⟩
theorem Zdbr (p m:Nat) (w:World) (o:Obj):KeepBut p m w { w with heap:=w.heap.setIfInBounds m o }:=⟨rfl,rfl,rfl,by simp,λk _ _ h=>by simp[Array.getElem?_setIfInBounds_ne (Ne.symm h)]⟩
theorem KeepBut.cell (h:KeepBut p m w w') {a:Addr} {v:Value} (hc:w.cell? a=some v) (h1:a.block≠p) (h2:a.block≠m):w'.cell? a=some v:=by
 rw[World.cell?_of_block (h.block _ (World.block_lt_of_cell? _ _ hc) h1 h2)];exact hc
set_option maxHeartbeats 8000000
set_option maxRecDepth 100000
theorem map_some (mb:Nat) (w:World):(binOp .eql 70 (.map (some mb)) (.map none)).run prog w = .ok (.bool false) w:=by
 have key:∀d,(Op.equalIn (d+1) 70 (.map (some mb)) (.map none)).run prog w = .ok false w:=by
  intro d;simp[Op.equalIn,run_underlying underlying70,Sem.run_bind]
 have:=key 9999;simp[binOp,Op.equal,Op.maxDepth,this]
theorem Zdcf (p mb:Nat) (ls xs:List Lb) (a:Option Addr) (c:Nat) (w:World) (hc:w.cell? { block:=p,off:=0 } =some (.map (some mb))) (hne:mb≠p) (hm:LM w mb ls) (hr:RowL w a xs) (hap:xs≠[]->∀b,a=some b->b.block≠p/\b.block≠mb)
  (hn:ls.length+xs.length<=1000000):
  Calls prog 58 #[.pointer (some { block:=p,off:=0 }),.slice a xs.length c] w λe w'=>e = .returned (.int .i64 (((Zcws ls xs).length:Int)-ls.length))/\w'.cell? { block:=p,off:=0 } =some (.map (some mb))/\LM w' mb (Zcws ls xs)/\KeepBut w.heap.size mb w w':=by
 have HR:=hid hr;have HAP:=hid hap;have HM:=hid hm;have hl:∀ty,(Builtin.len_ #[70] ty #[.map (some mb)]).run prog w = .ok (.int .i64 (ls.length:Int)) w:=by
  intro ty;have:=hm.1.len (P:=prog) underlying70 ty;rw[Zddd]at this;exact this
 have hmlt:=hm.1.lt;have hplt:p<w.heap.size:=World.block_lt_of_cell? _ _ hc;have hnil:=map_some mb w;clear hr hap hm
 go_enter func58,ntmps58
 go_wp2
 go_loopw [29] (λiv wr=>∃k:Nat,k<=xs.length/\iv = .int .i64 (k:Int)/\wr.cell? { block:=p,off:=0 } =some (.map (some mb))/\LM wr mb (Zcws ls (xs.take k))/\KeepBut w.heap.size mb w wr) (λiv _=>xs.length-(intOf iv).toNat)
 case atStart=>exact⟨0,Nat.zero_le _,rfl,hc,HM.out,KeepBut.refl _ _ _⟩
 case round=>
  obtain⟨k,hk,rfl,hcell,hlm,hkb⟩:=hrel;have HLM:=hid hlm;have HKB:=hid hkb;clear hlm hkb hl
  by_cases hlt:k<xs.length
  ·obtain⟨x,hx⟩:∃x,xs[k]? =some x:=⟨xs[k],List.getElem?_eq_getElem hlt⟩
   obtain⟨b,o,rfl,hx0,hx1⟩:=HR.out k x hx;obtain⟨hb1,hb2⟩:=HAP.out (by intro h0;rw[h0]at hlt;simp at hlt) _ rfl;have hblt:b<w.heap.size:=World.block_lt_of_cell? _ _ hx0;have h0:=HKB.out.cell hx0 (by simp;omega) hb2;have h1:=HKB.out.cell hx1 (by simp;omega) hb2;clear hx0 hx1;have hsz:=HKB.out.size;have hpr:p<wr.heap.size:=Nat.lt_of_lt_of_le hplt hsz;have hmr:mb<wr.heap.size:=HLM.out.1.lt;obtain⟨V0,hV0⟩:∃V,V=(wr.alloc (.cells #[.bool x.1,.string x.2] 24)).drew:=⟨_,rfl⟩;have hbV:Below wr.heap.size wr V0:=by rw[hV0];exact((Below.refl _ _).alloc (Nat.le_refl _) _).drew
   have hbox:V0.heap[wr.heap.size]? =some (.cells #[.bool x.1,.string x.2] 24):=by rw[hV0];exact heap_alloc_new wr _
   obtain⟨ob,hput,hlm2⟩:=(HLM.out.below hbV hmr).put Zdby x;rw[<-Zcwv hx]at hlm2;have hput':(Instr.mapUpdate 70 (.map (some mb)) (.agg #[.bool x.1,.string x.2]) (.agg #[])).run prog V0 = .ok () { V0 with heap:=V0.heap.setIfInBounds mb ob }:=hput;have HS0:Hid (V0.cell? { block:=p,off:=0 } =some (.map (some mb))/\V0.cell? { block:=wr.heap.size,off:=0 } =some (.bool x.1)/\V0.cell? { block:=wr.heap.size,off:=1 } =some (.string x.2)):=by
    show _/\_;exact⟨cell_below hcell hbV hpr,by simp[World.cell?,hbox],by simp[World.cell?,hbox]⟩
   have HS1:Hid (∀q,q≠mb->({ V0 with heap:=V0.heap.setIfInBounds mb ob }:World).heap[q]? =V0.heap[q]?):=by
    show ∀q,_;intro q hq;simp[Array.getElem?_setIfInBounds_ne (Ne.symm hq)]
   have HKB2:Hid (KeepBut w.heap.size mb w { V0 with heap:=V0.heap.setIfInBounds mb ob }):=HKB.out.trans ((Zcxg hbV (Nat.le_refl _)).trans (Zdbr _ mb V0 ob));have HLM2:=hid hlm2;have HP:=hid hput';clear hput hput' hlm2 hbox hbV
   go_wp2_with fail
   refine wp_region_held_drew (S:=λV=>V.cell? { block:=p,off:=0 } =some (.map (some mb))/\V.cell? { block:=wr.heap.size,off:=0 } =some (.bool x.1)/\V.cell? { block:=wr.heap.size,off:=1 } =some (.string x.2)) (by kernel_rfl) ?_ (λhHeld=>?_)
   ·rw[<-hV0];exact HS0.out
   rw[<-hV0];rw[<-hV0]at hHeld;clear hV0;refine tkK 0 ?_;refine tkK 1 ?_;refine tkK 2 ?_;refine tkK 3 ?_
   try simp only[Act.put,sA,sZ,sS]
   refine tkH 4 (v:=?_) ?_ ?_;rotate_left
   ·intro w hSw;obtain⟨p0,p1,p2⟩:=hSw;go_simp;try with_reducible rfl
   try simp only[Act.put,sA,sZ,sS]
   refine tkH 5 (v:=?_) ?_ ?_;rotate_left
   ·intro w hSw;obtain⟨p0,p1,p2⟩:=hSw;go_simp;try with_reducible rfl
   try simp only[Act.put,sA,sZ,sS]
   refine tkK 6 ?_
   try simp only[Act.put,sA,sZ,sS]
   refine rdH [7] ?_;refine rcH (λK hK=>?_) ?_
   ·have hrun:=HP.out;go_simp
    refine hK.out _ _ ?_ (λhHeld=>?_)
    ·try dsimp only
     obtain⟨p0,p1,p2⟩:=HS0.out;exact⟨by rw[World.cell?_of_block (HS1.out _ (Ne.symm hne))];exact p0,by rw[World.cell?_of_block (HS1.out _ (by simp;omega))];exact p1,by rw[World.cell?_of_block (HS1.out _ (by simp;omega))];exact p2⟩
    clear hK K
    try simp only[Act.put,sA,sZ,sS]
    refine wpAnyH_done (by kernel_rfl) ?_ _;go_wp2;obtain⟨p0,_,_⟩:=HS0.out;exact⟨⟨k+1,by omega,by go_num,by rw[World.cell?_of_block (HS1.out _ (Ne.symm hne))];exact p0,HLM2.out,HKB2.out⟩,by simp only[intOf];omega⟩
   exact AllReadyH.nil
  ·have hkn:k=xs.length:=by omega
   subst hkn;rw[List.take_length]at HLM;have hl:∀ty,(Builtin.len_ #[70] ty #[.map (some mb)]).run prog wr = .ok (.int .i64 ((Zcws ls xs).length:Int)) wr:=by
    intro ty;have:=HLM.out.1.len (P:=prog) underlying70 ty;rw[Zddd]at this;exact this
   obtain⟨hg1,hg2⟩:=Zcwu ls xs;go_wp2;go_ret;exact⟨rfl,hcell,HLM.out,HKB.out⟩
theorem map_nil (w:World):(binOp .eql 70 (.map none) (.map none)).run prog w = .ok (.bool true) w:=by
 have key:∀d,(Op.equalIn (d+1) 70 (.map none) (.map none)).run prog w = .ok true w:=by
  intro d;simp[Op.equalIn,run_underlying underlying70,Sem.run_bind]
 have:=key 9999;simp[binOp,Op.equal,Op.maxDepth,this]
theorem Zdcg (p:Nat) (xs:List Lb) (a:Option Addr) (c:Nat) (w:World) (hc:w.heap[p]? =some (.cells #[.map none] 74)) (hr:RowL w a xs) (hap:xs≠[]->∀b,a=some b->b.block≠p)
  (hn:xs.length<=1000000):
  Calls prog 58 #[.pointer (some { block:=p,off:=0 }),.slice a xs.length c] w λe w'=>e = .returned (.int .i64 ((Zcws [] xs).length:Int))/\w'.cell? { block:=p,off:=0 } =some (.map (some w.heap.size))/\LM w' w.heap.size (Zcws [] xs)/\KeepBut p w.heap.size w w':=by
 have HR:=hid hr;have HAP:=hid hap;have hplt:p<w.heap.size:=(Array.getElem?_eq_some_iff.1 hc).1;have hc0:w.cell? { block:=p,off:=0 } =some (.map none):=by simp[World.cell?,hc]
 have hnil:=map_nil w;have hmm:(Instr.makeMap 70 none).run prog w = .ok (.map (some w.heap.size)) (w.alloc (.map #[] 0)):=rfl;have hp1:(w.alloc (.map #[] 0)).heap[p]? =some (.cells #[.map none] 74):=by rw[Below.heap_alloc _ _ _ hplt];exact hc
 have hfz:w.frozen? { block:=p,off:=0 } =false:=by simp[World.frozen?,hc]
 have hne:w.heap.size≠p:=by omega
 obtain⟨W1,hW1⟩:∃W,W=(w.setCell { block:=p,off:=0 } (.map (some w.heap.size))).alloc (.map #[] 0):=⟨_,rfl⟩;have hss:(w.setCell { block:=p,off:=0 } (.map (some w.heap.size))).heap.size=w.heap.size:=by simp[World.setCell]
 have hq0:(w.setCell { block:=p,off:=0 } (.map (some w.heap.size))).cell? { block:=p,off:=0 } =some (.map (some w.heap.size)):=World.cell?_setCell_same' _ _ _ (by rw[hc0];rfl);have hq1:W1.heap[w.heap.size]? =some (.map #[] 0):=by
  have h1:=heap_alloc_new (w.setCell { block:=p,off:=0 } (.map (some w.heap.size))) (.map #[] 0);rw[hss]at h1;rw[hW1];exact h1
 have hcell1:W1.cell? { block:=p,off:=0 } =some (.map (some w.heap.size)):=by
  rw[hW1];exact cell_below hq0 ((Below.refl _ _).alloc (Nat.le_refl _) _) (by rw[hss];exact hplt)
 have hkb1:KeepBut p w.heap.size w W1:=by
  rw[hW1];refine⟨rfl,rfl,rfl,by simp[World.setCell],λk hk h1 _=>?_⟩;rw[Below.heap_alloc _ _ _ (by rw[hss];exact hk)];exact Below.heap_setCell _ _ _ _ (by simpa using h1)
 have HM:=hid (show LM W1 w.heap.size []from⟨⟨#[],0,hq1,rfl,by simp,by simp⟩,List.nodup_nil⟩);have hl1:∀ty,(Builtin.len_ #[70] ty #[.map (some w.heap.size)]).run prog ((w.setCell { block:=p,off:=0 } (.map (some w.heap.size))).alloc (.map #[] 0)) = .ok (.int .i64 0) ((w.setCell { block:=p,off:=0 } (.map (some w.heap.size))).alloc (.map #[] 0)):=by
  intro ty;have:=HM.out.1.len (P:=prog) underlying70 ty;rw[<-hW1];exact this
 have HW1:=hid hW1;clear hW1 hq0 hq1;have hp2:(w.alloc (.map #[] 0)).cell? { block:=p,off:=0 } =some (.map none):=by simp[World.cell?,hp1]
 clear hr hap
 go_enter func58,ntmps58
 go_wp2
 go_loopw [29] (λiv wr=>∃k:Nat,k<=xs.length/\iv = .int .i64 (k:Int)/\wr.cell? { block:=p,off:=0 } =some (.map (some w.heap.size))/\LM wr w.heap.size (Zcws [] (xs.take k))/\KeepBut p w.heap.size w wr) (λiv _=>xs.length-(intOf iv).toNat)
 case atStart=>rw[<-HW1.out];exact⟨0,Nat.zero_le _,rfl,hcell1,HM.out,hkb1⟩
 case round=>
  obtain⟨k,hk,rfl,hcell,hlm,hkb⟩:=hrel;have HLM:=hid hlm;have HKB:=hid hkb;clear hlm hkb hl1
  by_cases hlt:k<xs.length
  ·obtain⟨x,hx⟩:∃x,xs[k]? =some x:=⟨xs[k],List.getElem?_eq_getElem hlt⟩
   obtain⟨b,o,rfl,hx0,hx1⟩:=HR.out k x hx;have hb1:b≠p:=HAP.out (by intro h0;rw[h0]at hlt;simp at hlt) _ rfl;have hblt:b<w.heap.size:=World.block_lt_of_cell? _ _ hx0;have hb2:b≠w.heap.size:=by omega
   have h0:=HKB.out.cell hx0 hb1 hb2;have h1:=HKB.out.cell hx1 hb1 hb2;clear hx0 hx1;have hsz:=HKB.out.size;have hpr:p<wr.heap.size:=Nat.lt_of_lt_of_le hplt hsz;have hmr:w.heap.size<wr.heap.size:=HLM.out.1.lt;obtain⟨V0,hV0⟩:∃V,V=(wr.alloc (.cells #[.bool x.1,.string x.2] 24)).drew:=⟨_,rfl⟩;have hbV:Below wr.heap.size wr V0:=by rw[hV0];exact((Below.refl _ _).alloc (Nat.le_refl _) _).drew
   have hbox:V0.heap[wr.heap.size]? =some (.cells #[.bool x.1,.string x.2] 24):=by rw[hV0];exact heap_alloc_new wr _
   obtain⟨ob,hput,hlm2⟩:=(HLM.out.below hbV hmr).put Zdby x;rw[<-Zcwv hx]at hlm2;have hput':(Instr.mapUpdate 70 (.map (some w.heap.size)) (.agg #[.bool x.1,.string x.2]) (.agg #[])).run prog V0 = .ok () { V0 with heap:=V0.heap.setIfInBounds w.heap.size ob }:=hput;have HS0:Hid (V0.cell? { block:=p,off:=0 } =some (.map (some w.heap.size))/\V0.cell? { block:=wr.heap.size,off:=0 } =some (.bool x.1)/\V0.cell? { block:=wr.heap.size,off:=1 } =some (.string x.2)):=by
    show _/\_;exact⟨cell_below hcell hbV hpr,by simp[World.cell?,hbox],by simp[World.cell?,hbox]⟩
   have HS1:Hid (∀q,q≠w.heap.size->({ V0 with heap:=V0.heap.setIfInBounds w.heap.size ob }:World).heap[q]? =V0.heap[q]?):=by
    show ∀q,_;intro q hq;simp[Array.getElem?_setIfInBounds_ne (Ne.symm hq)]
   have HKB2:Hid (KeepBut p w.heap.size w { V0 with heap:=V0.heap.setIfInBounds w.heap.size ob }):=HKB.out.trans ((Zcxg hbV (Nat.le_refl _)).trans (Zdbr _ w.heap.size V0 ob));have HLM2:=hid hlm2;have HP:=hid hput';clear hput hput' hlm2 hbox hbV
   go_wp2_with fail
   refine wp_region_held_drew (S:=λV=>V.cell? { block:=p,off:=0 } =some (.map (some w.heap.size))/\V.cell? { block:=wr.heap.size,off:=0 } =some (.bool x.1)/\V.cell? { block:=wr.heap.size,off:=1 } =some (.string x.2)) (by kernel_rfl) ?_ (λhHeld=>?_)
   ·rw[<-hV0];exact HS0.out
   rw[<-hV0];rw[<-hV0]at hHeld;clear hV0;refine tkK 0 ?_;refine tkK 1 ?_;refine tkK 2 ?_;refine tkK 3 ?_
   try simp only[Act.put,sA,sZ,sS]
   refine tkH 4 (v:=?_) ?_ ?_;rotate_left
   ·intro w hSw;obtain⟨p0,p1,p2⟩:=hSw;go_simp;try with_reducible rfl
   try simp only[Act.put,sA,sZ,sS]
   refine tkH 5 (v:=?_) ?_ ?_;rotate_left
   ·intro w hSw;obtain⟨p0,p1,p2⟩:=hSw;go_simp;try with_reducible rfl
   try simp only[Act.put,sA,sZ,sS]
   refine tkK 6 ?_
   try simp only[Act.put,sA,sZ,sS]
   refine rdH [7] ?_;refine rcH (λK hK=>?_) ?_
   ·have hrun:=HP.out;go_simp
    refine hK.out _ _ ?_ (λhHeld=>?_)
    ·try dsimp only
     obtain⟨p0,p1,p2⟩:=HS0.out;exact⟨by rw[World.cell?_of_block (HS1.out _ (Ne.symm hne))];exact p0,by rw[World.cell?_of_block (HS1.out _ (by simp;omega))];exact p1,by rw[World.cell?_of_block (HS1.out _ (by simp;omega))];exact p2⟩
    clear hK K
    try simp only[Act.put,sA,sZ,sS]
    refine wpAnyH_done (by kernel_rfl) ?_ _;go_wp2;obtain⟨p0,_,_⟩:=HS0.out;exact⟨⟨k+1,by omega,by go_num,by rw[World.cell?_of_block (HS1.out _ (Ne.symm hne))];exact p0,HLM2.out,HKB2.out⟩,by simp only[intOf];omega⟩
   exact AllReadyH.nil
  ·have hkn:k=xs.length:=by omega
   subst hkn;rw[List.take_length]at HLM;have hl:∀ty,(Builtin.len_ #[70] ty #[.map (some w.heap.size)]).run prog wr = .ok (.int .i64 ((Zcws [] xs).length:Int)) wr:=by
    intro ty;have:=HLM.out.1.len (P:=prog) underlying70 ty;rw[Zddd]at this;exact this
   obtain⟨hg1,hg2⟩:=Zcwu [] xs;go_wp2;go_ret;have hw64:wrap64 (((Zcws [] xs).length:Nat):Int)=((Zcws [] xs).length:Int):=IntWalk.wrap64_in _ (by simp at hg2;omega);refine⟨?_,hcell,HLM.out,HKB.out⟩;exact congrArg (λz=>Ending.returned (Value.int .i64 z)) hw64
theorem Zdci (xs:List Lb) (a:Option Addr) (c:Nat) (w:World) (hr:RowL w a xs) (hn:xs.length<=1000000):
  Calls prog 29 #[.slice a xs.length c] w λe w'=>e = .returned (.pointer (some { block:=w.heap.size,off:=0 }))/\w'.cell? { block:=w.heap.size,off:=0 } =some (.map (some (w.heap.size+1)))/\LM w' (w.heap.size+1) (Zcws [] xs)/\Below w.heap.size w w':=by
 obtain⟨W1,hW1⟩:∃W,W=w.alloc (.cells #[.map none] 74):=⟨_,rfl⟩;have hsz:W1.heap.size=w.heap.size+1:=by rw[hW1];simp
 have hb1:Below w.heap.size w W1:=by rw[hW1];exact(Below.refl _ _).alloc (Nat.le_refl _) _
 have hcell:W1.heap[w.heap.size]? =some (.cells #[.map none] 74):=by rw[hW1];exact heap_alloc_new w _
 have hr1:RowL W1 a xs:=λi x hx=>by
  obtain⟨b,o,h1,h2,h3⟩:=hr i x hx;have hlt:=World.block_lt_of_cell? _ _ h2;exact⟨b,o,h1,cell_below h2 hb1 hlt,cell_below h3 hb1 hlt⟩
 have hap:xs≠[]->∀b,a=some b->b.block≠w.heap.size:=λhne b hb=>by
  obtain⟨x,ys,rfl⟩:=List.exists_cons_of_ne_nil hne;obtain⟨b1,o,h1,h2,_⟩:=hr 0 x rfl;have hlt:=World.block_lt_of_cell? _ _ h2;rw[hb]at h1;rw[Option.some.inj h1];exact Nat.ne_of_lt hlt
 have CA:=hid (Zdcg w.heap.size xs a c W1 hcell hr1 hap hn);rw[hsz]at CA;have HB1:=hid hb1;clear hcell hr1 hap hr hb1
 go_enter func29,ntmps29
 go_wp2_with fail
 rw[<-hW1];refine CA.out.mono ?_;rintro e w2 ⟨rfl,hc2,hm2,hk2⟩;have HM2:=hid hm2;have HK2:=hid hk2;clear hm2 hk2 hW1;go_wp2;go_ret;exact⟨rfl,hc2,HM2.out,HB1.out.trans ⟨HK2.out.os,HK2.out.tape,HK2.out.output,HK2.out.size,λk hk=>HK2.out.block k (by omega) (by omega) (by omega)⟩⟩
end Go.Proofs.YtokogjhcidkckaaGreatDoor
namespace Go.Proofs.YtokogjhcidkckaaGreatDoor
open Go.Lib (hid)
open Go.Proofs.Tryz
theorem Zdec {x y:Lb} {l:List Lb}:y∈addL x l↔y=x∨y∈l:=by
 unfold addL
 cases h:hasL x l with
 | true=>
  have h1:=Zdba.1 h;simp only[if_true];exact⟨.inr,λh2=>h2.elim (λe=>e▸h1) id⟩
 | false=>simp[or_comm]
theorem Zded {y:Lb} {l xs:List Lb}:y∈Zcws l xs↔y∈l∨y∈xs:=by
 unfold Zcws
 induction xs generalizing l with
 | nil=>simp
 | cons x xs ih=>
  rw[List.foldl_cons,ih,Zdec,List.mem_cons];constructor
  ·rintro((h|h)|h)
   ·exact .inr (.inl h)
   ·exact .inl h
   ·exact .inr (.inr h)
  ·rintro(h|h|h)
   ·exact .inl (.inr h)
   ·exact .inl (.inl h)
   ·exact .inr h
theorem Zdfb {x:Lb} {l:List Lb} (h:l.Nodup):(addL x l).Nodup:=by
 unfold addL
 cases h1:hasL x l with
 | true=>simpa using h
 | false=>
  have h2:x∉l:=λhm=>by rw[Zdba.2 hm]at h1;cases h1
  simp only[Bool.false_eq_true,if_false];rw[List.nodup_append];exact⟨h,by simp,λy hy z hz=>by simp at hz;subst hz;exact λe=>h2 (e▸hy)⟩
theorem Zdfc {l xs:List Lb} (h:l.Nodup):(Zcws l xs).Nodup:=by
 unfold Zcws
 induction xs generalizing l with
 | nil=>exact h
 | cons x xs ih=>exact ih (Zdfb h)
abbrev Rising (l:List Lb):Prop:=l.Pairwise λa b=>ltL a b=true
theorem Rising.nodup {l:List Lb} (h:Rising l):l.Nodup:=h.imp fun {a b} h1 e=>by subst e;rw[Zddp]at h1;cases h1
theorem Zdiq {x:Lb} {l:List Lb}:x∈slb l↔x∈l:=(Zdit l).mem_iff
theorem Zdhn {l:List Lb} (h:l.Nodup):Rising (slb l):=by
 have h1:Slb (slb l):=Zdiu l;have h2:(slb l).Nodup:=(Zdit l).nodup_iff.2 h;exact(h1.and h2).imp fun {a b} h3=>Zddq h3.1 h3.2
theorem Zdhk:∀ {a b:List Lb},Rising a->Rising b->(∀x,x∈a↔x∈b)->a=b
 | [],[],_,_,_=>rfl
 | [],y::ys,_,_,h=>absurd ((h y).2 (by simp)) (by simp)
 | x::xs,[],_,_,h=>absurd ((h x).1 (by simp)) (by simp)
 | x::xs,y::ys,ha,hb,h=>by
  have ha':=List.pairwise_cons.1 ha;have hb':=List.pairwise_cons.1 hb;have hxy:x=y:=by
   rcases List.mem_cons.1 ((h x).1 (by simp))with e|h1
   ·exact e
   ·rcases List.mem_cons.1 ((h y).2 (by simp))with e|h2
    ·exact e.symm
    ·have k1:=hb'.1 x h1
     have k2:=ha'.1 y h2;have:=Zddr k1 k2;rw[Zddp]at this;cases this
  subst hxy;rw[Zdhk ha'.2 hb'.2 λz=>?_];constructor
  ·intro hz
   rcases List.mem_cons.1 ((h z).1 (by simp[hz]))with e|h1
   ·subst e;have:=ha'.1 _ hz;rw[Zddp]at this;cases this
   ·exact h1
  ·intro hz
   rcases List.mem_cons.1 ((h z).2 (by simp[hz]))with e|h1
   ·subst e;have:=hb'.1 _ hz;rw[Zddp]at this;cases this
   ·exact h1
def insL (x:Lb):List Lb->List Lb
 | []=>[x]
 | y::ys=>if ltL y x then y::insL x ys else if y=x then y::ys else x::y::ys
theorem Zdee {x z:Lb}:∀ {l:List Lb},z∈insL x l↔z=x∨z∈l
 | []=>by simp[insL]
 | y::ys=>by
  unfold insL;split
  ·rw[List.mem_cons,Zdee,List.mem_cons]
   constructor
   ·rintro(h|h|h)
    ·exact .inr (.inl h)
    ·exact .inl h
    ·exact .inr (.inr h)
   ·rintro(h|h|h)
    ·exact .inr (.inl h)
    ·exact .inl h
    ·exact .inr (.inr h)
  ·split
   ·rename_i h1
    subst h1;simp
   ·simp
theorem Zdhl {x:Lb}:∀ {l:List Lb},Rising l->Rising (insL x l)
 | [],_=>List.pairwise_singleton _ _
 | y::ys,h=>by
  have h':=List.pairwise_cons.1 h;unfold insL;split
  ·rename_i h1
   refine List.pairwise_cons.2 ⟨λz hz=>?_,Zdhl h'.2⟩
   rcases Zdee.1 hz with rfl|hz
   ·exact h1
   ·exact h'.1 z hz
  ·rename_i h1
   split
   ·exact h
   ·rename_i h2
    have hxy:ltL x y=true:=Zddq (by unfold leL;simpa using h1) (λe=>h2 e.symm);refine List.pairwise_cons.2 ⟨λz hz=>?_,h⟩
    rcases List.mem_cons.1 hz with rfl|hz
    ·exact hxy
    ·exact Zddr hxy (h'.1 z hz)
def setL (xs:List Lb):List Lb:=xs.foldl (λl x=>insL x l) []
theorem Zdif (xs:List Lb):∀l:List Lb,Rising l->Rising (xs.foldl (λl x=>insL x l) l)/\∀z,z∈xs.foldl (λl x=>insL x l) l↔z∈l∨z∈xs:=by
 induction xs with
 | nil=>exact λl h=>⟨h,λz=>by simp⟩
 | cons x xs ih=>
  intro l h;obtain⟨h1,h2⟩:=ih (insL x l) (Zdhl h);refine⟨h1,λz=>?_⟩;rw[List.foldl_cons,h2,Zdee,List.mem_cons];constructor
  ·rintro((h|h)|h)
   ·exact .inr (.inl h)
   ·exact .inl h
   ·exact .inr (.inr h)
  ·rintro(h|h|h)
   ·exact .inl (.inr h)
   ·exact .inl (.inl h)
   ·exact .inr h
theorem Zdhm (xs:List Lb):Rising (setL xs):=(Zdif xs [] List.Pairwise.nil).1
theorem Zdef {xs:List Lb} {z:Lb}:z∈setL xs↔z∈xs:=by
 have h:=(Zdif xs [] List.Pairwise.nil).2 z;unfold setL;rw[h];simp
theorem Zdio (xs:List Lb):slb (Zcws [] xs)=setL xs:=
 Zdhk (Zdhn (Zdfc List.nodup_nil)) (Zdhm xs) λz=>by rw[Zdiq,Zded,Zdef];simp
open Go.RowKit Go.Shelf
theorem Zdcr {xs:List Lb} {i:Nat} {x:Lb} (h:xs[i]? =some x):(lcs xs)[i*2]? =some (.bool x.1)/\(lcs xs)[i*2+1]? =some (.string x.2):=by
 induction xs generalizing i with
 | nil=>simp at h
 | cons y ys ih=>
  rw[Zdcq]
  cases i with
  | zero=>
   simp at h;subst h;exact⟨rfl,rfl⟩
  | succ i=>
   have h1:=ih (i:=i) (by simpa using h);rw[show(i+1)*2=i*2+1+1 by omega];simpa using h1
theorem Zdhp {w:World} {base n:Nat} {T:TypeId} {v:Value} {xs:List Lb} (h:w.ownsRow base T 2 v n (lcs xs)):
  ∃a c,v = .slice a xs.length c/\RowL w a xs/\∀b,a=some b->base<=b.block/\b.block<w.heap.size:=by
 obtain⟨hl,h⟩:=h;have hn:n=xs.length:=by rw[Zdcs]at hl;omega
 subst hn
 rcases h with⟨rfl,h0⟩|⟨g,cap,cur,rfl,h1,h2,_,_,_,h3⟩
 ·refine⟨none,0,by rw[h0],λi x hx=>?_,λb hb=>by cases hb⟩
  have:xs = []:=List.length_eq_zero_iff.1 h0;subst this;simp at hx
 ·refine⟨some { block:=g,off:=0 },cap,rfl,λi x hx=>⟨g,0,rfl,?_,?_⟩,λb hb=>?_⟩
  ·have:=(Zdcr hx).1
   rw[<-h3,List.getElem?_take]at this;split at this
   ·simpa[World.cell?,h2]using this
   ·cases this
  ·have:=(Zdcr hx).2
   rw[<-h3,List.getElem?_take]at this;split at this
   ·simpa[World.cell?,h2]using this
   ·cases this
  ·cases hb
   exact⟨h1,(Array.getElem?_eq_some_iff.1 h2).1⟩
theorem RowL.below {w w':World} {a:Option Addr} {xs:List Lb} {B:Nat} (h:RowL w a xs) (hb:Below B w w') (hB:w.heap.size<=B):RowL w' a xs:=λi x hx=>by
 obtain⟨b,o,h1,h2,h3⟩:=h i x hx;have hlt:=Nat.lt_of_lt_of_le (World.block_lt_of_cell? _ _ h2) hB;exact⟨b,o,h1,cell_below h2 hb hlt,cell_below h3 hb hlt⟩
def SetM (w:World) (p:Nat) (ls:List Lb):Prop:=∃b,w.cell? { block:=p,off:=0 } =some (.map (some b))/\b≠p/\LM w b ls
theorem SetM.at {w:World} {p:Nat} {ls:List Lb} (h:SetM w p ls):SetAt w p ls:=by
 obtain⟨b,h1,h2,h3⟩:=h;exact⟨some b,h1,.inr ⟨b,rfl,h2,h3⟩⟩
theorem SetM.lt {w:World} {p:Nat} {ls:List Lb} (h:SetM w p ls):p<w.heap.size:=h.at.lt
theorem SetM.below {w w':World} {p B:Nat} {ls:List Lb} (h:SetM w p ls) (hb:Below B w w') (hB:w.heap.size<=B):SetM w' p ls:=by
 have hlt:=h.lt;obtain⟨b,hc,h2,h3⟩:=h;exact⟨b,cell_below hc hb (Nat.lt_of_lt_of_le hlt hB),h2,h3.below hb (Nat.lt_of_lt_of_le h3.1.lt hB)⟩
set_option maxHeartbeats 4000000
set_option maxRecDepth 100000
theorem Zdch (p:Nat) (ls:List Lb) (w:World) (hs:SetM w p ls) (hn:ls.length<=1000000):
  Calls prog 37 #[.pointer (some { block:=p,off:=0 })] w λe w'=>∃v,e = .returned v/\w'.ownsRow w.heap.size 24 2 v (slb ls).length (lcs (slb ls))/\Below w.heap.size w w':=by
 obtain⟨b,hc,_,hm⟩:=hs;refine(Zcxe { block:=p,off:=0 } b ls w hc hm.1 hn).mono ?_;rintro e w' ⟨g,cap,rfl,ho,hb⟩;exact⟨_,rfl,by rw[(Zdit ls).length_eq];exact ho,hb⟩
def Zddk (xs:List Lb):List (List Value):=xs.map lc
theorem Zddm (xs:List Lb):(Zddk xs).length=xs.length:=List.length_map _
theorem Zddo (xs:List Lb):∀r∈Zddk xs,r.length=2:=by
 intro r hr;obtain⟨x,_,rfl⟩:=List.mem_map.1 hr;rfl
theorem Zddn (xs:List Lb):∀r∈Zddk xs,∀u∈r,u.oneCell'=true:=by
 intro r hr u hu;obtain⟨x,_,rfl⟩:=List.mem_map.1 hr;exact Zdcm x u hu
theorem Zddl (xs ys:List Lb):Zddk xs++Zddk ys=Zddk (xs++ys):=(List.map_append ..).symm
theorem Zcxj (x y:Lb) (w:World):(binOp .eql 24 (.agg #[.bool x.1,.string x.2]) (.agg #[.bool y.1,.string y.2])).run prog w = .ok (.bool (decide (x=y))) w:=by
 have:=Zcyl x y w;unfold lv at this;simp[binOp,this]
set_option maxHeartbeats 4000000
set_option maxRecDepth 100000
def Zczd (l:List Lb) (x:Lb):Int:=match l.findIdx? λy=>decide (y=x)with
 | some i=>(i:Int)
 | none=> -1
theorem Zcze {l:List Lb} {x:Lb} {k:Nat} (h:∀j,j<k->l[j]? ≠some x) (hk:l[k]? =some x):Zczd l x=(k:Int):=by
 have e:(l.findIdx? λy=>decide (y=x))=some k:=by
  obtain⟨hlt,hx⟩:=List.getElem?_eq_some_iff.1 hk;rw[List.findIdx?_eq_some_iff_getElem];refine⟨hlt,by simp[hx],λj hj=>?_⟩;have:=h j hj;rw[List.getElem?_eq_getElem (by omega)]at this;simp only[decide_eq_true_eq];exact λe=>this (by rw[e])
 unfold Zczd;rw[e]
theorem Zczg {l:List Lb} {x:Lb} (h:∀j,j<l.length->l[j]? ≠some x):Zczd l x = -1:=by
 have e:(l.findIdx? λy=>decide (y=x))=none:=by
  rw[List.findIdx?_eq_none_iff];intro y hy;obtain⟨j,hj,rfl⟩:=List.getElem_of_mem hy;have:=h j hj;rw[List.getElem?_eq_getElem hj]at this;simp only[decide_eq_false_iff_not];exact λe=>this (by rw[e])
 unfold Zczd;rw[e]
theorem Zczf {l:List Lb} {x:Lb}:(0<=Zczd l x)↔x∈l:=by
 unfold Zczd
 cases e:(l.findIdx? λy=>decide (y=x))with
 | none=>
  rw[List.findIdx?_eq_none_iff]at e;simp only;refine⟨λh=>absurd h (by omega),λh=>?_⟩;have:=e x h;simp at this
 | some i=>
  rw[List.findIdx?_eq_some_iff_getElem]at e;obtain⟨h1,h2,_⟩:=e;simp only[decide_eq_true_eq]at h2;simp only;exact⟨λ_=>by rw[<-h2];exact List.getElem_mem h1,λ_=>by omega⟩
theorem Zdgi (xs:List Lb) (x:Lb) (a:Option Addr) (c:Nat) (w:World) (ha:RowL w a xs) (hn:xs.length<=1000000):
  Calls prog 25 #[.slice a xs.length c,lv x] w λe w'=>e = .returned (.int .i64 (Zczd xs x))/\Below w.heap.size w w':=by
 have HA:Hid (∀W,Below w.heap.size w W->RowL W a xs):=hid λW hW=>ha.below hW (Nat.le_refl _)
 clear ha;unfold lv
 go_enter func25,ntmps25
 go_wp2;obtain⟨W0,hW0⟩:∃V,V=w.alloc (.cells #[.bool x.1,.string x.2] 24):=⟨_,rfl⟩;have hb0:Below w.heap.size w W0:=by rw[hW0];exact(Below.refl _ _).alloc (Nat.le_refl _) _
 have hc0:W0.heap[w.heap.size]? =some (.cells #[.bool x.1,.string x.2] 24):=by rw[hW0];exact heap_alloc_new w _
 have HW0:Hid (W0.heap.size=w.heap.size+1):=by show _=_;rw[hW0];simp
 rw[<-hW0];have HB0:=hid hb0;have HBX:Hid (∀W,Below W0.heap.size W0 W->W.cell? { block:=w.heap.size,off:=0 } =some (.bool x.1)/\W.cell? { block:=w.heap.size,off:=1 } =some (.string x.2)):=by
  show ∀W,_;intro W hW;have h:=(hW.block w.heap.size (by rw[HW0.out];omega)).trans hc0;simp[World.cell?,h]
 clear hW0 hb0 hc0
 go_loopw [5] (λiv wr=>∃k:Nat,k<=xs.length/\iv = .int .i64 (k:Int)/\(∀j,j<k->xs[j]? ≠some x)/\Below W0.heap.size W0 wr) (λiv _=>xs.length-(intOf iv).toNat)
 case atStart=>exact⟨0,Nat.zero_le _,rfl,by intro j hj;omega,Below.refl _ _⟩
 case round=>
  obtain⟨k,hk,rfl,he,hbw⟩:=hrel;have HE:=hid he;have HBW:=hid hbw;have HBF:=hid (HB0.out.trans (hbw.mono HB0.out.size));clear he hbw
  by_cases hlt:k<xs.length
  ·obtain⟨y,hy⟩:∃y,xs[k]? =some y:=⟨xs[k],List.getElem?_eq_getElem hlt⟩
   have hi:(k:Int)<(xs.length:Int):=by omega
   have hk0:(0:Int)<=(k:Int):=by omega
   have h1:=HA.out wr HBF.out k y hy;obtain⟨p,o,hp,_,_⟩:=h1;subst hp;have HY:=hid hy;have hne:=λw=>Zcxj y x w
   obtain⟨t,ht⟩:∃t,decide (y=x)=t:=⟨_,rfl⟩;rw[ht]at hne;have HT:=hid ht;clear hy ht
   go_wp2_with fail
   refine wp_region_held_drew (S:=λV=>V.cell? { block:=p,off:=o+k*2 } =some (.bool y.1)/\V.cell? { block:=p,off:=o+k*2+1 } =some (.string y.2)/\V.cell? { block:=w.heap.size,off:=0 } =some (.bool x.1)/\V.cell? { block:=w.heap.size,off:=1 } =some (.string x.2)) (by kernel_rfl) ?_ (λhHeld=>?_)
   ·obtain⟨p1,o1,e1,c0,c1⟩:=HA.out _ HBF.out.drew k y HY.out;obtain⟨c2,c3⟩:=HBX.out _ HBW.out.drew;cases e1;exact⟨c0,c1,c2,c3⟩
   refine tkK 0 ?_;refine tkK 1 ?_;refine tkK 2 ?_
   try simp only[Act.put,sA,sZ,sS]
   refine tkH 3 (v:=?_) ?_ ?_;rotate_left
   ·intro w hSw;obtain⟨c0,c1,c2,c3⟩:=hSw;go_simp;try with_reducible rfl
   try simp only[Act.put,sA,sZ,sS]
   refine tkH 4 (v:=?_) ?_ ?_;rotate_left
   ·intro w hSw;obtain⟨c0,c1,c2,c3⟩:=hSw;go_simp;try with_reducible rfl
   try simp only[Act.put,sA,sZ,sS]
   refine tkK 5 ?_
   try simp only[Act.put,sA,sZ,sS]
   refine wpAnyH_done (by kernel_rfl) ?_ _
   cases t
   ·have HK:Hid (∀j,j<k+1->xs[j]? ≠some x):=by
     show ∀j,_;intro j hj
     rcases Nat.lt_or_ge j k with h|h
     ·exact HE.out j h
     ·obtain rfl:j=k:=by omega
      rw[HY.out];intro e
      cases e
      have:=HT.out;simp at this
    go_wp2;go_roundw
    case rel=>exact⟨k+1,by omega,by go_num,HK.out,HBW.out.drew⟩
    case measure=>simp only[intOf];omega
   ·have HK:Hid (Zczd xs x=(k:Int)):=by
     show _=_;have e:y=x:=by have:=HT.out;simpa using this
     exact Zcze HE.out (by rw[HY.out,e])
    go_wp2;go_ret;rw[HK.out];exact⟨rfl,HBF.out.drew⟩
  ·obtain rfl:k=xs.length:=by omega
   have HK:Hid (Zczd xs x = -1):=hid (Zczg HE.out);go_wp2;go_ret;rw[HK.out];exact⟨rfl,HBF.out⟩
abbrev OwnL (B:Nat) (w:World) (v:Value) (xs:List Lb):Prop:=w.ownsRow B 24 2 v xs.length (lcs xs)
theorem Zdfs (B:Nat) (w:World):OwnL B w (.slice none 0 0) []:=World.ownsRow_nil _ _ _ _
theorem Zdfq {B:Nat} {w w':World} {v:Value} {xs:List Lb} (h:OwnL B w v xs) (hb:Below w.heap.size w w'):OwnL B w' v xs:=World.ownsRow.kept (row:=none) h ⟨hb.os,hb.tape,hb.output,hb.size,λk hk _=>hb.block k hk⟩ (by cases Value.ownBlock _<;>simp)
theorem Zdfu {B:Nat} {w:World} {v:Value} {xs:List Lb} (h:OwnL B w v xs):∃a c,v = .slice a xs.length c/\xs.length<=c/\c<=maxLen/\RowL w a xs/\∀b,a=some b->B<=b.block/\b.block<w.heap.size:=by
 obtain⟨a,c,rfl,hr,ha⟩:=Zdhp h;obtain⟨a',c',q,_,h1,h2⟩:=Zbea h
 cases q
 exact⟨a,c,rfl,h1,h2,hr,ha⟩
theorem Zdhq {w:World} {g:Nat} {x:Lb} {t:TypeId} (h:w.heap[g]? =some (.cells #[.bool x.1,.string x.2] t)):IsRow w (.slice (some ⟨g,0,none⟩) 1 1) 2 (Zddk [x]):=by
 refine Zty (Array.getElem?_eq_some_iff.1 h).1 λi u hu=>?_
 match i,hu with
 | 0,hu=>cases hu;simp[World.cell?,h]
 | 1,hu=>cases hu;simp[World.cell?,h]
set_option maxHeartbeats 8000000
set_option maxRecDepth 100000
def BoxL (w:World) (g:Nat) (x:Lb):Prop:=w.heap[g]? =some (.cells #[.bool x.1,.string x.2] 24)
theorem BoxL.lt {w:World} {g:Nat} {x:Lb} (h:BoxL w g x):g<w.heap.size:=(Array.getElem?_eq_some_iff.1 h).1
theorem BoxL.below {w w':World} {g B:Nat} {x:Lb} (h:BoxL w g x) (hb:Below B w w') (hB:w.heap.size<=B):BoxL w' g x:=(hb.block g (Nat.lt_of_lt_of_le h.lt hB)).trans h
theorem BoxL.cells {w:World} {g:Nat} {x:Lb} (h:BoxL w g x):w.cell? { block:=g,off:=0 } =some (.bool x.1)/\w.cell? { block:=g,off:=1 } =some (.string x.2):=by
 unfold BoxL at h;simp[World.cell?,h]
def SetN (w:World) (p:Nat) (ls:List Lb):Prop:=w.cell? { block:=p,off:=0 } =some (.map (some (p+1)))/\LM w (p+1) ls
theorem SetN.set {w:World} {p:Nat} {ls:List Lb} (h:SetN w p ls):SetM w p ls:=⟨p+1,h.1,by omega,h.2⟩
theorem SetN.lt {w:World} {p:Nat} {ls:List Lb} (h:SetN w p ls):p+1<w.heap.size:=h.2.1.lt
theorem SetN.below {w w':World} {p B:Nat} {ls:List Lb} (h:SetN w p ls) (hb:Below B w w') (hB:w.heap.size<=B):SetN w' p ls:=by
 have:=h.lt;exact⟨cell_below h.1 hb (by omega),h.2.below hb (by omega)⟩
section
variable {w w':World} {m:Nat}
theorem KeepBut.grown {q:Nat} (h:KeepBut q m w w') (hq:w.heap.size<=q):w.grownBy w' (some m):=⟨h.os,h.tape,h.output,h.size,λk hk hne=>h.block k hk (by omega) (λe=>hne (by rw[e]))⟩
theorem BoxL.grown {g:Nat} {x:Lb} (h:BoxL w g x) (hg:w.grownBy w' (some m)) (hne:g≠m):BoxL w' g x:=(hg.block g h.lt (by simpa using hne)).trans h
theorem SetN.grown {p:Nat} {ls:List Lb} (h:SetN w p ls) (hg:w.grownBy w' (some m)) (h1:p≠m) (h2:p+1≠m):SetN w' p ls:=by
 have hl:=h.lt;refine⟨?_,h.2.1.heap (hg.block _ hl (by simpa using h2)),h.2.2⟩;rw[World.cell?_of_block (hg.block p (by omega) (by simpa using h1))];exact h.1
theorem RowL.grown {a:Option Addr} {xs:List Lb} (h:RowL w a xs) (hg:w.grownBy w' (some m)) (ha:∀b,a=some b->b.block≠m):RowL w' a xs:=λi x hx=>by
 obtain⟨b,o,h1,h2,h3⟩:=h i x hx;have hlt:=World.block_lt_of_cell? _ _ h2;have hb:=hg.block b hlt (by simpa using ha _ h1);exact⟨b,o,h1,by rw[World.cell?_of_block hb];exact h2,by rw[World.cell?_of_block hb];exact h3⟩
theorem Zdfr {B:Nat} {v:Value} {xs:List Lb} (h:OwnL B w v xs) (hg:w.grownBy w' (some m)) (hB:m<B):OwnL B w' v xs:=World.ownsRow.kept h hg (by
 cases e:v.ownBlock with
 | none=>exact .inl rfl
 | some b=>
  have:=(World.ownsRow.lt h b e).1;right;intro e2
  cases e2
  omega)
end
theorem Zdib {w:World} {ty:TypeId} {B:Nat} {v v2:Value} {xs ys:List Lb} (hown:OwnL B w v xs) (hI:IsRow w v2 2 (Zddk ys)) (b1:xs.length+ys.length<=1000000000) (hB:B<=w.heap.size):
  ∃v' w',(Builtin.append_ #[35,35] ty #[v,v2]).run prog w = .ok v' w'/\OwnL B w' v' (xs++ys)/\w.grownBy w' v.ownBlock/\(∀b,v'.ownBlock=some b->v.ownBlock=some b∨w.heap.size<=b):=by
 obtain⟨i0,hi,hz0,hz1,hz2⟩:=info_parts Zdbm;have hown':w.ownsRow B 24 2 v (Zddk xs).length (Zddk xs).flatten:=by rw[Zddm];exact hown
 have hb2:((Zddk xs).length+(Zddk ys).length)*24<=140737488355328:=by rw[Zddm,Zddm];exact Nat.le_trans (Nat.mul_le_mul_right _ b1) (by decide)
 obtain⟨v',w',hr,h1,h2,h3⟩:=Zbke (P:=prog) 35 ty 24 i0 (.agg #[.bool false,.string ⟨#[]⟩]) 2 24 underlying35 hi hz0 hz1 hz2 rfl (by decide) hown' hI (Zddo ys) (Zddn ys) (by rw[Zddm,Zddm];unfold maxLen;omega) hb2 hB;rw[Zddl,Zddm]at h1;exact⟨v',w',hr,h1,h2,h3⟩
theorem Zdjx {P:Program} {w:World} {ops:Array Oper} {rest:List Oper} {o:Oper} {a:Act} {Q:Exit->Act->World->Prop} (hg:Region.wanted o (yielded ops a.tmps)=true) (s x:Operand) (t:TypeId)
  (ho:o.op = .call { callee:= .builtin .append,args:=#[s,x],argTypes:=#[t,t] }) {v0 vx v':Value} {w':World} (hs:a.eval s=v0) (hx:a.eval x=vx)
  (hr:(Builtin.append_ #[t,t] o.type #[v0,vx]).run P w = .ok v' w') (h:wpList P ops Q rest (a.put o.dst v') w'):wpList P ops Q (o::rest) a w:=by
 refine wpList_step λK hK=>?_
 rw[if_pos hg];unfold Oper.wp execOp;simp only[ho,resolve,invoke,builtin,Sem.run_bind,Sem.run_pure,Result.andThen_ok,List.map_toArray,List.map_cons,List.map_nil,hs,hx,hr];exact hK _ _ h
end Go.Proofs.YtokogjhcidkckaaGreatDoor
namespace Go.Proofs.YtokogjhcidkckaaGreatDoor
open Go.Lib (hid)
open Go.Proofs.Tryz
open Go.RowKit Go.Shelf
def Zcyo (xs:List ByteArray):List Lb:=xs.map λx=>(false,x)
theorem Zcyp (xs:List ByteArray):(Zcyo xs).length=xs.length:=List.length_map _
theorem Zcyr {xs:List ByteArray} {k:Nat} {x:ByteArray} (h:xs[k]? =some x):Zcyo (xs.take (k+1))=Zcyo (xs.take k) ++ [(false,x)]:=by
 unfold Zcyo;rw[List.take_add_one,h,List.map_append];rfl
set_option maxHeartbeats 4000000
set_option maxRecDepth 100000
theorem Zdhw (s:ByteArray) (w:World):Calls prog 59 #[.string s] w λe w'=>e = .returned (.agg #[.bool true,.string s])/\Below w.heap.size w w':=by
 go_enter func59,ntmps59
 go_wp2;refine bodyPost_ret (Zbhl rfl _ _ w.heap.size _ _ _ _ rfl (alloc_at w _) underlying24 rfl (by kernel_rfl)) rfl ?_;exact⟨rfl,(Below.refl _ _).alloc (Nat.le_refl _) _⟩
theorem Zcyn (v:Value) (xs:List ByteArray) (w:World) (h:IsStrs w v xs) (hn:xs.length<=1000000):
  Calls prog 60 #[v] w λe w'=>∃v',e = .returned v'/\OwnL w.heap.size w' v' (Zcyo xs)/\Below w.heap.size w w':=by
 obtain⟨a,c,rfl,_,_,hcell⟩:=h;have HC:Hid (∀(k:Nat) x,xs[k]? =some x->∃b o,a=some ⟨b,o,none⟩/\∀w',Below w.heap.size w w'->w'.cell? ⟨b,o+k,none⟩=some (.string x)):=by
  show ∀(k:Nat) x,_;intro k x hx;obtain⟨b,o,e,hb,hc⟩:=hcell (by rintro rfl;simp at hx);exact⟨b,o,e,λw' hw=>(hw.cell (p:=⟨b,o+k,none⟩) hb).trans (hc k x hx)⟩
 have hmk:=Zddt xs.length hn w;obtain⟨oz,hoz⟩:∃oz,oz=Obj.cells (madeCells #[.bool false,.string ⟨#[]⟩] (xs.length*2)) 24:=⟨_,rfl⟩;rw[<-hoz]at hmk;have hown0:OwnL w.heap.size (w.alloc oz) (.slice (some ⟨w.heap.size,0,none⟩) 0 xs.length) []:=by
  refine⟨rfl,.inr ⟨w.heap.size,xs.length,madeCells #[.bool false,.string ⟨#[]⟩] (xs.length*2),rfl,Nat.le_refl _,by rw[hoz];exact(MapKept.heap_alloc w _).1,Nat.zero_le _,by unfold maxLen;omega,by simp[madeCells],by simp[lcs]⟩⟩
 have HO0:=hid hown0;have HB0:=hid ((Below.refl w.heap.size w).alloc (Nat.le_refl _) oz);clear hcell hown0 hoz
 go_enter func60,ntmps60
 go_wp2
 go_loopw [3,11] (λov iv wr=>∃k:Nat,k<=xs.length/\iv = .int .i64 (k:Int)/\OwnL w.heap.size wr ov (Zcyo (xs.take k))/\Below w.heap.size w wr) (λ_ iv _=>xs.length-(intOf iv).toNat)
 case atStart=>exact⟨0,Nat.zero_le _,rfl,HO0.out,HB0.out⟩
 case round=>
  obtain⟨k,hk,rfl,hown,hbw⟩:=hrel;have HOW:=hid hown;have HBW:=hid hbw;clear hown hbw
  by_cases hlt:k<xs.length
  ·obtain⟨x,hx⟩:∃x,xs[k]? =some x:=⟨xs[k],List.getElem?_eq_getElem hlt⟩
   have hi:(k:Int)<(xs.length:Int):=by omega
   have hk0:(0:Int)<=(k:Int):=by omega
   obtain⟨b,o,hp,hc⟩:=HC.out k x hx;subst hp;have hcx:=hc wr HBW.out;have HNX:=hid (Zcyr hx);have hll:(Zcyo (xs.take k)).length<=xs.length:=by rw[Zcyp,List.length_take];omega
   obtain⟨V1,hV1⟩:∃V,V=wr.alloc (.cells #[.bool false,.string x] 24):=⟨_,rfl⟩;have hbV0:Below wr.heap.size wr V1:=by rw[hV1];exact(Below.refl _ _).alloc (Nat.le_refl _) _
   have hbV:Below w.heap.size w V1:=by rw[hV1];exact HBW.out.alloc HBW.out.size _
   have hz:V1.heap[wr.heap.size]? =some (.cells #[.bool ((false,x):Lb).1,.string ((false,x):Lb).2] 24):=by rw[hV1];exact alloc_at wr _
   obtain⟨v4,V4,hr4,ho4,hg4,_⟩:=Zdib (ty:=35) (ys:=[(false,x)]) (Zdfq HOW.out hbV0) (Zdhq hz) (by simp only[List.length_cons,List.length_nil];omega) hbV.size;have hb4:=hbV.grown hg4 hbV.size (λb e=>(World.ownsRow.lt HOW.out b e).1);rw[<-HNX.out]at ho4;have HO4:=hid ho4;have HB4:=hid hb4;have HR4:=hid hr4;clear ho4 hb4 hg4 hz hbV hbV0 hr4 hc hx
   go_wp2_with (at_builtin;rw[<-hV1];refine Zdjx (by rfl) _ _ _ rfl rfl rfl HR4.out ?_)
   go_wp2;go_roundw
   case rel=>exact⟨k+1,by omega,by go_num,HO4.out,HB4.out⟩
   case measure=>simp only[intOf];omega
  ·obtain rfl:k=xs.length:=by omega
   have hi:¬(xs.length:Int)<(xs.length:Int):=by omega
   rw[List.take_length]at HOW;go_wp2;go_ret;exact⟨_,rfl,HOW.out,HBW.out⟩
theorem Zcxd (ls:List Lb) (a:Option Addr) (c:Nat) (w:World) (hr:RowL w a ls) (hn:ls.length<=1000):
  Calls prog 64 #[.slice a ls.length c] w λe w'=>∃v',e = .returned v'/\OwnL w.heap.size w' v' (setL ls)/\Below w.heap.size w w':=by
 have CN:=hid (Zdci ls a c w hr (by omega));have hl:=(Zcwu [] ls).2;simp only[List.length_nil,Nat.zero_add]at hl;have HL:=hid hl;clear hr hl
 go_enter func64,ntmps64
 go_wp2_with fail
 refine CN.out.mono ?_;rintro e w1 ⟨rfl,hc,hm,hb⟩;have CA:=Zdch w.heap.size (Zcws [] ls) w1 ⟨w.heap.size+1,hc,by omega,hm⟩ (by have:=HL.out;omega);rw[Zdio]at CA;have HCA:=hid CA;have HB:=hid hb;clear CA hc hm hb
 go_wp2_with fail
 refine HCA.out.mono ?_;rintro e w2 ⟨v,rfl,ho,hb2⟩;have HO:=hid (Zbdt ho HB.out.size);have HB2:=hid (HB.out.trans (hb2.mono HB.out.size));clear ho hb2;go_wp2;go_ret;exact⟨_,rfl,HO.out,HB2.out⟩
end Go.Proofs.YtokogjhcidkckaaGreatDoor
