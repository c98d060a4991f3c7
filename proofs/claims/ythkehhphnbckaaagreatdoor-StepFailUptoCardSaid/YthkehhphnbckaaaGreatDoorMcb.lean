import Derived.Test.YthkehhphnbckaaaGreatDoorMbo
import Derived.Test.YthkehhphnbckaaaGreatDoorMbm
namespace Go.Proofs.YthkehhphnbckaaaGreatDoor
open Go.RowKit Go.Shelf
def Zbuy (x:StepS) (w:World) (e:Ending) (w':World):Prop:=∃b1 m1 b2 m2,e = .returned (.agg (Zbny (cutS x) b1 b2 m1 m2))∧StrsA (fun b=>b<w.heap.size) w' (.slice b1 (cutS x).args.length m1) (cutS x).args∧StrsA (fun b=>b<w.heap.size) w' (.slice b2 (cutS x).lits.length m2) (cutS x).lits∧Below w.heap.size w w'
theorem Zbwh (a b c d e:Value) (w:World):Sem.run Tryz.prog (Instr.field 33 (.agg #[a,b,c,d,e]) 4) w = .ok e w:=by
 unfold Instr.field;simp[go_sem,part,asAgg]
set_option maxHeartbeats 8000000
set_option maxRecDepth 100000
theorem Zbxx (x:StepS) (a1 a2:Option Addr) (c1 c2:Nat) (w:World) (h1:IsStrs w (.slice a1 x.args.length c1) x.args) (h2:IsStrs w (.slice a2 x.lits.length c2) x.lits) (hs:SmallS x 1048576):
  Calls Tryz.prog 18 #[.agg (Zbny x a1 a2 c1 c2)] w (Zbuy x w):=by
 obtain⟨W1,hW1⟩:∃W1,(w.alloc (.cells (Zbny x a1 a2 c1 c2) 39)).alloc (.cells #[.string ⟨#[]⟩,.int .i64 0,.slice none 0 0,.slice none 0 0,.int .i64 0] 39)=W1:=⟨_,rfl⟩
 have hb1:Below w.heap.size w W1:=by rw[←hW1];exact((Below.refl _ _).alloc (Nat.le_refl _) _).alloc (by simp) _
 have hs1:W1.heap.size=w.heap.size+2:=by rw[←hW1];simp
 have hx1:W1.heap[w.heap.size]? =some (.cells (Zbny x a1 a2 c1 c2) 39):=by rw[←hW1,Below.heap_alloc _ _ _ (by simp)];exact alloc_at w _
 have hx2:W1.heap[w.heap.size+1]? =some (.cells #[.string ⟨#[]⟩,.int .i64 0,.slice none 0 0,.slice none 0 0,.int .i64 0] 39):=by
  rw[←hW1]
  have:=alloc_at (w.alloc (.cells (Zbny x a1 a2 c1 c2) 39)) (.cells #[.string ⟨#[]⟩,.int .i64 0,.slice none 0 0,.slice none 0 0,.int .i64 0] 39)
  simpa using this
 obtain⟨W2,hW2⟩:∃W2,W1.alloc (.cells (Zbny x a1 a2 c1 c2) 39)=W2:=⟨_,rfl⟩
 have hb2:Below W1.heap.size W1 W2:=by rw[←hW2];exact(Below.refl _ _).alloc (Nat.le_refl _) _
 have hbw2:Below w.heap.size w W2:=hb1.trans (hb2.mono hb1.size)
 have hr:RuleI W2 [.string ⟨#[]⟩,.slice none 0 0,.slice none 0 0,.slice none 0 0,.slice (some ⟨W1.heap.size,0,none⟩) 1 1] ⟨⟨#[]⟩,[],[],[],[x]⟩:=by
  refine⟨_,_,_,_,rfl,Zbqk _,Zbqk _,Zbqk _,[[.string x.out,.int .i64 x.op,.slice a1 x.args.length c1,.slice a2 x.lits.length c2,.int .i64 x.n]],Zbil (rows:=[_]) (by rw[←hW2];exact alloc_at W1 _) (by intro r hr;simp only[List.mem_cons,List.not_mem_nil,or_false]at hr;subst hr;rfl) (by show 1≤maxLen;decide),rfl,fun j r y hr hy=>?_⟩
  match j,hr,hy with
  | 0,hr,hy=>
   obtain rfl:_=r:=by simpa using hr
   obtain rfl:x=y:=by simpa using hy
   exact⟨_,_,rfl,h1.below hbw2,h2.below hbw2⟩
  | j+1,hr,hy=>simp at hr
 have hsm:SmallR ⟨⟨#[]⟩,[],[],[],[x]⟩ 1048576:=⟨Nat.zero_le _,⟨Nat.zero_le _,by simp⟩,⟨Nat.zero_le _,by simp⟩,⟨Nat.zero_le _,by simp⟩,by show 1≤1048576;decide,fun y hy=>by
  obtain rfl:y=x:=by simpa using hy
  exact hs⟩
 have cL:Hid (Calls Tryz.prog 15 #[.agg #[.string ⟨#[]⟩,.slice none 0 0,.slice none 0 0,.slice none 0 0,.slice (some ⟨W1.heap.size,0,none⟩) 1 1]] W2 fun e w'=>∃vi vo vf b o cap b1 m1 b2 m2,e = .returned (.agg #[.string ⟨#[]⟩,vi,vo,vf,.slice (some ⟨b,o,none⟩) 1 cap])∧StrsA (fun b=>b<W2.heap.size) w' (.slice b1 (cutS x).args.length m1) (cutS x).args∧StrsA (fun b=>b<W2.heap.size) w' (.slice b2 (cutS x).lits.length m2) (cutS x).lits∧
   (w'.cell? ⟨b,o,none⟩=some (.string x.out)∧w'.cell? ⟨b,o+1,none⟩=some (.int .i64 x.op)∧w'.cell? ⟨b,o+2,none⟩=some (.slice b1 (cutS x).args.length m1)∧w'.cell? ⟨b,o+3,none⟩=some (.slice b2 (cutS x).lits.length m2)∧w'.cell? ⟨b,o+4,none⟩=some (.int .i64 x.n))∧Below W2.heap.size W2 w'):=by
  show Calls _ _ _ _ _
  refine(Zwx ⟨⟨#[]⟩,[],[],[],[x]⟩ _ _ _ _ W2 hr hsm).mono ?_
  rintro e w' ⟨⟨vi,vo,vf,vs,rfl,hi,ho,hf,hst⟩,hb⟩
  obtain⟨b,o,cap,b1,n1,m1,b2,n2,m2,rfl,_,ha,hl,hc⟩:=Zbpb hst (k:=0) (x:=cutS x) rfl
  obtain⟨_,_,q1,_⟩:=Zua ha.isStrs
  obtain⟨_,rfl,_⟩:=Value.slice.inj q1
  obtain⟨_,_,q2,_⟩:=Zua hl.isStrs
  obtain⟨_,rfl,_⟩:=Value.slice.inj q2
  have:=hc w' (Below.refl _ _)
  simp only[Nat.zero_mul,Nat.add_zero]at this
  exact⟨vi,vo,vf,b,o,cap,b1,m1,b2,m2,rfl,ha,hl,this,hb⟩
 obtain⟨d0,d1,d2,d3,d4,_⟩:=cells5 hx1
 have HX2:Hid (∀V,Below W2.heap.size W2 V→V.heap[w.heap.size+1]? =some (.cells #[.string ⟨#[]⟩,.int .i64 0,.slice none 0 0,.slice none 0 0,.int .i64 0] 39)):=Lib.hid fun V hV=>by
  have hz:=hb2.size
  rw[hV.block _ (by omega),hb2.block _ (by omega)];exact hx2
 have HLT:Hid (w.heap.size+1<W2.heap.size):=Lib.hid (by have:=hb2.size;omega)
 have HB2:=Lib.hid hbw2;have HW1:=Lib.hid hW1;have HW2:=Lib.hid hW2
 clear h1 h2 hs hW1 hb1 hs1 hx1 hx2 hW2 hb2 hbw2 hr hsm
 go_enter Tryz.func18,Tryz.ntmps18
 go_upto_region 1 with fail
 rw[HW1.out]
 go_wp2_with fail
 rw[HW2.out]
 refine cL.out.mono ?_
 rintro e w3 ⟨vi,vo,vf,b,o,cap,b1,m1,b2,m2,rfl,ha,hl,⟨g0,g1,g2,g3,g4⟩,hb3⟩
 have HX3:=Lib.hid (HX2.out w3 hb3)
 have HB3:=Lib.hid (HB2.out.trans (hb3.mono HB2.out.size))
 have HA:=Lib.hid ha;have HL:=Lib.hid hl
 obtain⟨z0,z1,z2,z3,z4,_⟩:=cells5 HX3.out
 clear hb3 ha hl d0 d1 d2 d3 d4
 go_wp2_with fail
 rw[Zbwh]
 go_wp2
 refine bodyPost_ret (Zbhl rfl _ _ (w.heap.size+1) _ _ _ _ rfl (heap_set _ _ (heap_set _ _ (heap_set _ _ (heap_set _ _ (heap_set _ _ HX3.out))))) Tryz.underlying39 rfl (by kernel_rfl)) rfl ?_
 obtain⟨V,hV⟩:∃V,((((w3.setCell ⟨w.heap.size+1,0,none⟩ (.string x.out)).setCell ⟨w.heap.size+1,1,none⟩ (.int .i64 x.op)).setCell ⟨w.heap.size+1,2,none⟩ (.slice b1 (cutS x).args.length m1)).setCell ⟨w.heap.size+1,3,none⟩ (.slice b2 (cutS x).lits.length m2)).setCell ⟨w.heap.size+1,4,none⟩ (.int .i64 x.n)=V:=⟨_,rfl⟩
 have hbV:Below (w.heap.size+1) w3 V:=by
  rw[←hV]
  exact(((((Below.refl _ _).setCell (p:=⟨w.heap.size+1,0,none⟩) (Nat.le_refl _) _).setCell (p:=⟨w.heap.size+1,1,none⟩) (Nat.le_refl _) _).setCell (p:=⟨w.heap.size+1,2,none⟩) (Nat.le_refl _) _).setCell (p:=⟨w.heap.size+1,3,none⟩) (Nat.le_refl _) _).setCell (p:=⟨w.heap.size+1,4,none⟩) (Nat.le_refl _) _
 have hfr:Fr (fun b=>b<W2.heap.size) w3 V:=by
  refine⟨hbV.os,hbV.tape,hbV.output,hbV.size,fun k hk hn=>?_⟩
  have hne:k≠w.heap.size+1:=by
   intro e
   apply hn
   show k<_
   have:=HLT.out
   omega
  rw[←hV]
  rw[Below.heap_setCell _ _ _ _ hne,Below.heap_setCell _ _ _ _ hne,Below.heap_setCell _ _ _ _ hne,Below.heap_setCell _ _ _ _ hne,Below.heap_setCell _ _ _ _ hne]
 rw[hV]
 exact⟨b1,m1,b2,m2,rfl,RowA.mono (RowA.keep HA.out hfr) (fun b _ hb=>by have:=HLT.out;show b<_;omega),RowA.mono (RowA.keep HL.out hfr) (fun b _ hb=>by have:=HLT.out;show b<_;omega),HB3.out.trans (hbV.mono (by omega))⟩
end Go.Proofs.YthkehhphnbckaaaGreatDoor
namespace Go.Proofs.YthkehhphnbckaaaGreatDoor
open Go.RowKit
def Zbyf (vs:List (Bool×ByteArray)):List Value:=(vs.map fun f=>[Value.bool f.1,Value.string f.2]).flatten
theorem Zbyi (f:(Bool×ByteArray)) (vs:List (Bool×ByteArray)):Zbyf (f::vs) = .bool f.1 :: .string f.2::Zbyf vs:=by simp[Zbyf]
theorem Zbyg (a b:List (Bool×ByteArray)):Zbyf (a++b)=Zbyf a++Zbyf b:=by simp[Zbyf]
theorem Zbyh (vs:List (Bool×ByteArray)):∀(j:Nat) (x:(Bool×ByteArray)),vs[j]? =some x→(Zbyf vs)[j*2]? =some (.bool x.1)∧(Zbyf vs)[j*2+1]? =some (.string x.2):=by
 induction vs with
 | nil=>intro j x h;simp at h
 | cons f fs ih=>
  intro j x h
  rw[Zbyi]
  cases j with
  | zero=>simp at h;subst h;simp
  | succ j=>rw[Nat.add_mul];simpa using ih j x (by simpa using h)
theorem Zbyj {w:World} {B:Nat} {v:Value} {vs:List (Bool×ByteArray)} (hown:w.ownsRow B 25 2 v vs.length (Zbyf vs)):Zbb w v vs:=by
 obtain⟨hl,⟨rfl,h0⟩|⟨g,c,cur,rfl,hgB,hg,hnc,hcm,hcs,htk⟩⟩:=hown
 ·obtain rfl:=List.eq_nil_of_length_eq_zero h0
  exact⟨none,0,rfl,by simp,by simp[maxLen],fun h=>absurd rfl h⟩
 ·refine⟨_,c,rfl,hnc,hcm,fun _=>⟨g,0,rfl,?_,fun j x hx=>?_⟩⟩
  ·rcases Nat.lt_or_ge g w.heap.size with h|h
   ·exact h
   ·rw[Array.getElem?_eq_none h]at hg;cases hg
  ·have key:∀(t:Nat) u,(Zbyf vs)[t]? =some u→w.cell? ⟨g,t,none⟩=some u:=by
    intro t u hu
    rw[←htk,List.getElem?_take]at hu
    split at hu
    ·simp only[World.cell?,hg];simpa using hu
    ·cases hu
   have:=Zbyh vs j x hx
   rw[Nat.zero_add]
   exact⟨key _ _ this.1,key _ _ this.2⟩
def oneV (x:(Bool×ByteArray)):(Bool×ByteArray):=(x.1,if x.1 then x.2 else ByteArray.empty)
def tenV (vs:List (Bool×ByteArray)):List (Bool×ByteArray):=(vs.take 10).map oneV
theorem Zbxf (s:ByteArray):oneV (false,s)=(false,⟨#[]⟩):=rfl
theorem Zbxg (s:ByteArray):oneV (true,s)=(true,s):=rfl
theorem Zbyd (vs:List (Bool×ByteArray)) (k:Nat) (x:(Bool×ByteArray)) (h:vs[k]? =some x):(vs.take (k+1)).map oneV=(vs.take k).map oneV ++ [oneV x]:=by
 rw[List.take_add_one,h,List.map_append];rfl
def Zbuz (w:World) (vs:List (Bool×ByteArray)) (e:Ending) (w':World):Prop:=
 ∃v,e = .returned v∧w'.ownsRow w.heap.size 25 2 v vs.length (Zbyf vs)∧Below w.heap.size w w'
theorem Zbwk:(Tryz.prog.info? 25).map (fun i=>(i.zero,i.size,i.bytes))=some (some (.agg #[.bool false,.string ByteArray.empty]),2,24):=by kernel_rfl
set_option maxHeartbeats 2000000 in
set_option maxRecDepth 100000 in
theorem Zbyb (v:Value) (vs:List (Bool×ByteArray)) (w:World) (h:Zbb w v vs):
  Calls Tryz.prog 19 #[v] w (Zbuz w (tenV vs)):=by
 obtain⟨a,c,rfl,h1,h1m,h2⟩:=h
 obtain⟨i0,hi,hz0,hz1,hz2⟩:=info_parts Zbwk
 have hcells:∀(k:Nat) x,vs[k]? =some x→∃b o,a=some ⟨b,o,none⟩∧b<w.heap.size∧w.cell? ⟨b,o+k*2,none⟩=some (.bool x.1)∧w.cell? ⟨b,o+k*2+1,none⟩=some (.string x.2):=by
  intro k x hx
  obtain⟨b,o,ha,hb,hc⟩:=h2 (by rintro rfl;simp at hx)
  exact⟨b,o,ha,hb,hc k x hx⟩
 have HC:=Lib.hid hcells
 have HNEXT:=Lib.hid (Zbyd vs)
 have HEND:Hid (∀k,(k=10∨k=vs.length)→k≤10→(vs.take k).map oneV=tenV vs):=by
  show ∀k,_
  intro k hk h10
  unfold tenV
  rcases hk with rfl|rfl
  ·rfl
  ·rw[List.take_of_length_le (Nat.le_refl _),List.take_of_length_le h10]
 clear hcells h2
 unfold maxLen at h1m
 go_enter Tryz.func19,Tryz.ntmps19
 go_wp2
 go_loopw [3,4] (fun l i wr=>∃(k:Nat),k≤vs.length∧k≤10∧i = .int .i64 k∧wr.ownsRow w.heap.size 25 2 l ((vs.take k).map oneV).length (Zbyf ((vs.take k).map oneV))∧Below w.heap.size w wr)
  (fun _ i _=>vs.length-(intOf i).toNat)
 case atStart=>exact⟨0,Nat.zero_le _,by omega,rfl,by simpa[Zbyf]using World.ownsRow_nil _ _ _ _,Below.refl _ _⟩
 case round=>
  obtain⟨k,hk,hk10,rfl,hown,hnx⟩:=hrel
  by_cases hlt:k<vs.length
  ·by_cases hlt10:k<10
   ·obtain⟨x,hx⟩:∃x,vs[k]? =some x:=⟨vs[k],List.getElem?_eq_getElem hlt⟩
    obtain⟨b,o,ha,hb,hc0,hc1⟩:=HC.out k x hx
    subst ha
    have hcx0:wr.cell? ⟨b,o+k*2,none⟩=some (.bool x.1):=(hnx.cell (by exact hb)).trans hc0
    have hcx1:wr.cell? ⟨b,o+k*2+1,none⟩=some (.string x.2):=(hnx.cell (by exact hb)).trans hc1
    have hms1:=HNEXT.out k x hx
    have hkl:((vs.take k).map oneV).length≤k:=by rw[List.length_map];exact List.length_take_le _ _
    have HM1:=Lib.hid hms1
    have HNX:=Lib.hid hnx
    have hs1:=hnx.size
    have HOWN:=Lib.hid hown
    clear hms1 hc0 hc1 hx hown hnx
    obtain⟨ok,s⟩:=x
    simp only at hcx0 hcx1
    cases ok
    ·rw[Zbxf]at HM1
     have hown2:=HOWN.out
     go_wp2_with (at_builtin;refine wpList_append_own _ rfl _ _ 40 rfl w.heap.size 25 i0 _ 2 24 Tryz.underlying40 hi hz0 hz1 hz2 rfl (by decide) _ _ _ rfl ((hown2.alloc _).alloc _) ⟨wr.heap.size+1,0,none⟩ 1 1 [.bool false,.string ⟨#[]⟩] rfl rfl ?c1 ?c2 ?c3 ?c4 ?c5 ?_)
     case c1=>
      intro j u hj
      match j,hj with
      | 0,hj=>simp at hj;subst hj;simp[Addr.add]
      | 1,hj=>simp at hj;subst hj;simp[Addr.add]
     case c2=>intro u hu;simp at hu;rcases hu with rfl|rfl<;>rfl
     case c3=>unfold maxLen;omega
     case c4=>omega
     case c5=>simp;omega
     intro v' w3 hown' hgrow _
     have hnx':Below w.heap.size w w3:=((HNX.out.alloc hs1 _).alloc (by simp;omega) _).grown hgrow (by simp;omega) (fun g hg=>(hown2.lt g hg).1)
     have HO:Hid (w3.ownsRow w.heap.size 25 2 v' ((vs.take (k+1)).map oneV).length (Zbyf ((vs.take (k+1)).map oneV))):=by
      show w3.ownsRow _ _ _ _ _ _
      rw[HM1.out,List.length_append,Zbyg,List.map_take,show((vs.map oneV).take k).length=k by simp;omega]
      exact hown'
     clear hgrow hown2 hown'
     go_wp2
     go_roundw
     case rel=>exact⟨k+1,by omega,by omega,by go_num,HO.out,hnx'⟩
     case measure=>simp[intOf];omega
    ·rw[Zbxg]at HM1
     have hown2:=HOWN.out
     go_wp2_with (at_builtin;refine wpList_append_own _ rfl _ _ 40 rfl w.heap.size 25 i0 _ 2 24 Tryz.underlying40 hi hz0 hz1 hz2 rfl (by decide) _ _ _ rfl ((hown2.alloc _).alloc _) ⟨wr.heap.size+1,0,none⟩ 1 1 [.bool true,.string s] rfl rfl ?c1 ?c2 ?c3 ?c4 ?c5 ?_)
     case c1=>
      intro j u hj
      match j,hj with
      | 0,hj=>simp at hj;subst hj;simp[Addr.add]
      | 1,hj=>simp at hj;subst hj;simp[Addr.add]
     case c2=>intro u hu;simp at hu;rcases hu with rfl|rfl<;>rfl
     case c3=>unfold maxLen;omega
     case c4=>omega
     case c5=>simp;omega
     intro v' w3 hown' hgrow _
     have hnx':Below w.heap.size w w3:=((HNX.out.alloc hs1 _).alloc (by simp;omega) _).grown hgrow (by simp;omega) (fun g hg=>(hown2.lt g hg).1)
     have HO:Hid (w3.ownsRow w.heap.size 25 2 v' ((vs.take (k+1)).map oneV).length (Zbyf ((vs.take (k+1)).map oneV))):=by
      show w3.ownsRow _ _ _ _ _ _
      rw[HM1.out,List.length_append,Zbyg,List.map_take,show((vs.map oneV).take k).length=k by simp;omega]
      exact hown'
     clear hgrow hown2 hown'
     go_wp2
     go_roundw
     case rel=>exact⟨k+1,by omega,by omega,by go_num,HO.out,hnx'⟩
     case measure=>simp[intOf];omega
   ·have hk':k=10:=by omega
    have hE:=HEND.out k (.inl hk') hk10
    rw[hE]at hown
    have hV:=Lib.hid hown
    clear hE hown hk'
    go_wp2
    go_ret
    exact⟨_,rfl,hV.out,hnx⟩
  ·have hk':k=vs.length:=by omega
   have hE:=HEND.out k (.inr hk') hk10
   rw[hE]at hown
   have hV:=Lib.hid hown
   clear hE hown hk'
   go_wp2
   go_ret
   exact⟨_,rfl,hV.out,hnx⟩
end Go.Proofs.YthkehhphnbckaaaGreatDoor
