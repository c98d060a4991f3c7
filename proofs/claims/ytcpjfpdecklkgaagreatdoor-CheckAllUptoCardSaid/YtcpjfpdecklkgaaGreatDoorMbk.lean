import Derived.Test.YtcpjfpdecklkgaaGreatDoorMbh
import Derived.Deep.AppendSrc
import Derived.Maps.AppendAt
import Derived.Below
import Derived.Test.YtcpjfpdecklkgaaGreatDoorMbj
namespace Go.Proofs.YtcpjfpdecklkgaaGreatDoor
open Go.Lib (hid)
open Go.Proofs.Tryz
theorem Zbay {s N:Nat} {nd:Nat->List Nat} {y:List Nat}:∀ {xs:List Nat} {q:List (List Nat)} {r:List Bool} {q':List (List Nat)} {r':List Bool},WaysOk s nd N q r->y.length+cntF r<=N+1->(∀z∈y,z<N)->(∀x∈xs,x<N)->Zbax s y xs q r=some (q',r')->WaysOk s nd N q' r'
 | [],q,r,q',r',hW,_,_,_,h=>by
  obtain⟨rfl,rfl⟩:q=q'/\r=r':=by simpa[Zbax]using h
  exact hW
 | x::xs,q,r,q',r',hW,hy,hz,hx,h=>by
  unfold Zbax at h;split at h
  ·cases h
  have hxl:=hx x (by simp)
  by_cases h2:r[x]? =some true
  ·rw[if_pos h2]at h
   exact Zbay hW hy hz (λz hz'=>hx z (by simp[hz'])) h
  ·rw[if_neg h2]at h
   have h2':r[x]? =some false:=by
    have hl:x<r.length:=by rw[hW.size];exact hxl
    rw[List.getElem?_eq_getElem hl]at h2⊢
    cases hb:r[x]with
    | true=>rw[hb]at h2;exact absurd rfl h2
    | false=>rfl
   have:=Zkb h2';exact Zbay (hW.push hy hz hxl h2') (by omega) hz (λz hz'=>hx z (by simp[hz'])) h
theorem Zfr {s N:Nat} {nd:Nat->List Nat} (hnd:∀x<N,∀y∈nd x,y<N):∀(n:Nat) (q:List (List Nat)) (r:List Bool),WaysOk s nd N q r->(∀x∈bfsF s nd n q r,x<N)/\(bfsF s nd n q r).length<=N+1
 | 0,_,_,_=>by simp[bfsF]
 | _+1,[],_,_=>by simp[bfsF]
 | n+1,w::q,r,hW=>by
  rw[Zfp]
  cases hx:Zbax s w (nd (w.getLastD 0)) q r with
  | none=>exact⟨hW.lt w (by simp),by have:=hW.len w (by simp);show w.length<=N+1;omega⟩
  | some p=>
   obtain⟨q',r'⟩:=p;have hne:=hW.ne w (by simp);have hl:w.getLastD 0<N:=by
    rw[List.getLastD_eq_getLast?,List.getLast?_eq_some_getLast hne];exact hW.lt w (by simp) _ (List.getLast_mem hne)
   exact Zfr hnd n q' r' (Zbay hW.tail (hW.len w (by simp)) (hW.lt w (by simp)) (hnd _ hl) hx)
theorem Zbib {s N:Nat} {nd:Nat->List Nat} (hnd:∀x<N,∀y∈nd x,y<N) (hs:s<N):(∀x∈Zbhz s nd N,x<N)/\(Zbhz s nd N).length<=N+1:=Zfr hnd _ _ _ (Zbsq hs)
def nmLe (x y:RuleS):Bool:=decide (Go.Lib.compareBytes x.name.data.toList y.name.data.toList<=0)
def Zbng (rs:List RuleS):List RuleS:=rs.mergeSort nmLe
open Go.RowKit
def QRow (w:World) (base:Nat) (e:TypeId) (v:Value) (xs:List Value):Prop:=
 (v = .slice none 0 0/\xs = [])∨∃g o cap cur,v = .slice (some ⟨g,o,none⟩) xs.length cap/\base<=g/\w.heap[g]? =some (.cells cur e (0,0))/\xs.length<=cap/\cap<=maxLen/\o+cap<=cur.size/\∀(j:Nat) x,xs[j]? =some x->cur[o+j]? =some x
theorem QRow.shape {w:World} {base:Nat} {e:TypeId} {v:Value} {xs:List Value} (h:QRow w base e v xs):∃a c,v = .slice a xs.length c/\xs.length<=c/\c<=maxLen/\∀(j:Nat) x,xs[j]? =some x->∃b o,a=some ⟨b,o,none⟩/\base<=b/\w.cell? ⟨b,o+j,none⟩=some x:=by
 rcases h with⟨rfl,rfl⟩|⟨g,o,cap,cur,rfl,hb,hg,h1,h2,h3,h4⟩
 ·exact⟨_,_,rfl,Nat.le_refl _,Nat.zero_le _,λj x hx=>by simp at hx⟩
 ·refine⟨_,_,rfl,h1,h2,λj x hx=>⟨g,o,rfl,hb,?_⟩⟩
  simp only[World.cell?,hg,Option.isSome_none,Bool.false_eq_true,if_false];exact h4 j x hx
theorem QRow.lt {w:World} {base:Nat} {e:TypeId} {v:Value} {xs:List Value} (h:QRow w base e v xs):∀k,v.ownBlock=some k->base<=k/\k<w.heap.size:=by
 rcases h with⟨rfl,rfl⟩|⟨g,o,cap,cur,rfl,hb,hg,h1,h2,h3,h4⟩
 ·intro k hk;cases hk
 ·intro k hk
  obtain rfl:g=k:=by simpa[Value.ownBlock]using hk
  exact⟨hb,(Array.getElem?_eq_some_iff.1 hg).1⟩
theorem QRow.heap {w w':World} {base:Nat} {e:TypeId} {v:Value} {xs:List Value} (h:QRow w base e v xs) (hb:∀k,v.ownBlock=some k->w'.heap[k]? =w.heap[k]?):QRow w' base e v xs:=by
 rcases h with h|⟨g,o,cap,cur,rfl,hb',hg,h1⟩
 ·exact .inl h
 ·exact .inr ⟨g,o,cap,cur,rfl,hb',(hb g rfl).trans hg,h1⟩
theorem QRow.drop {w:World} {base:Nat} {e:TypeId} {a:Option Addr} {n c:Nat} {x:Value} {xs:List Value} (h:QRow w base e (.slice a n c) (x::xs)):QRow w base e (.slice (if c=1 then a else a.map (·.add (1*1))) (n-1) (c-1)) xs:=by
 rcases h with⟨_,h⟩|⟨g,o,cap,cur,q,hb,hg,h1,h2,h3,h4⟩
 ·cases h
 ·injection q with q1 q2 q3
  subst q1 q2 q3;rw[List.length_cons]at h1⊢
  by_cases hc:c=1
  ·subst hc
   obtain rfl:xs = []:=List.eq_nil_of_length_eq_zero (by omega);exact .inr ⟨g,o,0,cur,by simp,hb,hg,by simp,by omega,by omega,λj x hx=>by simp at hx⟩
  ·refine .inr ⟨g,o+1,c-1,cur,by rw[if_neg hc];simp[Addr.add_lit],hb,hg,by omega,by omega,by omega,λj y hy=>?_⟩
   have:=h4 (j+1) y (by simpa using hy);rw[show o+1+j=o+(j+1) by omega];exact this
theorem Zbkd {P:Program} {w:World} (base:Nat) (t ty e:TypeId) (i:TypeInfo) (z:Value) (bytes:Nat) (ht:P.underlying t=some (.slice e)) (hi:P.info? e=some i) (hz:i.zero=some z) (hsize:i.size=1) (hby:i.bytes=bytes) (hzs:z.cells.size=1)
  {v:Value} {xs:List Value} (h:QRow w base e v xs) (ad:Addr) (c:Nat) (x:Value) (hx:w.cell? ad=some x) (h1:x.oneCell'=true) (h63:xs.length+1<=maxLen) (hbytes:(xs.length+1)*bytes<=140737488355328) (hbase:base<=w.heap.size):
  ∃v' w',(Builtin.append_ #[t,t] ty #[v,.slice (some ad) 1 c]).run P w = .ok v' w'/\QRow w' base e v' (xs ++ [x])/\w.grownBy w' v.ownBlock/\(v'.ownBlock=v.ownBlock∨v'.ownBlock=some w.heap.size)/\v'.ownBlock≠none:=by
 have hs:Src P i.size t (.slice (some ad) 1 c) 1 [x] w:=Src.ofSlice w ht ad 1 c [x] (by rw[hsize];rfl) (λj u hu=>by
  match j,hu with
  | 0,hu=>
      obtain rfl:x=u:=by simpa using hu
      simpa[Addr.add]using hx) (λu hu=>by
       obtain rfl:u=x:=by simpa using hu
       exact h1)
 have hsmall:xs.length+1<=9223372036854775807:=by simp only[maxLen]at h63;omega
 have grow:∀(bs:Option Addr) (sc:Nat),v = .slice bs xs.length sc->sc<xs.length+1->(Builtin.firstCells i.size xs.length (.slice bs xs.length sc)).run P w.drew = .ok xs.toArray w.drew->
   ∃v' w',(Builtin.append_ #[t,t] ty #[v,.slice (some ad) 1 c]).run P w = .ok v' w'/\QRow w' base e v' (xs ++ [x])/\w.grownBy w' v.ownBlock/\(v'.ownBlock=v.ownBlock∨v'.ownBlock=some w.heap.size)/\v'.ownBlock≠none:=by
  rintro bs sc rfl hg hold;have hrun:=run_append_grow_src (P:=P) w t t ty e i z ht hi hz bs xs.length sc xs hold _ 1 [x] hs hg (by omega) (growslice_fits hg (by rw[hby];exact hbytes));have hge:=grownCap_ge w (xs.length+1) sc e;have hcm:=grownCap_le_maxLen w (xs.length+1) sc e h63;refine⟨_,_,hrun,.inr ⟨w.heap.size,0,grownCap w (xs.length+1) sc e,_,by rw[List.length_append];rfl,hbase,heap_alloc_new w.drew _,by rw[List.length_append];exact hge,hcm,?_,λj u hu=>?_⟩,⟨rfl,rfl,rfl,by simp,λk hk _=>Below.heap_alloc w.drew _ k hk⟩,.inr rfl,by simp[Value.ownBlock]⟩
  ·rw[Array.size_append,List.size_toArray,size_zeroCells,hzs,List.length_append]
   simp only[List.length_cons,List.length_nil];omega
  ·rw[Nat.zero_add,Array.getElem?_append_left (by rw[List.size_toArray];exact(List.getElem?_eq_some_iff.1 hu).1),List.getElem?_toArray]
   exact hu
 rcases h with⟨rfl,rfl⟩|⟨g,o,cap,cur,rfl,hb,hg,h2,h3,h4,h5⟩
 ·exact grow none 0 rfl (by simp) (run_firstCells_none _ _ _ _ _)
 ·by_cases hroom:xs.length+1<=cap
  ·have hlt:o+xs.length<cur.size:=by omega
   have hr:=run_append_room_src (P:=P) w t t ty e i ht hi g o xs.length cap _ 1 [x] hs hroom
    (λj hj=>by
     obtain rfl:j=0:=by simpa using hj
     simp only[hsize,World.cell?,hg,Option.isSome_none,Bool.false_eq_true,if_false,Nat.mul_one,Nat.add_zero];rw[Array.getElem?_eq_getElem hlt];rfl)
    (λj hj=>by simp[World.frozen?,hg])
   refine⟨_,_,hr,.inr ⟨g,o,cap,cur.setIfInBounds (o+xs.length) x,by rw[List.length_append];rfl,hb,?_,by rw[List.length_append];exact hroom,h3,by rw[Array.size_setIfInBounds];exact h4,λj u hu=>?_⟩,?_,.inl rfl,by simp[Value.ownBlock]⟩
   ·rw[hsize,Nat.mul_one]
    show(w.setCell ⟨g,o+xs.length,none⟩ x).heap[g]? =_;rw[setCell_eq_setRow w g _ cur e (0,0) x hg];exact setRow_heap w g cur _ e (0,0) hg
   ·by_cases hj:j<xs.length
    ·rw[List.getElem?_append_left hj]at hu
     rw[Array.getElem?_setIfInBounds_ne (by omega)];exact h5 j u hu
    ·rw[List.getElem?_append_right (by omega)]at hu
     have hjl:=(List.getElem?_eq_some_iff.1 hu).1;obtain rfl:j=xs.length:=by simp at hjl;omega
     obtain rfl:x=u:=by simpa using hu
     rw[Array.getElem?_setIfInBounds_self_of_lt hlt]
   ·exact⟨rfl,rfl,rfl,by simp[World.setCells,World.setCell],λk hk hne=>by
     show(w.setCell ⟨g,_,none⟩ x).heap[k]? =_;exact Below.heap_setCell w _ _ k (λe=>hne (by rw[e];rfl))⟩
  ·have holds:∀j u,xs[j]? =some u->w.cell? ((⟨g,o,none⟩:Addr).add j)=some u:=λj u hu=>by
    rw[Addr.add_lit];simp only[World.cell?,hg,Option.isSome_none,Bool.false_eq_true,if_false];exact h5 j u hu
   exact grow (some ⟨g,o,none⟩) cap rfl (by omega) (by
    have:=run_firstCells_some (P:=P) w.drew i.size xs.length ⟨g,o,none⟩ xs.length cap xs (by rw[hsize];omega) (by simpa using holds);exact this)
theorem Zbug {P:Program} {w:World} {ops:Array Oper} {rest:List Oper} {o:Oper} {a:Act} {Q:Exit->Act->World->Prop} (hgd:o.guard=none) (s x:Operand) (t:TypeId)
  (ho:o.op = .call { callee:= .builtin .append,args:=#[s,x],argTypes:=#[t,t] })
  (base:Nat) (e:TypeId) (i:TypeInfo) (z:Value) (bytes:Nat) (ht:P.underlying t=some (.slice e)) (hi:P.info? e=some i) (hz:i.zero=some z) (hsize:i.size=1) (hby:i.bytes=bytes) (hzs:z.cells.size=1)
  (v:Value) (xs:List Value) (hs:a.eval s=v) (hown:QRow w base e v xs)
  (ad:Addr) (c:Nat) (u:Value) (hx:a.eval x = .slice (some ad) 1 c) (hu:w.cell? ad=some u) (h1:u.oneCell'=true)
  (h63:xs.length+1<=maxLen) (hbytes:(xs.length+1)*bytes<=140737488355328) (hbase:base<=w.heap.size)
  (h:∀v' w',QRow w' base e v' (xs ++ [u])->w.grownBy w' v.ownBlock->(v'.ownBlock=v.ownBlock∨v'.ownBlock=some w.heap.size)->wpList P ops Q rest (a.put o.dst v') w'):
  wpList P ops Q (o::rest) a w:=by
 refine wpList_plain hgd λK hK=>?_
 obtain⟨v',w',hr,h2,h3,h4,_⟩:=Zbkd (P:=P) base t o.type e i z bytes ht hi hz hsize hby hzs hown ad c u hu h1 h63 hbytes hbase;unfold Oper.wp execOp;simp only[ho,resolve,invoke,builtin,Sem.run_bind,Sem.run_pure,Result.andThen_ok,List.map_toArray,List.map_cons,List.map_nil,hs,hx,hr];exact hK _ _ (h v' w' h2 h3 h4)
open Go.Shelf Go.Maps
def Zag (w:World) (xs:List Nat) (e:Ending) (w':World):Prop:=∃v,e = .returned v/\OwnInts w.heap.size w' v xs/\Below w.heap.size w w'
set_option maxHeartbeats 2000000 in
set_option maxRecDepth 100000 in
theorem Zjg (v:Value) (xs:List Nat) (w:World) (h:IsInts w v xs) (hn:xs.length<=8796093022208):
  Calls prog 108 #[v] w (Zag w xs):=by
 obtain⟨a,c,rfl,h1,h1m,h2⟩:=h;obtain⟨i0,hi,hz0,hz1,hz2⟩:=info_parts Zsn
 cases a with
 | none=>
  have hfs:xs = []:=by
   rcases xs with _|⟨f,fs⟩
   ·rfl
   ·obtain⟨b,o,ha,_⟩:=h2 (by simp)
    cases ha
  subst hfs;have hq:∀w,(Go.binOp .eql 53 (.slice none 0 c) (.slice none 0 0)).run prog w = .ok (.bool true) w:=λw=>Lib.run_eql_slice_nil w 53 3 none 0 c 0 0 underlying53
  go_enter func108,ntmps108
  go_wp2;go_ret;exact⟨_,rfl,World.ownsRow_nil _ _ _ _,Below.refl _ _⟩
 | some ad=>
  obtain⟨ab,ao,asp⟩:=ad;have hq:∀w,(Go.binOp .eql 53 (.slice (some ⟨ab,ao,asp⟩) xs.length c) (.slice none 0 0)).run prog w = .ok (.bool false) w:=λw=>Lib.run_eql_slice_nil w 53 3 _ _ _ _ _ underlying53
  have hcells:∀j u,(xs.map intV)[j]? =some u->w.cell? ((⟨ab,ao,asp⟩:Addr).add j)=some u:=by
   intro j u hu;rw[List.getElem?_map]at hu;obtain⟨x,hx,rfl⟩:=Option.map_eq_some_iff.1 hu;obtain⟨b,o,ha,_,hc⟩:=h2 (by rintro rfl;simp at hx)
   cases ha
   rw[Addr.add_lit];exact hc j x hx
  have HC:=hid hcells;clear hcells h2
  go_enter func108,ntmps108
  go_wp2_with (at_builtin;refine wpList_append_own _ rfl _ _ 53 rfl w.heap.size 3 i0 _ 1 8 underlying53 hi hz0 hz1 hz2 rfl (by decide) _ _ _ rfl (World.ownsRow_made w #[] 0 (Nat.le_refl _) (Nat.zero_le _) (by simp)) ⟨ab,ao,asp⟩ xs.length c (xs.map intV) rfl ?qc1 ?qc2 ?qc3 ?qc4 ?qc5 ?qc6 ?_)
  case qc1=>simp
  case qc2=>
   intro j u hj;exact Lib.cell?_alloc_some _ (HC.out j u hj)
  case qc3=>
   intro u hu;obtain⟨x,_,rfl⟩:=List.mem_map.1 hu;rfl
  case qc4=>unfold maxLen;omega
  case qc5=>omega
  case qc6=>simp
  intro v' w1 hown hgrow hnil;go_wp2;go_ret;have hb:Below w.heap.size w w1:=((Below.refl _ w).alloc (Nat.le_refl _) _).grown hgrow (by simp) (by intro k hk;simp[Value.ownBlock]at hk;omega);exact⟨_,rfl,by unfold OwnInts;simpa using hown,hb⟩
structure RouS (w0:World) (n:Nat) (qv:Value) (q:List (List Nat)) (r:List Bool) (W:World):Prop where
 row:∃us:List Value,QRow W (n+1) 53 qv us/\us.length=q.length/\∀(j:Nat) u x,us[j]? =some u->q[j]? =some x->OwnInts (n+1) W u x
 marks:BoolR W n r
 below:Below n w0 W
 size:n+1<=W.heap.size
theorem Zbdo {B:Nat} {w w':World} {v:Value} {xs:List Nat} {row:Option Nat} (h:OwnInts B w v xs) (hg:w.grownBy w' row) (hne:∀k,row=some k->v.ownBlock≠some k):OwnInts B w' v xs:=by
 refine World.ownsRow.kept h hg ?_
 cases hb:v.ownBlock with
 | none=>exact .inl rfl
 | some b=>exact .inr λe=>hne b e.symm hb
theorem below_grown {B:Nat} {w w':World} (h:Below B w w') (hB:w.heap.size<=B):w.grownBy w' none:=⟨h.os,h.tape,h.output,h.size,λk hk _=>h.block k (by omega)⟩
theorem QRow.type {w:World} {base:Nat} {e:TypeId} {v:Value} {xs:List Value} (h:QRow w base e v xs) {b:Nat} (hb:v.ownBlock=some b):∃cur,w.heap[b]? =some (.cells cur e (0,0)):=by
 rcases h with⟨rfl,rfl⟩|⟨g,o,cap,cur,rfl,_,hg,_⟩
 ·cases hb
 ·obtain rfl:g=b:=by simpa[Value.ownBlock]using hb
  exact⟨_,hg⟩
theorem OwnInts.type {B:Nat} {w:World} {v:Value} {xs:List Nat} (h:OwnInts B w v xs) {b:Nat} (hb:v.ownBlock=some b):B<=b/\∃cur,w.heap[b]? =some (.cells cur 3 (0,0)):=by
 rcases h.2 with⟨rfl,_⟩|⟨g,cap,cur,rfl,hB,hg,_⟩
 ·cases hb
 ·obtain rfl:g=b:=by simpa[Value.ownBlock]using hb
  exact⟨hB,_,hg⟩
theorem BoolR.heap {w w':World} {g:Nat} {ms:List Bool} (h:BoolR w g ms) (hb:w'.heap[g]? =w.heap[g]?):BoolR w' g ms:=by unfold BoolR at h⊢;rw[hb];exact h
theorem Zbrj:(3:TypeId)≠53:=by decide
theorem RouS.mark {w0:World} {n x:Nat} {qv:Value} {q:List (List Nat)} {r:List Bool} {W:World} (h:RouS w0 n qv q r W):RouS w0 n qv q (r.set x true) (W.setCell ⟨n,x,none⟩ (.bool true)):=by
 obtain⟨us,h1,h2,h3⟩:=h.row;have hg:W.grownBy (W.setCell ⟨n,x,none⟩ (.bool true)) (some n):=⟨rfl,rfl,rfl,by simp[World.setCell],λk _ hk=>Below.heap_setCell W _ _ k (λe=>hk (by rw[e]))⟩;refine⟨⟨us,h1.heap λk hk=>hg.block k (h1.lt k hk).2 (λe=>by have:=(h1.lt k hk).1;have:=Option.some.inj e;omega),h2,λj u x' hu hx=>Zbdo (h3 j u x' hu hx) hg λk e hb=>?_⟩,h.marks.set x true,h.below.setCell (p:=⟨n,x,none⟩) (Nat.le_refl _) _,by have:=h.size;have:=hg.size;omega⟩;have:=(h3 j u x' hu hx).type hb;have:=Option.some.inj e;omega
theorem RouS.later {w0:World} {n:Nat} {qv:Value} {q:List (List Nat)} {r:List Bool} {W W':World} (h:RouS w0 n qv q r W) (hb:W.grownBy W' none):RouS w0 n qv q r W':=by
 obtain⟨us,h1,h2,h3⟩:=h.row;refine⟨⟨us,h1.heap λk hk=>hb.block k (h1.lt k hk).2 (by simp),h2,λj u x' hu hx=>Zbdo (h3 j u x' hu hx) hb (by simp)⟩,h.marks.heap (hb.block n (by have:=h.size;omega) (by simp)),?_,by have:=h.size;have:=hb.size;omega⟩;exact h.below.grown hb (by have:=h.size;omega) (by simp)
theorem q_ne {B:Nat} {W:World} {qv u:Value} {us:List Value} {y:List Nat} (hq:QRow W B 53 qv us) (hu:OwnInts B W u y):∀k,qv.ownBlock=some k->u.ownBlock≠some k:=by
 intro k hk e;obtain⟨cur,hc⟩:=hq.type hk;obtain⟨_,cur',hc'⟩:=hu.type e;rw[hc]at hc';injection hc' with hc'
 injection hc' with _ ht
 exact Zbrj ht.symm
theorem RouS.push {w0:World} {n:Nat} {qv qv' v:Value} {q:List (List Nat)} {us:List Value} {x:List Nat} {r:List Bool} {W W':World} (h:RouS w0 n qv q r W) (hq:QRow W (n+1) 53 qv us) (hus:us.length=q.length) (h3:∀(j:Nat) u x,us[j]? =some u->q[j]? =some x->OwnInts (n+1) W u x) (hx:OwnInts (n+1) W v x)
  (hq':QRow W' (n+1) 53 qv' (us ++ [v])) (hb:W.grownBy W' qv.ownBlock):RouS w0 n qv' (q ++ [x]) r W':=by
 have hz:=h.size;refine⟨⟨us ++ [v],hq',by rw[List.length_append,List.length_append,hus];rfl,λj u y hu hy=>?_⟩,h.marks.heap (hb.block n (by omega) (λe=>by have:=(hq.lt n e.symm).1;omega)),h.below.grown hb (by omega) (λk e=>by have:=(hq.lt k e).1;omega),by have:=hb.size;omega⟩
 by_cases hj:j<us.length
 ·rw[List.getElem?_append_left hj]at hu
  rw[List.getElem?_append_left (by omega)]at hy;exact Zbdo (h3 j u y hu hy) hb (q_ne hq (h3 j u y hu hy))
 ·rw[List.getElem?_append_right (by omega)]at hu hy
  have hjl:=(List.getElem?_eq_some_iff.1 hu).1;simp only[List.length_cons,List.length_nil]at hjl;obtain rfl:j=us.length:=by omega
  rw[Nat.sub_self]at hu;rw[hus,Nat.sub_self]at hy;obtain rfl:v=u:=by simpa using hu
  obtain rfl:x=y:=by simpa using hy
  exact Zbdo hx hb (q_ne hq hx)
theorem RouS.pop {w0:World} {n:Nat} {a:Option Addr} {m c:Nat} {y:List Nat} {q:List (List Nat)} {r:List Bool} {W:World} (h:RouS w0 n (.slice a m c) (y::q) r W):RouS w0 n (.slice (if c=1 then a else a.map (·.add (1*1))) (m-1) (c-1)) q r W:=by
 obtain⟨us,h1,h2,h3⟩:=h.row
 cases us with
 | nil=>simp at h2
 | cons u us=>
  exact⟨⟨us,h1.drop,by simpa using h2,λj u' x' hu hx=>h3 (j+1) u' x' (by simpa using hu) (by simpa using hx)⟩,h.marks,h.below,h.size⟩
def lenV:Value->Nat
 | .slice _ n _=>n
 | _=>0
def cntW (w:World) (g:Nat):Nat:=match w.heap[g]? with
 | some (.cells cs _ _)=>cs.toList.countP λv=>match v with
  | .bool b=>b==false
  | _=>false
 | _=>0
theorem Zkc {w:World} {g:Nat} {r:List Bool} (h:BoolR w g r):cntW w g=cntF r:=by
 unfold cntW cntF;rw[show w.heap[g]? =some (.cells (r.map Value.bool).toArray 4 (0,0))from h];simp only[List.countP_map];rfl
theorem Zso:(prog.info? 53).map (λi=>(i.zero,i.size,i.bytes))=some (some (.slice none 0 0),1,24):=by kernel_rfl
def ndOf (ns:List (List Nat)) (k:Nat):List Nat:=(ns[k]?).getD []
set_option maxHeartbeats 8000000
set_option maxRecDepth 100000
theorem Zbhy (s:Nat) (nv:Value) (ns:List (List Nat)) (w:World) (hN:NeedsIs w nv ns) (hlt:∀x∈ns,∀y∈x,y<ns.length) (hs:s<ns.length) (hn:ns.length<=1000) (hl:∀x∈ns,x.length<=100000000):
  Calls prog 61 #[.int .i64 (s:Int),nv] w λe w'=>∃u,e = .returned u/\IsInts w' u (Zbhz s (ndOf ns) ns.length)/\Below w.heap.size w w':=by
 have mixed:prog.follows .mixedOrders=true:=by kernel_rfl
 obtain⟨i0,hi0,hz0,hz1,hz2⟩:=info_parts Zsn;obtain⟨i1,hi1,hy0,hy1,hy2⟩:=info_parts Zso;obtain⟨g,rfl,hg,hc⟩:=hN;obtain⟨N,hNN⟩:∃N,ns.length=N:=⟨_,rfl⟩;rw[hNN]at hlt hs hn⊢;have hmk:=Zyd N (by omega);obtain⟨n,hnn⟩:∃n,w.heap.size=n:=⟨_,rfl⟩;have HC:Hid (∀(k:Nat) x,ns[k]? =some x->∃a c,x.length<=c/\c<=maxLen/\(∀W,Below n w W->W.cell? ⟨g,k,none⟩=some (.slice a x.length c))/\∀(j:Nat) y,x[j]? =some y->∃b o,a=some ⟨b,o,none⟩/\∀W,Below n w W->W.cell? ⟨b,o+j,none⟩=some (.int .i64 (y:Int))):=by
  show ∀(k:Nat) x,_;intro k x hx;obtain⟨u,hu,hI⟩:=hc k x hx;obtain⟨a,c,rfl,h1,h2,h3⟩:=hI.at;rw[hnn]at h3;exact⟨a,c,h1,h2,λW hW=>(hW.cell (p:=⟨g,k,none⟩) (by rw[<-hnn];exact hg)).trans hu,h3⟩
 have HLT:Hid (∀(k:Nat) x,ns[k]? =some x->∀y∈x,y<N):=hid λk x hx=>hlt x (List.mem_of_getElem? hx)
 have HLL':Hid (∀(k:Nat) x,ns[k]? =some x->x.length<=100000000):=hid λk x hx=>hl x (List.mem_of_getElem? hx)
 obtain⟨W3,hW3⟩:∃W,((w.alloc (.cells (madeCells #[.bool false] N) 4)).alloc (.cells #[.int .i64 (s:Int)] 3)).alloc (.cells #[.slice (some ⟨n+1,0,none⟩) 1 1] 53)=W:=⟨_,rfl⟩;have hS3:RouS w n (.slice (some ⟨n+2,0,none⟩) 1 1) [[s]] (List.replicate N false) W3:=by
  have e1:((w.alloc (.cells (madeCells #[.bool false] N) 4)).alloc (.cells #[.int .i64 (s:Int)] 3)).heap.size=n+2:=by simp[hnn]
  have q2:=alloc_at ((w.alloc (.cells (madeCells #[.bool false] N) 4)).alloc (.cells #[.int .i64 (s:Int)] 3)) (.cells #[.slice (some ⟨n+1,0,none⟩) 1 1] 53);rw[e1]at q2;have q1:=alloc_at (w.alloc (.cells (madeCells #[.bool false] N) 4)) (.cells #[.int .i64 (s:Int)] 3);rw[World.size_alloc,hnn]at q1;have q0:=Zgc w N;rw[hnn]at q0;rw[hW3]at q2;have hb1:Below (n+1) (w.alloc (.cells (madeCells #[.bool false] N) 4)) W3:=by rw[<-hW3];exact((Below.refl _ _).alloc (by simp[hnn]) _).alloc (by simp[hnn]<;>omega) _
  have hb2:Below (n+2) ((w.alloc (.cells (madeCells #[.bool false] N) 4)).alloc (.cells #[.int .i64 (s:Int)] 3)) W3:=by rw[<-hW3];exact(Below.refl _ _).alloc (by simp[hnn]) _
  refine⟨⟨[.slice (some ⟨n+1,0,none⟩) 1 1],.inr ⟨n+2,0,1,_,rfl,by omega,q2,by simp,by decide,by simp,λj x hx=>?_⟩,rfl,λj u x hu hx=>?_⟩,q0.heap (hb1.block n (by omega)),?_,?_⟩
  ·have hjl:=(List.getElem?_eq_some_iff.1 hx).1
   simp only[List.length_cons,List.length_nil]at hjl;obtain rfl:j=0:=by omega
   simpa using hx
  ·have hjl:=(List.getElem?_eq_some_iff.1 hu).1
   simp only[List.length_cons,List.length_nil]at hjl;obtain rfl:j=0:=by omega
   obtain rfl:Value.slice (some ⟨n+1,0,none⟩) 1 1=u:=by simpa using hu
   obtain rfl:[s]=x:=by simpa using hx
   exact⟨rfl,.inr ⟨n+1,1,_,rfl,Nat.le_refl _,(hb2.block (n+1) (by omega)).trans q1,Nat.le_refl _,by decide,rfl,rfl⟩⟩
  ·rw[<-hW3,<-hnn];exact(((Below.refl _ _).alloc (Nat.le_refl _) _).alloc (by simp) _).alloc (by simp<;>omega) _
  ·have:=hb1.size;rw[World.size_alloc,hnn]at this;exact this
 obtain⟨si,hsi⟩:∃si:Int,(s:Int)=si:=⟨_,rfl⟩;rw[hsi]at hW3⊢;have HSI:=hid hsi;have HS3:=hid hS3;have HW3:=hid hW3;have HNN:=hid hnn;have HWK:=hid (Zbsq (nd:=ndOf ns) hs);obtain⟨RES,hRES⟩:∃R,Zbhz s (ndOf ns) N=R:=⟨_,rfl⟩;have HRES:Hid (bfsF s (ndOf ns) (N+2) [[s]] (List.replicate N false)=RES):=hRES;rw[hRES,hnn];clear hc hlt hl hS3 hW3 hRES hsi
 go_enter func61,ntmps61
 go_wp2_with fail
 rw[HW3.out]
 go_loopw [6] (λqv wr=>∃(q:List (List Nat)) (r:List Bool) (m:Nat),bfsF s (ndOf ns) m q r=RES/\q.length+cntF r<m/\WaysOk s (ndOf ns) N q r/\RouS w n qv q r wr) (λqv wr=>lenV qv+cntW wr n)
 case atStart=>exact⟨_,_,N+2,HRES.out,by rw[Zka];simp;omega,HWK.out,HS3.out⟩
 case round=>
  obtain⟨q,r,m,hE,hm,hW,hS⟩:=hrel;obtain⟨us,hq,hus,hown⟩:=id hS.row;obtain⟨qa,qc,rfl,hqc,hqm,hqcell⟩:=hq.shape;obtain⟨m,rfl⟩:∃m',m=m'+1:=⟨m-1,by omega⟩;unfold maxLen at hqm
  cases q with
  | nil=>
   obtain rfl:us = []:=List.eq_nil_of_length_eq_zero (by simpa using hus);have HB:=hid hS.below;have hE2:[]=RES:=by rw[<-hE];rfl
   have HE2:Hid (IsInts wr (.slice none 0 0) RES):=hid (by rw[<-hE2];exact⟨none,0,rfl,Nat.le_refl _,Nat.zero_le _,λh=>absurd rfl h⟩);simp only[List.length_nil]at hqc⊢;clear hE hE2 hm hW hS hq hus hown hqcell;go_wp2;go_ret;exact⟨_,rfl,HE2.out,HB.out⟩
  | cons y q=>
   cases us with
   | nil=>simp at hus
   | cons u us=>
   have hy0:=hW.ne y (by simp);have hylen:=hW.len y (by simp);have hyl:∀z∈y,z<N:=hW.lt y (by simp);have hu:=hown 0 u y rfl rfl;obtain⟨ll,hll⟩:∃ll,y.length=ll+1:=⟨y.length-1,by have:=List.length_pos_iff.2 hy0;omega⟩;obtain⟨ub,uk,ucur,eu,hub,hug,hu1,hu2,hu3,hu4⟩:∃b uk cur,u = .slice (some ⟨b,0,none⟩) (ll+1) uk/\n+1<=b/\wr.heap[b]? =some (.cells cur 3 (0,0))/\ll+1<=uk/\uk<=maxLen/\cur.size=uk*1/\cur.toList.take ((ll+1)*1)=y.map intV:=by
    rcases hu.2 with⟨_,h0⟩|⟨b,uk,cur,e1,e2,e3,e4,e5,e6,e7⟩
    ·omega
    ·rw[hll]at e1 e4 e7
     exact⟨b,uk,cur,e1,e2,e3,e4,e5,e6,e7⟩
   subst eu;obtain⟨z0,hz0⟩:∃z,y[ll]? =some z:=⟨y[ll]'(by omega),List.getElem?_eq_getElem _⟩;have hlast:y.getLastD 0=z0:=by rw[List.getLastD_eq_getLast?,List.getLast?_eq_getElem?,hll,Nat.add_sub_cancel,hz0];rfl
   have hz0l:=hyl z0 (List.mem_of_getElem? hz0);obtain⟨x,hx⟩:∃x,ns[z0]? =some x:=⟨ns[z0]'(by omega),List.getElem?_eq_getElem _⟩;obtain⟨a2,c2,h21,h22,hcell2,hel⟩:=HC.out z0 x hx;have cN:=hcell2 wr hS.below;have cU:wr.cell? ⟨ub,ll,none⟩=some (.int .i64 (z0:Int)):=by
    simp only[World.cell?,hug,Option.isSome_none,Bool.false_eq_true,if_false];have:(ucur.toList.take ((ll+1)*1))[ll]? =(y.map intV)[ll]?:=by rw[hu4]
    rw[List.getElem?_take,if_pos (by omega),List.getElem?_map,hz0]at this;simpa[intV]using this
   obtain⟨qb,qo,eq,hqb,cQ⟩:=hqcell 0 _ rfl;subst eq;simp only[Nat.add_zero]at cQ;obtain⟨L,hL⟩:∃L,us.length=L:=⟨_,rfl⟩;have hpop:=hS.pop;simp only[List.length_cons,hL,Option.map_some,Addr.add_lit,Nat.add_sub_cancel]at hpop hqc⊢;obtain⟨V6,hV6⟩:∃V,Value.slice (if qc=1 then some ⟨qb,qo,none⟩else some ⟨qb,qo+1*1,none⟩) L (qc-1)=V:=⟨_,rfl⟩;rw[hV6]at hpop;have hslq:∀W:World,(Instr.sliceAt 94 (.slice (some ⟨qb,qo,none⟩) (L+1) qc) (some (.int .i64 1)) none none).run prog W = .ok V6 W:=by
    intro W;have e1:¬(L:Int)+1<1:=by omega
    rw[<-hV6];simp[Instr.sliceAt,Instr.slice,run_underlying underlying94,sizeOf,typeInfo,hi1,hy1,Instr.sliceBounds,go_sem,e1]
   have hl0:(0:Int)<(L:Int)+1:=by omega
   have hzi:(z0:Int)<(N:Int):=by omega
   have hzi0:(0:Int)<=(z0:Int):=by omega
   obtain⟨X,hX⟩:∃X,Zbax s y x q r=X:=⟨_,rfl⟩;have hE':Zkm s (ndOf ns) m y X=RES:=by
    rw[<-hE,Zfp,hlast,show ndOf ns z0=x by unfold ndOf;rw[hx];rfl,hX]
   have HE:=hid hE';have HX:=hid hX;have HPOP:=hid hpop;have HW:=hid hW.tail;have HM:=hid hm;have HU:=hid hu;have HEL:=hid hel;have HLL:=hid hll;have HXLT:=hid (HLT.out z0 x hx);have HXL:=HLL'.out z0 x hx;have HYL:=hid hyl;have HYN:=hid hylen;have HSZ:=hid hS.marks;have HQL:Hid (L=q.length):=hid (by rw[<-hL];simpa using hus);clear hll hE hE' hX hpop hW hm hu hel hS hq hus hown hqcell hcell2 hV6 hyl hylen hug hu3 hu4 hz0 hlast hx hy0 hub;unfold maxLen at hu2 h22;have HCN:=hid (Zkc HSZ.out);obtain⟨WR,hWR⟩:∃V,V=wr:=⟨_,rfl⟩;rw[<-hWR]at HCN HPOP HU;subst hWR
   go_wp2_with fail
   go_loopw [6,34] (λqv jv wq=>∃(j:Nat) (q1:List (List Nat)) (r1:List Bool),j<=x.length/\jv = .int .i64 (j:Int)/\Zbax s y (x.drop j) q1 r1=X/\q1.length+cntF r1=q.length+cntF r/\y.length+cntF r1<=N+1/\WaysOk s (ndOf ns) N q1 r1/\RouS w n qv q1 r1 wq/\OwnInts (n+1) wq (.slice (some ⟨ub,0,none⟩) (ll+1) uk) y) (λ_ jv _=>x.length-(intOf jv).toNat)
   case atStart=>exact⟨0,q,r,Nat.zero_le _,rfl,by rw[List.drop_zero];exact HX.out,rfl,HYN.out,HW.out,HPOP.out,HU.out⟩
   case round=>
    obtain⟨j,q1,r1,hj,rfl,hX,hcnt,hyc,hW,hS,hu⟩:=hrel
    by_cases hlt:j<x.length
    ·obtain⟨z,hz⟩:∃z,x[j]? =some z:=⟨x[j],List.getElem?_eq_getElem hlt⟩
     obtain⟨eb,eo,ea,hc⟩:=HEL.out j z hz;subst ea;have cz:=hc wr hS.below;have hzl:=HXLT.out z (List.mem_of_getElem? hz);rw[Zma hz,Zbax]at hX;have hj1:(j:Int)<(x.length:Int):=by omega
     have hj0:(0:Int)<=(j:Int):=by omega
     have hzN:(z:Int)<(N:Int):=by omega
     have hzn0:(0:Int)<=(z:Int):=by omega
     by_cases hzs:z=s
     ·rw[if_pos hzs]at hX
      subst hX;have HR:Hid (IsInts wr (.slice (some ⟨ub,0,none⟩) (ll+1) uk) RES):=hid (by rw[<-HE.out];exact hu.isInts);have HB:=hid hS.below;have hzi2:(z:Int)=si:=by have:=HSI.out;omega
      clear hcnt hyc hW hS hu hc hz hzs;go_wp2;go_ret;exact⟨_,rfl,HR.out,HB.out⟩
     ·rw[if_neg hzs]at hX
      have hzi2:¬(z:Int)=si:=by have:=HSI.out;omega
      obtain⟨b,hb⟩:∃b,r1[z]? =some b:=⟨r1[z]'(by rw[hW.size];exact hzl),List.getElem?_eq_getElem _⟩;obtain⟨cm,cf⟩:=hS.marks.cell hb
      cases b
      ·rw[if_neg (by rw[hb];simp)]at hX
       have hpush:=hW.push hyc HYL.out hzl hb;have hcs:=Zkb hb;have hyN:=HYN.out;have hcl:cntF r1<=N:=by have:=List.countP_le_length (p:=λx=>x==false) (l:=r1);rw[hW.size]at this;exact this
       obtain⟨W1,hW1⟩:∃W,wr.setCell ⟨n,z,none⟩ (.bool true)=W:=⟨_,rfl⟩;have hS1:=hS.mark (x:=z);have hu1:OwnInts (n+1) W1 (.slice (some ⟨ub,0,none⟩) (ll+1) uk) y:=by
        rw[<-hW1];refine Zbdo hu (row:=some n) ⟨rfl,rfl,rfl,by simp[World.setCell],λk _ hk=>Below.heap_setCell wr _ _ k (λe=>hk (by rw[e]))⟩ λk e hb=>?_
        have:=(hu.type hb).1;have:=Option.some.inj e;omega
       rw[hW1]at hS1;have hyl2:y.length<=1001:=by omega
       have CC:=hid (Zjg _ y W1 hu1.isInts (by omega));have HS1:=hid hS1;have HU1:=hid hu1;have HW1:=hid hW1;have HX2:=hid hX;have HCT:Hid ((q1 ++ [y ++ [z]]).length+cntF (r1.set z true)=q.length+cntF r):=hid (by rw[List.length_append];simp only[List.length_cons,List.length_nil];omega);have HYC:Hid (y.length+cntF (r1.set z true)<=N+1):=hid (by omega);have HW2:=hid hpush;have HYL2:=hid hyl2;have HQ1:Hid (q1.length<=1001):=hid (by have:=hW.many;omega);have HN1:Hid (n+1<=W1.heap.size):=hid hS1.size;clear hX hcnt hyc hW hS hu hc hz hb hzs hpush hcs hyN hcl hS1 hu1 hW1 hyl2
       go_wp2_with (first|(go_at_call 108;rw[HW1.out];(with_reducible refine CC.out.mono ?_);rintro e w2 ⟨v2,rfl,ho2,hb2⟩;obtain⟨p2,k2,rfl⟩:=Zbeb ho2;have HO2:=hid (show w2.ownsRow W1.heap.size 3 1 _ _ _ from ho2);have HB2:=hid hb2;clear ho2 hb2)|(at_builtin;(refine wpList_append_own _ rfl _ _ 53 rfl W1.heap.size 3 i0 _ 1 8 underlying53 hi0 hz0 hz1 hz2 rfl (by decide) _ _ _ rfl (World.ownsRow.alloc HO2.out _) ⟨w2.heap.size,0,none⟩ 1 1 [.int .i64 (z:Int)] rfl rfl (cell_one_new _ _ _) ?qc3 ?qc4 ?qc5 ?qc6 ?_)))
       case qc3=>intro u hu;simp at hu;subst hu;rfl
       case qc4=>have:=HYL2.out;unfold maxLen;omega
       case qc5=>have:=HYL2.out;omega
       case qc6=>have:=HB2.out.size;simp;omega
       intro v3 w3 ho3 hg3 _;obtain⟨p3,k3,rfl⟩:=Zbeb ho3;have hb3:Below W1.heap.size W1 w3:=(HB2.out.alloc HB2.out.size _).grown hg3 (by have:=HB2.out.size;simp;omega) (λk e=>((World.ownsRow.alloc HO2.out (.cells #[.int .i64 (z:Int)] 3)).lt k e).1);have hz3:=hb3.size;have hS3:=HS1.out.later (below_grown (hb3.alloc hz3 (.cells #[.slice p3 (y.length+1) k3] 53)) (Nat.le_refl _));have hu3:=Zbdo HU1.out (below_grown (hb3.alloc hz3 (.cells #[.slice p3 (y.length+1) k3] 53)) (Nat.le_refl _)) (by simp);have ho3':OwnInts (n+1) (w3.alloc (.cells #[.slice p3 (y.length+1) k3] 53)) (.slice p3 (y.length+1) k3) (y ++ [z]):=by
        have h:w3.ownsRow (n+1) 3 1 (.slice p3 (y.length+1) k3) (y.length+1) (y.map intV ++ [.int .i64 (z:Int)]):=Zbdt ho3 HN1.out;unfold OwnInts;rw[List.length_append,List.map_append];exact World.ownsRow.alloc h _
       obtain⟨us3,hq3,hus3,hown3⟩:=id hS3.row;have hq3l:us3.length<=1001:=by have:=HQ1.out;omega
       have HS3':=hid hS3;have HU3:=hid hu3;have HO3:=hid ho3';have HQ3:=hid hq3;have HUS3:=hid hus3;have HOW3:=hid hown3;have HB3:=hid hb3;clear ho3 hg3 hb3 hS3 hu3 ho3' hq3 hus3 hown3
       go_wp2_with (at_builtin;refine Zbug rfl _ _ 94 rfl (n+1) 53 i1 _ 24 underlying94 hi1 hy0 hy1 hy2 rfl _ us3 rfl HQ3.out ⟨w3.heap.size,0,none⟩ 1 (.slice p3 (y.length+1) k3) rfl ?qd1 rfl ?qd3 ?qd4 ?qd5 ?_)
       case qd1=>exact cell_one_new _ _ _ 0 _ rfl
       case qd3=>unfold maxLen;omega
       case qd4=>omega
       case qd5=>have:=HN1.out;simp;omega
       intro v5 w5 hq5 hg5 _;have HS5:=hid (HS3'.out.push HQ3.out HUS3.out HOW3.out HO3.out hq5 hg5);have HU5:=hid (Zbdo HU3.out hg5 (q_ne HQ3.out HU3.out));clear hq5 hg5;go_wp2;go_roundw
       case rel=>exact⟨j+1,_,_,by omega,by go_num,HX2.out,HCT.out,HYC.out,HW2.out,HS5.out,HU5.out⟩
       case measure=>simp[intOf];omega
      ·rw[if_pos hb]at hX
       have HX2:=hid hX;have HCT:=hid hcnt;have HYC:=hid hyc;have HW2:=hid hW;have HS:=hid hS;have HU2:=hid hu;clear hX hcnt hyc hW hS hu hc hz hb hzs;go_wp2;go_roundw
       case rel=>exact⟨j+1,q1,r1,by omega,by go_num,HX2.out,HCT.out,HYC.out,HW2.out,HS.out,HU2.out⟩
       case measure=>simp[intOf];omega
    ·obtain rfl:j=x.length:=by omega
     rw[List.drop_length,Zbax]at hX;subst hX;have HE3:Hid (bfsF s (ndOf ns) m q1 r1=RES):=HE.out;have hj1:¬(x.length:Int)<(x.length:Int):=by omega
     have HCT:=hid hcnt;have HW2:=hid hW;have HS:=hid hS;clear hcnt hyc hW hS hu;go_wp2;go_roundw
     case rel=>
      refine⟨q1,r1,m,HE3.out,?_,HW2.out,HS.out⟩;have h1:=HM.out;rw[List.length_cons]at h1;have h2:=HCT.out;omega
     case measure=>
      obtain⟨us2,hq2,hus2,_⟩:=HS.out.row;obtain⟨_,_,e2,_⟩:=hq2.shape;rw[e2,HCN.out,Zkc HS.out.marks];show us2.length+cntF r1<L+1+cntF r;have h1:=HCT.out;have h2:=HQL.out;omega
theorem Zjp:∀(a b:List UInt8),Lib.compareBytes a b=0->a=b
 | [],[],_=>rfl
 | [],_::_,h=>by simp[Lib.compareBytes]at h
 | _::_,[],h=>by simp[Lib.compareBytes]at h
 | a::xs,b::ys,h=>by
  have e:Lib.compareBytes (a::xs) (b::ys)=if a<b then -1 else if b<a then 1 else Lib.compareBytes xs ys:=by rw[Lib.compareBytes]
  rw[e]at h;split at h
  ·omega
  rename_i h1
  split at h
  ·omega
  rename_i h2
  rw[UInt8.le_antisymm (UInt8.not_lt.1 h2) (UInt8.not_lt.1 h1),Zjp xs ys h]
theorem Zbnh {rs ys:List RuleS} (hnd:∀(i j:Nat) x y,rs[i]? =some x->rs[j]? =some y->i<j->x.name≠y.name) (hp:ys.Perm rs) (hb:Zac ys):ys=Zbng rs:=by
 have hinj:∀x∈rs,∀y∈rs,x.name=y.name->x=y:=by
  intro x hx y hy e;obtain⟨i,hi⟩:=List.getElem?_of_mem hx;obtain⟨j,hj⟩:=List.getElem?_of_mem hy
  rcases Nat.lt_trichotomy i j with h|h|h
  ·exact absurd e (hnd i j x y hi hj h)
  ·subst h;rw[hi]at hj;exact Option.some.inj hj
  ·exact absurd e.symm (hnd j i y x hj hi h)
 have hpm:(Zbng rs).Perm rs:=List.mergeSort_perm _ _;have htr:∀(a b c:RuleS),nmLe a b=true->nmLe b c=true->nmLe a c=true:=by
  intro a b c h1 h2;have:=pre5.2 (a.name,(none,0,0),(none,0,0),(none,0,0),(none,0,0)) (b.name,(none,0,0),(none,0,0),(none,0,0),(none,0,0)) (c.name,(none,0,0),(none,0,0),(none,0,0),(none,0,0)) h1 h2;exact this
 have hto:∀(a b:RuleS),(nmLe a b||nmLe b a)=true:=by
  intro a b;unfold nmLe;have:=Zjv a.name.data.toList b.name.data.toList;rw[Bool.or_eq_true,decide_eq_true_eq,decide_eq_true_eq];omega
 have hsm:(Zbng rs).Pairwise λx y=>Lib.compareBytes x.name.data.toList y.name.data.toList<=0:=(List.pairwise_mergeSort htr hto rs).imp λh=>of_decide_eq_true h
 refine List.Perm.eq_of_pairwise (λa b ha hb' h1 h2=>?_) hb hsm (hp.trans hpm.symm);refine hinj a (hp.mem_iff.1 ha) b (hpm.mem_iff.1 hb') (Zgy (Zjp _ _ ?_));have:=Zjv a.name.data.toList b.name.data.toList;omega
set_option maxRecDepth 100000
set_option maxHeartbeats 8000000
theorem Zkf (sb:Nat) (v:Value) (rs:List RuleS) (w:World) (hb:Boxed w sb 22 v) (hv:RulesI w v rs) (hn:rs.length<=1000000):
  Calls prog 101 #[.func (.func 103) #[] #[.pointer (some ⟨sb,0,none⟩)]] w λe w'=>∃u rows,e = .returned u/\AllA (RuleI w) rows rs/\w'.ownsRow w.heap.size 37 5 u rows.length rows.flatten/\Below w.heap.size w w':=by
 obtain⟨rows,hrow,hall⟩:=hv;obtain⟨a,c,rfl,hlc,hcm,hcells⟩:=id hrow;have h5:∀r∈rows,∃s p1 n1 k1 p2 n2 k2 p3 n3 k3 p4 n4 k4,r = [.string s,.slice p1 n1 k1,.slice p2 n2 k2,.slice p3 n3 k3,.slice p4 n4 k4]:=by
  intro r hr;obtain⟨j,hj⟩:=List.getElem?_of_mem hr;obtain⟨x,hx⟩:∃x,rs[j]? =some x:=⟨rs[j]'(by rw[<-hall.1];exact(List.getElem?_eq_some_iff.1 hj).1),List.getElem?_eq_getElem _⟩;obtain⟨⟨n,⟨a1,b1,c1⟩,⟨a2,b2,c2⟩,⟨a3,b3,c3⟩,⟨a4,b4,c4⟩⟩,e,_⟩:=Zbit (hall.2 j r x hj hx);exact⟨_,_,_,_,_,_,_,_,_,_,_,_,_,e⟩
 have CA:=hid ((callsIn_wide (n:=5)).1 (Zdo 5 sb (by omega) a c rows w hb hrow h5 (if rows = []then none else a) (λh=>by rw[if_neg h]) (λg hg=>by
  by_cases h:rows = []
  ·rw[if_pos h]at hg;cases hg
  ·rw[if_neg h]at hg
   obtain⟨b,o,rfl,hbl,_⟩:=hcells h;obtain rfl:b=g:=by simpa using hg
   exact hbl) (by rw[hall.1];omega)))
 have HALL:=hid hall;clear hb hrow hall hcells h5
 go_enter func101,ntmps101
 go_wp2_with (go_at_call 149;(with_reducible refine CA.out.mono ?_);rintro e w2 ⟨u,rfl,ho,hb2⟩;have HO:=hid ho;have HB2:=hid hb2;clear ho hb2)
 go_ret;exact⟨_,rows,rfl,HALL.out,HO.out,HB2.out⟩
theorem Zbmn (sb:Nat) (v:Value) (rs:List RuleS) (w:World) (hb:Boxed w sb 22 v) (hv:RulesI w v rs) (hn:rs.length<=1000000):
  Calls prog 56 #[.func (.func 103) #[] #[.pointer (some ⟨sb,0,none⟩)],.func (.func 58) #[] #[]] w λe w'=>∃u ys,e = .returned u/\ys.Perm rs/\Zac ys/\RulesI w' u ys/\Below w.heap.size w w':=by
 have CC:=hid (Zkf sb v rs w hb hv hn);clear hb hv
 go_enter func56,ntmps56
 go_wp2_with (first
  | (go_at_call 101;(with_reducible refine CC.out.mono ?_);rintro e w2 ⟨u,rows,rfl,hall,ho,hb2⟩;have CS:=hid (Zbmh w.heap.size u rs rows w w2 rfl hb2 ho hall hn);clear hall ho hb2)
  | (go_at_call 102;(with_reducible refine CS.out.mono ?_);rintro e w3 ⟨rfl,ys,hp,hby,hri,hb3⟩;have HP:=hid hp;have HBY:=hid hby;have HRI:=hid hri;have HB3:=hid hb3;clear hp hby hri hb3))
 go_ret;exact⟨_,ys,rfl,HP.out,HBY.out,HRI.out,HB3.out⟩
end Go.Proofs.YtcpjfpdecklkgaaGreatDoor
