import Derived.Shelf.Spec.SlicesGrow
import Derived.Laws.AppendOwnNone
import Derived.Test.YtphjfaoghphleaaGreatDoorMaw
import Derived.Sort.OwnSortedInts
set_option maxRecDepth 100000
set_option maxHeartbeats 8000000
namespace Go.Proofs.YtphjfaoghphleaaGreatDoor
open Go.Lib (hid)
open Go.Proofs.Tryz Go.RowKit Go.Shelf Go.Maps
def Zrj:Go.Shelf.Ren:=⟨fun|4=>226|n=>n,fun|0=>0|3=>3|4=>4|9=>9|20=>20|22=>131|25=>3|n=>n,λn=>n⟩
theorem lGw:Go.Proofs.Lays8.n4 prog Zrj:={
 mixed:=by kernel_rfl
 f4:=⟨"slices.Grow[[]int,int]",by decide,func226.trans (congrArg some (by kernel_rfl))⟩
 t0:=underlying0
 a0:=isAgg0
 z0:=sizeOf0
 v0:=zeroValue0
 t3:=underlying3
 a3:=isAgg3
 z3:=sizeOf3
 v3:=zeroValue3
 t4:=underlying4
 a4:=isAgg4
 z4:=sizeOf4
 v4:=zeroValue4
 t9:=underlying9
 a9:=isAgg9
 z9:=sizeOf9
 v9:=zeroValue9
 t20:=underlying20
 a20:=isAgg20
 z20:=sizeOf20
 v20:=zeroValue20
 t22:=underlying131
 a22:=isAgg131
 z22:=sizeOf131
 v22:=zeroValue131 }
theorem Zqv (base:Option Addr) (l c n:Nat) (w:World) (f:l<=c) (b:c<=9223372036854775807) (d:n<=9223372036854775807) (a:l+n<=c):Calls prog 226 #[.slice base l c,.int .i64 n] w λe w'=>e = .returned (.slice base l c)/\w'=w:=
 Any8.slices_Grow_room lGw base l c n w f b d a
theorem Zqu (n:Nat) (w:World) (j:n<=1000000000):Calls prog 226 #[.slice none 0 0,.int .i64 (n:Int)] w λe w'=>∃v,e = .returned v/\w'.ownsRow w.heap.size 3 1 v 0 []/\Below w.heap.size w w':=by
 rcases Nat.eq_zero_or_pos n with rfl|o
 ·refine(Zqv none 0 0 0 w (Nat.le_refl _) (by omega) (by omega) (by omega)).mono ?_
  rintro e w' ⟨rfl,rfl⟩;exact⟨_,rfl,⟨rfl,.inl ⟨rfl,rfl⟩⟩,Below.refl _ _⟩
 obtain⟨m,l,f,g,i⟩:=info_parts Zsn;have:=Any8.slices_Grow_grow lGw m _ l f (by rw[g];decide) none 0 0 n [] w (Nat.le_refl _) (by omega) (by rw[i];omega) (by omega) (by simp) (λ_=>rfl) (λa h=>by cases h);refine Calls.mono this ?_;rintro e w' ⟨rfl,rfl⟩;have d:=grownCap_ge w (0+n) 0 (Zrj.t 25);have b:=grownCap_le_maxLen w (0+n) 0 (Zrj.t 25) (by unfold maxLen;omega);obtain⟨c,k⟩:∃c,grownCap w (0+n) 0 (Zrj.t 25)=c:=⟨_,rfl⟩;rw[k]at d b⊢;refine⟨_,rfl,⟨rfl,.inr ⟨w.heap.size,c,_,rfl,Nat.le_refl _,alloc_at w.drew _,Nat.zero_le _,b,?_,rfl⟩⟩,?_⟩
 ·rw[Array.size_append,Array.size_append,size_zeroCells,size_zeroCells]
  show 0+(0+n-0)*1+(c-(0+n))*1=c*1;omega
 ·exact(below_drewN (Below.refl _ w) 1).alloc (Nat.le_refl _) _
theorem Zpi {a:List (List Nat)} {k:Nat} {x:List Nat} (h:a[k]? =some x):(a.take (k+1)).flatten=(a.take k).flatten++x:=by
 rw[List.take_add_one,h,List.flatten_append];simp
theorem Zpe (a:List (List Nat)) (k:Nat):(a.take k).flatten.length<=a.flatten.length:=by
 have:=congrArg (λl:List (List Nat)=>l.flatten.length) (List.take_append_drop k a);simp only[List.flatten_append,List.length_append]at this;omega
theorem Zkl (g:Nat) (d:List (List Nat)) (c:Nat) (w:World) (hl:d.length<=1000) (ax:d.length<=c) (af:c<=maxLen) (hg:g<w.heap.size) (hc:∀(k:Nat) x,d[k]? =some x->∃v,w.cell? ⟨g,k,none⟩=some v/\IsInts w v x/\∀c,v = .slice none 0 c->c=0) (L:d.flatten.length<=100000000):
  Calls prog 176 #[.slice (some ⟨g,0,none⟩) d.length c] w λe w'=>∃v,e = .returned v/\w'.ownsRow w.heap.size 3 1 v d.flatten.length (d.flatten.map intV)/\Below w.heap.size w w':=by
 obtain⟨i0,hi,ao,ap,aq⟩:=info_parts Zsn;have HC:Hid (∀(k:Nat) x,d[k]? =some x->∃a m,(IsInts w (.slice a x.length m) x/\(a=none->x.length=0->m=0))/\∀w',Below w.heap.size w w'->w'.cell? ⟨g,k,none⟩=some (.slice a x.length m)):=by
  show ∀(k:Nat) x,_;intro k x hx;obtain⟨v,hv,l,ak⟩:=hc k x hx;obtain⟨a,m,rfl,_⟩:=id l;exact⟨a,m,⟨l,λh h0=>ak m (by rw[h,h0])⟩,λw' hw=>(hw.cell (p:=⟨g,_,none⟩) hg).trans hv⟩
 have HR:Hid (Below w.heap.size w w):=hid (Below.refl _ _);have HT:=hid L;obtain⟨fl,B⟩:∃fl,d.flatten=fl:=⟨_,rfl⟩;rw[B];have ab:=hid B;unfold maxLen at af;clear hc L B
 go_enter func176,ntmps176
 go_wp2
 go_loopw [3,5,11,12,13,14,15,16,17,18,19,20,21,22] (λsz _ R _ _ _ _ _ _ _ _ _ _ _ wr=>∃k:Nat,k<=d.length/\R = .int .i64 (k:Int)/\sz = .int .i64 ((d.take k).flatten.length:Int)/\w=wr) (λ_ _ R _ _ _ _ _ _ _ _ _ _ _ _=>d.length-(intOf R).toNat)
 case atStart=>exact⟨0,Nat.zero_le _,rfl,rfl,rfl⟩
 case round=>
  obtain⟨k,hk,rfl,rfl,rfl⟩:=hrel
  by_cases ai:k<d.length
  ·obtain⟨x,hx⟩:∃x,d[k]? =some x:=⟨d[k],List.getElem?_eq_getElem ai⟩
   obtain⟨a,m,l,z⟩:=HC.out k x hx;have cx:=z _ HR.out;have ah:(k:Int)<(d.length:Int):=by omega
   have av:(0:Int)<=(k:Int):=by omega
   have i:=congrArg List.length (Zpi hx);rw[List.length_append]at i;have D:=Zpe d (k+1);have L:=HT.out;obtain⟨q,O⟩:∃q,(d.take k).flatten.length=q:=⟨_,rfl⟩;obtain⟨xl,Q⟩:∃xl,x.length=xl:=⟨_,rfl⟩;rw[O,Q]at i;rw[O];rw[Q]at cx;have I:=hid i;have az:q+xl<=100000000:=by omega
   clear i D L O Q l z hx;go_wp2;go_roundw
   case rel=>exact⟨k+1,by omega,by go_num,by rw[I.out];go_num,by first|rfl|trivial⟩
   case measure=>simp[intOf];omega
  ·have ah:¬(k:Int)<(d.length:Int):=by omega
   have A:(d.take k).flatten=d.flatten:=by rw[List.take_of_length_le (by omega)]
   rw[A];have L:=HT.out;obtain⟨q,O⟩:∃q,d.flatten.length=q:=⟨_,rfl⟩;rw[O]at L⊢;have CG:=hid (Zqu q w (by omega));have HQ:=hid O;clear A O
   go_wp2_with (go_at_call 226;(with_reducible refine CG.out.mono ?_);rintro e w2 ⟨nv,rfl,H,U⟩;have ac:=hid H;have Z:=hid U;clear H U)
   go_loopw [6,8,27,28,29,30,31,32,33,34] (λnv _ R _ _ _ _ _ _ _ wr=>∃k:Nat,k<=d.length/\R = .int .i64 (k:Int)/\wr.ownsRow w.heap.size 3 1 nv (d.take k).flatten.length ((d.take k).flatten.map intV)/\Below w.heap.size w wr) (λ_ _ R _ _ _ _ _ _ _ _=>d.length-(intOf R).toNat)
   case atStart=>exact⟨0,Nat.zero_le _,rfl,by simpa using ac.out,Z.out⟩
   case round=>
    obtain⟨t,aw,rfl,f,S⟩:=hrel;have Y:=hid S
    by_cases W:t<d.length
    ·obtain⟨x,hx⟩:∃x,d[t]? =some x:=⟨d[t],List.getElem?_eq_getElem W⟩
     obtain⟨a,m,⟨l,M⟩,z⟩:=HC.out t x hx;have cx:=z _ Y.out;have V:(t:Int)<(d.length:Int):=by omega
     have ar:(0:Int)<=(t:Int):=by omega
     have i:=Zpi hx;have D:=Zpe d (t+1);have L:=HQ.out;obtain⟨F,hF⟩:∃F,(d.take t).flatten=F:=⟨_,rfl⟩;rw[hF]at f i;have au:F.length+x.length<=100000000:=by rw[i,List.length_append]at D;omega
     have I:=hid i;have n:=hid f;have al:=S.size;obtain⟨a',m',ev,an,ay,K⟩:=(l.below S).at;obtain⟨ea,_,em⟩:=Value.slice.inj ev;subst ea em
     cases a with
     | none=>
      have am:x = []:=by
       cases x with
       | nil=>rfl
       | cons y r=>obtain⟨b,o,e,_⟩:=K 0 y rfl;cases e
      subst am;clear i D hF f l z hx K S ev;simp only[List.length_nil]at cx an;have aj:m=0:=M rfl rfl;clear M;subst aj
      go_wp2_with (at_builtin;refine wpList_append_own_none rfl _ _ 131 rfl w.heap.size 3 i0 1 underlying131 hi _ _ _ rfl n.out rfl ?_)
      go_roundw
      case rel=>exact⟨t+1,by omega,by go_num,by rw[I.out,List.append_nil];exact n.out,Y.out⟩
      case measure=>simp[intOf];omega
     | some ad=>
      have s:∀j u,(x.map intV)[j]? =some u->wr.cell? (ad.add j)=some u:=by
       intro j u J;rw[List.getElem?_map]at J
       cases P:x[j]? with
       | none=>rw[P]at J;cases J
       | some y=>
        rw[P]at J;obtain rfl:intV y=u:=by simpa using J
        obtain⟨b,o,e,ag⟩:=K j y P;obtain rfl:=Option.some.inj e;have:=ag wr (Below.refl _ _)
        by_cases hj:j=0
        ·subst hj;simpa[Addr.add,intV]using this
        ·simpa[Addr.add,hj,intV]using this
      have T:=hid s;clear i D hF f l z hx K S s ev M
      go_wp2_with (at_builtin;refine wpList_append_own _ rfl _ _ 131 rfl w.heap.size 3 i0 _ 1 8 underlying131 hi ao ap aq rfl (by decide) _ _ _ rfl n.out ad x.length m (x.map intV) rfl (by simp) ?qc2 ?qc3 ?qc4 ?qc5 ?qc6 ?_)
      case qc2=>first|exact T.out|(intro j u J;exact T.out j _ (by rw[List.getElem?_map,J];rfl))
      case qc3=>intro u J;first|rfl|(obtain⟨y,_,rfl⟩:=List.mem_map.1 J;rfl)
      case qc4=>unfold maxLen;omega
      case qc5=>omega
      intro v' w1 E C X;have G:=n.out;have aa:=hid (Y.out.grown C al (λj e=>(G.lt j e).1));have ae:=hid (show w1.ownsRow w.heap.size 3 1 v' (d.take (t+1)).flatten.length ((d.take (t+1)).flatten.map intV) by rw[I.out,List.length_append,List.map_append];exact E);clear E C X G;go_wp2;go_roundw
      case rel=>exact⟨t+1,by omega,by go_num,ae.out,aa.out⟩
      case measure=>simp[intOf];omega
    ·have V:¬(t:Int)<(d.length:Int):=by omega
     have A:(d.take t).flatten=d.flatten:=by rw[List.take_of_length_le (by omega)]
     rw[A]at f;rw[ab.out]at f;have HF:=hid f;clear f A S;go_wp2;go_ret;refine⟨u6,rfl,?_,Y.out⟩;exact HF.out
open Go.Sort
theorem e189:nmRen.f 189=178:=by kernel_rfl
def OwnInts (B:Nat) (w:World) (v:Value) (xs:List Nat):Prop:=w.ownsRow B 3 1 v xs.length (xs.map intV)
def srtN (xs:List Nat):List Nat:=xs.mergeSort λx y=>decide (x<=y)
theorem Zbnf (xs:List Nat):(srtN xs).length=xs.length:=List.length_mergeSort _
theorem Zbne (xs:List Nat):((xs.map λ(x:Nat)=>(x:Int)).mergeSort λx y=>decide (x<=y))=(srtN xs).map λ(x:Nat)=>(x:Int):=by
 unfold srtN;rw[List.map_mergeSort];intro a _ b _;simp
theorem Ztl (xs:List Nat):(xs.map λ(x:Nat)=>(x:Int)).map (Value.int .i64)=xs.map intV:=by rw[List.map_map];rfl
theorem Zbme (B g c:Nat) (xs:List Nat) (w:World) (h:OwnInts B w (.slice (some ⟨g,0,none⟩) xs.length c) xs) (y:xs.length<=8796093022208):
  Calls prog 178 #[.slice (some ⟨g,0,none⟩) xs.length c] w λe w'=>e = .returned (.tuple #[])/\OwnInts B w' (.slice (some ⟨g,0,none⟩) xs.length c) (srtN xs)/\w.grownBy w' (some g):=by
 obtain⟨v,⟨i,_⟩|⟨u,j,l,i,b,d,m,o,p,q⟩⟩:=h
 ·cases i
 cases i
 have a:(xs.map λ(x:Nat)=>(x:Int)).length=xs.length:=by simp
 have r:Holds (Value.int .i64) w g 0 (xs.map λ(x:Nat)=>(x:Int)).toArray:=holds_of_blockI d (by rw[a,Ztl];simpa using q);have f:g<w.heap.size:=(Array.getElem?_eq_some_iff.1 d).1;have t:(xs.map λ(x:Nat)=>(x:Int)).length<4611686018427387904:=by rw[a];omega
 have s:=λD:Nat=>AnyS.slices_Sort_int_in lLays_n189 D g 0 c (xs.map λ(x:Nat)=>(x:Int)) w r f t
 have k:=calls_of_every_depth s;rw[e189,a,Zbne]at k;refine k.mono ?_;rintro e w' ⟨rfl,n,os,rfl⟩;refine⟨rfl,?_,grownBy_sortedI _⟩;have:=ownsRow_sortedI (n:=n) (os:=os) (ts:=(srtN xs).map λ(x:Nat)=>(x:Int)) (ss:=xs.map λ(x:Nat)=>(x:Int)) (cap:=c) (by simp[Zbnf]) b d (by rw[a];exact m) o p;rw[Ztl,a]at this;unfold OwnInts;rw[Zbnf];exact this
theorem Zbmf (a:Option Addr) (c:Nat) (w:World):Calls prog 178 #[.slice a 0 c] w λe w'=>e = .returned (.tuple #[])/\w'=w:=by
 have:=Any.slices_Sort_int_none lLays_n189 a c w
 rwa [e189]at this
def Zbdg (rs:List RuleS) (k:Nat):List ByteArray:=(rs[k]?.map (·.outs)).getD []
def Zta (rs:List RuleS) (k:Nat):List ByteArray:=(rs[k]?.map (·.ins)).getD []
def Zcs (rs:List RuleS) (k:Nat):List ByteArray:=(rs[k]?.map (·.after)).getD []
def Zbru (f:ByteArray->Option Nat) (ks:List ByteArray) (i:Nat):ByteArray->Option Nat:=ks.foldl (λf k=>updF f k i) f
def plcN (rs:List RuleS):Nat->ByteArray->Option Nat
 | 0=>λ_=>none
 | k+1=>updF (plcN rs k) (nmAt rs k) k
def mkrN (rs:List RuleS):Nat->ByteArray->Option Nat
 | 0=>λ_=>none
 | k+1=>Zbru (mkrN rs k) (Zbdg rs k) k
def Zban (rs:List RuleS) (k:Nat):List Nat:=srtN ((Zta rs k).filterMap (mkrN rs rs.length)++(Zcs rs k).filterMap (plcN rs rs.length))
theorem Zbrw {ks:List ByteArray} {j:Nat} {x:ByteArray} (f:ByteArray->Option Nat) (i:Nat) (h:ks[j]? =some x):Zbru f (ks.take (j+1)) i=updF (Zbru f (ks.take j) i) x i:=by
 unfold Zbru;rw[List.take_add_one,h,List.foldl_append];rfl
theorem Zbfm {k j:Nat} (h:k<=1000) (b:j<=1048576):k*1048576+j<=4000000000000000:=by
 have a:k*1048576<=1048576000:=Nat.mul_le_mul_right 1048576 h;generalize k*1048576=q at a⊢;omega
theorem Zbfn (k:Nat) {j m:Nat} (h:m<=1048576) (a:j<=m):k*1048576+j<=(k+1)*1048576:=by
 rw[Nat.succ_mul];exact Nat.add_le_add_left (Nat.le_trans a h) _
theorem OwnInts.isInts {B:Nat} {w:World} {v:Value} {xs:List Nat} (h:OwnInts B w v xs):IsInts w v xs:=Zbdp h
theorem Zye (n:Nat) (f:n<=1000000000) (w:World):(Instr.makeSlice 173 (.int .i64 (n:Int)) (.int .i64 (n:Int))).run prog w = .ok (.slice (some ⟨w.heap.size,0,none⟩) n n) (w.alloc (.cells (madeCells #[.slice none 0 0] n) 131)):=by
 obtain⟨e,b,d,c,a⟩:=info_parts (show(prog.info? 131).map (λi=>(i.zero,i.size,i.bytes))=some (some (.slice none 0 0),1,24) by kernel_rfl);have:=run_make (P:=prog) w 173 131 e (.slice none 0 0) underlying173 b d .i64 .i64 n n (by omega) (Int.le_refl _) (by rw[a];omega) (by omega);rw[c,show(Value.slice none 0 0).cells = #[.slice none 0 0]from rfl]at this;simpa using this
theorem Zbiu {w:World} {r:RuleS} {a c d e:Option Addr} {b f g h:Nat} (j:RuleI w [.string r.name,.slice a r.ins.length b,.slice c r.outs.length f,.slice d r.after.length g,.slice e r.steps.length h] r):IsStrs w (.slice a r.ins.length b) r.ins:=by
 obtain⟨o,p,n,s,q,i,k,l,m⟩:=j;simp only[List.cons.injEq,and_true,true_and]at q;obtain⟨rfl,rfl,rfl,rfl⟩:=q;exact i
theorem Zbeb {B:Nat} {w:World} {v:Value} {n:Nat} {xs:List Value} {t:TypeId} (h:w.ownsRow B t 1 v n xs):∃a c,v = .slice a n c:=by
 rcases h.2 with⟨rfl,rfl⟩|⟨g,b,d,e,_⟩
 ·exact⟨_,_,rfl⟩
 ·exact⟨_,_,e⟩
theorem Zbdw {B:Nat} {w:World} {v:Value} {n:Nat} {xs:List Value} {t:TypeId} (h:w.ownsRow B t 1 v n xs):∀c,v = .slice none 0 c->c=0:=by
 rintro c rfl
 rcases h.2 with⟨e,_⟩|⟨g,a,b,e,_⟩
 ·exact(Value.slice.inj e).2.2
 ·cases e
def NeedsIs (w:World) (v:Value) (ns:List (List Nat)):Prop:=∃g,v = .slice (some ⟨g,0,none⟩) ns.length ns.length/\g<w.heap.size/\∀(k:Nat) x,ns[k]? =some x->∃u,w.cell? ⟨g,k,none⟩=some u/\IsInts w u x
theorem Zbau (v:Value) (rs:List RuleS) (w:World) (hv:RulesI w v rs) (hs:∀r∈rs,SmallR r 1048576) (hn:rs.length<=1000):
  Calls prog 126 #[v] w λe w'=>∃u,e = .returned u/\NeedsIs w' u ((List.range rs.length).map (Zban rs))/\Below w.heap.size w w':=by
 have mixed:prog.follows .mixedOrders=true:=by kernel_rfl
 have ce:=@run_makeMap prog;have cd:=Zye rs.length (by omega);obtain⟨va,vc,rfl,aj,bV⟩:=Zbjn hv;obtain⟨n,L⟩:∃n,w.heap.size=n:=⟨_,rfl⟩;obtain⟨W2,aa⟩:∃W,(w.alloc (.map #[] 0)).alloc (.map #[] 0)=W:=⟨_,rfl⟩;have aP:Below n w W2:=by rw[<-aa,<-L];exact((Below.refl _ _).alloc (Nat.le_refl _) _).alloc (by simp) _
 have bi:W2.heap.size=n+2:=by rw[<-aa];simp[L]
 have bc:PlcIs W2 n 0 (plcN rs 0):=by
  have:=Zbfc w;rw[L]at this;rw[<-aa];exact this.heap (Below.heap_alloc _ _ _ (by simp[L]))
 have aU:PlcIs W2 (n+1) 0 (mkrN rs 0):=by
  have:=Zbfc (w.alloc (.map #[] 0));rw[World.size_alloc,L]at this;rw[<-aa];exact this
 have HV:=hid hv;have HS:=hid hs;have ac:=hid L;have b9:=hid aa;have bp:=hid aP;have b5:=hid bi;have b0:=hid bc;have br:=hid aU;unfold maxLen at bV;rw[L];clear hv hs aa aP bi bc aU
 go_enter func126,ntmps126
 go_wp2_with fail
 rw[b9.out]
 go_loopw [5,6,8,16,17,18,19,20,21,22,23,24,25,26,27,28,29,30,31,32,33,34,35,36] (λ_ _ _ iv _ _ _ _ _ _ _ _ _ _ _ _ _ _ _ _ _ _ _ _ wr=>∃k:Nat,k<=rs.length/\iv = .int .i64 (k:Int)/\PlcIs wr n k (plcN rs k)/\PlcIs wr (n+1) (k*1048576) (mkrN rs k)/\Below n w wr/\n+2<=wr.heap.size) (λ_ _ _ iv _ _ _ _ _ _ _ _ _ _ _ _ _ _ _ _ _ _ _ _ _=>rs.length-(intOf iv).toNat)
 case atStart=>exact⟨0,Nat.zero_le _,rfl,b0.out,by simpa using br.out,bp.out,by rw[b5.out];omega⟩
 case round=>
  obtain⟨k,hk,rfl,Q,B,d,C⟩:=hrel
  by_cases aC:k<rs.length
  ·obtain⟨y,hy⟩:∃y,rs[k]? =some y:=⟨rs[k],List.getElem?_eq_getElem aC⟩
   have ag:Below w.heap.size w wr:=by rw[ac.out];exact d
   obtain⟨g,o,aN,a1,c1,a2,c2,a3,c3,a4,c4,e,hg,R,am⟩:=Zbjm HV.out hy;obtain⟨e1,_,e3⟩:=Value.slice.inj e;subst e1 e3;obtain⟨e0,e1,e2,e3,e4⟩:=am wr ag;have aB:(k:Int)<(rs.length:Int):=by omega
   have bK:(0:Int)<=(k:Int):=by omega
   have c:=HS.out y (List.mem_of_getElem? hy);have bO:y.name.size<=maxLen:=by have:=c.name;unfold maxLen;omega
   have ba:plcN rs (k+1)=updF (plcN rs k) y.name k:=by rw[plcN];unfold nmAt;rw[hy];rfl
   have av:mkrN rs (k+1)=Zbru (mkrN rs k) y.outs k:=by rw[mkrN];unfold Zbdg;rw[hy];rfl
   have bf:PlcIs (wr.alloc (.cells #[.string y.name,.slice a1 y.ins.length c1,.slice a2 y.outs.length c2,.slice a3 y.after.length c3,.slice a4 y.steps.length c4] 50)) n k (plcN rs k):=Q.heap (Below.heap_alloc _ _ _ (by omega));obtain⟨w3,ax,aE,aF⟩:=bf.put underlying221 (by omega) y.name bO k;rw[<-ba]at aE;have ap:=aF.grown;have az:w3.heap.size=wr.heap.size+1:=by obtain⟨_,_,_,_,_,e⟩:=aF;rw[e];show((wr.alloc _).heap.setIfInBounds n _).size=_;rw[Array.size_setIfInBounds,World.size_alloc]
   have aV:PlcIs w3 (n+1) (k*1048576) (mkrN rs k):=B.heap ((ap.block _ (by rw[World.size_alloc];omega) (λe=>by have:=Option.some.inj e;omega)).trans (Below.heap_alloc _ _ _ (by omega)));have af:Below n w w3:=(d.alloc (by omega) _).grown ap (by rw[World.size_alloc];omega) (λj e=>by cases e;omega);have bl:w3.heap[wr.heap.size]? =some (.cells #[.string y.name,.slice a1 y.ins.length c1,.slice a2 y.outs.length c2,.slice a3 y.after.length c3,.slice a4 y.steps.length c4] 50):=(ap.block _ (by rw[World.size_alloc];omega) (λe=>by have:=Option.some.inj e;omega)).trans (alloc_at wr _);obtain⟨d0,d1,d2,d3,d4,_⟩:=cells5 bl;obtain⟨oa,oc,eo,cf,bQ,aw⟩:=Zua (Zbiv R);obtain⟨bE,_,bG⟩:=Value.slice.inj eo;subst bE bG;have bx:Hid (∀(j:Nat) x,y.outs[j]? =some x->∃b' o',a2=some ⟨b',o',none⟩/\∀w',Below n w w'->w'.cell? ⟨b',o'+j,none⟩=some (.string x)):=by
    show ∀(j:Nat) x,_;intro j x hx;obtain⟨b',o',e,hc⟩:=aw j x hx;exact⟨b',o',e,λw' hw=>hc w' (by rw[ac.out];exact hw)⟩
   have bz:=hid (Zblx c.outs);have bb:=c.outs.1;unfold maxLen at bQ;have b1:=hid aE;have bt:=hid aV;have E:=hid af;have aM:=hid az;have aK:=hid av;have HZ:=hid C;clear Q B d C ag R am hg c ba av bf aE aF ap az aV af bl aw hy eo e;go_wp2
   go_loopw [8,28,29,30,31,32,33,34,35] (λ_ jv _ _ _ _ _ _ _ wq=>∃j:Nat,j<=y.outs.length/\jv = .int .i64 (j:Int)/\PlcIs wq n (k+1) (plcN rs (k+1))/\PlcIs wq (n+1) (k*1048576+j) (Zbru (mkrN rs k) (y.outs.take j) k)/\Below n w wq/\n+2<=wq.heap.size) (λ_ jv _ _ _ _ _ _ _ _=>y.outs.length-(intOf jv).toNat)
   case atStart=>exact⟨0,Nat.zero_le _,rfl,b1.out,by simpa[Zbru]using bt.out,E.out,by rw[aM.out];have:=HZ.out;omega⟩
   case round=>
    obtain⟨j,hj,rfl,Q,B,d,C⟩:=hrel
    by_cases aT:j<y.outs.length
    ·obtain⟨x,hx⟩:∃x,y.outs[j]? =some x:=⟨y.outs[j],List.getElem?_eq_getElem aT⟩
     obtain⟨b',o',q1,hc⟩:=bx.out j x hx;subst q1;have cx:=hc _ d;have bL:(j:Int)<(y.outs.length:Int):=by omega
     have cc:(0:Int)<=(j:Int):=by omega
     obtain⟨w4,bR,aD,bk⟩:=B.put underlying221 (Zbfm (by omega) (by omega)) x (bz.out x (List.mem_of_getElem? hx)) k;rw[<-Zbrw _ _ hx]at aD;have aq:=bk.grown;have bu:=hid aD;have b2:=hid (Q.heap (aq.block _ (by omega) (λe=>by have:=Option.some.inj e;omega)));have V:=hid (d.grown aq (by omega) (λj e=>by cases e;omega));have bC:Hid (n+2<=w4.heap.size):=hid (by have:=aq.size;omega);clear Q B d C hc hx aD bk aq ax;go_wp2;go_roundw
     case rel=>exact⟨j+1,by omega,by go_num,b2.out,by have:=bu.out;rwa [Nat.add_assoc]at this,V.out,bC.out⟩
     case measure=>simp[intOf];omega
    ·have bL:¬(j:Int)<(y.outs.length:Int):=by omega
     have a7:Hid (PlcIs _ (n+1) (k*1048576+j) (mkrN rs (k+1))):=hid (by rw[List.take_of_length_le (by omega),<-aK.out]at B;exact B);have a9:=hid Q;have a5:=hid d;have bD:=hid C;clear Q B d C ax;go_wp2;go_roundw
     case rel=>exact⟨k+1,by omega,by go_num,a9.out,a7.out.more (Zbfn k bb hj),a5.out,bD.out⟩
     case measure=>simp[intOf];omega
  ·have aB:¬(k:Int)<(rs.length:Int):=by omega
   obtain rfl:k=rs.length:=by omega
   have HP:=hid Q;have HM:=hid B;have HB:=hid d;have HZ:=hid C;clear Q B d C;obtain⟨g,ar⟩:∃g,wr.heap.size=g:=⟨_,rfl⟩;obtain⟨W5,ad⟩:∃W,wr.alloc (.cells (madeCells #[.slice none 0 0] rs.length) 131)=W:=⟨_,rfl⟩;have bg:ValRw 131 W5 g (List.replicate rs.length (.slice none 0 0)):=by rw[<-ad,<-ar];exact Zbsd _ _ _ _
   have bj:W5.heap.size=g+1:=by rw[<-ad,World.size_alloc,ar]
   have hb5:Below g wr W5:=by rw[<-ad,<-ar];exact(Below.refl _ _).alloc (Nat.le_refl _) _
   have C:=HZ.out;have a9:Hid (PlcIs W5 n rs.length (plcN rs rs.length)):=hid (HP.out.heap (hb5.block _ (by omega)));have a7:Hid (PlcIs W5 (n+1) (rs.length*1048576) (mkrN rs rs.length)):=hid (HM.out.heap (hb5.block _ (by omega)));have a5:Hid (Below n w W5):=hid (HB.out.trans (hb5.mono (by omega)));have b3:=hid bg;have b6:=hid bj;have bA:=hid ad;have HG:Hid (n+2<=g):=hid (by omega);have bX:=hid ar;clear bg bj hb5 ad C
   go_wp2_with fail
   rw[bA.out]
   go_loopw [10,11,42,43,44,45,46,47,48,49,50,51,52,53,54,55,56,57,58,59,60,61,62,63,64,65] (λ_ _ iv _ _ _ _ _ _ _ _ _ _ _ _ _ _ _ _ _ _ _ _ _ _ _ wr=>∃(k:Nat) (U:List Value),k<=rs.length/\iv = .int .i64 (k:Int)/\U.length=k/\ValRw 131 wr g (U++List.replicate (rs.length-k) (Value.slice none 0 0))/\(∀(j:Nat) u,U[j]? =some u->OwnInts (g+1) wr u (Zban rs j))/\PlcIs wr n rs.length (plcN rs rs.length)/\PlcIs wr (n+1) (rs.length*1048576) (mkrN rs rs.length)/\Below n w wr/\g+1<=wr.heap.size) (λ_ _ iv _ _ _ _ _ _ _ _ _ _ _ _ _ _ _ _ _ _ _ _ _ _ _ _=>rs.length-(intOf iv).toNat)
   case atStart=>exact⟨0,[],Nat.zero_le _,rfl,rfl,by simpa using b3.out,λj u h=>by simp at h,a9.out,a7.out,a5.out,by rw[b6.out];exact Nat.le_refl _⟩
   case round=>
    obtain⟨k,U,hk,rfl,aj,hr,ak,Q,B,d,C⟩:=hrel
    by_cases aC:k<rs.length
    ·obtain⟨y,hy⟩:∃y,rs[k]? =some y:=⟨rs[k],List.getElem?_eq_getElem aC⟩
     have ag:Below w.heap.size w wr:=by rw[ac.out];exact d
     obtain⟨g',o,aN,a1,c1,a2,c2,a3,c3,a4,c4,e,hg,R,am⟩:=Zbjm HV.out hy;obtain⟨e1,_,e3⟩:=Value.slice.inj e;subst e1 e3;obtain⟨e0,e1,e2,e3,e4⟩:=am wr ag;have aB:(k:Int)<(rs.length:Int):=by omega
     have bK:(0:Int)<=(k:Int):=by omega
     have HR:=hid hr;have b8:=hid ak;have HP:=hid Q;have HM:=hid B;have HB:=hid d;have HZ:=hid C;have bY:=hid R;have HY:=hid hy;have s:=hid aj;have c:=HS.out y (List.mem_of_getElem? hy);obtain⟨I,hI⟩:∃I,y.ins.filterMap (mkrN rs rs.length)=I:=⟨_,rfl⟩;obtain⟨A,hA⟩:∃A,y.after.filterMap (plcN rs rs.length)=A:=⟨_,rfl⟩;have cb:I.length<=1048576:=by rw[<-hI];exact Nat.le_trans (List.length_filterMap_le _ _) c.ins.1
     have ca:A.length<=1048576:=by rw[<-hA];exact Nat.le_trans (List.length_filterMap_le _ _) c.after.1
     have bv:Hid (Zban rs k=srtN (I++A)):=hid (by unfold Zban Zta Zcs;rw[hy];show srtN (y.ins.filterMap _++y.after.filterMap _)=_;rw[hI,hA]);obtain⟨bs,H⟩:∃bs,wr.heap.size=bs:=⟨_,rfl⟩;obtain⟨WB,ae⟩:∃W,wr.alloc (.cells #[.string y.name,.slice a1 y.ins.length c1,.slice a2 y.outs.length c2,.slice a3 y.after.length c3,.slice a4 y.steps.length c4] 50)=W:=⟨_,rfl⟩;have f:Below bs wr WB:=by rw[<-ae,<-H];exact(Below.refl _ _).alloc (Nat.le_refl _) _
     have ai:WB.heap.size=bs+1:=by rw[<-ae,World.size_alloc,H]
     have bm:WB.heap[bs]? =some (.cells #[.string y.name,.slice a1 y.ins.length c1,.slice a2 y.outs.length c2,.slice a3 y.after.length c3,.slice a4 y.steps.length c4] 50):=by rw[<-ae,<-H];exact alloc_at wr _
     have ao:Below n w WB:=d.trans (f.mono (by have:=HG.out;omega));have bJ:=HG.out;have bn:Hid (∀W,Below WB.heap.size WB W->Calls prog 177 #[.map (some (n+1)),.slice a1 y.ins.length c1] W (Zax W I)):=by
      show ∀W,_;intro W q;rw[<-hI];exact Zpt (n+1) _ _ _ y.ins W (B.heap ((q.block _ (by omega)).trans (f.block _ (by omega)))) ((Zbiu R).below (by rw[ac.out];exact ao.trans (q.mono (by omega)))) c.ins.1 (Zblx c.ins)
     have bo:Hid (∀W,Below WB.heap.size WB W->Calls prog 177 #[.map (some n),.slice a3 y.after.length c3] W (Zax W A)):=by
      show ∀W,_;intro W q;rw[<-hA];exact Zpt n _ _ _ y.after W (Q.heap ((q.block _ (by omega)).trans (f.block _ (by omega)))) ((Zbis R).below (by rw[ac.out];exact ao.trans (q.mono (by omega)))) c.after.1 (Zblx c.after)
     have b4:Hid (∀W,Below WB.heap.size WB W->W.cell? ⟨g,k,none⟩=some (.slice none 0 0)/\W.frozen? ⟨g,k,none⟩=false):=by
      show ∀W,_;intro W q;exact ValRw.cell (w:=W) (show ValRw _ W g _ from(q.block _ (by omega)).trans ((f.block _ (by omega)).trans hr)) (by rw[List.getElem?_append_right (by omega),aj,Nat.sub_self,List.getElem?_replicate,if_pos (by omega)])
     have b7:Hid (∀W,Below WB.heap.size WB W->ValRw 131 W g (U++List.replicate (rs.length-k) (Value.slice none 0 0))/\(∀(j:Nat) u,U[j]? =some u->OwnInts (g+1) W u (Zban rs j))/\PlcIs W n rs.length (plcN rs rs.length)/\PlcIs W (n+1) (rs.length*1048576) (mkrN rs rs.length)):=by
      show ∀W,_;intro W q;have hk:∀i,i<bs->W.heap[i]? =wr.heap[i]?:=λi hi=>(q.block _ (by omega)).trans (f.block _ hi)
      have aO:=q.size;exact⟨(hk _ (by omega)).trans hr,λj u z=>World.ownsRow.kept (row:=none) (ak j u z) ⟨q.os.trans f.os,q.tape.trans f.tape,q.output.trans f.output,by omega,λi hi _=>hk i (by omega)⟩ (by cases Value.ownBlock _<;>simp),Q.heap (hk _ (by omega)),B.heap (hk _ (by omega))⟩
     have Y:Hid (∀W:World,W.heap[bs]? =some (.cells #[.string y.name,.slice a1 y.ins.length c1,.slice a2 y.outs.length c2,.slice a3 y.after.length c3,.slice a4 y.steps.length c4] 50)->W.cell? ⟨bs,0,none⟩=some (.string y.name)/\W.cell? ⟨bs,1,none⟩=some (.slice a1 y.ins.length c1)/\W.cell? ⟨bs,2,none⟩=some (.slice a2 y.outs.length c2)/\W.cell? ⟨bs,3,none⟩=some (.slice a3 y.after.length c3)/\W.cell? ⟨bs,4,none⟩=some (.slice a4 y.steps.length c4)):=by
      show ∀W:World,_;intro W q;obtain⟨q0,q1,q2,q3,q4,_⟩:=cells5 q;exact⟨q0,q1,q2,q3,q4⟩
     have bW:=hid f;have F:=hid ai;have Z:=hid bm;have bq:=hid ao;have bB:=hid ae;have a6:=hid H;have CC:Hid (∀W v3 v4,Below WB.heap.size WB W->W.ownsRow WB.heap.size 3 1 v3 I.length (I.map intV)->W.ownsRow WB.heap.size 3 1 v4 A.length (A.map intV)->Calls prog 176 #[.slice (some ⟨W.heap.size,0,none⟩) 2 2] (W.alloc (.cells #[v3,v4] 131)) λe w'=>∃v,e = .returned v/\w'.ownsRow WB.heap.size 3 1 v (I++A).length ((I++A).map intV)/\Below WB.heap.size WB w'):=by
      show ∀W v3 v4,_;intro W v3 v4 q h3 h4;have aA:Below W.heap.size W (W.alloc (.cells #[v3,v4] 131)):=(Below.refl _ _).alloc (Nat.le_refl _) _;have hc:∀(i:Nat) u,#[v3,v4][i]? =some u->(W.alloc (.cells #[v3,v4] 131)).cell? ⟨W.heap.size,i,none⟩=some u:=by
       intro i u z;simp only[World.cell?,alloc_at,Option.isSome_none,Bool.false_eq_true,if_false];exact z
      have:=Zkl W.heap.size [I,A] 2 (W.alloc (.cells #[v3,v4] 131)) (by simp) (by simp) (by decide) (by rw[World.size_alloc];omega) (λj x hx=>by
       match j,hx with
       | 0,hx=>
             obtain rfl:I=x:=by simpa using hx
             exact⟨v3,hc 0 _ rfl,(Zbdp h3).below aA,Zbdw h3⟩
       | 1,hx=>
             obtain rfl:A=x:=by simpa using hx
             exact⟨v4,hc 1 _ rfl,(Zbdp h4).below aA,Zbdw h4⟩) (by simp;omega)
      simp only[List.flatten_cons,List.flatten_nil,List.append_nil]at this;refine this.mono ?_;rintro e w' ⟨v,rfl,ho,bH⟩;have aO:=q.size;exact⟨v,rfl,Zbdt ho (by rw[World.size_alloc];omega),q.trans ((aA.trans (bH.mono (by rw[World.size_alloc];omega))).mono aO)⟩
     have c:True:=trivial;clear hr ak Q B d C R am hg hy ag e c hI hA f ai bm ao ae H bJ aj
     go_wp2_with fail
     rw[bB.out,a6.out];refine wp_region_held_drew (S:=(λW=>W.cell? ⟨bs,0,none⟩=some (.string y.name)/\W.cell? ⟨bs,1,none⟩=some (.slice a1 y.ins.length c1)/\W.cell? ⟨bs,2,none⟩=some (.slice a2 y.outs.length c2)/\W.cell? ⟨bs,3,none⟩=some (.slice a3 y.after.length c3)/\W.cell? ⟨bs,4,none⟩=some (.slice a4 y.steps.length c4))) (by kernel_rfl) ?_ (λhHeld=>?_)
     ·exact Y.out _ Z.out
     refine tkH 0 (v:=?_) ?_ ?_;rotate_left
     ·intro w a;obtain⟨q0,q1,q2,q3,q4⟩:=a;go_simp;try with_reducible rfl
     try simp only[Act.put,sA,sZ,sS]
     refine tkH 1 (v:=?_) ?_ ?_;rotate_left
     ·intro w a;obtain⟨q0,q1,q2,q3,q4⟩:=a;go_simp;try with_reducible rfl
     try simp only[Act.put,sA,sZ,sS]
     refine tkH 2 (v:=?_) ?_ ?_;rotate_left
     ·intro w a;obtain⟨q0,q1,q2,q3,q4⟩:=a;go_simp;try with_reducible rfl
     try simp only[Act.put,sA,sZ,sS]
     refine tkH 3 (v:=?_) ?_ ?_;rotate_left
     ·intro w a;obtain⟨q0,q1,q2,q3,q4⟩:=a;go_simp;try with_reducible rfl
     try simp only[Act.put,sA,sZ,sS]
     refine tkH 4 (v:=?_) ?_ ?_;rotate_left
     ·intro w a;obtain⟨q0,q1,q2,q3,q4⟩:=a;go_simp;try with_reducible rfl
     try simp only[Act.put,sA,sZ,sS]
     refine tkH 6 (v:=?_) ?_ ?_;rotate_left
     ·intro w a;obtain⟨q0,q1,q2,q3,q4⟩:=a;go_simp;try with_reducible rfl
     try simp only[Act.put,sA,sZ,sS]
     refine tkH 7 (v:=?_) ?_ ?_;rotate_left
     ·intro w a;obtain⟨q0,q1,q2,q3,q4⟩:=a;go_simp;try with_reducible rfl
     try simp only[Act.put,sA,sZ,sS]
     refine tkH 8 (v:=?_) ?_ ?_;rotate_left
     ·intro w a;obtain⟨q0,q1,q2,q3,q4⟩:=a;go_simp;try with_reducible rfl
     try simp only[Act.put,sA,sZ,sS]
     refine rdH [5] ?_;refine rcH (λK T=>?_) ?_
     ·go_simp;refine(bn.out _ (below_drewN (Below.refl _ _) 1)).mono ?_;rintro e w3 ⟨v3,rfl,M,af⟩;obtain⟨p3,k3,rfl⟩:=Zbeb M;have a8:=hid (show w3.ownsRow WB.heap.size _ 1 _ _ _ from M);have E:=hid ((below_drewN (Below.refl WB.heap.size WB) 1).trans af);clear M af;dsimp only
      refine T.out _ _ ?_ (λhHeld=>?_)
      ·try dsimp only
       exact Y.out _ ((E.out.block _ (by have:=F.out;omega)).trans Z.out)
      clear T K
      try simp only[Act.put,sA,sZ,sS]
      refine rdH [9] ?_;refine rcH (λK T=>?_) ?_
      ·go_simp;refine(bo.out _ E.out).mono ?_;rintro e w4 ⟨v4,rfl,O,G⟩;obtain⟨p4,k4,rfl⟩:=Zbeb O;have bw:=hid (Zbdt O E.out.size);have a8:=hid (World.ownsRow.kept (row:=none) a8.out ⟨G.os,G.tape,G.output,G.size,λk hk _=>G.block k hk⟩ (by cases Value.ownBlock _<;>simp));have V:=hid (E.out.trans (G.mono E.out.size));clear O G;dsimp only
       refine T.out _ _ ?_ (λhHeld=>?_)
       ·try dsimp only
        exact Y.out _ ((V.out.block _ (by have:=F.out;omega)).trans Z.out)
       clear T K
       try simp only[Act.put,sA,sZ,sS]
       refine rdH [10] ?_;refine rcH (λK T=>?_) ?_
       ·go_simp
        refine T.out _ _ ?_ (λhHeld=>?_)
        ·try dsimp only
         exact Y.out _ ((Below.heap_alloc _ _ _ (by have:=V.out.size;have:=F.out;omega)).trans ((V.out.block _ (by have:=F.out;omega)).trans Z.out))
        clear T K
        try simp only[Act.put,sA,sZ,sS]
        refine rdH [11] ?_;refine rcH (λK T=>?_) ?_
        ·go_simp;refine(CC.out _ _ _ V.out a8.out bw.out).mono ?_;rintro e w6 ⟨v6,rfl,P,aQ⟩;obtain⟨p6,k6,rfl⟩:=Zbeb P;have aL:=hid P;have X:=hid aQ;clear P aQ;dsimp only
         refine T.out _ _ ?_ (λhHeld=>?_)
         ·try dsimp only
          exact Y.out _ ((X.out.block _ (by have:=F.out;omega)).trans Z.out)
         clear T K
         try simp only[Act.put,sA,sZ,sS]
         refine tkH 12 (v:=?_) ?_ ?_;rotate_left
         ·intro w a;obtain⟨q0,q1,q2,q3,q4⟩:=a;go_simp;try with_reducible rfl
         try simp only[Act.put,sA,sZ,sS]
         refine rdH [13] ?_;refine rcH (λK T=>?_) ?_
         ·obtain⟨f1,f2⟩:=b4.out w6 X.out;go_simp
          refine T.out _ _ ?_ (λhHeld=>?_)
          ·try dsimp only
           exact Y.out _ ((Below.heap_setCell _ _ _ _ (by show bs≠g;have:=HZ.out;have:=a6.out;omega)).trans ((X.out.block _ (by have:=F.out;omega)).trans Z.out))
          clear T K
          try simp only[Act.put,sA,sZ,sS]
          refine wpAnyH_done (by kernel_rfl) ?_ _;obtain⟨bh,al,bd,aW⟩:=b7.out w6 X.out;have C:=HZ.out;have H:=a6.out;have ai:=F.out;have hg:=HG.out;have bS:=X.out.size;obtain⟨w7,au⟩:∃w7,w6.setCell ⟨g,k,none⟩ (.slice p6 (I++A).length k6)=w7:=⟨_,rfl⟩;have ah:=bh.set k (.slice p6 (I++A).length k6);have ay:(U++List.replicate (rs.length-k) (Value.slice none 0 0)).set k (.slice p6 (I++A).length k6)=U ++ [.slice p6 (I++A).length k6]++List.replicate (rs.length-(k+1)) (Value.slice none 0 0):=by
           have e:rs.length-k=(rs.length-(k+1))+1:=by omega
           rw[List.set_append_right _ _ (by have:=s.out;omega),s.out,Nat.sub_self,e,List.replicate_succ,List.set_cons_zero,List.append_assoc];rfl
          have J:w6.grownBy w7 (some g):=by rw[<-au];exact⟨rfl,rfl,rfl,by simp[World.setCell],λi hi bN=>Below.heap_setCell _ _ _ _ (λe=>bN (by rw[e]))⟩
          rw[ay,au]at ah;have ab:OwnInts (bs+1) w7 (.slice p6 (I++A).length k6) (I++A):=World.ownsRow.kept (by have:=aL.out;rwa [ai]at this) J (.inr (row_ne_low aL.out (by omega)).symm);have a0:∀(j:Nat) u,U[j]? =some u->OwnInts (g+1) w7 u (Zban rs j):=λj u z=>World.ownsRow.kept (al j u z) J (.inr (row_ne_low (al j u z) (Nat.lt_succ_self g)).symm)
          have be:=bd.heap (J.block _ (by omega) (λe=>by have:=Option.some.inj e;omega));have aX:=aW.heap (J.block _ (by omega) (λe=>by have:=Option.some.inj e;omega));have aR:Below n w w7:=(bq.out.trans (X.out.mono (by omega))).grown J (by omega) (λj e=>by cases e;omega);have bU:=J.size;obtain⟨f1,f2⟩:=ah.cell (k:=k) (m:= .slice p6 (I++A).length k6) (by rw[List.getElem?_append_left (by rw[List.length_append,s.out];simp),List.getElem?_append_right (by rw[s.out];exact Nat.le_refl _),s.out,Nat.sub_self];rfl);have aH:Hid (Calls prog 178 #[.slice p6 (I++A).length k6] w7 λe D=>e = .returned (.tuple #[])/\∃row,w7.grownBy D row/\(∀j,row=some j->bs+1<=j)/\OwnInts (g+1) D (.slice p6 (I++A).length k6) (srtN (I++A))):=by
           show Calls _ _ _ _ _
           rcases id ab.2 with⟨e,h0⟩|⟨g6,aN,bZ,e,_⟩
           ·obtain⟨e1,_,e3⟩:=Value.slice.inj e
            have aZ:I++A = []:=List.eq_nil_of_length_eq_zero h0;rw[aZ]at ab⊢;refine(Zbmf p6 k6 w7).mono ?_;rintro e w' ⟨rfl,rfl⟩;refine⟨rfl,none,Zrh _ _,(λj h=>by cases h),?_⟩;rw[show srtN [] = [] by simp[srtN]];exact Zbdt ab (by omega)
           ·obtain⟨e1,_,e3⟩:=Value.slice.inj e
            subst e1 e3;refine(Zbme (bs+1) g6 k6 (I++A) w7 ab (by rw[List.length_append];omega)).mono ?_;rintro e w' ⟨rfl,t,p⟩;have bI:=(World.ownsRow.lt ab g6 rfl).1;exact⟨rfl,some g6,p,(λj h=>by cases h;exact bI),Zbdt (by unfold OwnInts at t;rw[Zbnf]at t;show World.ownsRow _ _ _ _ _ _ _;rw[Zbnf];exact t) (by omega)⟩
          have aJ:Hid (∀D row,w7.grownBy D row->(∀j,row=some j->bs+1<=j)->OwnInts (g+1) D (.slice p6 (I++A).length k6) (srtN (I++A))->∃an:List Value,an.length=k+1/\ValRw 131 D g (an++List.replicate (rs.length-(k+1)) (Value.slice none 0 0))/\(∀(j:Nat) u,an[j]? =some u->OwnInts (g+1) D u (Zban rs j))/\PlcIs D n rs.length (plcN rs rs.length)/\PlcIs D (n+1) (rs.length*1048576) (mkrN rs rs.length)/\Below n w D/\g+1<=D.heap.size):=by
           show ∀D row,_;intro D row p l t;have d:∀i,i<bs->D.heap[i]? =w7.heap[i]?:=λi hi=>p.block i (by omega) (λe=>by have:=l i e.symm;omega)
           refine⟨U ++ [.slice p6 (I++A).length k6],by rw[List.length_append,s.out];rfl,(by have h:=d g (by omega);unfold ValRw at ah⊢;rw[h];exact ah),λj u z=>?_,be.heap (d _ (by omega)),aX.heap (d _ (by omega)),aR.grown p (by omega) (λj e=>by have:=l j e;omega),by have:=p.size;omega⟩
           by_cases hj:j<U.length
           ·rw[List.getElem?_append_left hj]at z
            refine World.ownsRow.kept (a0 j u z) p ?_
            cases bP:u.ownBlock with
            | none=>exact .inl rfl
            | some b=>
              right;intro e;have h1:=((b8.out j u z).lt b bP).2;have h2:=l b e.symm;omega
           ·rw[List.getElem?_append_right (by omega)]at z
            have bM:j=k:=by
              have h1:j-U.length<1:=(List.getElem?_eq_some_iff.1 z).1;have:=s.out;omega
            subst bM;rw[s.out,Nat.sub_self]at z;obtain rfl:Value.slice p6 (I++A).length k6=u:=by simpa using z
            rw[bv.out];exact t
          rw[<-List.length_append,au];obtain⟨m,aY⟩:∃m,(I++A).length=m:=⟨_,rfl⟩;rw[aY]at aH aJ f1⊢;clear bh al bd aW C H ai hg bS au ah ay J ab a0 be aX aR bU
          go_wp2_with (go_at_call 178;(with_reducible refine aH.out.mono ?_);rintro e D ⟨rfl,row,p,l,t⟩;have aI:=hid (aJ.out D row p l t);clear p l t)
          go_roundw
          case rel=>
           obtain⟨an,r1,r2,r3,r4,r5,r6,r7⟩:=aI.out;exact⟨k+1,an,by omega,by go_num,r1,r2,r3,r4,r5,r6,r7⟩
          case measure=>simp[intOf];omega
         exact AllReadyH.nil
        exact AllReadyH.nil
       exact AllReadyH.nil
      exact AllReadyH.nil
     exact AllReadyH.nil
    ·have aB:¬(k:Int)<(rs.length:Int):=by omega
     have aS:k=rs.length:=by omega
     rw[aS,Nat.sub_self,List.replicate_zero,List.append_nil]at hr;have HF:Hid (NeedsIs wr (.slice (some ⟨g,0,none⟩) rs.length rs.length) ((List.range rs.length).map (Zban rs))):=by
      refine⟨g,by simp,(Array.getElem?_eq_some_iff.1 hr).1,λj x hx=>?_⟩;have hj:j<rs.length:=by have:=(List.getElem?_eq_some_iff.1 hx).1;simpa using this
      obtain⟨u,z⟩:∃u,U[j]? =some u:=⟨U[j]'(by omega),List.getElem?_eq_getElem _⟩;rw[List.getElem?_map,List.getElem?_range hj]at hx;obtain rfl:Zban rs j=x:=by simpa using hx
      exact⟨u,(hr.cell z).1,(ak j u z).isInts⟩
     have HB:=hid d;clear aj hr ak Q B d C aS;go_wp2;go_ret;exact⟨_,rfl,HF.out,HB.out⟩
def Zbax (s:Nat) (way:List Nat):List Nat->List (List Nat)->List Bool->Option (List (List Nat)×List Bool)
 | [],q,r=>some (q,r)
 | x::xs,q,r=>if x=s then none else if r[x]? =some true then Zbax s way xs q r else Zbax s way xs (q ++ [way ++ [x]]) (r.set x true)
def bfsF (s:Nat) (nd:Nat->List Nat):Nat->List (List Nat)->List Bool->List Nat
 | 0,_,_=>[]
 | _+1,[],_=>[]
 | n+1,w::q,r=>match Zbax s w (nd (w.getLastD 0)) q r with
  | none=>w
  | some (q',r')=>bfsF s nd n q' r'
def Zbhz (s:Nat) (nd:Nat->List Nat) (N:Nat):List Nat:=bfsF s nd (N+2) [[s]] (List.replicate N false)
def cntF (r:List Bool):Nat:=r.countP (· ==false)
theorem Zka (N:Nat):cntF (List.replicate N false)=N:=by unfold cntF;rw[List.countP_replicate];rfl
theorem Zkb {r:List Bool} {x:Nat} (h:r[x]? =some false):cntF (r.set x true)+1=cntF r:=by
 grind [cntF]
structure WaysOk (s:Nat) (nd:Nat->List Nat) (N:Nat) (q:List (List Nat)) (r:List Bool):Prop where
 ne:∀w∈q,w≠[]
 lt:∀w∈q,∀x∈w,x<N
 len:∀w∈q,w.length+cntF r<=N+1
 many:q.length+cntF r<=N+1
 size:r.length=N
theorem Zbsq {s N:Nat} {nd:Nat->List Nat} (b:s<N):WaysOk s nd N [[s]] (List.replicate N false):=by
 refine⟨?_,?_,?_,?_,by simp⟩
 ·intro w a;obtain rfl:w = [s]:=by simpa using a
  simp
 ·intro w a x hx;obtain rfl:w = [s]:=by simpa using a
  obtain rfl:x=s:=by simpa using hx
  exact b
 ·intro w a;obtain rfl:w = [s]:=by simpa using a
  rw[Zka];simp;omega
 ·rw[Zka];simp;omega
theorem WaysOk.tail {s N:Nat} {nd:Nat->List Nat} {w:List Nat} {q:List (List Nat)} {r:List Bool} (h:WaysOk s nd N (w::q) r):WaysOk s nd N q r:=
 ⟨λx hx=>h.ne x (by simp[hx]),λx hx=>h.lt x (by simp[hx]),λx hx=>h.len x (by simp[hx]),by have:=h.many;simp only[List.length_cons]at this;omega,h.size⟩
theorem WaysOk.push {s N x:Nat} {nd:Nat->List Nat} {w:List Nat} {q:List (List Nat)} {r:List Bool} (h:WaysOk s nd N q r) (f:w.length+cntF r<=N+1) (c:∀y∈w,y<N) (hx:x<N) (b:r[x]? =some false):WaysOk s nd N (q ++ [w ++ [x]]) (r.set x true):=by
 have e:=Zkb b;refine⟨?_,?_,?_,?_,by rw[List.length_set];exact h.size⟩
 ·intro y a
  rcases List.mem_append.1 a with a|a
  ·exact h.ne y a
  ·simp_all
 ·intro y a z d
  rcases List.mem_append.1 a with a|a
  ·exact h.lt y a z d
  ·grind
 ·intro y a
  rcases List.mem_append.1 a with a|a
  ·have:=h.len y a;omega
  ·grind
 ·have:=h.many;rw[List.length_append];simp only[List.length_cons,List.length_nil];omega
def Zkm (s:Nat) (nd:Nat->List Nat) (m:Nat) (w:List Nat):Option (List (List Nat)×List Bool)->List Nat
 | none=>w
 | some p=>bfsF s nd m p.1 p.2
theorem Zfp (s:Nat) (nd:Nat->List Nat) (m:Nat) (w:List Nat) (q:List (List Nat)) (r:List Bool):bfsF s nd (m+1) (w::q) r=Zkm s nd m w (Zbax s w (nd (w.getLastD 0)) q r):=by
 rw[bfsF]
 cases Zbax s w (nd (w.getLastD 0)) q r with
 | none=>rfl
 | some p=>rfl
inductive Rch (nd:Nat->List Nat):Nat->Nat->Prop
 | one {a b:Nat}:b∈nd a->Rch nd a b
 | more {a b c:Nat}:Rch nd a b->c∈nd b->Rch nd a c
theorem Rch.trans {nd:Nat->List Nat} {a b c:Nat} (h:Rch nd a b) (k:Rch nd b c):Rch nd a c:=by
 induction k with
 | one d=>exact .more h d
 | more _ d e=>exact .more e d
theorem Zbaz {s:Nat} {n:List Nat}:∀ {xs:List Nat} {q:List (List Nat)} {r:List Bool} {k:List (List Nat)} {r':List Bool},Zbax s n xs q r=some (k,r')->(∀y∈xs,y<r.length)->
  (∀x:Nat,r[x]? =some true->r'[x]? =some true)/\(∀y∈xs,y≠s/\r'[y]? =some true)/\(∀w∈q,w∈k)/\(∀x:Nat,r'[x]? =some true->r[x]? =some true\/∃w∈k,w.getLastD 0=x)/\k.length+cntF r'=q.length+cntF r/\r'.length=r.length
 | [],q,r,k,r',h,_=>by
  obtain⟨rfl,rfl⟩:q=k/\r=r':=by simpa[Zbax]using h
  exact⟨λ_ h=>h,λy g=>by simp at g,λ_ h=>h,λ_ h=> .inl h,rfl,rfl⟩
 | x::xs,q,r,k,r',h,hl=>by
  unfold Zbax at h
  by_cases o:x=s
  ·rw[if_pos o]at h;cases h
  rw[if_neg o]at h;have m:=hl x (by simp)
  by_cases l:r[x]? =some true
  ·rw[if_pos l]at h
   obtain⟨a,b,c,d,e,f⟩:=Zbaz h (λy g=>hl y (by simp[g]));refine⟨a,λy g=>?_,c,d,e,f⟩
   rcases List.mem_cons.1 g with rfl|g
   ·exact⟨o,a _ l⟩
   ·exact b y g
  ·rw[if_neg l]at h
   have t:r[x]? =some false:=by
    rw[List.getElem?_eq_getElem m]at l⊢
    cases u:r[x]with
    | true=>rw[u]at l;exact absurd rfl l
    | false=>rfl
   obtain⟨a,b,c,d,e,f⟩:=Zbaz h (λy g=>by rw[List.length_set];exact hl y (by simp[g]));have j:(r.set x true)[x]? =some true:=by rw[List.getElem?_set_self m]
   refine⟨λy g=>a y ?_,λy g=>?_,λw v=>c w (by simp[v]),λy g=>?_,?_,by rw[f,List.length_set]⟩
   ·by_cases i:x=y
    ·subst i;exact j
    ·rw[List.getElem?_set_ne i];exact g
   ·rcases List.mem_cons.1 g with rfl|g
    ·exact⟨o,a _ j⟩
    ·exact b y g
   ·rcases d y g with p|p
    ·by_cases i:x=y
     ·subst i;exact .inr ⟨n ++ [x],c _ (by simp),by simp⟩
     ·rw[List.getElem?_set_ne i]at p;exact .inl p
    ·exact .inr p
   ·have:=Zkb t
    rw[e,List.length_append];simp only[List.length_cons,List.length_nil];omega
theorem Zfq {s N:Nat} {nd:Nat->List Nat} (j:∀x<N,∀y∈nd x,y<N) (D:s<N):∀(n:Nat) (q:List (List Nat)) (r:List Bool),q.length+cntF r<n->r.length=N->(∀w∈q,w≠[])->(∀w∈q,w.getLastD 0<N)->
  (∀x:Nat,x<N->(x=s\/r[x]? =some true)->(∃w∈q,w.getLastD 0=x)\/∀y∈nd x,y≠s/\r[y]? =some true)->bfsF s nd n q r = []->¬Rch nd s s
 | 0,q,r,h,_,_,_,_,_=>by omega
 | n+1,[],r,_,hr,_,_,hI,_=>by
  have H:∀x,Rch nd s x->x<N/\x≠s/\r[x]? =some true:=by
   intro x hx
   induction hx with
   | one h=>
    rename_i b
    rcases hI s D (.inl rfl)with⟨w,E,_⟩|l
    ·simp at E
    ·exact⟨j s D _ h,l _ h⟩
   | more _ h B=>
    rename_i b c _
    obtain⟨I,_,J⟩:=B
    rcases hI b I (.inr J)with⟨w,E,_⟩|l
    ·simp at E
    ·exact⟨j b I _ h,l _ h⟩
  exact λh=>(H s h).2.1 rfl
 | n+1,w::q,r,h,hr,hne,hlt,hI,he=>by
  rw[bfsF]at he
  cases hx:Zbax s w (nd (w.getLastD 0)) q r with
  | none=>rw[hx]at he;exact absurd he (hne w (by simp))
  | some p=>
   obtain⟨m,r'⟩:=p;rw[hx]at he;simp only at he;have t:=hlt w (by simp);obtain⟨a,b,c,d,e,f⟩:=Zbaz hx (λy i=>by rw[hr];exact j _ t y i);have o:∀v∈m,v≠[]/\v.getLastD 0<N:=by
    have:∀(z:List Nat) (q:List (List Nat)) (r:List Bool),Zbax s w z q r=some (m,r')->(∀y∈z,y<N)->(∀v∈q,v≠[]/\v.getLastD 0<N)->∀v∈m,v≠[]/\v.getLastD 0<N:=by
     intro z
     induction z with
     | nil=>
         intro q r h _ A;obtain⟨rfl,rfl⟩:q=m/\r=r':=by simpa[Zbax]using h
         exact A
     | cons x z B=>
      intro q r h i A;unfold Zbax at h;split at h
      ·cases h
      split at h
      ·exact B _ _ h (λy k=>i y (by simp[k])) A
      ·refine B _ _ h (λy k=>i y (by simp[k])) ?_
       intro v g
       rcases List.mem_append.1 g with g|g
       ·exact A v g
       ·obtain rfl:v=w ++ [x]:=by simpa using g
        exact⟨by simp,by simpa using i x (by simp)⟩
    exact this _ _ _ hx (λy i=>j _ t y i) (λv g=>⟨hne v (by simp[g]),hlt v (by simp[g])⟩)
   refine Zfq j D n m r' (by simp only[List.length_cons]at h;omega) (by rw[f,hr]) (λv g=>(o v g).1) (λv g=>(o v g).2) ?_ he;intro x F G;have u:(x=s\/r[x]? =some true)\/∃w∈m,w.getLastD 0=x:=by
    rcases G with h|h
    ·exact .inl (.inl h)
    ·rcases d x h with h|h
     ·exact .inl (.inr h)
     ·exact .inr h
   rcases u with C|C
   ·rcases hI x F C with⟨v,g,e⟩|l
    ·rcases List.mem_cons.1 g with rfl|g
     ·right;intro y i;rw[e]at b;exact b y i
     ·exact .inl ⟨v,c v g,e⟩
    ·exact .inr λy i=>⟨(l y i).1,a y (l y i).2⟩
   ·exact .inl C
theorem Zbia {s N:Nat} {nd:Nat->List Nat} (a:∀x<N,∀y∈nd x,y<N) (c:s<N) (h:Zbhz s nd N = []):¬Rch nd s s:=by
 have one:∀w∈[[s]],w = [s]:=by grind
 refine Zfq a c (N+2) [[s]] (List.replicate N false) (by rw[Zka];simp;omega) (by simp) (λw b=>by rw[one w b];simp) (λw b=>by rw[one w b];simpa using c) ?_ h
 simp_all
