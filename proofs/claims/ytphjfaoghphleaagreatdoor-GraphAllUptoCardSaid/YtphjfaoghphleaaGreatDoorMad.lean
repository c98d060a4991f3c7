import Derived.Test.YtphjfaoghphleaaGreatDoorMac
namespace Go.Proofs.YtphjfaoghphleaaGreatDoor
namespace Exe
section
open Go
variable {N N':Nat->Prop} {P:Program} {Z:TypeId->Nat} {G:Nat} {r:Ren} {h:Hp} {w:World}
theorem Rep.realias {k:Nat} (A:Rep (Zcmd k) Z G r h w) {n o nm:Nat} {e:Ent} {U:List Value} {t:TypeId} {hi:Nat} {olds us vs:List Value} {w1:World} (K:2*k<=nm) (ae:nm<2*(k+1)) (X:exN nm=false)
  (F:look h n=some (.cells U t hi false)) (I:r n=some e) (_hlen:o+olds.length<=U.length) (H:olds=(U.drop o).take olds.length) (T:ValsR Z r us vs) (hS:o+e.sh+olds.length+us.length<=e.S)
  (hh:hi<=o+olds.length/\hi<9223372036854775808) (h0:e.sh=0/\o=0\/Zcqz (olds++us)=true) (ho:us.all oneC=true) (hw:(storeCells ⟨e.b,o+e.sh+olds.length,none⟩ vs).run P w = .ok () w1):
  Rep (Zcmd (k+1)) Z G (set1 r nm ⟨e.b,o+e.sh,e.S,e.t⟩) ((nm,.cells (olds++us) t hi false)::del h n) w1/\
   Nx r h w (set1 r nm ⟨e.b,o+e.sh,e.S,e.t⟩) ((nm,.cells (olds++us) t hi false)::del h n) w1:=by
 obtain⟨c,f,u,hO⟩:=Zctc A F I;obtain⟨a1,a2,a3,a4,a5,a6,a7⟩:=hO;have ac:=a7.1.1;have ag:=T.1;have M:=run_storeCells_cells (P:=P) e.b (o+e.sh+olds.length) vs 0 w (λj R=>by
   rw[cell_of u];simp;omega) (λj R=>by
   simp only[World.frozen?,u]
   cases Y:(decide (f.1<=o+e.sh+olds.length+0+j)&&decide (o+e.sh+olds.length+0+j<f.2))with
   | false=>rfl
   | true=>
    exfalso
    simp only[Bool.and_eq_true,decide_eq_true_eq]at Y;omega) (λv d=>by
   obtain⟨j,R⟩:=List.getElem?_of_mem d;have J:j<us.length:=by rw[T.1];exact(List.getElem?_eq_some_iff.1 R).1
   exact Zcti (List.all_eq_true.1 ho us[j] (by simp)) (T.2 j _ _ (by simp[J]) R))
 rw[M]at hw;have O:w.setCells e.b (o+e.sh+olds.length+0) vs=w1:=by injection hw
 rw[Nat.add_zero]at O;obtain⟨s1,s2,s3,s4,s5,s6⟩:=Zcra vs (o+e.sh+olds.length) w c t f u;rw[O]at s1 s2 s3 s4 s5 s6;have hx:=Zcuy A (n:=nm) K ⟨e.b,o+e.sh,e.S,e.t⟩;have af:n≠nm:=λs=>by subst s;rw[Zcrz A (n:=n) K]at F;cases F
 have x:∀m p f,look (del h n) m=some p->r m=some f->f.b≠e.b:=by
  intro m p f d l B;rw[Zcrw]at d;split at d
  ·cases d
  ·rename_i L;exact L (A.inj m n p _ f e d F l I B)
 refine⟨⟨λm p d=>?_,λm m2 p q em en d z a b B=>?_,λm f l=>?_,λm d=>?_,λg hg=>?_⟩,⟨hx,by omega,λb B aa=>?_,λb B E=>?_,λb B E=>?_,s4,s5,s6⟩⟩
 ·rw[Zcrv]at d
  split at d
  ·rename_i s;subst s;cases d
   refine⟨⟨e.b,o+e.sh,e.S,e.t⟩,by simp[set1],_,s1,⟨rfl,a2,by rw[Zcva];exact a3,?_,λQ=>?_,λi v y=>?_,?_⟩⟩
   ·simp only[List.length_append];omega
   ·rw[X]at Q;cases Q
   ·rw[Zcuz _ _ _ _ (by omega)]
    by_cases k1:i<olds.length
    ·rw[List.getElem?_append_left k1,H,List.getElem?_take,if_pos k1,List.getElem?_drop]at y
     rw[if_neg (by simp only;omega)];obtain⟨v',b1,b2⟩:=a6 _ _ y;refine⟨v',?_,b2.mono hx⟩;have:i+(o+e.sh)=o+i+e.sh:=by omega
     simp only[this];exact b1
    ·rw[List.getElem?_append_right (by omega)]at y
     have J:i-olds.length<us.length:=(List.getElem?_eq_some_iff.1 y).1;rw[if_pos (by simp only;omega)];have:i+(o+e.sh)-(o+e.sh+olds.length)=i-olds.length:=by omega
     simp only[this];have C:i-olds.length<vs.length:=by omega
     exact⟨vs[i-olds.length],by simp[C],(T.2 _ _ _ y (by simp[C])).mono hx⟩
   ·refine⟨⟨.inl (by show f.2<=hi+(o+e.sh);omega),λhx=>a7.1.2 ?_⟩,?_⟩
    ·have ah:hi+(o+e.sh)=0:=hx
     omega
    ·rcases h0 with⟨h0,ad⟩|h0
     ·exact .inl (by show o+e.sh=0;omega)
     ·exact .inr h0
  ·rename_i L
   obtain⟨f,l,p',ab,V⟩:=A.obj m p (Zcrx _ _ d);exact⟨f,hx _ _ l,p',by rw[s2 _ (x m p f d l)];exact ab,V.mono hx⟩
 ·rw[Zcrv]at d z
  unfold set1 at a b;split at d
  ·rename_i s;subst s;simp at a;subst a
   split at z
   ·rename_i D;exact D.symm
   ·rename_i D;rw[if_neg D]at b;exact absurd B.symm (x _ _ _ z b)
  ·rename_i s;rw[if_neg s]at a
   split at z
   ·rename_i D;subst D;simp at b;subst b;exact absurd B (x _ _ _ d a)
   ·rename_i D;rw[if_neg D]at b
    exact A.inj m m2 p q em en (Zcrx _ _ d) (Zcrx _ _ z) a b B
 ·unfold set1 at l
  rw[s3];split at l
  ·cases l;exact A.low n e I
  ·exact A.low m f l
 ·unfold set1
  unfold Zcmd at d;rw[if_neg (by omega)];exact A.new m (by unfold Zcmd;omega)
 ·obtain⟨f,l,q1,q2⟩:=A.glo g hg;exact⟨f,hx _ _ l,q1,q2⟩
 ·exact s2 b (λW=>aa ⟨n,_,e,F,rfl,I,W.symm⟩)
 ·obtain⟨m,p,f,d,hp,l,rfl⟩:=E
  rw[Zcrv]at d;unfold set1 at l;split at d
  ·rename_i s;rw[if_pos s]at l;cases l
   exact⟨n,_,e,F,rfl,I,rfl⟩
  ·rename_i s;rw[if_neg s]at l
   exact⟨m,p,f,Zcrx _ _ d,hp,l,rfl⟩
 ·obtain⟨m,p,f,d,l,rfl⟩:=E
  rw[Zcrv]at d;unfold set1 at l;split at d
  ·rename_i s;rw[if_pos s]at l;cases l
   exact⟨n,_,e,F,I,rfl⟩
  ·rename_i s;rw[if_neg s]at l
   exact⟨m,p,f,Zcrx _ _ d,l,rfl⟩
def appT (P:Program) (ts:Array TypeId):Option (TypeId×Nat×Nat×Value):=
 match ts[0]?,ts[1]? with
 | some t,some u=>match P.underlying t,P.underlying u with
  | some (.slice el),some d=>match P.info? el with
   | some i=>match i.zero with
    | some zv=>bif Zcsy d&&Nat.beq zv.cells.size i.size && !(Nat.beq i.bytes 0)then some (el,i.size,i.bytes,zv)else none
    | none=>none
   | none=>none
  | _,_=>none
 | _,_=>none
theorem Zcmu {ts:Array TypeId} {el z bytes zv} (a:appT P ts=some (el,z,bytes,zv)):AppT P ts el z bytes zv/\bytes≠0/\Zp P el=z:=by
 unfold appT at a;split at a
 case h_2=>cases a
 rename_i t u k l
 split at a
 case h_2=>cases a
 rename_i f d g j
 split at a
 case h_2=>cases a
 rename_i i e
 split at a
 case h_2=>cases a
 rename_i c m
 cases b:(Zcsy d&&Nat.beq c.cells.size i.size && !(Nat.beq i.bytes 0))with
 | false=>rw[b]at a;cases a
 | true=>
  rw[b]at a;cases a;simp only[Bool.and_eq_true,Bool.not_eq_true']at b;exact⟨⟨⟨t,k,g⟩,⟨u,d,l,j,b.1.1⟩,⟨i,e,rfl,rfl,m⟩,Zcnc.1 b.1.2⟩,Zcnd.1 b.2,by show((P.info? _).map (·.size)).getD 0=_;rw[e];rfl⟩
def Zcmv (P:Program) (k:Nat) (h:Hp) (ts:Array TypeId) (s x:Value):Eff:=
 match appT P ts with
 | some (el,z,bytes,_)=>match srcC h z x with
  | some (n,us)=>match s with
   | .slice none 0 sc=>
    bif Nat.ble n sc then(bif Nat.beq n 0 then some (some (.slice none 0 sc),h)else none)else
    bif Nat.ble (n*bytes) 140737488355328&&Nat.ble n 4611686018427387904 then
     some (some (.slice (some ⟨2*k+1,0,none⟩) n n),(2*k+1,.cells us el 0 false)::h)else none
   | .slice (some ⟨m,o,none⟩) sl sc=>match look h m with
    | some (.cells cs te hi ro)=>
     bif Nat.beq te el&&Nat.ble (o+sl*z) cs.length then
      bif Nat.ble (sl+n) sc then
       match Zcwf h m (o+sl*z) us with
       | some h1=>some (some (.slice (some ⟨m,o,none⟩) (sl+n) sc),h1)
       | none=>none
      else bif Nat.ble ((sl+n)*bytes) 140737488355328&&Nat.ble (sl+n) 4611686018427387904 then
       bif exN m then some (some (.slice (some ⟨2*k+1,0,none⟩) (sl+n) (sl+n)),(2*k+1,.cells ((cs.drop o).take (sl*z)++us) el 0 false)::h)
       else bif !ro&&(Nat.ble hi (o+sl*z)&&Nat.blt hi 9223372036854775808)&&(Nat.beq o 0 && !Zcqz cs||Zcqz ((cs.drop o).take (sl*z)++us))&&us.all oneC then
        some (some (.slice (some ⟨2*k+1,0,none⟩) (sl+n) (sl+n)),(2*k+1,.cells ((cs.drop o).take (sl*z)++us) el hi false)::del h m)
       else none
      else none
     else none
    | _=>none
   | _=>none
  | none=>none
 | none=>none
theorem Zctd (k:Nat):exN (2*k+1)=false:=by unfold exN;exact Zcnd.2 (by omega)
theorem Zcqw {k:Nat} (x:Rep (Zcmd k) (Zp P) G r h w) {c:TypeId} {z:Nat} (A:Zp P c=z) {olds us olds' vs:List Value} {zs:Array Value} (p:zs.size=z) {len cap:Nat} (l:olds.length+us.length=len*z) (d:len<=cap/\cap<=9223372036854775807)
  (q:ValsR (Zp P) r olds olds') (t:ValsR (Zp P) r us vs) {hi:Nat} {s:Sem Next}
  (y:s.run P w = .ok (.value (.slice (some ⟨w.heap.size,0,none⟩) len cap)) (w.drew.alloc (.cells (olds'.toArray++vs.toArray++Builtin.zeroCells zs (cap-len)) c))):
  ES P (Zp P) G k r h w (some (.slice (some ⟨2*k+1,0,none⟩) len len)) ((2*k+1,.cells (olds++us) c hi false)::h) s:=by
 have j:=d.1;have o:(olds'.toArray++vs.toArray++Builtin.zeroCells zs (cap-len)).size=cap*z:=by
  have:=q.1;have:=t.1;simp[Zcwk,p];have:len*z+(cap-len)*z=cap*z:=by rw[<-Nat.add_mul];congr 1;omega
  omega
 have u:ObjR (Zp P) r (2*k+1) ⟨w.drew.heap.size,0,cap*z,c⟩ (.cells (olds++us) c hi false) (.cells (olds'.toArray++vs.toArray++Builtin.zeroCells zs (cap-len)) c (0,0)):=by
  refine⟨rfl,rfl,o,by show(olds++us).length+0<=cap*z;rw[List.length_append,l];exact Nat.mul_le_mul_right z j,λhx=>(by rw[Zctd]at hx;cases hx),λi v g=>?_,FzS.zero⟩;have f:=q.append t;have n:i<(olds'++vs).length:=by rw[<-f.1];exact(List.getElem?_eq_some_iff.1 g).1
  refine⟨(olds'++vs)[i],?_,f.2 i _ _ g (by simp)⟩;have m:i<(olds'.toArray++vs.toArray).size:=by simpa using n
  simp only[Nat.add_zero];rw[Array.getElem?_append_left m];have:(olds'.toArray++vs.toArray)[i]? =(olds'++vs)[i]?:=by simp
  rw[this];simp
 obtain⟨a,b⟩:=x.drew.alloc (nm:=2*k+1) (by omega) (by omega) u;refine⟨_,_,(Nx.drew r h w).trans b,a,_,.slice (e:=⟨w.drew.heap.size,0,cap*z,c⟩) (c':=cap) (by simp[set1]) j (λhx=>(by rw[Zctd]at hx;cases hx)) (λ_=>by show CapR (0+0+cap*Zp P c) cap (cap*z) (Zp P c);rw[A];exact⟨by omega,λ_ _=>by omega,d.2⟩),y⟩
theorem Zcmw {k:Nat} (M:Rep (Zcmd k) (Zp P) G r h w) {ts:Array TypeId} {ty:TypeId} {s s' x x':Value} (hs:ValR (Zp P) r s s') (hx:ValR (Zp P) r x x') {y A} (a:Zcmv P k h ts s x=some (y,A)):
  ES P (Zp P) G k r h w y A (do pure (.value (<-Builtin.append_ ts ty #[s',x']))):=by
 unfold Zcmv at a;split at a
 case h_2=>cases a
 rename_i el z C zv af
 obtain⟨O,Y,X⟩:=Zcmu af;split at a
 case h_2=>cases a
 rename_i n us ab
 obtain⟨vs,U,al,d,g⟩:=Zcvj (P:=P) M hx ab;have ac:∀n,Zcmd (k+1) n->Zcmd k n:=λn hn=>by unfold Zcmd at *;omega
 split at a
 ·rename_i sc
  obtain rfl:=Zcna rfl hs
  cases A:Nat.ble n sc with
  | true=>
   rw[A]at a;simp only[cond_true]at a
   cases l:Nat.beq n 0 with
   | false=>rw[l]at a;cases a
   | true=>
    rw[l]at a;cases a;obtain rfl:=Zcnc.1 l;refine⟨r,w,Nx.refl r h w,M.weak ac,_,.same rfl,?_⟩;have:=Zcmx (P:=P) O (ty:=ty) (base:=none) (sl:=0) (sc:=sc) d (g w rfl) (by omega) (w1:=w) rfl;simp[this]
  | false=>
   rw[A]at a;simp only[cond_false]at a;have H:sc<n:=by
    rcases Nat.lt_or_ge sc n with L|L
    ·exact L
    ·rw[Nat.ble_eq_true_of_le L]at A;cases A
   cases l:(Nat.ble (n*C) 140737488355328&&Nat.ble n 4611686018427387904)with
   | false=>rw[l]at a;cases a
   | true=>
    rw[l]at a;cases a;simp only[Bool.and_eq_true]at l;have b1:=Nat.le_of_ble_eq_true l.1;have b2:=Nat.le_of_ble_eq_true l.2;obtain⟨cap,c1,c2⟩:=Zcmy (P:=P) (w:=w) O (ty:=ty) (base:=none) (sl:=0) (sc:=sc) (us:=[]) d (g w.drew rfl) (by simp[Builtin.firstCells]) (by omega) (by simpa using b1) (by omega) Y;simp only[Nat.zero_add]at c1 c2;have:=Zcqw (P:=P) M X (olds:=[]) (olds':=[]) O.zero (len:=n) (cap:=cap) (by simpa using al) c1 .nil U (hi:=0) (s:=do pure (.value (<-Builtin.append_ ts ty #[.slice none 0 sc,x']))) (by simp[c2]);simpa using this
 ·rename_i m o sl sc
  split at a
  case h_2=>cases a
  rename_i q te hi ro hl
  cases A:(Nat.beq te el&&Nat.ble (o+sl*z) q.length)with
  | false=>rw[A]at a;cases a
  | true=>
   rw[A]at a;simp only[cond_true]at a;simp only[Bool.and_eq_true]at A;obtain rfl:=Zcnc.1 A.1;have aa:=Nat.le_of_ble_eq_true A.2
   cases hs with
   | same ag=>simp[atom]at ag
   | @slice _ _ _ _ c' e he hcc hex hr=>
    obtain⟨c0,f,c,hO⟩:=Zctc M hl he;obtain⟨olds',ai,ar,aj⟩:=Zcru (P:=P) c hO aa;have R:e.t=te:=hO.2.1
    cases l:Nat.ble (sl+n) sc with
    | true=>
     rw[l]at a;simp only[cond_true]at a;have ap:=Nat.le_of_ble_eq_true l;split at a
     case h_2=>cases a
     rename_i hw B
     cases a
     have hS:o+sl*z+e.sh+us.length<=e.S:=by
      cases V:exN m with
      | true=>
       have:=hO.2.2.2.2.1 V;unfold Zcwf at B;rw[hl]at B;simp only at B
       cases Q:(!ro&&(Nat.ble hi (o+sl*z)&&Nat.blt hi 9223372036854775808)&&Nat.ble (o+sl*z) q.length&&(!exN m||Nat.ble (o+sl*z+us.length) q.length)&&us.all oneC&&(!Zcqz q||Zcqz (setL q (o+sl*z) us)))with
       | false=>rw[Q]at B;cases B
       | true=>
        simp only[Bool.and_eq_true,Bool.or_eq_true,V]at Q
        rcases Q.1.1.2 with Q|Q
        ·cases Q
        ·have:=Nat.le_of_ble_eq_true Q;omega
      | false=>
       have:=(hr V).1;rw[R,X]at this;have I:(sl+n)*z<=c'*z:=Nat.mul_le_mul_right z (by omega);rw[Nat.add_mul]at I;omega
     obtain⟨w1,p1,p2,p3⟩:=Zcwg (P:=P) M he U B hS;refine⟨r,w1,p3,p2.weak ac,_,.slice he hcc hex hr,?_⟩;have E:o+sl*z+e.sh=o+e.sh+sl*z:=by omega
     have:=Zcmx (P:=P) O (ty:=ty) (base:=some ⟨e.b,o+e.sh,none⟩) (sl:=sl) (sc:=c') d (g w rfl) (by omega) (w1:=w1) (by show(storeCells ((⟨e.b,o+e.sh,none⟩:Addr).add (sl*z)) vs).run P w=_;rw[addr_add,<-E];exact p1);simp[this]
    | false=>
     rw[l]at a;simp only[cond_false]at a;have H:sc<sl+n:=by
      rcases Nat.lt_or_ge sc (sl+n)with L|L
      ·exact L
      ·rw[Nat.ble_eq_true_of_le L]at l;cases l
     cases W:(Nat.ble ((sl+n)*C) 140737488355328&&Nat.ble (sl+n) 4611686018427387904)with
     | false=>rw[W]at a;cases a
     | true=>
      rw[W]at a;simp only[cond_true]at a;simp only[Bool.and_eq_true]at W;have b1:=Nat.le_of_ble_eq_true W.1;have b2:=Nat.le_of_ble_eq_true W.2;have ak:((q.drop o).take (sl*z)).length+us.length=(sl+n)*z:=by
       rw[Nat.add_mul];simp;omega
      have F:∀(u:c'<sl+n) (hi:Nat),ES P (Zp P) G k r h w (some (.slice (some ⟨2*k+1,0,none⟩) (sl+n) (sl+n))) ((2*k+1,.cells ((q.drop o).take (sl*z)++us) te hi false)::h)
        (do pure (.value (<-Builtin.append_ ts ty #[.slice (some ⟨e.b,o+e.sh,none⟩) sl c',x']))):=by
       intro u hi;obtain⟨cap,c1,c2⟩:=Zcmy (P:=P) (w:=w) O (ty:=ty) (base:=some ⟨e.b,o+e.sh,none⟩) (sl:=sl) (sc:=c') (us:=olds') d (g w.drew rfl)
        (by have:=aj w.drew c;simpa[Builtin.firstCells]using this) u b1 b2 Y
       exact Zcqw (P:=P) M X O.zero ak c1 ai U (by simp[c2])
      cases h4:exN m with
      | true=>
       rw[h4]at a;cases a;obtain rfl:=hex h4;exact F H 0
      | false=>
       rw[h4]at a;simp only[cond_false]at a
       cases I:(!ro&&(Nat.ble hi (o+sl*z)&&Nat.blt hi 9223372036854775808)&&(Nat.beq o 0 && !Zcqz q||Zcqz ((q.drop o).take (sl*z)++us))&&us.all oneC)with
       | false=>rw[I]at a;cases a
       | true=>
        rw[I]at a;cases a;simp only[Bool.and_eq_true,Bool.not_eq_true',Bool.or_eq_true,Zcnc]at I;obtain⟨⟨⟨q1,q2⟩,q3⟩,q4⟩:=I;subst q1;have am:hi<9223372036854775808:=Nat.le_of_ble_eq_true q2.2;have q2:=Nat.le_of_ble_eq_true q2.1
        rcases Nat.lt_or_ge c' (sl+n)with u|T
        ·obtain⟨r1,w1,p1,p2,p3⟩:=F u hi
         have K:∀m' p,look ((2*k+1,CO.cells ((q.drop o).take (sl*z)++us) te hi false)::del h m) m'=some p->look ((2*k+1,CO.cells ((q.drop o).take (sl*z)++us) te hi false)::h) m'=some p:=by
          intro m' p hp;rw[Zcrv]at hp⊢;split
          ·rename_i e1;rw[if_pos e1]at hp;exact hp
          ·rename_i e1;rw[if_neg e1]at hp;exact Zcrx _ _ hp
         exact⟨r1,w1,p1.trans (Nx.sub r1 w1 K),p2.sub K,p3⟩
        ·have D:=hr h4
         rw[R,X]at D;have aq:=D.1;have I:(sl+n)*z<=c'*z:=Nat.mul_le_mul_right z T;rw[Nat.add_mul]at I;have i:((q.drop o).take (sl*z)).length=sl*z:=by simp;omega
         have E:(⟨e.b,o+e.sh,none⟩:Addr).add (sl*z)=⟨e.b,o+e.sh+sl*z,none⟩:=addr_add _ _ _;have ae:=hO;obtain⟨a1,a2,a3,a4,a5,a6,a7⟩:=ae;have ao:=a7.1.1;have au:=U.1;have J:=run_storeCells_cells (P:=P) e.b (o+e.sh+sl*z) vs 0 w (λj hj=>by
           rw[cell_of c];simp;omega) (λj hj=>by
           simp only[World.frozen?,c]
           cases ah:(decide (f.1<=o+e.sh+sl*z+0+j)&&decide (o+e.sh+sl*z+0+j<f.2))with
           | false=>rfl
           | true=>
            exfalso
            simp only[Bool.and_eq_true,decide_eq_true_eq]at ah;omega) (λv hm=>by
           obtain⟨j,hj⟩:=List.getElem?_of_mem hm;have H:j<us.length:=by rw[U.1];exact(List.getElem?_eq_some_iff.1 hj).1
           exact Zcti (List.all_eq_true.1 q4 us[j] (by simp)) (U.2 j _ _ (by simp[H]) hj))
         have q5:e.sh=0/\o=0\/Zcqz ((q.drop o).take (sl*z)++us)=true:=by
          rcases q3 with⟨q3,an⟩|q3
          ·refine .inl ⟨?_,q3⟩
           rcases a7.2 with q6|q6
           ·exact q6
           ·rw[an]at q6;cases q6
          ·exact .inr q3
         have h6:=Rep.realias (P:=P) M (n:=m) (o:=o) (nm:=2*k+1) (e:=e) (olds:=(q.drop o).take (sl*z)) (us:=us) (vs:=vs) (by omega) (by omega) (Zctd k) hl he (by rw[i];exact aa)
          (by rw[i]) U (by rw[i];omega) (by rw[i];exact⟨q2,am⟩) q5 q4 (by rw[i];exact J)
         refine⟨_,_,h6.2,h6.1,_,.slice (e:=⟨e.b,o+e.sh,e.S,e.t⟩) (c':=c') (by simp[set1]) T (λad=>by rw[Zctd]at ad;cases ad) (λ_=>by simp only[Nat.zero_add];rw[R,X];exact D),?_⟩;have:=Zcmx (P:=P) O (ty:=ty) (base:=some ⟨e.b,o+e.sh,none⟩) (sl:=sl) (sc:=c') d (g w rfl) T (by show(storeCells ((⟨e.b,o+e.sh,none⟩:Addr).add (sl*z)) vs).run P w=_;rw[E];exact J);simp[this]
 ·cases a
end
section
open Go
variable {N N':Nat->Prop} {P:Program} {Z:TypeId->Nat} {G:Nat} {r:Ren} {h:Hp} {w:World}
theorem Zcqr {k:Nat}:∀n,Zcmd (k+1) n->Zcmd k n:=λn a=>by unfold Zcmd at *;omega
theorem Zcqj {zs:Array Value} (g:ArrR P r zs zs) (n:Nat):ArrR P r ((Array.range n).map (zs[· % zs.size]!)) ((Array.range n).map (zs[· % zs.size]!)):=by
 refine⟨rfl,λi a b c e=>?_⟩;obtain rfl:=Option.some.inj (c.symm.trans e);have f:i<n:=by simpa using(Array.getElem?_eq_some_iff.1 c).1
 simp[f]at c
 by_cases d:i % zs.size<zs.size
 ·rw[getElem!_pos zs _ d]at c
  subst c;exact g.2 (i % zs.size) _ _ (by simp[d]) (by simp[d])
 ·rw[getElem!_neg zs _ d]at c
  subst c;exact .same rfl
def Zcsi (P:Program) (k:Nat) (h:Hp) (t:TypeId):Value->Value->Eff
 | .int _ l,.int _ c=>match P.underlying t with
  | some (.slice el)=>match P.info? el with
   | some i=>match Zcwh P el with
    | some z=>bif decide (0<=l)&&decide (l<=c)&&decide (c<=1000000)&&Nat.ble i.bytes 1000000 && !(Nat.beq (c.toNat*i.size) 0)then
      some (some (.slice (some ⟨2*k,0,none⟩) l.toNat c.toNat),(2*k,.cells ((Array.range (c.toNat*i.size)).map (z.cells[· % z.cells.size]!)).toList el 0 false)::h)
     else bif decide (l=0)&&decide (c=0)then some (some (.slice (some ⟨2*k,0,none⟩) 0 0),(2*k,.cells [] el 0 false)::h)else none
    | none=>none
   | none=>none
  | _=>none
 | _,_=>none
theorem wrap_small {c:Int} (h0:0<=c) (a:c<=1000000):IntKind.i64.wrap c=c:=by rw[IntKind.wrap_i64];omega
theorem Zcsj {k:Nat} (v:Rep (Zcmd k) (Zp P) G r h w) {t:TypeId} {l c C c':Value} (J:ValR (Zp P) r l C) (q:ValR (Zp P) r c c') {y h1} (a:Zcsi P k h t l c=some (y,h1)):
  ES P (Zp P) G k r h w y h1 (do pure (.value (<-Instr.makeSlice t C c'))):=by
 unfold Zcsi at a;split at a
 case h_2=>cases a
 rename_i O l M c
 obtain rfl:=Zcna rfl J;obtain rfl:=Zcna rfl q;split at a
 case h_2=>cases a
 rename_i d A
 split at a
 case h_2=>cases a
 rename_i i x
 split at a
 case h_2=>cases a
 rename_i z B
 have b:∀n (w:World),(askRoom n).run P w = .ok () w:=λn w=>by unfold askRoom;split<;>rfl
 cases m:(decide (0<=l)&&decide (l<=c)&&decide (c<=1000000)&&Nat.ble i.bytes 1000000 && !(Nat.beq (c.toNat*i.size) 0))with
 | true=>
  rw[m]at a;cases a;simp only[Bool.and_eq_true,decide_eq_true_eq,Bool.not_eq_true']at m;obtain⟨⟨⟨⟨K,L⟩,s⟩,u⟩,o⟩:=m;have u:=Nat.le_of_ble_eq_true u;have o:=Zcnd.1 o;have g:=(Zcqj (Zcql (Z:=Zp P) (r:=r) 4 (Zcwi B)).cells (c.toNat*i.size)).list;refine .alloc (nm:=2*k) (t:=d) v (by omega) (by omega) (Zcst g) (.slice (e:=⟨w.heap.size,0,((Array.range (c.toNat*i.size)).map (z.cells[· % z.cells.size]!)).size,d⟩) (by simp only[set1,if_true]) (Nat.le_refl _) (λ_=>rfl) (λhx=>?_)) ?_
  ·have:exN (2*k)=true:=by simp[exN]
   rw[this]at hx;cases hx
  ·have p:=wrap_small (by omega) (by omega:l<=1000000)
   have D:=wrap_small (by omega) s;have E:¬c<0:=by omega
   have F:¬((i.bytes:Int)*c>281474976710656):=by
    have:(i.bytes:Int)*c<=1000000*1000000:=Int.mul_le_mul (by omega) s (by omega) (by omega);omega
   have H:¬l<0:=by omega
   have I:¬l>c:=by omega
   simp[Instr.makeSlice,run_underlying A,asInt,asIntOf,run_typeInfo _ x,p,D,E,F,H,I,b,sizeOf,o,Zcwj B,Zcus]
 | false=>
  rw[m]at a;simp only[cond_false]at a
  cases j:(decide (l=0)&&decide (c=0))with
  | false=>rw[j]at a;cases a
  | true=>
   rw[j]at a;cases a;simp only[Bool.and_eq_true,decide_eq_true_eq]at j;obtain⟨rfl,rfl⟩:=j;refine .alloc (nm:=2*k) (t:=d) (o':= .cells #[] d (0,0)) v (by omega) (by omega) (Zcst (cs':=#[]) .nil) (.slice (e:=⟨w.heap.size,0,(#[]:Array Value).size,d⟩) (by simp only[set1,if_true]) (Nat.le_refl _) (λ_=>rfl) (λhx=>?_)) ?_
   ·have:exN (2*k)=true:=by simp[exN]
    rw[this]at hx;cases hx
   ·have p:=wrap_small (c:=0) (by omega) (by omega)
    simp[Instr.makeSlice,run_underlying A,asInt,asIntOf,run_typeInfo _ x,p,b,sizeOf,Zcus];have:∀f:Nat->Value,Array.map f (Array.range 0) = #[]:=λf=>by apply Array.ext';simp
    rw[this]
def putC (kd:TypeDesc) (k v:Value) (ck:Nat):List (Value×Value×Nat)->Option (List (Value×Value×Nat)×Nat)
 | []=>some ([(k,v,ck)],ck+1)
 | (key,u,b)::es=>match Instr.sameNow kd k key with
  | some true=>some ((k,v,b)::es,ck)
  | some false=>match putC kd k v ck es with
   | some (es',c)=>some ((key,u,b)::es',c)
   | none=>none
  | none=>none
theorem Zcux {c:TypeDesc} {a b:Value} (h:Instr.sameNow c a b=some true):a=b/\∀n,Instr.sameBits n a a=true:=by
 unfold Instr.sameNow at h;split at h
 ·split at h
  ·rename_i k x d y e
   subst e;simp only[Option.some.injEq,beq_iff_eq]at h;subst h;exact⟨rfl,λn=>by cases n<;>simp[Instr.sameBits]⟩
  ·cases h
 ·rename_i a b
  simp only[Option.some.injEq]at h;obtain⟨x⟩:=a;obtain⟨y⟩:=b;have h:(x==y)=true:=h;obtain rfl:=eq_of_beq h;exact⟨rfl,λn=>by cases n<;>exact h⟩
 ·simp only[Option.some.injEq,beq_iff_eq]at h;subst h;exact⟨rfl,λn=>by cases n<;>simp[Instr.sameBits]⟩
 ·cases h
theorem Zcuc {M:TypeDesc} {k v v':Value} {B:Nat} (L:flat 3 k=true) (Q:ValR (Zp P) r v v'):∀ {m a} {j:Nat} {d c},EntsR P r m a->putC M k v B m=some (d,c)->
  (Instr.findNow M k a j=some none/\c=B+1/\EntsR P r d (a ++ [⟨k,v',B⟩]))\/
  (∃i u,Instr.findNow M k a j=some (some (j+i,u))/\c=B/\(∃q,a[i]? =some q/\q.key=k)/\(∀n,Instr.sameBits n k k=true)/\EntsR P r d (a.modify i λe=>{ e with key:=k,val:=v' })):=by
 intro m
 induction m with
 | nil=>
  intro a j d c C f
  cases a with
  | nil=>
   cases f
   refine .inl ⟨rfl,rfl,rfl,λi x y hx R=>?_⟩
   cases i with
   | zero=>simp at hx R;subst hx;subst R;exact⟨⟨rfl,L⟩,Q,rfl⟩
   | succ i=>simp at hx
  | cons _ _=>have:=C.1;simp at this
 | cons x m X=>
  intro a j d c C f;obtain⟨y,ys,rfl,D,K,A,J,s⟩:=C.head;obtain⟨key,u,b⟩:=x
  dsimp only at D K A J
  simp only[putC]at f;simp only[Instr.findNow,D];split at f
  ·rename_i E
   cases f
   obtain⟨V,W⟩:=Zcux E;subst V;rw[E];refine .inr ⟨0,y.val,rfl,rfl,⟨y,rfl,D⟩,W,by simpa using C.1,λi p q g l=>?_⟩
   cases i with
   | zero=>simp at g l;subst g;subst l;exact⟨⟨rfl,K⟩,Q,J⟩
   | succ i=>exact s.2 i p q (by simpa using g) (by simpa using l)
  ·rename_i E
   rw[E];split at f
   case h_2=>cases f
   rename_i o Y z
   cases f
   have cons:∀O,EntsR P r o O->EntsR P r ((key,u,b)::o) (y::O):=λO S=>by
    refine⟨by simp[S.1],λi p q g l=>?_⟩
    cases i with
    | zero=>simp at g l;subst g;subst l;exact⟨⟨D,K⟩,A,J⟩
    | succ i=>exact S.2 i p q (by simpa using g) (by simpa using l)
   rcases X (j:=j+1) s z with⟨F,H,I⟩|⟨i,t,F,H,I,T,U⟩
   ·exact .inl ⟨F,H,cons _ I⟩
   ·refine .inr ⟨i+1,t,by rw[F,Nat.add_assoc,Nat.add_comm 1 i],H,by simpa using I,T,?_⟩
    have:=cons _ U;simpa using this
  ·cases f
def putW (P:Program) (kt:TypeId) (k v:Value) (ck:Nat):List (Value×Value×Nat)->Option (List (Value×Value×Nat)×Nat)
 | []=>some ([(k,v,ck)],ck+1)
 | (key,u,b)::es=>match Zcua P (Op.equal kt k key)with
  | some true=>bif Instr.sameBits 10000 key k then some ((k,v,b)::es,ck)else none
  | some false=>match putW P kt k v ck es with
   | some (es',c)=>some ((key,u,b)::es',c)
   | none=>none
  | none=>none
theorem Zdgg {M:TypeId} {k v v':Value} {E:Nat} (B:flat 3 k=true) (R:ValR (Zp P) r v v'):∀ {s a} {j:Nat} {g f},EntsR P r s a->putW P M k v E s=some (g,f)->
  ((∀w,(Instr.findAsking M k a j).run P w = .ok none w)/\f=E+1/\EntsR P r g (a ++ [⟨k,v',E⟩]))\/
  (∃i u,(∀w,(Instr.findAsking M k a j).run P w = .ok (some (j+i,u)) w)/\f=E/\(∃q,a[i]? =some q/\Instr.sameBits 10000 q.key k=true)/\EntsR P r g (a.modify i λe=>{ e with key:=k,val:=v' })):=by
 intro s
 induction s with
 | nil=>
  intro a j g f F d
  cases a with
  | nil=>
   cases d
   refine .inl ⟨λw=>rfl,rfl,rfl,λi x y hx S=>?_⟩
   cases i with
   | zero=>simp at hx S;subst hx;subst S;exact⟨⟨rfl,B⟩,R,rfl⟩
   | succ i=>simp at hx
  | cons _ _=>have:=F.1;simp at this
 | cons x s V=>
  intro a j g f F d;obtain⟨y,X,rfl,o,Q,D,K,A⟩:=F.head;obtain⟨key,u,b⟩:=x
  dsimp only at o Q D K
  simp only[putW]at d;split at d
  ·rename_i L
   have c:=λw=>Zcub L w
   cases n:Instr.sameBits 10000 key k with
   | false=>rw[n]at d;cases d
   | true=>
    rw[n]at d;cases d;refine .inr ⟨0,y.val,λw=>by simp[Instr.findAsking,o,Sem.run_bind,c w,Result.andThen],rfl,⟨y,rfl,by rw[o];exact n⟩,by simpa using F.1,λi p q l m=>?_⟩
    cases i with
    | zero=>simp at l m;subst l;subst m;exact⟨⟨rfl,B⟩,R,K⟩
    | succ i=>exact A.2 i p q (by simpa using l) (by simpa using m)
  ·rename_i L
   have c:=λw=>Zcub L w
   split at d
   case h_2=>cases d
   rename_i z W C
   cases d
   have cons:∀O,EntsR P r z O->EntsR P r ((key,u,b)::z) (y::O):=λO T=>by
    refine⟨by simp[T.1],λi p q l m=>?_⟩
    cases i with
    | zero=>simp at l m;subst l;subst m;exact⟨⟨o,Q⟩,D,K⟩
    | succ i=>exact T.2 i p q (by simpa using l) (by simpa using m)
   rcases V (j:=j+1) A C with⟨H,I,J⟩|⟨i,t,H,I,J,U⟩
   ·exact .inl ⟨λw=>by simp[Instr.findAsking,o,Sem.run_bind,c w,Result.andThen,H],I,cons _ J⟩
   ·refine .inr ⟨i+1,t,λw=>by simp[Instr.findAsking,o,Sem.run_bind,c w,Result.andThen,H,Nat.add_assoc,Nat.add_comm 1 i],I,by simpa using J,?_⟩
    have:=cons _ U;simpa using this
  ·cases d
def Zdea (P:Program) (h:Hp) (kt:TypeId) (n:Nat) (k v:Value):Eff:=bif flat 3 k then
  match look h n with
  | some (.map es ck ro)=>bif ro || !(chkW P kt k false)then none else match putW P kt k v ck es with
   | some (es1,ck1)=>some (none,upd h n (.map es1 ck1 false))
   | none=>none
  | _=>none
 else none
def Zcsl (P:Program) (h:Hp) (t:TypeId) (m k v:Value):Eff:=
 match m with
 | .map (some n)=>match P.underlying t with
  | some (.map kt _)=>match P.underlying kt with
   | some kd=>bif Zcte kd k then
     match look h n with
     | some (.map es ck ro)=>bif ro then none else match putC kd k v ck es with
      | some (es1,ck1)=>some (none,upd h n (.map es1 ck1 false))
      | none=>none
     | _=>none
    else bif wideK kd then Zdea P h kt n k v else none
   | none=>none
  | _=>none
 | _=>none
theorem Zdeb {Q:Nat} (L:Rep (Zcmd Q) (Zp P) G r h w) {t I el:TypeId} {U:TypeDesc} {n:Nat} {V k o v v':Value} (S:P.underlying t=some (.map I el)) (z:P.underlying I=some U) (C:wideK U=true) (hm:ValR (Zp P) r (.map (some n)) V) (hk:ValR (Zp P) r k o) (hv:ValR (Zp P) r v v') {y h1} (c:Zdea P h I n k v=some (y,h1)):
  ES P (Zp P) G Q r h w y h1 (do Instr.mapUpdate t V o v';pure .skip):=by
 unfold Zdea at c
 cases H:flat 3 k with
 | false=>rw[H]at c;cases c
 | true=>
  rw[H]at c;simp only[cond_true]at c;obtain rfl:=Zcqk 3 H hk;split at c
  case h_2=>cases c
  rename_i es ck ro R
  cases g:(ro || !(chkW P I o false))with
  | true=>rw[g]at c;cases c
  | false=>
   rw[g]at c;simp only[cond_false]at c;simp only[Bool.or_eq_false_iff,Bool.not_eq_false']at g;obtain⟨rfl,s⟩:=g;split at c
   case h_2=>cases c
   rename_i l d A
   cases c
   cases hm with
   | same ha=>simp[atom]at ha
   | @map _ e he=>
    obtain⟨e',M,o',m,F⟩:=L.obj n _ R;obtain rfl:=Option.some.inj (he.symm.trans M)
    cases o' with
    | map f Y=>
     have hE:EntsR P r es f.toList:=⟨by simpa using F.2.1,λi x y a b=>F.2.2 i x y a (by simpa using b)⟩;obtain rfl:=F.1;have p:∀(D:Array MapEntry),EntsR P r l D.toList->(Instr.mapUpdate t (.map (some e.b)) o v').run P w = .ok () { w with heap:=w.heap.setIfInBounds e.b (.map D d) }->
       ES P (Zp P) G Q r h w none (upd h n (.map l d false)) (do Instr.mapUpdate t (.map (some e.b)) o v';pure .skip):=by
      intro D T B;have O:=L.low _ _ he;obtain⟨p1,p2⟩:=L.write (w':={ w with heap:=w.heap.setIfInBounds e.b (.map D d) }) (o1:= .map l d false) R rfl rfl he (by simp[O]) (λb hb=>by simp[Array.getElem?_setIfInBounds_ne (Ne.symm hb)]) (by simp)
       (o1':= .map D d) ⟨rfl,by simpa using T.1,λi x y a b=>T.2 i x y a (by simpa using b)⟩ rfl rfl rfl
      exact⟨r,_,p2,p1.weak Zcqr,by simp[B]⟩
     rcases Zdgg (j:=0) H hv hE A with⟨E,rfl,K⟩|⟨i,u,E,rfl,⟨q,W,K⟩,X⟩
     ·refine p (f.push ⟨o,v',Y⟩) (by simpa using K) ?_
      simp only[Instr.mapUpdate,Sem.run_bind,run_underlying S,Result.andThen_ok,getObj,setObj,Sem.run,m,Zcxv s,findKey_wide z C,E]
     ·refine p (f.modify i λe=>{ e with key:=o,val:=v' }) (by simpa using X) ?_
      simp only[Nat.zero_add]at E;have J:f[i]? =some q:=by simpa using W
      simp only[Instr.mapUpdate,Sem.run_bind,run_underlying S,Result.andThen_ok,getObj,setObj,Sem.run,m,Zcxv s,findKey_wide z C,E];simp[m,J,Instr.keyThatStays,K]
    | _=>exact F.elim
theorem Zcsm {T:Nat} (I:Rep (Zcmd T) (Zp P) G r h w) {t:TypeId} {m m' k z v v':Value} (W:ValR (Zp P) r m m') (U:ValR (Zp P) r k z) (X:ValR (Zp P) r v v') {y h1} (c:Zcsl P h t m k v=some (y,h1)):
  ES P (Zp P) G T r h w y h1 (do Instr.mapUpdate t m' z v';pure .skip):=by
 unfold Zcsl at c;split at c
 case h_2=>cases c
 rename_i n
 split at c
 case h_2=>cases c
 rename_i kt el S
 split at c
 case h_2=>cases c
 rename_i J g
 cases d:Zcte J k with
 | false=>
  rw[d]at c;simp only[cond_false]at c
  cases s:wideK J with
  | false=>rw[s]at c;cases c
  | true=>rw[s]at c;exact Zdeb I S g s W U X c
 | true=>
  rw[d]at c;simp only[cond_true]at c;have M:atom k=true:=by cases J<;>cases k<;>first|rfl|(simp[Zcte]at d;done)
  have Q:flat 3 k=true:=by cases J<;>cases k<;>first|rfl|(simp[Zcte]at d;done)
  obtain rfl:=Zcna M U;split at c
  case h_2=>cases c
  rename_i es ck ro V
  cases C:ro with
  | true=>rw[C]at c;cases c
  | false=>
   subst C;simp only[cond_false]at c;split at c
   case h_2=>cases c
   rename_i p f B
   cases c
   cases W with
   | same ha=>simp[atom]at ha
   | @map _ e he=>
    obtain⟨e',O,o',o,H⟩:=I.obj n _ V;obtain rfl:=Option.some.inj (he.symm.trans O)
    cases o' with
    | map l c'=>
     have hE:EntsR P r es l.toList:=⟨by simpa using H.2.1,λi x y a b=>H.2.2 i x y a (by simpa using b)⟩;obtain rfl:=H.1;have A:∀(E:Array MapEntry),EntsR P r p E.toList->(Instr.mapUpdate t (.map (some e.b)) z v').run P w = .ok () { w with heap:=w.heap.setIfInBounds e.b (.map E f) }->
       ES P (Zp P) G T r h w none (upd h n (.map p f false)) (do Instr.mapUpdate t (.map (some e.b)) z v';pure .skip):=by
      intro E Y D;have R:=I.low _ _ he;obtain⟨p1,p2⟩:=I.write (w':={ w with heap:=w.heap.setIfInBounds e.b (.map E f) }) (o1:= .map p f false) V rfl rfl he (by simp[R]) (λb hb=>by simp[Array.getElem?_setIfInBounds_ne (Ne.symm hb)]) (by simp)
       (o1':= .map E f) ⟨rfl,by simpa using Y.1,λi x y a b=>Y.2 i x y a (by simpa using b)⟩ rfl rfl rfl
      exact⟨r,_,p2,p1.weak Zcqr,by simp[D]⟩
     rcases Zcuc (j:=0) Q X hE B with⟨F,rfl,L⟩|⟨i,u,F,rfl,⟨q,a2,L⟩,a4,a5⟩
     ·refine A (l.push ⟨z,v',c'⟩) (by simpa using L) ?_
      simp only[Instr.mapUpdate,Sem.run_bind,run_underlying S,Result.andThen_ok,getObj,setObj,Sem.run,o,Zcok g d,Instr.findKey,run_underlying g];simp[F,Sem.run,o]
     ·refine A (l.modify i λe=>{ e with key:=z,val:=v' }) (by simpa using a5) ?_
      simp only[Nat.zero_add]at F;have K:l[i]? =some q:=by simpa using a2
      simp only[Instr.mapUpdate,Sem.run_bind,run_underlying S,Result.andThen_ok,getObj,setObj,Sem.run,o,Zcok g d,Instr.findKey,run_underlying g];simp[F,Sem.run,o,K,L,Instr.keyThatStays,a4]
    | _=>exact H.elim
end
section
open Go
variable {N N':Nat->Prop} {P:Program} {Z:TypeId->Nat} {G:Nat} {r:Ren} {h:Hp} {w:World}
def Zcop (P:Program) (h:Hp) (ts:Array TypeId):Value->Value->Eff
 | .slice (some ⟨n,o,none⟩) dl _,.slice (some ⟨m,q,none⟩) sl _=>match (ts[0]?).bind P.underlying with
  | some (.slice el)=>match szC P el with
   | some z=>match look h m with
    | some (.cells cs _ _ _)=>match look h n with
     | some (.cells ds _ _ _)=>
      bif Nat.ble (q+min sl dl*z) cs.length&&Nat.ble (o+min sl dl*z) ds.length then
       match Zcwf h n o ((cs.drop q).take (min sl dl*z))with
       | some h1=>some (some (goInt (min sl dl:Nat)),h1)
       | none=>none
      else none
     | _=>none
    | _=>none
   | none=>none
  | _=>none
 | .slice _ _ _,.slice none 0 _=>match (ts[0]?).bind P.underlying with
  | some (.slice el)=>match szC P el with
   | some _=>some (some (goInt 0),h)
   | none=>none
  | _=>none
 | _,_=>none
theorem Zcnh {ts:Array TypeId} {d:TypeDesc} (a:(ts[0]?).bind P.underlying=some d):∃t,ts[0]? =some t/\P.underlying t=some d:=by
 cases b:ts[0]? with
 | none=>rw[b]at a;cases a
 | some t=>rw[b]at a;exact⟨t,rfl,a⟩
theorem Zcoq {k:Nat} (v:Rep (Zcmd k) (Zp P) G r h w) {ts:Array TypeId} {ty:TypeId} {d F s s':Value} (H:ValR (Zp P) r d F) (I:ValR (Zp P) r s s') {y h1} (a:Zcop P h ts d s=some (y,h1)):
  ES P (Zp P) G k r h w y h1 (do pure (.value (<-Builtin.copy_ ts ty #[F,s']))):=by
 unfold Zcop at a;split at a
 ·rename_i n o dl L m q x sc
  split at a
  case h_2=>cases a
  rename_i O c
  obtain⟨t,p,c⟩:=Zcnh c;split at a
  case h_2=>cases a
  rename_i z u
  split at a
  case h_2=>cases a
  rename_i K t1 Q aa C
  split at a
  case h_2=>cases a
  rename_i M t2 R ab D
  cases f:(Nat.ble (q+min x dl*z) K.length&&Nat.ble (o+min x dl*z) M.length)with
  | false=>rw[f]at a;cases a
  | true=>
   rw[f]at a;simp only[cond_true]at a;simp only[Bool.and_eq_true]at f;have J:=Nat.le_of_ble_eq_true f.1;have b2:=Nat.le_of_ble_eq_true f.2;split at a
   case h_2=>cases a
   rename_i h2 V
   cases a
   cases H with
   | same g=>simp[atom]at g
   | @slice _ _ _ _ dc' e he _ _ _=>
    cases I with
    | same g=>simp[atom]at g
    | @slice _ _ _ _ sc' e2 he2 _ _ _=>
     obtain⟨c1,f1,j,A⟩:=Zctc v C he2;obtain⟨c2,f2,S,B⟩:=Zctc v D he;obtain⟨vs,T,U,l⟩:=Zcru (P:=P) j A J;obtain⟨w1,W,X,Y⟩:=Zcwg (P:=P) v he T V (by
      have:=B.2.2.2.1;simp;omega)
     refine⟨r,w1,Y,X.weak Zcqr,_,.same rfl,?_⟩;have E:=l w j;have i:Nat.min x dl=min x dl:=rfl;simp[Builtin.copy_,p,run_underlying c,Builtin.lenOf,Zcvp u,Builtin.firstCells,i,E,W]
 ·rename_i b dl L sc
  split at a
  case h_2=>cases a
  rename_i O c
  obtain⟨t,p,c⟩:=Zcnh c;split at a
  case h_2=>cases a
  rename_i z u
  cases a
  obtain rfl:=Zcna rfl I;refine⟨r,w,Nx.refl r h w,v.weak Zcqr,_,.same rfl,?_⟩
  cases H with
  | same g=>
   have f:b=none:=by cases b<;>first|rfl|(simp[atom]at g;done)
   subst f;simp[Builtin.copy_,p,run_underlying c,Builtin.lenOf,Zcvp u,Builtin.firstCells]
  | slice _ _ _ _=>
   simp[Builtin.copy_,p,run_underlying c,Builtin.lenOf,Zcvp u,Builtin.firstCells,storeCells]
  | void _ _ _=>
   simp[Builtin.copy_,p,run_underlying c,Builtin.lenOf,Zcvp u,Builtin.firstCells,storeCells]
 ·cases a
def Zcnz:List Value->Option (List UInt8)
 | []=>some []
 | .int .u8 b::vs=>match Zcnz vs with
  | some l=>bif decide (0<=b)&&decide (b<256)then some (UInt8.ofNat b.toNat::l)else none
  | none=>none
 | _=>none
theorem Zcoa:∀ {vs:List Value} {l},Zcnz vs=some l->vs=l.map λb=> .int .u8 b.toNat:=by
 intro vs
 induction vs with
 | nil=>intro l a;cases a;rfl
 | cons v vs i=>
  intro l a;unfold Zcnz at a;split at a
  ·cases ‹_=([]:List Value)›
  ·rename_i b k d
   injection d with f g
   subst f;subst g;split at a
   case h_2=>cases a
   rename_i j e
   cases c:(decide (0<=b)&&decide (b<256))with
   | false=>rw[c]at a;cases a
   | true=>
    rw[c]at a;cases a;simp only[Bool.and_eq_true,decide_eq_true_eq]at c;simp only[List.map_cons,i e,List.cons.injEq,Value.int.injEq,true_and,and_true];simp only[UInt8.toNat_ofNat'];have:b.toNat<256:=by omega
    simp;omega
  ·cases a
def strC (P:Program) (h:Hp) (ts:Array TypeId):Value->Value->Eff
 | .pointer p,.int .i64 n=>bif decide (n=0)then(match ts[0]? with|some _=>some (some (.string ⟨#[]⟩),h)|none=>none)else
  match p with
  | some ⟨m,0,none⟩=>match look h m with
   | some (.cells cs te hi ro)=>bif ro then none else match ts.toList with
    | [pt,_]=>match P.underlying pt with
     | some (.pointer e)=>bif Nat.beq e te&&Nat.beq (P.cellsOf te) 1&&decide (n=(cs.length:Int))&&Nat.ble cs.length 1000000&&Nat.ble hi cs.length && !Zcqz cs then
       match Zcnz cs with
       | some l=>some (some (.string ⟨l.toArray⟩),upd h m (.cells cs te cs.length false))
       | none=>none
      else none
     | _=>none
    | _=>none
   | _=>none
  | _=>none
 | _,_=>none
theorem Zcvm {k:Nat} (R:Rep (Zcmd k) (Zp P) G r h w) {ts:Array TypeId} {ty:TypeId} {p X n n':Value} (hp:ValR (Zp P) r p X) (hn:ValR (Zp P) r n n') {y h1} (d:strC P h ts p n=some (y,h1)):
  ES P (Zp P) G k r h w y h1 (do pure (.value (<-Builtin.unsafeString_ ts ty #[X,n']))):=by
 unfold strC at d;split at d
 case h_2=>cases d
 rename_i p n
 obtain rfl:=Zcna rfl hn
 cases J:decide (n=0)with
 | true=>
  rw[J]at d;obtain rfl:=of_decide_eq_true J;simp only[cond_true]at d;split at d
  case h_2=>cases d
  rename_i t0 V
  cases d
  obtain⟨q,rfl⟩:∃q,X = .pointer q:=by cases hp<;>exact⟨_,rfl⟩
  refine⟨r,w,Nx.refl r h w,R.weak Zcqr,_,.same rfl,?_⟩;have B:Builtin.unsafeString_ ts ty #[.pointer q,.int .i64 0]=(do
    let n <-asInt (.int .i64 0)
    let some pt:=ts[0]? |stuck "unsafe.String: no argument types"
    if n<0 then runtimePanic (.error "unsafe.String: len out of range")
    if n>IntKind.i64.max then unsupported (.unsafePointer "String: a length above the largest int")
    match q with
    | none=>
     if n=0 then pure (.string .empty)
     else runtimePanic (.error "unsafe.String: ptr is nil and len is not zero")
    | some a=>
     if n=0 then pure (.string .empty)
     else if <-variablesAt a (<-elemOf pt) n.toNat then do
      let s <-loadBytes a .empty n.toNat
      freeze a n.toNat
      pure (.string s)
     else unsupported (.unsafePointer "String: not so many bytes at ptr")):=rfl
  rw[B];have E:IntKind.i64.max=9223372036854775807:=rfl
  cases q<;>simp[asInt,asIntOf,V,E]<;>rfl
 | false=>
  rw[J]at d;have ab:=of_decide_eq_false J;simp only[cond_false]at d;split at d
  case h_2=>cases d
  rename_i m
  split at d
  case h_2=>cases d
  rename_i o te hi ro hl
  cases F:ro with
  | true=>rw[F]at d;cases d
  | false=>
   subst F;simp only[cond_false]at d;split at d
   case h_2=>cases d
   rename_i pt it W
   split at d
   case h_2=>cases d
   rename_i I U
   cases z:(Nat.beq I te&&Nat.beq (P.cellsOf te) 1&&decide (n=(o.length:Int))&&Nat.ble o.length 1000000&&Nat.ble hi o.length && !Zcqz o)with
   | false=>rw[z]at d;cases d
   | true=>
    rw[z]at d;simp only[cond_true]at d;simp only[Bool.and_eq_true,decide_eq_true_eq]at z;obtain⟨⟨⟨⟨⟨b1,M⟩,b3⟩,b4⟩,b5⟩,O⟩:=z;have O:Zcqz o=false:=by simpa using O
    have b5:=Nat.le_of_ble_eq_true b5;obtain rfl:=Zcnc.1 b1;have M:=Zcnc.1 M;have b4:=Nat.le_of_ble_eq_true b4;subst b3;split at d
    case h_2=>cases d
    rename_i l S
    cases d
    have A:=Zcoa S
    cases hp with
    | same ha=>simp[atom]at ha
    | @ptr _ _ e he=>
     obtain⟨c,f,g,hO⟩:=Zctc R hl he;obtain⟨a1,a2,a3,a4,a5,Y,a7⟩:=hO;have v:e.sh=0:=by
      rcases a7.2 with K|K
      ·exact K
      ·rw[O]at K;cases K
     have D:l.length=o.length:=by rw[A];simp
     have T:l≠[]:=by intro Q;subst Q;simp at D;omega
     have H:ts = #[pt,it]:=by apply Array.ext';simpa using W
     have u:=Lib.run_unsafeString_row (P:=P) (w:=w) pt it ty I U M e.b c.size (by simp[World.shape?,g]) l T (by omega) (by omega) (λj x hj=>by
      rw[addr_add,cell_of g];have:o[j]? =some (.int .u8 x.toNat):=by rw[A];simp[hj]
      obtain⟨v',q1,q2⟩:=Y _ _ this;obtain rfl:=Zcna rfl q2;simpa[v]using q1)
     have C:(w.freeze ⟨e.b,0,none⟩ l.length).heap[e.b]? =some (.cells c I (if f.1==f.2 then(0,l.length)else(min f.1 0,max f.2 l.length))):=by
      have:l.length≠0:=by omega
      simp[World.freeze,this,Array.getElem?_modify,g]
      try split<;>simp_all
     obtain⟨L,i⟩:∃L,L=w.freeze ⟨e.b,0,none⟩ l.length:=⟨_,rfl⟩;rw[<-i]at C u;have t:l.length≠0:=by omega
     obtain⟨p1,p2⟩:=R.write (w':=L) (o1:= .cells o I o.length false) hl rfl rfl he C (λb z=>by rw[i];simp[World.freeze,t,Array.getElem?_modify,Ne.symm z]) (by rw[i];simp[World.freeze,t])
      ⟨rfl,a2,a3,a4,a5,Y,by
       have aa:=a7.1.1;refine⟨⟨.inl ?_,λhx=>by omega⟩,.inl v⟩;split
       ·show l.length<=o.length+e.sh;omega
       ·show max f.2 l.length<=o.length+e.sh;omega⟩ (by rw[i];simp[World.freeze,t]) (by rw[i];simp[World.freeze,t]) (by rw[i];simp[World.freeze,t])
     refine⟨r,L,p2,p1.weak Zcqr,_,.same rfl,?_⟩;rw[D]at u;subst H;have Q:(⟨e.b,0+e.sh,none⟩:Addr)=⟨e.b,0,none⟩:=by rw[v]
     rw[Q];simp[u]
