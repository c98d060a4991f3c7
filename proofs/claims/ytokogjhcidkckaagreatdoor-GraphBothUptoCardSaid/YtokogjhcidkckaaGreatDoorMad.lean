import Derived.Test.YtokogjhcidkckaaGreatDoorMac
import Derived.Lib.UnsafeStr
import Derived.Laws.BitsLemmas
import Derived.Laws.Externs
namespace Go.Proofs.YtokogjhcidkckaaGreatDoor.Exe
open Go
variable {N N':Nat->Prop} {P:Program} {Z:TypeId->Nat} {G:Nat} {r:Ren} {h:Hp} {w:World}
theorem Rep.realias {k:Nat} (hR:Rep (Zcmd k) Z G r h w) {n o nm:Nat} {e:Ent} {cs:List Value} {t:TypeId} {hi:Nat} {olds us vs:List Value} {w1:World} (hn1:2*k<=nm) (hn2:nm<2*(k+1)) (hex:exN nm=false)
  (hl:look h n=some (.cells cs t hi false)) (he:r n=some e) (_hlen:o+olds.length<=cs.length) (holds:olds=(cs.drop o).take olds.length) (hv:ValsR Z r us vs) (hS:o+e.sh+olds.length+us.length<=e.S)
  (hh:hi<=o+olds.length/\hi<9223372036854775808) (h0:e.sh=0/\o=0∨Zcqz (olds++us)=true) (ho:us.all oneC=true) (hw:(storeCells ⟨e.b,o+e.sh+olds.length,none⟩ vs).run P w = .ok () w1):
  Rep (Zcmd (k+1)) Z G (set1 r nm ⟨e.b,o+e.sh,e.S,e.t⟩) ((nm,.cells (olds++us) t hi false)::del h n) w1/\
   Nx r h w (set1 r nm ⟨e.b,o+e.sh,e.S,e.t⟩) ((nm,.cells (olds++us) t hi false)::del h n) w1:=by
 obtain⟨c,f,hheap,hO⟩:=Zctc hR hl he;obtain⟨a1,a2,a3,a4,a5,a6,a7⟩:=hO;have a70:=a7.1.1;have hvl:=hv.1;have hrun:=run_storeCells_cells (P:=P) e.b (o+e.sh+olds.length) vs 0 w (λj hj=>by
   rw[cell_of hheap];simp;omega) (λj hj=>by
   simp only[World.frozen?,hheap]
   cases hfr:(decide (f.1<=o+e.sh+olds.length+0+j)&&decide (o+e.sh+olds.length+0+j<f.2))with
   | false=>rfl
   | true=>
    exfalso
    simp only[Bool.and_eq_true,decide_eq_true_eq]at hfr;omega) (λv hm=>by
   obtain⟨j,hj⟩:=List.getElem?_of_mem hm;have hlt:j<us.length:=by rw[hv.1];exact(List.getElem?_eq_some_iff.1 hj).1
   exact Zcti (List.all_eq_true.1 ho us[j] (by simp)) (hv.2 j _ _ (by simp[hlt]) hj))
 rw[hrun]at hw;have hw1:w.setCells e.b (o+e.sh+olds.length+0) vs=w1:=by injection hw
 rw[Nat.add_zero]at hw1;obtain⟨s1,s2,s3,s4,s5,s6⟩:=Zcra vs (o+e.sh+olds.length) w c t f hheap;rw[hw1]at s1 s2 s3 s4 s5 s6;have hx:=Zcuy hR (n:=nm) hn1 ⟨e.b,o+e.sh,e.S,e.t⟩;have hnm:n≠nm:=λe1=>by subst e1;rw[Zcrz hR (n:=n) hn1]at hl;cases hl
 have hblk:∀m p f,look (del h n) m=some p->r m=some f->f.b≠e.b:=by
  intro m p f hm hf hb;rw[Zcrw]at hm;split at hm
  ·cases hm
  ·rename_i hne;exact hne (hR.inj m n p _ f e hm hl hf he hb)
 refine⟨⟨λm p hm=>?_,λm m2 p q em en hm hm2 a b hb=>?_,λm f hf=>?_,λm hm=>?_,λg hg=>?_⟩,⟨hx,by omega,λb hb hno=>?_,λb hb hOw=>?_,λb hb hOw=>?_,s4,s5,s6⟩⟩
 ·rw[Zcrv]at hm
  split at hm
  ·rename_i e1;subst e1;cases hm
   refine⟨⟨e.b,o+e.sh,e.S,e.t⟩,by simp[set1],_,s1,⟨rfl,a2,by rw[Zcva];exact a3,?_,λhxx=>?_,λi v hi'=>?_,?_⟩⟩
   ·simp only[List.length_append];omega
   ·rw[hex]at hxx;cases hxx
   ·rw[Zcuz _ _ _ _ (by omega)]
    by_cases k1:i<olds.length
    ·rw[List.getElem?_append_left k1,holds,List.getElem?_take,if_pos k1,List.getElem?_drop]at hi'
     rw[if_neg (by simp only;omega)];obtain⟨v',b1,b2⟩:=a6 _ _ hi';refine⟨v',?_,b2.mono hx⟩;have:i+(o+e.sh)=o+i+e.sh:=by omega
     simp only[this];exact b1
    ·rw[List.getElem?_append_right (by omega)]at hi'
     have hlt:i-olds.length<us.length:=(List.getElem?_eq_some_iff.1 hi').1;rw[if_pos (by simp only;omega)];have:i+(o+e.sh)-(o+e.sh+olds.length)=i-olds.length:=by omega
     simp only[this];have hlt2:i-olds.length<vs.length:=by omega
     exact⟨vs[i-olds.length],by simp[hlt2],(hv.2 _ _ _ hi' (by simp[hlt2])).mono hx⟩
   ·refine⟨⟨.inl (by show f.2<=hi+(o+e.sh);omega),λhx=>a7.1.2 ?_⟩,?_⟩
    ·have hx2:hi+(o+e.sh)=0:=hx
     omega
    ·rcases h0 with⟨h0,h00⟩|h0
     ·exact .inl (by show o+e.sh=0;omega)
     ·exact .inr h0
  ·rename_i hne
   obtain⟨f,hf,p',hp',hOp⟩:=hR.obj m p (Zcrx _ _ hm);exact⟨f,hx _ _ hf,p',by rw[s2 _ (hblk m p f hm hf)];exact hp',hOp.mono hx⟩
 ·rw[Zcrv]at hm hm2
  unfold set1 at a b;split at hm
  ·rename_i e1;subst e1;simp at a;subst a
   split at hm2
   ·rename_i e2;exact e2.symm
   ·rename_i e2;rw[if_neg e2]at b;exact absurd hb.symm (hblk _ _ _ hm2 b)
  ·rename_i e1;rw[if_neg e1]at a
   split at hm2
   ·rename_i e2;subst e2;simp at b;subst b;exact absurd hb (hblk _ _ _ hm a)
   ·rename_i e2;rw[if_neg e2]at b
    exact hR.inj m m2 p q em en (Zcrx _ _ hm) (Zcrx _ _ hm2) a b hb
 ·unfold set1 at hf
  rw[s3];split at hf
  ·cases hf;exact hR.low n e he
  ·exact hR.low m f hf
 ·unfold set1
  unfold Zcmd at hm;rw[if_neg (by omega)];exact hR.new m (by unfold Zcmd;omega)
 ·obtain⟨f,hf,q1,q2⟩:=hR.glo g hg;exact⟨f,hx _ _ hf,q1,q2⟩
 ·exact s2 b (λhb'=>hno ⟨n,_,e,hl,rfl,he,hb'.symm⟩)
 ·obtain⟨m,p,f,hm,hp,hf,rfl⟩:=hOw
  rw[Zcrv]at hm;unfold set1 at hf;split at hm
  ·rename_i e1;rw[if_pos e1]at hf;cases hf
   exact⟨n,_,e,hl,rfl,he,rfl⟩
  ·rename_i e1;rw[if_neg e1]at hf
   exact⟨m,p,f,Zcrx _ _ hm,hp,hf,rfl⟩
 ·obtain⟨m,p,f,hm,hf,rfl⟩:=hOw
  rw[Zcrv]at hm;unfold set1 at hf;split at hm
  ·rename_i e1;rw[if_pos e1]at hf;cases hf
   exact⟨n,_,e,hl,he,rfl⟩
  ·rename_i e1;rw[if_neg e1]at hf
   exact⟨m,p,f,Zcrx _ _ hm,hf,rfl⟩
def appT (P:Program) (ts:Array TypeId):Option (TypeId×Nat×Nat×Value):=
 match ts[0]?,ts[1]? with
 | some t,some u=>match P.underlying t,P.underlying u with
  | some (.slice el),some d=>match P.info? el with
   | some i=>match i.zero with
    | some zv=>bif Zcsy d&&Nat.beq zv.cells.size i.size && !(Nat.beq i.bytes 0)then some (el,i.size,i.bytes,zv)else none
    | none=>none
   | none=>none
  | _,_=>none
 | _,_=>none
theorem Zcmu {ts:Array TypeId} {el z bytes zv} (hc:appT P ts=some (el,z,bytes,zv)):AppT P ts el z bytes zv/\bytes≠0/\Zp P el=z:=by
 unfold appT at hc;split at hc
 case h_2=>cases hc
 rename_i t u ht hu
 split at hc
 case h_2=>cases hc
 rename_i el' d h1 h2
 split at hc
 case h_2=>cases hc
 rename_i i hi
 split at hc
 case h_2=>cases hc
 rename_i zv' hz
 cases hb:(Zcsy d&&Nat.beq zv'.cells.size i.size && !(Nat.beq i.bytes 0))with
 | false=>rw[hb]at hc;cases hc
 | true=>
  rw[hb]at hc;cases hc;simp only[Bool.and_eq_true,Bool.not_eq_true']at hb;exact⟨⟨⟨t,ht,h1⟩,⟨u,d,hu,h2,hb.1.1⟩,⟨i,hi,rfl,rfl,hz⟩,Zcnc.1 hb.1.2⟩,Zcnd.1 hb.2,by show((P.info? _).map (·.size)).getD 0=_;rw[hi];rfl⟩
def Zcmv (P:Program) (k:Nat) (h:Hp) (ts:Array TypeId) (s x:Value):Eff:=
 match appT P ts with
 | some (el,z,bytes,_)=>match srcC h z x with
  | some (n,us)=>match s with
   | .slice none 0 sc=>
    bif Nat.ble n sc then(bif Nat.beq n 0 then some (some (.slice none 0 sc),h)else none)else
    bif Nat.ble (n*bytes) 140737488355328&&Nat.ble n 4611686018427387904 then
     some (some (.slice (some ⟨2*k+1,0,none⟩) n n),(2*k+1,.cells us el 0 false)::h)else none
   | .slice (some ⟨m,o,none⟩) sl sc=>match look h m with
    | some (.cells cs te hi ro)=>
     bif Nat.beq te el&&Nat.ble (o+sl*z) cs.length then
      bif Nat.ble (sl+n) sc then
       match Zcwf h m (o+sl*z) us with
       | some h1=>some (some (.slice (some ⟨m,o,none⟩) (sl+n) sc),h1)
       | none=>none
      else bif Nat.ble ((sl+n)*bytes) 140737488355328&&Nat.ble (sl+n) 4611686018427387904 then
       bif exN m then some (some (.slice (some ⟨2*k+1,0,none⟩) (sl+n) (sl+n)),(2*k+1,.cells ((cs.drop o).take (sl*z)++us) el 0 false)::h)
       else bif !ro&&(Nat.ble hi (o+sl*z)&&Nat.blt hi 9223372036854775808)&&(Nat.beq o 0 && !Zcqz cs||Zcqz ((cs.drop o).take (sl*z)++us))&&us.all oneC then
        some (some (.slice (some ⟨2*k+1,0,none⟩) (sl+n) (sl+n)),(2*k+1,.cells ((cs.drop o).take (sl*z)++us) el hi false)::del h m)
       else none
      else none
     else none
    | _=>none
   | _=>none
  | none=>none
 | none=>none
theorem Zctd (k:Nat):exN (2*k+1)=false:=by unfold exN;exact Zcnd.2 (by omega)
theorem Zcqw {k:Nat} (hR:Rep (Zcmd k) (Zp P) G r h w) {el:TypeId} {z:Nat} (hz:Zp P el=z) {olds us olds' vs:List Value} {zs:Array Value} (hzs:zs.size=z) {len cap:Nat} (hlen:olds.length+us.length=len*z) (hle2:len<=cap/\cap<=9223372036854775807)
  (ho:ValsR (Zp P) r olds olds') (hv:ValsR (Zp P) r us vs) {hi:Nat} {s:Sem Next}
  (hs:s.run P w = .ok (.value (.slice (some ⟨w.heap.size,0,none⟩) len cap)) (w.drew.alloc (.cells (olds'.toArray++vs.toArray++Builtin.zeroCells zs (cap-len)) el))):
  ES P (Zp P) G k r h w (some (.slice (some ⟨2*k+1,0,none⟩) len len)) ((2*k+1,.cells (olds++us) el hi false)::h) s:=by
 have hle:=hle2.1;have hsz:(olds'.toArray++vs.toArray++Builtin.zeroCells zs (cap-len)).size=cap*z:=by
  have:=ho.1;have:=hv.1;simp[Zcwk,hzs];have:len*z+(cap-len)*z=cap*z:=by rw[<-Nat.add_mul];congr 1;omega
  omega
 have hO:ObjR (Zp P) r (2*k+1) ⟨w.drew.heap.size,0,cap*z,el⟩ (.cells (olds++us) el hi false) (.cells (olds'.toArray++vs.toArray++Builtin.zeroCells zs (cap-len)) el (0,0)):=by
  refine⟨rfl,rfl,hsz,by show(olds++us).length+0<=cap*z;rw[List.length_append,hlen];exact Nat.mul_le_mul_right z hle,λhx=>(by rw[Zctd]at hx;cases hx),λi v hi'=>?_,FzS.zero⟩;have hap:=ho.append hv;have hlt:i<(olds'++vs).length:=by rw[<-hap.1];exact(List.getElem?_eq_some_iff.1 hi').1
  refine⟨(olds'++vs)[i],?_,hap.2 i _ _ hi' (by simp)⟩;have hlt2:i<(olds'.toArray++vs.toArray).size:=by simpa using hlt
  simp only[Nat.add_zero];rw[Array.getElem?_append_left hlt2];have:(olds'.toArray++vs.toArray)[i]? =(olds'++vs)[i]?:=by simp
  rw[this];simp
 obtain⟨a,b⟩:=hR.drew.alloc (nm:=2*k+1) (by omega) (by omega) hO;refine⟨_,_,(Nx.drew r h w).trans b,a,_,.slice (e:=⟨w.drew.heap.size,0,cap*z,el⟩) (c':=cap) (by simp[set1]) hle (λhx=>(by rw[Zctd]at hx;cases hx)) (λ_=>by show CapR (0+0+cap*Zp P el) cap (cap*z) (Zp P el);rw[hz];exact⟨by omega,λ_ _=>by omega,hle2.2⟩),hs⟩
theorem Zcmw {k:Nat} (hR:Rep (Zcmd k) (Zp P) G r h w) {ts:Array TypeId} {ty:TypeId} {s s' x x':Value} (hs:ValR (Zp P) r s s') (hx:ValR (Zp P) r x x') {y h1} (hc:Zcmv P k h ts s x=some (y,h1)):
  ES P (Zp P) G k r h w y h1 (do pure (.value (<-Builtin.append_ ts ty #[s',x']))):=by
 unfold Zcmv at hc;split at hc
 case h_2=>cases hc
 rename_i el z bytes zv hap
 obtain⟨hT,hb0,hZ⟩:=Zcmu hap;split at hc
 case h_2=>cases hc
 rename_i n us hsrc
 obtain⟨vs,hv,hul,hlen,hnew⟩:=Zcvj (P:=P) hR hx hsrc;have hwk:∀n,Zcmd (k+1) n->Zcmd k n:=λn hn=>by unfold Zcmd at *;omega
 split at hc
 ·rename_i sc
  obtain rfl:=Zcna rfl hs
  cases h1:Nat.ble n sc with
  | true=>
   rw[h1]at hc;simp only[cond_true]at hc
   cases h2:Nat.beq n 0 with
   | false=>rw[h2]at hc;cases hc
   | true=>
    rw[h2]at hc;cases hc;obtain rfl:=Zcnc.1 h2;refine⟨r,w,Nx.refl r h w,hR.weak hwk,_,.same rfl,?_⟩;have:=Zcmx (P:=P) hT (ty:=ty) (base:=none) (sl:=0) (sc:=sc) hlen (hnew w rfl) (by omega) (w1:=w) rfl;simp[this]
  | false=>
   rw[h1]at hc;simp only[cond_false]at hc;have hlt:sc<n:=by
    rcases Nat.lt_or_ge sc n with h'|h'
    ·exact h'
    ·rw[Nat.ble_eq_true_of_le h']at h1;cases h1
   cases h2:(Nat.ble (n*bytes) 140737488355328&&Nat.ble n 4611686018427387904)with
   | false=>rw[h2]at hc;cases hc
   | true=>
    rw[h2]at hc;cases hc;simp only[Bool.and_eq_true]at h2;have b1:=Nat.le_of_ble_eq_true h2.1;have b2:=Nat.le_of_ble_eq_true h2.2;obtain⟨cap,c1,c2⟩:=Zcmy (P:=P) (w:=w) hT (ty:=ty) (base:=none) (sl:=0) (sc:=sc) (us:=[]) hlen (hnew w.drew rfl) (by simp[Builtin.firstCells]) (by omega) (by simpa using b1) (by omega) hb0;simp only[Nat.zero_add]at c1 c2;have:=Zcqw (P:=P) hR hZ (olds:=[]) (olds':=[]) hT.zero (len:=n) (cap:=cap) (by simpa using hul) c1 .nil hv (hi:=0) (s:=do pure (.value (<-Builtin.append_ ts ty #[.slice none 0 sc,x']))) (by simp[c2]);simpa using this
 ·rename_i m o sl sc
  split at hc
  case h_2=>cases hc
  rename_i cs te hi ro hl
  cases h1:(Nat.beq te el&&Nat.ble (o+sl*z) cs.length)with
  | false=>rw[h1]at hc;cases hc
  | true=>
   rw[h1]at hc;simp only[cond_true]at hc;simp only[Bool.and_eq_true]at h1;obtain rfl:=Zcnc.1 h1.1;have hle:=Nat.le_of_ble_eq_true h1.2
   cases hs with
   | same hat=>simp[atom]at hat
   | @slice _ _ _ _ c' e he hcc hex hr=>
    obtain⟨c0,f,hheap,hO⟩:=Zctc hR hl he;obtain⟨olds',ho1,ho2,ho3⟩:=Zcru (P:=P) hheap hO hle;have het:e.t=te:=hO.2.1
    cases h2:Nat.ble (sl+n) sc with
    | true=>
     rw[h2]at hc;simp only[cond_true]at hc;have h2':=Nat.le_of_ble_eq_true h2;split at hc
     case h_2=>cases hc
     rename_i hw hwr
     cases hc
     have hS:o+sl*z+e.sh+us.length<=e.S:=by
      cases hxm:exN m with
      | true=>
       have:=hO.2.2.2.2.1 hxm;unfold Zcwf at hwr;rw[hl]at hwr;simp only at hwr
       cases hb:(!ro&&(Nat.ble hi (o+sl*z)&&Nat.blt hi 9223372036854775808)&&Nat.ble (o+sl*z) cs.length&&(!exN m||Nat.ble (o+sl*z+us.length) cs.length)&&us.all oneC&&(!Zcqz cs||Zcqz (setL cs (o+sl*z) us)))with
       | false=>rw[hb]at hwr;cases hwr
       | true=>
        simp only[Bool.and_eq_true,Bool.or_eq_true,hxm]at hb
        rcases hb.1.1.2 with hb|hb
        ·cases hb
        ·have:=Nat.le_of_ble_eq_true hb;omega
      | false=>
       have:=(hr hxm).1;rw[het,hZ]at this;have h5:(sl+n)*z<=c'*z:=Nat.mul_le_mul_right z (by omega);rw[Nat.add_mul]at h5;omega
     obtain⟨w1,p1,p2,p3⟩:=Zcwg (P:=P) hR he hv hwr hS;refine⟨r,w1,p3,p2.weak hwk,_,.slice he hcc hex hr,?_⟩;have hadd:o+sl*z+e.sh=o+e.sh+sl*z:=by omega
     have:=Zcmx (P:=P) hT (ty:=ty) (base:=some ⟨e.b,o+e.sh,none⟩) (sl:=sl) (sc:=c') hlen (hnew w rfl) (by omega) (w1:=w1) (by show(storeCells ((⟨e.b,o+e.sh,none⟩:Addr).add (sl*z)) vs).run P w=_;rw[addr_add,<-hadd];exact p1);simp[this]
    | false=>
     rw[h2]at hc;simp only[cond_false]at hc;have hlt:sc<sl+n:=by
      rcases Nat.lt_or_ge sc (sl+n)with h'|h'
      ·exact h'
      ·rw[Nat.ble_eq_true_of_le h']at h2;cases h2
     cases h3:(Nat.ble ((sl+n)*bytes) 140737488355328&&Nat.ble (sl+n) 4611686018427387904)with
     | false=>rw[h3]at hc;cases hc
     | true=>
      rw[h3]at hc;simp only[cond_true]at hc;simp only[Bool.and_eq_true]at h3;have b1:=Nat.le_of_ble_eq_true h3.1;have b2:=Nat.le_of_ble_eq_true h3.2;have hol:((cs.drop o).take (sl*z)).length+us.length=(sl+n)*z:=by
       rw[Nat.add_mul];simp;omega
      have hgrow:∀(hlt':c'<sl+n) (hi:Nat),ES P (Zp P) G k r h w (some (.slice (some ⟨2*k+1,0,none⟩) (sl+n) (sl+n))) ((2*k+1,.cells ((cs.drop o).take (sl*z)++us) te hi false)::h)
        (do pure (.value (<-Builtin.append_ ts ty #[.slice (some ⟨e.b,o+e.sh,none⟩) sl c',x']))):=by
       intro hlt' hi;obtain⟨cap,c1,c2⟩:=Zcmy (P:=P) (w:=w) hT (ty:=ty) (base:=some ⟨e.b,o+e.sh,none⟩) (sl:=sl) (sc:=c') (us:=olds') hlen (hnew w.drew rfl)
        (by have:=ho3 w.drew hheap;simpa[Builtin.firstCells]using this) hlt' b1 b2 hb0
       exact Zcqw (P:=P) hR hZ hT.zero hol c1 ho1 hv (by simp[c2])
      cases h4:exN m with
      | true=>
       rw[h4]at hc;cases hc;obtain rfl:=hex h4;exact hgrow hlt 0
      | false=>
       rw[h4]at hc;simp only[cond_false]at hc
       cases h5:(!ro&&(Nat.ble hi (o+sl*z)&&Nat.blt hi 9223372036854775808)&&(Nat.beq o 0 && !Zcqz cs||Zcqz ((cs.drop o).take (sl*z)++us))&&us.all oneC)with
       | false=>rw[h5]at hc;cases hc
       | true=>
        rw[h5]at hc;cases hc;simp only[Bool.and_eq_true,Bool.not_eq_true',Bool.or_eq_true,Zcnc]at h5;obtain⟨⟨⟨q1,q2⟩,q3⟩,q4⟩:=h5;subst q1;have q22:hi<9223372036854775808:=Nat.le_of_ble_eq_true q2.2;have q2:=Nat.le_of_ble_eq_true q2.1
        rcases Nat.lt_or_ge c' (sl+n)with hlt'|hge
        ·obtain⟨r1,w1,p1,p2,p3⟩:=hgrow hlt' hi
         have hsub:∀m' p,look ((2*k+1,CO.cells ((cs.drop o).take (sl*z)++us) te hi false)::del h m) m'=some p->look ((2*k+1,CO.cells ((cs.drop o).take (sl*z)++us) te hi false)::h) m'=some p:=by
          intro m' p hp;rw[Zcrv]at hp⊢;split
          ·rename_i e1;rw[if_pos e1]at hp;exact hp
          ·rename_i e1;rw[if_neg e1]at hp;exact Zcrx _ _ hp
         exact⟨r1,w1,p1.trans (Nx.sub r1 w1 hsub),p2.sub hsub,p3⟩
        ·have hSr2:=hr h4
         rw[het,hZ]at hSr2;have hSr:=hSr2.1;have h5:(sl+n)*z<=c'*z:=Nat.mul_le_mul_right z hge;rw[Nat.add_mul]at h5;have hotk:((cs.drop o).take (sl*z)).length=sl*z:=by simp;omega
         have hadd:(⟨e.b,o+e.sh,none⟩:Addr).add (sl*z)=⟨e.b,o+e.sh+sl*z,none⟩:=addr_add _ _ _;have hO2:=hO;obtain⟨a1,a2,a3,a4,a5,a6,a7⟩:=hO2;have a70:=a7.1.1;have hvl:=hv.1;have hrun:=run_storeCells_cells (P:=P) e.b (o+e.sh+sl*z) vs 0 w (λj hj=>by
           rw[cell_of hheap];simp;omega) (λj hj=>by
           simp only[World.frozen?,hheap]
           cases hfr:(decide (f.1<=o+e.sh+sl*z+0+j)&&decide (o+e.sh+sl*z+0+j<f.2))with
           | false=>rfl
           | true=>
            exfalso
            simp only[Bool.and_eq_true,decide_eq_true_eq]at hfr;omega) (λv hm=>by
           obtain⟨j,hj⟩:=List.getElem?_of_mem hm;have hlt:j<us.length:=by rw[hv.1];exact(List.getElem?_eq_some_iff.1 hj).1
           exact Zcti (List.all_eq_true.1 q4 us[j] (by simp)) (hv.2 j _ _ (by simp[hlt]) hj))
         have q5:e.sh=0/\o=0∨Zcqz ((cs.drop o).take (sl*z)++us)=true:=by
          rcases q3 with⟨q3,q3'⟩|q3
          ·refine .inl ⟨?_,q3⟩
           rcases a7.2 with q6|q6
           ·exact q6
           ·rw[q3']at q6;cases q6
          ·exact .inr q3
         have h6:=Rep.realias (P:=P) hR (n:=m) (o:=o) (nm:=2*k+1) (e:=e) (olds:=(cs.drop o).take (sl*z)) (us:=us) (vs:=vs) (by omega) (by omega) (Zctd k) hl he (by rw[hotk];exact hle)
          (by rw[hotk]) hv (by rw[hotk];omega) (by rw[hotk];exact⟨q2,q22⟩) q5 q4 (by rw[hotk];exact hrun)
         refine⟨_,_,h6.2,h6.1,_,.slice (e:=⟨e.b,o+e.sh,e.S,e.t⟩) (c':=c') (by simp[set1]) hge (λhxx=>by rw[Zctd]at hxx;cases hxx) (λ_=>by simp only[Nat.zero_add];rw[het,hZ];exact hSr2),?_⟩;have:=Zcmx (P:=P) hT (ty:=ty) (base:=some ⟨e.b,o+e.sh,none⟩) (sl:=sl) (sc:=c') hlen (hnew w rfl) hge (by show(storeCells ((⟨e.b,o+e.sh,none⟩:Addr).add (sl*z)) vs).run P w=_;rw[hadd];exact hrun);simp[this]
 ·cases hc
end Go.Proofs.YtokogjhcidkckaaGreatDoor.Exe
namespace Go.Proofs.YtokogjhcidkckaaGreatDoor.Exe
open Go
variable {N N':Nat->Prop} {P:Program} {Z:TypeId->Nat} {G:Nat} {r:Ren} {h:Hp} {w:World}
theorem Zcqr {k:Nat}:∀n,Zcmd (k+1) n->Zcmd k n:=λn hn=>by unfold Zcmd at *;omega
theorem Zcqj {zs:Array Value} (hz:ArrR P r zs zs) (n:Nat):ArrR P r ((Array.range n).map (zs[· % zs.size]!)) ((Array.range n).map (zs[· % zs.size]!)):=by
 refine⟨rfl,λi a b ha hb=>?_⟩;obtain rfl:=Option.some.inj (ha.symm.trans hb);have hi:i<n:=by simpa using(Array.getElem?_eq_some_iff.1 ha).1
 simp[hi]at ha
 by_cases hm:i % zs.size<zs.size
 ·rw[getElem!_pos zs _ hm]at ha
  subst ha;exact hz.2 (i % zs.size) _ _ (by simp[hm]) (by simp[hm])
 ·rw[getElem!_neg zs _ hm]at ha
  subst ha;exact .same rfl
def Zcsi (P:Program) (k:Nat) (h:Hp) (t:TypeId):Value->Value->Eff
 | .int _ l,.int _ c=>match P.underlying t with
  | some (.slice el)=>match P.info? el with
   | some i=>match Zcwh P el with
    | some z=>bif decide (0<=l)&&decide (l<=c)&&decide (c<=1000000)&&Nat.ble i.bytes 1000000 && !(Nat.beq (c.toNat*i.size) 0)then
      some (some (.slice (some ⟨2*k,0,none⟩) l.toNat c.toNat),(2*k,.cells ((Array.range (c.toNat*i.size)).map (z.cells[· % z.cells.size]!)).toList el 0 false)::h)
     else bif decide (l=0)&&decide (c=0)then some (some (.slice (some ⟨2*k,0,none⟩) 0 0),(2*k,.cells [] el 0 false)::h)else none
    | none=>none
   | none=>none
  | _=>none
 | _,_=>none
theorem wrap_small {c:Int} (h0:0<=c) (h1:c<=1000000):IntKind.i64.wrap c=c:=by rw[IntKind.wrap_i64];omega
theorem Zcsj {k:Nat} (hR:Rep (Zcmd k) (Zp P) G r h w) {t:TypeId} {l c l' c':Value} (hl:ValR (Zp P) r l l') (hcc:ValR (Zp P) r c c') {y h1} (hc:Zcsi P k h t l c=some (y,h1)):
  ES P (Zp P) G k r h w y h1 (do pure (.value (<-Instr.makeSlice t l' c'))):=by
 unfold Zcsi at hc;split at hc
 case h_2=>cases hc
 rename_i ik l ic c
 obtain rfl:=Zcna rfl hl;obtain rfl:=Zcna rfl hcc;split at hc
 case h_2=>cases hc
 rename_i el hu
 split at hc
 case h_2=>cases hc
 rename_i i hi
 split at hc
 case h_2=>cases hc
 rename_i z hz
 have hroom:∀n (w:World),(askRoom n).run P w = .ok () w:=λn w=>by unfold askRoom;split<;>rfl
 cases hb:(decide (0<=l)&&decide (l<=c)&&decide (c<=1000000)&&Nat.ble i.bytes 1000000 && !(Nat.beq (c.toNat*i.size) 0))with
 | true=>
  rw[hb]at hc;cases hc;simp only[Bool.and_eq_true,decide_eq_true_eq,Bool.not_eq_true']at hb;obtain⟨⟨⟨⟨b1,b2⟩,b3⟩,b4⟩,b5⟩:=hb;have b4:=Nat.le_of_ble_eq_true b4;have b5:=Zcnd.1 b5;have hrow:=(Zcqj (Zcql (Z:=Zp P) (r:=r) 4 (Zcwi hz)).cells (c.toNat*i.size)).list;refine .alloc (nm:=2*k) (t:=el) hR (by omega) (by omega) (Zcst hrow) (.slice (e:=⟨w.heap.size,0,((Array.range (c.toNat*i.size)).map (z.cells[· % z.cells.size]!)).size,el⟩) (by simp only[set1,if_true]) (Nat.le_refl _) (λ_=>rfl) (λhx=>?_)) ?_
  ·have:exN (2*k)=true:=by simp[exN]
   rw[this]at hx;cases hx
  ·have e1:=wrap_small (by omega) (by omega:l<=1000000)
   have e2:=wrap_small (by omega) b3;have e3:¬c<0:=by omega
   have e4:¬((i.bytes:Int)*c>281474976710656):=by
    have:(i.bytes:Int)*c<=1000000*1000000:=Int.mul_le_mul (by omega) b3 (by omega) (by omega);omega
   have e5:¬l<0:=by omega
   have e6:¬l>c:=by omega
   simp[Instr.makeSlice,run_underlying hu,asInt,asIntOf,run_typeInfo _ hi,e1,e2,e3,e4,e5,e6,hroom,sizeOf,b5,Zcwj hz,Zcus]
 | false=>
  rw[hb]at hc;simp only[cond_false]at hc
  cases h0:(decide (l=0)&&decide (c=0))with
  | false=>rw[h0]at hc;cases hc
  | true=>
   rw[h0]at hc;cases hc;simp only[Bool.and_eq_true,decide_eq_true_eq]at h0;obtain⟨rfl,rfl⟩:=h0;refine .alloc (nm:=2*k) (t:=el) (o':= .cells #[] el (0,0)) hR (by omega) (by omega) (Zcst (cs':=#[]) .nil) (.slice (e:=⟨w.heap.size,0,(#[]:Array Value).size,el⟩) (by simp only[set1,if_true]) (Nat.le_refl _) (λ_=>rfl) (λhx=>?_)) ?_
   ·have:exN (2*k)=true:=by simp[exN]
    rw[this]at hx;cases hx
   ·have e1:=wrap_small (c:=0) (by omega) (by omega)
    simp[Instr.makeSlice,run_underlying hu,asInt,asIntOf,run_typeInfo _ hi,e1,hroom,sizeOf,Zcus];have:∀f:Nat->Value,Array.map f (Array.range 0) = #[]:=λf=>by apply Array.ext';simp
    rw[this]
def putC (kd:TypeDesc) (k v:Value) (ck:Nat):List (Value×Value×Nat)->Option (List (Value×Value×Nat)×Nat)
 | []=>some ([(k,v,ck)],ck+1)
 | (key,u,b)::es=>match Instr.sameNow kd k key with
  | some true=>some ((k,v,b)::es,ck)
  | some false=>match putC kd k v ck es with
   | some (es',c)=>some ((key,u,b)::es',c)
   | none=>none
  | none=>none
theorem Zcux {kd:TypeDesc} {a b:Value} (h:Instr.sameNow kd a b=some true):a=b/\∀n,Instr.sameBits n a a=true:=by
 unfold Instr.sameNow at h;split at h
 ·split at h
  ·rename_i k x k' y e
   subst e;simp only[Option.some.injEq,beq_iff_eq]at h;subst h;exact⟨rfl,λn=>by cases n<;>simp[Instr.sameBits]⟩
  ·cases h
 ·rename_i a b
  simp only[Option.some.injEq]at h;obtain⟨x⟩:=a;obtain⟨y⟩:=b;have h:(x==y)=true:=h;obtain rfl:=eq_of_beq h;exact⟨rfl,λn=>by cases n<;>exact h⟩
 ·simp only[Option.some.injEq,beq_iff_eq]at h;subst h;exact⟨rfl,λn=>by cases n<;>simp[Instr.sameBits]⟩
 ·cases h
theorem Zcuc {kd:TypeDesc} {k v v':Value} {ck:Nat} (hkf:flat 3 k=true) (hv:ValR (Zp P) r v v'):∀ {es es'} {j:Nat} {es1 ck1},EntsR P r es es'->putC kd k v ck es=some (es1,ck1)->
  (Instr.findNow kd k es' j=some none/\ck1=ck+1/\EntsR P r es1 (es' ++ [⟨k,v',ck⟩]))∨
  (∃i u,Instr.findNow kd k es' j=some (some (j+i,u))/\ck1=ck/\(∃q,es'[i]? =some q/\q.key=k)/\(∀n,Instr.sameBits n k k=true)/\EntsR P r es1 (es'.modify i λe=>{ e with key:=k,val:=v' })):=by
 intro es
 induction es with
 | nil=>
  intro es' j es1 ck1 hE hc
  cases es' with
  | nil=>
   cases hc
   refine .inl ⟨rfl,rfl,rfl,λi x y hx hy=>?_⟩
   cases i with
   | zero=>simp at hx hy;subst hx;subst hy;exact⟨⟨rfl,hkf⟩,hv,rfl⟩
   | succ i=>simp at hx
  | cons _ _=>have:=hE.1;simp at this
 | cons x es ih=>
  intro es' j es1 ck1 hE hc;obtain⟨y,ys,rfl,hk,hf,hvx,hb,hE'⟩:=hE.head;obtain⟨key,u,b⟩:=x
  dsimp only at hk hf hvx hb
  simp only[putC]at hc;simp only[Instr.findNow,hk];split at hc
  ·rename_i hs
   cases hc
   obtain⟨e1,e2⟩:=Zcux hs;subst e1;rw[hs];refine .inr ⟨0,y.val,rfl,rfl,⟨y,rfl,hk⟩,e2,by simpa using hE.1,λi p q hp hq=>?_⟩
   cases i with
   | zero=>simp at hp hq;subst hp;subst hq;exact⟨⟨rfl,hf⟩,hv,hb⟩
   | succ i=>exact hE'.2 i p q (by simpa using hp) (by simpa using hq)
  ·rename_i hs
   rw[hs];split at hc
   case h_2=>cases hc
   rename_i es2 c2 hput
   cases hc
   have cons:∀zs,EntsR P r es2 zs->EntsR P r ((key,u,b)::es2) (y::zs):=λzs hz=>by
    refine⟨by simp[hz.1],λi p q hp hq=>?_⟩
    cases i with
    | zero=>simp at hp hq;subst hp;subst hq;exact⟨⟨hk,hf⟩,hvx,hb⟩
    | succ i=>exact hz.2 i p q (by simpa using hp) (by simpa using hq)
   rcases ih (j:=j+1) hE' hput with⟨a1,a2,a3⟩|⟨i,t,a1,a2,a3,a4,a5⟩
   ·exact .inl ⟨a1,a2,cons _ a3⟩
   ·refine .inr ⟨i+1,t,by rw[a1,Nat.add_assoc,Nat.add_comm 1 i],a2,by simpa using a3,a4,?_⟩
    have:=cons _ a5;simpa using this
  ·cases hc
def putW (P:Program) (kt:TypeId) (k v:Value) (ck:Nat):List (Value×Value×Nat)->Option (List (Value×Value×Nat)×Nat)
 | []=>some ([(k,v,ck)],ck+1)
 | (key,u,b)::es=>match Zcua P (Op.equal kt k key)with
  | some true=>bif Instr.sameBits 10000 key k then some ((k,v,b)::es,ck)else none
  | some false=>match putW P kt k v ck es with
   | some (es',c)=>some ((key,u,b)::es',c)
   | none=>none
  | none=>none
theorem Zdgg {kt:TypeId} {k v v':Value} {ck:Nat} (hkf:flat 3 k=true) (hv:ValR (Zp P) r v v'):∀ {es es'} {j:Nat} {es1 ck1},EntsR P r es es'->putW P kt k v ck es=some (es1,ck1)->
  ((∀w,(Instr.findAsking kt k es' j).run P w = .ok none w)/\ck1=ck+1/\EntsR P r es1 (es' ++ [⟨k,v',ck⟩]))∨
  (∃i u,(∀w,(Instr.findAsking kt k es' j).run P w = .ok (some (j+i,u)) w)/\ck1=ck/\(∃q,es'[i]? =some q/\Instr.sameBits 10000 q.key k=true)/\EntsR P r es1 (es'.modify i λe=>{ e with key:=k,val:=v' })):=by
 intro es
 induction es with
 | nil=>
  intro es' j es1 ck1 hE hc
  cases es' with
  | nil=>
   cases hc
   refine .inl ⟨λw=>rfl,rfl,rfl,λi x y hx hy=>?_⟩
   cases i with
   | zero=>simp at hx hy;subst hx;subst hy;exact⟨⟨rfl,hkf⟩,hv,rfl⟩
   | succ i=>simp at hx
  | cons _ _=>have:=hE.1;simp at this
 | cons x es ih=>
  intro es' j es1 ck1 hE hc;obtain⟨y,ys,rfl,hk,hf,hvx,hb,hE'⟩:=hE.head;obtain⟨key,u,b⟩:=x
  dsimp only at hk hf hvx hb
  simp only[putW]at hc;split at hc
  ·rename_i hs
   have hrun:=λw=>Zcub hs w
   cases hsb:Instr.sameBits 10000 key k with
   | false=>rw[hsb]at hc;cases hc
   | true=>
    rw[hsb]at hc;cases hc;refine .inr ⟨0,y.val,λw=>by simp[Instr.findAsking,hk,Sem.run_bind,hrun w,Result.andThen],rfl,⟨y,rfl,by rw[hk];exact hsb⟩,by simpa using hE.1,λi p q hp hq=>?_⟩
    cases i with
    | zero=>simp at hp hq;subst hp;subst hq;exact⟨⟨rfl,hkf⟩,hv,hb⟩
    | succ i=>exact hE'.2 i p q (by simpa using hp) (by simpa using hq)
  ·rename_i hs
   have hrun:=λw=>Zcub hs w
   split at hc
   case h_2=>cases hc
   rename_i es2 c2 hput
   cases hc
   have cons:∀zs,EntsR P r es2 zs->EntsR P r ((key,u,b)::es2) (y::zs):=λzs hz=>by
    refine⟨by simp[hz.1],λi p q hp hq=>?_⟩
    cases i with
    | zero=>simp at hp hq;subst hp;subst hq;exact⟨⟨hk,hf⟩,hvx,hb⟩
    | succ i=>exact hz.2 i p q (by simpa using hp) (by simpa using hq)
   rcases ih (j:=j+1) hE' hput with⟨a1,a2,a3⟩|⟨i,t,a1,a2,a3,a5⟩
   ·exact .inl ⟨λw=>by simp[Instr.findAsking,hk,Sem.run_bind,hrun w,Result.andThen,a1],a2,cons _ a3⟩
   ·refine .inr ⟨i+1,t,λw=>by simp[Instr.findAsking,hk,Sem.run_bind,hrun w,Result.andThen,a1,Nat.add_assoc,Nat.add_comm 1 i],a2,by simpa using a3,?_⟩
    have:=cons _ a5;simpa using this
  ·cases hc
def Zdea (P:Program) (h:Hp) (kt:TypeId) (n:Nat) (k v:Value):Eff:=bif flat 3 k then
  match look h n with
  | some (.map es ck ro)=>bif ro || !(chkW P kt k false)then none else match putW P kt k v ck es with
   | some (es1,ck1)=>some (none,upd h n (.map es1 ck1 false))
   | none=>none
  | _=>none
 else none
def Zcsl (P:Program) (h:Hp) (t:TypeId) (m k v:Value):Eff:=
 match m with
 | .map (some n)=>match P.underlying t with
  | some (.map kt _)=>match P.underlying kt with
   | some kd=>bif Zcte kd k then
     match look h n with
     | some (.map es ck ro)=>bif ro then none else match putC kd k v ck es with
      | some (es1,ck1)=>some (none,upd h n (.map es1 ck1 false))
      | none=>none
     | _=>none
    else bif wideK kd then Zdea P h kt n k v else none
   | none=>none
  | _=>none
 | _=>none
theorem Zdeb {kk:Nat} (hR:Rep (Zcmd kk) (Zp P) G r h w) {t kt el:TypeId} {kd:TypeDesc} {n:Nat} {m' k k' v v':Value} (hu:P.underlying t=some (.map kt el)) (hkd:P.underlying kt=some kd) (hwk:wideK kd=true) (hm:ValR (Zp P) r (.map (some n)) m') (hk:ValR (Zp P) r k k') (hv:ValR (Zp P) r v v') {y h1} (hc:Zdea P h kt n k v=some (y,h1)):
  ES P (Zp P) G kk r h w y h1 (do Instr.mapUpdate t m' k' v';pure .skip):=by
 unfold Zdea at hc
 cases hf:flat 3 k with
 | false=>rw[hf]at hc;cases hc
 | true=>
  rw[hf]at hc;simp only[cond_true]at hc;obtain rfl:=Zcqk 3 hf hk;split at hc
  case h_2=>cases hc
  rename_i es ck ro hl
  cases hro:(ro || !(chkW P kt k' false))with
  | true=>rw[hro]at hc;cases hc
  | false=>
   rw[hro]at hc;simp only[cond_false]at hc;simp only[Bool.or_eq_false_iff,Bool.not_eq_false']at hro;obtain⟨rfl,hck⟩:=hro;split at hc
   case h_2=>cases hc
   rename_i es1 ck1 hput
   cases hc
   cases hm with
   | same ha=>simp[atom]at ha
   | @map _ e he=>
    obtain⟨e',he',o',ho',hO⟩:=hR.obj n _ hl;obtain rfl:=Option.some.inj (he.symm.trans he')
    cases o' with
    | map es' c'=>
     have hE:EntsR P r es es'.toList:=⟨by simpa using hO.2.1,λi x y a b=>hO.2.2 i x y a (by simpa using b)⟩;obtain rfl:=hO.1;have fin:∀(zs:Array MapEntry),EntsR P r es1 zs.toList->(Instr.mapUpdate t (.map (some e.b)) k' v').run P w = .ok () { w with heap:=w.heap.setIfInBounds e.b (.map zs ck1) }->
       ES P (Zp P) G kk r h w none (upd h n (.map es1 ck1 false)) (do Instr.mapUpdate t (.map (some e.b)) k' v';pure .skip):=by
      intro zs hz hrun;have hlt:=hR.low _ _ he;obtain⟨p1,p2⟩:=hR.write (w':={ w with heap:=w.heap.setIfInBounds e.b (.map zs ck1) }) (o1:= .map es1 ck1 false) hl rfl rfl he (by simp[hlt]) (λb hb=>by simp[Array.getElem?_setIfInBounds_ne (Ne.symm hb)]) (by simp)
       (o1':= .map zs ck1) ⟨rfl,by simpa using hz.1,λi x y a b=>hz.2 i x y a (by simpa using b)⟩ rfl rfl rfl
      exact⟨r,_,p2,p1.weak Zcqr,by simp[hrun]⟩
     rcases Zdgg (j:=0) hf hv hE hput with⟨a1,rfl,a3⟩|⟨i,u,a1,rfl,⟨q,a2,a3⟩,a5⟩
     ·refine fin (es'.push ⟨k',v',c'⟩) (by simpa using a3) ?_
      simp only[Instr.mapUpdate,Sem.run_bind,run_underlying hu,Result.andThen_ok,getObj,setObj,Sem.run,ho',Zcxv hck,findKey_wide hkd hwk,a1]
     ·refine fin (es'.modify i λe=>{ e with key:=k',val:=v' }) (by simpa using a5) ?_
      simp only[Nat.zero_add]at a1;have a2':es'[i]? =some q:=by simpa using a2
      simp only[Instr.mapUpdate,Sem.run_bind,run_underlying hu,Result.andThen_ok,getObj,setObj,Sem.run,ho',Zcxv hck,findKey_wide hkd hwk,a1];simp[ho',a2',Instr.keyThatStays,a3]
    | _=>exact hO.elim
theorem Zcsm {kk:Nat} (hR:Rep (Zcmd kk) (Zp P) G r h w) {t:TypeId} {m m' k k' v v':Value} (hm:ValR (Zp P) r m m') (hk:ValR (Zp P) r k k') (hv:ValR (Zp P) r v v') {y h1} (hc:Zcsl P h t m k v=some (y,h1)):
  ES P (Zp P) G kk r h w y h1 (do Instr.mapUpdate t m' k' v';pure .skip):=by
 unfold Zcsl at hc;split at hc
 case h_2=>cases hc
 rename_i n
 split at hc
 case h_2=>cases hc
 rename_i kt el hu
 split at hc
 case h_2=>cases hc
 rename_i kd hkd
 cases hok:Zcte kd k with
 | false=>
  rw[hok]at hc;simp only[cond_false]at hc
  cases hwk:wideK kd with
  | false=>rw[hwk]at hc;cases hc
  | true=>rw[hwk]at hc;exact Zdeb hR hu hkd hwk hm hk hv hc
 | true=>
  rw[hok]at hc;simp only[cond_true]at hc;have hak:atom k=true:=by cases kd<;>cases k<;>first|rfl|(simp[Zcte]at hok;done)
  have hkf:flat 3 k=true:=by cases kd<;>cases k<;>first|rfl|(simp[Zcte]at hok;done)
  obtain rfl:=Zcna hak hk;split at hc
  case h_2=>cases hc
  rename_i es ck ro hl
  cases hro:ro with
  | true=>rw[hro]at hc;cases hc
  | false=>
   subst hro;simp only[cond_false]at hc;split at hc
   case h_2=>cases hc
   rename_i es1 ck1 hput
   cases hc
   cases hm with
   | same ha=>simp[atom]at ha
   | @map _ e he=>
    obtain⟨e',he',o',ho',hO⟩:=hR.obj n _ hl;obtain rfl:=Option.some.inj (he.symm.trans he')
    cases o' with
    | map es' c'=>
     have hE:EntsR P r es es'.toList:=⟨by simpa using hO.2.1,λi x y a b=>hO.2.2 i x y a (by simpa using b)⟩;obtain rfl:=hO.1;have fin:∀(zs:Array MapEntry),EntsR P r es1 zs.toList->(Instr.mapUpdate t (.map (some e.b)) k' v').run P w = .ok () { w with heap:=w.heap.setIfInBounds e.b (.map zs ck1) }->
       ES P (Zp P) G kk r h w none (upd h n (.map es1 ck1 false)) (do Instr.mapUpdate t (.map (some e.b)) k' v';pure .skip):=by
      intro zs hz hrun;have hlt:=hR.low _ _ he;obtain⟨p1,p2⟩:=hR.write (w':={ w with heap:=w.heap.setIfInBounds e.b (.map zs ck1) }) (o1:= .map es1 ck1 false) hl rfl rfl he (by simp[hlt]) (λb hb=>by simp[Array.getElem?_setIfInBounds_ne (Ne.symm hb)]) (by simp)
       (o1':= .map zs ck1) ⟨rfl,by simpa using hz.1,λi x y a b=>hz.2 i x y a (by simpa using b)⟩ rfl rfl rfl
      exact⟨r,_,p2,p1.weak Zcqr,by simp[hrun]⟩
     rcases Zcuc (j:=0) hkf hv hE hput with⟨a1,rfl,a3⟩|⟨i,u,a1,rfl,⟨q,a2,a3⟩,a4,a5⟩
     ·refine fin (es'.push ⟨k',v',c'⟩) (by simpa using a3) ?_
      simp only[Instr.mapUpdate,Sem.run_bind,run_underlying hu,Result.andThen_ok,getObj,setObj,Sem.run,ho',Zcok hkd hok,Instr.findKey,run_underlying hkd];simp[a1,Sem.run,ho']
     ·refine fin (es'.modify i λe=>{ e with key:=k',val:=v' }) (by simpa using a5) ?_
      simp only[Nat.zero_add]at a1;have a2':es'[i]? =some q:=by simpa using a2
      simp only[Instr.mapUpdate,Sem.run_bind,run_underlying hu,Result.andThen_ok,getObj,setObj,Sem.run,ho',Zcok hkd hok,Instr.findKey,run_underlying hkd];simp[a1,Sem.run,ho',a2',a3,Instr.keyThatStays,a4]
    | _=>exact hO.elim
end Go.Proofs.YtokogjhcidkckaaGreatDoor.Exe
namespace Go.Proofs.YtokogjhcidkckaaGreatDoor.Exe
open Go
variable {N N':Nat->Prop} {P:Program} {Z:TypeId->Nat} {G:Nat} {r:Ren} {h:Hp} {w:World}
def Zcop (P:Program) (h:Hp) (ts:Array TypeId):Value->Value->Eff
 | .slice (some ⟨n,o,none⟩) dl _,.slice (some ⟨m,q,none⟩) sl _=>match (ts[0]?).bind P.underlying with
  | some (.slice el)=>match szC P el with
   | some z=>match look h m with
    | some (.cells cs _ _ _)=>match look h n with
     | some (.cells ds _ _ _)=>
      bif Nat.ble (q+min sl dl*z) cs.length&&Nat.ble (o+min sl dl*z) ds.length then
       match Zcwf h n o ((cs.drop q).take (min sl dl*z))with
       | some h1=>some (some (goInt (min sl dl:Nat)),h1)
       | none=>none
      else none
     | _=>none
    | _=>none
   | none=>none
  | _=>none
 | .slice _ _ _,.slice none 0 _=>match (ts[0]?).bind P.underlying with
  | some (.slice el)=>match szC P el with
   | some _=>some (some (goInt 0),h)
   | none=>none
  | _=>none
 | _,_=>none
theorem Zcnh {ts:Array TypeId} {d:TypeDesc} (hb:(ts[0]?).bind P.underlying=some d):∃t,ts[0]? =some t/\P.underlying t=some d:=by
 cases ht:ts[0]? with
 | none=>rw[ht]at hb;cases hb
 | some t=>rw[ht]at hb;exact⟨t,rfl,hb⟩
theorem Zcoq {k:Nat} (hR:Rep (Zcmd k) (Zp P) G r h w) {ts:Array TypeId} {ty:TypeId} {d d' s s':Value} (hd:ValR (Zp P) r d d') (hs:ValR (Zp P) r s s') {y h1} (hc:Zcop P h ts d s=some (y,h1)):
  ES P (Zp P) G k r h w y h1 (do pure (.value (<-Builtin.copy_ ts ty #[d',s']))):=by
 unfold Zcop at hc;split at hc
 ·rename_i n o dl dc m q sl sc
  split at hc
  case h_2=>cases hc
  rename_i el hu
  obtain⟨t,ht,hu⟩:=Zcnh hu;split at hc
  case h_2=>cases hc
  rename_i z hz
  split at hc
  case h_2=>cases hc
  rename_i cs t1 hi1 ro1 hl1
  split at hc
  case h_2=>cases hc
  rename_i ds t2 hi2 ro2 hl2
  cases hb:(Nat.ble (q+min sl dl*z) cs.length&&Nat.ble (o+min sl dl*z) ds.length)with
  | false=>rw[hb]at hc;cases hc
  | true=>
   rw[hb]at hc;simp only[cond_true]at hc;simp only[Bool.and_eq_true]at hb;have b1:=Nat.le_of_ble_eq_true hb.1;have b2:=Nat.le_of_ble_eq_true hb.2;split at hc
   case h_2=>cases hc
   rename_i h2 hw
   cases hc
   cases hd with
   | same ha=>simp[atom]at ha
   | @slice _ _ _ _ dc' e he _ _ _=>
    cases hs with
    | same ha=>simp[atom]at ha
    | @slice _ _ _ _ sc' e2 he2 _ _ _=>
     obtain⟨c1,f1,hp1,hO1⟩:=Zctc hR hl1 he2;obtain⟨c2,f2,hp2,hO2⟩:=Zctc hR hl2 he;obtain⟨vs,hv,hvl,hrun⟩:=Zcru (P:=P) hp1 hO1 b1;obtain⟨w1,p1,p2,p3⟩:=Zcwg (P:=P) hR he hv hw (by
      have:=hO2.2.2.2.1;simp;omega)
     refine⟨r,w1,p3,p2.weak Zcqr,_,.same rfl,?_⟩;have hr1:=hrun w hp1;have hmin:Nat.min sl dl=min sl dl:=rfl;simp[Builtin.copy_,ht,run_underlying hu,Builtin.lenOf,Zcvp hz,Builtin.firstCells,hmin,hr1,p1]
 ·rename_i b dl dc sc
  split at hc
  case h_2=>cases hc
  rename_i el hu
  obtain⟨t,ht,hu⟩:=Zcnh hu;split at hc
  case h_2=>cases hc
  rename_i z hz
  cases hc
  obtain rfl:=Zcna rfl hs;refine⟨r,w,Nx.refl r h w,hR.weak Zcqr,_,.same rfl,?_⟩
  cases hd with
  | same ha=>
   have hb:b=none:=by cases b<;>first|rfl|(simp[atom]at ha;done)
   subst hb;simp[Builtin.copy_,ht,run_underlying hu,Builtin.lenOf,Zcvp hz,Builtin.firstCells]
  | slice _ _ _ _=>
   simp[Builtin.copy_,ht,run_underlying hu,Builtin.lenOf,Zcvp hz,Builtin.firstCells,storeCells]
  | void _ _ _=>
   simp[Builtin.copy_,ht,run_underlying hu,Builtin.lenOf,Zcvp hz,Builtin.firstCells,storeCells]
 ·cases hc
def Zcnz:List Value->Option (List UInt8)
 | []=>some []
 | .int .u8 b::vs=>match Zcnz vs with
  | some l=>bif decide (0<=b)&&decide (b<256)then some (UInt8.ofNat b.toNat::l)else none
  | none=>none
 | _=>none
theorem Zcoa:∀ {vs:List Value} {l},Zcnz vs=some l->vs=l.map λb=> .int .u8 b.toNat:=by
 intro vs
 induction vs with
 | nil=>intro l hc;cases hc;rfl
 | cons v vs ih=>
  intro l hc;unfold Zcnz at hc;split at hc
  ·cases ‹_=([]:List Value)›
  ·rename_i b us heq
   injection heq with h1 h2
   subst h1;subst h2;split at hc
   case h_2=>cases hc
   rename_i l' hl'
   cases hb:(decide (0<=b)&&decide (b<256))with
   | false=>rw[hb]at hc;cases hc
   | true=>
    rw[hb]at hc;cases hc;simp only[Bool.and_eq_true,decide_eq_true_eq]at hb;simp only[List.map_cons,ih hl',List.cons.injEq,Value.int.injEq,true_and,and_true];simp only[UInt8.toNat_ofNat'];have:b.toNat<256:=by omega
    simp;omega
  ·cases hc
def strC (P:Program) (h:Hp) (ts:Array TypeId):Value->Value->Eff
 | .pointer p,.int .i64 n=>bif decide (n=0)then(match ts[0]? with|some _=>some (some (.string ⟨#[]⟩),h)|none=>none)else
  match p with
  | some ⟨m,0,none⟩=>match look h m with
   | some (.cells cs te hi ro)=>bif ro then none else match ts.toList with
    | [pt,_]=>match P.underlying pt with
     | some (.pointer e)=>bif Nat.beq e te&&Nat.beq (P.cellsOf te) 1&&decide (n=(cs.length:Int))&&Nat.ble cs.length 1000000&&Nat.ble hi cs.length && !Zcqz cs then
       match Zcnz cs with
       | some l=>some (some (.string ⟨l.toArray⟩),upd h m (.cells cs te cs.length false))
       | none=>none
      else none
     | _=>none
    | _=>none
   | _=>none
  | _=>none
 | _,_=>none
theorem Zcvm {k:Nat} (hR:Rep (Zcmd k) (Zp P) G r h w) {ts:Array TypeId} {ty:TypeId} {p p' n n':Value} (hp:ValR (Zp P) r p p') (hn:ValR (Zp P) r n n') {y h1} (hc:strC P h ts p n=some (y,h1)):
  ES P (Zp P) G k r h w y h1 (do pure (.value (<-Builtin.unsafeString_ ts ty #[p',n']))):=by
 unfold strC at hc;split at hc
 case h_2=>cases hc
 rename_i p n
 obtain rfl:=Zcna rfl hn
 cases h0:decide (n=0)with
 | true=>
  rw[h0]at hc;obtain rfl:=of_decide_eq_true h0;simp only[cond_true]at hc;split at hc
  case h_2=>cases hc
  rename_i t0 ht0
  cases hc
  obtain⟨q,rfl⟩:∃q,p' = .pointer q:=by cases hp<;>exact⟨_,rfl⟩
  refine⟨r,w,Nx.refl r h w,hR.weak Zcqr,_,.same rfl,?_⟩;have hdef:Builtin.unsafeString_ ts ty #[.pointer q,.int .i64 0]=(do
    let n <-asInt (.int .i64 0)
    let some pt:=ts[0]? |stuck "unsafe.String: no argument types"
    if n<0 then runtimePanic (.error "unsafe.String: len out of range")
    if n>IntKind.i64.max then unsupported (.unsafePointer "String: a length above the largest int")
    match q with
    | none=>
     if n=0 then pure (.string .empty)
     else runtimePanic (.error "unsafe.String: ptr is nil and len is not zero")
    | some a=>
     if n=0 then pure (.string .empty)
     else if <-variablesAt a (<-elemOf pt) n.toNat then do
      let s <-loadBytes a .empty n.toNat
      freeze a n.toNat
      pure (.string s)
     else unsupported (.unsafePointer "String: not so many bytes at ptr")):=rfl
  rw[hdef];have hmax:IntKind.i64.max=9223372036854775807:=rfl
  cases q<;>simp[asInt,asIntOf,ht0,hmax]<;>rfl
 | false=>
  rw[h0]at hc;have hn0:=of_decide_eq_false h0;simp only[cond_false]at hc;split at hc
  case h_2=>cases hc
  rename_i m
  split at hc
  case h_2=>cases hc
  rename_i cs te hi ro hl
  cases hro:ro with
  | true=>rw[hro]at hc;cases hc
  | false=>
   subst hro;simp only[cond_false]at hc;split at hc
   case h_2=>cases hc
   rename_i pt it hts
   split at hc
   case h_2=>cases hc
   rename_i e0 hpt
   cases hb:(Nat.beq e0 te&&Nat.beq (P.cellsOf te) 1&&decide (n=(cs.length:Int))&&Nat.ble cs.length 1000000&&Nat.ble hi cs.length && !Zcqz cs)with
   | false=>rw[hb]at hc;cases hc
   | true=>
    rw[hb]at hc;simp only[cond_true]at hc;simp only[Bool.and_eq_true,decide_eq_true_eq]at hb;obtain⟨⟨⟨⟨⟨b1,b2⟩,b3⟩,b4⟩,b5⟩,b6⟩:=hb;have b6:Zcqz cs=false:=by simpa using b6
    have b5:=Nat.le_of_ble_eq_true b5;obtain rfl:=Zcnc.1 b1;have b2:=Zcnc.1 b2;have b4:=Nat.le_of_ble_eq_true b4;subst b3;split at hc
    case h_2=>cases hc
    rename_i l hby
    cases hc
    have hcs:=Zcoa hby
    cases hp with
    | same ha=>simp[atom]at ha
    | @ptr _ _ e he=>
     obtain⟨c,f,hheap,hO⟩:=Zctc hR hl he;obtain⟨a1,a2,a3,a4,a5,a6,a7⟩:=hO;have hsh:e.sh=0:=by
      rcases a7.2 with q6|q6
      ·exact q6
      ·rw[b6]at q6;cases q6
     have hll:l.length=cs.length:=by rw[hcs];simp
     have hl0:l≠[]:=by intro e1;subst e1;simp at hll;omega
     have hts2:ts = #[pt,it]:=by apply Array.ext';simpa using hts
     have hrun:=Lib.run_unsafeString_row (P:=P) (w:=w) pt it ty e0 hpt b2 e.b c.size (by simp[World.shape?,hheap]) l hl0 (by omega) (by omega) (λj x hj=>by
      rw[addr_add,cell_of hheap];have:cs[j]? =some (.int .u8 x.toNat):=by rw[hcs];simp[hj]
      obtain⟨v',q1,q2⟩:=a6 _ _ this;obtain rfl:=Zcna rfl q2;simpa[hsh]using q1)
     have hfz:(w.freeze ⟨e.b,0,none⟩ l.length).heap[e.b]? =some (.cells c e0 (if f.1==f.2 then(0,l.length)else(min f.1 0,max f.2 l.length))):=by
      have:l.length≠0:=by omega
      simp[World.freeze,this,Array.getElem?_modify,hheap]
      try split<;>simp_all
     obtain⟨w1,hw1⟩:∃w1,w1=w.freeze ⟨e.b,0,none⟩ l.length:=⟨_,rfl⟩;rw[<-hw1]at hfz hrun;have hl1:l.length≠0:=by omega
     obtain⟨p1,p2⟩:=hR.write (w':=w1) (o1:= .cells cs e0 cs.length false) hl rfl rfl he hfz (λb hb=>by rw[hw1];simp[World.freeze,hl1,Array.getElem?_modify,Ne.symm hb]) (by rw[hw1];simp[World.freeze,hl1])
      ⟨rfl,a2,a3,a4,a5,a6,by
       have a70:=a7.1.1;refine⟨⟨.inl ?_,λhx=>by omega⟩,.inl hsh⟩;split
       ·show l.length<=cs.length+e.sh;omega
       ·show max f.2 l.length<=cs.length+e.sh;omega⟩ (by rw[hw1];simp[World.freeze,hl1]) (by rw[hw1];simp[World.freeze,hl1]) (by rw[hw1];simp[World.freeze,hl1])
     refine⟨r,w1,p2,p1.weak Zcqr,_,.same rfl,?_⟩;rw[hll]at hrun;subst hts2;have e1:(⟨e.b,0+e.sh,none⟩:Addr)=⟨e.b,0,none⟩:=by rw[hsh]
     rw[e1];simp[hrun]
end Go.Proofs.YtokogjhcidkckaaGreatDoor.Exe
