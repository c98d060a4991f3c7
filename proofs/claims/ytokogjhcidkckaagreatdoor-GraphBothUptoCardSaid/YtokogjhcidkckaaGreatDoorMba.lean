import Derived.Test.YtokogjhcidkckaaGreatDoorMaz
namespace Go.Proofs.YtokogjhcidkckaaGreatDoor
open Go.Lib (hid)
open Go.Proofs.Tryz
open Go.RowKit Go.Shelf Go.Maps
theorem Zso:(prog.info? 131).map (λi=>(i.zero,i.size,i.bytes))=some (some (.slice none 0 0),1,24):=by kernel_rfl
def ndOf (ns:List (List Nat)) (k:Nat):List Nat:=(ns[k]?).getD []
set_option maxHeartbeats 8000000
set_option maxRecDepth 100000
theorem Zbhy (s:Nat) (nv:Value) (ns:List (List Nat)) (w:World) (hN:NeedsIs w nv ns) (hlt:∀x∈ns,∀y∈x,y<ns.length) (hs:s<ns.length) (hn:ns.length<=1000) (hl:∀x∈ns,x.length<=100000000):
  Calls prog 128 #[.int .i64 (s:Int),nv] w λe w'=>∃u,e = .returned u/\IsInts w' u (Zbhz s (ndOf ns) ns.length)/\Below w.heap.size w w':=by
 have mixed:prog.follows .mixedOrders=true:=by kernel_rfl
 obtain⟨i0,hi0,hz0,hz1,hz2⟩:=info_parts Zsn;obtain⟨i1,hi1,hy0,hy1,hy2⟩:=info_parts Zso;obtain⟨g,rfl,hg,hc⟩:=hN;obtain⟨N,hNN⟩:∃N,ns.length=N:=⟨_,rfl⟩;rw[hNN]at hlt hs hn⊢;have hmk:=Zyd N (by omega);obtain⟨n,hnn⟩:∃n,w.heap.size=n:=⟨_,rfl⟩;have HC:Hid (∀(k:Nat) x,ns[k]? =some x->∃a c,x.length<=c/\c<=maxLen/\(∀W,Below n w W->W.cell? ⟨g,k,none⟩=some (.slice a x.length c))/\∀(j:Nat) y,x[j]? =some y->∃b o,a=some ⟨b,o,none⟩/\∀W,Below n w W->W.cell? ⟨b,o+j,none⟩=some (.int .i64 (y:Int))):=by
  show ∀(k:Nat) x,_;intro k x hx;obtain⟨u,hu,hI⟩:=hc k x hx;obtain⟨a,c,rfl,h1,h2,h3⟩:=hI.at;rw[hnn]at h3;exact⟨a,c,h1,h2,λW hW=>(hW.cell (p:=⟨g,k,none⟩) (by rw[<-hnn];exact hg)).trans hu,h3⟩
 have HLT:Hid (∀(k:Nat) x,ns[k]? =some x->∀y∈x,y<N):=hid λk x hx=>hlt x (List.mem_of_getElem? hx)
 have HLL':Hid (∀(k:Nat) x,ns[k]? =some x->x.length<=100000000):=hid λk x hx=>hl x (List.mem_of_getElem? hx)
 obtain⟨W3,hW3⟩:∃W,((w.alloc (.cells (madeCells #[.bool false] N) 4)).alloc (.cells #[.int .i64 (s:Int)] 3)).alloc (.cells #[.slice (some ⟨n+1,0,none⟩) 1 1] 131)=W:=⟨_,rfl⟩;have hS3:RouS w n (.slice (some ⟨n+2,0,none⟩) 1 1) [[s]] (List.replicate N false) W3:=by
  have e1:((w.alloc (.cells (madeCells #[.bool false] N) 4)).alloc (.cells #[.int .i64 (s:Int)] 3)).heap.size=n+2:=by simp[hnn]
  have q2:=alloc_at ((w.alloc (.cells (madeCells #[.bool false] N) 4)).alloc (.cells #[.int .i64 (s:Int)] 3)) (.cells #[.slice (some ⟨n+1,0,none⟩) 1 1] 131);rw[e1]at q2;have q1:=alloc_at (w.alloc (.cells (madeCells #[.bool false] N) 4)) (.cells #[.int .i64 (s:Int)] 3);rw[World.size_alloc,hnn]at q1;have q0:=Zgc w N;rw[hnn]at q0;rw[hW3]at q2;have hb1:Below (n+1) (w.alloc (.cells (madeCells #[.bool false] N) 4)) W3:=by rw[<-hW3];exact((Below.refl _ _).alloc (by simp[hnn]) _).alloc (by simp[hnn]<;>omega) _
  have hb2:Below (n+2) ((w.alloc (.cells (madeCells #[.bool false] N) 4)).alloc (.cells #[.int .i64 (s:Int)] 3)) W3:=by rw[<-hW3];exact(Below.refl _ _).alloc (by simp[hnn]) _
  refine⟨⟨[.slice (some ⟨n+1,0,none⟩) 1 1],.inr ⟨n+2,0,1,_,rfl,by omega,q2,by simp,by decide,by simp,λj x hx=>?_⟩,rfl,λj u x hu hx=>?_⟩,q0.heap (hb1.block n (by omega)),?_,?_⟩
  ·have hjl:=(List.getElem?_eq_some_iff.1 hx).1
   simp only[List.length_cons,List.length_nil]at hjl;obtain rfl:j=0:=by omega
   simpa using hx
  ·have hjl:=(List.getElem?_eq_some_iff.1 hu).1
   simp only[List.length_cons,List.length_nil]at hjl;obtain rfl:j=0:=by omega
   obtain rfl:Value.slice (some ⟨n+1,0,none⟩) 1 1=u:=by simpa using hu
   obtain rfl:[s]=x:=by simpa using hx
   exact⟨rfl,.inr ⟨n+1,1,_,rfl,Nat.le_refl _,(hb2.block (n+1) (by omega)).trans q1,Nat.le_refl _,by decide,rfl,rfl⟩⟩
  ·rw[<-hW3,<-hnn];exact(((Below.refl _ _).alloc (Nat.le_refl _) _).alloc (by simp) _).alloc (by simp<;>omega) _
  ·have:=hb1.size;rw[World.size_alloc,hnn]at this;exact this
 obtain⟨si,hsi⟩:∃si:Int,(s:Int)=si:=⟨_,rfl⟩;rw[hsi]at hW3⊢;have HSI:=hid hsi;have HS3:=hid hS3;have HW3:=hid hW3;have HNN:=hid hnn;have HWK:=hid (Zbsq (nd:=ndOf ns) hs);obtain⟨RES,hRES⟩:∃R,Zbhz s (ndOf ns) N=R:=⟨_,rfl⟩;have HRES:Hid (bfsF s (ndOf ns) (N+2) [[s]] (List.replicate N false)=RES):=hRES;rw[hRES,hnn];clear hc hlt hl hS3 hW3 hRES hsi
 go_enter func128,ntmps128
 go_wp2_with fail
 rw[HW3.out]
 go_loopw [6] (λqv wr=>∃(q:List (List Nat)) (r:List Bool) (m:Nat),bfsF s (ndOf ns) m q r=RES/\q.length+cntF r<m/\WaysOk s (ndOf ns) N q r/\RouS w n qv q r wr) (λqv wr=>lenV qv+cntW wr n)
 case atStart=>exact⟨_,_,N+2,HRES.out,by rw[Zka];simp;omega,HWK.out,HS3.out⟩
 case round=>
  obtain⟨q,r,m,hE,hm,hW,hS⟩:=hrel;obtain⟨us,hq,hus,hown⟩:=id hS.row;obtain⟨qa,qc,rfl,hqc,hqm,hqcell⟩:=hq.shape;obtain⟨m,rfl⟩:∃m',m=m'+1:=⟨m-1,by omega⟩;unfold maxLen at hqm
  cases q with
  | nil=>
   obtain rfl:us = []:=List.eq_nil_of_length_eq_zero (by simpa using hus);have HB:=hid hS.below;have hE2:[]=RES:=by rw[<-hE];rfl
   have HE2:Hid (IsInts wr (.slice none 0 0) RES):=hid (by rw[<-hE2];exact⟨none,0,rfl,Nat.le_refl _,Nat.zero_le _,λh=>absurd rfl h⟩);simp only[List.length_nil]at hqc⊢;clear hE hE2 hm hW hS hq hus hown hqcell;go_wp2;go_ret;exact⟨_,rfl,HE2.out,HB.out⟩
  | cons y q=>
   cases us with
   | nil=>simp at hus
   | cons u us=>
   have hy0:=hW.ne y (by simp);have hylen:=hW.len y (by simp);have hyl:∀z∈y,z<N:=hW.lt y (by simp);have hu:=hown 0 u y rfl rfl;obtain⟨ll,hll⟩:∃ll,y.length=ll+1:=⟨y.length-1,by have:=List.length_pos_iff.2 hy0;omega⟩;obtain⟨ub,uk,ucur,eu,hub,hug,hu1,hu2,hu3,hu4⟩:∃b uk cur,u = .slice (some ⟨b,0,none⟩) (ll+1) uk/\n+1<=b/\wr.heap[b]? =some (.cells cur 3 (0,0))/\ll+1<=uk/\uk<=maxLen/\cur.size=uk*1/\cur.toList.take ((ll+1)*1)=y.map intV:=by
    rcases hu.2 with⟨_,h0⟩|⟨b,uk,cur,e1,e2,e3,e4,e5,e6,e7⟩
    ·omega
    ·rw[hll]at e1 e4 e7
     exact⟨b,uk,cur,e1,e2,e3,e4,e5,e6,e7⟩
   subst eu;obtain⟨z0,hz0⟩:∃z,y[ll]? =some z:=⟨y[ll]'(by omega),List.getElem?_eq_getElem _⟩;have hlast:y.getLastD 0=z0:=by rw[List.getLastD_eq_getLast?,List.getLast?_eq_getElem?,hll,Nat.add_sub_cancel,hz0];rfl
   have hz0l:=hyl z0 (List.mem_of_getElem? hz0);obtain⟨x,hx⟩:∃x,ns[z0]? =some x:=⟨ns[z0]'(by omega),List.getElem?_eq_getElem _⟩;obtain⟨a2,c2,h21,h22,hcell2,hel⟩:=HC.out z0 x hx;have cN:=hcell2 wr hS.below;have cU:wr.cell? ⟨ub,ll,none⟩=some (.int .i64 (z0:Int)):=by
    simp only[World.cell?,hug,Option.isSome_none,Bool.false_eq_true,if_false];have:(ucur.toList.take ((ll+1)*1))[ll]? =(y.map intV)[ll]?:=by rw[hu4]
    rw[List.getElem?_take,if_pos (by omega),List.getElem?_map,hz0]at this;simpa[intV]using this
   obtain⟨qb,qo,eq,hqb,cQ⟩:=hqcell 0 _ rfl;subst eq;simp only[Nat.add_zero]at cQ;obtain⟨L,hL⟩:∃L,us.length=L:=⟨_,rfl⟩;have hpop:=hS.pop;simp only[List.length_cons,hL,Option.map_some,Addr.add_lit,Nat.add_sub_cancel]at hpop hqc⊢;obtain⟨V6,hV6⟩:∃V,Value.slice (if qc=1 then some ⟨qb,qo,none⟩else some ⟨qb,qo+1*1,none⟩) L (qc-1)=V:=⟨_,rfl⟩;rw[hV6]at hpop;have hslq:∀W:World,(Instr.sliceAt 173 (.slice (some ⟨qb,qo,none⟩) (L+1) qc) (some (.int .i64 1)) none none).run prog W = .ok V6 W:=by
    intro W;have e1:¬(L:Int)+1<1:=by omega
    rw[<-hV6];simp[Instr.sliceAt,Instr.slice,run_underlying underlying173,sizeOf,typeInfo,hi1,hy1,Instr.sliceBounds,go_sem,e1]
   have hl0:(0:Int)<(L:Int)+1:=by omega
   have hzi:(z0:Int)<(N:Int):=by omega
   have hzi0:(0:Int)<=(z0:Int):=by omega
   obtain⟨X,hX⟩:∃X,Zbax s y x q r=X:=⟨_,rfl⟩;have hE':Zkm s (ndOf ns) m y X=RES:=by
    rw[<-hE,Zfp,hlast,show ndOf ns z0=x by unfold ndOf;rw[hx];rfl,hX]
   have HE:=hid hE';have HX:=hid hX;have HPOP:=hid hpop;have HW:=hid hW.tail;have HM:=hid hm;have HU:=hid hu;have HEL:=hid hel;have HLL:=hid hll;have HXLT:=hid (HLT.out z0 x hx);have HXL:=HLL'.out z0 x hx;have HYL:=hid hyl;have HYN:=hid hylen;have HSZ:=hid hS.marks;have HQL:Hid (L=q.length):=hid (by rw[<-hL];simpa using hus);clear hll hE hE' hX hpop hW hm hu hel hS hq hus hown hqcell hcell2 hV6 hyl hylen hug hu3 hu4 hz0 hlast hx hy0 hub;unfold maxLen at hu2 h22;have HCN:=hid (Zkc HSZ.out);obtain⟨WR,hWR⟩:∃V,V=wr:=⟨_,rfl⟩;rw[<-hWR]at HCN HPOP HU;subst hWR
   go_wp2_with fail
   go_loopw [6,34] (λqv jv wq=>∃(j:Nat) (q1:List (List Nat)) (r1:List Bool),j<=x.length/\jv = .int .i64 (j:Int)/\Zbax s y (x.drop j) q1 r1=X/\q1.length+cntF r1=q.length+cntF r/\y.length+cntF r1<=N+1/\WaysOk s (ndOf ns) N q1 r1/\RouS w n qv q1 r1 wq/\OwnInts (n+1) wq (.slice (some ⟨ub,0,none⟩) (ll+1) uk) y) (λ_ jv _=>x.length-(intOf jv).toNat)
   case atStart=>exact⟨0,q,r,Nat.zero_le _,rfl,by rw[List.drop_zero];exact HX.out,rfl,HYN.out,HW.out,HPOP.out,HU.out⟩
   case round=>
    obtain⟨j,q1,r1,hj,rfl,hX,hcnt,hyc,hW,hS,hu⟩:=hrel
    by_cases hlt:j<x.length
    ·obtain⟨z,hz⟩:∃z,x[j]? =some z:=⟨x[j],List.getElem?_eq_getElem hlt⟩
     obtain⟨eb,eo,ea,hc⟩:=HEL.out j z hz;subst ea;have cz:=hc wr hS.below;have hzl:=HXLT.out z (List.mem_of_getElem? hz);rw[Zma hz,Zbax]at hX;have hj1:(j:Int)<(x.length:Int):=by omega
     have hj0:(0:Int)<=(j:Int):=by omega
     have hzN:(z:Int)<(N:Int):=by omega
     have hzn0:(0:Int)<=(z:Int):=by omega
     by_cases hzs:z=s
     ·rw[if_pos hzs]at hX
      subst hX;have HR:Hid (IsInts wr (.slice (some ⟨ub,0,none⟩) (ll+1) uk) RES):=hid (by rw[<-HE.out];exact hu.isInts);have HB:=hid hS.below;have hzi2:(z:Int)=si:=by have:=HSI.out;omega
      clear hcnt hyc hW hS hu hc hz hzs;go_wp2;go_ret;exact⟨_,rfl,HR.out,HB.out⟩
     ·rw[if_neg hzs]at hX
      have hzi2:¬(z:Int)=si:=by have:=HSI.out;omega
      obtain⟨b,hb⟩:∃b,r1[z]? =some b:=⟨r1[z]'(by rw[hW.size];exact hzl),List.getElem?_eq_getElem _⟩;obtain⟨cm,cf⟩:=hS.marks.cell hb
      cases b
      ·rw[if_neg (by rw[hb];simp)]at hX
       have hpush:=hW.push hyc HYL.out hzl hb;have hcs:=Zkb hb;have hyN:=HYN.out;have hcl:cntF r1<=N:=by have:=List.countP_le_length (p:=λx=>x==false) (l:=r1);rw[hW.size]at this;exact this
       obtain⟨W1,hW1⟩:∃W,wr.setCell ⟨n,z,none⟩ (.bool true)=W:=⟨_,rfl⟩;have hS1:=hS.mark (x:=z);have hu1:OwnInts (n+1) W1 (.slice (some ⟨ub,0,none⟩) (ll+1) uk) y:=by
        rw[<-hW1];refine Zbdo hu (row:=some n) ⟨rfl,rfl,rfl,by simp[World.setCell],λk _ hk=>Below.heap_setCell wr _ _ k (λe=>hk (by rw[e]))⟩ λk e hb=>?_
        have:=(hu.type hb).1;have:=Option.some.inj e;omega
       rw[hW1]at hS1;have hyl2:y.length<=1001:=by omega
       have CC:=hid (Zjg _ y W1 hu1.isInts (by omega));have HS1:=hid hS1;have HU1:=hid hu1;have HW1:=hid hW1;have HX2:=hid hX;have HCT:Hid ((q1 ++ [y ++ [z]]).length+cntF (r1.set z true)=q.length+cntF r):=hid (by rw[List.length_append];simp only[List.length_cons,List.length_nil];omega);have HYC:Hid (y.length+cntF (r1.set z true)<=N+1):=hid (by omega);have HW2:=hid hpush;have HYL2:=hid hyl2;have HQ1:Hid (q1.length<=1001):=hid (by have:=hW.many;omega);have HN1:Hid (n+1<=W1.heap.size):=hid hS1.size;clear hX hcnt hyc hW hS hu hc hz hb hzs hpush hcs hyN hcl hS1 hu1 hW1 hyl2
       go_wp2_with (first|(go_at_call 180;rw[HW1.out];(with_reducible refine CC.out.mono ?_);rintro e w2 ⟨v2,rfl,ho2,hb2⟩;obtain⟨p2,k2,rfl⟩:=Zbeb ho2;have HO2:=hid (show w2.ownsRow W1.heap.size 3 1 _ _ _ from ho2);have HB2:=hid hb2;clear ho2 hb2)|(at_builtin;(refine wpList_append_own _ rfl _ _ 131 rfl W1.heap.size 3 i0 _ 1 8 underlying131 hi0 hz0 hz1 hz2 rfl (by decide) _ _ _ rfl (World.ownsRow.alloc HO2.out _) ⟨w2.heap.size,0,none⟩ 1 1 [.int .i64 (z:Int)] rfl rfl (cell_one_new _ _ _) ?qc3 ?qc4 ?qc5 ?qc6 ?_)))
       case qc3=>intro u hu;simp at hu;subst hu;rfl
       case qc4=>have:=HYL2.out;unfold maxLen;omega
       case qc5=>have:=HYL2.out;omega
       case qc6=>have:=HB2.out.size;simp;omega
       intro v3 w3 ho3 hg3 _;obtain⟨p3,k3,rfl⟩:=Zbeb ho3;have hb3:Below W1.heap.size W1 w3:=(HB2.out.alloc HB2.out.size _).grown hg3 (by have:=HB2.out.size;simp;omega) (λk e=>((World.ownsRow.alloc HO2.out (.cells #[.int .i64 (z:Int)] 3)).lt k e).1);have hz3:=hb3.size;have hS3:=HS1.out.later (below_grown (hb3.alloc hz3 (.cells #[.slice p3 (y.length+1) k3] 131)) (Nat.le_refl _));have hu3:=Zbdo HU1.out (below_grown (hb3.alloc hz3 (.cells #[.slice p3 (y.length+1) k3] 131)) (Nat.le_refl _)) (by simp);have ho3':OwnInts (n+1) (w3.alloc (.cells #[.slice p3 (y.length+1) k3] 131)) (.slice p3 (y.length+1) k3) (y ++ [z]):=by
        have h:w3.ownsRow (n+1) 3 1 (.slice p3 (y.length+1) k3) (y.length+1) (y.map intV ++ [.int .i64 (z:Int)]):=Zbdt ho3 HN1.out;unfold OwnInts;rw[List.length_append,List.map_append];exact World.ownsRow.alloc h _
       obtain⟨us3,hq3,hus3,hown3⟩:=id hS3.row;have hq3l:us3.length<=1001:=by have:=HQ1.out;omega
       have HS3':=hid hS3;have HU3:=hid hu3;have HO3:=hid ho3';have HQ3:=hid hq3;have HUS3:=hid hus3;have HOW3:=hid hown3;have HB3:=hid hb3;clear ho3 hg3 hb3 hS3 hu3 ho3' hq3 hus3 hown3
       go_wp2_with (at_builtin;refine Zbug rfl _ _ 173 rfl (n+1) 131 i1 _ 24 underlying173 hi1 hy0 hy1 hy2 rfl _ us3 rfl HQ3.out ⟨w3.heap.size,0,none⟩ 1 (.slice p3 (y.length+1) k3) rfl ?qd1 rfl ?qd3 ?qd4 ?qd5 ?_)
       case qd1=>exact cell_one_new _ _ _ 0 _ rfl
       case qd3=>unfold maxLen;omega
       case qd4=>omega
       case qd5=>have:=HN1.out;simp;omega
       intro v5 w5 hq5 hg5 _;have HS5:=hid (HS3'.out.push HQ3.out HUS3.out HOW3.out HO3.out hq5 hg5);have HU5:=hid (Zbdo HU3.out hg5 (q_ne HQ3.out HU3.out));clear hq5 hg5;go_wp2;go_roundw
       case rel=>exact⟨j+1,_,_,by omega,by go_num,HX2.out,HCT.out,HYC.out,HW2.out,HS5.out,HU5.out⟩
       case measure=>simp[intOf];omega
      ·rw[if_pos hb]at hX
       have HX2:=hid hX;have HCT:=hid hcnt;have HYC:=hid hyc;have HW2:=hid hW;have HS:=hid hS;have HU2:=hid hu;clear hX hcnt hyc hW hS hu hc hz hb hzs;go_wp2;go_roundw
       case rel=>exact⟨j+1,q1,r1,by omega,by go_num,HX2.out,HCT.out,HYC.out,HW2.out,HS.out,HU2.out⟩
       case measure=>simp[intOf];omega
    ·obtain rfl:j=x.length:=by omega
     rw[List.drop_length,Zbax]at hX;subst hX;have HE3:Hid (bfsF s (ndOf ns) m q1 r1=RES):=HE.out;have hj1:¬(x.length:Int)<(x.length:Int):=by omega
     have HCT:=hid hcnt;have HW2:=hid hW;have HS:=hid hS;clear hcnt hyc hW hS hu;go_wp2;go_roundw
     case rel=>
      refine⟨q1,r1,m,HE3.out,?_,HW2.out,HS.out⟩;have h1:=HM.out;rw[List.length_cons]at h1;have h2:=HCT.out;omega
     case measure=>
      obtain⟨us2,hq2,hus2,_⟩:=HS.out.row;obtain⟨_,_,e2,_⟩:=hq2.shape;rw[e2,HCN.out,Zkc HS.out.marks];show us2.length+cntF r1<L+1+cntF r;have h1:=HCT.out;have h2:=HQL.out;omega
theorem Zjp:∀(a b:List UInt8),Lib.compareBytes a b=0->a=b
 | [],[],_=>rfl
 | [],_::_,h=>by simp[Lib.compareBytes]at h
 | _::_,[],h=>by simp[Lib.compareBytes]at h
 | a::xs,b::ys,h=>by
  have e:Lib.compareBytes (a::xs) (b::ys)=if a<b then -1 else if b<a then 1 else Lib.compareBytes xs ys:=by rw[Lib.compareBytes]
  rw[e]at h;split at h
  ·omega
  rename_i h1
  split at h
  ·omega
  rename_i h2
  rw[UInt8.le_antisymm (UInt8.not_lt.1 h2) (UInt8.not_lt.1 h1),Zjp xs ys h]
theorem Zbnh {rs ys:List RuleS} (hnd:∀(i j:Nat) x y,rs[i]? =some x->rs[j]? =some y->i<j->x.name≠y.name) (hp:ys.Perm rs) (hb:Zac ys):ys=Zbng rs:=by
 have hinj:∀x∈rs,∀y∈rs,x.name=y.name->x=y:=by
  intro x hx y hy e;obtain⟨i,hi⟩:=List.getElem?_of_mem hx;obtain⟨j,hj⟩:=List.getElem?_of_mem hy
  rcases Nat.lt_trichotomy i j with h|h|h
  ·exact absurd e (hnd i j x y hi hj h)
  ·subst h;rw[hi]at hj;exact Option.some.inj hj
  ·exact absurd e.symm (hnd j i y x hj hi h)
 have hpm:(Zbng rs).Perm rs:=List.mergeSort_perm _ _;have htr:∀(a b c:RuleS),nmLe a b=true->nmLe b c=true->nmLe a c=true:=by
  intro a b c h1 h2;have:=pre5.2 (a.name,(none,0,0),(none,0,0),(none,0,0),(none,0,0)) (b.name,(none,0,0),(none,0,0),(none,0,0),(none,0,0)) (c.name,(none,0,0),(none,0,0),(none,0,0),(none,0,0)) h1 h2;exact this
 have hto:∀(a b:RuleS),(nmLe a b||nmLe b a)=true:=by
  intro a b;unfold nmLe;have:=Zjv a.name.data.toList b.name.data.toList;rw[Bool.or_eq_true,decide_eq_true_eq,decide_eq_true_eq];omega
 have hsm:(Zbng rs).Pairwise λx y=>Lib.compareBytes x.name.data.toList y.name.data.toList<=0:=(List.pairwise_mergeSort htr hto rs).imp λh=>of_decide_eq_true h
 refine List.Perm.eq_of_pairwise (λa b ha hb' h1 h2=>?_) hb hsm (hp.trans hpm.symm);refine hinj a (hp.mem_iff.1 ha) b (hpm.mem_iff.1 hb') (Zgy (Zjp _ _ ?_));have:=Zjv a.name.data.toList b.name.data.toList;omega
set_option maxRecDepth 100000
set_option maxHeartbeats 8000000
theorem Zkf (sb:Nat) (v:Value) (rs:List RuleS) (w:World) (hb:Boxed w sb 22 v) (hv:RulesI w v rs) (hn:rs.length<=1000000):
  Calls prog 173 #[.func (.func 175) #[] #[.pointer (some ⟨sb,0,none⟩)]] w λe w'=>∃u rows,e = .returned u/\AllA (RuleI w) rows rs/\w'.ownsRow w.heap.size 50 5 u rows.length rows.flatten/\Below w.heap.size w w':=by
 obtain⟨rows,hrow,hall⟩:=hv;obtain⟨a,c,rfl,hlc,hcm,hcells⟩:=id hrow;have h5:∀r∈rows,∃s p1 n1 k1 p2 n2 k2 p3 n3 k3 p4 n4 k4,r = [.string s,.slice p1 n1 k1,.slice p2 n2 k2,.slice p3 n3 k3,.slice p4 n4 k4]:=by
  intro r hr;obtain⟨j,hj⟩:=List.getElem?_of_mem hr;obtain⟨x,hx⟩:∃x,rs[j]? =some x:=⟨rs[j]'(by rw[<-hall.1];exact(List.getElem?_eq_some_iff.1 hj).1),List.getElem?_eq_getElem _⟩;obtain⟨⟨n,⟨a1,b1,c1⟩,⟨a2,b2,c2⟩,⟨a3,b3,c3⟩,⟨a4,b4,c4⟩⟩,e,_⟩:=Zbit (hall.2 j r x hj hx);exact⟨_,_,_,_,_,_,_,_,_,_,_,_,_,e⟩
 have CA:=hid ((callsIn_wide (n:=5)).1 (Zdo 5 sb (by omega) a c rows w hb hrow h5 (if rows = []then none else a) (λh=>by rw[if_neg h]) (λg hg=>by
  by_cases h:rows = []
  ·rw[if_pos h]at hg;cases hg
  ·rw[if_neg h]at hg
   obtain⟨b,o,rfl,hbl,_⟩:=hcells h;obtain rfl:b=g:=by simpa using hg
   exact hbl) (by rw[hall.1];omega)))
 have HALL:=hid hall;clear hb hrow hall hcells h5
 go_enter func173,ntmps173
 go_wp2_with (go_at_call 224;(with_reducible refine CA.out.mono ?_);rintro e w2 ⟨u,rfl,ho,hb2⟩;have HO:=hid ho;have HB2:=hid hb2;clear ho hb2)
 go_ret;exact⟨_,rows,rfl,HALL.out,HO.out,HB2.out⟩
theorem Zbmn (sb:Nat) (v:Value) (rs:List RuleS) (w:World) (hb:Boxed w sb 22 v) (hv:RulesI w v rs) (hn:rs.length<=1000000):
  Calls prog 123 #[.func (.func 175) #[] #[.pointer (some ⟨sb,0,none⟩)],.func (.func 125) #[] #[]] w λe w'=>∃u ys,e = .returned u/\ys.Perm rs/\Zac ys/\RulesI w' u ys/\Below w.heap.size w w':=by
 have CC:=hid (Zkf sb v rs w hb hv hn);clear hb hv
 go_enter func123,ntmps123
 go_wp2_with (first
  | (go_at_call 173;(with_reducible refine CC.out.mono ?_);rintro e w2 ⟨u,rows,rfl,hall,ho,hb2⟩;have CS:=hid (Zbmh w.heap.size u rs rows w w2 rfl hb2 ho hall hn);clear hall ho hb2)
  | (go_at_call 174;(with_reducible refine CS.out.mono ?_);rintro e w3 ⟨rfl,ys,hp,hby,hri,hb3⟩;have HP:=hid hp;have HBY:=hid hby;have HRI:=hid hri;have HB3:=hid hb3;clear hp hby hri hb3))
 go_ret;exact⟨_,ys,rfl,HP.out,HBY.out,HRI.out,HB3.out⟩
theorem Zbaj (ys:List RuleS):ndOf ((List.range ys.length).map (Zban ys))=Zban ys:=by
 funext k
 unfold ndOf
 by_cases h:k<ys.length
 ·rw[List.getElem?_map,List.getElem?_range h];rfl
 ·rw[List.getElem?_eq_none (by simp;omega)]
  unfold Zban Zta Zcs;rw[List.getElem?_eq_none (by omega)];simp[srtN]
theorem Zbap {ys:List RuleS} (hs:∀r∈ys,SmallR r 1048576) (k:Nat):(Zban ys k).length<=2097152:=by
 unfold Zban;rw[Zbnf,List.length_append];have h1:(Zta ys k).length<=1048576:=by
  unfold Zta
  cases h:ys[k]? with
  | none=>simp
  | some x=>exact(hs x (List.mem_of_getElem? h)).ins.1
 have h2:(Zcs ys k).length<=1048576:=by
  unfold Zcs
  cases h:ys[k]? with
  | none=>simp
  | some x=>exact(hs x (List.mem_of_getElem? h)).after.1
 have h3:=List.length_filterMap_le (mkrN ys ys.length) (Zta ys k);have h4:=List.length_filterMap_le (plcN ys ys.length) (Zcs ys k);omega
theorem NeedsIs.below {w w':World} {v:Value} {ns:List (List Nat)} (h:NeedsIs w v ns) (hb:Below w.heap.size w w'):NeedsIs w' v ns:=by
 obtain⟨g,e,hg,hc⟩:=h;refine⟨g,e,Nat.lt_of_lt_of_le hg hb.size,λk x hx=>?_⟩;obtain⟨u,hu,hI⟩:=hc k x hx;exact⟨u,(hb.cell (p:=⟨g,k,none⟩) hg).trans hu,hI.below hb⟩
set_option maxRecDepth 100000
set_option maxHeartbeats 8000000
theorem Zbso (a:Option Addr) (n c:Nat) (w:World):Calls prog 124 #[.slice a n c] w λe w'=>e = .returned (.func (.func 175) #[] #[.pointer (some ⟨w.heap.size,0,none⟩)])/\w'=w.alloc (.cells #[.slice a n c] 22):=by
 go_enter func124,ntmps124
 go_wp2;go_ret;exact⟨rfl,rfl⟩
theorem Zow (v:Value) (rs:List RuleS) (w:World) (hv:RulesI w v rs) (hs:∀r∈rs,SmallR r 1048576) (hn:rs.length<=1000) (hnd:∀(i j:Nat) x y,rs[i]? =some x->rs[j]? =some y->i<j->x.name≠y.name):
  Calls prog 88 #[v] w λe w'=>∃u,e = .returned u/\IsStrs w' u (Zot (Zbng rs))/\Below w.heap.size w w':=by
 obtain⟨va,vc,rfl,_,_⟩:=Zbjn hv;have hb1:Below w.heap.size w (w.alloc (.cells #[.slice va rs.length vc] 22)):=(Below.refl _ _).alloc (Nat.le_refl _) _;have CV:=hid (Zbso va rs.length vc w);have CS:=hid (Zbmn w.heap.size (.slice va rs.length vc) rs _ (Boxed.new w 22 (.slice va rs.length vc)) (hv.below hb1) (by omega));obtain⟨YS,hYS⟩:∃Y,Zbng rs=Y:=⟨_,rfl⟩;have hY1:∀ys:List RuleS,ys.Perm rs->Zac ys->YS=ys:=λys h1 h2=>by rw[<-hYS];exact(Zbnh hnd h1 h2).symm
 have hYp:YS.Perm rs:=by rw[<-hYS];exact List.mergeSort_perm _ _
 have hYl:YS.length<=1000:=by rw[hYp.length_eq];exact hn
 have hYs:∀r∈YS,SmallR r 1048576:=λr hr=>hs r (hYp.mem_iff.1 hr)
 rw[hYS];have HY1:=hid hY1;have HYS:=hid hYs;have HB1:=hid hb1;obtain⟨N,hN⟩:∃N,YS.length=N:=⟨_,rfl⟩;obtain⟨RES,hR⟩:∃R,Zot YS=R:=⟨_,rfl⟩;have HR:Hid ((fcL (Zban YS) YS.length (List.range YS.length)).map (nmAt YS)=RES):=hR;rw[hR];have HN:=hid hN;rw[hN]at hYl;clear hv hs hnd hY1 hYs hb1 hYS hYp hR hN
 go_enter func88,ntmps88
 go_wp2_with (first
  | (go_at_call 124;(with_reducible refine CV.out.mono ?_);rintro e w1 ⟨rfl,rfl⟩)
  | (go_at_call 123;(with_reducible refine CS.out.mono ?_);rintro e w2 ⟨u,ys,rfl,hp,hby,hri,hb2⟩;have eY:=HY1.out ys hp hby;subst eY;obtain⟨ua,uc,rfl,hul,hum⟩:=Zbjn hri;have HRI:=hid hri;have HB2:=hid (HB1.out.trans (hb2.mono HB1.out.size));clear hp hby hri hb2;rw[HN.out]at hul⊢;have CN:=hid (Zbau (.slice ua N uc) _ w2 (by rw[<-HN.out];exact HRI.out) HYS.out (by rw[HN.out];exact hYl)))
  | (go_at_call 127;(with_reducible refine CN.out.mono ?_);rintro e w3 ⟨nv,rfl,hni,hb3⟩;have HNI:=hid hni;have HB3:=hid (HB2.out.trans (hb3.mono HB2.out.size));have HRI3:=hid (HRI.out.below hb3);clear hni hb3))
 have HBW:Hid (∀W,Below w3.heap.size w3 W->Below w.heap.size w W):=hid λW hW=>HB3.out.trans (hW.mono HB3.out.size)
 have hnl:((List.range YS.length).map (Zban YS)).length=N:=by rw[List.length_map,List.length_range,HN.out]
 have hnd2:ndOf ((List.range YS.length).map (Zban YS))=Zban YS:=Zbaj YS;have HNL:=hid hnl;have HND2:=hid hnd2;clear hnl hnd2
 go_loopw [13] (λiv wr=>∃k:Nat,k<=N/\iv = .int .i64 (k:Int)/\fcL (Zban YS) N ((List.range N).drop k)=fcL (Zban YS) N (List.range N)/\Below w3.heap.size w3 wr) (λiv _=>N-(intOf iv).toNat)
 case atStart=>exact⟨0,Nat.zero_le _,rfl,by rw[List.drop_zero],Below.refl _ _⟩
 case round=>
  obtain⟨k,hk,rfl,hf,hb⟩:=hrel
  by_cases hlt:k<N
  ·have hd:(List.range N).drop k=k::(List.range N).drop (k+1):=Zma (List.getElem?_range hlt)
   rw[hd,fcL]at hf;have CR:=Zbhy k nv _ wr (HNI.out.below hb) (λx hx y hy=>by
    obtain⟨j,_,rfl⟩:=List.mem_map.1 hx;rw[HNL.out,<-HN.out];exact Zbaq hy) (by rw[HNL.out];exact hlt) (by rw[HNL.out];exact hYl) (λx hx=>by
    obtain⟨j,_,rfl⟩:=List.mem_map.1 hx;have:=Zbap HYS.out j;omega)
   rw[HND2.out,HNL.out]at CR;have hok:=Zbib (nd:=Zban YS) (N:=N) (λx _ y hy=>by rw[<-HN.out];exact Zbaq hy) hlt;obtain⟨Pw,hP⟩:∃Q,Zbhz k (Zban YS) N=Q:=⟨_,rfl⟩;rw[hP]at CR hf hok;have CR:=hid CR;have HB:=hid hb;have HF:=hid hf;have HOK:=hid hok;have hi1:(k:Int)<(N:Int):=by omega
   clear hb hf hok hP hd
   by_cases hPe:Pw = []
   ·subst hPe
    have HF2:Hid (fcL (Zban YS) N ((List.range N).drop (k+1))=fcL (Zban YS) N (List.range N)):=hid (by have:=HF.out;rwa [if_pos rfl]at this)
    go_wp2_with (go_at_call 128;(with_reducible refine CR.out.mono ?_);rintro e w4 ⟨pv,rfl,hpi,hb4⟩;obtain⟨pa,pc,rfl,hpl,hpm,hpcell⟩:=hpi.at;simp only[List.length_nil]at hpl⊢;have HB4:=hid (HB.out.trans (hb4.mono HB.out.size));clear hpi hb4 hpcell)
    go_roundw
    case rel=>exact⟨k+1,by omega,by go_num,HF2.out,HB4.out⟩
    case measure=>simp[intOf];omega
   ·have HF2:Hid (Pw.map (nmAt YS)=RES):=hid (by have:=HF.out;rw[if_neg hPe]at this;rw[<-HR.out,HN.out,<-this])
    have hpos:0<Pw.length:=List.length_pos_iff.2 hPe;obtain⟨L,hL⟩:∃L,Pw.length=L:=⟨_,rfl⟩;rw[hL]at hpos;have hpi0:(0:Int)<(L:Int):=by omega
    have HL:=hid hL;clear hPe hL
    go_wp2_with (first
     | (go_at_call 128;(with_reducible refine CR.out.mono ?_);rintro e w4 ⟨pv,rfl,hpi,hb4⟩;have hpi':=hpi;obtain⟨pa,pc,rfl,hpl,hpm,hpcell⟩:=hpi.at;rw[HL.out]at hpl⊢;have HB4:=hid (HB.out.trans (hb4.mono HB.out.size));have CNA:=hid (Zzy (.slice ua N uc) (.slice pa L pc) YS Pw w4 (by rw[<-HN.out];exact HRI3.out.below (HB.out.trans (hb4.mono HB.out.size))) (by rw[<-HL.out];exact hpi') (λp hp=>by rw[HN.out];exact HOK.out.1 p hp) (by rw[HN.out];omega) (by have:=HOK.out.2;omega));clear hpi hpi' hb4 hpcell)
     | (go_at_call 129;(with_reducible refine CNA.out.mono ?_);rintro e w5 ⟨uv,rfl,hus,hb5⟩;have HUS:=hid hus;have HB5:=hid (HB4.out.trans (hb5.mono HB4.out.size));clear hus hb5))
    go_ret;exact⟨_,rfl,by rw[<-HF2.out];exact HUS.out,HBW.out _ HB5.out⟩
  ·obtain rfl:k=N:=by omega
   have hi1:¬(k:Int)<(k:Int):=by omega
   have hre:RES = []:=by
    rw[<-HR.out,HN.out,<-hf,List.drop_of_length_le (by simp)];rfl
   have HRE:=hid hre;have HB:=hid hb;clear hre hf hb;go_wp2;go_ret;exact⟨_,rfl,by rw[HRE.out];exact⟨none,0,rfl,Nat.le_refl _,Nat.zero_le _,λh=>absurd rfl h⟩,HBW.out _ HB.out⟩
theorem Zni (v:Value) (rs:List RuleS) (w:World) (hv:RulesI w v rs) (hs:∀r∈rs,SmallR r 1048576) (h0:(Zet rs).1=0):Zar v w (Zot (Zbng rs)):=by
 intro W hW;have hT:=Zbcj h0;exact Zow v rs W (hv.below hW) hs (by have:=hT.few;omega) hT.names
theorem Zou (ys:List RuleS):(Zot ys).length<=ys.length+1:=by
 unfold Zot;rw[List.length_map];have:∀l:List Nat,(∀s∈l,s<ys.length)->(fcL (Zban ys) ys.length l).length<=ys.length+1:=by
  intro l
  induction l with
  | nil=>intro _;simp[fcL]
  | cons s l ih=>
   intro h;unfold fcL;split
   ·exact ih λt ht=>h t (by simp[ht])
   ·exact(Zbib (λx _ y hy=>Zbaq hy) (h s (by simp))).2
 exact this _ λs hs=>by simpa using hs
theorem Zja (v:Value) (rs:List RuleS) (w:World) (hv:RulesI w v rs) (hs:∀r∈rs,SmallR r 1048576) (hn:rs.length<=1000) (hm:MayW w):
  Calls prog 52 #[v] w λe w'=>e = .returned (.tuple #[.int .i64 (allB rs (Zot (Zbng rs))).1,.string (allB rs (Zot (Zbng rs))).2])/\Below w.heap.size w w':=
 Ziq v rs _ w hv hs (by omega) hm (Zni v rs w hv hs) (by have:=Zou (Zbng rs);have:(Zbng rs).length=rs.length:=List.length_mergeSort _;omega)
theorem Zbet {α:Type} {R:α->α->Prop} {l:List α}:l.Pairwise R↔∀(i j:Nat) x y,l[i]? =some x->l[j]? =some y->i<j->R x y:=by
 rw[List.pairwise_iff_getElem];constructor
 ·intro h i j x y hx hy hij
  obtain⟨h1,rfl⟩:=List.getElem?_eq_some_iff.1 hx;obtain⟨h2,rfl⟩:=List.getElem?_eq_some_iff.1 hy;exact h i j h1 h2 hij
 ·intro h i j hi hj hij
  exact h i j _ _ (List.getElem?_eq_getElem hi) (List.getElem?_eq_getElem hj) hij
theorem OkTog.perm {rs ys:List RuleS} (h:OkTog rs) (hp:ys.Perm rs):OkTog ys:=by
 refine⟨λr hr=>h.each r (hp.mem_iff.1 hr),by rw[hp.length_eq];exact h.few,?_,λr hr=>h.own r (hp.mem_iff.1 hr),?_,λr hr a ha=>?_⟩
 ·exact Zbet.1 ((hp.pairwise_iff (R:=λx y:RuleS=>x.name≠y.name) (λh e=>h e.symm)).2 (Zbet.2 h.names))
 ·exact Zbet.1 ((hp.pairwise_iff (R:=λx y:RuleS=>∀a∈x.outs,a∉y.outs) (λh a ha hb=>h a hb ha)).2 (Zbet.2 h.files))
 ·obtain⟨x,hx,e⟩:=h.after r (hp.mem_iff.1 hr) a ha
  exact⟨x,hp.mem_iff.2 hx,e⟩
def Zbl (x y:RuleS):Prop:=(∃a∈x.ins,a∈y.outs)∨y.name∈x.after
theorem Zbao {rs:List RuleS} (h:OkTog rs) {i j:Nat}:j∈Zban rs i↔∃x y,rs[i]? =some x/\rs[j]? =some y/\Zbl x y:=by
 rw[Zbar];constructor
 ·intro hn
  have hx:∃x,rs[i]? =some x:=by
   cases e:rs[i]? with
   | some x=>exact⟨x,rfl⟩
   | none=>
    unfold Zta Zcs at hn;rw[e]at hn;simp at hn
  obtain⟨x,hx⟩:=hx
  rcases hn with⟨a,ha,hm⟩|⟨a,ha,hm⟩
  ·obtain⟨h1,h2⟩:=Zzi hm
   have hy:=List.getElem?_eq_getElem h1;rw[Zbdh hy]at h2;unfold Zta at ha;rw[hx]at ha;exact⟨x,_,hx,hy,.inl ⟨a,ha,h2⟩⟩
  ·obtain⟨h1,h2⟩:=Zbfe hm
   have hy:=List.getElem?_eq_getElem h1;unfold nmAt at h2;rw[hy]at h2;unfold Zcs at ha;rw[hx]at ha;simp only[Option.map_some,Option.getD_some]at h2 ha;exact⟨x,_,hx,hy,.inr (by rw[<-h2];exact ha)⟩
 ·rintro⟨x,y,hx,hy,hn⟩
  have hj:=(List.getElem?_eq_some_iff.1 hy).1
  rcases hn with⟨a,ha,hb⟩|hn
  ·exact .inl ⟨a,by unfold Zta;rw[hx];exact ha,Zzh h hy hb hj (Nat.le_refl _)⟩
  ·exact .inr ⟨_,by unfold Zcs;rw[hx];exact hn,Zbfd h hy hj (Nat.le_refl _)⟩
inductive RchR (rs:List RuleS):RuleS->RuleS->Prop
 | one {x y:RuleS}:x∈rs->y∈rs->Zbl x y->RchR rs x y
 | more {x y z:RuleS}:RchR rs x y->z∈rs->Zbl y z->RchR rs x z
theorem RchR.mem {rs:List RuleS} {x y:RuleS} (h:RchR rs x y):y∈rs:=by cases h<;>assumption
theorem Zbgu {rs:List RuleS} (h:OkTog rs) {i j:Nat} (hr:Rch (Zban rs) i j):∃x y,rs[i]? =some x/\rs[j]? =some y/\RchR rs x y:=by
 induction hr with
 | one h1=>
  obtain⟨x,y,hx,hy,hn⟩:=(Zbao h).1 h1;exact⟨x,y,hx,hy,.one (List.mem_of_getElem? hx) (List.mem_of_getElem? hy) hn⟩
 | more _ h1 ih=>
  obtain⟨x,y,hx,hy,hn⟩:=ih;obtain⟨y',z,hy',hz,hn'⟩:=(Zbao h).1 h1;rw[hy]at hy';obtain rfl:=Option.some.inj hy';exact⟨x,z,hx,hz,.more hn (List.mem_of_getElem? hz) hn'⟩
theorem Zbjw {rs:List RuleS} (h:OkTog rs) {x y:RuleS} (hr:RchR rs x y):∀i j,rs[i]? =some x->rs[j]? =some y->Rch (Zban rs) i j:=by
 induction hr with
 | one _ _ hn=>intro i j hx hy;exact .one ((Zbao h).2 ⟨_,_,hx,hy,hn⟩)
 | more h1 _ hn ih=>
  intro i j hx hz;obtain⟨k,hk⟩:=List.getElem?_of_mem h1.mem;exact .more (ih i k hx hk) ((Zbao h).2 ⟨_,_,hk,hz,hn⟩)
theorem RchR.perm {rs ys:List RuleS} (hp:ys.Perm rs) {x y:RuleS} (h:RchR rs x y):RchR ys x y:=by
 induction h with
 | one h1 h2 hn=>exact .one (hp.mem_iff.2 h1) (hp.mem_iff.2 h2) hn
 | more _ h2 hn ih=>exact .more ih (hp.mem_iff.2 h2) hn
theorem Zcm {rs ys:List RuleS} (h:OkTog rs) (hp:ys.Perm rs) (ha:∀s,s<ys.length->¬Rch (Zban ys) s s):∀s,s<rs.length->¬Rch (Zban rs) s s:=by
 intro s _ hs;obtain⟨x,y,hx,hy,hr⟩:=Zbgu h hs;rw[hx]at hy;obtain rfl:=Option.some.inj hy;obtain⟨i,hi⟩:=List.getElem?_of_mem (hp.mem_iff.2 (List.mem_of_getElem? hx));exact ha i (List.getElem?_eq_some_iff.1 hi).1 (Zbjw (h.perm hp) (hr.perm hp) i i hi hi)
theorem Zcl {rs:List RuleS} (h:OkTog rs) (hc:Zot (Zbng rs) = []):∀s,s<rs.length->¬Rch (Zban rs) s s:=
 Zcm h (List.mergeSort_perm _ _) (Zov hc)
theorem Zbwe {n:Nat} {p:Nat->Bool} (h:∀k,k<n->p k=false):(List.range n).find? p=none:=by
 rw[List.find?_eq_none];intro k hk;rw[h k (by simpa using hk)];decide
theorem Zbvb:∀ {ks L:List ByteArray},ks.Nodup->(∀k∈ks,k∉L)->(addS L ks).length=L.length+ks.length
 | [],L,_,_=>by simp[addS]
 | k::ks,L,hn,hd=>by
  have e:addS L (k::ks)=addS (insS L k) ks:=rfl;have hi:insS L k=L ++ [k]:=by unfold insS;rw[if_neg (λh=>hd k (by simp) (Zsj.1 h))]
  obtain⟨h1,h2⟩:=List.nodup_cons.1 hn;rw[e,Zbvb h2 (λa ha hm=>?_),hi]
  ·simp only[List.length_append,List.length_cons,List.length_nil];omega
  ·rw[hi]at hm
   rcases List.mem_append.1 hm with hm|hm
   ·exact hd a (by simp[ha]) hm
   ·obtain rfl:a=k:=by simpa using hm
    exact h1 ha
theorem Zbya {rs:List RuleS} {k:Nat} {x:RuleS} (h:x∈rs.take k):∃i,i<k/\rs[i]? =some x:=by
 obtain⟨i,hi⟩:=List.getElem?_of_mem h;rw[List.getElem?_take]at hi;split at hi
 ·exact⟨i,by assumption,hi⟩
 ·cases hi
theorem Zbxz {rs:List RuleS} (hn:∀(i j:Nat) x y,rs[i]? =some x->rs[j]? =some y->i<j->x.name≠y.name) (ho:∀r∈rs,r.outs.Nodup) (hf:∀(i j:Nat) x y,rs[i]? =some x->rs[j]? =some y->i<j->∀a∈x.outs,a∉y.outs):(List.range rs.length).find? (takP rs)=none:=by
 refine Zbwe λk hk=>?_
 have hx:=List.getElem?_eq_getElem hk;unfold takP;rw[hx];simp only[Option.map_some,Option.getD_some];unfold takB;rw[Bool.or_eq_false_iff];constructor
 ·cases e:inS (nmS (rs.take k)) rs[k].name with
  | false=>rfl
  | true=>
   obtain⟨y,hy,he⟩:=Zbbb.1 (Zsj.1 e);obtain⟨i,hik,hi⟩:=Zbya hy;exact absurd he.symm (hn i k y _ hi hx hik)
 ·rw[Zbvb (ho _ (List.getElem_mem _)) (λa ha hm=>?_)]
  ·simp
  ·obtain⟨y,hy,he⟩:=Zpk.1 hm
   obtain⟨i,hik,hi⟩:=Zbya hy;exact hf i k y _ hi hx hik a he ha
theorem Zbxq {rs:List RuleS} (h:∀r∈rs,Zbip r=0):rs.find? (λr=> !decide (Zbip r=0))=none:=by
 rw[List.find?_eq_none];intro r hr;simp[h r hr]
theorem OkTog.before {rs:List RuleS} (h:OkTog rs):Zet rs=(0,⟨#[]⟩):=by
 unfold Zet;rw[Zbxq h.each];simp only;rw[if_neg (by have:=h.few;omega),Zbxz h.names h.own h.files];simp only;have ha:(List.range rs.length).find? (astP rs)=none:=by
  refine Zbwe λk hk=>?_
  unfold astP;rw[List.getElem?_eq_getElem hk];simp only[Option.map_some,Option.getD_some,Bool.not_eq_false',List.all_eq_true];intro a hm;exact Zsj.2 (Zbbb.2 (h.after _ (List.getElem_mem _) a hm))
 rw[ha]
theorem Zbxe {rs:List RuleS}:(Zet rs).1=0↔OkTog rs:=⟨Zbcj,λh=>by rw[h.before]⟩
theorem Zbxp (r:RuleS):Zbip r=0∨Zbip r=1∨Zbip r=2∨Zbip r=4:=by
 unfold Zbip
 repeat' split
 all_goals simp
theorem Zbve (rs:List RuleS):(Zet rs).1=0∨(Zet rs).1=1∨(Zet rs).1=2∨(Zet rs).1=4:=by
 unfold Zet;split
 ·exact Zbxp _
 ·split
  ·exact .inr (.inr (.inr rfl))
  ·split
   ·exact .inr (.inr (.inl rfl))
   ·split
    ·exact .inr (.inr (.inl rfl))
    ·exact .inl rfl
def Zbvn (rs:List RuleS):Int:=(allB rs (Zot (Zbng rs))).1
theorem Zbvp {rs:List RuleS} (h:(Zet rs).1≠0):allB rs (Zot (Zbng rs))=Zet rs:=by
 unfold allB;rw[if_neg h]
theorem Zbvr {rs:List RuleS} (h:OkTog rs):Zbvn rs=if Zot (Zbng rs) = []then 0 else 3:=by
 unfold Zbvn allB;rw[if_pos (Zbxe.2 h)]
 cases Zot (Zbng rs)with
 | nil=>rfl
 | cons x l=>rfl
theorem Zbvq (rs:List RuleS):(OkTog rs/\(Zbvn rs=0∨Zbvn rs=3))∨(¬OkTog rs/\Zbvn rs≠0/\Zbvn rs≠3):=by
 by_cases h:OkTog rs
 ·refine .inl ⟨h,?_⟩
  rw[Zbvr h];split<;>simp
 ·have h0:(Zet rs).1≠0:=λe=>h (Zbxe.1 e)
  refine .inr ⟨h,?_⟩;unfold Zbvn;rw[Zbvp h0];have:=Zbve rs;omega
theorem Zbxb {s:Nat} {way:List Nat}:∀ {xs:List Nat} {q:List (List Nat)} {r:List Bool},Zbax s way xs q r=none->s∈xs
 | [],_,_,h=>by simp[Zbax]at h
 | x::xs,q,r,h=>by
  unfold Zbax at h;split at h
  ·rename_i e;exact e▸List.mem_cons_self
  ·split at h<;>exact List.mem_cons_of_mem _ (Zbxb h)
theorem Zbxc {s:Nat} {way:List Nat} {P:Nat->Prop}:∀ {xs:List Nat} {q:List (List Nat)} {r:List Bool} {q':List (List Nat)} {r':List Bool},Zbax s way xs q r=some (q',r')->(∀x∈xs,P x)->(∀w∈q,P (w.getLastD 0))->∀w∈q',P (w.getLastD 0)
 | [],q,r,q',r',h,_,hq=>by
  simp only[Zbax,Option.some.injEq,Prod.mk.injEq]at h;rw[<-h.1];exact hq
 | x::xs,q,r,q',r',h,hx,hq=>by
  unfold Zbax at h;split at h
  ·cases h
  ·split at h
   ·exact Zbxc h (λy hy=>hx y (by simp[hy])) hq
   ·refine Zbxc h (λy hy=>hx y (by simp[hy])) (λw hw=>?_)
    rcases List.mem_append.1 hw with hw|hw
    ·exact hq w hw
    ·obtain rfl:w=way ++ [x]:=by simpa using hw
     have:(way ++ [x]).getLastD 0=x:=by simp
     rw[this];exact hx x (by simp)
theorem Zbvf {s:Nat} {nd:Nat->List Nat}:∀(n:Nat) (q:List (List Nat)) (r:List Bool),(∀w∈q,w.getLastD 0=s∨Rch nd s (w.getLastD 0))->bfsF s nd n q r≠[]->Rch nd s s
 | 0,_,_,_,h=>absurd (by simp[bfsF]) h
 | _+1,[],_,_,h=>absurd (by simp[bfsF]) h
 | n+1,w::q,r,hq,h=>by
  rw[Zfp]at h;have hw:=hq w (by simp);have hn:∀x∈nd (w.getLastD 0),x=s∨Rch nd s x:=by
   intro x hx
   rcases hw with e|e
   ·rw[e]at hx;exact .inr (.one hx)
   ·exact .inr (.more e hx)
  cases e:Zbax s w (nd (w.getLastD 0)) q r with
  | none=>
   have hs:=Zbxb e
   rcases hw with e2|e2
   ·rw[e2]at hs;exact .one hs
   ·exact .more e2 hs
  | some p=>
   rw[e]at h;obtain⟨q',r'⟩:=p;exact Zbvf n q' r' (Zbxc (P:=λx=>x=s∨Rch nd s x) e hn (λw hw=>hq w (by simp[hw]))) h
theorem Zbxn {s N:Nat} {nd:Nat->List Nat} (h:Zbhz s nd N≠[]):Rch nd s s:=by
 refine Zbvf _ _ _ (λw hw=>?_) h;obtain rfl:w = [s]:=by simpa using hw
 exact .inl rfl
theorem Zbwc {nd:Nat->List Nat} {N:Nat}:∀ {l:List Nat},(∀s∈l,Zbhz s nd N = [])->fcL nd N l = []
 | [],_=>rfl
 | a::l,h=>by
  unfold fcL;rw[if_pos (h a (by simp))];exact Zbwc λs hs=>h s (by simp[hs])
theorem Zbwf {rs:List RuleS} (h:∀s,s<rs.length->¬Rch (Zban rs) s s):Zot rs = []:=by
 unfold Zot;rw[Zbwc (λs hs=>?_)]
 ·rfl
 ·exact Classical.byContradiction λhn=>h s (by simpa using hs) (Zbxn hn)
theorem Zbvs {rs:List RuleS}:Zbvn rs=0↔OkTog rs/\∀s,s<rs.length->¬Rch (Zban rs) s s:=by
 constructor
 ·intro h
  rcases Zbvq rs with⟨hT,_⟩|⟨_,h0,_⟩
  ·refine⟨hT,Zcl hT ?_⟩
   rw[Zbvr hT]at h;split at h
   ·assumption
   ·omega
  ·exact absurd h h0
 ·rintro⟨hT,ha⟩
  have hp:(Zbng rs).Perm rs:=List.mergeSort_perm _ _;rw[Zbvr hT,if_pos];exact Zbwf (Zcm (hT.perm hp) hp.symm ha)
theorem Zbcl {l:List ByteArray}:Zbck l=true↔l.Nodup:=by
 unfold Zbck;rw[decide_eq_true_eq];constructor
 ·intro h;exact(Zcn (L:=[]) (by simpa using h)).1
 ·intro h
  have:∀(l L:List ByteArray),l.Nodup->(∀k∈l,k∉L)->(addS L l).length=L.length+l.length:=by
   intro l
   induction l with
   | nil=>intro L _ _;simp[addS]
   | cons k ks ih=>
    intro L h1 h2;have hk:insS L k=L ++ [k]:=by unfold insS;rw[if_neg (λh=>h2 k (by simp) (Zsj.1 h))]
    have e:addS L (k::ks)=addS (insS L k) ks:=rfl;obtain⟨n1,n2⟩:=List.nodup_cons.1 h1;rw[e,hk,ih _ n2]
    ·simp;omega
    ·intro a ha hm
     rcases List.mem_append.1 hm with hm|hm
     ·exact h2 a (by simp[ha]) hm
     ·obtain rfl:a=k:=by simpa using hm
      exact n1 ha
  simpa using this l [] h (by simp)
theorem Zbrq {l:List ByteArray}:Zch l↔¬l.Nodup:=by
 constructor
 ·rintro⟨i,j,hj,hi,e⟩ hn
  have h1:j<l.length:=by omega
  rw[List.getElem?_eq_getElem h1,List.getElem?_eq_getElem hi]at e;exact List.pairwise_iff_getElem.1 hn j i h1 hi hj (Option.some.inj e)
 ·intro h
  refine Classical.byContradiction λhx=>h ?_
  refine List.pairwise_iff_getElem.2 λj i h1 hi hj e=>hx ⟨i,j,hj,hi,?_⟩
  rw[List.getElem?_eq_getElem h1,List.getElem?_eq_getElem hi,e]
theorem Zpq (x:RuleS):Zpo x=true↔Zav x:=by
 unfold Zpo Zav nmsR nmsS;rw[List.take_length];simp only[Bool.and_eq_true,List.all_eq_true,decide_eq_true_eq,Zbnm,Zyt,List.mem_append,List.mem_singleton,List.mem_flatten,List.mem_map,okN];constructor
 ·rintro⟨⟨⟨⟨⟨h1,h2⟩,h3⟩,h4⟩,h5⟩,h6⟩
  refine⟨?_,λj y hy=>(h6 y (List.mem_of_getElem? hy)).1.1,by omega⟩;rintro y ((((rfl|h)|h)|h)|⟨l,⟨s,hs,rfl⟩,h⟩)
  ·exact h1
  ·exact h2 y h
  ·exact h4 y h
  ·exact h5 y h
  ·rcases List.mem_cons.1 h with rfl|h
   ·exact(h6 s hs).1.2
   ·exact(h6 s hs).2 y h
 ·rintro⟨h1,h2,h3⟩
  refine⟨⟨⟨⟨⟨h1 _ (by simp),λy hy=>h1 y (by simp[hy])⟩,by omega⟩,λy hy=>h1 y (by simp[hy])⟩,λy hy=>h1 y (by simp[hy])⟩,λs hs=>⟨⟨?_,?_⟩,λa ha=>?_⟩⟩
  ·obtain⟨j,hj⟩:=List.getElem?_of_mem hs
   exact h2 j s hj
  ·exact h1 _ (.inr ⟨_,⟨s,hs,rfl⟩,by simp⟩)
  ·exact h1 _ (.inr ⟨_,⟨s,hs,rfl⟩,by simp[ha]⟩)
theorem Zfs (x:RuleS):Zbkx x=true↔¬BigX x:=by
 unfold Zbkx BigX;simp only[Bool.and_eq_true,decide_eq_true_eq];omega
theorem Zpn (outs:List ByteArray):∀(l:List StepS) (T M:List ByteArray),Zpm outs T M l=true↔
  (∀(k:Nat) y,l[k]? =some y->(∀a∈y.args,a∈T∨a∈(l.take k).map StepS.out)/\y.out∉T/\y.out∉(l.take k).map StepS.out)/\∀a∈outs,a∈M∨a∈l.map StepS.out
 | [],T,M=>by
  unfold Zpm;simp only[List.all_eq_true,Zsj,List.getElem?_nil,reduceCtorEq,false_implies,implies_true,true_and,List.map_nil,List.not_mem_nil,or_false]
 | s::r,T,M=>by
  have hT:∀a,a∈addS T [s.out]↔a∈T∨a=s.out:=λa=>by rw[Zcp];simp
  have hM:∀a,a∈addS M [s.out]↔a∈M∨a=s.out:=λa=>by rw[Zcp];simp
  unfold Zpm
  by_cases h:s.args.all (inS T)=true/\inS T s.out=false
  ·rw[if_pos h,Zpn outs r]
   obtain⟨h1,h2⟩:=h;simp only[List.all_eq_true,Zsj]at h1;have h2':s.out∉T:=λhm=>by rw[Zsj.2 hm]at h2;cases h2
   constructor
   ·rintro⟨a1,a2⟩
    refine⟨λk y hy=>?_,λa ha=>?_⟩
    ·cases k with
     | zero=>
          obtain rfl:s=y:=by simpa using hy
          exact⟨λa ha=> .inl (h1 a ha),h2',by simp⟩
     | succ k=>
      obtain⟨b1,b2,b3⟩:=a1 k y (by simpa using hy);refine⟨λa ha=>?_,λhm=>b2 ((hT _).2 (.inl hm)),?_⟩
      ·rcases b1 a ha with h|h
       ·rcases(hT a).1 h with h|h
        ·exact .inl h
        ·right;rw[List.take_succ_cons,List.map_cons];simp[h]
       ·right;rw[List.take_succ_cons,List.map_cons];exact List.mem_cons_of_mem _ h
      ·rw[List.take_succ_cons,List.map_cons]
       intro hm
       rcases List.mem_cons.1 hm with h|h
       ·exact b2 ((hT _).2 (.inr h))
       ·exact b3 h
    ·rcases a2 a ha with h|h
     ·rcases(hM a).1 h with h|h
      ·exact .inl h
      ·right;simp[h]
     ·right;rw[List.map_cons];exact List.mem_cons_of_mem _ h
   ·rintro⟨a1,a2⟩
    refine⟨λk y hy=>?_,λa ha=>?_⟩
    ·obtain⟨b1,b2,b3⟩:=a1 (k+1) y (by simpa using hy)
     rw[List.take_succ_cons,List.map_cons]at b1 b3;refine⟨λa ha=>?_,λhm=>?_,λhm=>b3 (List.mem_cons_of_mem _ hm)⟩
     ·rcases b1 a ha with h|h
      ·exact .inl ((hT a).2 (.inl h))
      ·rcases List.mem_cons.1 h with h|h
       ·exact .inl ((hT a).2 (.inr h))
       ·exact .inr h
     ·rcases(hT _).1 hm with h|h
      ·exact b2 h
      ·exact b3 (by rw[h];simp)
    ·rcases a2 a ha with h|h
     ·exact .inl ((hM a).2 (.inl h))
     ·rw[List.map_cons]at h
      rcases List.mem_cons.1 h with h|h
      ·exact .inl ((hM a).2 (.inr h))
      ·exact .inr h
  ·rw[if_neg h]
   refine⟨λh=>absurd h (by decide),λ⟨a1,_⟩=>absurd ?_ h⟩;obtain⟨b1,b2,_⟩:=a1 0 s rfl;refine⟨?_,?_⟩
   ·simp only[List.all_eq_true,Zsj]
    intro a ha
    rcases b1 a ha with h|h
    ·exact h
    ·simp at h
   ·cases hi:inS T s.out with
    | false=>rfl
    | true=>exact absurd (Zsj.1 hi) b2
theorem Zbaf (x:RuleS):Zbac x=true↔Zbj x:=by
 have hA:∀(l:List ByteArray) a,a∈addS [] l↔a∈l:=λl a=>by rw[Zcp];simp
 unfold Zbac Zbj Zcd Zbdi;simp only[Bool.and_eq_true,Zbcl,Zbrq,Classical.not_not,Zok,Zpn,Bool.not_eq_true',Zoj,List.take_length];have hI:inS (addS [] x.after) x.name=false↔x.name∉x.after:=by
  cases h:inS (addS [] x.after) x.name with
  | true=>exact⟨λh=>(by cases h),λh'=>absurd ((hA _ _).1 (Zsj.1 h)) h'⟩
  | false=>exact⟨λ_ hm=>(by rw[Zsj.2 ((hA _ _).2 hm)]at h;cases h),λ_=>rfl⟩
 rw[hI];constructor
 ·rintro⟨⟨⟨⟨h1,h2⟩,h3⟩,h4⟩,h5,h6⟩
  refine⟨h1,h2,h3,h4,λk y hy=>?_,λa ha=>?_⟩
  ·obtain⟨b1,b2,b3⟩:=h5 k y hy
   refine⟨λhm=>b2 ((hA _ _).2 hm),b3,λa ha=>?_⟩;rintro⟨c1,c2⟩
   rcases b1 a ha with h|h
   ·exact c1 ((hA _ _).1 h)
   ·exact c2 h
  ·have hm:a∈x.steps.map StepS.out:=by
    rcases h6 a ha with h|h
    ·simp at h
    ·exact h
   refine⟨λhi=>?_,hm⟩;obtain⟨s,hs,rfl⟩:=List.mem_map.1 hm;obtain⟨k,hk⟩:=List.getElem?_of_mem hs;exact(h5 k s hk).2.1 ((hA _ _).2 hi)
 ·rintro⟨h1,h2,h3,h4,h5,h6⟩
  refine⟨⟨⟨⟨h1,h2⟩,h3⟩,h4⟩,λk y hy=>?_,λa ha=> .inr (h6 a ha).2⟩;obtain⟨b1,b2,b3⟩:=h5 k y hy;refine⟨λa ha=>?_,λhm=>b1 ((hA _ _).1 hm),b2⟩
  by_cases hi:a∈x.ins
  ·exact .inl ((hA _ _).2 hi)
  ·exact .inr (Classical.byContradiction λhk=>b3 a ha ⟨hi,hk⟩)
theorem Zbiq (x:RuleS):RuleC x (Zbip x):=by
 unfold Zbip RuleC;have f:=Zpq x;have s:=Zfs x;have n:=Zbaf x
 cases h1:Zpo x with
 | false=>rw[h1]at f;exact .inl ⟨λh=>absurd (f.2 h) (by decide),by simp⟩
 | true=>
  rw[h1]at f
  cases h2:Zbkx x with
  | false=>rw[h2]at s;exact .inr (.inl ⟨f.1 rfl,Classical.byContradiction λh=>absurd (s.2 h) (by decide),by simp⟩)
  | true=>
   rw[h2]at s
   cases h3:Zbac x with
   | false=>rw[h3]at n;exact .inr (.inr (.inl ⟨f.1 rfl,s.1 rfl,λh=>absurd (n.2 h) (by decide),by simp⟩))
   | true=>rw[h3]at n;exact .inr (.inr (.inr ⟨f.1 rfl,s.1 rfl,n.1 rfl,by simp⟩))
end Go.Proofs.YtokogjhcidkckaaGreatDoor
