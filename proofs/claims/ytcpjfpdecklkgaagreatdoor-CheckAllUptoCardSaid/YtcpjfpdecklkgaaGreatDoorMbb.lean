import Derived.Test.YtcpjfpdecklkgaaGreatDoorMba
namespace Go.Proofs.YtcpjfpdecklkgaaGreatDoor
open Go.Lib (hid)
open Go.Proofs.Tryz
open Go.RowKit Go.Shelf Go.Maps
section
attribute [local go_sem] Oper.semAt_some
set_option maxRecDepth 100000
set_option maxHeartbeats 4000000
theorem Zer (n:Nat) (v:Value) (hv:∃a k c,v = .slice a k c) (w:World):
  CallsIn Fence.wide n prog 83 #[v] w λe w'=>e = .returned (.func (.func 140) #[] #[.pointer (some ⟨w.heap.size,0,none⟩)])/\w'=w.alloc (.cells #[v] 35):=by
 obtain⟨a,k,c,rfl⟩:=hv;refine callsIn_of_wp func83 rfl trivial ?_ rfl;simp only[ntmps83,List.size_toArray,List.length_cons,List.length_nil,Nat.reduceAdd,Nat.reduceSub,Array.replicate_succ,Array.replicate_zero,List.push_toArray,List.append_toArray,List.nil_append,List.cons_append]
 gi_wp2
 go_ret;exact⟨rfl,rfl⟩
def Zbk (w:World) (outs:List ByteArray) (steps:List StepS) (e:Ending) (w':World):Prop:=∃g,e = .returned (.slice (some ⟨g,0,none⟩) steps.length steps.length)/\BoolR w' g (Zbak outs steps).1/\w.heap.size<=g/\Below w.heap.size w w'
theorem Zbat (r:RuleS) (a1 a2 a3 a4:Option Addr) (c1 c2 c3 c4:Nat) (ov:Value) (outs:List ByteArray) (w:World) (hr:RuleI w [.string r.name,.slice a1 r.ins.length c1,.slice a2 r.outs.length c2,.slice a3 r.after.length c3,.slice a4 r.steps.length c4] r) (hs:SmallR r 1048576) (ho:IsStrs w ov outs) (hon:outs.length<=1048576) (hos:∀k∈outs,k.size<=maxLen):
  Calls prog 42 #[.agg (Zbiz r a1 a2 a3 a4 c1 c2 c3 c4),ov] w (Zbk w outs r.steps):=by
 refine(callsIn_wide (n:=5)).1 ?_;obtain⟨vi,vo,vf,vs,q,h1,h2,h3,h4⟩:=hr;simp only[List.cons.injEq,and_true,true_and]at q;obtain⟨rfl,rfl,rfl,rfl⟩:=q;obtain⟨oa,oc,rfl,hol,hom,hoc⟩:=id ho;have hss:=hs.steps;have hfew:=hs.few;have mixed:prog.follows .mixedOrders=true:=by kernel_rfl
 obtain⟨name,insN,outsN,after,steps⟩:=r;simp only[Zbiz]at hss hfew h4⊢;obtain⟨n,hn⟩:∃n,w.heap.size=n:=⟨_,rfl⟩;obtain⟨W1,hW1⟩:∃W,w.alloc (.cells #[.string name,.slice a1 insN.length c1,.slice a2 outsN.length c2,.slice a3 after.length c3,.slice a4 steps.length c4] 37)=W:=⟨_,rfl⟩;have hb1:Below n w W1:=by rw[<-hW1,<-hn];exact(Below.refl _ _).alloc (Nat.le_refl _) _
 have hs1:W1.heap.size=n+1:=by rw[<-hW1];simp[hn]
 have hx1:W1.heap[n]? =some (.cells #[.string name,.slice a1 insN.length c1,.slice a2 outsN.length c2,.slice a3 after.length c3,.slice a4 steps.length c4] 37):=by rw[<-hW1,<-hn];exact alloc_at w _
 obtain⟨W3,hW3⟩:∃W,(W1.alloc (.map #[] 0)).alloc (.cells #[.map (some (n+1))] 123)=W:=⟨_,rfl⟩;have hs3:W3.heap.size=n+3:=by rw[<-hW3];simp[hs1]
 have hb3:Below (n+1) W1 W3:=by rw[<-hW3];exact((Below.refl _ _).alloc (by omega) _).alloc (by simp[hs1]) _
 have hset3:SetIs W3 (n+1) []:=by
  have:=Zbkr W1;rw[hs1]at this;rw[<-hW3];exact this.heap (Below.heap_alloc _ _ _ (by simp[hs1]))
 have hx3:Boxed W3 (n+2) 123 (.map (some (n+1))):=by
  have:=Boxed.new (W1.alloc (.map #[] 0)) 123 (.map (some (n+1)));rw[World.size_alloc,hs1]at this;rw[<-hW3];exact this
 have hbw3:Below n w W3:=hb1.trans (hb3.mono (by omega));have cA:=Zblo (n+1) [] (.slice oa outs.length oc) outs W3 hset3 (ho.below (by rw[hn];exact hbw3)) (λg o c hne e=>by
  obtain⟨g',o',e',hg',_⟩:=hoc hne;have e2:=e'.symm.trans (Value.slice.inj e).1
  cases e2
  omega) (by simp;omega) hos
 have CA:=hid cA;have hmm:=Zbki (P:=prog) 123 _ _ underlying123 (outs.length:Int);have hmk:=Zyd steps.length (by omega);have HW1:=hid hW1;have HW3:=hid hW3;have HS1:=hid hs1;have HX1:=hid hx1;have HX3:=hid hx3;have HB3:=hid hb3;have HBW3:=hid hbw3;have HS3:=hid hs3;have HN:=hid hn;have H4:=hid h4;have HSS:=hid hss;have HOS:=hid hos;unfold maxLen at hom;clear cA hb1 hx1 hW3 hs3 hb3 hset3 hx3 hbw3 h1 h2 h3 h4 ho hoc hs hss hos;refine callsIn_of_wp_marks func42 rfl trivial ?_ rfl;simp only[ntmps42,List.size_toArray,List.length_cons,List.length_nil,Nat.reduceAdd,Nat.reduceSub,Array.replicate_succ,Array.replicate_zero,List.push_toArray,List.append_toArray,List.nil_append,List.cons_append]
 gi_wp2
 rw[HW3.out];refine⟨trivial,?_⟩;refine((callsIn_wide (n:=4)).2 CA.out).mono ?_;rintro e W4 ⟨rfl,hset4,hg4,hz4⟩;have hs4:W4.heap.size=n+1+1+1:=by rw[hz4,HS3.out]
 have same4:∀k,k<n+3->k≠n+1->W4.heap[k]? =W3.heap[k]?:=λk hk hne=>hg4.block k (by rw[HS3.out];exact hk) (λe=>hne (by cases e;rfl))
 have hb4:Below n w W4:=HBW3.out.grown hg4 (by rw[HS3.out];omega) (λk e=>by cases e;omega);have hx4:W4.heap[n]? =some (.cells #[.string name,.slice a1 insN.length c1,.slice a2 outsN.length c2,.slice a3 after.length c3,.slice a4 steps.length c4] 37):=(same4 n (by omega) (by omega)).trans ((HB3.out.block n (by omega)).trans HX1.out);obtain⟨d0,d1,d2,d3,d4,_⟩:=cells5 hx4;have hw4:Boxed W4 (n+2) 123 (.map (some (n+1))):=(same4 (n+2) (by omega) (by omega)).trans HX3.out;have hbm:=Zgc W4 steps.length;rw[hs4]at hbm;obtain⟨W5,hW5⟩:∃W,(W4.alloc (.cells (madeCells #[.bool false] steps.length) 4)).alloc (.cells #[.slice (some ⟨n+3,0,none⟩) steps.length steps.length] 40)=W:=⟨_,rfl⟩;have hs5:W5.heap.size=n+1+1+1+1+1:=by rw[<-hW5];simp[hs4]
 have hb5:Below (n+3) W4 W5:=by rw[<-hW5];exact((Below.refl _ _).alloc (by omega) _).alloc (by rw[World.size_alloc];omega) _
 have hx5:W5.heap[n]? =some (.cells #[.string name,.slice a1 insN.length c1,.slice a2 outsN.length c2,.slice a3 after.length c3,.slice a4 steps.length c4] 37):=(hb5.block n (by omega)).trans hx4;obtain⟨g0,g1,g2,g3,g4,_⟩:=cells5 hx5;have HS4:=hid hs4;have HSET4:=hid hset4;have HB4:=hid hb4;have HX4:=hid hx4;have HW4:=hid hw4;have HBM:=hid hbm;have HW5:=hid hW5;have HB5:=hid hb5;have HS5:=hid hs5;have HX5:=hid hx5;clear hset4 hg4 hz4 same4 hb4 hx4 hw4 hbm hb5 hx5 hs5
 gi_wp2
 refine⟨trivial,?_⟩;refine(Zer _ _ ⟨_,_,_,rfl⟩ W5).mono ?_;rintro e W6 ⟨rfl,hW6⟩;rw[HS5.out];have hbx6:Boxed W6 (n+5) 35 (.slice a4 steps.length c4):=by
  have:=Boxed.new W5 35 (.slice a4 steps.length c4);rw[HS5.out]at this;rw[hW6];exact this
 have hs6:W6.heap.size=n+6:=by rw[hW6,World.size_alloc,HS5.out]
 have hb56:Below (n+5) W5 W6:=by rw[hW6];exact(Below.refl _ _).alloc (by rw[HS5.out];omega) _
 have hb6:Below n w W6:=HB4.out.trans ((HB5.out.mono (by omega)).trans (hb56.mono (by omega)));obtain⟨rows,hrow0,hall⟩:=H4.out;have hrl:=hall.1;obtain⟨a0,ha0⟩:∃a0,(if rows = []then none else a4)=a0:=⟨_,rfl⟩;have ha1:rows≠[]->a0=a4:=λh=>by rw[<-ha0,if_neg h]
 have ha4:∀g,(a0.map Addr.block)=some g->g<n:=by
  intro g hg
  by_cases hne:rows = []
  ·rw[<-ha0,if_pos hne]at hg;cases hg
  ·obtain⟨ra,rc,e,_,_,hc⟩:=hrow0
   obtain⟨b,o,e2,hb,_⟩:=hc hne;rw[ha1 hne,(Value.slice.inj e).1,e2]at hg
   cases hg
   show b<n;omega
 have hrow:=hrow0.below (by rw[HN.out];exact hb6);rw[<-hrl]at hrow hbx6;have hbw6:Boxed W6 (n+2) 123 (.map (some (n+1))):=(hb56.block _ (by omega)).trans ((HB5.out.block _ (by omega)).trans HW4.out);have hm6:BoolR W6 (n+3) (List.replicate steps.length false):=by
  have h1:W5.heap[n+3]? =(W4.alloc (.cells (madeCells #[.bool false] steps.length) 4)).heap[n+3]?:=by rw[<-HW5.out];exact Below.heap_alloc _ _ _ (by rw[World.size_alloc,HS4.out];omega)
  exact(hb56.block _ (by omega)).trans (h1.trans HBM.out)
 have hg6:Boxed W6 (n+4) 40 (.slice (some ⟨n+3,0,none⟩) steps.length steps.length):=by
  have:=Boxed.new (W4.alloc (.cells (madeCells #[.bool false] steps.length) 4)) 40 (.slice (some ⟨n+3,0,none⟩) steps.length steps.length);rw[World.size_alloc,HS4.out,HW5.out]at this;exact(hb56.block _ (by omega)).trans this
 have hset6:SetIs W6 (n+1) (addS [] outs):=HSET4.out.heap ((hb56.block _ (by omega)).trans (HB5.out.block _ (by omega)));have hI0:NdI w n steps.length outs steps [] W6:=by
  refine⟨⟨_,hset6,λa=>?_,?_⟩,?_,hbw6,hg6,hb6,by omega,Nat.zero_le _⟩
  ·rw[Zcp,List.length_nil,Nat.sub_zero,List.drop_length]
   simp[Zbak]
  ·have:=Zco outs []
   simp at this⊢;omega
  ·rw[List.length_nil,Nat.sub_zero,List.drop_length]
   simpa[Zbak]using hm6
 have HN1:=hid hrow;have HALL:=hid hall;have HI0:=hid hI0;have HBX6:=hid hbx6;have HS6:=hid hs6;have HB6:=hid hb6;have HA4:=hid ha4;have HA1:=hid ha1;clear hrow0 ha0 ha1 hrow hall hI0 hbx6 hb6 ha4 hbw6 hm6 hg6 hset6 hb56 hW6 d0 d1 d2 d3 d4 g0 g1 g2 g3 g4
 gi_wp2
 have hsb:W6.heap.size=n+6:=HS6.out;refine Zbuc (xs:=bwD rows rows.length) rfl (by omega) (gf:=140) (lb:=#[.pointer (some ⟨n+5,0,none⟩)]) rfl trivial (enters_of func140 (by kernel_rfl) rfl)
  (Zes _ (by omega) (n+5) a4 c4 rows W6 HBX6.out HN1.out (λr hr=>by
   obtain⟨j,hj⟩:=List.getElem?_of_mem hr;obtain⟨y,hy⟩:∃y,steps[j]? =some y:=⟨steps[j]'(by rw[<-hrl];exact(List.getElem?_eq_some_iff.1 hj).1),List.getElem?_eq_getElem _⟩;obtain⟨va,vl,e,_⟩:=HALL.out.2 j r y hj hy;exact⟨_,_,_,_,_,e⟩) a0 HA1.out) (Below.refl _ _) (λ_=>rfl) (λA B h=>h▸KeepsOthers.refl A) (λ_ _ _ h k=>⟨k.1.trans h.1,λg hg=>(k.2 g hg).trans (h.2 g hg)⟩) (Zwh (by rw[hsb];omega) (λg hg=>by have:=HA4.out g hg;rw[hsb];omega))
  (NdI w n steps.length outs steps) (λs A B h e=>e▸h) (Zbai w n steps.length _ outs steps (by rw[hsb];exact Nat.le_refl _)) HI0.out
  (λx a' W=>∃(bx:Nat) (v0 v1 v2 v3 v4:Value),n+6<=bx/\x.2 = [v0,v1,v2,v3,v4]/\W.heap[bx]? =some (.cells #[v0,v1,v2,v3,v4] 34 (0,0))/\a' = { tmps:=#[.agg #[.string name,.slice a1 insN.length c1,.slice a2 outsN.length c2,.slice a3 after.length c3,.slice a4 steps.length c4],.slice oa outs.length oc,.pointer (some ⟨n,0,none⟩),undef,.slice none 0 0,.pointer (some ⟨n+1+1,0,none⟩),.pointer (some ⟨n+1+1+1+1,0,none⟩),.int .i64 (x.1:Int),.pointer (some ⟨bx,0,none⟩),.slice oa outs.length oc,.int .i64 (outs.length:Int),.map (some (n+1)),.map (some (n+1)),.slice oa outs.length oc,.tuple #[],.pointer (some ⟨n,4,none⟩),.slice a4 steps.length c4,.int .i64 (steps.length:Int),.slice (some ⟨n+1+1+1,0,none⟩) steps.length steps.length,.pointer (some ⟨n,4,none⟩),.slice a4 steps.length c4,.func (.func 140) #[] #[.pointer (some ⟨n+1+1+1+1+1,0,none⟩)],.int .i64 (x.1:Int),.agg x.2.toArray,undef,undef,undef,undef,undef,undef,undef,undef,undef,undef,undef,undef],defers:=[] })
  ?ax ?assign ?body ?done
 case ax=>
  rintro x a' W l o o' ⟨bx,v0,v1,v2,v3,v4,h1,h2,h3,h4⟩ hl ho hc;refine⟨bx,v0,v1,v2,v3,v4,h1,h2,(World.putObj_heap_other ?_).trans h3,h4⟩;rintro rfl;rw[h3]at ho
  cases ho
  cases hc
 case assign=>
  intro l pre x post W K hx hI hK;obtain⟨hpl,hxe⟩:=Zgr rows rows.length pre x post hx;obtain⟨k,hk⟩:∃k,rows.length-1-pre.length=k:=⟨_,rfl⟩;rw[hk]at hxe;obtain⟨r,hr⟩:∃r,rows[k]? =some r:=⟨rows[k]'(by omega),List.getElem?_eq_getElem _⟩;obtain⟨y,hy⟩:∃y,steps[k]? =some y:=⟨steps[k]'(by omega),List.getElem?_eq_getElem _⟩;obtain⟨va,vl,e5,hyA,hyL⟩:=HALL.out.2 k r y hr hy;obtain⟨b1,m1,rfl⟩:=Zue hyA;obtain⟨b2,m2,rfl⟩:=Zue hyL;have hgd:rows.getD k [] = [.string y.out,.int .i64 y.op,.slice b1 y.args.length m1,.slice b2 y.lits.length m2,.int .i64 y.n]:=by rw[List.getD_eq_getElem?_getD,hr,<-e5];rfl
  rw[hgd]at hxe;have hz:=hI.size;have HK:=hid hK;have HI:=hid hI;have HZ:=hid hz;subst hxe;clear hK hI hx hgd e5 hr hy hz hyA hyL
  gi_wp2
  exact HK.out _ _ ((KeepsOthers.alloc W _).from _) ⟨Below.heap_alloc _ _ _ (by have:=HZ.out;omega),λg hg=>Below.heap_alloc _ _ _ (by have:=HA4.out g hg;have:=HZ.out;omega)⟩ (HI.out.keep rfl rfl rfl (by simp) λk hk=>Below.heap_alloc _ _ _ (by have:=HZ.out;omega)) ⟨W.heap.size,_,_,_,_,_,HZ.out,rfl,alloc_at W _,rfl⟩
 case body=>
  rintro l pre x post a' W hx hI ⟨bx,v0,v1,v2,v3,v4,hbx,hx2,hcell,rfl⟩;obtain⟨hpl,hxe⟩:=Zgr rows rows.length pre x post hx;obtain⟨k,hk⟩:∃k,rows.length-1-pre.length=k:=⟨_,rfl⟩;rw[hk]at hxe;obtain⟨r,hr⟩:∃r,rows[k]? =some r:=⟨rows[k]'(by omega),List.getElem?_eq_getElem _⟩;obtain⟨y,hy⟩:∃y,steps[k]? =some y:=⟨steps[k]'(by omega),List.getElem?_eq_getElem _⟩;obtain⟨va,vl,e5,hyA,hyL⟩:=HALL.out.2 k r y hr hy;obtain⟨b1,m1,rfl⟩:=Zue hyA;obtain⟨b2,m2,rfl⟩:=Zue hyL;have hgd:rows.getD k [] = [.string y.out,.int .i64 y.op,.slice b1 y.args.length m1,.slice b2 y.lits.length m2,.int .i64 y.n]:=by rw[List.getD_eq_getElem?_getD,hr,<-e5];rfl
  rw[hgd]at hxe;subst hxe;simp only[List.cons.injEq,and_true]at hx2;obtain⟨rfl,rfl,rfl,rfl,rfl⟩:=hx2;obtain⟨⟨L,hset,hL,hLl⟩,hm,hb2,hb4,hbel,hz,hfw⟩:=id hI;rw[show steps.length-pre.length=k+1 by omega]at hL hm;have hsm:=HSS.out y (List.mem_of_getElem? hy);have hys:y.out.size<=maxLen:=by have:=hsm.out;unfold maxLen;omega
  obtain⟨s0,s1,s2,s3,s4,_⟩:=cells5 hcell;have cw:=hb2.cell;have cm:=hb4.cell;have hH:∀F',CallsIn (Fence.wide.inRound l) F' prog 84 #[.map (some (n+1)),.string y.out] W λe w'=>e = .returned (.bool (inS L y.out))/\Below W.heap.size W w':=λF'=>CallsIn.inRound l ((callsIn_wide (n:=F')).2 (Zblp (n+1) L y.out W hset hys))
  have HY:=hid hy;have HI:=hid hI;have HSET:=hid hset;have HL:=hid hL;have HLL:=hid hLl;have HM:=hid hm;have HZ:=hid hz;have HYA:=hid hyA;have HSM:=hid hsm;have HC:=hid hcell;have HBX:=hid hbx;have HB2:=hid hb2;have HB4':=hid hb4;have HBEL:=hid hbel;have HKL:=hid (show steps.length=k+1+pre.length by omega);clear hx hgd e5 hr hI hset hL hLl hm hb2 hb4 hbel hz hyA hyL hsm hcell hbx hy hfw
  by_cases hin:inS L y.out=true
  ·rw[hin]at hH
   have HYES:=hid hin;obtain⟨M,hM⟩:∃M,(Zbak outs (steps.drop (k+1))).1=M:=⟨_,rfl⟩;have HMM:=hid hM;have hm':=HM.out;rw[hM]at hm';have hmk:(List.replicate (k+1) false++M)[k]? =some false:=by rw[List.getElem?_append_left (by simp),List.getElem?_replicate,if_pos (by omega)]
   have hA2:Hid (∀w',Below W.heap.size W w'->(∀F',CallsIn (Fence.wide.inRound l) F' prog 82 #[.map (some (n+1)),.slice b1 y.args.length m1] (w'.setCell ⟨n+3,k,none⟩ (.bool true)) (Zaa (w'.setCell ⟨n+3,k,none⟩ (.bool true)) (n+1) L y.args))/\w'.cell? ⟨n+3,k,none⟩=some (.bool false)/\w'.frozen? ⟨n+3,k,none⟩=false/\w'.cell? ⟨n+4,0,none⟩=some (.slice (some ⟨n+3,0,none⟩) steps.length steps.length)/\(w'.setCell ⟨n+3,k,none⟩ (.bool true)).cell? ⟨n+2,0,none⟩=some (.map (some (n+1)))/\(w'.setCell ⟨n+3,k,none⟩ (.bool true)).cell? ⟨bx,2,none⟩=some (.slice b1 y.args.length m1)):=by
    show ∀w',_;intro w' hw;have hZ:=HZ.out;have hbl:bx<W.heap.size:=(Array.getElem?_eq_some_iff.1 HC.out).1;obtain⟨q1,q2⟩:=BoolR.cell (w:=w') (show BoolR w' (n+3) (List.replicate (k+1) false++M)from(hw.block _ (by omega)).trans hm') hmk;have far:∀j,j≠n+3->j<W.heap.size->(w'.setCell ⟨n+3,k,none⟩ (.bool true)).heap[j]? =W.heap[j]?:=λj hj hl=>(Below.heap_setCell w' _ _ j hj).trans (hw.block j hl)
    have hbn:Below n w (w'.setCell ⟨n+3,k,none⟩ (.bool true)):=(HBEL.out.trans (hw.mono (by omega))).setCell (p:=⟨n+3,k,none⟩) (by show n<=n+3;omega) _;obtain⟨t0,t1,t2,_⟩:=cells5 ((far bx (by have:=HBX.out;omega) hbl).trans HC.out);refine⟨λF'=>CallsIn.inRound l ((callsIn_wide (n:=F')).2 (Zblo (n+1) L _ y.args _ (HSET.out.heap (far (n+1) (by omega) (by omega))) (HYA.out.below (by rw[HN.out];exact hbn)) (λg o c hne e=>?_) ?_ ?_)),q1,q2,?_,?_,t2⟩
    ·obtain⟨g',o',e',hg',_⟩:=(Ztz HYA.out) hne
     have e2:=e'.symm.trans (Value.slice.inj e).1
     cases e2
     have:=HN.out;omega
    ·have h1:=HLL.out
     have h2:=HSM.out.args.1;have h3:=HKL.out;have h4:pre.length*1048576<=1048576*1048576:=Nat.mul_le_mul_right _ (by omega);obtain⟨q,hq⟩:∃q,pre.length*1048576=q:=⟨_,rfl⟩;rw[hq]at h1 h4;omega
    ·exact λz hz=>by have:=HSM.out.args.2 z hz;unfold maxLen;omega
    ·exact Boxed.cell (show Boxed w' (n+4) _ _ from(hw.block _ (by omega)).trans HB4'.out)
    ·exact Boxed.cell (show Boxed _ (n+2) _ _ from(far (n+2) (by omega) (by omega)).trans HB2.out)
   have hi0:(0:Int)<=(k:Int):=by omega
   have hi1:(k:Int)<(steps.length:Int):=by omega
   clear hin hm' hmk hM
   gi_wp2_with (first
    | (refine⟨trivial,?_⟩;gi_at_call 84;refine(hH _).mono ?_;rintro e w' ⟨rfl,hbh⟩;obtain⟨cA,q1,q2,q3,q4,q5⟩:=hA2.out w' hbh)
    | (refine⟨trivial,?_⟩;gi_at_call 82;refine(cA _).mono ?_;rintro e w3 ⟨rfl,hset3,hg3,hz3⟩))
   have hZ:=HZ.out;have hs2:(w'.setCell ⟨n+3,k,none⟩ (.bool true)).heap.size=w'.heap.size:=by simp[World.setCell]
   have same:∀j,j<W.heap.size->j≠n+1->j≠n+3->w3.heap[j]? =W.heap[j]?:=λj hj h1 h3=>(hg3.block j (by rw[hs2];exact Nat.lt_of_lt_of_le hj hbh.size) (λe=>h1 (by cases e;rfl))).trans ((Below.heap_setCell w' _ _ j h3).trans (hbh.block j hj))
   have hszz:W.heap.size<=w3.heap.size:=Nat.le_trans hbh.size (by rw[hz3,hs2];exact Nat.le_refl _);have hm3:BoolR w3 (n+3) ((List.replicate (k+1) false++(Zbak outs (steps.drop (k+1))).1).set k true):=by
    have h1:BoolR w' (n+3) (List.replicate (k+1) false++(Zbak outs (steps.drop (k+1))).1):=(hbh.block _ (by omega)).trans HM.out;exact(hg3.block _ (by rw[hs2];have:=hbh.size;omega) (λe=>by cases e)).trans (h1.set k true)
   exact⟨⟨hszz,λj o hj ho _=>(same j (Array.getElem?_eq_some_iff.1 ho).1 (by have:=HS6.out;omega) (by have:=HS6.out;omega)).trans ho⟩,⟨same _ (by omega) (by omega) (by omega),λg hg=>by have:=HA4.out g hg;exact same _ (by omega) (by omega) (by omega)⟩,HI.out.yes HKL.out HY.out HL.out hset3 HLL.out HSM.out.args.1 HYES.out hm3 (hg3.os.trans hbh.os) (hg3.tape.trans hbh.tape) (hg3.output.trans hbh.output) hszz (λj hj h1 h3=>same j (by omega) h1 h3)⟩
  ·have hin':inS L y.out=false:=by simpa using hin
   rw[hin']at hH;have HNO:=hid hin';clear hin hin'
   gi_wp2_with (first
    | (refine⟨trivial,?_⟩;gi_at_call 84;refine(hH _).mono ?_;rintro e w' ⟨rfl,hbh⟩))
   exact⟨⟨hbh.size,λk o _ hk _=>(hbh.block k (Array.getElem?_eq_some_iff.1 hk).1).trans hk⟩,⟨hbh.block _ (by have:=HZ.out;omega),λg hg=>hbh.block _ (by have:=HA4.out g hg;have:=HZ.out;omega)⟩,HI.out.no rfl HKL.out HY.out HL.out HSET.out HLL.out HNO.out hbh⟩
 case done=>
  intro D W hD hI hK;have hxl:=Zgq rows rows.length;have hm:=hI.marks;rw[hxl,hrl,Nat.sub_self,List.drop_zero,List.replicate_zero,List.nil_append]at hm;have cm:=hI.b4.cell;have hz:=hI.size;have hDn:n+3≠D:=by have:=HS6.out;omega
  have hbel:=hI.below;clear hI
  gi_wp2
  refine⟨by simp,.inl ⟨_,_,rfl,run_takeDeferred hK,?_⟩⟩;exact⟨_,results_tmp rfl _ _ _,n+3,rfl,(World.putObj_heap_other hDn).trans hm,by omega,by rw[HN.out];exact hbel.trans (belowK_b (w:=W6) (by have:=HS6.out;omega) W D _ _ hD hK rfl rfl)⟩
end
end Go.Proofs.YtcpjfpdecklkgaaGreatDoor
