import Derived.Test.YtcpjfpdecklkgaaGreatDoorMaj
namespace Go.Proofs.YtcpjfpdecklkgaaGreatDoor
open Go.Lib (hid)
open Go.Proofs.Tryz
open Go.RowKit
theorem Zbah (ws:List Zcj):∀(f:Nat) (acc:List ByteArray) (s:PS),s.1<=(Zzz ws f acc s).2.1
 | 0,_,_=>Nat.le_refl _
 | f+1,acc,s=>by
  unfold Zzz;split
  ·exact Nat.le_trans (Zzt ws s) (Zbah ws f _ _)
  ·exact Nat.le_refl _
theorem Zbrl (ws:List Zcj) (s:PS):s.1<=(Zbrk ws s).2.1:=Zbrd ws _ s
theorem Zbcb (ws:List Zcj) (s:PS):s.1<=(Zbbz ws s).2.1:=Zbrd ws _ s
theorem Zbct (ws:List Zcj) (s:PS):s.1<=(opP ws s).2.1:=Zbrd ws _ s
theorem Zbqy (ws:List Zcj) (op:Int) (s:PS):s.1<=(Zbqx ws op s).2.1:=by
 unfold Zbqx;have t1:=Zbrl ws s;have t2:=Zbrl ws (Zbrk ws s).2;have n1:=Zzt ws s;have n2:=Zzt ws (Zbrk ws s).2;have n3:=Zzt ws (Zbrk ws (Zbrk ws s).2).2;have n4:=Zzt ws (Zbbz ws s).2;have u1:=Zbcb ws s;have l1:=Zbah ws (ws.length+1) [] s;split
 ·exact l1
 ·split
  ·exact t1
  ·split
   ·exact Nat.le_trans t1 n2
   ·split
    ·exact Nat.le_trans t1 (Nat.le_trans t2 n3)
    ·split
     ·exact Nat.le_trans u1 n4
     ·exact n1
theorem Zboe (ws:List Zcj) (s:PS):(Zzr ws s).2.1<=(Zbns ws s).2.1:=by
 show(Zzr ws s).2.1<=(Zyk ws Zhl (Zbqx ws (opP ws (Zyk ws cEq (Zzr ws s).2)).1 (opP ws (Zyk ws cEq (Zzr ws s).2)).2).2).1;exact Nat.le_trans (Zyo ws cEq _) (Nat.le_trans (Zbct ws _) (Nat.le_trans (Zbqy ws _ _) (Zyo ws Zhl _)))
theorem Zboq {ws:List Zcj} {f:Nat} {acc:List StepS} {s:PS} (h0:s.2=false) (h1:Ztu ws s=true):Zbop ws (f+1) acc s=Zbop ws f (acc ++ [(Zbns ws s).1]) (Zbns ws s).2:=by
 simp[Zbop,h0,h1]
theorem Zbor {ws:List Zcj} {f:Nat} {acc:List StepS} {s:PS} (h:s.2=true∨Ztu ws s=false):Zbop ws (f+1) acc s=(acc,s):=by
 rcases h with h|h<;>simp[Zbop,h]
theorem Zqy {W w5:World} {B:Nat} {vv v':Value} {rows:List (List Value)} {xs:List StepS} (h:AllA (λr x=>StepA (AvOf B vv) W r x) rows xs) (hg:W.grownBy w5 vv.ownBlock) (hv:∀b,v'.ownBlock=some b->vv.ownBlock=some b∨W.heap.size<=b):
  AllA (StepA (AvOf B v') w5) rows xs:=by
 refine h.imp λr x hx=>?_
 have h1:StepA (λb=>AvOf B vv b∨W.heap.size<=b) W r x:=hx.mono λb hb e=>by
  rcases e with e|e
  ·exact e
  ·omega
 refine(h1.keep (Zpx hg λk e=> .inl (.inr e))).mono λb _ e=>?_
 rcases e with e|e
 ·exact .inl (.inl e)
 ·rcases hv b e with e|e
  ·exact .inl (.inr e)
  ·exact .inr e
set_option maxHeartbeats 4000000 in
set_option maxRecDepth 100000 in
theorem Zber (p:Nat) (v:Value) (ws:List Zcj) (s:PS) (w:World) (h:RS w p v ws s):
  Calls prog 237 #[.pointer (some ⟨p,0,none⟩)] w λe w'=>∃vv,e = .returned vv/\StepsA (λb=>b<w.heap.size) w' vv (Zbox ws s).1/\After w w' p v ws (Zbox ws s).2:=by
 obtain⟨i0,hi,hz0,hz1,hz2⟩:=Zsv Zsx;obtain⟨R,hR⟩:∃R,Zbox ws s=R:=⟨_,rfl⟩;have H:=hid h;have HR:=hid hR;rw[hR];have hfew:=h.few;have hpl:=h.st.p_lt;clear hR h
 go_enter func237,ntmps237
 go_wp2
 go_loopw [3] (λvv wr=>∃(f:Nat) (acc:List StepS) (rows:List (List Value)) (s':PS),ws.length-s'.1<f/\Zbop ws f acc s'=R/\acc.length<=s'.1/\wr.ownsRow w.heap.size 34 5 vv rows.length rows.flatten/\AllA (StepA (AvOf w.heap.size vv) wr) rows acc/\After w wr p v ws s')
  (λ_ wr=>ws.length-Zbfk wr p)
 case atStart=>exact⟨ws.length+1,[],[],s,by omega,HR.out,by simp,⟨rfl,.inl ⟨rfl,rfl⟩⟩,AllA.nil _,After.refl H.out.st⟩
 case round=>
  obtain⟨f,acc,rows,s',hf,hj,hal,hown,hall,ha⟩:=hrel;obtain⟨f,rfl⟩:∃g,f=g+1:=⟨f-1,by omega⟩;have HA:=hid ha;have HJ:=hid hj;have HO:=hid hown;have HL:=hid hall;have hrl:=hall.1;have hlt:=ha.1.lt;have hrs:=H.out.after ha;obtain⟨c0,c1,c2,f0,f1,f2⟩:=ha.1.cells;have cI:=Zbeh p v ws s' wr hrs.st hrs.gp hrs.szM;have CN:Hid (∀w',Below wr.heap.size wr w'->Calls prog 269 #[.pointer (some ⟨p,0,none⟩)] w' λe w''=>Zcb w' w'' (Zbns ws s').1 e/\After w' w'' p v ws (Zbns ws s').2):=
   λw' hb=>Zbeq p v ws s' w' (hrs.below hb)
  have hsz:=ha.2.size;obtain⟨k,fl⟩:=s';clear ha hj hown hrs c0 f0 hall
  cases fl
  ·obtain⟨q,hq⟩:∃q,Ztu ws (k,false)=q:=⟨_,rfl⟩
   rw[hq]at cI;have HQ:=hid hq;clear hq
   cases q
   ·have hres:=HJ.out
    rw[Zbor (.inr HQ.out)]at hres;have HRES:=hid hres;clear hres
    go_wp2_with fail
    refine cI.mono ?_;rintro e w2 ⟨rfl,hb2⟩;go_wp2;go_ret;refine⟨_,rfl,?_,by rw[<-HRES.out];exact HA.out.trans (After.of_below HA.out.1 hb2)⟩;rw[<-HRES.out];have hl2:=HL.out.imp λr x h=>h.keep (Zpv (Av:=AvOf w.heap.size _) hb2)
    exact⟨rows,Zbif (Zbdm HO.out (p:=p) (Zpv hb2) hpl) (HL.out.len λr x h=>h.len),hl2.imp λr x h=>h.mono λb _ e=> .inl e⟩
   ·have hres:=HJ.out
    rw[Zboq rfl HQ.out]at hres;have hadv:=Zzu (ws:=ws) (s:=(k,false)) rfl HQ.out;have hge:=Zboe ws (k,false);rw[hadv]at hge;obtain⟨y,hy⟩:∃y,Zbns ws (k,false)=y:=⟨_,rfl⟩;rw[hy]at hres hge CN;obtain⟨x,s2⟩:=y;have HRES:=hid hres;have hge2:k+1<=s2.1:=hge;clear hres hadv hge hy;simp only at CN HRES
    go_wp2_with fail
    refine cI.mono ?_;rintro e w2 ⟨rfl,hb2⟩;have cN2:=CN.out w2 hb2;have HB2:=hid hb2;clear hb2 cI
    go_wp2_with fail
    refine cN2.mono ?_;rintro e w3 ⟨⟨va,vl,rfl,hva,hvl⟩,ha3⟩;obtain⟨a1,a2,a3,hvs⟩:=Zbig hva;subst hvs;obtain⟨l1,l2,l3,hvs⟩:=Zbig hvl;subst hvs;have hA3:=(HA.out.trans (After.of_below HA.out.1 HB2.out)).trans ha3;have hO3:=Zbdm (Zbdm HO.out (Zpv HB2.out) hpl) ha3.2 hpl;have hlt3:=λb (hb:_=some b)=>(HO.out.lt b hb).2
    have hL3:=(HL.out.imp λr x h=>(h.keep (Zpv (Av:=AvOf w.heap.size _) HB2.out)).keep (ha3.2.mono λb _ e=> .inl (by rw[e];exact hpl))).snoc (r:=[.string x.out,.int .i64 x.op,.slice a1 a2 a3,.slice l1 l2 l3,.int .i64 x.n]) (x:=x)
     (StepA.mono (Av:=λb=>b<w2.heap.size) ⟨_,_,rfl,hva,hvl⟩ λb _ e=>by
      have h2:=HB2.out.size
      rcases e with e|e
      ·omega
      ·have:=hlt3 b e;omega)
    have HO3:=hid hO3;have HL3:=hid (hL3.imp λr' x' h=>h.keep (Zpu _ _ (.cells #[.string x.out,.int .i64 x.op,.slice a1 a2 a3,.slice l1 l2 l3,.int .i64 x.n] 34)));have HA3:=hid hA3;have hs3:=hA3.2.size;clear ha3 hA3 cN2 hva hvl hO3 hL3 hlt3
    go_wp2_with (at_builtin;refine Zbue _ rfl _ _ 35 rfl w.heap.size 34 i0 (.agg #[.string ByteArray.empty,.int .i64 0,.slice none 0 0,.slice none 0 0,.int .i64 0]) 5 80 underlying35 hi hz0 hz1 hz2 rfl (by decide) _ _ _ rfl (HO3.out.alloc _) ⟨w3.heap.size,0,none⟩ 1 1 [.string x.out,.int .i64 x.op,.slice a1 a2 a3,.slice l1 l2 l3,.int .i64 x.n] rfl rfl ?c1 ?c2 (by decide) ?c3 ?c4 ?c5 ?_)
    case c1=>
     intro j u hj
     match j,hj with
     | 0,hj=>simp at hj;subst hj;simp[Addr.add]
     | 1,hj=>simp at hj;subst hj;simp[Addr.add]
     | 2,hj=>simp at hj;subst hj;simp[Addr.add]
     | 3,hj=>simp at hj;subst hj;simp[Addr.add]
     | 4,hj=>simp at hj;subst hj;simp[Addr.add]
    case c2=>intro u hu;simp at hu;rcases hu with rfl|rfl|rfl|rfl|rfl<;>rfl
    case c3=>unfold maxLen;have h1:k<ws.length:=hlt;have h2:acc.length<=k:=hal;omega
    case c4=>have h1:k<ws.length:=hlt;have h2:acc.length<=k:=hal;omega
    case c5=>simp;omega
    intro v' w4 hown' hgrow hnew;have hA4:=(HA3.out.alloc (.cells #[.string x.out,.int .i64 x.op,.slice a1 a2 a3,.slice l1 l2 l3,.int .i64 x.n] 34)).grown H.out.st hgrow (λb hb=>(HO3.out.lt b hb).1);have hL4:=Zqy (B:=w.heap.size) (v':=v') HL3.out hgrow (λb hb=>by simpa using hnew b hb);have HO4:Hid (w4.ownsRow w.heap.size 34 5 v' (rows ++ [([.string x.out,.int .i64 x.op,.slice a1 a2 a3,.slice l1 l2 l3,.int .i64 x.n]:List Value)]).length (rows ++ [([.string x.out,.int .i64 x.op,.slice a1 a2 a3,.slice l1 l2 l3,.int .i64 x.n]:List Value)]).flatten):=by
     show w4.ownsRow _ _ _ _ _ _;rw[List.length_append,List.flatten_append];simpa[hrl]using hown'
    have HA4:=hid hA4;have HL4:=hid hL4;clear hgrow hown' hA4 hL4 hnew;go_wp2;go_roundw
    case rel=>exact⟨f,acc ++ [x],_,s2,by have h1:k<ws.length:=hlt;have h2:ws.length-k<f+1:=hf;omega,HRES.out,by have h2:acc.length<=k:=hal;rw[List.length_append];simp only[List.length_cons,List.length_nil];omega,HO4.out,HL4.out,HA4.out⟩
    case measure=>rw[HA4.out.1.pos,HA.out.1.pos];have h1:k<ws.length:=hlt;show ws.length-s2.1<ws.length-k;omega
  ·have hres:=HJ.out
   rw[Zbor (.inl rfl)]at hres;have HRES:=hid hres;clear hres cI;go_wp2;go_ret;refine⟨_,rfl,?_,by rw[<-HRES.out];exact HA.out⟩;rw[<-HRES.out];exact⟨rows,Zbif HO.out (HL.out.len λr x h=>h.len),HL.out.imp λr x h=>h.mono λb _ e=> .inl e⟩
theorem Zbol {Av:Nat->Prop} {w:World} {va:Value} {xs:List StepS} (h:StepsA Av w va xs):∃a n c,va = .slice a n c:=by
 obtain⟨rows,h1,_⟩:=h;exact Zbig h1
def RuleA (Av:Nat->Prop) (w:World) (r:List Value) (x:RuleS):Prop:=∃vi vo vf vs,r = [.string x.name,vi,vo,vf,vs]/\StrsA Av w vi x.ins/\StrsA Av w vo x.outs/\StrsA Av w vf x.after/\StepsA Av w vs x.steps
def Zbu (w w':World) (x:RuleS) (e:Ending):Prop:=
 ∃vi vo vf vs,e = .returned (.agg #[.string x.name,vi,vo,vf,vs])/\StrsA (λb=>b<w.heap.size) w' vi x.ins/\StrsA (λb=>b<w.heap.size) w' vo x.outs/\StrsA (λb=>b<w.heap.size) w' vf x.after/\StepsA (λb=>b<w.heap.size) w' vs x.steps
def Zbur:Array Value:=#[.string ⟨#[]⟩,.slice none 0 0,.slice none 0 0,.slice none 0 0,.slice none 0 0]
theorem Zboh {w wr:World} {B:Nat} {va:Value} {xs:List StepS} (h:StepsA (λb=>b<B) wr va xs) (hB:w.heap.size+2<=B):StepsA (λb=>b<w.heap.size+2) wr va xs:=h.mono λb _ hb=>by omega
theorem Zboj {w wr:World} {va:Value} {xs:List StepS} (h:StepsA (λb=>b<w.heap.size+2) wr va xs):StepsA (λb=>b<w.heap.size) wr va xs:=h.mono λb _ hb=>by omega
theorem Zbdf {ws:List Zcj} {key:ByteArray} {s:PS} (h:Ztr ws key s=true):optP ws key s=Zjb ws key s:=by unfold optP;rw[if_pos h]
theorem Zbde {ws:List Zcj} {key:ByteArray} {s:PS} (h:Ztr ws key s=false):optP ws key s=([],s):=by unfold optP;rw[if_neg (by rw[h];decide)]
set_option maxHeartbeats 4000000 in
set_option maxRecDepth 100000 in
theorem Zbeo (p:Nat) (v:Value) (ws:List Zcj) (s:PS) (w:World) (h:RS w p v ws s):
  Calls prog 172 #[.pointer (some ⟨p,0,none⟩)] w λe w'=>Zbu w w' (Zbiw ws s).1 e/\After w w' p v ws (Zbiw ws s).2:=by
 have H:=hid h;have hpl:=h.st.p_lt;obtain⟨R,hR⟩:∃R,Zbiw ws s=R:=⟨_,rfl⟩;rw[hR];have CK:Hid (∀key s w',RS w' p v ws s->Calls prog 232 #[.pointer (some ⟨p,0,none⟩),.string key] w' λe w''=>e = .returned (.tuple #[])/\After w' w'' p v ws (keyP ws key s)):=λkey s w' hr=>Zbei p v ws s key w' hr
 have CN:Hid (∀s w',RS w' p v ws s->Calls prog 233 #[.pointer (some ⟨p,0,none⟩)] w' λe w''=>e = .returned (.string (Zzr ws s).1)/\After w' w'' p v ws (Zzr ws s).2):=λs w' hr=>Zbek p v ws s w' hr
 have CM:Hid (∀key s w',RS w' p v ws s->Calls prog 234 #[.pointer (some ⟨p,0,none⟩),.string key] w' λe w''=>e = .returned (.tuple #[])/\After w' w'' p v ws (Zyk ws key s)):=λkey s w' hr=>Zbej p v ws s key w' hr
 have CI:Hid (∀key s w',RS w' p v ws s->Calls prog 235 #[.pointer (some ⟨p,0,none⟩),.string key] w' λe w''=>e = .returned (.bool (Ztr ws key s))/\Below w'.heap.size w' w''):=λkey s w' hr=>Zbef p v ws s key w' hr.st
 have CC:Hid (∀key s w',RS w' p v ws s->Calls prog 236 #[.pointer (some ⟨p,0,none⟩),.string key] w' λe w''=>∃vv,e = .returned vv/\StrsA (λb=>b<w'.heap.size) w'' vv (Zjb ws key s).1/\After w' w'' p v ws (Zjb ws key s).2):=λkey s w' hr=>Zbed p v ws s key w' hr
 have CS:Hid (∀s w',RS w' p v ws s->Calls prog 237 #[.pointer (some ⟨p,0,none⟩)] w' λe w''=>∃vv,e = .returned vv/\StepsA (λb=>b<w'.heap.size) w'' vv (Zbox ws s).1/\After w' w'' p v ws (Zbox ws s).2):=λs w' hr=>Zber p v ws s w' hr
 have h0:=SM.begin (T:=37) h.st Zbur Zbur;unfold Zbur at h0;have H0:=hid h0;obtain⟨s1,hs1⟩:∃x,keyP ws Zvc s=x:=⟨_,rfl⟩;obtain⟨x2,hx2⟩:∃x,Zzr ws s1=x:=⟨_,rfl⟩;obtain⟨nm,s2⟩:=x2;obtain⟨s3,hs3⟩:∃x,Zyk ws Zhj s2=x:=⟨_,rfl⟩;obtain⟨x4,hx4⟩:∃x,optP ws kIn s3=x:=⟨_,rfl⟩;obtain⟨li,s4⟩:=x4;obtain⟨x5,hx5⟩:∃x,Zjb ws kOut s4=x:=⟨_,rfl⟩;obtain⟨lo,s5⟩:=x5;obtain⟨x6,hx6⟩:∃x,optP ws Zvb s5=x:=⟨_,rfl⟩;obtain⟨lf,s6⟩:=x6;obtain⟨x7,hx7⟩:∃x,Zbox ws s6=x:=⟨_,rfl⟩;obtain⟨ts,s7⟩:=x7;have hres:R=(⟨nm,li,lo,lf,ts⟩,Zyk ws Zhb s7):=by
  rw[<-hR];unfold Zbiw;simp only[hs1,hx2,hs3,hx4,hx5,hx6,hx7]
 have HRES:=hid hres;have E1:=hid hs1;have E2:=hid hx2;have E3:=hid hs3;have E4:=hid hx4;have E5:=hid hx5;have E6:=hid hx6;have E7:=hid hx7;clear hres hR hs1 hx2 hs3 hx4 hx5 hx6 hx7 h0 h
 go_enter func172,ntmps172
 have q1:=CK.out Zvc _ _ (H0.out.rs H.out);rw[E1.out]at q1
 go_wp2_with fail
 refine q1.mono ?_;rintro e w1 ⟨rfl,ha1⟩;have m1:=H0.out.step H.out.st ha1;have M1:=hid m1;clear m1 ha1 q1;have q2:=CN.out _ _ (M1.out.rs H.out);rw[E2.out]at q2
 go_wp2_with fail
 refine q2.mono ?_;rintro e w2 ⟨rfl,ha2⟩;have m2:=M1.out.step H.out.st ha2
 try clear d0 d1 d2 d3 d4 g0 g1 g2 g3 g4
 obtain⟨d0,d1,d2,d3,d4,g0,g1,g2,g3,g4⟩:=cells5 m2.r1;have m3:SM 37 #[.string ⟨#[]⟩,.slice none 0 0,.slice none 0 0,.slice none 0 0,.slice none 0 0] w _ p v ws s2 #[.string nm,.slice none 0 0,.slice none 0 0,.slice none 0 0,.slice none 0 0]:=m2.set H.out.st 0 (.string nm);have M3:=hid m3;clear m2 m3 ha2 q2;have q4:=CM.out Zhj _ _ (M3.out.rs H.out);rw[E3.out]at q4
 go_wp2_with fail
 refine q4.mono ?_;rintro e w4 ⟨rfl,ha4⟩;have m4:=M3.out.step H.out.st ha4;have M4:=hid m4;clear m4 ha4 q4;obtain⟨qi,hqi⟩:∃x,Ztr ws kIn s3=x:=⟨_,rfl⟩;have q5:=CI.out kIn _ _ (M4.out.rs H.out);rw[hqi]at q5;have HKqi:=hid hqi;clear hqi
 cases qi
 ·go_wp2_with fail
  refine q5.mono ?_;rintro e w5 ⟨rfl,hb5⟩;have ha5:=After.of_below M4.out.af.1 hb5;have m5:=M4.out.step H.out.st ha5;have M5:=hid m5;clear m5 ha5 hb5 q5;have e4:=E4.out;rw[Zbde HKqi.out]at e4;injection e4 with e4 e4'
  subst e4 e4';have q6:=CC.out kOut _ _ (M5.out.rs H.out);rw[E5.out]at q6
  go_wp2_with fail
  refine q6.mono ?_;rintro e w6 ⟨vv,rfl,hv,ha6⟩;obtain⟨a2,b2,c2,hvs⟩:=Zbig hv;subst hvs;have m6:=M5.out.step H.out.st ha6
  try clear d0 d1 d2 d3 d4 g0 g1 g2 g3 g4
  obtain⟨d0,d1,d2,d3,d4,g0,g1,g2,g3,g4⟩:=cells5 m6.r1;have SOu:=hid (Zbqb (Zbqa (w:=w) hv M5.out.big) (Zpy (Av:=λb=>b<w.heap.size+2) (a:=⟨w.heap.size+1,2,none⟩) (by simp) (.slice a2 b2 c2)));have m7:SM 37 #[.string ⟨#[]⟩,.slice none 0 0,.slice none 0 0,.slice none 0 0,.slice none 0 0] w _ p v ws s5 #[.string nm,.slice none 0 0,.slice a2 b2 c2,.slice none 0 0,.slice none 0 0]:=m6.set H.out.st 2 (.slice a2 b2 c2);have M7:=hid m7;clear m6 m7 ha6 q6 hv;obtain⟨qa,hqa⟩:∃x,Ztr ws Zvb s5=x:=⟨_,rfl⟩;have q8:=CI.out Zvb _ _ (M7.out.rs H.out);rw[hqa]at q8;have HKqa:=hid hqa;clear hqa
  cases qa
  ·go_wp2_with fail
   refine q8.mono ?_;rintro e w8 ⟨rfl,hb8⟩;have ha8:=After.of_below M7.out.af.1 hb8;have m8:=M7.out.step H.out.st ha8;have M8:=hid m8;have SOuk8:=hid (Zbqb SOu.out (Zwi H.out.st ha8));clear m8 ha8 hb8 q8;have e6:=E6.out;rw[Zbde HKqa.out]at e6;injection e6 with e6 e6'
   subst e6 e6';have q9:=CS.out _ _ (M8.out.rs H.out);rw[E7.out]at q9
   go_wp2_with fail
   refine q9.mono ?_;rintro e w9 ⟨vv,rfl,hv,ha9⟩;obtain⟨a4,b4,c4,hvs⟩:=Zbol hv;subst hvs;have m9:=M8.out.step H.out.st ha9;have SOuk9:=hid (Zbqb SOuk8.out (Zwi H.out.st ha9))
   try clear d0 d1 d2 d3 d4 g0 g1 g2 g3 g4
   obtain⟨d0,d1,d2,d3,d4,g0,g1,g2,g3,g4⟩:=cells5 m9.r1;have SOuk10:=hid (Zbqb SOuk9.out (Zpy (Av:=λb=>b<w.heap.size+2) (a:=⟨w.heap.size+1,4,none⟩) (by simp) (.slice a4 b4 c4)));have STs:=hid (StepsA.keep (Zboh (w:=w) hv M8.out.big) (Zpy (Av:=λb=>b<w.heap.size+2) (a:=⟨w.heap.size+1,4,none⟩) (by simp) (.slice a4 b4 c4)));have m10:SM 37 #[.string ⟨#[]⟩,.slice none 0 0,.slice none 0 0,.slice none 0 0,.slice none 0 0] w _ p v ws s7 #[.string nm,.slice none 0 0,.slice a2 b2 c2,.slice none 0 0,.slice a4 b4 c4]:=m9.set H.out.st 4 (.slice a4 b4 c4);have M10:=hid m10;clear m9 m10 ha9 q9 hv;have q11:=CM.out Zhb _ _ (M10.out.rs H.out)
   go_wp2_with fail
   refine q11.mono ?_;rintro e w11 ⟨rfl,ha11⟩;have m11:=M10.out.step H.out.st ha11;have M11:=hid m11;have SOuk11:=hid (Zbqb SOuk10.out (Zwi H.out.st ha11));have STsk11:=hid (StepsA.keep STs.out (Zwi H.out.st ha11));clear m11 ha11 q11
   try clear d0 d1 d2 d3 d4 g0 g1 g2 g3 g4
   obtain⟨d0,d1,d2,d3,d4,g0,g1,g2,g3,g4⟩:=cells5 M11.out.r1;obtain⟨e0,e1,e2,e3,e4,i0,i1,i2,i3,i4⟩:=cells5 M11.out.r0;go_wp2;refine bodyPost_ret (Zbhl rfl _ _ w.heap.size _ _ _ _ rfl (heap_set _ _ (heap_set _ _ (heap_set _ _ (heap_set _ _ (heap_set _ _ M11.out.r0))))) underlying37 rfl (by kernel_rfl)) rfl ?_;have kF:∀(u0 u1 u2 u3 u4:Value),Fr (λb=>b<w.heap.size+2) w11 (((((w11.setCell ⟨w.heap.size,0,none⟩ u0).setCell ⟨w.heap.size,1,none⟩ u1).setCell ⟨w.heap.size,2,none⟩ u2).setCell ⟨w.heap.size,3,none⟩ u3).setCell ⟨w.heap.size,4,none⟩ u4):=λ_ _ _ _ _=>((((Zpy (by simp) _).trans (Zpy (by simp) _)).trans (Zpy (by simp) _)).trans (Zpy (by simp) _)).trans (Zpy (by simp) _)
   rw[HRES.out];exact⟨⟨_,_,_,_,rfl,Zbqd _ _,Zbqe (Zbqb SOuk11.out (kF _ _ _ _ _)),Zbqd _ _,Zboj (StepsA.keep STsk11.out (kF _ _ _ _ _))⟩,((((M11.out.af.set H.out.st (Nat.le_refl _) _).set H.out.st (Nat.le_refl _) _).set H.out.st (Nat.le_refl _) _).set H.out.st (Nat.le_refl _) _).set H.out.st (Nat.le_refl _) _⟩
  ·go_wp2_with fail
   refine q8.mono ?_;rintro e w8 ⟨rfl,hb8⟩;have ha8:=After.of_below M7.out.af.1 hb8;have m8:=M7.out.step H.out.st ha8;have M8:=hid m8;have SOuk8:=hid (Zbqb SOu.out (Zwi H.out.st ha8));clear m8 ha8 hb8 q8;have e6:=E6.out;rw[Zbdf HKqa.out]at e6;have E6':=hid e6;clear e6;have q9:=CC.out Zvb _ _ (M8.out.rs H.out);rw[E6'.out]at q9
   go_wp2_with fail
   refine q9.mono ?_;rintro e w9 ⟨vv,rfl,hv,ha9⟩;obtain⟨a3,b3,c3,hvs⟩:=Zbig hv;subst hvs;have m9:=M8.out.step H.out.st ha9;have SOuk9:=hid (Zbqb SOuk8.out (Zwi H.out.st ha9))
   try clear d0 d1 d2 d3 d4 g0 g1 g2 g3 g4
   obtain⟨d0,d1,d2,d3,d4,g0,g1,g2,g3,g4⟩:=cells5 m9.r1;have SOuk10:=hid (Zbqb SOuk9.out (Zpy (Av:=λb=>b<w.heap.size+2) (a:=⟨w.heap.size+1,3,none⟩) (by simp) (.slice a3 b3 c3)));have SFa:=hid (Zbqb (Zbqa (w:=w) hv M8.out.big) (Zpy (Av:=λb=>b<w.heap.size+2) (a:=⟨w.heap.size+1,3,none⟩) (by simp) (.slice a3 b3 c3)));have m10:SM 37 #[.string ⟨#[]⟩,.slice none 0 0,.slice none 0 0,.slice none 0 0,.slice none 0 0] w _ p v ws s6 #[.string nm,.slice none 0 0,.slice a2 b2 c2,.slice a3 b3 c3,.slice none 0 0]:=m9.set H.out.st 3 (.slice a3 b3 c3);have M10:=hid m10;clear m9 m10 ha9 q9 hv;have q11:=CS.out _ _ (M10.out.rs H.out);rw[E7.out]at q11
   go_wp2_with fail
   refine q11.mono ?_;rintro e w11 ⟨vv,rfl,hv,ha11⟩;obtain⟨a4,b4,c4,hvs⟩:=Zbol hv;subst hvs;have m11:=M10.out.step H.out.st ha11;have SOuk11:=hid (Zbqb SOuk10.out (Zwi H.out.st ha11));have SFak11:=hid (Zbqb SFa.out (Zwi H.out.st ha11))
   try clear d0 d1 d2 d3 d4 g0 g1 g2 g3 g4
   obtain⟨d0,d1,d2,d3,d4,g0,g1,g2,g3,g4⟩:=cells5 m11.r1;have SOuk12:=hid (Zbqb SOuk11.out (Zpy (Av:=λb=>b<w.heap.size+2) (a:=⟨w.heap.size+1,4,none⟩) (by simp) (.slice a4 b4 c4)));have SFak12:=hid (Zbqb SFak11.out (Zpy (Av:=λb=>b<w.heap.size+2) (a:=⟨w.heap.size+1,4,none⟩) (by simp) (.slice a4 b4 c4)));have STs:=hid (StepsA.keep (Zboh (w:=w) hv M10.out.big) (Zpy (Av:=λb=>b<w.heap.size+2) (a:=⟨w.heap.size+1,4,none⟩) (by simp) (.slice a4 b4 c4)));have m12:SM 37 #[.string ⟨#[]⟩,.slice none 0 0,.slice none 0 0,.slice none 0 0,.slice none 0 0] w _ p v ws s7 #[.string nm,.slice none 0 0,.slice a2 b2 c2,.slice a3 b3 c3,.slice a4 b4 c4]:=m11.set H.out.st 4 (.slice a4 b4 c4);have M12:=hid m12;clear m11 m12 ha11 q11 hv;have q13:=CM.out Zhb _ _ (M12.out.rs H.out)
   go_wp2_with fail
   refine q13.mono ?_;rintro e w13 ⟨rfl,ha13⟩;have m13:=M12.out.step H.out.st ha13;have M13:=hid m13;have SOuk13:=hid (Zbqb SOuk12.out (Zwi H.out.st ha13));have SFak13:=hid (Zbqb SFak12.out (Zwi H.out.st ha13));have STsk13:=hid (StepsA.keep STs.out (Zwi H.out.st ha13));clear m13 ha13 q13
   try clear d0 d1 d2 d3 d4 g0 g1 g2 g3 g4
   obtain⟨d0,d1,d2,d3,d4,g0,g1,g2,g3,g4⟩:=cells5 M13.out.r1;obtain⟨e0,e1,e2,e3,e4,i0,i1,i2,i3,i4⟩:=cells5 M13.out.r0;go_wp2;refine bodyPost_ret (Zbhl rfl _ _ w.heap.size _ _ _ _ rfl (heap_set _ _ (heap_set _ _ (heap_set _ _ (heap_set _ _ (heap_set _ _ M13.out.r0))))) underlying37 rfl (by kernel_rfl)) rfl ?_;have kF:∀(u0 u1 u2 u3 u4:Value),Fr (λb=>b<w.heap.size+2) w13 (((((w13.setCell ⟨w.heap.size,0,none⟩ u0).setCell ⟨w.heap.size,1,none⟩ u1).setCell ⟨w.heap.size,2,none⟩ u2).setCell ⟨w.heap.size,3,none⟩ u3).setCell ⟨w.heap.size,4,none⟩ u4):=λ_ _ _ _ _=>((((Zpy (by simp) _).trans (Zpy (by simp) _)).trans (Zpy (by simp) _)).trans (Zpy (by simp) _)).trans (Zpy (by simp) _)
   rw[HRES.out];exact⟨⟨_,_,_,_,rfl,Zbqd _ _,Zbqe (Zbqb SOuk13.out (kF _ _ _ _ _)),Zbqe (Zbqb SFak13.out (kF _ _ _ _ _)),Zboj (StepsA.keep STsk13.out (kF _ _ _ _ _))⟩,((((M13.out.af.set H.out.st (Nat.le_refl _) _).set H.out.st (Nat.le_refl _) _).set H.out.st (Nat.le_refl _) _).set H.out.st (Nat.le_refl _) _).set H.out.st (Nat.le_refl _) _⟩
 ·go_wp2_with fail
  refine q5.mono ?_;rintro e w5 ⟨rfl,hb5⟩;have ha5:=After.of_below M4.out.af.1 hb5;have m5:=M4.out.step H.out.st ha5;have M5:=hid m5;clear m5 ha5 hb5 q5;have e4:=E4.out;rw[Zbdf HKqi.out]at e4;have E4':=hid e4;clear e4;have q6:=CC.out kIn _ _ (M5.out.rs H.out);rw[E4'.out]at q6
  go_wp2_with fail
  refine q6.mono ?_;rintro e w6 ⟨vv,rfl,hv,ha6⟩;obtain⟨a1,b1,c1,hvs⟩:=Zbig hv;subst hvs;have m6:=M5.out.step H.out.st ha6
  try clear d0 d1 d2 d3 d4 g0 g1 g2 g3 g4
  obtain⟨d0,d1,d2,d3,d4,g0,g1,g2,g3,g4⟩:=cells5 m6.r1;have SIn:=hid (Zbqb (Zbqa (w:=w) hv M5.out.big) (Zpy (Av:=λb=>b<w.heap.size+2) (a:=⟨w.heap.size+1,1,none⟩) (by simp) (.slice a1 b1 c1)));have m7:SM 37 #[.string ⟨#[]⟩,.slice none 0 0,.slice none 0 0,.slice none 0 0,.slice none 0 0] w _ p v ws s4 #[.string nm,.slice a1 b1 c1,.slice none 0 0,.slice none 0 0,.slice none 0 0]:=m6.set H.out.st 1 (.slice a1 b1 c1);have M7:=hid m7;clear m6 m7 ha6 q6 hv;have q8:=CC.out kOut _ _ (M7.out.rs H.out);rw[E5.out]at q8
  go_wp2_with fail
  refine q8.mono ?_;rintro e w8 ⟨vv,rfl,hv,ha8⟩;obtain⟨a2,b2,c2,hvs⟩:=Zbig hv;subst hvs;have m8:=M7.out.step H.out.st ha8;have SInk8:=hid (Zbqb SIn.out (Zwi H.out.st ha8))
  try clear d0 d1 d2 d3 d4 g0 g1 g2 g3 g4
  obtain⟨d0,d1,d2,d3,d4,g0,g1,g2,g3,g4⟩:=cells5 m8.r1;have SInk9:=hid (Zbqb SInk8.out (Zpy (Av:=λb=>b<w.heap.size+2) (a:=⟨w.heap.size+1,2,none⟩) (by simp) (.slice a2 b2 c2)));have SOu:=hid (Zbqb (Zbqa (w:=w) hv M7.out.big) (Zpy (Av:=λb=>b<w.heap.size+2) (a:=⟨w.heap.size+1,2,none⟩) (by simp) (.slice a2 b2 c2)));have m9:SM 37 #[.string ⟨#[]⟩,.slice none 0 0,.slice none 0 0,.slice none 0 0,.slice none 0 0] w _ p v ws s5 #[.string nm,.slice a1 b1 c1,.slice a2 b2 c2,.slice none 0 0,.slice none 0 0]:=m8.set H.out.st 2 (.slice a2 b2 c2);have M9:=hid m9;clear m8 m9 ha8 q8 hv;obtain⟨qa,hqa⟩:∃x,Ztr ws Zvb s5=x:=⟨_,rfl⟩;have q10:=CI.out Zvb _ _ (M9.out.rs H.out);rw[hqa]at q10;have HKqa:=hid hqa;clear hqa
  cases qa
  ·go_wp2_with fail
   refine q10.mono ?_;rintro e w10 ⟨rfl,hb10⟩;have ha10:=After.of_below M9.out.af.1 hb10;have m10:=M9.out.step H.out.st ha10;have M10:=hid m10;have SInk10:=hid (Zbqb SInk9.out (Zwi H.out.st ha10));have SOuk10:=hid (Zbqb SOu.out (Zwi H.out.st ha10));clear m10 ha10 hb10 q10;have e6:=E6.out;rw[Zbde HKqa.out]at e6;injection e6 with e6 e6'
   subst e6 e6';have q11:=CS.out _ _ (M10.out.rs H.out);rw[E7.out]at q11
   go_wp2_with fail
   refine q11.mono ?_;rintro e w11 ⟨vv,rfl,hv,ha11⟩;obtain⟨a4,b4,c4,hvs⟩:=Zbol hv;subst hvs;have m11:=M10.out.step H.out.st ha11;have SInk11:=hid (Zbqb SInk10.out (Zwi H.out.st ha11));have SOuk11:=hid (Zbqb SOuk10.out (Zwi H.out.st ha11))
   try clear d0 d1 d2 d3 d4 g0 g1 g2 g3 g4
   obtain⟨d0,d1,d2,d3,d4,g0,g1,g2,g3,g4⟩:=cells5 m11.r1;have SInk12:=hid (Zbqb SInk11.out (Zpy (Av:=λb=>b<w.heap.size+2) (a:=⟨w.heap.size+1,4,none⟩) (by simp) (.slice a4 b4 c4)));have SOuk12:=hid (Zbqb SOuk11.out (Zpy (Av:=λb=>b<w.heap.size+2) (a:=⟨w.heap.size+1,4,none⟩) (by simp) (.slice a4 b4 c4)));have STs:=hid (StepsA.keep (Zboh (w:=w) hv M10.out.big) (Zpy (Av:=λb=>b<w.heap.size+2) (a:=⟨w.heap.size+1,4,none⟩) (by simp) (.slice a4 b4 c4)));have m12:SM 37 #[.string ⟨#[]⟩,.slice none 0 0,.slice none 0 0,.slice none 0 0,.slice none 0 0] w _ p v ws s7 #[.string nm,.slice a1 b1 c1,.slice a2 b2 c2,.slice none 0 0,.slice a4 b4 c4]:=m11.set H.out.st 4 (.slice a4 b4 c4);have M12:=hid m12;clear m11 m12 ha11 q11 hv;have q13:=CM.out Zhb _ _ (M12.out.rs H.out)
   go_wp2_with fail
   refine q13.mono ?_;rintro e w13 ⟨rfl,ha13⟩;have m13:=M12.out.step H.out.st ha13;have M13:=hid m13;have SInk13:=hid (Zbqb SInk12.out (Zwi H.out.st ha13));have SOuk13:=hid (Zbqb SOuk12.out (Zwi H.out.st ha13));have STsk13:=hid (StepsA.keep STs.out (Zwi H.out.st ha13));clear m13 ha13 q13
   try clear d0 d1 d2 d3 d4 g0 g1 g2 g3 g4
   obtain⟨d0,d1,d2,d3,d4,g0,g1,g2,g3,g4⟩:=cells5 M13.out.r1;obtain⟨e0,e1,e2,e3,e4,i0,i1,i2,i3,i4⟩:=cells5 M13.out.r0;go_wp2;refine bodyPost_ret (Zbhl rfl _ _ w.heap.size _ _ _ _ rfl (heap_set _ _ (heap_set _ _ (heap_set _ _ (heap_set _ _ (heap_set _ _ M13.out.r0))))) underlying37 rfl (by kernel_rfl)) rfl ?_;have kF:∀(u0 u1 u2 u3 u4:Value),Fr (λb=>b<w.heap.size+2) w13 (((((w13.setCell ⟨w.heap.size,0,none⟩ u0).setCell ⟨w.heap.size,1,none⟩ u1).setCell ⟨w.heap.size,2,none⟩ u2).setCell ⟨w.heap.size,3,none⟩ u3).setCell ⟨w.heap.size,4,none⟩ u4):=λ_ _ _ _ _=>((((Zpy (by simp) _).trans (Zpy (by simp) _)).trans (Zpy (by simp) _)).trans (Zpy (by simp) _)).trans (Zpy (by simp) _)
   rw[HRES.out];exact⟨⟨_,_,_,_,rfl,Zbqe (Zbqb SInk13.out (kF _ _ _ _ _)),Zbqe (Zbqb SOuk13.out (kF _ _ _ _ _)),Zbqd _ _,Zboj (StepsA.keep STsk13.out (kF _ _ _ _ _))⟩,((((M13.out.af.set H.out.st (Nat.le_refl _) _).set H.out.st (Nat.le_refl _) _).set H.out.st (Nat.le_refl _) _).set H.out.st (Nat.le_refl _) _).set H.out.st (Nat.le_refl _) _⟩
  ·go_wp2_with fail
   refine q10.mono ?_;rintro e w10 ⟨rfl,hb10⟩;have ha10:=After.of_below M9.out.af.1 hb10;have m10:=M9.out.step H.out.st ha10;have M10:=hid m10;have SInk10:=hid (Zbqb SInk9.out (Zwi H.out.st ha10));have SOuk10:=hid (Zbqb SOu.out (Zwi H.out.st ha10));clear m10 ha10 hb10 q10;have e6:=E6.out;rw[Zbdf HKqa.out]at e6;have E6':=hid e6;clear e6;have q11:=CC.out Zvb _ _ (M10.out.rs H.out);rw[E6'.out]at q11
   go_wp2_with fail
   refine q11.mono ?_;rintro e w11 ⟨vv,rfl,hv,ha11⟩;obtain⟨a3,b3,c3,hvs⟩:=Zbig hv;subst hvs;have m11:=M10.out.step H.out.st ha11;have SInk11:=hid (Zbqb SInk10.out (Zwi H.out.st ha11));have SOuk11:=hid (Zbqb SOuk10.out (Zwi H.out.st ha11))
   try clear d0 d1 d2 d3 d4 g0 g1 g2 g3 g4
   obtain⟨d0,d1,d2,d3,d4,g0,g1,g2,g3,g4⟩:=cells5 m11.r1;have SInk12:=hid (Zbqb SInk11.out (Zpy (Av:=λb=>b<w.heap.size+2) (a:=⟨w.heap.size+1,3,none⟩) (by simp) (.slice a3 b3 c3)));have SOuk12:=hid (Zbqb SOuk11.out (Zpy (Av:=λb=>b<w.heap.size+2) (a:=⟨w.heap.size+1,3,none⟩) (by simp) (.slice a3 b3 c3)));have SFa:=hid (Zbqb (Zbqa (w:=w) hv M10.out.big) (Zpy (Av:=λb=>b<w.heap.size+2) (a:=⟨w.heap.size+1,3,none⟩) (by simp) (.slice a3 b3 c3)));have m12:SM 37 #[.string ⟨#[]⟩,.slice none 0 0,.slice none 0 0,.slice none 0 0,.slice none 0 0] w _ p v ws s6 #[.string nm,.slice a1 b1 c1,.slice a2 b2 c2,.slice a3 b3 c3,.slice none 0 0]:=m11.set H.out.st 3 (.slice a3 b3 c3);have M12:=hid m12;clear m11 m12 ha11 q11 hv;have q13:=CS.out _ _ (M12.out.rs H.out);rw[E7.out]at q13
   go_wp2_with fail
   refine q13.mono ?_;rintro e w13 ⟨vv,rfl,hv,ha13⟩;obtain⟨a4,b4,c4,hvs⟩:=Zbol hv;subst hvs;have m13:=M12.out.step H.out.st ha13;have SInk13:=hid (Zbqb SInk12.out (Zwi H.out.st ha13));have SOuk13:=hid (Zbqb SOuk12.out (Zwi H.out.st ha13));have SFak13:=hid (Zbqb SFa.out (Zwi H.out.st ha13))
   try clear d0 d1 d2 d3 d4 g0 g1 g2 g3 g4
   obtain⟨d0,d1,d2,d3,d4,g0,g1,g2,g3,g4⟩:=cells5 m13.r1;have SInk14:=hid (Zbqb SInk13.out (Zpy (Av:=λb=>b<w.heap.size+2) (a:=⟨w.heap.size+1,4,none⟩) (by simp) (.slice a4 b4 c4)));have SOuk14:=hid (Zbqb SOuk13.out (Zpy (Av:=λb=>b<w.heap.size+2) (a:=⟨w.heap.size+1,4,none⟩) (by simp) (.slice a4 b4 c4)));have SFak14:=hid (Zbqb SFak13.out (Zpy (Av:=λb=>b<w.heap.size+2) (a:=⟨w.heap.size+1,4,none⟩) (by simp) (.slice a4 b4 c4)));have STs:=hid (StepsA.keep (Zboh (w:=w) hv M12.out.big) (Zpy (Av:=λb=>b<w.heap.size+2) (a:=⟨w.heap.size+1,4,none⟩) (by simp) (.slice a4 b4 c4)));have m14:SM 37 #[.string ⟨#[]⟩,.slice none 0 0,.slice none 0 0,.slice none 0 0,.slice none 0 0] w _ p v ws s7 #[.string nm,.slice a1 b1 c1,.slice a2 b2 c2,.slice a3 b3 c3,.slice a4 b4 c4]:=m13.set H.out.st 4 (.slice a4 b4 c4);have M14:=hid m14;clear m13 m14 ha13 q13 hv;have q15:=CM.out Zhb _ _ (M14.out.rs H.out)
   go_wp2_with fail
   refine q15.mono ?_;rintro e w15 ⟨rfl,ha15⟩;have m15:=M14.out.step H.out.st ha15;have M15:=hid m15;have SInk15:=hid (Zbqb SInk14.out (Zwi H.out.st ha15));have SOuk15:=hid (Zbqb SOuk14.out (Zwi H.out.st ha15));have SFak15:=hid (Zbqb SFak14.out (Zwi H.out.st ha15));have STsk15:=hid (StepsA.keep STs.out (Zwi H.out.st ha15));clear m15 ha15 q15
   try clear d0 d1 d2 d3 d4 g0 g1 g2 g3 g4
   obtain⟨d0,d1,d2,d3,d4,g0,g1,g2,g3,g4⟩:=cells5 M15.out.r1;obtain⟨e0,e1,e2,e3,e4,i0,i1,i2,i3,i4⟩:=cells5 M15.out.r0;go_wp2;refine bodyPost_ret (Zbhl rfl _ _ w.heap.size _ _ _ _ rfl (heap_set _ _ (heap_set _ _ (heap_set _ _ (heap_set _ _ (heap_set _ _ M15.out.r0))))) underlying37 rfl (by kernel_rfl)) rfl ?_;have kF:∀(u0 u1 u2 u3 u4:Value),Fr (λb=>b<w.heap.size+2) w15 (((((w15.setCell ⟨w.heap.size,0,none⟩ u0).setCell ⟨w.heap.size,1,none⟩ u1).setCell ⟨w.heap.size,2,none⟩ u2).setCell ⟨w.heap.size,3,none⟩ u3).setCell ⟨w.heap.size,4,none⟩ u4):=λ_ _ _ _ _=>((((Zpy (by simp) _).trans (Zpy (by simp) _)).trans (Zpy (by simp) _)).trans (Zpy (by simp) _)).trans (Zpy (by simp) _)
   rw[HRES.out];exact⟨⟨_,_,_,_,rfl,Zbqe (Zbqb SInk15.out (kF _ _ _ _ _)),Zbqe (Zbqb SOuk15.out (kF _ _ _ _ _)),Zbqe (Zbqb SFak15.out (kF _ _ _ _ _)),Zboj (StepsA.keep STsk15.out (kF _ _ _ _ _))⟩,((((M15.out.af.set H.out.st (Nat.le_refl _) _).set H.out.st (Nat.le_refl _) _).set H.out.st (Nat.le_refl _) _).set H.out.st (Nat.le_refl _) _).set H.out.st (Nat.le_refl _) _⟩
end Go.Proofs.YtcpjfpdecklkgaaGreatDoor
