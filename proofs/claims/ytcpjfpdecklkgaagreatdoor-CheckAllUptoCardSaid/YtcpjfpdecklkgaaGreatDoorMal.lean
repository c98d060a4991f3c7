import Derived.Test.YtcpjfpdecklkgaaGreatDoorMak
import Derived.Laws.AppendOwn
import Derived.OwnWalk
import Derived.Lib.Join
namespace Go.Proofs.YtcpjfpdecklkgaaGreatDoor
open Go.Lib (hid)
open Go.Proofs.Tryz
open Go.RowKit
theorem Zbrc (ws:List Zcj) (b:Bool) {s:PS} (h:s.2=true):(Zbqz ws b s).2.2=true:=by rw[Zbrf (.inl h)]
theorem Zzs (ws:List Zcj) {s:PS} (h:s.2=true):(Zzr ws s).2.2=true:=Zbrc ws _ h
theorem Zyn (ws:List Zcj) (c:ByteArray) {s:PS} (h:s.2=true):(Zyk ws c s).2=true:=Zbrc ws _ h
theorem Zwo (ws:List Zcj) (c:ByteArray) {s:PS} (h:s.2=true):(keyP ws c s).2=true:=Zbrc ws _ h
theorem Zzn (ws:List Zcj):∀(f:Nat) (acc:List ByteArray) {s:PS},s.2=true->(Zzj ws f acc s).2.2=true
 | 0,_,_,h=>h
 | f+1,acc,s,h=>by rw[Zzl (.inl h)];exact h
theorem Zbpd (ws:List Zcj):∀(f:Nat) (acc:List StepS) {s:PS},s.2=true->(Zbop ws f acc s).2.2=true
 | 0,_,_,h=>h
 | f+1,acc,s,h=>by rw[Zbor (.inl h)];exact h
theorem Zje (ws:List Zcj) (key:ByteArray) {s:PS} (h:s.2=true):(Zjb ws key s).2.2=true:=
 Zyn ws Zhl (Zzn ws _ _ (Zzs ws (Zwo ws key h)))
theorem Zbdc (ws:List Zcj) (key:ByteArray) {s:PS} (h:s.2=true):(optP ws key s).2.2=true:=by
 unfold optP;split
 ·exact Zje ws key h
 ·exact h
theorem Zbjf (ws:List Zcj) {s:PS} (h:(keyP ws Zvc s).2=true):(Zbiw ws s).2.2=true:=
 Zyn ws Zhb (Zbpd ws _ _ (Zbdc ws Zvb (Zje ws kOut (Zbdc ws kIn (Zyn ws Zhj (Zzs ws h))))))
theorem Zzo (ws:List Zcj):∀(f:Nat) (acc:List ByteArray) (s:PS),s.1<=(Zzj ws f acc s).2.1
 | 0,_,_=>Nat.le_refl _
 | f+1,acc,s=>by
  unfold Zzj;split
  ·exact Nat.le_trans (Zyo ws Zhc s) (Nat.le_trans (Zzt ws _) (Zzo ws f _ _))
  ·exact Nat.le_refl _
theorem Zbpe (ws:List Zcj):∀(f:Nat) (acc:List StepS) (s:PS),s.1<=(Zbop ws f acc s).2.1
 | 0,_,_=>Nat.le_refl _
 | f+1,acc,s=>by
  unfold Zbop;split
  ·exact Nat.le_trans (Nat.le_trans (Zzt ws s) (Zboe ws s)) (Zbpe ws f _ _)
  ·exact Nat.le_refl _
theorem Zjf (ws:List Zcj) (key:ByteArray) (s:PS):s.1<=(Zjb ws key s).2.1:=
 Nat.le_trans (Zwp ws key s) (Nat.le_trans (Zzt ws _) (Nat.le_trans (Zzo ws _ _ _) (Zyo ws Zhl _)))
theorem Zbdd (ws:List Zcj) (key:ByteArray) (s:PS):s.1<=(optP ws key s).2.1:=by
 unfold optP;split
 ·exact Zjf ws key s
 ·exact Nat.le_refl _
theorem Zbjg (ws:List Zcj) (s:PS):(keyP ws Zvc s).1<=(Zbiw ws s).2.1:=
 Nat.le_trans (Zzt ws _) (Nat.le_trans (Zyo ws Zhj _) (Nat.le_trans (Zbdd ws kIn _) (Nat.le_trans (Zjf ws kOut _) (Nat.le_trans (Zbdd ws Zvb _) (Nat.le_trans (Zbpe ws _ _ _) (Zyo ws Zhb _))))))
def Zwz (ws:List Zcj) (s:PS):Nat:=2*(ws.length-s.1)+(if s.2 then 0 else 1)
theorem Zbjh (ws:List Zcj) (s:PS) (h:s.2=false) (hl:s.1<ws.length):Zwz ws (Zbiw ws s).2<Zwz ws s/\s.1+1<=(Zbiw ws s).2.1+(if (Zbiw ws s).2.2 then 1 else 0):=by
 have hge:=Zbjg ws s
 cases hk:Ztr ws Zvc s with
 | true=>
  have:(keyP ws Zvc s).1=s.1+1:=by unfold keyP;rw[Zbrg h hk]
  refine⟨?_,by omega⟩;unfold Zwz;rw[h];simp only[Bool.false_eq_true,if_false];split<;>omega
 | false=>
  have hf:(keyP ws Zvc s).2=true:=by unfold keyP;rw[Zbrf (.inr hk)]
  have hg:s.1<=(keyP ws Zvc s).1:=Zwp ws Zvc s;have hr:=Zbjf ws hf;refine⟨?_,by rw[hr,if_pos rfl];omega⟩;unfold Zwz;rw[h,hr];simp only[Bool.false_eq_true,if_false,if_true];omega
theorem Zbjk {ws:List Zcj} {f:Nat} {acc:List RuleS} {s:PS} (h0:s.2=false) (h1:Ztp ws s=false):Zbjj ws (f+1) acc s=Zbjj ws f (acc ++ [(Zbiw ws s).1]) (Zbiw ws s).2:=by
 simp[Zbjj,h0,h1]
theorem Zbjl {ws:List Zcj} {f:Nat} {acc:List RuleS} {s:PS} (h:s.2=true∨Ztp ws s=true):Zbjj ws (f+1) acc s=(acc,s):=by
 rcases h with h|h<;>simp[Zbjj,h]
def Znh (w:World) (p:Nat):Nat:=match w.cell? ⟨p,2,none⟩with
 | some (.bool true)=>0
 | _=>1
theorem PSt.left {w:World} {p:Nat} {v:Value} {ws:List Zcj} {s:PS} (h:PSt w p v ws s):2*(ws.length-Zbfk w p)+Znh w p=Zwz ws s:=by
 rw[h.pos];unfold Znh Zwz;rw[h.cells.2.2.1]
 cases s.2<;>rfl
theorem RuleA.len {Av:Nat->Prop} {w:World} {r:List Value} {x:RuleS} (h:RuleA Av w r x):r.length=5:=by obtain⟨vi,vo,vf,vs,rfl,_⟩:=h;rfl
theorem RuleA.keep {Av:Nat->Prop} {w w':World} {r:List Value} {x:RuleS} (h:RuleA Av w r x) (hf:Fr Av w w'):RuleA Av w' r x:=by
 obtain⟨vi,vo,vf,vs,rfl,h1,h2,h3,h4⟩:=h;exact⟨vi,vo,vf,vs,rfl,RowA.keep h1 hf,RowA.keep h2 hf,RowA.keep h3 hf,h4.keep hf⟩
theorem RuleA.mono {Av Av':Nat->Prop} {w:World} {r:List Value} {x:RuleS} (h:RuleA Av w r x) (hm:∀b,b<w.heap.size->Av' b->Av b):RuleA Av' w r x:=by
 obtain⟨vi,vo,vf,vs,rfl,h1,h2,h3,h4⟩:=h;exact⟨vi,vo,vf,vs,rfl,RowA.mono h1 hm,RowA.mono h2 hm,RowA.mono h3 hm,h4.mono hm⟩
def RulesA (Av:Nat->Prop) (w:World) (v:Value) (xs:List RuleS):Prop:=∃rows,RowA Av w v 5 rows/\AllA (RuleA Av w) rows xs
theorem RulesA.keep {Av:Nat->Prop} {w w':World} {v:Value} {xs:List RuleS} (h:RulesA Av w v xs) (hf:Fr Av w w'):RulesA Av w' v xs:=by
 obtain⟨rows,h1,h2⟩:=h;exact⟨rows,h1.keep hf,h2.imp λr x h=>h.keep hf⟩
theorem RulesA.mono {Av Av':Nat->Prop} {w:World} {v:Value} {xs:List RuleS} (h:RulesA Av w v xs) (hm:∀b,b<w.heap.size->Av' b->Av b):RulesA Av' w v xs:=by
 obtain⟨rows,h1,h2⟩:=h;exact⟨rows,h1.mono hm,h2.imp λr x h=>h.mono hm⟩
theorem Zqx {W w5:World} {B:Nat} {vv v':Value} {rows:List (List Value)} {xs:List RuleS} (h:AllA (λr x=>RuleA (AvOf B vv) W r x) rows xs) (hg:W.grownBy w5 vv.ownBlock) (hv:∀b,v'.ownBlock=some b->vv.ownBlock=some b∨W.heap.size<=b):
  AllA (RuleA (AvOf B v') w5) rows xs:=by
 refine h.imp λr x hx=>?_
 have h1:RuleA (λb=>AvOf B vv b∨W.heap.size<=b) W r x:=hx.mono λb hb e=>by
  rcases e with e|e
  ·exact e
  ·omega
 refine(h1.keep (Zpx hg λk e=> .inl (.inr e))).mono λb _ e=>?_
 rcases e with e|e
 ·exact .inl (.inl e)
 ·rcases hv b e with e|e
  ·exact .inl (.inr e)
  ·exact .inr e
theorem Zsw:(prog.info? 37).map (λi=>(i.zero,i.size,i.bytes))=some (some (.agg #[.string ByteArray.empty,.slice none 0 0,.slice none 0 0,.slice none 0 0,.slice none 0 0]),5,112):=by kernel_rfl
theorem Znk {ws:List Zcj} {s:PS} {n:Nat} (h:n<=s.1+(if s.2 then 1 else 0)) (hl:s.1<ws.length):n<=ws.length:=by
 split at h<;>omega
set_option maxHeartbeats 4000000 in
set_option maxRecDepth 100000 in
theorem Zbep (p:Nat) (v:Value) (ws:List Zcj) (s:PS) (w:World) (h:RS w p v ws s):
  Calls prog 125 #[.pointer (some ⟨p,0,none⟩)] w λe w'=>∃vv,e = .returned vv/\RulesA (λb=>b<w.heap.size) w' vv (Zbjo ws s).1/\After w w' p v ws (Zbjo ws s).2:=by
 obtain⟨i0,hi,hz0,hz1,hz2⟩:=Zsv Zsw;obtain⟨R,hR⟩:∃R,Zbjo ws s=R:=⟨_,rfl⟩;have H:=hid h;have HR:=hid hR;rw[hR];have hfew:=h.few;have hpl:=h.st.p_lt;clear hR h
 go_enter func125,ntmps125
 go_wp2
 go_loopw [3] (λvv wr=>∃(f:Nat) (acc:List RuleS) (rows:List (List Value)) (s':PS),Zwz ws s'<f/\Zbjj ws f acc s'=R/\acc.length<=s'.1+(if s'.2 then 1 else 0)/\wr.ownsRow w.heap.size 37 5 vv rows.length rows.flatten/\AllA (RuleA (AvOf w.heap.size vv) wr) rows acc/\After w wr p v ws s')
  (λ_ wr=>2*(ws.length-Zbfk wr p)+Znh wr p)
 case atStart=>exact⟨2*ws.length+2,[],[],s,by unfold Zwz;split<;>omega,HR.out,by simp,⟨rfl,.inl ⟨rfl,rfl⟩⟩,AllA.nil _,After.refl H.out.st⟩
 case round=>
  obtain⟨f,acc,rows,s',hf,hj,hal,hown,hall,ha⟩:=hrel;obtain⟨f,rfl⟩:∃g,f=g+1:=⟨f-1,by omega⟩;have HA:=hid ha;have HJ:=hid hj;have HO:=hid hown;have HL:=hid hall;have HF:=hid hf;have hrl:=hall.1;have hacc:=Znk hal ha.1.lt;have HAL:=hid hal;have hrs:=H.out.after ha;obtain⟨c0,c1,c2,f0,f1,f2⟩:=ha.1.cells;have cI:=Zbee p v ws s' wr hrs.st;have CN:Hid (∀w',Below wr.heap.size wr w'->Calls prog 172 #[.pointer (some ⟨p,0,none⟩)] w' λe w''=>Zbu w' w'' (Zbiw ws s').1 e/\After w' w'' p v ws (Zbiw ws s').2):=
   λw' hb=>Zbeo p v ws s' w' (hrs.below hb)
  have hsz:=ha.2.size;have HLT:=hid ha.1.lt;obtain⟨k,fl⟩:=s';clear ha hj hown hrs c0 f0 hall hf hal
  cases fl
  ·obtain⟨q,hq⟩:∃q,Ztp ws (k,false)=q:=⟨_,rfl⟩
   rw[hq]at cI;have HQ:=hid hq;clear hq
   cases q
   ·have hres:=HJ.out
    rw[Zbjk rfl HQ.out]at hres;obtain⟨hless,hadv⟩:=Zbjh ws (k,false) rfl HLT.out;obtain⟨y,hy⟩:∃y,Zbiw ws (k,false)=y:=⟨_,rfl⟩;rw[hy]at hres hless hadv CN;obtain⟨x,s2⟩:=y;have HRES:=hid hres;have HLESS:=hid hless;have HADV:=hid hadv;clear hres hadv hless hy;simp only at CN HRES HLESS HADV
    go_wp2_with fail
    refine cI.mono ?_;rintro e w2 ⟨rfl,hb2⟩;have cN2:=CN.out w2 hb2;have HB2:=hid hb2;clear hb2 cI
    go_wp2_with fail
    refine cN2.mono ?_;rintro e w3 ⟨⟨vi,vo,vf,vs,rfl,hvi,hvo,hvf,hvs⟩,ha3⟩;obtain⟨a1,a2,a3,e1⟩:=Zbig hvi;subst e1;obtain⟨b1,b2,b3,e1⟩:=Zbig hvo;subst e1;obtain⟨d1,d2,d3,e1⟩:=Zbig hvf;subst e1;obtain⟨l1,l2,l3,e1⟩:=Zbol hvs;subst e1;have hA3:=(HA.out.trans (After.of_below HA.out.1 HB2.out)).trans ha3;have hO3:=Zbdm (Zbdm HO.out (Zpv HB2.out) hpl) ha3.2 hpl;have hlt3:=λb (hb:_=some b)=>(HO.out.lt b hb).2
    have hL3:=(HL.out.imp λr' x' h=>(h.keep (Zpv (Av:=AvOf w.heap.size _) HB2.out)).keep (ha3.2.mono λb _ e=> .inl (by rw[e];exact hpl))).snoc (r:=[.string x.name,.slice a1 a2 a3,.slice b1 b2 b3,.slice d1 d2 d3,.slice l1 l2 l3]) (x:=x)
     (RuleA.mono (Av:=λb=>b<w2.heap.size) ⟨_,_,_,_,rfl,hvi,hvo,hvf,hvs⟩ λb _ e=>by
      have h2:=HB2.out.size
      rcases e with e|e
      ·omega
      ·have:=hlt3 b e;omega)
    have HO3:=hid hO3;have HL3:=hid (hL3.imp λr' x' h=>h.keep (Zpu _ _ (.cells #[.string x.name,.slice a1 a2 a3,.slice b1 b2 b3,.slice d1 d2 d3,.slice l1 l2 l3] 37)));have HA3:=hid hA3;have hs3:=hA3.2.size;clear ha3 hA3 cN2 hvi hvo hvf hvs hO3 hL3 hlt3
    go_wp2_with (at_builtin;refine Zbue _ rfl _ _ 22 rfl w.heap.size 37 i0 (.agg #[.string ByteArray.empty,.slice none 0 0,.slice none 0 0,.slice none 0 0,.slice none 0 0]) 5 112 underlying22 hi hz0 hz1 hz2 rfl (by decide) _ _ _ rfl (HO3.out.alloc _) ⟨w3.heap.size,0,none⟩ 1 1 [.string x.name,.slice a1 a2 a3,.slice b1 b2 b3,.slice d1 d2 d3,.slice l1 l2 l3] rfl rfl ?c1 ?c2 (by decide) ?c3 ?c4 ?c5 ?_)
    case c1=>
     intro j u hj
     match j,hj with
     | 0,hj=>simp at hj;subst hj;simp[Addr.add]
     | 1,hj=>simp at hj;subst hj;simp[Addr.add]
     | 2,hj=>simp at hj;subst hj;simp[Addr.add]
     | 3,hj=>simp at hj;subst hj;simp[Addr.add]
     | 4,hj=>simp at hj;subst hj;simp[Addr.add]
    case c2=>intro u hu;simp at hu;rcases hu with rfl|rfl|rfl|rfl|rfl<;>rfl
    case c3=>unfold maxLen;omega
    case c4=>omega
    case c5=>simp;omega
    intro v' w4 hown' hgrow hnew;have hA4:=(HA3.out.alloc (.cells #[.string x.name,.slice a1 a2 a3,.slice b1 b2 b3,.slice d1 d2 d3,.slice l1 l2 l3] 37)).grown H.out.st hgrow (λb hb=>(HO3.out.lt b hb).1);have hL4:=Zqx (B:=w.heap.size) (v':=v') HL3.out hgrow (λb hb=>by simpa using hnew b hb);have HO4:Hid (w4.ownsRow w.heap.size 37 5 v' (rows ++ [([.string x.name,.slice a1 a2 a3,.slice b1 b2 b3,.slice d1 d2 d3,.slice l1 l2 l3]:List Value)]).length (rows ++ [([.string x.name,.slice a1 a2 a3,.slice b1 b2 b3,.slice d1 d2 d3,.slice l1 l2 l3]:List Value)]).flatten):=by
     show w4.ownsRow _ _ _ _ _ _;rw[List.length_append,List.flatten_append];simpa[hrl]using hown'
    have HA4:=hid hA4;have HL4:=hid hL4;clear hgrow hown' hA4 hL4 hnew;go_wp2;go_roundw
    case rel=>
     refine⟨f,acc ++ [x],_,s2,by have:=HLESS.out;have:=HF.out;omega,HRES.out,?_,HO4.out,HL4.out,HA4.out⟩;have h2:acc.length<=k+0:=HAL.out;rw[List.length_append];simp only[List.length_cons,List.length_nil];have h3:k+1<=s2.1+(if s2.2 then 1 else 0):=HADV.out;omega
    case measure=>rw[HA4.out.1.left,HA.out.1.left];exact HLESS.out
   ·have hres:=HJ.out
    rw[Zbjl (.inr HQ.out)]at hres;have HRES:=hid hres;clear hres
    go_wp2_with fail
    refine cI.mono ?_;rintro e w2 ⟨rfl,hb2⟩;go_wp2;go_ret;refine⟨_,rfl,?_,by rw[<-HRES.out];exact HA.out.trans (After.of_below HA.out.1 hb2)⟩;rw[<-HRES.out];have hl2:=HL.out.imp λr x h=>h.keep (Zpv (Av:=AvOf w.heap.size _) hb2)
    exact⟨rows,Zbif (Zbdm HO.out (p:=p) (Zpv hb2) hpl) (HL.out.len λr x h=>h.len),hl2.imp λr x h=>h.mono λb _ e=> .inl e⟩
  ·have hres:=HJ.out
   rw[Zbjl (.inl rfl)]at hres;have HRES:=hid hres;clear hres cI;go_wp2;go_ret;refine⟨_,rfl,?_,by rw[<-HRES.out];exact HA.out⟩;rw[<-HRES.out];exact⟨rows,Zbif HO.out (HL.out.len λr x h=>h.len),HL.out.imp λr x h=>h.mono λb _ e=> .inl e⟩
open Go.Shelf
theorem Zih {w:World} {b:Nat} {x y:Value} {T:TypeId} (h:w.heap[b]? =some (.cells #[x,y] T)):
  w.cell? ⟨b,0,none⟩=some x/\w.cell? ⟨b,1,none⟩=some y/\w.frozen? ⟨b,0,none⟩=false/\w.frozen? ⟨b,1,none⟩=false:=by
 simp[World.cell?,World.frozen?,h]
set_option maxHeartbeats 4000000 in
set_option maxRecDepth 100000 in
theorem Zxb (s:ByteArray) (w:World) (hs:s.size<=1048576):
  Calls prog 72 #[.string s] w λe w'=>AllE s.data.toList e w'/\Below w.heap.size w w':=by
 obtain⟨L,hL⟩:∃L,s.data.toList=L:=⟨_,rfl⟩;have hsz:s.size=L.length:=by rw[<-hL];exact Lib.size_eq s
 rw[hL];obtain⟨i0,hi,hz0,hz1,hz2⟩:=Zsv Zsz;have CSK:Hid (∀k:Nat,k<=s.size->∀w,Calls prog 123 #[.string s,.int .i64 k] w λe w'=>e = .returned (.int .i64 (k+Zbld false (L.drop k):Nat))/\w=w'):=by
  show ∀k:Nat,_;intro k hk w;have:=Zbla s k w (by unfold maxLen;omega) hk
  rwa [hL]at this
 have CWO:Hid (∀k:Nat,k<s.size->∀w,Calls prog 124 #[.string s,.int .i64 k] w λe w'=>Zci L k e/\Below w.heap.size w w'):=by
  show ∀k:Nat,_;intro k hk w;have:=Zbtb s k w (by omega) hk
  rwa [hL]at this
 have HSZ:=hid hsz;have c0:=CSK.out 0 (by omega);obtain⟨k0,hk0⟩:∃k0,0+Zbld false (L.drop 0)=k0:=⟨_,rfl⟩;simp only[hk0]at c0;have C0:=hid c0;have hk0':Zbld false L=k0:=by rw[<-hk0];simp
 have hle0:k0<=s.size:=by have:=Zblh L false;omega
 have hst:Zuu [] (allF (L.length+1) k0 (L.drop k0))=allS L:=by
  rw[Zuw];unfold allS
  rcases Zcw (L.length+1) 0 L with h|h
  ·rw[h,hk0',Nat.zero_add]
  ·omega
 have h00:Zbld false (L.drop k0)=0:=by rw[<-hk0'];exact Zblf L false
 have HST:=hid hst;have H00:=hid h00;clear hL hsz c0 hk0 hk0' hst h00
 go_enter func72,ntmps72
 go_wp2_with fail
 refine(C0.out _).mono ?_;rintro e w2 ⟨rfl,rfl⟩;go_wp2
 go_loopw [4,5] (λv i wr=>∃(k f:Nat) (ws:List Zcj),i = .int .i64 k/\k<=s.size/\ws.length<=k/\s.size-k<f/\Zbld false (L.drop k)=0/\Zuu ws (allF f k (L.drop k))=allS L/\
   wr.ownsRow (w.heap.size+1) 116 3 v (Zbtf ws).length (Zbtf ws).flatten/\wr.heap[w.heap.size]? =some (.cells #[.int .i64 0,.int .i64 0] 110)/\Below w.heap.size w wr/\w.heap.size+1<=wr.heap.size)
  (λ_ i _=>s.size-(intOf i).toNat)
 case atStart=>exact⟨k0,L.length+1,[],rfl,hle0,by simp,by have:=HSZ.out;omega,H00.out,HST.out,⟨by simp[Zbtf],.inl ⟨rfl,rfl⟩⟩,alloc_at w _,(Below.refl _ _).alloc (Nat.le_refl _) _,by simp⟩
 case round=>
  obtain⟨k,f,ws,rfl,hk,hwl,hf,hz,hj,hown,herr,hnx,hsz1⟩:=hrel;obtain⟨f,rfl⟩:∃g,f=g+1:=⟨f-1,by omega⟩;have HJ:=hid hj;have HZ:=hid hz;have HERR:=hid herr;clear hj hz herr
  by_cases hlt:k<s.size
  ·have cW:=CWO.out k hlt wr
   have hne:L.drop k≠[]:=by
    intro e;have:=congrArg List.length e;rw[List.length_drop,<-HSZ.out]at this;simp at this;omega
   have HNE:=hid hne;clear hne;unfold Zci at cW
   cases hW:Zbtj (L.drop k)with
   | none=>
    rw[hW]at cW;simp only at cW;have hbad:=HJ.out;rw[Zdb HNE.out HZ.out hW]at hbad;have HBAD:=hid hbad.symm;clear hbad hW
    go_wp2_with fail
    refine cW.mono ?_;rintro e w2 ⟨⟨a,b,c,n,rfl⟩,hb2⟩;have herr2:w2.heap[w.heap.size]? =some (.cells #[.int .i64 0,.int .i64 0] 110):=by rw[hb2.block _ (by omega)];exact HERR.out
    have herr3:(w2.alloc (.cells #[.int .i64 a,.int .i64 b,.string c] 116)).heap[w.heap.size]? =some (.cells #[.int .i64 0,.int .i64 0] 110):=by
     rw[Below.heap_alloc _ _ _ (by have:=hb2.size;omega)];exact herr2
    obtain⟨e0,e1,f0,f1⟩:=Zih herr3;have hs2:=hb2.size;have HE3:=hid herr3;have HB2:=hid hb2;clear herr2 herr3 hb2 cW hown;go_wp2;refine bodyPost_ret (Zbhn rfl _ _ w.heap.size _ _ _ _ rfl (heap_set _ _ (heap_set _ _ HE3.out)) underlying110 rfl (by kernel_rfl)) rfl ?_;have h1:=hnx.trans (HB2.out.mono hnx.size);exact⟨Zct HBAD.out rfl,((h1.alloc h1.size _).setCell (Nat.le_refl _) _).setCell (Nat.le_refl _) _⟩
   | some x=>
    obtain⟨kd,t,n⟩:=x;rw[hW]at cW;simp only at cW;have hpos:=Zbto hW;rw[List.length_drop,<-HSZ.out]at hpos;obtain⟨g,rfl⟩:∃g,f=g+1:=⟨f-1,by omega⟩;obtain⟨k',hk'⟩:∃k',k+n+Zbld false (L.drop (k+n))=k':=⟨_,rfl⟩;have hk'2:k'<=s.size:=by have:=Zblh (L.drop (k+n)) false;rw[List.length_drop,<-HSZ.out]at this;omega
    have hj':Zuu (ws ++ [(kd,k,t)]) (allF (g+1) k' (L.drop k'))=allS L:=by
     rw[<-HJ.out,Zdh HNE.out HZ.out hW,Zuv,List.drop_drop]
     rcases Zcw (g+1) (k+n) (L.drop (k+n))with h|h
     ·rw[h,List.drop_drop,hk']
     ·omega
    have hz':Zbld false (L.drop k')=0:=by rw[<-hk',<-List.drop_drop];exact Zblf _ false
    have cS:=CSK.out (k+n) (by omega);simp only[hk']at cS;have CS:=hid cS;have HJ2:=hid hj';have HZ2:=hid hz';have hkk:k+n<=k':=by omega
    clear hj' hz' cS hk' hW
    go_wp2_with fail
    refine cW.mono ?_;rintro e w2 ⟨rfl,hb2⟩;have hown2:w2.ownsRow (w.heap.size+1) 116 3 _ (Zbtf ws).length (Zbtf ws).flatten:=hown.kept (row:=none) ⟨hb2.os,hb2.tape,hb2.output,hb2.size,λg hg _=>hb2.block g hg⟩ (by cases h:Value.ownBlock _<;>simp);have herr2:w2.heap[w.heap.size]? =some (.cells #[.int .i64 0,.int .i64 0] 110):=by rw[hb2.block _ (by omega)];exact HERR.out
    have hnx2:=hnx.trans (hb2.mono hnx.size);have hs2:=hb2.size;have HE2:=hid herr2;have HO2:=hid hown2;clear herr2 hown2 hown hb2 cW;have hrl:=Zbti ws
    go_wp2_with (at_builtin;refine wpList_append_own _ rfl _ _ 108 rfl (w.heap.size+1) 116 i0 (.agg #[.int .i64 0,.int .i64 0,.string ByteArray.empty]) 3 32 underlying108 hi hz0 hz1 hz2 rfl (by decide) _ _ _ rfl ((HO2.out.alloc _).alloc _) ⟨w2.heap.size+1,0,none⟩ 1 1 (Zbte (kd,k,t)) rfl rfl ?c1 ?c2 ?c3 ?c4 ?c5 ?_)
    case c1=>
     intro j u hj
     match j,hj with
     | 0,hj=>simp[Zbte]at hj;subst hj;simp[Addr.add]
     | 1,hj=>simp[Zbte]at hj;subst hj;simp[Addr.add]
     | 2,hj=>simp[Zbte]at hj;subst hj;simp[Addr.add]
    case c2=>intro u hu;simp[Zbte]at hu;rcases hu with rfl|rfl|rfl<;>rfl
    case c3=>unfold maxLen;omega
    case c4=>omega
    case c5=>simp;omega
    intro v' w3 hown' hgrow _;have hlt2:=λb hb=>(HO2.out.lt b hb).1
    have hnx3:Below w.heap.size w w3:=((hnx2.alloc hnx2.size _).alloc (by simp;omega) _).grown hgrow (by simp;omega) (λb hb=>by have:=hlt2 b hb;omega);have herr3:w3.heap[w.heap.size]? =some (.cells #[.int .i64 0,.int .i64 0] 110):=by
     rw[hgrow.block _ (by simp;omega) (λe=>by have:=hlt2 _ e.symm;omega),Below.heap_alloc _ _ _ (by simp;omega),Below.heap_alloc _ _ _ (by omega)];exact HE2.out
    have hs3:=hgrow.size;simp at hs3;have HO3:Hid (w3.ownsRow (w.heap.size+1) 116 3 v' (Zbtf (ws ++ [(kd,k,t)])).length (Zbtf (ws ++ [(kd,k,t)])).flatten):=by
     show w3.ownsRow _ _ _ _ _ _;rw[Zbtg,List.length_append,List.flatten_append];simpa[Zbtf]using hown'
    have HE3:=hid herr3;have HN3:=hid hnx3;clear hgrow hown' herr3 hnx3 hlt2
    go_wp2_with fail
    refine(CS.out _).mono ?_;rintro e w4 ⟨rfl,rfl⟩;go_wp2;go_roundw
    case rel=>exact⟨k',g+1,ws ++ [(kd,k,t)],rfl,hk'2,by simp;omega,by omega,HZ2.out,HJ2.out,HO3.out,HE3.out,HN3.out,by omega⟩
    case measure=>simp[intOf];omega
  ·have hke:L.drop k = []:=List.drop_eq_nil_of_le (by have:=HSZ.out;omega)
   have hgood:=HJ.out;rw[Zdc hke]at hgood;have HGOOD:=hid hgood.symm;have hkk:(s.size:Int)=(k:Int):=by omega
   have hkn:s.size=k:=by omega
   have HO2:=hid hown;have hrl:=Zbti ws;clear hke hgood hown
   go_wp2_with (at_builtin;refine wpList_append_own _ rfl _ _ 108 rfl (w.heap.size+1) 116 i0 (.agg #[.int .i64 0,.int .i64 0,.string ByteArray.empty]) 3 32 underlying108 hi hz0 hz1 hz2 rfl (by decide) _ _ _ rfl (HO2.out.alloc _) ⟨wr.heap.size,0,none⟩ 1 1 (Zbte (4,k,[])) rfl rfl ?c1 ?c2 ?c3 ?c4 ?c5 ?_)
   case c1=>
    intro j u hj
    match j,hj with
    | 0,hj=>simp[Zbte]at hj;subst hj;simp[Addr.add]
    | 1,hj=>simp[Zbte]at hj;subst hj;simp[Addr.add]
    | 2,hj=>simp[Zbte]at hj;subst hj;simp[Addr.add]
   case c2=>intro u hu;simp[Zbte]at hu;rcases hu with rfl|rfl|rfl<;>rfl
   case c3=>unfold maxLen;omega
   case c4=>omega
   case c5=>simp;omega
   intro v' w3 hown' hgrow _;have hlt2:=λb hb=>(HO2.out.lt b hb).1
   have hnx3:Below w.heap.size w w3:=(hnx.alloc hnx.size _).grown hgrow (by simp;omega) (λb hb=>by have:=hlt2 b hb;omega);have herr3:w3.heap[w.heap.size]? =some (.cells #[.int .i64 0,.int .i64 0] 110):=by
    rw[hgrow.block _ (by simp;omega) (λe=>by have:=hlt2 _ e.symm;omega),Below.heap_alloc _ _ _ (by omega)];exact HERR.out
   have HO3:Hid (w3.ownsRow (w.heap.size+1) 116 3 v' (Zbtf (ws ++ [(4,k,[])])).length (Zbtf (ws ++ [(4,k,[])])).flatten):=by
    show w3.ownsRow _ _ _ _ _ _;rw[Zbtg,List.length_append,List.flatten_append];simpa[Zbtf]using hown'
   obtain⟨e0,e1,f0,f1⟩:=Zih herr3;have HE3:=hid herr3;have HN3:=hid hnx3;clear hgrow hown' herr3 hnx3 hlt2;go_wp2;refine bodyPost_ret (Zbhn rfl _ _ w.heap.size _ _ _ _ rfl (heap_set _ _ (heap_set _ _ HE3.out)) underlying110 rfl (by kernel_rfl)) rfl ?_;refine⟨Zcu HGOOD.out rfl ?_,(HN3.out.setCell (Nat.le_refl _) _).setCell (Nat.le_refl _) _⟩;exact Zbij (ownsRow_setCell_below (ownsRow_setCell_below HO3.out (by simp) _) (by simp) _) (Zbth _)
theorem Zbpv:∀(f:Nat) {l:List UInt8} {x:List UInt8×Nat},strF f l=some x->x.1.length<=x.2
 | 0,_,_,h=>by simp[strF]at h
 | f+1,[],_,h=>by simp[strF]at h
 | f+1,c::r,x,h=>by
  rw[Zbph]at h;split at h
  ·injection h with h;subst h;simp
  ·cases he:Zme (c::r)with
   | none=>rw[he]at h;cases h
   | some y=>
    obtain⟨d,n⟩:=y;have hp:=Zmk he;rw[he]at h;simp only[Option.map_eq_some_iff]at h;obtain⟨z,hz,rfl⟩:=h;have:=Zbpv f hz;simp only[List.length_cons];omega
theorem Zbtr {l:List UInt8} {k:Int} {t:List UInt8} {n:Nat} (h:Zbtj l=some (k,t,n)):t.length<=n:=by
 cases l with
 | nil=>simp[Zbtj]at h
 | cons c r=>
  rw[Zbtk]at h;split at h
  ·obtain⟨x,hx,h⟩:=Option.map_eq_some_iff.1 h
   injection h with _ h;injection h with h1 h2
   have:=Zbpv _ hx;subst h1 h2;omega
  ·split at h
   ·injection h with h;injection h with _ h;injection h with h1 h2
    subst h1 h2;exact Nat.le_refl _
   ·split at h
    ·injection h with h;injection h with _ h;injection h with h1 h2
     subst h1 h2;simp
    ·cases h
theorem Zmt (x:Zcj) (h:x.1=4):Zap [x]:=by
 intro k hk hn;obtain rfl:k=0:=by simpa using hk
 exact absurd h hn
theorem Zms (x:Zcj) {ws:List Zcj} (h:Zap ws) (h0:0<ws.length):Zap (x::ws):=by
 intro k hk hn
 cases k with
 | zero=>simp;omega
 | succ k=>
  have:=h k (by simpa using hk) (by simpa[wAt]using hn);simp;omega
theorem Zcv:∀(f a:Nat) (l:List UInt8) (ws:List Zcj),allF f a l = .ok ws->Zap ws/\0<ws.length/\ws.length<=l.length+1/\∀x∈ws,x.2.2.length<=l.length
 | 0,_,_,_,h=>by cases h
 | f+1,a,l,ws,h=>by
  rw[Zcx]at h;split at h
  ·injection h with h
   subst h;exact⟨Zmt _ rfl,by simp,by simp,by simp⟩
  ·split at h
   ·cases h
   ·rename_i k t n hw
    split at h
    ·cases h
    ·rename_i ws' hr
     injection h with h
     subst h;obtain⟨h1,h2,h3,h4⟩:=Zcv f _ _ ws' hr;have hp:=Zbto hw;have ht:=Zbtr hw;have hs:=Zblh l false;rw[List.length_drop]at hp;rw[List.length_drop,List.length_drop]at h3;refine⟨Zms _ h1 h2,by simp,by simp only[List.length_cons];omega,λx hx=>?_⟩
     rcases List.mem_cons.1 hx with rfl|hx
     ·simp only;omega
     ·have:=h4 x hx
      rw[List.length_drop,List.length_drop]at this;omega
theorem GP.up {p p':Nat} {w:World} (h:GP p w) (hp:p<=p'):GP p' w:=⟨h.glob,h.ops,Nat.lt_of_lt_of_le h.l1 hp,Nat.lt_of_lt_of_le h.l2 hp,Nat.lt_of_lt_of_le h.l3 hp,Nat.lt_of_lt_of_le h.l4 hp,Nat.lt_of_lt_of_le h.l5 hp⟩
def Zas (L:List UInt8) (w w':World) (e:Ending):Prop:=
 match Znz L with
 | .error x=>e = .returned (.tuple #[.slice none 0 0,.agg #[.int .i64 x.1,.int .i64 x.2]])
 | .ok rs=>∃v,e = .returned (.tuple #[v,.agg #[.int .i64 0,.int .i64 0]])/\RulesA (λb=>b<w.heap.size) w' v rs
theorem Znw {L:List UInt8} {w w':World} {e:Ending} {c a:Int} (h:Znz L = .error (c,a)) (he:e = .returned (.tuple #[.slice none 0 0,.agg #[.int .i64 c,.int .i64 a]])):Zas L w w' e:=by
 unfold Zas;rw[h];exact he
theorem Znx {L:List UInt8} {w w':World} {e:Ending} {rs:List RuleS} {v:Value} (h:Znz L = .ok rs) (he:e = .returned (.tuple #[v,.agg #[.int .i64 0,.int .i64 0]])) (hr:RulesA (λb=>b<w.heap.size) w' v rs):Zas L w w' e:=by
 unfold Zas;rw[h];exact⟨v,he,hr⟩
theorem Zbim {w W:World} {v:Value} {ws:List Zcj} {L:List UInt8} (h:allS L = .ok ws) (hL:L.length<=1048576) (hg:GP w.heap.size w) (hb:Below w.heap.size w W) (hw:Zbc W v ws) (hv:∀b,v.ownBlock=some b->b<W.heap.size):
  RS (W.alloc (.cells #[v,.int .i64 0,.bool false] 156)) W.heap.size v ws (0,false):=by
 obtain⟨h1,h2,h3,h4⟩:=Zcv _ _ _ _ h;have hA:=(Below.refl W.heap.size W).alloc (Nat.le_refl _) (.cells #[v,.int .i64 0,.bool false] 156);refine⟨⟨alloc_at W _,⟨hw.below hA,λb e=>⟨by have:=hv b e;simp;omega,λe2=>by have:=hv b e;omega⟩⟩,h2,h1⟩,?_,λk hk=>?_,by omega⟩
 ·exact((hg.below hb).up hb.size).below (hA.mono (Nat.le_refl _))
 ·have hm:ws[k]'hk∈ws:=List.getElem_mem hk
  have:=h4 _ hm;unfold wTx wAt;rw[List.getD_eq_getElem?_getD,List.getElem?_eq_getElem hk];simp only[Option.getD_some,ByteArray.size,List.size_toArray];omega
theorem Zbts {w:World} {v:Value} {ws:List Zcj} (h:Zbc w v ws) (h0:0<ws.length):∀b,v.ownBlock=some b->b<w.heap.size:=by
 obtain⟨a,c,rfl,_,_,h2⟩:=h;have hne:Zbtf ws≠[]:=by
  intro e;have:ws.length=0:=by rw[<-Zbti ws,e];rfl
  omega
 obtain⟨b,o,rfl,h3,_⟩:=h2 hne;intro b' e
 cases e
 exact h3
set_option maxHeartbeats 4000000 in
set_option maxRecDepth 100000 in
theorem Zoc (s:ByteArray) (w:World) (hs:s.size<=maxLen) (hg:GP w.heap.size w):
  Calls prog 73 #[.string s] w λe w'=>Zas s.data.toList w w' e/\Below w.heap.size w w':=by
 unfold maxLen at hs;obtain⟨L,hL⟩:∃L,s.data.toList=L:=⟨_,rfl⟩;have hsz:s.size=L.length:=by rw[<-hL];exact Lib.size_eq s
 rw[hL]
 by_cases hm:20000<s.size
 ·have hres:Znz L = .error (4,-1):=by unfold Znz;rw[if_pos (by omega)]
  have HRES:=hid hres;have hm':(20000:Int)<(s.size:Int):=by omega
  clear hres hL hsz hg
  go_enter func73,ntmps73
  go_wp2;refine bodyPost_ret (Zbhn rfl _ _ w.heap.size _ _ _ _ rfl (alloc_at w _) underlying110 rfl (by kernel_rfl)) rfl ?_;exact⟨Znw HRES.out rfl,(Below.refl _ _).alloc (Nat.le_refl _) _⟩
 ·have hm':¬(20000:Int)<(s.size:Int):=by omega
  have cA:=λw'=>Zxb s w' (by omega)
  rw[hL]at cA;have CA:=hid cA;have HG:=hid hg;have HSZ:=hid hsz;clear hL cA hg hsz
  cases hA:allS L with
  | error q=>
   have hres:Znz L = .error (1,(q:Int)):=by unfold Znz;rw[if_neg (by have:=HSZ.out;omega),hA]
   have HRES:=hid hres;have HAE:=hid hA;clear hres hA
   go_enter func73,ntmps73
   go_wp2_with fail
   refine(CA.out _).mono ?_;rintro e w2 ⟨he,hb2⟩;unfold AllE at he;rw[HAE.out]at he;simp only at he;subst he;have hnx:=Zfk hb2;have hbk:=at_new hb2;have hbk2:(w2.alloc (.cells #[.int .i64 1,.int .i64 (q:Int)] 110)).heap[w.heap.size]? =some (.cells #[.int .i64 0,.int .i64 0] 110):=by
    rw[Below.heap_alloc _ _ _ (by have:=hb2.size;simp at this;omega)];exact hbk
   obtain⟨e0,e1,f0,f1⟩:=Zih hbk2;have HBK:=hid hbk2;have HNX:=hid hnx;clear hbk hbk2 hb2 hnx
   go_wp2_with fail
   go_region
   all_goals go_wp2
   all_goals refine bodyPost_ret (Zbhn rfl _ _ w.heap.size _ _ _ _ rfl (heap_set _ _ (heap_set _ _ HBK.out)) underlying110 rfl (by kernel_rfl)) rfl ?_
   all_goals exact⟨Znw HRES.out rfl,(((HNX.out.alloc HNX.out.size _).setCell (Nat.le_refl _) _).setCell (Nat.le_refl _) _).drew⟩
  | ok ws=>
   obtain⟨x,hx⟩:∃x,Zbjo ws (0,false)=x:=⟨_,rfl⟩;have hres:Znz L=if x.2.2 then .error (1,((wAt ws x.2.1).2.1:Int))else .ok x.1:=by unfold Znz;rw[if_neg (by have:=HSZ.out;omega),hA,<-hx]
   obtain⟨rs,st⟩:=x;obtain⟨k,fl⟩:=st;have HRES:=hid hres;have HX:=hid hx;have HAE:=hid hA;clear hres hA hx
   go_enter func73,ntmps73
   go_wp2_with fail
   refine(CA.out _).mono ?_;rintro e w2 ⟨he,hb2⟩;unfold AllE at he;rw[HAE.out]at he;simp only at he;obtain⟨v,rfl,hwd⟩:=he;have hnx:=Zfk hb2;have hbk:=at_new hb2;have hs2:=hb2.size;simp at hs2;have h1:=Zbts hwd (Zcv _ _ _ _ HAE.out).2.1;obtain⟨va,vn,vc,hvs⟩:∃a n c,v = .slice a n c:=by obtain⟨a,c,rfl,_⟩:=hwd;exact⟨_,_,_,rfl⟩
   subst hvs;have hA2:=hnx.alloc hnx.size (.cells #[.int .i64 0,.int .i64 0] 110);have hrs:=Zbim HAE.out (by have:=HSZ.out;omega) HG.out hA2 (hwd.below ((Below.refl _ _).alloc (Nat.le_refl _) (.cells #[.int .i64 0,.int .i64 0] 110))) (λb e=>by have:=h1 b e;simp;omega);have hp:(w2.alloc (.cells #[.int .i64 0,.int .i64 0] 110)).heap.size=w2.heap.size+1:=by simp
   rw[hp]at hrs;have cR:=Zbep _ _ _ _ _ hrs;rw[HX.out]at cR;have HRS:=hid hrs;have HB:=hid hbk;have HN2:=hid hA2;clear hbk hb2 hnx hwd h1 hA2 hp hrs
   go_wp2_with fail
   refine cR.mono ?_;rintro e w3 ⟨vv,rfl,hrl,ha3⟩;obtain⟨ra,rn,rc,hvs⟩:∃a n c,vv = .slice a n c:=by obtain⟨rows,h1,_⟩:=hrl;exact Zbig h1
   subst hvs;obtain⟨c0,c1,c2,f0,f1,f2⟩:=ha3.1.cells;have herr3:w3.heap[w.heap.size]? =some (.cells #[.int .i64 0,.int .i64 0] 110):=by
    rw[ha3.2.block _ (by simp;omega) (by omega),Below.heap_alloc _ _ _ (by simp;omega),Below.heap_alloc _ _ _ (by omega)];exact HB.out
   have hn3:Below w.heap.size w w3:=(HN2.out.alloc HN2.out.size _).trans (ha3.2.below (by simp;omega) λb hb e=>by omega);have HR3:Hid (RulesA (λb=>b<w.heap.size+1) w3 (.slice ra rn rc) rs):=RulesA.mono hrl λb _ e=>by simp;omega
   have HA3:=hid ha3;have HN3:=hid hn3;have HE3:=hid herr3;have hs3:=ha3.2.size;simp at hs3
   cases fl
   ·obtain⟨e0,e1,g0,g1⟩:=Zih herr3
    have hgood:Znz L = .ok rs:=HRES.out;have HGOOD:=hid hgood;clear ha3 herr3 hn3 hrl cR hgood;go_wp2;refine bodyPost_ret (Zbhn rfl _ _ w.heap.size _ _ _ _ rfl (heap_set _ _ (heap_set _ _ HE3.out)) underlying110 rfl (by kernel_rfl)) rfl ?_;refine⟨Znx HGOOD.out rfl (RulesA.mono (RulesA.keep HR3.out ((Zpy (by simp) _).trans (Zpy (by simp) _))) λb _ e=>by omega),(HN3.out.setCell (Nat.le_refl _) _).setCell (Nat.le_refl _) _⟩
   ·have hbad:Znz L = .error (1,((wAt ws k).2.1:Int)):=HRES.out
    have HBAD:=hid hbad;have cW:=Zbtl _ _ _ _ _ ha3.1;unfold wVal at cW;have F1:=fld1;clear herr3 hn3 hrl cR hbad ha3
    go_wp2_with fail
    refine cW.mono ?_;rintro e w4 ⟨rfl,hb4⟩;have herr4:w4.heap[w.heap.size]? =some (.cells #[.int .i64 0,.int .i64 0] 110):=by rw[hb4.block _ (by omega)];exact HE3.out
    obtain⟨e0,e1,g0,g1⟩:=Zih herr4;have HE4:=hid herr4;have HN4:=hid (HN3.out.trans (hb4.mono HN3.out.size));clear herr4 hb4 cW;go_wp2;refine bodyPost_ret (Zbhn rfl _ _ w.heap.size _ _ _ _ rfl (heap_set _ _ (heap_set _ _ HE4.out)) underlying110 rfl (by kernel_rfl)) rfl ?_;exact⟨Znw HBAD.out rfl,(HN4.out.setCell (Nat.le_refl _) _).setCell (Nat.le_refl _) _⟩
def srtL (xs:List (List UInt8)):List (List UInt8):=xs.mergeSort λx y=>decide (x<=y)
def srtB (xs:List ByteArray):List ByteArray:=(srtL (xs.map (·.data.toList))).map λl=>⟨l.toArray⟩
theorem Zbnc (xs:List (List UInt8)):(srtL xs).length=xs.length:=List.length_mergeSort xs
theorem Zbna (xs:List ByteArray):(srtB xs).map (·.data.toList)=srtL (xs.map (·.data.toList)):=by
 unfold srtB;rw[List.map_map];exact List.map_id'' (λl=>by simp) _
theorem Zbnb (xs:List ByteArray):(srtB xs).length=xs.length:=by unfold srtB;rw[List.length_map,Zbnc,List.length_map]
def opTx (op:Int):List UInt8:=if op<0∨10<=op then []else Zbcr.getD op.toNat []
def Zbnz (x:StepS):List ByteArray:=[x.out,⟨#[61]⟩,⟨(opTx x.op).toArray⟩]++(if x.op=9 then [⟨(Lib.itoa x.n).toArray⟩]else [])++x.lits.map (λl=>(⟨(Zbfx l.data.toList).toArray⟩:ByteArray))++x.args
def Zbnw (x:StepS):List UInt8:=Lib.join ((Zbnz x).map (·.data.toList)) [32] ++ [59]
def Zjc (key:List UInt8) (xs:List ByteArray):List UInt8:=if xs = []then []else [32,32]++key ++ [32]++Lib.join (srtL (xs.map (·.data.toList))) [44,32] ++ [59,10]
def Zbnq (x:StepS):List UInt8:=[32,32]++Zbnw x ++ [10]
def Zrn (r:RuleS):List UInt8:=[114,117,108,101,32]++r.name.data.toList ++ [32,123,10]
def upTx (r:RuleS):List UInt8:=Zrn r++Zjc [105,110] r.ins++Zjc [111,117,116] r.outs++Zjc [97,102,116,101,114] r.after
def Zbix (r:RuleS):List UInt8:=upTx r++(r.steps.map Zbnq).flatten ++ [125,10]
def Zbmg (r:RuleS):RuleS:=⟨r.name,srtB r.ins,srtB r.outs,srtB r.after,r.steps⟩
theorem takeWhile_prefix {p:UInt8->Bool}:∀(l r:List UInt8),(l.takeWhile p).length<l.length->(l++r).takeWhile p=l.takeWhile p
 | [],r,h=>by simp at h
 | c::l,r,h=>by
  rw[List.cons_append,List.takeWhile_cons,List.takeWhile_cons]
  by_cases hc:p c=true
  ·rw[if_pos hc,if_pos hc]
   rw[List.takeWhile_cons,if_pos hc]at h;rw[takeWhile_prefix l r (by simpa using h)]
  ·rw[if_neg hc,if_neg hc]
def EndsN (l:List UInt8):Prop:=l = []∨∃r,l=r ++ [10]
theorem EndsN.drop {l:List UInt8} (h:EndsN l) (n:Nat):EndsN (l.drop n):=by
 rcases h with rfl|⟨r,rfl⟩
 ·exact .inl (by simp)
 ·by_cases hn:n<=r.length
  ·exact .inr ⟨r.drop n,by rw[List.drop_append_of_le_length hn]⟩
  ·exact .inl (List.drop_eq_nil_of_le (by simp;omega))
theorem Zbga:∀n:Fin 256,Zme (Zbfv (UInt8.ofNat n.val))=some (UInt8.ofNat n.val,(Zbfv (UInt8.ofNat n.val)).length)/\(Zbfv (UInt8.ofNat n.val)).head? ≠some 34/\(Zbfv (UInt8.ofNat n.val)).all (λc=>decide (32<=c.toNat/\c.toNat<=126))=true/\(Zbfv (UInt8.ofNat n.val)).length<=4:=by decide +kernel
theorem Zbfz (c:UInt8):Zme (Zbfv c)=some (c,(Zbfv c).length)/\(Zbfv c).head? ≠some 34/\(Zbfv c).all (λc=>decide (32<=c.toNat/\c.toNat<=126))=true/\(Zbfv c).length<=4:=by
 have:=Zbga ⟨c.toNat,c.toNat_lt⟩;simpa using this
theorem Zbgd (s:List UInt8):(Zbfx s).length<=4*s.length+2:=by
 have:∀l:List UInt8,((l.map Zbfv).flatten).length<=4*l.length:=by
  intro l
  induction l with
  | nil=>simp
  | cons c l ih=>
   have:=(Zbfz c).2.2.2;simp only[List.map_cons,List.flatten_cons,List.length_append,List.length_cons]at ih⊢;omega
 have:=this s;unfold Zbfx;simp only[List.cons_append,List.length_cons,List.length_append,List.length_nil];omega
end Go.Proofs.YtcpjfpdecklkgaaGreatDoor
