import Derived.Test.YtphjfaoghphleaaGreatDoorMao
set_option maxRecDepth 1000000
set_option maxHeartbeats 4000000
namespace Go.Proofs.YtphjfaoghphleaaGreatDoor
namespace Exe
section
open Go.Proofs.Tryz Go Go.RowKit Go.Shelf
variable {P:Program} {G:Nat} {r:Ren} {h:Hp} {w:World}
def Zdjj:Nat->List Value->Option (List ByteArray)
 | 0,_=>some []
 | n+1,cs=>match cs with
  | .string a::cs=>match Zdjj n cs with
   | some xs=>some (a::xs)
   | none=>none
  | _=>none
theorem Zdjk:∀ {n:Nat} {b:List Value} {xs:List ByteArray},Zdjj n b=some xs->xs.length=n/\∀(k:Nat) x,xs[k]? =some x->b[k]? =some (.string x)
 | 0,b,xs,hc=>by simp only[Zdjj,Option.some.injEq]at hc;subst hc;exact⟨rfl,λk x hx=>by simp at hx⟩
 | n+1,b,xs,hc=>by
  simp only[Zdjj]at hc;split at hc
  case h_2=>cases hc
  rename_i a cs'
  split at hc
  case h_2=>cases hc
  rename_i f c
  cases hc
  obtain⟨d,e⟩:=Zdjk c;refine⟨by simp[d],λk x hx=>?_⟩
  cases k with
  | zero=>simp at hx;subst hx;rfl
  | succ k=>simpa using e k x (by simpa using hx)
def Zdep (h:Hp):Value->Option (List ByteArray)
 | .slice none l c=>bif Nat.beq l 0&&Nat.ble c 1000000 then some []else none
 | .slice (some ⟨n,o,none⟩) l c=>match look h n with
  | some (.cells cs _ _ _)=>bif Nat.ble l c&&Nat.ble c 1000000&&Nat.ble (o+l) cs.length then Zdjj l (cs.drop o)else none
  | _=>none
 | _=>none
theorem Zdeq {N:Nat->Prop} (s:Rep N (Zp P) G r h w) {v v':Value} (z:ValR (Zp P) r v v') {xs:List ByteArray} (a:Zdep h v=some xs):IsStrs w v' xs:=by
 unfold Zdep at a;split at a
 ·rename_i l c
  cases d:(Nat.beq l 0&&Nat.ble c 1000000)with
  | false=>rw[d]at a;cases a
  | true=>
   rw[d]at a;cases a;simp only[Bool.and_eq_true,Zcnc]at d;obtain⟨rfl,f⟩:=d;have f:=Nat.le_of_ble_eq_true f;obtain rfl:=Zcna rfl z;exact⟨none,c,rfl,Nat.zero_le _,by unfold maxLen;omega,λhx=>absurd rfl hx⟩
 ·rename_i n o l c
  split at a
  case h_2=>cases a
  rename_i B t O Q H
  cases d:(Nat.ble l c&&Nat.ble c 1000000&&Nat.ble (o+l) B.length)with
  | false=>rw[d]at a;cases a
  | true=>
   rw[d]at a;simp only[cond_true]at a;simp only[Bool.and_eq_true]at d;obtain⟨⟨m,f⟩,p⟩:=d;have m:=Nat.le_of_ble_eq_true m;have f:=Nat.le_of_ble_eq_true f;have p:=Nat.le_of_ble_eq_true p;obtain⟨D,E⟩:=Zdjk a
   cases z with
   | same F=>simp[atom]at F
   | @slice _ _ _ _ c' e he hle hex hr=>
    obtain⟨L,i,I,j,q⟩:=s.obj n _ H;obtain rfl:=Option.some.inj (he.symm.trans i)
    cases I with
    | cells C R M=>
     obtain⟨_,_,_,_,_,A,_⟩:=q;have g:c'<=maxLen:=by
      cases y:exN n with
      | true=>rw[hex y];unfold maxLen;omega
      | false=>exact(hr y).2.2
     subst D;refine⟨some ⟨e.b,o+e.sh,none⟩,c',rfl,by omega,g,λ_=>⟨e.b,o+e.sh,rfl,s.low _ _ he,λk x hx=>?_⟩⟩;have:=E k x hx;rw[List.getElem?_drop]at this;obtain⟨u,J,K⟩:=A _ _ this;obtain rfl:=Zcna rfl K;rw[cell_of j,show o+e.sh+k=o+k+e.sh by omega];exact J
    | _=>exact q.elim
 ·cases a
def nesC (h:Hp):List (Value×Value×Nat)->Option (List (ByteArray×List ByteArray))
 | []=>some []
 | (.string s,v,_)::es=>match Zdep h v with
  | some xs=>match nesC h es with
   | some L=>some ((s,xs)::L)
   | none=>none
  | none=>none
 | _=>none
theorem Zdex {N:Nat->Prop} (i:Rep N (Zp P) G r h w):∀ {c:List (Value×Value×Nat)} {a:List MapEntry} {L:List (ByteArray×List ByteArray)},nesC h c=some L->EntsR P r c a->
  ∃M:List NE,a.map kvE=nkv M/\(∀e∈M,IsStrs w e.2.1 e.2.2)/\M.map (λe=>(e.1,e.2.2))=L
 | [],a,L,hc,hE=>by
  cases a with
  | nil=>simp only[nesC,Option.some.injEq]at hc;subst hc;exact⟨[],rfl,by simp,rfl⟩
  | cons _ _=>have:=hE.1;simp at this
 | x::c,a,L,hc,hE=>by
  obtain⟨y,A,rfl,l,_,o,_,d⟩:=hE.head;unfold nesC at hc;split at hc
  ·rename_i b;cases b
  ·rename_i s u n j b
   cases b
   split at hc
   case h_2=>cases hc
   rename_i v g
   split at hc
   case h_2=>cases hc
   rename_i z k
   cases hc
   obtain⟨M,p,q,t⟩:=Zdex i k d;have m:=Zdeq i o g;refine⟨(s,y.val,v)::M,?_,λe f=>?_,by rw[List.map_cons,t]⟩
   ·rw[List.map_cons,p]
    unfold kvE nkv;rw[l];rfl
   ·rcases List.mem_cons.1 f with rfl|f
    ·exact m
    ·exact q e f
  ·cases hc
def Zcxs:List UInt8->List UInt8->Bool
 | [],[]=>true
 | a::us,b::bs=>Nat.beq a.toNat b.toNat&&Zcxs us bs
 | _,_=>false
theorem Zcxt:∀ {a b:List UInt8},Zcxs a b=true↔a=b
 | [],[]=>by simp[Zcxs]
 | [],_::_=>by simp[Zcxs]
 | _::_,[]=>by simp[Zcxs]
 | a::us,b::bs=>by
  simp only[Zcxs,Bool.and_eq_true,Zcnc,Zcxt,List.cons.injEq,UInt8.toNat_inj]
def Zzp (a b:ByteArray):Bool:=Zcxs a.data.toList b.data.toList
theorem Zden {a b:ByteArray}:Zzp a b=decide (a=b):=by
 rw[Bool.eq_iff_iff,decide_eq_true_eq];unfold Zzp;rw[Zcxt];exact⟨Zdcj,λe=>by rw[e]⟩
def hasB (L:List (ByteArray×List ByteArray)) (x:ByteArray):Bool:=L.any λe=>Zzp e.1 x
def Zdgs (L:List (ByteArray×List ByteArray)):List ByteArray:=(L.filter λe=> !(e.2.any (hasB L))).map (·.1)
theorem Zdaz (M:List NE) (x:ByteArray):hasB (M.map λe=>(e.1,e.2.2)) x=hasN M x:=by
 unfold hasB hasN;rw[List.any_map]
 congr 1
 funext e
 exact Zden
theorem Zdgt (M:List NE):Zdgs (M.map λe=>(e.1,e.2.2))=Zdgw M:=by
 unfold Zdgs Zdgw;rw[List.filter_map,List.map_map];have:(λe:NE=> !(e.2.2.any (hasB (M.map λe=>(e.1,e.2.2)))))=Zdae M:=by
  funext e
  unfold Zdae
  congr 2
  funext x
  exact Zdaz M x
 have a:((λe:ByteArray×List ByteArray=> !(e.2.any (hasB (M.map λe=>(e.1,e.2.2)))))∘λe:NE=>(e.1,e.2.2))=Zdae M:=this;rw[a];rfl
def insN (x:ByteArray):List ByteArray->List ByteArray
 | []=>[x]
 | y::ys=>bif Op.bytesLess y.data.toList x.data.toList then y::insN x ys else x::y::ys
def srtN:List ByteArray->List ByteArray
 | []=>[]
 | x::xs=>insN x (srtN xs)
theorem Zdbo (x:ByteArray):∀l:List ByteArray,(insN x l).map (λb=>((false,b):Lb))=ilb (false,x) (l.map λb=>(false,b))
 | []=>rfl
 | y::ys=>by
  rw[List.map_cons];unfold insN ilb;have:ltL (false,y) (false,x)=Op.bytesLess y.data.toList x.data.toList:=by unfold ltL;rw[if_pos rfl,bytesLess_eq]
  rw[this]
  cases Op.bytesLess y.data.toList x.data.toList with
  | true=>simp only[cond_true,if_true,List.map_cons,Zdbo x ys]
  | false=>rfl
theorem Zdja:∀l:List ByteArray,(srtN l).map (λb=>((false,b):Lb))=slb (l.map λb=>(false,b))
 | []=>rfl
 | x::xs=>by
  rw[List.map_cons];unfold srtN slb;rw[Zdbo,Zdja xs]
theorem Zdiz (l:List ByteArray):srtN l=srtB l:=by
 have d:(srtB l).map (λb=>((false,b):Lb))=slb (l.map λb=>(false,b)):=by
  refine Zdir ?_ ?_
  ·unfold srtB Go.Proofs.YtphjfaoghphleaaGreatDoor.srtL
   have i:=(List.mergeSort_perm (l.map (·.data.toList)) λx y=>decide (x<=y)).map λq=>(⟨q.toArray⟩:ByteArray)
   have e:(l.map (·.data.toList)).map (λq=>(⟨q.toArray⟩:ByteArray))=l:=by
    rw[List.map_map];exact(List.map_congr_left (λx _=>by cases x;simp)).trans (List.map_id l)
   rw[e]at i;exact i.map _
  ·unfold Slb
   rw[List.pairwise_map];unfold srtB Go.Proofs.YtphjfaoghphleaaGreatDoor.srtL;rw[List.pairwise_map];have j:=List.pairwise_mergeSort (le:=λx y:List UInt8=>decide (x<=y)) (λa b c d f=>by simp only[decide_eq_true_eq]at *;exact List.le_trans d f) (λa b=>by simp only[Bool.or_eq_true,decide_eq_true_eq];exact List.le_total a b) (l.map (·.data.toList));refine j.imp fun {a b} hab=>?_
   unfold leL ltL;rw[if_pos rfl];simp only[decide_eq_true_eq]at hab;simpa using hab
 have f:=(Zdja l).trans d.symm;have g:=congrArg (List.map (·.2)) f;rw[List.map_map,List.map_map]at g;exact((List.map_id _).symm.trans g).trans (List.map_id _)
def Zbck:List (ByteArray×List ByteArray)->Bool
 | []=>true
 | e::L=> !(hasB L e.1)&&Zbck L
theorem Zdfl:∀ {M:List NE},Zbck (M.map λe=>(e.1,e.2.2))=true->(M.map (·.1)).Nodup
 | [],_=>List.nodup_nil
 | e::M,h=>by
  rw[List.map_cons]at h;simp only[Zbck,Bool.and_eq_true,Bool.not_eq_true']at h;rw[Zdaz]at h;rw[List.map_cons,List.nodup_cons];refine⟨λc=>?_,Zdfl h.2⟩;obtain⟨y,d,b⟩:=List.mem_map.1 c;have a:=h.1;unfold hasN at a;rw[List.any_eq_false]at a;exact a y d (by simpa using b)
def Zdgu (nf:FuncId) (el:TypeId):FK:=λf vs k h=>bif Nat.beq f nf then match vs with
 | [.map (some m)]=>match look h m with
  | some (.map es ck _)=>match nesC h es with
   | some L=>bif Zcxp ck 0 es&&Nat.ble L.length 1000&&Zbck L then match srtN (Zdgs L)with
     | []=>some (.slice none 0 0,k+1,h)
     | x::xs=>some (.slice (some ⟨2*k+1,0,none⟩) (xs.length+1) (xs.length+1),k+1,(2*k+1,.cells ((x::xs).map Value.string) el 0 false)::h)
    else none
   | none=>none
  | _=>none
 | _=>none else none
theorem Zdgv (hN:Zcmj prog) (B:Zcqx prog 70=true) (hz:Zp prog 9=1):KS prog G (onFn (Zdgu 70 9)):=by
 refine Zcth ?_;intro f vs k h v k1 h1 c r w ac s hv;unfold Zdgu at c
 cases V:Nat.beq f 70 with
 | false=>rw[V]at c;cases c
 | true=>
  rw[V]at c;simp only[cond_true]at c;obtain rfl:=Zcnc.1 V;split at c
  case h_2=>cases c
  rename_i m
  split at c
  case h_2=>cases c
  rename_i es ck ab U
  split at c
  case h_2=>cases c
  rename_i L hL
  cases t:(Zcxp ck 0 es&&Nat.ble L.length 1000&&Zbck L)with
  | false=>rw[t]at c;cases c
  | true=>
   rw[t]at c;simp only[cond_true]at c;simp only[Bool.and_eq_true]at t;obtain⟨⟨b1,J⟩,b3⟩:=t;have J:=Nat.le_of_ble_eq_true J;obtain⟨p',us,rfl,v1,v2⟩:=hv.head;obtain rfl:us = []:=by have:=v2.1;cases us with
    | nil=>rfl
    | cons _ _=>simp at this
   cases v1 with
   | same ha=>simp[atom]at ha
   | @map _ em hem=>
    obtain⟨aa,H,om,X,q⟩:=s.obj m _ U;obtain rfl:=Option.some.inj (hem.symm.trans H)
    cases om with
    | map E c'=>
     have hE:EntsR prog r es E.toList:=⟨by simpa using q.2.1,λi x y a b=>q.2.2 i x y a (by simpa using b)⟩;have S:=q.1;obtain⟨n1,n2,_⟩:=Zcxq b1 hE;obtain⟨M,m1,m2,rfl⟩:=Zdex s hL hE;have Q:RM w em.b (nkv M):=⟨E,c',X,m1,n1,by rw[S];exact n2⟩;have p:=Zdha em.b M w Q m2 (Zdfl b3) (by rw[List.length_map]at J;omega);rw[<-Zdiz,<-Zdgt]at p;have I:∀w1,Below w.heap.size w w1->Nx r h w r h w1/\Rep (Zcmd (k+1)) (Zp prog) G r h w1:=λw1 l=>by
      refine⟨⟨Ext.refl r,l.size,λb B _=>l.block b B,λ_ _ x=>x,λ_ _ x=>x,l.os,l.tape,l.output⟩,(⟨λn o hn=>?_,s.inj,λn e he=>Nat.lt_of_lt_of_le (s.low n e he) l.size,s.new,s.glo⟩:Rep (Zcmd k) (Zp prog) G r h w1).weak Zcqr⟩;obtain⟨e2,F,o2,W,K⟩:=s.obj n o hn;exact⟨e2,F,o2,by rw[l.block _ (s.low _ _ F)];exact W,K⟩
     refine .inr ⟨Zcqy hN B _ _,callsIn_wide.2 (Calls.mono p ?_)⟩;rintro en w1 ⟨rv,rfl,A,z,l⟩
     cases hs:srtN (Zdgs (M.map λe=>(e.1,e.2.2)))with
     | nil=>
      rw[hs]at c z
      cases c
      obtain rfl:=z rfl;obtain⟨Y,Z⟩:=I w1 l;exact⟨r,_,rfl,Y,Z,.same rfl⟩
     | cons x xs=>
      rw[hs]at c A
      cases c
      rcases A.2 with⟨hx,h0⟩|⟨g,d,D,rfl,g1,g2,g3,g4,g5,g6⟩
      ·simp at h0
      ·have T:w.grownBy w1 none:=⟨l.os,l.tape,l.output,l.size,λi hi _=>l.block i hi⟩
       have O:ObjR (Zp prog) r (2*k+1) ⟨g,0,d*1,9⟩ (.cells ((x::xs).map Value.string) 9 0 false) (.cells D 9 (0,0)):=by
        refine⟨rfl,rfl,g5,?_,λhx=>(by rw[Zctd]at hx;cases hx),λj u C=>⟨u,?_,.same ?_⟩,FzS.zero⟩
        ·rw[List.length_map];show(x::xs).length+0<=d*1;omega
        ·rw[<-g6,List.getElem?_take]at C
         split at C
         ·simpa using C
         ·cases C
        ·rw[List.getElem?_map]at C
         obtain⟨b,_,rfl⟩:=Option.map_eq_some_iff.1 C;rfl
       obtain⟨Y,Z⟩:=s.grown (h0:=h) (λ_ _ x=>x) (R:=none) (λb B=>by cases B) (λb B=>by cases B) T (nm:=2*k+1) (by omega) (by omega) (.inr g1) g2 O;exact⟨_,_,rfl,Z,Y,.slice (e:=⟨g,0,d*1,9⟩) (c':=d) (by simp[set1]) g3 (λhx=>(by rw[Zctd]at hx;cases hx)) (λ_=>by show CapR (0+0+d*Zp _ _) d (d*1) (Zp _ _);rw[hz];exact⟨by omega,λhx _=>by omega,g4⟩)⟩
    | _=>exact q.elim
end
open Go.Proofs.Tryz Go Go.RowKit
theorem Zdbg:Zcqx prog 35=true:=by kernel_rfl
theorem Zdbh:Zcqx prog 70=true:=by kernel_rfl
theorem hzLb:Zp prog 24=2:=by kernel_rfl
theorem hzSt:Zp prog 9=1:=by kernel_rfl
noncomputable def K0o:KF:=orK (onFn (allK 35 24)) (orK (onFn (Zdgu 70 9)) K0a)
theorem Zcwp:KS prog 5 K0o:=Zctm (Zcwy Zctu Zdbg hzLb) (Zctm (Zdgv Zctu Zdbh hzSt) Zcme)
noncomputable def K0d:KF:=orK (onFn (Zcsp [71] 301 opNames)) K0o
theorem Zcwo:KS prog 5 K0d:=by
 refine Zctm (Zcsq Zctu (by decide) ?_) Zcwp;intro f a;have e:f=71:=by simpa using a
 rw[e];exact⟨hb5,λw b=>beg7 b⟩
noncomputable def Zcxn:Code:=match prog.funcs[5]? with
 | some fn=>match fn.body with
  | some c=>c
  | none=> .skip
 | none=> .skip
noncomputable def KD:KF:=KX prog 5 100000 K0d 59
noncomputable def fnD:Func:=match prog.funcs[5]? with
 | some fn=>fn
 | none=>default
theorem Zdab:prog.funcs[5]? =some fnD:=by kernel_rfl
theorem Zcxo:fnD.body=some Zcxn:=by kernel_rfl
theorem Zdfh:fnD.ntmps=204:=by kernel_rfl
theorem Zdff:K0d (.fn 5) [] 100 (hx 301 opNames)=none:=by kernel_rfl
noncomputable def opsD:Array Oper:=match Zcox 9 Zcxn with
 | .seq (.region _ o _) _=>o
 | _=>#[]
def qD:List (Nat×Nat):=[(0,1),(1,0),(2,0),(3,0),(4,0),(5,1),(6,1),(7,0),(8,0),(9,0),(10,0),(11,0),(12,1),(13,0),(14,0),(15,0),(16,0),(17,0),(18,0),(19,1),(20,0),(21,0),(22,1),(23,0),(24,0),(25,0),(26,0),(27,0),(28,0),(29,1),(30,0),(31,0),(32,0),(33,1),(34,1),(35,0),(36,0),(37,0),(38,1),(39,1),(40,1),(41,0),(42,0),(43,0),(44,1),(45,1),(46,0),(47,0),(48,0),(49,0),(50,1),(51,1),(52,0),(53,0),(54,0),(55,0),(56,0),(57,0),(58,0),(59,0),(60,0),(61,0),(62,0),(63,0),(64,1),(65,1),(66,1),(67,0),(68,0),(69,0),(70,0),(71,0),(72,1),(73,1),(74,1),(75,0),(76,0),(77,0),(78,0),(79,0),(80,1),(81,1),(82,0),(83,0),(84,0),(85,0),(86,0),(87,1),(88,0),(89,0),(90,0),(91,0),(92,0),(93,0),(94,1),(95,0),(96,0),(97,0),(98,1),(99,0),(100,0),(101,0),(102,0),(103,0),(104,0),(105,0),(106,0),(107,1),(108,0),(109,0),(110,0),(111,0),(112,0),(113,0),(114,0),(115,1),(116,0),(117,0),(118,0),(119,0),(120,0),(121,1),(122,0),(123,0),(124,0),(125,1),(127,129),(128,129),(126,2),(129,1),(130,0),(131,0),(132,0),(133,0),(134,0),(135,1),(136,1),(137,1),(138,0),(139,0),(140,0),(141,0)]
abbrev Y1:Nat×CO:=(2,.cells [(sT []),(sT [99,111,112,121]),(sT [110,101,101,100]),(sT [115,111,114,116]),(sT [99,111,117,110,116]),(sT [99,111,110,99,97,116]),(sT [108,105,116,101,114,97,108]),(sT [115,101,108,101,99,116]),(sT [114,101,112,108,97,99,101]),(sT [112,114,101,102,105,120])] 301 9223372036854775808 true)
abbrev Yg:Value:=sT [99]
abbrev Y4:Value:=sT [97]
abbrev Y6:Value:=sT [98]
abbrev Y2:Nat×CO:=(818,.map [(Yg,(aG [Yg,(sL 837 1 1),(sL 843 1 1),(sL 849 1 1),(sL 855 1 1)]),0),(Y4,(aG [Y4,(sL 903 1 1),(sL 909 1 1),z0,(sL 917 1 1)]),1),(Y6,(aG [Y6,(sL 965 1 1),(sL 971 1 1),z0,(sL 979 1 1)]),2)] 3 false)
abbrev Y3u:Value:=sL 202 1 1
abbrev Y40:Value:=sL 200 1 1
abbrev Y3z:Value:=sL 212 1 1
abbrev Y3v:Value:=sL 222 1 1
abbrev Y3:Nat×CO:=(232,.cells [Yg,Y3u,(sL 206 1 1),Y40,(sL 208 1 1),Y4,Y3z,(sL 216 1 1),z0,(sL 218 1 1),Y6,Y3v,(sL 226 1 1),z0,(sL 228 1 1)] 50 0 false)
abbrev Y5:Value:=sT [121]
abbrev Y7:Value:=sT [122]
abbrev Y8:Value:=sT [120]
abbrev Yx:Value:=sT [115]
abbrev Y9:Nat×CO:=(822,.map [(Y5,(sL 889 1 1),0),(Yx,(sL 951 1 1),1),(Y8,(sL 1013 1 1),2)] 3 false)
abbrev Y44:Value:=fL [98]
abbrev Y3d:Value:=fR [97]
abbrev Ya:Nat×CO:=(1382,.map [(Y44,(aG []),0),(Y3d,(aG []),1),((fL [97]),(aG []),2)] 3 false)
abbrev Yb:Nat×CO:=(204,.cells [Yg,Y3u,(sL 206 1 1),Y40,(sL 208 1 1)] 50 0 false)
abbrev Yc:Value:=pP 1026
abbrev Yd:Nat×CO:=(9242,.cells [Yg,(sL 8917 1 1),(sL 8923 1 1),(sL 8929 0 1),(sL 8935 1 1),Y4,(sL 8559 1 1),(sL 8565 1 1),z0,(sL 8573 1 1),Y6,(sL 8691 1 1),(sL 8697 1 1),z0,(sL 8705 1 1)] 50 0 false)
abbrev Ye:Value:=sL 232 3 3
abbrev Yf:Nat×CO:=(820,.map [(Y7,(fR [99]),0),(Y8,Y3d,1),(Y5,(fR [98]),2)] 3 false)
abbrev Yh:Nat×CO:=(224,.cells [Y6,Y3v,(sL 226 1 1),z0,(sL 228 1 1)] 50 0 false)
abbrev Yi:Nat×CO:=(214,.cells [Y4,Y3z,(sL 216 1 1),z0,(sL 218 1 1)] 50 0 false)
abbrev Yj:Nat×CO:=(3141,.cells [(sL 3121 1 1),(sL 3129 1 1),(sL 3137 1 1)] 47 0 false)
abbrev Yk:Nat×CO:=(1028,.map [(Y3d,(aG []),0),(Y44,(aG []),1)] 2 false)
abbrev Yl:Tr:=tN bT tT tO
abbrev Ym:Nat×CO:=(1339,.cells [bF,Y7,bT,Yg,bF,Y5,bT,Y6,bF,Y8] 24 0 false)
abbrev Yn:Value:=aG [Yg,Y3u,(sL 206 1 1),Y40,(sL 208 1 1)]
abbrev Yo:Nat×CO:=(979,.cells [Y5,(nI 5),(sL 989 1 1),z0,(nI 0)] 58 0 false)
abbrev Yp:Nat×CO:=(917,.cells [Y8,(nI 5),(sL 927 1 1),z0,(nI 0)] 58 0 false)
abbrev Yq:Nat×CO:=(855,.cells [Y7,(nI 5),(sL 865 1 1),z0,(nI 0)] 58 0 false)
abbrev Yr:Nat×CO:=(228,.cells [Y5,(nI 5),Y3v,z0,(nI 0)] 58 0 false)
abbrev Ys:Nat×CO:=(218,.cells [Y8,(nI 5),Y3z,z0,(nI 0)] 58 0 false)
abbrev Yt:Nat×CO:=(208,.cells [Y7,(nI 5),Y3u,z0,(nI 0)] 58 0 false)
abbrev Y10:Value:=aG [Y6,Y3v,(sL 226 1 1),z0,(sL 228 1 1)]
abbrev Y18:Value:=pP 1380
abbrev Y11:Tr:=tL (pP 824)
abbrev Y3o:Tr:=tN bT Y11 tO
abbrev Y3m:Tr:=tN (sL 3141 3 3) (tN bT (tL (sL 4535 3 3)) tO) tT
abbrev Y4p:Tr:=tN (pP 824) (tN Y18 Y3o (tL Y3d)) Y3m
abbrev Yu:Tr:=tN Y10 Y4p (tN (sL 1048 1 1) (tN bF Y3o tT) (tN bT tT Y11))
abbrev Yv:Value:=aG [Y4,Y3z,(sL 216 1 1),z0,(sL 218 1 1)]
abbrev Yw:Nat×CO:=(824,.cells [(mP 818),(mP 820),(mP 822)] 90 0 false)
abbrev Y3n:Tr:=tN Yc (tL (nI 2)) tO
abbrev Y3l:Tr:=tN bF (tN (sL 3161 2 2) tT tO) (tL (sL 3219 1 1))
abbrev Y17:Value:=sL 1339 5 5
abbrev Y42:Tr:=tL (nI 3)
abbrev Y3i:Tr:=tN Y18 tT tO
abbrev Y4u:Tr:=tN (.tuple ⟨[Y6,bT]⟩) Y3i (tL Y6)
abbrev Yy:Tr:=tN Yn (tN Y3d (tN Yc Y3n tT) Y3l) (tN bF (tN Y17 (tN Yc Y42 tO) Y11) Y4u)
abbrev Yz:Nat×CO:=(1368,.map [((fL [97]),(aG []),0)] 1 false)
abbrev Y4o:Tr:=tN bF (tN (pP 3161) tT tO) (tL (nI 1))
abbrev Y3p:Tr:=tN Y44 (tN (fL [97]) (tN Yc tT tO) tT) Y4o
abbrev Y3q:Tr:=tN (nI 5) (tN (nI 2) tT tO) (tL (fL [115]))
abbrev Y12:Tr:=tN Y3z Y3p (tN bF Y3q (tN (pP 824) Y3i tT))
abbrev Y13:Nat×CO:=(1379,.cells [bF,Y6,bT,Y4] 24 0 false)
abbrev Y14:Nat×CO:=(1024,.cells [bT,Y4,bF,Y6] 24 0 false)
abbrev Y4s:Tr:=tN Y3d tT tO
abbrev Y3r:Tr:=tN (sL 1024 2 2) (tN (sL 1364 1 1) Y4s tT) (tN bF (tN Y44 tT tO) tT)
abbrev Y3t:Tr:=tN (pP 824) (tN bF Yl Y42) (tN (.tuple ⟨[Y6,bT]⟩) (tN (nI 3) (tL Ye) tO) tT)
abbrev Y15:Tr:=tN Yv Y3r Y3t
abbrev Y16:Nat×CO:=(3435,.cells [bF,Y5,bF,Y7,bT,Yg] 24 0 false)
abbrev Y19:Nat×CO:=(3208,.map [((fL [121]),(aG []),0)] 1 false)
abbrev Y1a:Nat×CO:=(2271,.cells [Y4,Y6,Yg] 9 0 false)
abbrev Y1b:Nat×CO:=(1380,.cells [(mP 1382)] 73 0 false)
abbrev Y1c:Nat×CO:=(1366,.cells [(mP 1368)] 73 0 false)
abbrev Y1d:Nat×CO:=(1026,.cells [(mP 1028)] 73 0 false)
abbrev Y3h:Value:=fL [122]
abbrev Y4w:Tr:=tN Y44 (tL Ye) tO
abbrev Y1e:Tr:=tN Yc (tN (pP 1366) Yl (tL Y3h)) (tN Ye Y4w tT)
abbrev Y1f:Nat×CO:=(3293,.cells [bF,Y7,bT,Yg] 24 0 false)
abbrev Y1g:Nat×CO:=(3161,.cells [bF,Y6,bT,Y4] 24 0 false)
abbrev Y1h:Nat×CO:=(3146,.cells [bT,Y6] 24 0 false)
abbrev Y1i:Nat×CO:=(1400,.cells [bF,Y4] 24 0 false)
abbrev Y1j:Nat×CO:=(1399,.cells [bF,Y4] 24 0 false)
abbrev Y1k:Nat×CO:=(1392,.cells [bT,Y4] 24 0 false)
abbrev Y1l:Nat×CO:=(1386,.cells [bF,Y6] 24 0 false)
abbrev Y1m:Nat×CO:=(1372,.cells [bF,Y4] 24 0 false)
abbrev Y1n:Nat×CO:=(1364,.cells [bF,Y4] 24 0 false)
abbrev Y1o:Nat×CO:=(1360,.cells [bF,Y4] 24 0 false)
abbrev Y1p:Nat×CO:=(1054,.cells [bF,Y8] 24 0 false)
abbrev Y1q:Nat×CO:=(1050,.cells [bF,Y8] 24 0 false)
abbrev Y1r:Nat×CO:=(1048,.cells [bF,Y7] 24 0 false)
abbrev Y1s:Nat×CO:=(1044,.cells [bF,Y7] 24 0 false)
abbrev Y1t:Nat×CO:=(1038,.cells [bF,Y6] 24 0 false)
abbrev Y1u:Nat×CO:=(1032,.cells [bT,Y4] 24 0 false)
abbrev Y1v:Nat×CO:=(1020,.cells [bF,Y6] 24 0 false)
abbrev Y1w:Nat×CO:=(1016,.cells [bT,Y4] 24 0 false)
abbrev Y1x:Nat×CO:=(1013,.cells [bT,Y6] 24 0 false)
abbrev Y1y:Tr:=tN (sL 2271 3 3) (tN Yc (tL (sL 3669 2 2)) tO) Y11
abbrev Y1z:Nat×CO:=(951,.cells [bT,Y4] 24 0 false)
abbrev Y20:Nat×CO:=(889,.cells [bT,Yg] 24 0 false)
abbrev Y4q:Tr:=tN (sT [58,97]) (tL (sL 9242 3 3)) tO
abbrev Y4v:Tr:=tL (fR [99])
abbrev Y21:Tr:=tN (pP 824) (tN Y17 (tN Yc (tL (sL 3293 2 2)) tO) Y4q) (tN (nI 3) Y3n Y4v)
abbrev Y22:Nat×CO:=(3190,.cells [bF,(sT [])] 24 0 false)
abbrev Y23:Nat×CO:=(4535,.cells [Y4,Y6,Yg] 9 0 false)
abbrev Y24:Nat×CO:=(3206,.cells [(mP 3208)] 73 0 false)
abbrev Y25:Nat×CO:=(3137,.cells [Yg] 9 0 false)
abbrev Y26:Nat×CO:=(3129,.cells [Y6] 9 0 false)
abbrev Y27:Nat×CO:=(3121,.cells [Y4] 9 0 false)
abbrev Y28:Nat×CO:=(989,.cells [Y8] 9 0 false)
abbrev Y29:Nat×CO:=(971,.cells [Y5] 9 0 false)
abbrev Y2a:Nat×CO:=(965,.cells [Y8] 9 0 false)
abbrev Y2b:Nat×CO:=(927,.cells [Yx] 9 0 false)
abbrev Y2c:Nat×CO:=(909,.cells [Y8] 9 0 false)
abbrev Y2d:Nat×CO:=(903,.cells [Yx] 9 0 false)
abbrev Y2e:Nat×CO:=(865,.cells [Y5] 9 0 false)
abbrev Y2f:Nat×CO:=(849,.cells [Y4] 9 0 false)
abbrev Y2g:Nat×CO:=(843,.cells [Y7] 9 0 false)
abbrev Y2h:Nat×CO:=(837,.cells [Y5] 9 0 false)
abbrev Y2i:Nat×CO:=(226,.cells [Y5] 9 0 false)
abbrev Y2j:Nat×CO:=(222,.cells [Y8] 9 0 false)
abbrev Y2k:Nat×CO:=(216,.cells [Y8] 9 0 false)
abbrev Y2l:Nat×CO:=(212,.cells [Yx] 9 0 false)
abbrev Y2m:Nat×CO:=(206,.cells [Y7] 9 0 false)
abbrev Y2n:Nat×CO:=(202,.cells [Y5] 9 0 false)
abbrev Y2o:Nat×CO:=(200,.cells [Y4] 9 0 false)
abbrev Y2p:Nat×CO:=(3298,.cells [bF,Y5] 24 0 false)
abbrev Y2q:Nat×CO:=(3294,.cells [bF,Y5] 24 0 false)
abbrev Y2r:Nat×CO:=(3224,.cells [bF,Y7] 24 0 false)
abbrev Y2s:Nat×CO:=(3220,.cells [bF,Y7] 24 0 false)
abbrev Y2t:Nat×CO:=(3219,.cells [bF,Y5] 24 0 false)
abbrev Y2u:Nat×CO:=(3212,.cells [bF,Y5] 24 0 false)
abbrev Y2v:Nat×CO:=(3202,.cells [bF,Y5] 24 0 false)
abbrev Y2w:Nat×CO:=(3200,.cells [bF,Y5] 24 0 false)
abbrev Y2x:Nat×CO:=(3198,.cells [bT,Yg] 24 0 false)
abbrev Y2y:Nat×CO:=(3194,.cells [bT,Yg] 24 0 false)
abbrev Y2z:Nat×CO:=(3188,.cells [bF,Yx] 24 0 false)
abbrev Y30:Nat×CO:=(3184,.cells [bF,Yx] 24 0 false)
abbrev Y31:Nat×CO:=(3182,.cells [bT,Y4] 24 0 false)
abbrev Y32:Nat×CO:=(3180,.cells [bF,Y7] 24 0 false)
abbrev Y33:Nat×CO:=(3176,.cells [bT,Y4] 24 0 false)
abbrev Y34:Nat×CO:=(3172,.cells [bF,Y7] 24 0 false)
abbrev Y35:Nat×CO:=(3170,.cells [bT,Y4] 24 0 false)
abbrev Y36:Nat×CO:=(3166,.cells [bT,Y4] 24 0 false)
abbrev Y37:Nat×CO:=(3162,.cells [bF,Y6] 24 0 false)
abbrev Y38:Nat×CO:=(3154,.cells [bT,Y4] 24 0 false)
abbrev Y39:Nat×CO:=(3150,.cells [bT,Y4] 24 0 false)
abbrev Y3a:Nat×CO:=(8935,.cells [Y7,(nI 5),(sL 8945 1 1),z0,(nI 0)] 58 0 false)
abbrev Y3b:Nat×CO:=(8705,.cells [Y5,(nI 5),(sL 8715 1 1),z0,(nI 0)] 58 0 false)
abbrev Y3c:Nat×CO:=(8573,.cells [Y8,(nI 5),(sL 8583 1 1),z0,(nI 0)] 58 0 false)
abbrev Y3e:Tr:=tN (pP 824) (tN Y17 (tN Yc (tL (sL 3293 2 2)) tO) (tL (sT [58,97]))) (tN (nI 3) Y3n Y4v)
abbrev Y3f:Nat×CO:=(3669,.cells [Y4,Y6] 9 0 false)
abbrev Y3g:Tr:=tN Ye (tN Yc (tL (sL 3436 1 1)) tO) tT
abbrev Y3j:Nat×CO:=(3436,.cells [Y5] 9 0 false)
abbrev Y3k:Nat×CO:=(3156,.cells [] 111 0 false)
abbrev Y4a:Tr:=tN bT (tL (fL [121])) tO
abbrev Y4l:Tr:=tN bT (tL (pP 4535)) tO
abbrev Y3s:Tr:=tN bF (tN Y18 Y4a tT) (tN (nI 3) Y4l tT)
abbrev Y3w:Tr:=tN Yc (tL (sL 3435 3 3)) tO
abbrev Y3x:Tr:=tN bT (tL (sL 3224 1 1)) tO
abbrev Y3y:Tr:=tN Yc (tL (sL 3298 1 1)) tO
abbrev Y41:Tr:=tN Y3h (tN bF Yl tT) (tN Y6 Yl tT)
abbrev Y43:Tr:=tN bT (tL Y3h) tO
abbrev Y45:Nat×CO:=(8929,.cells [(sT [])] 9 0 false)
abbrev Y46:Tr:=tN bF (tN bT (tL Y4) tO) tT
abbrev Y47:Tr:=tN bT (tN (.pointer (some ⟨9242,3,none⟩)) tO tO) tO
abbrev Y48:Tr:=tN Ye (tN (sL 1054 1 1) Y3x (tN Y3d (tL Ye) tO)) Y1y
abbrev Y49:Value:=fL [120]
abbrev Y4b:Nat×CO:=(8945,.cells [Y5] 9 0 false)
abbrev Y4c:Nat×CO:=(8923,.cells [Y7] 9 0 false)
abbrev Y4d:Nat×CO:=(8917,.cells [Y5] 9 0 false)
abbrev Y4e:Nat×CO:=(8715,.cells [Y8] 9 0 false)
abbrev Y4f:Nat×CO:=(8697,.cells [Y5] 9 0 false)
abbrev Y4g:Nat×CO:=(8691,.cells [Y8] 9 0 false)
abbrev Y4h:Nat×CO:=(8583,.cells [Yx] 9 0 false)
abbrev Y4i:Nat×CO:=(8565,.cells [Y8] 9 0 false)
abbrev Y4j:Nat×CO:=(8559,.cells [Yx] 9 0 false)
abbrev Y4k:Tr:=tN (sL 1048 1 1) (tN bF Y3o tT) (tN bT Yl Y11)
abbrev Y4m:Nat×CO:=(11621,.cells [Y4,Y6,(sT []),(sT [])] 9 0 false)
abbrev Y4n:Tr:=tN Ye (tN (sL 1054 1 1) Y3x (tL Y3d)) Y1y
abbrev Y4r:Tr:=tN Yc (tN bF Y3w tT) (tN bF Y3i tT)
abbrev Y4t:Tr:=tN (pP 824) (tL (sL 11621 2 4)) tO
def Zdcw:St:=⟨⟨(tN bF (tN Ye (tN Yc (tN bT (tN Ye (tL Y49) (tL Ye)) (tN bF (tL Y18) Y42)) (tN Y3z (tN Y44 (tL (fL [97])) (tL bF)) (tN bF (tL (nI 5)) Y11))) (tN Y18 (tN Y3u (tN (pP 824) (tL Y17) Y42) (tN Yc (tL bF) (tL bF))) (tN Y3v (tN Yc (tL (pP 1366)) (tL Ye)) (tN Y3h (tL bF) (tL Y6))))) (tN (pP 824) (tN Y17 (tN Y40 (tN Ye (tL (sL 1054 1 1)) (tL (sL 2271 3 3))) (tN bF (tL bF) (tL bF))) (tN Yv (tN (sL 1024 2 2) (tL (sL 1364 1 1)) (tL bF)) (tN (pP 824) (tL bF) (tN (.tuple ⟨[Y6,bT]⟩) tO tO)))) (tN Y6 (tN Yn (tN Y3d (tL Yc) (tL bF)) (tN bF (tL Y17) (tN (.tuple ⟨[Y6,bT]⟩) tO tO))) (tN Y10 (tN (pP 824) (tL Y18) (tL (sL 3141 3 3))) (tN (sL 1048 1 1) (tL bF) tT))))),204⟩,1575,[Y1h,Yj,Y25,Y26,Y27,Y1a,Y1i,Y1j,Y1k,Y1l,Ya,Y1b,Y13,Y1m,Yz,Y1c,Y1n,Y1o,Ym,Y1p,Y1q,Y1r,Y1s,Y1t,Y1u,Yk,Y1d,Y14,Y1v,Y1w,Y1x,Y28,Yo,Y29,Y2a,Y1z,Y2b,Yp,Y2c,Y2d,Y20,Y2e,Yq,Y2f,Y2g,Y2h,Yw,Y9,Yf,Y2,Y3,Yr,Y2i,Yh,Y2j,Ys,Y2k,Yi,Y2l,Yt,Y2m,Yb,Y2n,Y2o,Y1]⟩
def Zdcx:St:=⟨⟨(tN bF (tN Ye (tN Yc (tN bT (tN Ye (tN Y49 Y43 tT) Y3g) (tN bF (tN Y18 Y4a tT) (tN (nI 3) tT tT))) (tN Y3z Y3p (tN bF Y3q (tN (pP 824) (tL Y18) tT)))) (tN Y18 (tN Y3u Y3e (tN Yc (tN bF Y3w tT) (tN bF (tL Y18) tT))) (tN Y3v Y1e (tN Y3h (tN bF Yl tT) (tN Y6 tT tT))))) (tN (pP 824) (tN Y17 (tN Y40 Y4n (tN bF (tN bF Y3y tT) (tN bF tT tT))) (tN Yv Y3r (tN (pP 824) (tN bF Yl Y42) (tN (.tuple ⟨[Y6,bT]⟩) Y42 tT)))) (tN Y6 (tN Yn (tN Y3d (tN Yc Y3n tT) Y3l) (tN bF (tN Y17 (tN Yc Y42 tO) Y11) (tN (.tuple ⟨[Y6,bT]⟩) (tL Y18) (tL Y6)))) Yu))),204⟩,2270,[Y23,Y3f,Y3j,Y16,Y2p,Y2q,Y1f,Y2r,Y2s,Y2t,Y2u,Y19,Y24,Y2v,Y2w,Y2x,Y2y,Y22,Y2z,Y30,Y31,Y32,Y33,Y34,Y35,Y36,Y37,Y1g,Y3k,Y38,Y39,Y1h,Yj,Y25,Y26,Y27,Y1a,Y1i,Y1j,Y1k,Y1l,Ya,Y1b,Y13,Y1m,Yz,Y1c,Y1n,Y1o,Ym,Y1p,Y1q,Y1r,Y1s,Y1t,Y1u,Yk,Y1d,Y14,Y1v,Y1w,Y1x,Y28,Yo,Y29,Y2a,Y1z,Y2b,Yp,Y2c,Y2d,Y20,Y2e,Yq,Y2f,Y2g,Y2h,Yw,Y9,Yf,Y2,Y3,Yr,Y2i,Yh,Y2j,Ys,Y2k,Yi,Y2l,Yt,Y2m,Yb,Y2n,Y2o,Y1]⟩
def Zdcy:St:=⟨⟨(tN bF (tN Ye (tN Yc (tN bT (tN Ye (tN Y49 Y43 tT) Y3g) Y3s) Y12) (tN Y18 (tN Y3u Y3e Y4r) (tN Y3v Y1e Y41))) (tN (pP 824) (tN Y17 (tN Y40 Y4n (tN bF (tN bF Y3y tT) Y46)) Y15) (tN Y6 Yy Yu))),204⟩,3446,[Y23,Y3f,Y3j,Y16,Y2p,Y2q,Y1f,Y2r,Y2s,Y2t,Y2u,Y19,Y24,Y2v,Y2w,Y2x,Y2y,Y22,Y2z,Y30,Y31,Y32,Y33,Y34,Y35,Y36,Y37,Y1g,Y3k,Y38,Y39,Y1h,Yj,Y25,Y26,Y27,Y1a,Y1i,Y1j,Y1k,Y1l,Ya,Y1b,Y13,Y1m,Yz,Y1c,Y1n,Y1o,Ym,Y1p,Y1q,Y1r,Y1s,Y1t,Y1u,Yk,Y1d,Y14,Y1v,Y1w,Y1x,Y28,Yo,Y29,Y2a,Y1z,Y2b,Yp,Y2c,Y2d,Y20,Y2e,Yq,Y2f,Y2g,Y2h,Yw,Y9,Yf,Y2,Y3,Yr,Y2i,Yh,Y2j,Ys,Y2k,Yi,Y2l,Yt,Y2m,Yb,Y2n,Y2o,Y1]⟩
def Zdcz:St:=⟨⟨(tN bF (tN Ye (tN Yc (tN bT (tN Ye (tN Y49 Y43 Yl) Y3g) Y3s) Y12) (tN Y18 (tN Y3u Y21 Y4r) (tN Y3v Y1e Y41))) (tN (pP 824) (tN Y17 (tN Y40 Y48 (tN bF (tN bF Y3y tT) Y46)) Y15) (tN Y6 Yy (tN Y10 Y4p Y4k)))),204⟩,4645,[Yd,Y4b,Y3a,Y45,Y4c,Y4d,Y4e,Y3b,Y4f,Y4g,Y4h,Y3c,Y4i,Y4j,Y23,Y3f,Y3j,Y16,Y2p,Y2q,Y1f,Y2r,Y2s,Y2t,Y2u,Y19,Y24,Y2v,Y2w,Y2x,Y2y,Y22,Y2z,Y30,Y31,Y32,Y33,Y34,Y35,Y36,Y37,Y1g,Y3k,Y38,Y39,Y1h,Yj,Y25,Y26,Y27,Y1a,Y1i,Y1j,Y1k,Y1l,Ya,Y1b,Y13,Y1m,Yz,Y1c,Y1n,Y1o,Ym,Y1p,Y1q,Y1r,Y1s,Y1t,Y1u,Yk,Y1d,Y14,Y1v,Y1w,Y1x,Y28,Yo,Y29,Y2a,Y1z,Y2b,Yp,Y2c,Y2d,Y20,Y2e,Yq,Y2f,Y2g,Y2h,Yw,Y9,Yf,Y2,Y3,Yr,Y2i,Yh,Y2j,Ys,Y2k,Yi,Y2l,Yt,Y2m,Yb,Y2n,Y2o,Y1]⟩
def Zdda:St:=⟨⟨(tN bF (tN Ye (tN Yc (tN bT (tN Ye (tN Y49 Y43 Yl) Y3g) (tN bF (tN Y18 Y4a Yl) (tN (nI 3) Y4l tT))) (tN Y3z (tN Y44 (tN (fL [97]) (tN Yc tT tO) Y47) Y4o) (tN bF Y3q (tN (pP 824) Y3i tT)))) (tN Y18 (tN Y3u Y21 (tN Yc (tN bF Y3w (tN bT (tL Ye) tO)) (tN bF Y3i tT))) (tN Y3v (tN Yc (tN (pP 1366) Yl (tN Y3h (tL (nI 0)) tO)) (tN Ye Y4w tT)) Y41))) (tN (pP 824) (tN Y17 (tN Y40 Y48 (tN bF (tN bF Y3y Yl) Y46)) (tN Yv (tN (sL 1024 2 2) (tN (sL 1364 1 1) Y4s (tN bT (tL (sL 8929 0 1)) tO)) (tN bF (tN Y44 tT tO) tT)) Y3t)) (tN Y6 (tN Yn (tN Y3d (tN Yc Y3n (tN bT (tL (pP 9242)) tO)) Y3l) (tN bF (tN Y17 (tN Yc Y42 tO) Y4t) Y4u)) (tN Y10 (tN (pP 824) (tN Y18 Y3o Y4s) Y3m) Y4k)))),204⟩,5820,[Y4m,Yd,Y4b,Y3a,Y45,Y4c,Y4d,Y4e,Y3b,Y4f,Y4g,Y4h,Y3c,Y4i,Y4j,Y23,Y3f,Y3j,Y16,Y2p,Y2q,Y1f,Y2r,Y2s,Y2t,Y2u,Y19,Y24,Y2v,Y2w,Y2x,Y2y,Y22,Y2z,Y30,Y31,Y32,Y33,Y34,Y35,Y36,Y37,Y1g,Y3k,Y38,Y39,Y1h,Yj,Y25,Y26,Y27,Y1a,Y1i,Y1j,Y1k,Y1l,Ya,Y1b,Y13,Y1m,Yz,Y1c,Y1n,Y1o,Ym,Y1p,Y1q,Y1r,Y1s,Y1t,Y1u,Yk,Y1d,Y14,Y1v,Y1w,Y1x,Y28,Yo,Y29,Y2a,Y1z,Y2b,Yp,Y2c,Y2d,Y20,Y2e,Yq,Y2f,Y2g,Y2h,Yw,Y9,Yf,Y2,Y3,Yr,Y2i,Yh,Y2j,Ys,Y2k,Yi,Y2l,Yt,Y2m,Yb,Y2n,Y2o,Y1]⟩
def Zddb:St:=⟨⟨(tN bT (tN Ye (tN Yc (tN bT (tN Ye (tN Y49 (tN bT (tL Y3h) (tL (sL 11750 1 1))) Yl) (tN Ye (tN Yc (tL (sL 3436 1 1)) tO) (tN bT (tL Y17) tO))) (tN bF (tN Y18 (tN bT (tL (fL [121])) (tL Y49)) Yl) (tN (nI 3) Y4l (tN bT (tL Y17) tO)))) (tN Y3z (tN Y44 (tN (fL [97]) (tN Yc tT tT) Y47) (tN bF (tN (pP 3161) tT tO) (tN (nI 1) tT tO))) (tN bF (tN (nI 5) (tN (nI 2) tT tT) (tN (fL [115]) (tL (nI 2)) tO)) (tN (pP 824) Y3i Y3o)))) (tN Y18 (tN Y3u (tN (pP 824) (tN Y17 (tN Yc (tL (sL 3293 2 2)) (tL (nI 5))) Y4q) (tN (nI 3) Y3n (tN (fR [99]) Y4v tO))) (tN Yc (tN bF (tN Yc (tL (sL 3435 3 3)) (tL (nI 1))) (tN bT (tL Ye) tO)) (tN bF Y3i Yl))) (tN Y3v (tN Yc (tN (pP 1366) (tN bT tT Y11) (tN Y3h (tL (nI 0)) tO)) (tN Ye Y4w Yl)) (tN Y3h (tN bF Yl Yl) (tN Y6 Yl (tN bT (tL (sL 11752 1 1)) tO)))))) (tN (pP 824) (tN Y17 (tN Y40 (tN Ye (tN (sL 1054 1 1) (tN bT (tL (sL 3224 1 1)) (tL (sL 12447 5 5))) (tN Y3d (tL Ye) tO)) (tN (sL 2271 3 3) (tN Yc (tL (sL 3669 2 2)) tO) (tN (pP 824) (tN (.pointer (some ⟨1339,2,none⟩)) tO tO) tO))) (tN bF (tN bF (tN Yc (tL (sL 3298 1 1)) (tL (sL 12871 1 1))) Yl) (tN bF (tN bT (tL Y4) tO) Yl))) (tN Yv (tN (sL 1024 2 2) (tN (sL 1364 1 1) (tN Y3d tT tT) (tN bT (tL (sL 8929 0 1)) tO)) (tN bF (tN Y44 tT tO) Yl)) (tN (pP 824) (tN bF Yl (tN (nI 3) tT tO)) (tN (.tuple ⟨[Y6,bT]⟩) (tN (nI 3) (tL Ye) tO) Y43)))) (tN Y6 (tN Yn (tN Y3d (tN Yc (tN Yc (tL (nI 2)) tT) (tN bT (tL (pP 9242)) tO)) (tN bF (tN (sL 3161 2 2) tT tO) (tN (sL 3219 1 1) Y4v tO))) (tN bF (tN Y17 (tN Yc Y42 tT) Y4t) (tN (.tuple ⟨[Y6,bT]⟩) Y3i (tN Y6 tT tO)))) (tN Y10 (tN (pP 824) (tN Y18 (tN bT Y11 (tL Y3h)) Y4s) (tN (sL 3141 3 3) (tN bT (tL (sL 4535 3 3)) tO) Y3o)) (tN (sL 1048 1 1) (tN bF Y3o Yl) (tN bT Yl (tN (pP 824) (tL Y49) tO))))))),204⟩,6450,[(12871,.cells [(sL 12867 5 5)] 35 0 false),(12867,.cells [bF,Y7,bT,Yg,bF,Y5,bT,Y6,bF,Y8] 24 0 false),(12452,.cells [bF,Y8] 24 0 false),(12448,.cells [bF,Y7] 24 0 false),(12447,.cells [bF,Y8,bF,Y5,bF,Y7,bT,Y6,bT,Yg] 24 0 false),(11752,.cells [bF,Y7] 24 0 false),(11750,.cells [bF,Y8] 24 0 false),(11746,.cells [bF,Y8] 24 0 false),(11742,.cells [bF,Y7] 24 0 false),(11640,.cells [bT,Yg] 24 0 false),Y4m,Yd,Y4b,Y3a,Y45,Y4c,Y4d,Y4e,Y3b,Y4f,Y4g,Y4h,Y3c,Y4i,Y4j,Y23,Y3f,Y3j,Y16,Y2p,Y2q,Y1f,Y2r,Y2s,Y2t,Y2u,Y19,Y24,Y2v,Y2w,Y2x,Y2y,Y22,Y2z,Y30,Y31,Y32,Y33,Y34,Y35,Y36,Y37,Y1g,Y3k,Y38,Y39,Y1h,Yj,Y25,Y26,Y27,Y1a,Y1i,Y1j,Y1k,Y1l,Ya,Y1b,Y13,Y1m,Yz,Y1c,Y1n,Y1o,Ym,Y1p,Y1q,Y1r,Y1s,Y1t,Y1u,Yk,Y1d,Y14,Y1v,Y1w,Y1x,Y28,Yo,Y29,Y2a,Y1z,Y2b,Yp,Y2c,Y2d,Y20,Y2e,Yq,Y2f,Y2g,Y2h,Yw,Y9,Yf,Y2,Y3,Yr,Y2i,Yh,Y2j,Ys,Y2k,Yi,Y2l,Yt,Y2m,Yb,Y2n,Y2o,Y1]⟩
theorem Zcyg:Zcox 9 Zcxn = .seq (.region 11 opsD true) (Zcox 10 Zcxn):=by kernel_rfl
theorem hbD:Zcqx prog 5=true:=by kernel_rfl
theorem pD0:runM prog 5 KD (Zcov prog 5 KD) true 100000 9 Zcxn ⟨⟨.lf,204⟩,100,hx 301 opNames⟩=some (99991,Zcox 9 Zcxn,Zdcw):=by kernel_rfl
theorem pDq:Zdga opsD=some qD:=by kernel_rfl
theorem pD1:regM prog 5 KD opsD [] 88 (qD.drop 0) [] Zdcw=some (qD.drop 88,[(21,3161)],Zdcx):=by kernel_rfl
theorem pD2:regM prog 5 KD opsD [] 7 (qD.drop 88) [(21,3161)] Zdcx=some (qD.drop 95,[(89,4535),(21,3161)],Zdcy):=by kernel_rfl
theorem pD3:regM prog 5 KD opsD [] 4 (qD.drop 95) [(89,4535),(21,3161)] Zdcy=some (qD.drop 99,[(89,4535),(21,3161)],Zdcz):=by kernel_rfl
theorem pD4:regM prog 5 KD opsD [] 9 (qD.drop 99) [(89,4535),(21,3161)] Zdcz=some (qD.drop 108,[(101,9242),(89,4535),(21,3161)],Zdda):=by kernel_rfl
theorem pD5:regS prog 5 KD opsD [] (qD.drop 108) [(101,9242),(89,4535),(21,3161)] Zdda=some Zddb:=by kernel_rfl
theorem pD6:okV (outX prog fnD 100 (Zcol prog 5 KD (Zcov prog 5 KD) true 99990 (Zcox 10 Zcxn) Zddb))=true:=by kernel_rfl
theorem regD:regS prog 5 KD opsD [] qD [] Zdcw=some Zddb:=by
 have a:=Zdhb pD1;have e:qD.drop 0=qD:=rfl;rw[e]at a;rw[a,Zdhb pD2,Zdhb pD3,Zdhb pD4];exact pD5
theorem Zdia:okV (KX prog 5 100000 K0d 60 (.fn 5) [] 100 (hx 301 opNames))=true:=by
 refine Zcur (n':=99990) (c':=Zcox 10 Zcxn) (s':=Zddb) Zdff Zdab Zcxo (by rw[Zdfh];rfl) ?_ pD6;rw[Zdfh];refine(Zcup pD0).trans ?_;rw[Zcyg];exact Zdhh (n:=99989) pDq regD
theorem beg12 {w:World} (a:GX 5 301 opNames w):Calls prog 5 #[] w λe w'=>e = .returned (.bool true)/\Below w.heap.size w w':=
 Zcuu (Zcmh Zcwo mixed Zctu 100000 60) Zctu hbD (by decide) (by decide) Zdia a
end Exe
open Go.Proofs.Tryz
section
variable {P:Program} {ops:Array Oper} {Q:Exit->Act->World->Prop} {md:Region.Mode} {S:Bool->World->Prop} {st:Nat}
theorem tkS (i:Nat) {oi:Oper} {v:Value} {d:Nat} {b:Array Bool} {a:Act} {w:World}
  (h:wpAnyS P md ops Q S st d (b.setIfInBounds i true) (a.put oi.dst v) w)
  (hi:ops[i]? =some oi:=by simp only[List.getElem?_toArray,List.getElem?_cons_succ,List.getElem?_cons_zero];rfl)
  (y:∀w,S false w->(execOp a.eval oi).run P w = .ok (.value v) w:=by intro w f;obtain⟨e,_⟩:=f;obtain rfl:=e rfl;clear e;go_simp;try with_reducible rfl)
  (q:Region.noSelect ops=true:=by kernel_rfl) (g:Zjk md ops b=true:=by kernel_rfl) (k:Zbsp md ops i 20 st=true:=by kernel_rfl) (j:(i==st)=false:=by kernel_rfl) (o:Region.free md ops b i=true:=by kernel_rfl) (p:(Region.ready md ops b).contains i=true:=by kernel_rfl)
  (m:∀c a w,Q (.panic c) (a.put oi.dst v) w->Q (.panic c) a w:=by exact λ_ _ _ h=>h) (l:b.getD st false=false:=by kernel_rfl) (r:Region.wanted oi (yielded ops a.tmps)=true:=by rfl) (n:S false w:=by assumption):wpAnyS P md ops Q S st (d+1) b a w:=
 Zbty hi q g k j o p m l (Or.inl ⟨r,y⟩) n h
theorem tkZ (i:Nat) {oi:Oper} {v:Value} {e:Nat} {d:Array Bool} {a:Act} {w:World} {b:Bool}
  (h:wpAnyS P md ops Q S st e (d.setIfInBounds i true) (a.put oi.dst v) w)
  (hi:ops[i]? =some oi:=by simp only[List.getElem?_toArray,List.getElem?_cons_succ,List.getElem?_cons_zero];rfl)
  (y:∀w,(∃b,S b w)->(execOp a.eval oi).run P w = .ok (.value v) w:=by intro w f;obtain⟨_,_,q⟩:=f;go_simp;try with_reducible rfl)
  (o:Region.noSelect ops=true:=by kernel_rfl) (g:(i==st)=false:=by kernel_rfl) (m:Region.free md ops d i=true:=by kernel_rfl) (n:(Region.ready md ops d).contains i=true:=by kernel_rfl)
  (j:∀c a w,Q (.panic c) (a.put oi.dst v) w->Q (.panic c) a w:=by exact λ_ _ _ h=>h) (l:d.getD st false=b:=by kernel_rfl) (p:Region.wanted oi (yielded ops a.tmps)=true:=by rfl) (k:S b w:=by assumption):wpAnyS P md ops Q S st (e+1) d a w:=
 Zbtz hi o g m n j l (Or.inl ⟨p,y⟩) k h
theorem tS (i:Nat) {oi:Oper} {v:Value} {d:Nat} {b:Array Bool} {a:Act} {w:World} (y:∀w,S false w->(execOp a.eval oi).run P w = .ok (.value v) w)
  (h:wpAnyS P md ops Q S st d (b.setIfInBounds i true) (a.put oi.dst v) w)
  (hi:ops[i]? =some oi:=by simp only[List.getElem?_toArray,List.getElem?_cons_succ,List.getElem?_cons_zero];rfl)
  (o:Region.noSelect ops=true:=by kernel_rfl) (e:Zjk md ops b=true:=by kernel_rfl) (g:Zbsp md ops i 20 st=true:=by kernel_rfl) (f:(i==st)=false:=by kernel_rfl) (m:Region.free md ops b i=true:=by kernel_rfl) (n:(Region.ready md ops b).contains i=true:=by kernel_rfl)
  (k:∀c a w,Q (.panic c) (a.put oi.dst v) w->Q (.panic c) a w:=by exact λ_ _ _ h=>h) (j:b.getD st false=false:=by kernel_rfl) (p:Region.wanted oi (yielded ops a.tmps)=true:=by rfl) (l:S false w:=by assumption):wpAnyS P md ops Q S st (d+1) b a w:=
 Zbty hi o e g f m n k j (Or.inl ⟨p,y⟩) l h
theorem tT (i:Nat) {oi:Oper} {v:Value} {d:Nat} {b:Array Bool} {a:Act} {w:World} (h:wpAnyS P md ops Q S st d (b.setIfInBounds i true) (a.put oi.dst v) w)
  (hi:ops[i]? =some oi:=by simp only[List.getElem?_toArray,List.getElem?_cons_succ,List.getElem?_cons_zero];rfl)
  (y:∀w,S false w->(execOp a.eval oi).run P w = .ok (.value v) w:=by intro w m;go_simp;try with_reducible rfl)
  (p:Region.noSelect ops=true:=by kernel_rfl) (e:Zjk md ops b=true:=by kernel_rfl) (g:Zbsp md ops i 20 st=true:=by kernel_rfl) (f:(i==st)=false:=by kernel_rfl) (n:Region.free md ops b i=true:=by kernel_rfl) (o:(Region.ready md ops b).contains i=true:=by kernel_rfl)
  (k:∀c a w,Q (.panic c) (a.put oi.dst v) w->Q (.panic c) a w:=by exact λ_ _ _ h=>h) (j:b.getD st false=false:=by kernel_rfl) (q:Region.wanted oi (yielded ops a.tmps)=true:=by rfl) (l:S false w:=by assumption):wpAnyS P md ops Q S st (d+1) b a w:=
 Zbty hi p e g f n o k j (Or.inl ⟨q,y⟩) l h
theorem zS (i:Nat) {oi:Oper} {v:Value} {e:Nat} {d:Array Bool} {a:Act} {w:World} {b:Bool} (y:∀w,(∃b,S b w)->(execOp a.eval oi).run P w = .ok (.value v) w)
  (h:wpAnyS P md ops Q S st e (d.setIfInBounds i true) (a.put oi.dst v) w)
  (hi:ops[i]? =some oi:=by simp only[List.getElem?_toArray,List.getElem?_cons_succ,List.getElem?_cons_zero];rfl)
  (n:Region.noSelect ops=true:=by kernel_rfl) (f:(i==st)=false:=by kernel_rfl) (l:Region.free md ops d i=true:=by kernel_rfl) (m:(Region.ready md ops d).contains i=true:=by kernel_rfl)
  (g:∀c a w,Q (.panic c) (a.put oi.dst v) w->Q (.panic c) a w:=by exact λ_ _ _ h=>h) (k:d.getD st false=b:=by kernel_rfl) (o:Region.wanted oi (yielded ops a.tmps)=true:=by rfl) (j:S b w:=by assumption):wpAnyS P md ops Q S st (e+1) d a w:=
 Zbtz hi n f l m g k (Or.inl ⟨o,y⟩) j h
theorem rdS (rs:List Nat) {c:Nat} {b:Array Bool} {a:Act} {w:World} (h:AllReadyS P md ops Q S st c b a w rs) (e:Region.ready md ops b=rs:=by kernel_rfl) (d:rs≠[]:=by simp):wpAnyS P md ops Q S st (c+1) b a w:=Zbtx e d h
theorem rcS (b:Bool) {d:Nat} {c:Array Bool} {a:Act} {w:World} {i:Nat} {o:Oper} {rs:List Nat}
 (h:∀e:Act->World->Prop,Shut (∀a w,S b w->(S b w->wpAnyS P md ops Q S st d (c.setIfInBounds i true) a w)->e a w)->if Region.wanted o (yielded ops a.tmps)=true then Oper.wp P o a w e Q else e (a.put o.dst undef) w)
 (j:AllReadyS P md ops Q S st d c a w rs) (g:ops[i]? =some o:=by simp only[List.getElem?_toArray,List.getElem?_cons_succ,List.getElem?_cons_zero];rfl) (f:(c.setIfInBounds i true).getD st false=b:=by kernel_rfl):AllReadyS P md ops Q S st d c a w (i::rs):=AllReadyS.cons g f h j
end
section
open Go.RowKit Go.Shelf
structure LabKeys (P:Program) (t kt:TypeId):Prop where
 und:∃el kd,P.underlying t=some (.map kt el)/\P.underlying kt=some kd/\Exe.wideK kd=true/\∀w,(zeroValue el).run P w = .ok (.agg #[]) w
 eq:∀(a b:Lb) w,(Op.equal kt (lv a) (lv b)).run P w = .ok (decide (a=b)) w
 chk:∀(a:Lb) em w,(Instr.checkKey em 10000 kt (lv a)).run P w = .ok () w
 bits:∀a:Lb,Instr.sameBits 10000 (lv a) (lv a)=true
def LM (w:World) (b:Nat) (ls:List Lb):Prop:=RM w b (lkv ls)/\ls.Nodup
def hasL (x:Lb) (ls:List Lb):Bool:=ls.any λy=>decide (y=x)
theorem Zdba {x:Lb} {ls:List Lb}:hasL x ls=true↔x∈ls:=by
 grind [hasL]
theorem Zdbb {x:Lb} {ls:List Lb} (h:x∉ls):hasL x ls=false:=Bool.eq_false_iff.2 λa=>h (Zdba.1 a)
def addL (x:Lb) (ls:List Lb):List Lb:=if hasL x ls then ls else ls ++ [x]
variable {P:Program} {t kt:TypeId} {w:World} {b:Nat} {ls:List Lb}
theorem Zczc (h:LabKeys P t kt) (x:Lb) (w:World):∀(c:List MapEntry) (ls:List Lb) (j:Nat),c.map kvE=lkv ls->
  (x∉ls/\(Instr.findAsking kt (lv x) c j).run P w = .ok none w)\/∃i e,ls[i]? =some x/\c[i]? =some e/\e.key=lv x/\e.val = .agg #[]/\(Instr.findAsking kt (lv x) c j).run P w = .ok (some (j+i,.agg #[])) w
 | [],[],j,_=> .inl ⟨by simp,rfl⟩
 | [],_::_,_,h=>by cases h
 | _::_,[],_,h=>by cases h
 | e::c,y::ls,j,hm=>by
  unfold lkv at hm;rw[List.map_cons,List.map_cons,List.cons.injEq]at hm;obtain⟨l,o⟩:=hm;have f:e.key=lv y:=congrArg Prod.fst l;have m:e.val = .agg #[]:=congrArg Prod.snd l;have d:=h.eq x y w
  by_cases a:x=y
  ·subst a
   rw[decide_eq_true rfl]at d;exact .inr ⟨0,e,rfl,rfl,f,m,by simp[Instr.findAsking,f,m,Sem.run_bind,d,Result.andThen]⟩
  ·rw[decide_eq_false a]at d
   rcases Zczc h x w c ls (j+1) o with⟨g,k⟩|⟨i,n,g,k,p,q,r⟩
   ·exact .inl ⟨by simp[a,g],by simp[Instr.findAsking,f,Sem.run_bind,d,Result.andThen,k]⟩
   ·exact .inr ⟨i+1,n,by simpa using g,by simpa using k,p,q,by simp[Instr.findAsking,f,Sem.run_bind,d,Result.andThen,r,Nat.add_assoc,Nat.add_comm 1 i]⟩
theorem LM.get (h:LabKeys P t kt) (n:LM w b ls) (x:Lb):(Instr.lookup t (.map (some b)) (lv x) true).run P w = .ok (.tuple #[.agg #[],.bool (hasL x ls)]) w:=by
 obtain⟨q,u,k,a,c,o⟩:=h.und;obtain⟨⟨l,p,j,f,_,_⟩,_⟩:=n
 rcases Zczc h x w l.toList ls 0 f with⟨d,g⟩|⟨i,e,d,g,r,s,m⟩
 ·rw[Zdbb d]
  simp only[Instr.lookup,Sem.run_bind,run_underlying k,Result.andThen_ok,getObj,Sem.run,j,Exe.findKey_wide a c];simp[g,h.chk,o]
 ·rw[Zdba.2 (List.mem_of_getElem? d)]
  simp only[Instr.lookup,Sem.run_bind,run_underlying k,Result.andThen_ok,getObj,Sem.run,j,Exe.findKey_wide a c];simp[m,h.chk]
theorem LM.put (h:LabKeys P t kt) (E:LM w b ls) (x:Lb):
  ∃o,(Instr.mapUpdate t (.map (some b)) (lv x) (.agg #[])).run P w = .ok () { w with heap:=w.heap.setIfInBounds b o }/\LM { w with heap:=w.heap.setIfInBounds b o } b (addL x ls):=by
 obtain⟨I,J,G,m,q,l⟩:=h.und;have n:=E.1.lt;obtain⟨⟨es,j,u,f,F,d⟩,p⟩:=E
 rcases Zczc h x w es.toList ls 0 f with⟨r,s⟩|⟨i,e,r,s,A,H,B⟩
 ·refine⟨.map (es.push ⟨lv x,.agg #[],j⟩) (j+1),?_,?_⟩
  ·simp only[Instr.mapUpdate,Sem.run_bind,run_underlying G,Result.andThen_ok,getObj,setObj,Sem.run,u,h.chk,Exe.findKey_wide m q,s]
  ·rw[addL,Zdbb r,if_neg (by simp)]
   refine⟨⟨es.push ⟨lv x,.agg #[],j⟩,j+1,by simp[n],?_,?_,?_⟩,?_⟩
   ·simp[f,kvE,lkv]
   ·rw[Array.toList_push,List.map_append,List.nodup_append]
    refine⟨F,by simp,λy v z l=>?_⟩;obtain⟨e,a,rfl⟩:=List.mem_map.1 v;simp at l;subst l;exact Nat.ne_of_lt (d e a)
   ·intro e a
    rw[Array.toList_push]at a
    rcases List.mem_append.1 a with a|a
    ·exact Nat.lt_succ_of_lt (d e a)
    ·simp at a;subst a;exact Nat.lt_succ_self _
   ·rw[List.nodup_append]
    exact⟨p,by simp,λy v z l=>by simp at l;subst l;exact λe=>r (e▸v)⟩
 ·have c:es[i]? =some e:=by simpa using s
  have D:i<es.size:=(Array.getElem?_eq_some_iff.1 c).1;have g:es.modify i (λe=>{ e with key:=lv x,val:= .agg #[] })=es:=by
   apply Array.ext_getElem?;intro k;rw[Array.getElem?_modify]
   by_cases C:i=k
   ·subst C
    rw[if_pos rfl,c];simp[<-A,<-H]
   ·rw[if_neg C]
  refine⟨.map es j,?_,?_⟩
  ·simp only[Nat.zero_add]at B
   simp only[Instr.mapUpdate,Sem.run_bind,run_underlying G,Result.andThen_ok,getObj,setObj,Sem.run,u,h.chk,Exe.findKey_wide m q,B];simp[u,c,Instr.keyThatStays,A,h.bits,g]
  ·rw[addL,Zdba.2 (List.mem_of_getElem? r),if_pos rfl]
   exact⟨⟨es,j,by simp[n],f,F,d⟩,p⟩
section
theorem Zcyl (a b:Lb) (w:World):(Op.equal 24 (lv a) (lv b)).run prog w = .ok (decide (a=b)) w:=by
 obtain⟨p,s⟩:=a;obtain⟨q,t⟩:=b;unfold lv;have f:∀d,(Op.equalIn (d+2) 24 (.agg #[.bool p,.string s]) (.agg #[.bool q,.string t])).run prog w = .ok (decide ((p,s)=(q,t))) w:=by
  intro d;have c:prog.stoodInHeld 24=false:=by kernel_rfl
  simp[Op.equalIn,run_underlying underlying24,run_underlying underlying4,run_underlying underlying9,Sem.run_bind,c,part];have j:(s==t)=decide (s=t):=by
   cases h:(s==t)with
   | true=>rw[decide_eq_true ((MapKept.bytes_beq s t).1 h)]
   | false=>rw[decide_eq_false λe=>by rw[(MapKept.bytes_beq s t).2 e]at h;cases h]
  rw[j]
  by_cases g:p=q<;>by_cases i:s=t<;>simp[g,i]
 exact f 9998
theorem Zdby:LabKeys prog 69 24:=by
 refine⟨⟨_,_,underlying69,underlying24,rfl,?_⟩,Zcyl,?_,?_⟩
 ·intro w
  go_simp
 ·intro a e w
  unfold lv;have c:∀d,(Instr.checkKey e (d+2) 24 (.agg #[.bool a.1,.string a.2])).run prog w = .ok () w:=by
   intro d;simp[Instr.checkKey,run_underlying underlying24,run_underlying underlying4,run_underlying underlying9,Sem.run_bind,part]
  exact c 9998
 ·intro a
  unfold lv;have c:∀d,Instr.sameBits (d+2) (.agg #[.bool a.1,.string a.2]) (.agg #[.bool a.1,.string a.2])=true:=by
   intro d;simp[Instr.sameBits,(MapKept.bytes_beq a.2 a.2).2 rfl]
  exact c 9998
end
end
open Go.RowKit Go.Shelf
def SetAt (w:World) (p:Nat) (ls:List Lb):Prop:=∃m,w.cell? { block:=p,off:=0 } =some (.map m)/\((m=none/\ls = [])\/∃b,m=some b/\b≠p/\LM w b ls)
theorem LM.below {B:Nat} {w w':World} {b:Nat} {ls:List Lb} (h:LM w b ls) (c:Below B w w') (a:b<B):LM w' b ls:=⟨h.1.below c a,h.2⟩
theorem cell_below {B:Nat} {w w':World} {p o:Nat} {v:Value} (h:w.cell? { block:=p,off:=o } =some v) (b:Below B w w') (a:p<B):w'.cell? { block:=p,off:=o } =some v:=by
 unfold World.cell? at h⊢;rw[b.block p a];exact h
theorem SetAt.lt {w:World} {p:Nat} {b:List Lb} (h:SetAt w p b):p<w.heap.size:=by
 obtain⟨m,a,_⟩:=h;exact World.block_lt_of_cell? _ _ a
theorem SetAt.below {w w':World} {p:Nat} {ls:List Lb} (h:SetAt w p ls) (d:Below w.heap.size w w'):SetAt w' p ls:=by
 have a:=h.lt;obtain⟨m,g,i⟩:=h;refine⟨m,cell_below g d a,?_⟩
 rcases i with h|⟨b,e,f,c⟩
 ·exact .inl h
 ·exact .inr ⟨b,e,f,c.below d c.1.lt⟩
