import Derived.Test.YtphjfaoghphleaaGreatDoorMag
import Derived.Shelf.Spec.SlicesInsert
import Derived.Lib.AppendZerosOnto
set_option maxRecDepth 100000
set_option maxHeartbeats 4000000
namespace Go.Proofs.YtphjfaoghphleaaGreatDoor
namespace Exe
section
open Go.Lib (hid)
open Go.Proofs.Tryz Go
variable {P:Program} {Z:TypeId->Nat} {G:Nat} {r:Ren} {h:Hp} {w w':World}
theorem Rep.grown {k:Nat} (u:Rep (Zcmd k) Z G r h w) {h0:Hp} (d:∀m o,look h0 m=some o->look h m=some o) {R:Option Nat} (j:∀b,R=some b->Own r h b) (I:∀b,R=some b->∀m o e,look h0 m=some o->r m=some e->e.b≠b)
  (y:w.grownBy w' R) {nm g S:Nat} {t:TypeId} {o:CO} {o':Obj} (O:2*k<=nm) (W:nm<2*(k+1)) (i:R=some g\/w.heap.size<=g) (x:w'.heap[g]? =some o') (Q:ObjR Z r nm ⟨g,0,S,t⟩ o o'):
  Rep (Zcmd (k+1)) Z G (set1 r nm ⟨g,0,S,t⟩) ((nm,o)::h0) w'/\Nx r h w (set1 r nm ⟨g,0,S,t⟩) ((nm,o)::h0) w':=by
 have hx:=Zcuy u (n:=nm) O ⟨g,0,S,t⟩;have z:∀m p e,look h0 m=some p->r m=some e->w'.heap[e.b]? =w.heap[e.b]?:=by
  intro m p e B c;refine y.block _ (u.low _ _ c) ?_
  grind
 refine⟨⟨λn p f=>?_,λn m p q L K A B a b v=>?_,λn e c=>?_,λn A=>?_,λM D=>?_⟩,⟨hx,y.size,λb v E=>?_,λb v s=>?_,λb v s=>?_,y.os,y.tape,y.output⟩⟩
 ·rw[Zcrv]at f
  split at f
  ·rename_i e;subst e;cases f
   exact⟨_,by simp[set1],o',x,Q.mono hx⟩
  ·obtain⟨e,c,V,F,C⟩:=u.obj n p (d _ _ f)
   exact⟨e,hx _ _ c,V,by rw[z _ _ _ f c];exact F,C.mono hx⟩
 ·rw[Zcrv]at A B
  unfold set1 at a b;split at A
  ·grind
  ·rename_i l
   rw[if_neg l]at a;split at B
   ·grind
   ·rename_i J
    rw[if_neg J]at b;exact u.inj n m p q L K (d _ _ A) (d _ _ B) a b v
 ·unfold set1 at c
  split at c
  ·grind
  ·have:=u.low _ _ c
   have:=y.size;omega
 ·unfold set1
  unfold Zcmd at A;rw[if_neg (by omega)];exact u.new n (by unfold Zcmd;omega)
 ·obtain⟨e,c,v,U⟩:=u.glo M D
  exact⟨e,hx _ _ c,v,U⟩
 ·exact y.block b v (λT=>E (j b T.symm))
 ·obtain⟨n,p,e,f,H,c,rfl⟩:=s
  rw[Zcrv]at f;unfold set1 at c;split at f
  ·grind
  ·rename_i l;rw[if_neg l]at c
   exact⟨n,p,e,d _ _ f,H,c,rfl⟩
 ·obtain⟨n,p,e,f,c,rfl⟩:=s
  rw[Zcrv]at f;unfold set1 at c;split at f
  ·rename_i l;subst l;simp at c;subst c
   rcases i with i|i
   ·exact(j g i).live
   ·grind
  ·rename_i l;rw[if_neg l]at c
   exact⟨n,p,e,d _ _ f,c,rfl⟩
abbrev Fi:=ByteArray×ByteArray
def Zcpr (fs:List Fi):List Value:=(fs.map λf=>[Value.string f.1,Value.string f.2]).flatten
theorem Zcps (f:Fi) (fs:List Fi):Zcpr (f::fs) = .string f.1 :: .string f.2::Zcpr fs:=by simp[Zcpr]
theorem Zcpt:∀a:List Fi,(Zcpr a).length=a.length*2
 | []=>rfl
 | f::a=>by rw[Zcps];simp only[List.length_cons,Zcpt a];omega
theorem Zcpu:∀(a:List Fi) (i:Nat) v,(Zcpr a)[i]? =some v->∃s,v = .string s
 | [],i,v,hv=>by simp[Zcpr]at hv
 | f::a,i,v,hv=>by
  rw[Zcps]at hv
  match i with
  | 0=>simp at hv;exact⟨_,hv.symm⟩
  | 1=>simp at hv;exact⟨_,hv.symm⟩
  | i+2=>exact Zcpu a i v (by simpa using hv)
def Zcqb:Nat->List Value->Option (List Fi)
 | 0,_=>some []
 | n+1,cs=>match cs with
  | .string a :: .string b::cs=>match Zcqb n cs with
   | some fs=>some ((a,b)::fs)
   | none=>none
  | _=>none
theorem Zcqc:∀ {n:Nat} {d:List Value} {c:List Fi},Zcqb n d=some c->c.length=n/\d.take (n*2)=Zcpr c
 | 0,d,c,hc=>by simp only[Zcqb,Option.some.injEq]at hc;subst hc;exact⟨rfl,by simp[Zcpr]⟩
 | n+1,d,c,hc=>by
  simp only[Zcqb]at hc;split at hc
  case h_2=>cases hc
  rename_i a b cs'
  split at hc
  case h_2=>cases hc
  rename_i e f
  cases hc
  obtain⟨g,i⟩:=Zcqc f;refine⟨by simp[g],?_⟩;rw[Zcps,show(n+1)*2=n*2+2 by omega];simp[i]
theorem Zcvt {n:Nat} {e:Ent} {a:List Value} {t:TypeId} {hi:Nat} {z:Bool} {c:Array Value} {f:Nat×Nat} (u:ObjR Z r n e (.cells a t hi z) (.cells c t f)) (j:e.sh=0) {k:Nat} {fs:List Fi} (m:a.take k=Zcpr fs) (v:k=fs.length*2):c.toList.take k=Zcpr fs:=by
 obtain⟨A,B,C,D,E,q,F⟩:=u;have x:=congrArg List.length m;rw[Zcpt,List.length_take]at x;apply List.ext_getElem?;intro i
 rcases Nat.lt_or_ge i k with b|b
 ·have l:(Zcpr fs)[i]? =a[i]?:=by rw[<-m,List.getElem?_take,if_pos b]
  have g:i<a.length:=by omega
  have d:a[i]? =some a[i]:=by simp[g]
  obtain⟨s,o⟩:=Zcpu fs i a[i] (by rw[l,d]);obtain⟨H,y,p⟩:=q i _ d;rw[o]at p;obtain rfl:=Zcna rfl p;rw[List.getElem?_take,if_pos b,l,d,o];simpa[j]using y
 ·rw[List.getElem?_eq_none (by simp;omega),List.getElem?_eq_none (by rw[Zcpt];omega)]
def OwnI (el:TypeId) (w:World) (R:Option Nat) (v:Value) (fs:List Fi):Prop:=
 (w.ownsRow 0 el 2 v fs.length (Zcpr fs)/\R=v.ownBlock)\/(fs = []/\R=none/\∃a,v = .slice a 0 0)
def InsH (P:Program) (nf:FuncId) (el:TypeId):Prop:=∀(vb i:Nat) (R:Option Nat) (v:Value) (fs:List Fi) (f:Fi) (w:World),i<=fs.length->fs.length<=1000->OwnI el w R v fs->some vb≠R->
 w.heap[vb]? =some (.cells #[.string f.1,.string f.2] el (0,0))->Calls P nf #[v,.int .i64 i,.slice (some ⟨vb,0,none⟩) 1 1] w λe w'=>
  ∃v' R',e = .returned v'/\OwnI el w' R' v' (fs.take i++f::fs.drop i)/\w.grownBy w' R/\(R'=R\/∃k,R'=some k/\w.heap.size<=k)
def rowC (el:TypeId) (h:Hp) (m:Nat):Value->Option (List Fi×Hp)
 | .slice none l c=>bif Nat.beq l 0&&Nat.beq c 0 then some ([],h)else none
 | .slice (some ⟨n,o,none⟩) l c=>match look h n with
  | some (.cells cs t hi ro)=>bif Nat.beq o 0&&Nat.beq t el&&Nat.beq hi 0 && !ro && !(Nat.beq n m) && !Zcqz cs&&Nat.blt 0 c&&Nat.ble l c&&(!exN n||(Nat.beq (c*2) cs.length&&Nat.ble c 1000000))then
    match Zcqb l cs with
    | some fs=>some (fs,del h n)
    | none=>none
   else none
  | _=>none
 | _=>none
theorem Zcuo {N:Nat->Prop} (I:Rep N (Zp P) G r h w) {y:TypeId} (hz:Zp P y=2) {m:Nat} {v v':Value} (V:ValR (Zp P) r v v') {U:List Fi} {h0:Hp} (a:rowC y h m v=some (U,h0)) (hm:∃o,look h m=some o):
  ∃R,OwnI y w R v' U/\(∀m o,look h0 m=some o->look h m=some o)/\(∀b,R=some b->Own r h b)/\(∀b,R=some b->∀m o e,look h0 m=some o->r m=some e->e.b≠b)/\∀e,r m=some e->some e.b≠R:=by
 unfold rowC at a;split at a
 ·rename_i l c
  cases d:(Nat.beq l 0&&Nat.beq c 0)with
  | false=>rw[d]at a;cases a
  | true=>
   rw[d]at a;cases a;simp only[Bool.and_eq_true,Zcnc]at d;obtain⟨rfl,rfl⟩:=d;obtain rfl:=Zcna rfl V;exact⟨none,.inr ⟨rfl,rfl,none,rfl⟩,λ_ _ x=>x,λ_ x=>(by cases x),λ_ x=>(by cases x),λ_ _ x=>(by cases x)⟩
 ·rename_i n o l c
  split at a
  case h_2=>cases a
  rename_i T t hi ro z
  cases d:(Nat.beq o 0&&Nat.beq t y&&Nat.beq hi 0 && !ro && !(Nat.beq n m) && !Zcqz T&&Nat.blt 0 c&&Nat.ble l c&&(!exN n||(Nat.beq (c*2) T.length&&Nat.ble c 1000000)))with
  | false=>rw[d]at a;cases a
  | true=>
   rw[d]at a;simp only[cond_true]at a;split at a
   case h_2=>cases a
   rename_i aa hf
   cases a
   simp only[Bool.and_eq_true,Bool.or_eq_true,Bool.not_eq_true',Zcnc,Zcnd]at d;obtain⟨⟨⟨⟨⟨⟨⟨⟨rfl,rfl⟩,rfl⟩,rfl⟩,b5⟩,C⟩,Q⟩,S⟩,D⟩:=d;have Q:=Nat.le_of_ble_eq_true Q;have S:=Nat.le_of_ble_eq_true S;obtain⟨E,f2⟩:=Zcqc hf
   cases V with
   | same ha=>simp[atom]at ha
   | @slice _ _ _ _ c' e he hle hex hr=>
    obtain⟨u,f,o',K,F⟩:=I.obj n _ z;obtain rfl:=Option.some.inj (he.symm.trans f)
    cases o' with
    | cells k t' fz=>
     have H:=F;obtain⟨W,X,a3,a4,Y,a6,O⟩:=H;have s:e.sh=0:=by
      rcases O.2 with B|B
      ·exact B
      ·rw[C]at B;cases B
     subst W;have M:fz=(0,0):=O.1.2 (by omega);subst M;have q:k.size=c'*2/\c'<=9223372036854775807:=by
      cases A:exN n with
      | true=>
       rw[A]at D;simp only[Bool.true_eq_false,false_or]at D;have h1:=hex A;subst h1;have:=(Y A).2;have:=Nat.le_of_ble_eq_true D.2;omega
      | false=>
       have j:=hr A;rw[X,hz]at j;have:=j.2.1 rfl (by omega);exact⟨by omega,j.2.2⟩
     rw[s];refine⟨some e.b,.inl ⟨⟨Zcpt _,.inr ⟨e.b,c',k,by rw[E],Nat.zero_le _,K,by omega,by unfold maxLen;omega,q.1,by rw[E];exact Zcvt F s f2 (by rw[E])⟩⟩,rfl⟩,Zcrx,λb d=>?_,λb d m' p u g f i=>?_,λu f i=>?_⟩
     ·cases d;exact⟨n,_,e,z,rfl,he,rfl⟩
     ·cases d
      rw[Zcrw]at g;split at g
      ·cases g
      ·rename_i J
       exact J (I.inj m' n p _ u e g z f he i)
     ·obtain⟨o2,L⟩:=hm
      exact b5 (I.inj m n o2 _ u e L z f he (Option.some.inj i)).symm
    | _=>exact F.elim
 ·cases a
def insK (nf:FuncId) (el:TypeId):FK:=λf vs k h=>bif Nat.beq f nf then match vs with
 | [s,.int .i64 i,.slice (some ⟨m,o,none⟩) l c]=>bif Nat.beq o 0&&Nat.beq l 1&&Nat.beq c 1&&exN m&&decide (0<=i)then match look h m with
  | some (.cells cs t hi _)=>bif Nat.beq t el&&Nat.beq hi 0&&Nat.beq cs.length 2 then match Zcqb 1 cs with
   | some [x]=>match rowC el h m s with
    | some (fs,h0)=>bif Nat.ble i.toNat fs.length&&Nat.ble fs.length 1000 then
     some (.slice (some ⟨2*k+1,0,none⟩) (fs.length+1) (fs.length+1),k+1,(2*k+1,.cells (Zcpr (fs.take i.toNat++x::fs.drop i.toNat)) el 0 false)::h0)else none
    | none=>none
   | _=>none else none
  | _=>none else none
 | _=>none else none
theorem Zcrj {J:FuncId} {I:TypeId} (hN:Zcmj P) (hb:Zcqx P J=true) (hz:Zp P I=2) (hI:InsH P J I):KS P G (onFn (insK J I)):=by
 refine Zcth ?_;intro f vs k h v k1 h1 a r w ae T hv;unfold insK at a
 cases X:Nat.beq f J with
 | false=>rw[X]at a;cases a
 | true=>
  rw[X]at a;simp only[cond_true]at a;obtain rfl:=Zcnc.1 X;split at a
  case h_2=>cases a
  rename_i s i m o l c
  cases q:(Nat.beq o 0&&Nat.beq l 1&&Nat.beq c 1&&exN m&&decide (0<=i))with
  | false=>rw[q]at a;cases a
  | true=>
   rw[q]at a;simp only[cond_true]at a;simp only[Bool.and_eq_true,Zcnc,decide_eq_true_eq]at q;obtain⟨⟨⟨⟨rfl,rfl⟩,rfl⟩,L⟩,b5⟩:=q;split at a
   case h_2=>cases a
   rename_i cs t W ro hl
   cases y:(Nat.beq t I&&Nat.beq W 0&&Nat.beq cs.length 2)with
   | false=>rw[y]at a;cases a
   | true=>
    rw[y]at a;simp only[cond_true]at a;simp only[Bool.and_eq_true,Zcnc]at y;obtain⟨⟨rfl,rfl⟩,b8⟩:=y;split at a
    case h_2=>cases a
    rename_i x hx
    split at a
    case h_2=>cases a
    rename_i z h0 F
    cases n:(Nat.ble i.toNat z.length&&Nat.ble z.length 1000)with
    | false=>rw[n]at a;cases a
    | true=>
     rw[n]at a;cases a;simp only[Bool.and_eq_true]at n;have c1:=Nat.le_of_ble_eq_true n.1;have c2:=Nat.le_of_ble_eq_true n.2;obtain⟨s',K,rfl,v1,v2⟩:=hv.head;obtain⟨i',K,rfl,v3,v4⟩:=v2.head;obtain⟨x',K,rfl,v5,v6⟩:=v4.head;obtain rfl:K = []:=by have:=v6.1;cases K with
      | nil=>rfl
      | cons _ _=>simp at this
     obtain rfl:=Zcna rfl v3;obtain⟨R,p1,p2,p3,p4,p5⟩:=Zcuo T hz v1 F ⟨_,hl⟩
     cases v5 with
     | same ha=>simp[atom]at ha
     | @slice _ _ _ _ c' e he hle hex hr=>
      obtain rfl:=hex L;obtain⟨e',U,o',Y,O⟩:=T.obj m _ hl;obtain rfl:=Option.some.inj (he.symm.trans U)
      cases o' with
      | cells M B fz=>
       have Q:=O;obtain⟨a1,a2,a3,a4,a5,a6,a7⟩:=Q;have aa:e.sh=0:=(a5 L).1;subst a1;have ac:fz=(0,0):=a7.1.2 (by omega);subst ac;obtain⟨x1,x2⟩:=Zcqc hx;have D:M = #[.string x.1,.string x.2]:=by
        have h3:=Zcvt O aa x2 (by simp);have h4:=(a5 L).2;apply Array.ext';rw[List.take_of_length_le (by simp;omega)]at h3;rw[h3];rfl
       subst D;have p:=hI e.b i.toNat R s' z x w c1 c2 p1 (p5 e he) Y;have W:((i.toNat:Nat):Int)=i:=by omega
       rw[W]at p;have ab:(0:Nat)+e.sh=0:=by omega
       rw[ab];refine .inr ⟨Zcqy hN hb _ _,callsIn_wide.2 ?_⟩;refine Calls.mono p ?_;rintro en w1 ⟨v',R',rfl,q1,q2,H⟩;have A:(z.take i.toNat++x::z.drop i.toNat).length=z.length+1:=by simp;omega
       rcases q1 with⟨⟨q4,⟨q5,q6⟩|⟨g,d,C,rfl,_,g2,g3,g4,g5,g6⟩⟩,rfl⟩|⟨q4,_⟩
       ·rw[A]at q6;cases q6
       ·have V:R=some g\/w.heap.size<=g:=by
         rcases H with H|⟨k',H,ad⟩
         ·exact .inl H.symm
         ·cases H;exact .inr ad
        have S:ObjR (Zp P) r (2*k+1) ⟨g,0,d*2,B⟩ (.cells (Zcpr (z.take i.toNat++x::z.drop i.toNat)) B 0 false) (.cells C B (0,0)):=by
         refine⟨rfl,rfl,g5,?_,λhx=>(by rw[Zctd]at hx;cases hx),λj u E=>⟨u,?_,?_⟩,FzS.zero⟩
         ·rw[Zcpt]
          have:=Nat.mul_le_mul_right 2 g3;simpa using this
         ·rw[<-g6,List.getElem?_take]at E
          split at E
          ·simpa using E
          ·cases E
         ·obtain⟨s,rfl⟩:=Zcpu _ _ _ E
          exact .same rfl
        obtain⟨y1,y2⟩:=T.grown p2 p3 p4 q2 (nm:=2*k+1) (by omega) (by omega) V g2 S;rw[A];exact⟨_,_,rfl,y2,y1,.slice (e:=⟨g,0,d*2,B⟩) (c':=d) (by simp[set1]) (by omega) (λhx=>(by rw[Zctd]at hx;cases hx)) (λ_=>by show CapR (0+0+d*Zp P B) d (d*2) (Zp P B);rw[hz];exact⟨by omega,λ_ _=>by omega,g4⟩)⟩
       ·simp at q4
      | _=>exact O.elim
end
section
open Go.Lib (hid)
open Go.Proofs.Tryz Go Go.RowKit
variable {P:Program} {Z:TypeId->Nat} {G:Nat} {r:Ren} {h:Hp} {w w':World}
def hx (T:TypeId) (ns:List (List UInt8)):Hp:=[(2*gq,.cells (nameCells ns) T 9223372036854775808 true)]
def rx (G:Nat) (T:TypeId) (ns:List (List UInt8)):Ren:=λn=>if n % 2=0/\n/2<G then some ⟨n/2,0,ns.length,T⟩else none
theorem Zcry {T:TypeId} {ns:List (List UInt8)} {n:Nat} {o:CO} (a:look (hx T ns) n=some o):n=2*gq/\o = .cells (nameCells ns) T 9223372036854775808 true:=by
 unfold hx at a;rw[Zcrv]at a;split at a
 ·rename_i e;cases a;exact⟨e,rfl⟩
 ·cases a
theorem Zcss {ns:List (List UInt8)} {i:Nat} {v:Value} (a:(nameCells ns)[i]? =some v):∃s,v = .string s:=by
 unfold nameCells at a;rw[List.getElem?_map]at a;obtain⟨b,_,rfl⟩:=Option.map_eq_some_iff.1 a;exact⟨_,rfl⟩
theorem rep0 {T:TypeId} {ns:List (List UInt8)} (z:GX G T ns w) (t:gq<G) {k:Nat} (C:G<=k):Rep (Zcmd k) Z G (rx G T ns) (hx T ns) w:=by
 obtain⟨D,c,f,a,q⟩:=z;have j:c.size=ns.length:=by
  have:=congrArg List.length q;simpa[nameCells]using this
 refine⟨λn o x=>?_,λn m o p B A d y _ _ _=>?_,λn e b=>?_,λn d=>?_,λg u=>⟨⟨g,0,ns.length,T⟩,by simp[rx,u],rfl,rfl⟩⟩
 ·obtain⟨rfl,rfl⟩:=Zcry x
  refine⟨⟨gq,0,ns.length,T⟩,by simp[rx,t],_,a,rfl,rfl,j,by simp[nameCells],λ_=>⟨rfl,by simp[nameCells]⟩,λi v l=>⟨v,?_,?_⟩,⟨.inr (Nat.le_refl _),λhx=>absurd hx (by omega)⟩,.inl rfl⟩
  ·rw[<-q]at l;simpa using l
  ·obtain⟨s,rfl⟩:=Zcss l;exact .same rfl
 ·rw[(Zcry d).1,(Zcry y).1]
 ·unfold rx at b
  split at b
  ·cases b;simp only;omega
  ·cases b
 ·unfold Zcmd at d
  unfold rx;rw[if_neg (by omega)]
theorem Zcrc {T:TypeId} {ns:List (List UInt8)} {b:Nat}:¬Own r (hx T ns) b:=by
 rintro⟨n,o,e,c,a,_⟩;obtain⟨_,rfl⟩:=Zcry c
 cases a
def okV:Option (Value×Nat×Hp)->Bool
 | some (.bool true,_,_)=>true
 | _=>false
theorem Zctg {x:Option (Value×Nat×Hp)} (h:okV x=true):∃k a,x=some (.bool true,k,a):=by
 unfold okV at h;split at h
 ·exact⟨_,_,rfl⟩
 ·cases h
theorem Zcuu {K:KF} (i:KS P G K) (j:Zcmj P) {f:FuncId} (d:Zcqx P f=true) {T:TypeId} {ns:List (List UInt8)} (g:gq<G) {k:Nat} (l:G<=k) (a:okV (K (.fn f) [] k (hx T ns))=true) (m:GX G T ns w):
  Calls P f #[] w λe w'=>e = .returned (.bool true)/\Below w.heap.size w w':=by
 obtain⟨u,t,a⟩:=Zctg a;have:=(i _ _ _ _ _ _ _ a (rx G T ns) w [] (rep0 m g l) .nil).resolve_left (by
  rintro⟨o,p,s,q,_⟩;rw[Zcqy j d]at q;cases q)
 refine Calls.mono (callsIn_wide.1 this.2) ?_;rintro e s ⟨o,p,rfl,c,_,n⟩;obtain rfl:=Zcna rfl n;exact⟨rfl,c.os,c.tape,c.output,c.size,λb d=>c.frame b d Zcrc⟩
def Zcuv:List Value->List (List UInt8)->Bool
 | [],[]=>true
 | .string s::vs,b::bs=>(s.data.toList==b)&&Zcuv vs bs
 | _,_=>false
theorem Zcuw:∀ {vs:List Value} {bs:List (List UInt8)},Zcuv vs bs=true->vs=nameCells bs
 | [],[],_=>rfl
 | [],_::_,h=>by simp[Zcuv]at h
 | v::vs,[],h=>by cases v<;>simp[Zcuv]at h
 | v::vs,b::bs,h=>by
  cases v with
  | string s=>
   simp only[Zcuv,Bool.and_eq_true,beq_iff_eq]at h;have a:=Zcuw h.2;rw[a,<-h.1];simp[nameCells]
  | _=>simp[Zcuv]at h
def Zcsp (F:List FuncId) (T:TypeId) (ns:List (List UInt8)):FK:=λf vs k h=>bif memB F f then match vs with
 | []=>match look h (2*gq)with
  | some (.cells cs t _ _)=>bif Nat.beq t T&&Zcuv cs ns then some (.bool true,k,h)else none
  | _=>none
 | _=>none else none
theorem Zcsq (hN:Zcmj P) {F:List FuncId} {T:TypeId} {ns:List (List UInt8)} (hG:gq<G) (hF:∀f∈F,Zcqx P f=true/\∀w,GX G T ns w->Calls P f #[] w λe w'=>e = .returned (.bool true)/\Below w.heap.size w w'):KS P G (onFn (Zcsp F T ns)):=by
 refine Zcth ?_;intro f vs k h v k1 q a r w p c hv;unfold Zcsp at a
 cases E:memB F f with
 | false=>rw[E]at a;cases a
 | true=>
  rw[E]at a;simp only[cond_true]at a;split at a
  case h_2=>cases a
  split at a
  case h_2=>cases a
  rename_i l t u ro hl
  cases j:(Nat.beq t T&&Zcuv l ns)with
  | false=>rw[j]at a;cases a
  | true=>
   rw[j]at a;cases a;simp only[Bool.and_eq_true,Zcnc]at j;obtain⟨rfl,K⟩:=j;have m:=Zcuw K;obtain⟨W,X⟩:=hF f (Zcso.1 E);obtain rfl:p = []:=by
    have:=hv.1
    cases p with
    | nil=>rfl
    | cons _ _=>simp at this
   obtain⟨e,B,o',H,M⟩:=c.obj (2*gq) _ hl;obtain⟨e',C,A,J⟩:=c.glo gq hG;obtain rfl:=Option.some.inj (B.symm.trans C);have D:GX G t ns w:=by
    cases o' with
    | cells y t' Y=>
     obtain⟨S,a2,a3,a4,U,V,a7⟩:=M;subst S;refine⟨?_,y,Y,by rw[<-A];exact H,?_⟩
     ·obtain⟨L,d,aa,_⟩:=c.glo (G-1) (by omega)
      have:=c.low _ _ d;omega
     ·have O:=(U rfl).2
      apply List.ext_getElem?;intro i;rw[<-m]
      rcases Nat.lt_or_ge i l.length with u|u
      ·have q:l[i]? =some l[i]:=by simp[u]
       obtain⟨v',q1,R⟩:=V i _ q;obtain⟨s,Q⟩:=Zcss (ns:=ns) (i:=i) (v:=l[i]) (by rw[<-m];exact q);rw[Q]at R;obtain rfl:=Zcna rfl R;rw[q,Q];simpa[J]using q1
      ·rw[List.getElem?_eq_none u,List.getElem?_eq_none (by simp;omega)]
    | _=>exact M.elim
   refine .inr ⟨Zcqy hN W _ _,callsIn_wide.2 (Calls.mono (X w D) ?_)⟩;rintro en w1 ⟨rfl,g⟩;refine⟨r,_,rfl,⟨Ext.refl r,g.size,λb j _=>g.block b j,λ_ _ x=>x,λ_ _ x=>x,g.os,g.tape,g.output⟩,⟨λn o hn=>?_,c.inj,λn e B=>Nat.lt_of_lt_of_le (c.low n e B) g.size,c.new,c.glo⟩,.same rfl⟩;obtain⟨L,d,o2,I,z⟩:=c.obj n o hn;exact⟨L,d,o2,by rw[g.block _ (c.low _ _ d)];exact I,z⟩
end
end Exe
open Go.Lib (hid)
open Go.Proofs.Tryz Go.RowKit
def Zbfl:String:= "internal/strconv.uint64pow10"
structure Glob (w:World):Prop where
 max:∃m,w.cell? ⟨0,0,none⟩=some (.int .i64 m)
 tab:Lib.TabIs prog w Zbfl .u64 Lib.pow10Tab
 top:2<w.heap.size
 es:∃tp p,w.cell? ⟨3,0,none⟩=some (.iface tp p)
 er:∃tp p,w.cell? ⟨4,0,none⟩=some (.iface tp p)
theorem Glob.below {w w':World} (h:Glob w) (b:Below w.heap.size w w'):Glob w':=by
 obtain⟨⟨m,e⟩,f,a,⟨j,g,c⟩,⟨k,i,d⟩⟩:=h;exact⟨⟨m,(b.cell (Zie e)).trans e⟩,var?_below b (by kernel_rfl) a f,Nat.lt_of_lt_of_le a b.size,⟨j,g,(b.cell (Zie c)).trans c⟩,⟨k,i,(b.cell (Zie d)).trans d⟩⟩
def numS (n:Int):List UInt8:=Lib.itoa (max n 0)
def Zqk (s:List UInt8) (most:Int):Int×Bool:=
 match Lib.atoiAll s with
 | .ok v=>if v<=most/\numS v=s then(v,true)else(0,false)
 | _=>(0,false)
abbrev F2:=ByteArray×ByteArray
def Znm (fs:List F2):List Value:=(fs.map λf=>[Value.string f.1,Value.string f.2]).flatten
theorem Zns:Znm [] = []:=rfl
theorem Znp (f:F2) (fs:List F2):Znm (f::fs) = .string f.1 :: .string f.2::Znm fs:=by simp[Znm]
theorem Znn (a b:List F2):Znm (a++b)=Znm a++Znm b:=by simp[Znm]
theorem Znr (a:List F2):(Znm a).length=a.length*2:=by
 induction a with
 | nil=>rfl
 | cons f a b=>rw[Znp];simp only[List.length_cons,b];omega
theorem Znt (b:List F2):∀u∈Znm b,u.oneCell'=true:=by
 induction b with
 | nil=>intro u a;cases a
 | cons f b c=>
  rw[Znp];intro u a
  rcases List.mem_cons.1 a with rfl|a
  ·rfl
  ·rcases List.mem_cons.1 a with rfl|a
   ·rfl
   ·exact c u a
theorem Znv (a:List F2):∀i,(Znm a).take (i*2)=Znm (a.take i):=by
 induction a with
 | nil=>intro i;simp[Znm]
 | cons f a b=>
  intro i
  cases i with
  | zero=>simp[Znm]
  | succ i=>rw[Znp,Nat.add_mul,List.take_succ_cons,List.take_succ_cons,b i,List.take_succ_cons,Znp]
theorem Znq (a:List F2):∀i,(Znm a).drop (i*2)=Znm (a.drop i):=by
 induction a with
 | nil=>intro i;simp[Znm]
 | cons f a b=>
  intro i
  cases i with
  | zero=>simp[Znm]
  | succ i=>rw[Znp,Nat.add_mul,List.drop_succ_cons,List.drop_succ_cons,b i,List.drop_succ_cons]
theorem Zbkg (P:Program) (w:World) (q sT ty d:TypeId) (g o c h:Nat) (a:Addr) (e m sz:Nat) (b:Array Value) (t:TypeId) (f:List Value)
  (A:P.underlying q=some (.slice d)) (r:(P.info? d).map (·.size)=some sz)
  (u:w.heap[g]? =some (.cells b t (0,0))) (z:f.length=Nat.min e c*sz)
  (l:∀j v,f[j]? =some v->w.cell? (a.add j)=some v) (k:o+f.length<=b.size) (s:∀v∈f,v.oneCell'=true):
  (Builtin.copy_ #[q,sT] ty #[.slice (some ⟨g,o,none⟩) c h,.slice (some a) e m]).run P w =
   .ok (goInt (Nat.min e c)) (w.setRow g (b.toList.take o++f++b.toList.drop (o+f.length)).toArray):=by
 have y:=run_loadCells_list (P:=P) w a f l;have p:=run_storeCells_at P g o t f 0 b w u (by simpa using k) s
 cases n:P.info? d with
 | none=>simp[n]at r
 | some i=>
  have x:i.size=sz:=by simpa[n]using r
  simp[Builtin.copy_,run_underlying A,Builtin.lenOf,Builtin.firstCells,sizeOf,typeInfo,n,x,<-z,y,p]
theorem Zsu:(prog.info? 148).map (λi=>(i.zero,i.size,i.bytes))=some (some (.agg #[.string ByteArray.empty,.string ByteArray.empty]),2,32):=by kernel_rfl
theorem Zbih {w:World} {g:Nat} {a:Array Value} {t:TypeId} {b:Nat×Nat} (h:w.heap[g]? =some (.cells a t b)) (o j:Nat) (v:Value) (c:a.toList[o+j]? =some v):w.cell? ((⟨g,o,none⟩:Addr).add j)=some v:=by
 rw[Addr.add_lit];simp only[World.cell?,h];simpa using c
theorem Zbku (C D R:List Value) (x y:Value) (i k:Nat) (hi:(i+1)*2<=C.length) (g:D.length=k*2):
  ((C.take ((i+1)*2)++D++R).take (i*2) ++ [x,y]++(C.take ((i+1)*2)++D++R).drop (i*2+2)).take ((i+1+k)*2)=C.take (i*2) ++ [x,y]++D:=by
 have d:(C.take ((i+1)*2)).length=i*2+2:=by rw[List.length_take];omega
 have a:C.take ((i+1)*2)++D++R=C.take ((i+1)*2)++(D++R):=List.append_assoc _ _ _;have b:(C.take ((i+1)*2)++(D++R)).take (i*2)=C.take (i*2):=by
  rw[List.take_append_of_le_length (by omega),List.take_take,Nat.min_eq_left (by omega)]
 have c:(C.take ((i+1)*2)++(D++R)).drop (i*2+2)=D++R:=by rw[<-d,List.drop_left]
 have e:(C.take (i*2)).length=i*2:=by rw[List.length_take];omega
 have f:(C.take (i*2) ++ [x,y]++D).length=(i+1+k)*2:=by simp only[List.length_append,e,g,List.length_cons,List.length_nil];omega
 rw[a,b,c,<-List.append_assoc _ D R,<-f,List.take_left]
theorem Zti (g n c i x:Nat) (q:List F2) (f:F2) (d:Array Value) (w:World) (hi:i<n) (R:n+1<=c) (hn:n<=1000) (V:c<=9223372036854775807) (L:x≠g)
  (G:q.length=n) (M:w.heap[g]? =some (.cells d 148 (0,0))) (o:d.size=c*2) (D:d.toList.take (n*2)=Znm q)
  (J:w.heap[x]? =some (.cells #[.string f.1,.string f.2] 148 (0,0))):
  Calls prog 193 #[.slice (some ⟨g,0,none⟩) n c,.int .i64 i,.slice (some ⟨x,0,none⟩) 1 1] w λe w'=>
   e = .returned (.slice (some ⟨g,0,none⟩) (n+1) c)/\∃a:Array Value,w'.heap[g]? =some (.cells a 148 (0,0))/\a.size=c*2/\a.toList.take ((n+1)*2)=Znm (q.take i++f::q.drop i)/\
    w.grownBy w' (some g):=by
 obtain⟨i0,P,ai,S,aj⟩:=info_parts Zsu;have I:(prog.info? 148).map (·.size)=some 2:=by rw[P];simp[S]
 have Q:∀T O,(callFunc 240 #[.slice (some ⟨x,0,none⟩) 1 1,.slice (some ⟨g,(i+1)*2,none⟩) T O]).run prog w = .ok (.value (.bool false)) w:=λT O=>by
  rw[run_callFunc_extern func240 (by kernel_rfl) (by kernel_rfl) (by kernel_rfl) (e:=Extern.SlicesOverlaps.overlaps #[186,186] #[4]) (by kernel_rfl),
   Lib.run_overlaps_apart w 186 4 148 underlying186 2 sizeOf148 ⟨x,0,none⟩ ⟨g,(i+1)*2,none⟩ 1 1 T O L 148 148 2 (c*2) (by simp[World.shape?,J]) (by simp[World.shape?,M,o]) (by omega) (by simp[World.frozen?,J]) (by simp[World.frozen?,J])]
  rfl
 have m:(Znm (q.drop i)).length=(n-i)*2:=by rw[Znr,List.length_drop,G]
 obtain⟨r,s⟩:∃r:List Value,r=d.toList.take ((i+1)*2)++Znm (q.drop i)++d.toList.drop ((i+1)*2+(n-i)*2):=⟨_,rfl⟩;have l:r.length=c*2:=by
  rw[s];simp only[List.length_append,List.length_take,List.length_drop,Array.length_toList,o,m];omega
 have y:∀E B U,(Builtin.copy_ #[186,186] E #[.slice (some ⟨g,(i+1)*2,none⟩) (n-i) B,.slice (some ⟨g,i*2,none⟩) (n+1-i) U]).run prog w.drew = .ok (goInt (n-i:Nat)) (w.drew.setRow g r.toArray):=λE B U=>by
  have h:=Zbkg prog w.drew 186 186 E 148 g ((i+1)*2) (n-i) B ⟨g,i*2,none⟩ (n+1-i) U 2 d 148 (Znm (q.drop i)) underlying186 I M
   (by rw[m];simp only[Nat.min_def];split<;>omega)
   (λj v F=>Zbih (w:=w.drew) M (i*2) j v (by
    rw[<-Znq,<-D,List.getElem?_drop,List.getElem?_take]at F;split at F
    ·exact F
    ·cases F))
   (by rw[m,o];omega) (Znt _)
  rw[m,<-s]at h;have e:Nat.min (n+1-i) (n-i)=n-i:=by simp only[Nat.min_def];split<;>omega
  rw[e]at h;exact h
 obtain⟨p,b⟩:∃p,p=w.drew.setRow g r.toArray:=⟨_,rfl⟩;have C:p.heap[g]? =some (.cells r.toArray 148 (0,0)):=by rw[b];exact setRow_heap w.drew g d _ _ _ M
 have K:p.heap[x]? =some (.cells #[.string f.1,.string f.2] 148 (0,0)):=by rw[b,setRow_other w.drew g x _ L];exact J
 obtain⟨A,t⟩:∃A:List Value,A=r.take (i*2) ++ [.string f.1,.string f.2]++r.drop (i*2+2):=⟨_,rfl⟩;have W:∀E B,(Builtin.copy_ #[186,186] E #[.slice (some ⟨g,i*2,none⟩) (n+1-i) B,.slice (some ⟨x,0,none⟩) 1 1]).run prog p = .ok (goInt (1:Nat)) (p.setRow g A.toArray):=λE B=>by
  have h:=Zbkg prog p 186 186 E 148 g (i*2) (n+1-i) B ⟨x,0,none⟩ 1 1 2 r.toArray 148 [.string f.1,.string f.2] underlying186 I C
   (by simp only[Nat.min_def];split<;>simp<;>omega)
   (λj v F=>Zbih K 0 j v (by simpa using F))
   (by simp[l];omega) (by intro u X;simp at X;rcases X with rfl|rfl<;>rfl)
  simp only[List.length_cons,List.length_nil,Nat.zero_add]at h;rw[<-t]at h;have e:Nat.min 1 (n+1-i)=1:=by simp only[Nat.min_def];split<;>omega
  rw[e]at h;exact h
 have z:∃a:Array Value,(p.setRow g A.toArray).heap[g]? =some (.cells a 148 (0,0))/\a.size=c*2/\a.toList.take ((n+1)*2)=Znm (q.take i++f::q.drop i)/\w.grownBy (p.setRow g A.toArray) (some g):=by
  refine⟨A.toArray,setRow_heap p g _ _ _ _ C,?_,?_,?_⟩
  ·rw[t];simp only[List.size_toArray,List.length_append,List.length_take,List.length_drop,l,List.length_cons,List.length_nil];omega
  ·have h:=Zbku d.toList (Znm (q.drop i)) (d.toList.drop ((i+1)*2+(n-i)*2)) (.string f.1) (.string f.2) i (n-i) (by rw[Array.length_toList,o];omega) m
   rw[show i+1+(n-i)=n+1 from by omega,<-s,<-t]at h;show A.take _=_;rw[h,Znn,Znp,<-Znv,<-D,List.take_take,Nat.min_eq_left (by omega)];simp
  ·exact⟨by rw[b];rfl,by rw[b];rfl,by rw[b];rfl,by rw[b];simp[World.setRow],λk _ hk=>by
    have H:k≠g:=λe=>hk (by rw[e])
    rw[setRow_other _ g k _ H,b,setRow_other _ g k _ H];rfl⟩
 rw[<-b]at y;have Y:=hid z;clear z s t C K D l m o J G;have Z:=hid b;clear b;have b1:¬((i:Int)=(n:Int)):=by omega
 go_enter func193,ntmps193
 go_wp2_with (simp only[Q])
 have ah:IntKind.i64.wrap ((i:Int)+(1:Int))=(i:Int)+(1:Int):=by rw[IntKind.wrap_i64];omega
 have ab:(0:Int)<=(i:Int)+(1:Int):=by omega
 have aa:(0:Int)<=(i:Int):=by omega
 have ag:((i:Int)+(1:Int)).toNat=i+1:=by omega
 have ac:¬(c=i+1):=by omega
 have ad:(i:Int)<=(n:Int)+(1:Int):=by omega
 have ae:¬(c=i):=by omega
 have hb5:(i:Int)+1<=(n:Int)+(1:Int):=by omega
 have af:n+1-(i+1)=n-i:=by omega
 go_region_law (refine step_copy_runI rfl _ _ 186 186 rfl _ _ (by simp[Act.eval,Act.put]) (by simp[Act.eval,Act.put]) (y _ _ _) ?_)
 go_wp2_with fail
 go_ret;exact⟨rfl,Y.out⟩
theorem Zqw (A Z D R:List Value) (x y:Value) (i k:Nat) (b:A.length=i*2) (f:D.length=k*2):
  (((A++Z++R).take (i*2) ++ [x,y]++(A++Z++R).drop (i*2+2)).take ((i+1)*2)++D++((A++Z++R).take (i*2) ++ [x,y]++(A++Z++R).drop (i*2+2)).drop ((i+1)*2+k*2)).take ((i+1+k)*2)=A ++ [x,y]++D:=by
 have c:(A++Z++R).take (i*2)=A:=by rw[List.append_assoc,<-b,List.take_left]
 have a:(A ++ [x,y]).length=(i+1)*2:=by simp only[List.length_append,b,List.length_cons,List.length_nil];omega
 have d:(A ++ [x,y]++(A++Z++R).drop (i*2+2)).take ((i+1)*2)=A ++ [x,y]:=by rw[<-a,List.take_left]
 have e:(A ++ [x,y]++D).length=(i+1+k)*2:=by rw[List.length_append,a,f];omega
 rw[c,d,<-e,List.take_left]
theorem Zth (g n c i D:Nat) (l:List F2) (f:F2) (q:Array Value) (w:World) (hi:i<n) (ah:c<n+1) (hn:n<=1000) (au:n<=c)
  (I:l.length=n) (S:w.heap[g]? =some (.cells q 148 (0,0))) (af:q.size=c*2) (K:q.toList.take (n*2)=Znm l)
  (hv:w.heap[D]? =some (.cells #[.string f.1,.string f.2] 148 (0,0))):
  Calls prog 193 #[.slice (some ⟨g,0,none⟩) n c,.int .i64 i,.slice (some ⟨D,0,none⟩) 1 1] w λe w'=>∃G,
   e = .returned (.slice (some ⟨w.heap.size,0,none⟩) (n+1) G)/\n+1<=G/\G<=maxLen/\∃a:Array Value,w'.heap[w.heap.size]? =some (.cells a 148 (0,0))/\a.size=G*2/\a.toList.take ((n+1)*2)=Znm (l.take i++f::l.drop i)/\
    w.grownBy w' none:=by
 obtain⟨i0,V,ak,ab,ac⟩:=info_parts Zsu;have Y:(prog.info? 148).map (·.size)=some 2:=by rw[V];simp[ab]
 obtain rfl:c=n:=by omega
 have ag:g<w.heap.size:=by
  rcases Nat.lt_or_ge g w.heap.size with h|h
  ·exact h
  ·rw[Array.getElem?_eq_none h]at S;cases S
 have aj:D<w.heap.size:=by
  rcases Nat.lt_or_ge D w.heap.size with h|h
  ·exact h
  ·rw[Array.getElem?_eq_none h]at hv;cases hv
 have hA:(Znm (l.take i)).length=i*2:=by rw[Znr,List.length_take,I,Nat.min_eq_left (by omega)]
 have L:(Znm (l.drop i)).length=(c-i)*2:=by rw[Znr,List.length_drop,I]
 have C:(Builtin.firstCells i0.size i (.slice (some ⟨g,0,none⟩) i c)).run prog w.drew = .ok (Znm (l.take i)).toArray w.drew:=by
  rw[ab];exact run_firstCells_some w.drew 2 i ⟨g,0,none⟩ i c (Znm (l.take i)) hA (λj v r=>Zbih (w:=w.drew) S 0 j v (by
   rw[<-Znv,<-K,List.take_take,List.getElem?_take]at r;split at r
   ·simpa using r
   ·cases r))
 obtain⟨G,hG⟩:∃G,G=grownCap w (c+1) c 148:=⟨_,rfl⟩;have ae:c+1<=G:=by rw[hG];exact grownCap_ge w _ _ _
 have ad:G<=maxLen:=by rw[hG];exact grownCap_le_maxLen w _ _ _ (by unfold maxLen;omega)
 obtain⟨Z,hZ⟩:∃Z:List Value,Z=(Builtin.zeroCells (Value.agg #[.string ByteArray.empty,.string ByteArray.empty]).cells (c+1-i)).toList:=⟨_,rfl⟩;obtain⟨R,hR⟩:∃R:List Value,R=(Builtin.zeroCells (Value.agg #[.string ByteArray.empty,.string ByteArray.empty]).cells (G-(c+1))).toList:=⟨_,rfl⟩;have P:Z.length=(c-i+1)*2:=by rw[hZ];simp[Builtin.zeroCells,Value.cells];omega
 have O:R.length=(G-(c+1))*2:=by rw[hR];simp[Builtin.zeroCells,Value.cells]
 obtain⟨t,x⟩:∃t:List Value,t=Znm (l.take i)++Z++R:=⟨_,rfl⟩;have o:t.length=G*2:=by rw[x,List.length_append,List.length_append,hA,P,O];omega
 obtain⟨W1,b⟩:∃W1,W1=w.drew.alloc (.cells t.toArray 148):=⟨_,rfl⟩;have X:(c:Int)+1-(i:Int)=((c+1-i:Nat):Int):=by omega
 have J:i+(c+1-i)=c+1:=by omega
 have ai:∀s,(Builtin.append_ #[186,3] s #[.slice (some ⟨g,0,none⟩) i c,.int .i64 ((c:Int)+1-(i:Int))]).run prog w = .ok (.slice (some ⟨w.heap.size,0,none⟩) (c+1) G) W1:=λs=>by
  have h:=Lib.run_append_grow_zeros w 186 3 s 148 i0 _ .i64 .i64 underlying186 underlying3 V ak (some ⟨g,0,none⟩) i c (Znm (l.take i)) C (c+1-i) (by omega) (by omega) (by omega) (by omega) (by rw[ac];omega) (by rw[ac,J];exact growslice_fits (by omega) (by omega));have e:(Znm (l.take i)).toArray++Builtin.zeroCells (Value.agg #[.string ByteArray.empty,.string ByteArray.empty]).cells (c+1-i)++Builtin.zeroCells (Value.agg #[.string ByteArray.empty,.string ByteArray.empty]).cells (G-(c+1))=t.toArray:=by
   apply Array.toList_inj.1;rw[x,hZ,hR];simp
  rw[J,<-hG,e,<-b]at h;rw[X];exact h
 have T:W1.heap[g]? =some (.cells q 148 (0,0)):=by rw[b];exact(Below.heap_alloc w.drew _ g ag).trans S
 have aa:W1.heap[D]? =some (.cells #[.string f.1,.string f.2] 148 (0,0)):=by rw[b];exact(Below.heap_alloc w.drew _ D aj).trans hv
 have F:W1.heap[w.heap.size]? =some (.cells t.toArray 148 (0,0)):=by rw[b];exact heap_alloc_new w.drew _
 obtain⟨A,y⟩:∃A:List Value,A=t.take (i*2) ++ [.string f.1,.string f.2]++t.drop (i*2+2):=⟨_,rfl⟩;have p:A.length=G*2:=by rw[y];simp only[List.length_append,List.length_take,List.length_drop,o,List.length_cons,List.length_nil];omega
 obtain⟨W2,d⟩:∃W2,W2=W1.setRow w.heap.size A.toArray:=⟨_,rfl⟩;have am:∀s E,(Builtin.copy_ #[186,186] s #[.slice (some ⟨w.heap.size,i*2,none⟩) (c+1-i) E,.slice (some ⟨D,0,none⟩) 1 1]).run prog W1 = .ok (goInt (1:Nat)) W2:=λs E=>by
  have h:=Zbkg prog W1 186 186 s 148 w.heap.size (i*2) (c+1-i) E ⟨D,0,none⟩ 1 1 2 t.toArray 148 [.string f.1,.string f.2] underlying186 Y F
   (by simp only[Nat.min_def];split<;>simp<;>omega)
   (λj v r=>Zbih aa 0 j v (by simpa using r))
   (by simp[o];omega) (by intro u hu;simp at hu;rcases hu with rfl|rfl<;>rfl)
  simp only[List.length_cons,List.length_nil,Nat.zero_add]at h;rw[<-y,<-d]at h;have e:Nat.min 1 (c+1-i)=1:=by simp only[Nat.min_def];split<;>omega
  rw[e]at h;exact h
 have U:W2.heap[g]? =some (.cells q 148 (0,0)):=by rw[d,setRow_other _ _ g _ (by omega)];exact T
 have H:W2.heap[w.heap.size]? =some (.cells A.toArray 148 (0,0)):=by rw[d];exact setRow_heap _ _ _ _ _ _ F
 obtain⟨M,z⟩:∃M:List Value,M=A.take ((i+1)*2)++Znm (l.drop i)++A.drop ((i+1)*2+(c-i)*2):=⟨_,rfl⟩;obtain⟨W3,m⟩:∃W3,W3=W2.drew.setRow w.heap.size M.toArray:=⟨_,rfl⟩;have Q:∀s E sc,(Builtin.copy_ #[186,186] s #[.slice (some ⟨w.heap.size,(i+1)*2,none⟩) (c-i) E,.slice (some ⟨g,i*2,none⟩) (c-i) sc]).run prog W2.drew = .ok (goInt (c-i:Nat)) W3:=λs E sc=>by
  have h:=Zbkg prog W2.drew 186 186 s 148 w.heap.size ((i+1)*2) (c-i) E ⟨g,i*2,none⟩ (c-i) sc 2 A.toArray 148 (Znm (l.drop i)) underlying186 Y H
   (by rw[L];simp only[Nat.min_def];split<;>omega)
   (λj v r=>Zbih (w:=W2.drew) U (i*2) j v (by
    rw[<-Znq,<-K,List.getElem?_drop,List.getElem?_take]at r;split at r
    ·exact r
    ·cases r))
   (by rw[L,List.size_toArray,p];omega) (Znt _)
  rw[L,<-z,<-m]at h;have e:Nat.min (c-i) (c-i)=c-i:=Nat.min_self _;rw[e]at h;exact h
 have B:∃a:Array Value,W3.heap[w.heap.size]? =some (.cells a 148 (0,0))/\a.size=G*2/\a.toList.take ((c+1)*2)=Znm (l.take i++f::l.drop i)/\w.grownBy W3 none:=by
  refine⟨M.toArray,by rw[m];exact setRow_heap W2.drew _ _ _ _ _ H,?_,?_,?_⟩
  ·rw[z];simp only[List.size_toArray,List.length_append,List.length_take,List.length_drop,p,L];omega
  ·have h:=Zqw (Znm (l.take i)) Z (Znm (l.drop i)) R (.string f.1) (.string f.2) i (c-i) hA L
   rw[show i+1+(c-i)=c+1 from by omega,<-x,<-y,<-z]at h;show M.take _=_;rw[h,Znn,Znp];simp
  ·refine⟨by rw[m,d,b];rfl,by rw[m,d,b];rfl,by rw[m,d,b];rfl,by rw[m,d,b];simp[World.setRow],λk hk _=>?_⟩
   have W:k≠w.heap.size:=by omega
   rw[m,setRow_other _ _ k _ W];show W2.heap[k]? =_;rw[d,setRow_other _ _ k _ W,b];exact Below.heap_alloc w.drew _ k hk
 have HF:=hid B;clear B C x y z b d m T aa F U H K o p hA L hZ hR P O af S hv I hG X J;have b1:¬((i:Int)=(c:Int)):=by omega
 unfold maxLen at ad
 go_enter func193,ntmps193
 have an:¬(G=i):=by omega
 have al:¬(G=i+1):=by omega
 have ar:¬(c=i):=by omega
 have aw:IntKind.i64.wrap ((i:Int)+(1:Int))=(i:Int)+(1:Int):=by rw[IntKind.wrap_i64];omega
 have ao:(0:Int)<=(i:Int)+(1:Int):=by omega
 have av:((i:Int)+(1:Int)).toNat=i+1:=by omega
 have ap:(i:Int)<=(c:Int):=by omega
 have aq:c+1-(i+1)=c-i:=by omega
 go_wp2_with (at_builtin;refine Lib.wpList_append_run _ rfl _ _ _ _ rfl _ _ rfl rfl _ _ (ai _) ?_)
 go_region_law (refine step_copy_runI rfl _ _ 186 186 rfl _ _ (by simp[Act.eval,Act.put]) (by simp[Act.eval,Act.put]) (Q _ _ _) ?_)
 go_wp2_with fail
 go_ret;exact⟨G,rfl,ae,by unfold maxLen;omega,HF.out⟩
open Go.Lib
def Zbbn (kept:List (List UInt8)):List (List UInt8)->Option (List (List UInt8))
 | []=>some kept
 | p::ps=>if p = []\/p = [46]then Zbbn kept ps else if p = [46,46]then(if kept = []then none else Zbbn kept.dropLast ps)else Zbbn (kept ++ [p]) ps
theorem Zbbq (a ps:List (List UInt8)) (p:List UInt8) (h:p = []\/p = [46]):Zbbn a (p::ps)=Zbbn a ps:=by rw[Zbbn,if_pos h]
theorem Zbbr (a ps:List (List UInt8)) (h:a≠[]):Zbbn a ([46,46]::ps)=Zbbn a.dropLast ps:=by rw[Zbbn,if_neg (by simp),if_pos rfl,if_neg h]
theorem Zbbp (a ps:List (List UInt8)) (p:List UInt8) (b:p≠[]) (c:p≠[46]) (d:p≠[46,46]):Zbbn a (p::ps)=Zbbn (a ++ [p]) ps:=by rw[Zbbn,if_neg (by simp[b,c]),if_neg d]
theorem drop_at {α:Type} (l:List α) (k:Nat) (x:α) (h:l[k]? =some x):l.drop k=x::l.drop (k+1):=by
 obtain⟨a,rfl⟩:=List.getElem?_eq_some_iff.1 h;exact List.drop_eq_getElem_cons a
theorem Zbea {w:World} {B e b:Nat} {v:Value} {n:Nat} {xs:List Value} (h:w.ownsRow B e b v n xs):∃a c,v = .slice a n c/\(n≠0->∃g,a=some ⟨g,0,none⟩)/\n<=c/\c<=maxLen:=by
 rcases h with⟨_,⟨rfl,d⟩|⟨g,f,i,rfl,_,_,k,j,_⟩⟩
 ·exact⟨none,0,by rw[d],λh=>absurd d h,by omega,by simp[maxLen]⟩
 ·exact⟨_,_,rfl,λ_=>⟨g,rfl⟩,k,j⟩
theorem Zbbm (c:List (List UInt8)):((nonE c).map List.length).sum=(c.map List.length).sum:=by
 induction c with
 | nil=>rfl
 | cons a l b=>
  unfold nonE at b⊢
  by_cases h:a = []
  ·subst h;simp[b]
  ·rw[List.filter_cons_of_pos (by simp[h]),List.map_cons,List.sum_cons,List.map_cons,List.sum_cons,b]
theorem Zut (a:List (List UInt8)):(Zus a).length<=(a.map List.length).sum+a.length:=by
 have b:=Zbbm a;have c:(nonE a).length<=a.length:=List.length_filter_le _ _;unfold Zus
 by_cases h:nonE a = []
 ·rw[h,Lib.join_nil];simp
 ·have:=join_length 47 (nonE a) h
  omega
theorem Zbqt (a:List ByteArray) (x:ByteArray):((a ++ [x]).map ByteArray.size).sum=(a.map ByteArray.size).sum+x.size:=by simp
theorem Zbqv (a:List ByteArray):(a.dropLast.map ByteArray.size).sum<=(a.map ByteArray.size).sum:=by
 by_cases h:a = []
 ·subst h;simp
 ·have e:=List.dropLast_concat_getLast h
  have:(a.map ByteArray.size).sum=((a.dropLast ++ [a.getLast h]).map ByteArray.size).sum:=by rw[e]
  rw[this,Zbqt];omega
theorem Zbqu (xs:List ByteArray):((xs.map (·.data.toList)).map List.length).sum=(xs.map ByteArray.size).sum:=by
 rw[List.map_map];congr 1
def NormAt (xs:List ByteArray) (k:Nat) (kept:List ByteArray) (total:Nat):Prop:=
 Zbbn (kept.map (·.data.toList)) ((xs.drop k).map (·.data.toList))=Zbbn [] (xs.map (·.data.toList))/\(kept.map ByteArray.size).sum+((xs.drop k).map ByteArray.size).sum<=total/\kept.length<=k
theorem NormAt.skip {xs:List ByteArray} {k:Nat} {a:List ByteArray} {total:Nat} {x:ByteArray} (h:NormAt xs k a total) (hx:xs[k]? =some x) (d:x.toList = []\/x.toList = [46]):NormAt xs (k+1) a total:=by
 obtain⟨b,c,e⟩:=h;rw[drop_at xs k x hx]at b c;rw[List.map_cons,Zbbq _ _ _ (by rw[<-Lib.toList_data];exact d)]at b;rw[List.map_cons,List.sum_cons]at c;exact⟨b,by omega,by omega⟩
theorem NormAt.up {xs:List ByteArray} {k:Nat} {a:List ByteArray} {total:Nat} {x:ByteArray} (h:NormAt xs k a total) (hx:xs[k]? =some x) (d:x.toList = [46,46]) (e:a≠[]):NormAt xs (k+1) a.dropLast total:=by
 obtain⟨b,c,f⟩:=h;rw[drop_at xs k x hx]at b c;rw[List.map_cons,<-Lib.toList_data,d,Zbbr _ _ (by simpa using e)]at b;rw[List.map_cons,List.sum_cons]at c;have:=Zbqv a;exact⟨by rw[List.map_dropLast];exact b,by omega,by simp;omega⟩
theorem NormAt.keep {xs:List ByteArray} {k:Nat} {a:List ByteArray} {total:Nat} {x:ByteArray} (h:NormAt xs k a total) (hx:xs[k]? =some x) (c:¬x.toList = []) (d:¬x.toList = [46]) (e:¬x.toList = [46,46]):NormAt xs (k+1) (a ++ [x]) total:=by
 obtain⟨b,f,g⟩:=h;rw[Lib.toList_data]at c d e;rw[drop_at xs k x hx]at b f;rw[List.map_cons,Zbbp _ _ _ c d e]at b;rw[List.map_cons,List.sum_cons]at f;exact⟨by rw[List.map_append];exact b,by rw[Zbqt];omega,by simp;omega⟩
theorem NormAt.done {xs:List ByteArray} {k:Nat} {a:List ByteArray} {b:Nat} (h:NormAt xs k a b) (e:xs.length<=k):Zbbn [] (xs.map (·.data.toList))=some (a.map (·.data.toList))/\(Zus (a.map (·.data.toList))).length<=b+k:=by
 obtain⟨c,d,f⟩:=h;rw[List.drop_of_length_le e]at c d;refine⟨c.symm,?_⟩;have:=Zut (a.map (·.data.toList));rw[Zbqu,List.length_map]at this;omega
def OwnF (w:World) (B:Nat) (r:Option Nat) (v:Value) (fs:List F2):Prop:=
 (w.ownsRow B 148 2 v fs.length (Znm fs)/\r=v.ownBlock)\/(fs = []/\r=none/\∃a,v = .slice a 0 0)
def Zaz (w:World) (B:Nat) (r:Option Nat) (fs:List F2) (e:Ending) (w':World):Prop:=
 ∃v' r',e = .returned v'/\OwnF w' B r' v' fs/\w.grownBy w' r/\(r'=r\/∃k,r'=some k/\w.heap.size<=k)
theorem Zbdv {w:World} {B d e a:Nat} {v:Value} {n:Nat} {xs:List Value} (h:w.ownsRow B e a v n xs) (j:d<=B):w.ownsRow d e a v n xs:=by
 obtain⟨f,i|⟨g,b,c,m,k,l⟩⟩:=h
 ·exact⟨f,.inl i⟩
 ·exact⟨f,.inr ⟨g,b,c,m,Nat.le_trans j k,l⟩⟩
theorem Zbdn {w:World} {B e a:Nat} {v:Value} {n:Nat} {xs:List Value} (h:w.ownsRow B e a v n xs) (i:n≠0):∃k,v.ownBlock=some k/\B<=k:=by
 obtain⟨l,⟨_,d⟩|⟨g,b,c,j,f,m⟩⟩:=h
 ·exact absurd d i
 ·exact⟨g,by rw[j];rfl,f⟩
theorem Ztg (B m g c:Nat) (a:List F2) (f:F2) (w:World) (_hn:a.length<=1000) (p:a.length+1<=c)
  (d:w.ownsRow B 148 2 (.slice (some ⟨g,0,none⟩) a.length c) a.length (Znm a))
  (t:w.heap[m]? =some (.cells #[.string f.1,.string f.2] 148 (0,0))):
  Calls prog 193 #[.slice (some ⟨g,0,none⟩) a.length c,.int .i64 a.length,.slice (some ⟨m,0,none⟩) 1 1] w (Zaz w B (some g) (a ++ [f])):=by
 obtain⟨y,i,v,l,x⟩:=info_parts Zsu;have e:=(Zbea d);obtain⟨A,C,k,_,r,e⟩:=e
 cases k
 unfold maxLen at e;have s:¬(c=a.length):=by omega
 go_enter func193,ntmps193
 go_wp2_with (at_builtin;refine wpList_append_fits _ rfl _ _ 186 rfl B 148 y 2 underlying186 i l g _ _ _ rfl d ⟨m,0,none⟩ 1 1 [.string f.1,.string f.2] rfl rfl ?c1 ?c2 p ?_)
 case c1=>exact λj u q=>Zbih t 0 j u (by simpa using q)
 case c2=>intro u n;simp at n;rcases n with rfl|rfl<;>rfl
 intro z b h;have o:Hid (OwnF z B (some g) (.slice (some ⟨g,0,none⟩) (a.length+1) c) (a ++ [f])):=by
  refine .inl ⟨?_,rfl⟩;rw[Znn,Znp,Zns];simpa using b
 clear b;go_wp2;go_ret;exact⟨_,_,rfl,o.out,h,.inl rfl⟩
theorem Ztf (B v c:Nat) (a:Option Addr) (r:Option Nat) (g:List F2) (f:F2) (w:World) (I:g.length<=1000) (D:c=g.length) (C:B<=w.heap.size) (i:a=none->g.length=0)
  (l:∀b,a=some b->∀j u,(Znm g)[j]? =some u->w.cell? (b.add j)=some u)
  (F:w.heap[v]? =some (.cells #[.string f.1,.string f.2] 148 (0,0))):
  Calls prog 193 #[.slice a g.length c,.int .i64 g.length,.slice (some ⟨v,0,none⟩) 1 1] w (Zaz w B r (g ++ [f])):=by
 obtain⟨G,n,q,s,t⟩:=info_parts Zsu;subst D;have m:=hid l;clear l
 go_enter func193,ntmps193
 go_wp2_with (at_builtin;refine wpList_append_grows _ rfl _ _ 186 rfl 148 G _ 2 32 underlying186 n q s t rfl (by decide) a g.length g.length (Znm g) rfl ?c0 ?cl ?cs ⟨v,0,none⟩ 1 1 [.string f.1,.string f.2] rfl rfl ?c1 ?c2 ?c3 ?c4 ?c5 ?_)
 case c0=>exact λh=>⟨i h,i h⟩
 case cl=>exact Znr g
 case cs=>exact m.out
 case c1=>exact λj u E=>Zbih F 0 j u (by simpa using E)
 case c2=>intro u x;simp at x;rcases x with rfl|rfl<;>rfl
 case c3=>omega
 case c4=>unfold maxLen;omega
 case c5=>omega
 all_goals
  intro H y e d;obtain⟨k,o,p⟩:=Zbdn e (by omega);have A:Hid (OwnF y B (some k) H (g ++ [f])):=by
   refine .inl ⟨?_,o.symm⟩;rw[Znn,Znp,Zns];simpa using Zbdv e C
  have z:Hid (w.grownBy y r):=⟨d.os,d.tape,d.output,d.size,λk o _=>d.block k o (by simp)⟩;clear e d;go_wp2;go_ret;exact⟨_,_,rfl,A.out,z.out,.inr ⟨k,rfl,p⟩⟩
theorem grown_of {w w':World} {r:Option Nat} (h:w.grownBy w' none):w.grownBy w' r:=⟨h.os,h.tape,h.output,h.size,λk a _=>h.block k a (by simp)⟩
theorem Ztd (B p i:Nat) (r:Option Nat) (v:Value) (d:List F2) (f:F2) (w:World) (hi:i<=d.length) (x:d.length<=1000) (D:B<=w.heap.size)
  (l:OwnF w B r v d) (L:some p≠r)
  (y:w.heap[p]? =some (.cells #[.string f.1,.string f.2] 148 (0,0))):
  Calls prog 193 #[v,.int .i64 i,.slice (some ⟨p,0,none⟩) 1 1] w (Zaz w B r (d.take i++f::d.drop i)):=by
 rcases l with⟨l,rfl⟩|⟨rfl,rfl,a,rfl⟩
 ·obtain⟨R,⟨rfl,M⟩|⟨g,c,z,rfl,J,I,K,A,C,s⟩⟩:=id l
  ·obtain rfl:=List.eq_nil_of_length_eq_zero M
   obtain rfl:i=0:=by simpa using hi
   exact Ztf B p 0 none _ [] f w x rfl D (λ_=>rfl) (λb E=>by cases E) y
  ·by_cases O:i=d.length
   ·subst O
    rw[List.take_length,List.drop_length]
    by_cases H:d.length+1<=c
    ·exact Ztg B p g c d f w x H l y
    ·exact Ztf B p c (some ⟨g,0,none⟩) _ d f w x (by omega) D (λh=>by cases h) (λb E j u t=>by
      cases E
      refine Zbih I 0 j u ?_;rw[<-s,List.getElem?_take]at t;split at t
      ·simpa using t
      ·cases t) y
   ·by_cases H:d.length+1<=c
    ·refine(Zti g d.length c i p d f z w (by omega) H x (by unfold maxLen at A;omega) (λe=>L (by rw[e];rfl)) rfl I C s y).mono ?_
     rintro e P ⟨rfl,m,q,n,o,k⟩;refine⟨_,_,rfl,.inl ⟨⟨by rw[Znr],.inr ⟨g,c,m,?_,J,q,?_,A,n,?_⟩⟩,rfl⟩,k,.inl rfl⟩
     ·congr 1;simp;omega
     ·simp;omega
     ·rw[show(d.take i++f::d.drop i).length=d.length+1 from by simp;omega];exact o
    ·refine(Zth g d.length c i p d f z w (by omega) (by omega) x K rfl I C s y).mono ?_
     rintro e P ⟨G,rfl,Q,F,m,q,n,o,k⟩;refine⟨_,_,rfl,.inl ⟨⟨by rw[Znr],.inr ⟨w.heap.size,G,m,?_,D,q,?_,F,n,?_⟩⟩,rfl⟩,grown_of k,.inr ⟨w.heap.size,rfl,Nat.le_refl _⟩⟩
     ·congr 1;simp;omega
     ·simp;omega
     ·rw[show(d.take i++f::d.drop i).length=d.length+1 from by simp;omega];exact o
 ·obtain rfl:i=0:=by simpa using hi
  exact Ztf B p 0 a _ [] f w x rfl D (λ_=>rfl) (λb E j u t=>by simp[Znm]at t) y
