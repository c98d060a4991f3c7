import Derived.Test.YtokogjhcidkckaaGreatDoorMah
import Derived.Laws.AppendOwn
import Derived.WalkSmall
import Derived.Shelf.Spec.SlicesInsert
import Derived.Lib.AppendZerosOnto
import Derived.Laws.CopyOwn
namespace Go.Proofs.YtokogjhcidkckaaGreatDoor.Exe
open Go.Lib (hid)
open Go.Proofs.Tryz
open Go
variable {P:Program} {Z:TypeId->Nat} {G:Nat} {r:Ren} {h:Hp} {w w':World}
theorem Rep.grown {k:Nat} (hR:Rep (Zcmd k) Z G r h w) {h0:Hp} (hsub:∀m o,look h0 m=some o->look h m=some o) {R:Option Nat} (hown:∀b,R=some b->Own r h b) (hrow:∀b,R=some b->∀m o e,look h0 m=some o->r m=some e->e.b≠b)
  (hg:w.grownBy w' R) {nm g S:Nat} {t:TypeId} {o:CO} {o':Obj} (h1:2*k<=nm) (h2:nm<2*(k+1)) (hgR:R=some g∨w.heap.size<=g) (hcell:w'.heap[g]? =some o') (hO:ObjR Z r nm ⟨g,0,S,t⟩ o o'):
  Rep (Zcmd (k+1)) Z G (set1 r nm ⟨g,0,S,t⟩) ((nm,o)::h0) w'/\Nx r h w (set1 r nm ⟨g,0,S,t⟩) ((nm,o)::h0) w':=by
 have hx:=Zcuy hR (n:=nm) h1 ⟨g,0,S,t⟩;have hlt:g<w'.heap.size:=(Array.getElem?_eq_some_iff.1 hcell).1;have hgne:∀m p e,look h0 m=some p->r m=some e->e.b≠g:=by
  intro m p e hm he
  rcases hgR with hgR|hgR
  ·exact hrow g hgR m p e hm he
  ·have:=hR.low _ _ he;omega
 have hkeep:∀m p e,look h0 m=some p->r m=some e->w'.heap[e.b]? =w.heap[e.b]?:=by
  intro m p e hm he;refine hg.block _ (hR.low _ _ he) ?_;intro hb;exact hrow _ hb.symm m p e hm he rfl
 refine⟨⟨λn p hl=>?_,λn m p q en em hn hm a b hb=>?_,λn e he=>?_,λn hn=>?_,λg' hg'=>?_⟩,⟨hx,hg.size,λb hb hno=>?_,λb hb hOw=>?_,λb hb hOw=>?_,hg.os,hg.tape,hg.output⟩⟩
 ·rw[Zcrv]at hl
  split at hl
  ·rename_i e;subst e;cases hl
   exact⟨_,by simp[set1],o',hcell,hO.mono hx⟩
  ·obtain⟨e,he,p',hp',hOp⟩:=hR.obj n p (hsub _ _ hl)
   exact⟨e,hx _ _ he,p',by rw[hkeep _ _ _ hl he];exact hp',hOp.mono hx⟩
 ·rw[Zcrv]at hn hm
  unfold set1 at a b;split at hn
  ·rename_i e1;subst e1;simp at a;subst a
   split at hm
   ·rename_i e2;exact e2.symm
   ·rename_i e2
    rw[if_neg e2]at b;exact absurd hb.symm (hgne _ _ _ hm b)
  ·rename_i e1
   rw[if_neg e1]at a;split at hm
   ·rename_i e2;subst e2;simp at b;subst b
    exact absurd hb (hgne _ _ _ hn a)
   ·rename_i e2
    rw[if_neg e2]at b;exact hR.inj n m p q en em (hsub _ _ hn) (hsub _ _ hm) a b hb
 ·unfold set1 at he
  split at he
  ·cases he;exact hlt
  ·have:=hR.low _ _ he
   have:=hg.size;omega
 ·unfold set1
  unfold Zcmd at hn;rw[if_neg (by omega)];exact hR.new n (by unfold Zcmd;omega)
 ·obtain⟨e,he,hb,hs⟩:=hR.glo g' hg'
  exact⟨e,hx _ _ he,hb,hs⟩
 ·exact hg.block b hb (λhr=>hno (hown b hr.symm))
 ·obtain⟨n,p,e,hl,hro,he,rfl⟩:=hOw
  rw[Zcrv]at hl;unfold set1 at he;split at hl
  ·rename_i e1;subst e1;simp at he;subst he
   rcases hgR with hgR|hgR
   ·exact hown g hgR
   ·simp only at hb;omega
  ·rename_i e1;rw[if_neg e1]at he
   exact⟨n,p,e,hsub _ _ hl,hro,he,rfl⟩
 ·obtain⟨n,p,e,hl,he,rfl⟩:=hOw
  rw[Zcrv]at hl;unfold set1 at he;split at hl
  ·rename_i e1;subst e1;simp at he;subst he
   rcases hgR with hgR|hgR
   ·exact(hown g hgR).live
   ·simp only at hb;omega
  ·rename_i e1;rw[if_neg e1]at he
   exact⟨n,p,e,hsub _ _ hl,he,rfl⟩
abbrev Fi:=ByteArray×ByteArray
def Zcpr (fs:List Fi):List Value:=(fs.map λf=>[Value.string f.1,Value.string f.2]).flatten
theorem Zcps (f:Fi) (fs:List Fi):Zcpr (f::fs) = .string f.1 :: .string f.2::Zcpr fs:=by simp[Zcpr]
theorem Zcpt:∀fs:List Fi,(Zcpr fs).length=fs.length*2
 | []=>rfl
 | f::fs=>by rw[Zcps];simp only[List.length_cons,Zcpt fs];omega
theorem Zcpu:∀(fs:List Fi) (i:Nat) v,(Zcpr fs)[i]? =some v->∃s,v = .string s
 | [],i,v,hv=>by simp[Zcpr]at hv
 | f::fs,i,v,hv=>by
  rw[Zcps]at hv
  match i with
  | 0=>simp at hv;exact⟨_,hv.symm⟩
  | 1=>simp at hv;exact⟨_,hv.symm⟩
  | i+2=>exact Zcpu fs i v (by simpa using hv)
def Zcqb:Nat->List Value->Option (List Fi)
 | 0,_=>some []
 | n+1,cs=>match cs with
  | .string a :: .string b::cs=>match Zcqb n cs with
   | some fs=>some ((a,b)::fs)
   | none=>none
  | _=>none
theorem Zcqc:∀ {n:Nat} {cs:List Value} {fs:List Fi},Zcqb n cs=some fs->fs.length=n/\cs.take (n*2)=Zcpr fs
 | 0,cs,fs,hc=>by simp only[Zcqb,Option.some.injEq]at hc;subst hc;exact⟨rfl,by simp[Zcpr]⟩
 | n+1,cs,fs,hc=>by
  simp only[Zcqb]at hc;split at hc
  case h_2=>cases hc
  rename_i a b cs'
  split at hc
  case h_2=>cases hc
  rename_i fs' h'
  cases hc
  obtain⟨h1,h2⟩:=Zcqc h';refine⟨by simp[h1],?_⟩;rw[Zcps,show(n+1)*2=n*2+2 by omega];simp[h2]
theorem Zcvt {n:Nat} {e:Ent} {cs:List Value} {t:TypeId} {hi:Nat} {ro:Bool} {c:Array Value} {f:Nat×Nat} (hO:ObjR Z r n e (.cells cs t hi ro) (.cells c t f)) (hsh:e.sh=0) {k:Nat} {fs:List Fi} (hk:cs.take k=Zcpr fs) (hkl:k=fs.length*2):c.toList.take k=Zcpr fs:=by
 obtain⟨a1,a2,a3,a4,a5,a6,a7⟩:=hO;have hl:=congrArg List.length hk;rw[Zcpt,List.length_take]at hl;apply List.ext_getElem?;intro i
 rcases Nat.lt_or_ge i k with hik|hik
 ·have h1:(Zcpr fs)[i]? =cs[i]?:=by rw[<-hk,List.getElem?_take,if_pos hik]
  have hic:i<cs.length:=by omega
  have h2:cs[i]? =some cs[i]:=by simp[hic]
  obtain⟨s,hs⟩:=Zcpu fs i cs[i] (by rw[h1,h2]);obtain⟨v',q1,q2⟩:=a6 i _ h2;rw[hs]at q2;obtain rfl:=Zcna rfl q2;rw[List.getElem?_take,if_pos hik,h1,h2,hs];simpa[hsh]using q1
 ·rw[List.getElem?_eq_none (by simp;omega),List.getElem?_eq_none (by rw[Zcpt];omega)]
def OwnI (el:TypeId) (w:World) (R:Option Nat) (v:Value) (fs:List Fi):Prop:=
 (w.ownsRow 0 el 2 v fs.length (Zcpr fs)/\R=v.ownBlock)∨(fs = []/\R=none/\∃a,v = .slice a 0 0)
def InsH (P:Program) (nf:FuncId) (el:TypeId):Prop:=∀(vb i:Nat) (R:Option Nat) (v:Value) (fs:List Fi) (f:Fi) (w:World),i<=fs.length->fs.length<=1000->OwnI el w R v fs->some vb≠R->
 w.heap[vb]? =some (.cells #[.string f.1,.string f.2] el (0,0))->Calls P nf #[v,.int .i64 i,.slice (some ⟨vb,0,none⟩) 1 1] w λe w'=>
  ∃v' R',e = .returned v'/\OwnI el w' R' v' (fs.take i++f::fs.drop i)/\w.grownBy w' R/\(R'=R∨∃k,R'=some k/\w.heap.size<=k)
def rowC (el:TypeId) (h:Hp) (m:Nat):Value->Option (List Fi×Hp)
 | .slice none l c=>bif Nat.beq l 0&&Nat.beq c 0 then some ([],h)else none
 | .slice (some ⟨n,o,none⟩) l c=>match look h n with
  | some (.cells cs t hi ro)=>bif Nat.beq o 0&&Nat.beq t el&&Nat.beq hi 0 && !ro && !(Nat.beq n m) && !Zcqz cs&&Nat.blt 0 c&&Nat.ble l c&&(!exN n||(Nat.beq (c*2) cs.length&&Nat.ble c 1000000))then
    match Zcqb l cs with
    | some fs=>some (fs,del h n)
    | none=>none
   else none
  | _=>none
 | _=>none
theorem Zcuo {N:Nat->Prop} (hR:Rep N (Zp P) G r h w) {el:TypeId} (hz:Zp P el=2) {m:Nat} {v v':Value} (hv:ValR (Zp P) r v v') {fs:List Fi} {h0:Hp} (hc:rowC el h m v=some (fs,h0)) (hm:∃o,look h m=some o):
  ∃R,OwnI el w R v' fs/\(∀m o,look h0 m=some o->look h m=some o)/\(∀b,R=some b->Own r h b)/\(∀b,R=some b->∀m o e,look h0 m=some o->r m=some e->e.b≠b)/\∀e,r m=some e->some e.b≠R:=by
 unfold rowC at hc;split at hc
 ·rename_i l c
  cases hb:(Nat.beq l 0&&Nat.beq c 0)with
  | false=>rw[hb]at hc;cases hc
  | true=>
   rw[hb]at hc;cases hc;simp only[Bool.and_eq_true,Zcnc]at hb;obtain⟨rfl,rfl⟩:=hb;obtain rfl:=Zcna rfl hv;exact⟨none,.inr ⟨rfl,rfl,none,rfl⟩,λ_ _ x=>x,λ_ x=>(by cases x),λ_ x=>(by cases x),λ_ _ x=>(by cases x)⟩
 ·rename_i n o l c
  split at hc
  case h_2=>cases hc
  rename_i cs t hi ro hl
  cases hb:(Nat.beq o 0&&Nat.beq t el&&Nat.beq hi 0 && !ro && !(Nat.beq n m) && !Zcqz cs&&Nat.blt 0 c&&Nat.ble l c&&(!exN n||(Nat.beq (c*2) cs.length&&Nat.ble c 1000000)))with
  | false=>rw[hb]at hc;cases hc
  | true=>
   rw[hb]at hc;simp only[cond_true]at hc;split at hc
   case h_2=>cases hc
   rename_i fs' hf
   cases hc
   simp only[Bool.and_eq_true,Bool.or_eq_true,Bool.not_eq_true',Zcnc,Zcnd]at hb;obtain⟨⟨⟨⟨⟨⟨⟨⟨rfl,rfl⟩,rfl⟩,rfl⟩,b5⟩,b55⟩,b6⟩,b7⟩,b8⟩:=hb;have b6:=Nat.le_of_ble_eq_true b6;have b7:=Nat.le_of_ble_eq_true b7;obtain⟨f1,f2⟩:=Zcqc hf
   cases hv with
   | same ha=>simp[atom]at ha
   | @slice _ _ _ _ c' e he hle hex hr=>
    obtain⟨e',he',o',ho',hO⟩:=hR.obj n _ hl;obtain rfl:=Option.some.inj (he.symm.trans he')
    cases o' with
    | cells cur t' fz=>
     have hO':=hO;obtain⟨a1,a2,a3,a4,a5,a6,a7⟩:=hO';have hsh:e.sh=0:=by
      rcases a7.2 with q6|q6
      ·exact q6
      ·rw[b55]at q6;cases q6
     subst a1;have hz0:fz=(0,0):=a7.1.2 (by omega);subst hz0;have hcap:cur.size=c'*2/\c'<=9223372036854775807:=by
      cases hn:exN n with
      | true=>
       rw[hn]at b8;simp only[Bool.true_eq_false,false_or]at b8;have h1:=hex hn;subst h1;have:=(a5 hn).2;have:=Nat.le_of_ble_eq_true b8.2;omega
      | false=>
       have hr':=hr hn;rw[a2,hz]at hr';have:=hr'.2.1 rfl (by omega);exact⟨by omega,hr'.2.2⟩
     rw[hsh];refine⟨some e.b,.inl ⟨⟨Zcpt _,.inr ⟨e.b,c',cur,by rw[f1],Nat.zero_le _,ho',by omega,by unfold maxLen;omega,hcap.1,by rw[f1];exact Zcvt hO hsh f2 (by rw[f1])⟩⟩,rfl⟩,Zcrx,λb hb=>?_,λb hb m' p e' hm' he' heq=>?_,λe' he' heq=>?_⟩
     ·cases hb;exact⟨n,_,e,hl,rfl,he,rfl⟩
     ·cases hb
      rw[Zcrw]at hm';split at hm'
      ·cases hm'
      ·rename_i hne
       exact hne (hR.inj m' n p _ e' e hm' hl he' he heq)
     ·obtain⟨o2,ho2⟩:=hm
      exact b5 (hR.inj m n o2 _ e' e ho2 hl he' he (Option.some.inj heq)).symm
    | _=>exact hO.elim
 ·cases hc
def insK (nf:FuncId) (el:TypeId):FK:=λf vs k h=>bif Nat.beq f nf then match vs with
 | [s,.int .i64 i,.slice (some ⟨m,o,none⟩) l c]=>bif Nat.beq o 0&&Nat.beq l 1&&Nat.beq c 1&&exN m&&decide (0<=i)then match look h m with
  | some (.cells cs t hi _)=>bif Nat.beq t el&&Nat.beq hi 0&&Nat.beq cs.length 2 then match Zcqb 1 cs with
   | some [x]=>match rowC el h m s with
    | some (fs,h0)=>bif Nat.ble i.toNat fs.length&&Nat.ble fs.length 1000 then
     some (.slice (some ⟨2*k+1,0,none⟩) (fs.length+1) (fs.length+1),k+1,(2*k+1,.cells (Zcpr (fs.take i.toNat++x::fs.drop i.toNat)) el 0 false)::h0)else none
    | none=>none
   | _=>none else none
  | _=>none else none
 | _=>none else none
theorem Zcrj {nf:FuncId} {el:TypeId} (hN:Zcmj P) (hb:Zcqx P nf=true) (hz:Zp P el=2) (hI:InsH P nf el):KS P G (onFn (insK nf el)):=by
 refine Zcth ?_;intro f vs k h v k1 h1 hc r w vs' hR hv;unfold insK at hc
 cases hm:Nat.beq f nf with
 | false=>rw[hm]at hc;cases hc
 | true=>
  rw[hm]at hc;simp only[cond_true]at hc;obtain rfl:=Zcnc.1 hm;split at hc
  case h_2=>cases hc
  rename_i s i m o l c
  cases hb2:(Nat.beq o 0&&Nat.beq l 1&&Nat.beq c 1&&exN m&&decide (0<=i))with
  | false=>rw[hb2]at hc;cases hc
  | true=>
   rw[hb2]at hc;simp only[cond_true]at hc;simp only[Bool.and_eq_true,Zcnc,decide_eq_true_eq]at hb2;obtain⟨⟨⟨⟨rfl,rfl⟩,rfl⟩,b4⟩,b5⟩:=hb2;split at hc
   case h_2=>cases hc
   rename_i cs t hi ro hl
   cases hb3:(Nat.beq t el&&Nat.beq hi 0&&Nat.beq cs.length 2)with
   | false=>rw[hb3]at hc;cases hc
   | true=>
    rw[hb3]at hc;simp only[cond_true]at hc;simp only[Bool.and_eq_true,Zcnc]at hb3;obtain⟨⟨rfl,rfl⟩,b8⟩:=hb3;split at hc
    case h_2=>cases hc
    rename_i x hx
    split at hc
    case h_2=>cases hc
    rename_i fs h0 hrow
    cases hb4:(Nat.ble i.toNat fs.length&&Nat.ble fs.length 1000)with
    | false=>rw[hb4]at hc;cases hc
    | true=>
     rw[hb4]at hc;cases hc;simp only[Bool.and_eq_true]at hb4;have c1:=Nat.le_of_ble_eq_true hb4.1;have c2:=Nat.le_of_ble_eq_true hb4.2;obtain⟨s',us,rfl,v1,v2⟩:=hv.head;obtain⟨i',us,rfl,v3,v4⟩:=v2.head;obtain⟨x',us,rfl,v5,v6⟩:=v4.head;obtain rfl:us = []:=by have:=v6.1;cases us with
      | nil=>rfl
      | cons _ _=>simp at this
     obtain rfl:=Zcna rfl v3;obtain⟨R,p1,p2,p3,p4,p5⟩:=Zcuo hR hz v1 hrow ⟨_,hl⟩
     cases v5 with
     | same ha=>simp[atom]at ha
     | @slice _ _ _ _ c' e he hle hex hr=>
      obtain rfl:=hex b4;obtain⟨e',he',o',ho',hO⟩:=hR.obj m _ hl;obtain rfl:=Option.some.inj (he.symm.trans he')
      cases o' with
      | cells cur t' fz=>
       have hO':=hO;obtain⟨a1,a2,a3,a4,a5,a6,a7⟩:=hO';have hsh:e.sh=0:=(a5 b4).1;subst a1;have hz0:fz=(0,0):=a7.1.2 (by omega);subst hz0;obtain⟨x1,x2⟩:=Zcqc hx;have hcur:cur = #[.string x.1,.string x.2]:=by
        have h3:=Zcvt hO hsh x2 (by simp);have h4:=(a5 b4).2;apply Array.ext';rw[List.take_of_length_le (by simp;omega)]at h3;rw[h3];rfl
       subst hcur;have hcall:=hI e.b i.toNat R s' fs x w c1 c2 p1 (p5 e he) ho';have hi:((i.toNat:Nat):Int)=i:=by omega
       rw[hi]at hcall;have hsl:(0:Nat)+e.sh=0:=by omega
       rw[hsl];refine .inr ⟨Zcqy hN hb _ _,callsIn_wide.2 ?_⟩;refine Calls.mono hcall ?_;rintro en w1 ⟨v',R',rfl,q1,q2,q3⟩;have hlen:(fs.take i.toNat++x::fs.drop i.toNat).length=fs.length+1:=by simp;omega
       rcases q1 with⟨⟨q4,⟨q5,q6⟩|⟨g,cap,cur',rfl,_,g2,g3,g4,g5,g6⟩⟩,rfl⟩|⟨q4,_⟩
       ·rw[hlen]at q6;cases q6
       ·have hgR:R=some g∨w.heap.size<=g:=by
         rcases q3 with q3|⟨k',q3,q3'⟩
         ·exact .inl q3.symm
         ·cases q3;exact .inr q3'
        have hOn:ObjR (Zp P) r (2*k+1) ⟨g,0,cap*2,t'⟩ (.cells (Zcpr (fs.take i.toNat++x::fs.drop i.toNat)) t' 0 false) (.cells cur' t' (0,0)):=by
         refine⟨rfl,rfl,g5,?_,λhx=>(by rw[Zctd]at hx;cases hx),λj u hj=>⟨u,?_,?_⟩,FzS.zero⟩
         ·rw[Zcpt]
          have:=Nat.mul_le_mul_right 2 g3;simpa using this
         ·rw[<-g6,List.getElem?_take]at hj
          split at hj
          ·simpa using hj
          ·cases hj
         ·obtain⟨s,rfl⟩:=Zcpu _ _ _ hj
          exact .same rfl
        obtain⟨y1,y2⟩:=hR.grown p2 p3 p4 q2 (nm:=2*k+1) (by omega) (by omega) hgR g2 hOn;rw[hlen];exact⟨_,_,rfl,y2,y1,.slice (e:=⟨g,0,cap*2,t'⟩) (c':=cap) (by simp[set1]) (by omega) (λhx=>(by rw[Zctd]at hx;cases hx)) (λ_=>by show CapR (0+0+cap*Zp P t') cap (cap*2) (Zp P t');rw[hz];exact⟨by omega,λ_ _=>by omega,g4⟩)⟩
       ·simp at q4
      | _=>exact hO.elim
end Go.Proofs.YtokogjhcidkckaaGreatDoor.Exe
namespace Go.Proofs.YtokogjhcidkckaaGreatDoor.Exe
open Go.Lib (hid)
open Go.Proofs.Tryz
open Go Go.RowKit
variable {P:Program} {Z:TypeId->Nat} {G:Nat} {r:Ren} {h:Hp} {w w':World}
def hx (T:TypeId) (ns:List (List UInt8)):Hp:=[(2*gq,.cells (nameCells ns) T 9223372036854775808 true)]
def rx (G:Nat) (T:TypeId) (ns:List (List UInt8)):Ren:=λn=>if n % 2=0/\n/2<G then some ⟨n/2,0,ns.length,T⟩else none
theorem Zcry {T:TypeId} {ns:List (List UInt8)} {n:Nat} {o:CO} (hl:look (hx T ns) n=some o):n=2*gq/\o = .cells (nameCells ns) T 9223372036854775808 true:=by
 unfold hx at hl;rw[Zcrv]at hl;split at hl
 ·rename_i e;cases hl;exact⟨e,rfl⟩
 ·cases hl
theorem Zcss {ns:List (List UInt8)} {i:Nat} {v:Value} (hv:(nameCells ns)[i]? =some v):∃s,v = .string s:=by
 unfold nameCells at hv;rw[List.getElem?_map]at hv;obtain⟨b,_,rfl⟩:=Option.map_eq_some_iff.1 hv;exact⟨_,rfl⟩
theorem rep0 {T:TypeId} {ns:List (List UInt8)} (hw:GX G T ns w) (hG:gq<G) {k:Nat} (hk:G<=k):Rep (Zcmd k) Z G (rx G T ns) (hx T ns) w:=by
 obtain⟨hs,cur,f,hcur,hc⟩:=hw;have hsz:cur.size=ns.length:=by
  have:=congrArg List.length hc;simpa[nameCells]using this
 refine⟨λn o hl=>?_,λn m o p en em hn hm _ _ _=>?_,λn e he=>?_,λn hn=>?_,λg hg=>⟨⟨g,0,ns.length,T⟩,by simp[rx,hg],rfl,rfl⟩⟩
 ·obtain⟨rfl,rfl⟩:=Zcry hl
  refine⟨⟨gq,0,ns.length,T⟩,by simp[rx,hG],_,hcur,rfl,rfl,hsz,by simp[nameCells],λ_=>⟨rfl,by simp[nameCells]⟩,λi v hv=>⟨v,?_,?_⟩,⟨.inr (Nat.le_refl _),λhx=>absurd hx (by omega)⟩,.inl rfl⟩
  ·rw[<-hc]at hv;simpa using hv
  ·obtain⟨s,rfl⟩:=Zcss hv;exact .same rfl
 ·rw[(Zcry hn).1,(Zcry hm).1]
 ·unfold rx at he
  split at he
  ·cases he;simp only;omega
  ·cases he
 ·unfold Zcmd at hn
  unfold rx;rw[if_neg (by omega)]
theorem Zcrc {T:TypeId} {ns:List (List UInt8)} {b:Nat}:¬Own r (hx T ns) b:=by
 rintro⟨n,o,e,hl,hro,_⟩;obtain⟨_,rfl⟩:=Zcry hl
 cases hro
def okV:Option (Value×Nat×Hp)->Bool
 | some (.bool true,_,_)=>true
 | _=>false
theorem Zctg {x:Option (Value×Nat×Hp)} (h:okV x=true):∃k h1,x=some (.bool true,k,h1):=by
 unfold okV at h;split at h
 ·exact⟨_,_,rfl⟩
 ·cases h
theorem Zcuu {K:KF} (hK:KS P G K) (hN:Zcmj P) {f:FuncId} (hb:Zcqx P f=true) {T:TypeId} {ns:List (List UInt8)} (hG:gq<G) {k:Nat} (hk:G<=k) (hrun:okV (K (.fn f) [] k (hx T ns))=true) (hw:GX G T ns w):
  Calls P f #[] w λe w'=>e = .returned (.bool true)/\Below w.heap.size w w':=by
 obtain⟨k1,h1,hrun⟩:=Zctg hrun;have:=(hK _ _ _ _ _ _ _ hrun (rx G T ns) w [] (rep0 hw hG hk) .nil).resolve_left (by
  rintro⟨r1,v',w1,q,_⟩;rw[Zcqy hN hb]at q;cases q)
 refine Calls.mono (callsIn_wide.1 this.2) ?_;rintro e w1 ⟨r1,v',rfl,q1,_,q3⟩;obtain rfl:=Zcna rfl q3;exact⟨rfl,q1.os,q1.tape,q1.output,q1.size,λb hb=>q1.frame b hb Zcrc⟩
def Zcuv:List Value->List (List UInt8)->Bool
 | [],[]=>true
 | .string s::vs,b::bs=>(s.data.toList==b)&&Zcuv vs bs
 | _,_=>false
theorem Zcuw:∀ {vs:List Value} {bs:List (List UInt8)},Zcuv vs bs=true->vs=nameCells bs
 | [],[],_=>rfl
 | [],_::_,h=>by simp[Zcuv]at h
 | v::vs,[],h=>by cases v<;>simp[Zcuv]at h
 | v::vs,b::bs,h=>by
  cases v with
  | string s=>
   simp only[Zcuv,Bool.and_eq_true,beq_iff_eq]at h;have h2:=Zcuw h.2;rw[h2,<-h.1];simp[nameCells]
  | _=>simp[Zcuv]at h
def Zcsp (F:List FuncId) (T:TypeId) (ns:List (List UInt8)):FK:=λf vs k h=>bif memB F f then match vs with
 | []=>match look h (2*gq)with
  | some (.cells cs t _ _)=>bif Nat.beq t T&&Zcuv cs ns then some (.bool true,k,h)else none
  | _=>none
 | _=>none else none
theorem Zcsq (hN:Zcmj P) {F:List FuncId} {T:TypeId} {ns:List (List UInt8)} (hG:gq<G) (hF:∀f∈F,Zcqx P f=true/\∀w,GX G T ns w->Calls P f #[] w λe w'=>e = .returned (.bool true)/\Below w.heap.size w w'):KS P G (onFn (Zcsp F T ns)):=by
 refine Zcth ?_;intro f vs k h v k1 h1 hc r w vs' hR hv;unfold Zcsp at hc
 cases hm:memB F f with
 | false=>rw[hm]at hc;cases hc
 | true=>
  rw[hm]at hc;simp only[cond_true]at hc;split at hc
  case h_2=>cases hc
  split at hc
  case h_2=>cases hc
  rename_i cs t hi ro hl
  cases hb:(Nat.beq t T&&Zcuv cs ns)with
  | false=>rw[hb]at hc;cases hc
  | true=>
   rw[hb]at hc;cases hc;simp only[Bool.and_eq_true,Zcnc]at hb;obtain⟨rfl,hsn⟩:=hb;have hcs:=Zcuw hsn;obtain⟨b1,b2⟩:=hF f (Zcso.1 hm);obtain rfl:vs' = []:=by
    have:=hv.1
    cases vs' with
    | nil=>rfl
    | cons _ _=>simp at this
   obtain⟨e,he,o',ho',hO⟩:=hR.obj (2*gq) _ hl;obtain⟨e',he',hb0,hsh⟩:=hR.glo gq hG;obtain rfl:=Option.some.inj (he.symm.trans he');have hgx:GX G t ns w:=by
    cases o' with
    | cells cur t' f'=>
     obtain⟨a1,a2,a3,a4,a5,a6,a7⟩:=hO;subst a1;refine⟨?_,cur,f',by rw[<-hb0];exact ho',?_⟩
     ·obtain⟨e2,he2,hb2,_⟩:=hR.glo (G-1) (by omega)
      have:=hR.low _ _ he2;omega
     ·have hlen:=(a5 rfl).2
      apply List.ext_getElem?;intro i;rw[<-hcs]
      rcases Nat.lt_or_ge i cs.length with hi|hi
      ·have h1:cs[i]? =some cs[i]:=by simp[hi]
       obtain⟨v',q1,q2⟩:=a6 i _ h1;obtain⟨s,hs⟩:=Zcss (ns:=ns) (i:=i) (v:=cs[i]) (by rw[<-hcs];exact h1);rw[hs]at q2;obtain rfl:=Zcna rfl q2;rw[h1,hs];simpa[hsh]using q1
      ·rw[List.getElem?_eq_none hi,List.getElem?_eq_none (by simp;omega)]
    | _=>exact hO.elim
   refine .inr ⟨Zcqy hN b1 _ _,callsIn_wide.2 (Calls.mono (b2 w hgx) ?_)⟩;rintro en w1 ⟨rfl,hB⟩;refine⟨r,_,rfl,⟨Ext.refl r,hB.size,λb hb _=>hB.block b hb,λ_ _ x=>x,λ_ _ x=>x,hB.os,hB.tape,hB.output⟩,⟨λn o hn=>?_,hR.inj,λn e he=>Nat.lt_of_lt_of_le (hR.low n e he) hB.size,hR.new,hR.glo⟩,.same rfl⟩;obtain⟨e2,he2,o2,ho2,hO2⟩:=hR.obj n o hn;exact⟨e2,he2,o2,by rw[hB.block _ (hR.low _ _ he2)];exact ho2,hO2⟩
end Go.Proofs.YtokogjhcidkckaaGreatDoor.Exe
namespace Go.Proofs.YtokogjhcidkckaaGreatDoor
open Go.Lib (hid)
open Go.Proofs.Tryz
open Go.RowKit
def Zbfl:String:= "internal/strconv.uint64pow10"
structure Glob (w:World):Prop where
 max:∃m,w.cell? ⟨0,0,none⟩=some (.int .i64 m)
 tab:Lib.TabIs prog w Zbfl .u64 Lib.pow10Tab
 top:2<w.heap.size
 es:∃tp p,w.cell? ⟨3,0,none⟩=some (.iface tp p)
 er:∃tp p,w.cell? ⟨4,0,none⟩=some (.iface tp p)
theorem Glob.below {w w':World} (h:Glob w) (hb:Below w.heap.size w w'):Glob w':=by
 obtain⟨⟨m,hm⟩,ht,htop,⟨t1,p1,h1⟩,⟨t2,p2,h2⟩⟩:=h;exact⟨⟨m,(hb.cell (Zie hm)).trans hm⟩,var?_below hb (by kernel_rfl) htop ht,Nat.lt_of_lt_of_le htop hb.size,⟨t1,p1,(hb.cell (Zie h1)).trans h1⟩,⟨t2,p2,(hb.cell (Zie h2)).trans h2⟩⟩
def numS (n:Int):List UInt8:=Lib.itoa (max n 0)
def Zqk (s:List UInt8) (most:Int):Int×Bool:=
 match Lib.atoiAll s with
 | .ok v=>if v<=most/\numS v=s then(v,true)else(0,false)
 | _=>(0,false)
abbrev F2:=ByteArray×ByteArray
def Znm (fs:List F2):List Value:=(fs.map λf=>[Value.string f.1,Value.string f.2]).flatten
theorem Zns:Znm [] = []:=rfl
theorem Znp (f:F2) (fs:List F2):Znm (f::fs) = .string f.1 :: .string f.2::Znm fs:=by simp[Znm]
theorem Znn (a b:List F2):Znm (a++b)=Znm a++Znm b:=by simp[Znm]
theorem Znr (fs:List F2):(Znm fs).length=fs.length*2:=by
 induction fs with
 | nil=>rfl
 | cons f fs ih=>rw[Znp];simp only[List.length_cons,ih];omega
theorem Znt (fs:List F2):∀u∈Znm fs,u.oneCell'=true:=by
 induction fs with
 | nil=>intro u hu;cases hu
 | cons f fs ih=>
  rw[Znp];intro u hu
  rcases List.mem_cons.1 hu with rfl|hu
  ·rfl
  ·rcases List.mem_cons.1 hu with rfl|hu
   ·rfl
   ·exact ih u hu
theorem Znv (fs:List F2):∀i,(Znm fs).take (i*2)=Znm (fs.take i):=by
 induction fs with
 | nil=>intro i;simp[Znm]
 | cons f fs ih=>
  intro i
  cases i with
  | zero=>simp[Znm]
  | succ i=>rw[Znp,Nat.add_mul,List.take_succ_cons,List.take_succ_cons,ih i,List.take_succ_cons,Znp]
theorem Znq (fs:List F2):∀i,(Znm fs).drop (i*2)=Znm (fs.drop i):=by
 induction fs with
 | nil=>intro i;simp[Znm]
 | cons f fs ih=>
  intro i
  cases i with
  | zero=>simp[Znm]
  | succ i=>rw[Znp,Nat.add_mul,List.drop_succ_cons,List.drop_succ_cons,ih i,List.drop_succ_cons]
theorem Zbkg (P:Program) (w:World) (dT sT ty elem:TypeId) (g o dLen dCap:Nat) (a:Addr) (sLen sCap sz:Nat) (cur:Array Value) (t:TypeId) (cs:List Value)
  (hu:P.underlying dT=some (.slice elem)) (hs:(P.info? elem).map (·.size)=some sz)
  (hg:w.heap[g]? =some (.cells cur t (0,0))) (hn:cs.length=Nat.min sLen dLen*sz)
  (hsrc:∀j v,cs[j]? =some v->w.cell? (a.add j)=some v) (hfit:o+cs.length<=cur.size) (h1:∀v∈cs,v.oneCell'=true):
  (Builtin.copy_ #[dT,sT] ty #[.slice (some ⟨g,o,none⟩) dLen dCap,.slice (some a) sLen sCap]).run P w =
   .ok (goInt (Nat.min sLen dLen)) (w.setRow g (cur.toList.take o++cs++cur.toList.drop (o+cs.length)).toArray):=by
 have hl:=run_loadCells_list (P:=P) w a cs hsrc;have hst:=run_storeCells_at P g o t cs 0 cur w hg (by simpa using hfit) h1
 cases hq:P.info? elem with
 | none=>simp[hq]at hs
 | some i=>
  have hi:i.size=sz:=by simpa[hq]using hs
  simp[Builtin.copy_,run_underlying hu,Builtin.lenOf,Builtin.firstCells,sizeOf,typeInfo,hq,hi,<-hn,hl,hst]
theorem Zsu:(prog.info? 148).map (λi=>(i.zero,i.size,i.bytes))=some (some (.agg #[.string ByteArray.empty,.string ByteArray.empty]),2,32):=by kernel_rfl
theorem Zbih {w:World} {g:Nat} {cur:Array Value} {t:TypeId} {fr:Nat×Nat} (h:w.heap[g]? =some (.cells cur t fr)) (o j:Nat) (v:Value) (hv:cur.toList[o+j]? =some v):w.cell? ((⟨g,o,none⟩:Addr).add j)=some v:=by
 rw[Addr.add_lit];simp only[World.cell?,h];simpa using hv
theorem Zbku (C D R:List Value) (x y:Value) (i k:Nat) (hi:(i+1)*2<=C.length) (hD:D.length=k*2):
  ((C.take ((i+1)*2)++D++R).take (i*2) ++ [x,y]++(C.take ((i+1)*2)++D++R).drop (i*2+2)).take ((i+1+k)*2)=C.take (i*2) ++ [x,y]++D:=by
 have h1:(C.take ((i+1)*2)).length=i*2+2:=by rw[List.length_take];omega
 have e0:C.take ((i+1)*2)++D++R=C.take ((i+1)*2)++(D++R):=List.append_assoc _ _ _;have e1:(C.take ((i+1)*2)++(D++R)).take (i*2)=C.take (i*2):=by
  rw[List.take_append_of_le_length (by omega),List.take_take,Nat.min_eq_left (by omega)]
 have e2:(C.take ((i+1)*2)++(D++R)).drop (i*2+2)=D++R:=by rw[<-h1,List.drop_left]
 have h2:(C.take (i*2)).length=i*2:=by rw[List.length_take];omega
 have h3:(C.take (i*2) ++ [x,y]++D).length=(i+1+k)*2:=by simp only[List.length_append,h2,hD,List.length_cons,List.length_nil];omega
 rw[e0,e1,e2,<-List.append_assoc _ D R,<-h3,List.take_left]
set_option maxHeartbeats 4000000 in
set_option maxRecDepth 100000 in
theorem Zti (g n c i vb:Nat) (fs:List F2) (f:F2) (cur:Array Value) (w:World) (hi:i<n) (hroom:n+1<=c) (hn:n<=1000) (hc63:c<=9223372036854775807) (hvb:vb≠g)
  (hfs:fs.length=n) (hg:w.heap[g]? =some (.cells cur 148 (0,0))) (hcs:cur.size=c*2) (htk:cur.toList.take (n*2)=Znm fs)
  (hv:w.heap[vb]? =some (.cells #[.string f.1,.string f.2] 148 (0,0))):
  Calls prog 194 #[.slice (some ⟨g,0,none⟩) n c,.int .i64 i,.slice (some ⟨vb,0,none⟩) 1 1] w λe w'=>
   e = .returned (.slice (some ⟨g,0,none⟩) (n+1) c)/\∃cur':Array Value,w'.heap[g]? =some (.cells cur' 148 (0,0))/\cur'.size=c*2/\cur'.toList.take ((n+1)*2)=Znm (fs.take i++f::fs.drop i)/\
    w.grownBy w' (some g):=by
 obtain⟨i0,hi0,hz0,hz1,hz2⟩:=info_parts Zsu;have hsz:(prog.info? 148).map (·.size)=some 2:=by rw[hi0];simp[hz1]
 have hov:∀lb cb,(callFunc 241 #[.slice (some ⟨vb,0,none⟩) 1 1,.slice (some ⟨g,(i+1)*2,none⟩) lb cb]).run prog w = .ok (.value (.bool false)) w:=λlb cb=>by
  rw[run_callFunc_extern func241 (by kernel_rfl) (by kernel_rfl) (by kernel_rfl) (e:=Extern.SlicesOverlaps.overlaps #[186,186] #[4]) (by kernel_rfl),
   Lib.run_overlaps_apart w 186 4 148 underlying186 2 sizeOf148 ⟨vb,0,none⟩ ⟨g,(i+1)*2,none⟩ 1 1 lb cb hvb 148 148 2 (c*2) (by simp[World.shape?,hv]) (by simp[World.shape?,hg,hcs]) (by omega) (by simp[World.frozen?,hv]) (by simp[World.frozen?,hv])]
  rfl
 have hcl:(Znm (fs.drop i)).length=(n-i)*2:=by rw[Znr,List.length_drop,hfs]
 obtain⟨L1,hL1⟩:∃L1:List Value,L1=cur.toList.take ((i+1)*2)++Znm (fs.drop i)++cur.toList.drop ((i+1)*2+(n-i)*2):=⟨_,rfl⟩;have hlen1:L1.length=c*2:=by
  rw[hL1];simp only[List.length_append,List.length_take,List.length_drop,Array.length_toList,hcs,hcl];omega
 have hcp1:∀ty dc sc,(Builtin.copy_ #[186,186] ty #[.slice (some ⟨g,(i+1)*2,none⟩) (n-i) dc,.slice (some ⟨g,i*2,none⟩) (n+1-i) sc]).run prog w.drew = .ok (goInt (n-i:Nat)) (w.drew.setRow g L1.toArray):=λty dc sc=>by
  have h:=Zbkg prog w.drew 186 186 ty 148 g ((i+1)*2) (n-i) dc ⟨g,i*2,none⟩ (n+1-i) sc 2 cur 148 (Znm (fs.drop i)) underlying186 hsz hg
   (by rw[hcl];simp only[Nat.min_def];split<;>omega)
   (λj v hj=>Zbih (w:=w.drew) hg (i*2) j v (by
    rw[<-Znq,<-htk,List.getElem?_drop,List.getElem?_take]at hj;split at hj
    ·exact hj
    ·cases hj))
   (by rw[hcl,hcs];omega) (Znt _)
  rw[hcl,<-hL1]at h;have e:Nat.min (n+1-i) (n-i)=n-i:=by simp only[Nat.min_def];split<;>omega
  rw[e]at h;exact h
 obtain⟨W1,hW1⟩:∃W1,W1=w.drew.setRow g L1.toArray:=⟨_,rfl⟩;have hg1:W1.heap[g]? =some (.cells L1.toArray 148 (0,0)):=by rw[hW1];exact setRow_heap w.drew g cur _ _ _ hg
 have hv1:W1.heap[vb]? =some (.cells #[.string f.1,.string f.2] 148 (0,0)):=by rw[hW1,setRow_other w.drew g vb _ hvb];exact hv
 obtain⟨L2,hL2⟩:∃L2:List Value,L2=L1.take (i*2) ++ [.string f.1,.string f.2]++L1.drop (i*2+2):=⟨_,rfl⟩;have hcp2:∀ty dc,(Builtin.copy_ #[186,186] ty #[.slice (some ⟨g,i*2,none⟩) (n+1-i) dc,.slice (some ⟨vb,0,none⟩) 1 1]).run prog W1 = .ok (goInt (1:Nat)) (W1.setRow g L2.toArray):=λty dc=>by
  have h:=Zbkg prog W1 186 186 ty 148 g (i*2) (n+1-i) dc ⟨vb,0,none⟩ 1 1 2 L1.toArray 148 [.string f.1,.string f.2] underlying186 hsz hg1
   (by simp only[Nat.min_def];split<;>simp<;>omega)
   (λj v hj=>Zbih hv1 0 j v (by simpa using hj))
   (by simp[hlen1];omega) (by intro u hu;simp at hu;rcases hu with rfl|rfl<;>rfl)
  simp only[List.length_cons,List.length_nil,Nat.zero_add]at h;rw[<-hL2]at h;have e:Nat.min 1 (n+1-i)=1:=by simp only[Nat.min_def];split<;>omega
  rw[e]at h;exact h
 have hfin:∃cur':Array Value,(W1.setRow g L2.toArray).heap[g]? =some (.cells cur' 148 (0,0))/\cur'.size=c*2/\cur'.toList.take ((n+1)*2)=Znm (fs.take i++f::fs.drop i)/\w.grownBy (W1.setRow g L2.toArray) (some g):=by
  refine⟨L2.toArray,setRow_heap W1 g _ _ _ _ hg1,?_,?_,?_⟩
  ·rw[hL2];simp only[List.size_toArray,List.length_append,List.length_take,List.length_drop,hlen1,List.length_cons,List.length_nil];omega
  ·have h:=Zbku cur.toList (Znm (fs.drop i)) (cur.toList.drop ((i+1)*2+(n-i)*2)) (.string f.1) (.string f.2) i (n-i) (by rw[Array.length_toList,hcs];omega) hcl
   rw[show i+1+(n-i)=n+1 from by omega,<-hL1,<-hL2]at h;show L2.take _=_;rw[h,Znn,Znp,<-Znv,<-htk,List.take_take,Nat.min_eq_left (by omega)];simp
  ·exact⟨by rw[hW1];rfl,by rw[hW1];rfl,by rw[hW1];rfl,by rw[hW1];simp[World.setRow],λk _ hk=>by
    have hk':k≠g:=λe=>hk (by rw[e])
    rw[setRow_other _ g k _ hk',hW1,setRow_other _ g k _ hk'];rfl⟩
 rw[<-hW1]at hcp1;have HF:=hid hfin;clear hfin hL1 hL2 hg1 hv1 htk hlen1 hcl hcs hv hfs;have HW1:=hid hW1;clear hW1;have b1:¬((i:Int)=(n:Int)):=by omega
 go_enter func194,ntmps194
 go_wp2_with (simp only[hov])
 have hw1:IntKind.i64.wrap ((i:Int)+(1:Int))=(i:Int)+(1:Int):=by rw[IntKind.wrap_i64];omega
 have hb1:(0:Int)<=(i:Int)+(1:Int):=by omega
 have hb0:(0:Int)<=(i:Int):=by omega
 have htn:((i:Int)+(1:Int)).toNat=i+1:=by omega
 have hb2:¬(c=i+1):=by omega
 have hb3:(i:Int)<=(n:Int)+(1:Int):=by omega
 have hb4:¬(c=i):=by omega
 have hb5:(i:Int)+1<=(n:Int)+(1:Int):=by omega
 have hb6:n+1-(i+1)=n-i:=by omega
 go_region_law (refine step_copy_runI rfl _ _ 186 186 rfl _ _ (by simp[Act.eval,Act.put]) (by simp[Act.eval,Act.put]) (hcp1 _ _ _) ?_)
 go_wp2_with fail
 go_ret;exact⟨rfl,HF.out⟩
theorem Zqw (A Z D R:List Value) (x y:Value) (i k:Nat) (hA:A.length=i*2) (hD:D.length=k*2):
  (((A++Z++R).take (i*2) ++ [x,y]++(A++Z++R).drop (i*2+2)).take ((i+1)*2)++D++((A++Z++R).take (i*2) ++ [x,y]++(A++Z++R).drop (i*2+2)).drop ((i+1)*2+k*2)).take ((i+1+k)*2)=A ++ [x,y]++D:=by
 have e1:(A++Z++R).take (i*2)=A:=by rw[List.append_assoc,<-hA,List.take_left]
 have h3:(A ++ [x,y]).length=(i+1)*2:=by simp only[List.length_append,hA,List.length_cons,List.length_nil];omega
 have e2:(A ++ [x,y]++(A++Z++R).drop (i*2+2)).take ((i+1)*2)=A ++ [x,y]:=by rw[<-h3,List.take_left]
 have h4:(A ++ [x,y]++D).length=(i+1+k)*2:=by rw[List.length_append,h3,hD];omega
 rw[e1,e2,<-h4,List.take_left]
set_option maxHeartbeats 4000000 in
set_option maxRecDepth 100000 in
theorem Zth (g n c i vb:Nat) (fs:List F2) (f:F2) (cur:Array Value) (w:World) (hi:i<n) (hroom:c<n+1) (hn:n<=1000) (hnc:n<=c)
  (hfs:fs.length=n) (hg:w.heap[g]? =some (.cells cur 148 (0,0))) (hcs:cur.size=c*2) (htk:cur.toList.take (n*2)=Znm fs)
  (hv:w.heap[vb]? =some (.cells #[.string f.1,.string f.2] 148 (0,0))):
  Calls prog 194 #[.slice (some ⟨g,0,none⟩) n c,.int .i64 i,.slice (some ⟨vb,0,none⟩) 1 1] w λe w'=>∃G,
   e = .returned (.slice (some ⟨w.heap.size,0,none⟩) (n+1) G)/\n+1<=G/\G<=maxLen/\∃cur':Array Value,w'.heap[w.heap.size]? =some (.cells cur' 148 (0,0))/\cur'.size=G*2/\cur'.toList.take ((n+1)*2)=Znm (fs.take i++f::fs.drop i)/\
    w.grownBy w' none:=by
 obtain⟨i0,hi0,hz0,hz1,hz2⟩:=info_parts Zsu;have hsz:(prog.info? 148).map (·.size)=some 2:=by rw[hi0];simp[hz1]
 obtain rfl:c=n:=by omega
 have hgw:g<w.heap.size:=by
  rcases Nat.lt_or_ge g w.heap.size with h|h
  ·exact h
  ·rw[Array.getElem?_eq_none h]at hg;cases hg
 have hvw:vb<w.heap.size:=by
  rcases Nat.lt_or_ge vb w.heap.size with h|h
  ·exact h
  ·rw[Array.getElem?_eq_none h]at hv;cases hv
 have hA:(Znm (fs.take i)).length=i*2:=by rw[Znr,List.length_take,hfs,Nat.min_eq_left (by omega)]
 have hD:(Znm (fs.drop i)).length=(c-i)*2:=by rw[Znr,List.length_drop,hfs]
 have hold:(Builtin.firstCells i0.size i (.slice (some ⟨g,0,none⟩) i c)).run prog w.drew = .ok (Znm (fs.take i)).toArray w.drew:=by
  rw[hz1];exact run_firstCells_some w.drew 2 i ⟨g,0,none⟩ i c (Znm (fs.take i)) hA (λj v hj=>Zbih (w:=w.drew) hg 0 j v (by
   rw[<-Znv,<-htk,List.take_take,List.getElem?_take]at hj;split at hj
   ·simpa using hj
   ·cases hj))
 obtain⟨G,hG⟩:∃G,G=grownCap w (c+1) c 148:=⟨_,rfl⟩;have hGn:c+1<=G:=by rw[hG];exact grownCap_ge w _ _ _
 have hGm:G<=maxLen:=by rw[hG];exact grownCap_le_maxLen w _ _ _ (by unfold maxLen;omega)
 obtain⟨Z,hZ⟩:∃Z:List Value,Z=(Builtin.zeroCells (Value.agg #[.string ByteArray.empty,.string ByteArray.empty]).cells (c+1-i)).toList:=⟨_,rfl⟩;obtain⟨R,hR⟩:∃R:List Value,R=(Builtin.zeroCells (Value.agg #[.string ByteArray.empty,.string ByteArray.empty]).cells (G-(c+1))).toList:=⟨_,rfl⟩;have hZl:Z.length=(c-i+1)*2:=by rw[hZ];simp[Builtin.zeroCells,Value.cells];omega
 have hRl:R.length=(G-(c+1))*2:=by rw[hR];simp[Builtin.zeroCells,Value.cells]
 obtain⟨L0,hL0⟩:∃L0:List Value,L0=Znm (fs.take i)++Z++R:=⟨_,rfl⟩;have hlen0:L0.length=G*2:=by rw[hL0,List.length_append,List.length_append,hA,hZl,hRl];omega
 obtain⟨W1,hW1⟩:∃W1,W1=w.drew.alloc (.cells L0.toArray 148):=⟨_,rfl⟩;have hkk:(c:Int)+1-(i:Int)=((c+1-i:Nat):Int):=by omega
 have hik:i+(c+1-i)=c+1:=by omega
 have hrz:∀ty,(Builtin.append_ #[186,3] ty #[.slice (some ⟨g,0,none⟩) i c,.int .i64 ((c:Int)+1-(i:Int))]).run prog w = .ok (.slice (some ⟨w.heap.size,0,none⟩) (c+1) G) W1:=λty=>by
  have h:=Lib.run_append_grow_zeros w 186 3 ty 148 i0 _ .i64 .i64 underlying186 underlying3 hi0 hz0 (some ⟨g,0,none⟩) i c (Znm (fs.take i)) hold (c+1-i) (by omega) (by omega) (by omega) (by omega) (by rw[hz2];omega) (by rw[hz2,hik];exact growslice_fits (by omega) (by omega));have e:(Znm (fs.take i)).toArray++Builtin.zeroCells (Value.agg #[.string ByteArray.empty,.string ByteArray.empty]).cells (c+1-i)++Builtin.zeroCells (Value.agg #[.string ByteArray.empty,.string ByteArray.empty]).cells (G-(c+1))=L0.toArray:=by
   apply Array.toList_inj.1;rw[hL0,hZ,hR];simp
  rw[hik,<-hG,e,<-hW1]at h;rw[hkk];exact h
 have hg1:W1.heap[g]? =some (.cells cur 148 (0,0)):=by rw[hW1];exact(Below.heap_alloc w.drew _ g hgw).trans hg
 have hv1:W1.heap[vb]? =some (.cells #[.string f.1,.string f.2] 148 (0,0)):=by rw[hW1];exact(Below.heap_alloc w.drew _ vb hvw).trans hv
 have hN1:W1.heap[w.heap.size]? =some (.cells L0.toArray 148 (0,0)):=by rw[hW1];exact heap_alloc_new w.drew _
 obtain⟨L1,hL1⟩:∃L1:List Value,L1=L0.take (i*2) ++ [.string f.1,.string f.2]++L0.drop (i*2+2):=⟨_,rfl⟩;have hlen1:L1.length=G*2:=by rw[hL1];simp only[List.length_append,List.length_take,List.length_drop,hlen0,List.length_cons,List.length_nil];omega
 obtain⟨W2,hW2⟩:∃W2,W2=W1.setRow w.heap.size L1.toArray:=⟨_,rfl⟩;have hcp1:∀ty dc,(Builtin.copy_ #[186,186] ty #[.slice (some ⟨w.heap.size,i*2,none⟩) (c+1-i) dc,.slice (some ⟨vb,0,none⟩) 1 1]).run prog W1 = .ok (goInt (1:Nat)) W2:=λty dc=>by
  have h:=Zbkg prog W1 186 186 ty 148 w.heap.size (i*2) (c+1-i) dc ⟨vb,0,none⟩ 1 1 2 L0.toArray 148 [.string f.1,.string f.2] underlying186 hsz hN1
   (by simp only[Nat.min_def];split<;>simp<;>omega)
   (λj v hj=>Zbih hv1 0 j v (by simpa using hj))
   (by simp[hlen0];omega) (by intro u hu;simp at hu;rcases hu with rfl|rfl<;>rfl)
  simp only[List.length_cons,List.length_nil,Nat.zero_add]at h;rw[<-hL1,<-hW2]at h;have e:Nat.min 1 (c+1-i)=1:=by simp only[Nat.min_def];split<;>omega
  rw[e]at h;exact h
 have hg2:W2.heap[g]? =some (.cells cur 148 (0,0)):=by rw[hW2,setRow_other _ _ g _ (by omega)];exact hg1
 have hN2:W2.heap[w.heap.size]? =some (.cells L1.toArray 148 (0,0)):=by rw[hW2];exact setRow_heap _ _ _ _ _ _ hN1
 obtain⟨L2,hL2⟩:∃L2:List Value,L2=L1.take ((i+1)*2)++Znm (fs.drop i)++L1.drop ((i+1)*2+(c-i)*2):=⟨_,rfl⟩;obtain⟨W3,hW3⟩:∃W3,W3=W2.drew.setRow w.heap.size L2.toArray:=⟨_,rfl⟩;have hcp2:∀ty dc sc,(Builtin.copy_ #[186,186] ty #[.slice (some ⟨w.heap.size,(i+1)*2,none⟩) (c-i) dc,.slice (some ⟨g,i*2,none⟩) (c-i) sc]).run prog W2.drew = .ok (goInt (c-i:Nat)) W3:=λty dc sc=>by
  have h:=Zbkg prog W2.drew 186 186 ty 148 w.heap.size ((i+1)*2) (c-i) dc ⟨g,i*2,none⟩ (c-i) sc 2 L1.toArray 148 (Znm (fs.drop i)) underlying186 hsz hN2
   (by rw[hD];simp only[Nat.min_def];split<;>omega)
   (λj v hj=>Zbih (w:=W2.drew) hg2 (i*2) j v (by
    rw[<-Znq,<-htk,List.getElem?_drop,List.getElem?_take]at hj;split at hj
    ·exact hj
    ·cases hj))
   (by rw[hD,List.size_toArray,hlen1];omega) (Znt _)
  rw[hD,<-hL2,<-hW3]at h;have e:Nat.min (c-i) (c-i)=c-i:=Nat.min_self _;rw[e]at h;exact h
 have hfin:∃cur':Array Value,W3.heap[w.heap.size]? =some (.cells cur' 148 (0,0))/\cur'.size=G*2/\cur'.toList.take ((c+1)*2)=Znm (fs.take i++f::fs.drop i)/\w.grownBy W3 none:=by
  refine⟨L2.toArray,by rw[hW3];exact setRow_heap W2.drew _ _ _ _ _ hN2,?_,?_,?_⟩
  ·rw[hL2];simp only[List.size_toArray,List.length_append,List.length_take,List.length_drop,hlen1,hD];omega
  ·have h:=Zqw (Znm (fs.take i)) Z (Znm (fs.drop i)) R (.string f.1) (.string f.2) i (c-i) hA hD
   rw[show i+1+(c-i)=c+1 from by omega,<-hL0,<-hL1,<-hL2]at h;show L2.take _=_;rw[h,Znn,Znp];simp
  ·refine⟨by rw[hW3,hW2,hW1];rfl,by rw[hW3,hW2,hW1];rfl,by rw[hW3,hW2,hW1];rfl,by rw[hW3,hW2,hW1];simp[World.setRow],λk hk _=>?_⟩
   have hk':k≠w.heap.size:=by omega
   rw[hW3,setRow_other _ _ k _ hk'];show W2.heap[k]? =_;rw[hW2,setRow_other _ _ k _ hk',hW1];exact Below.heap_alloc w.drew _ k hk
 have HF:=hid hfin;clear hfin hold hL0 hL1 hL2 hW1 hW2 hW3 hg1 hv1 hN1 hg2 hN2 htk hlen0 hlen1 hA hD hZ hR hZl hRl hcs hg hv hfs hG hkk hik;have b1:¬((i:Int)=(c:Int)):=by omega
 unfold maxLen at hGm
 go_enter func194,ntmps194
 have hGi:¬(G=i):=by omega
 have hGim:¬(G=i+1):=by omega
 have hci:¬(c=i):=by omega
 have hw1:IntKind.i64.wrap ((i:Int)+(1:Int))=(i:Int)+(1:Int):=by rw[IntKind.wrap_i64];omega
 have hb1:(0:Int)<=(i:Int)+(1:Int):=by omega
 have htn:((i:Int)+(1:Int)).toNat=i+1:=by omega
 have hb3:(i:Int)<=(c:Int):=by omega
 have hb6:c+1-(i+1)=c-i:=by omega
 go_wp2_with (at_builtin;refine Lib.wpList_append_run _ rfl _ _ _ _ rfl _ _ rfl rfl _ _ (hrz _) ?_)
 go_region_law (refine step_copy_runI rfl _ _ 186 186 rfl _ _ (by simp[Act.eval,Act.put]) (by simp[Act.eval,Act.put]) (hcp2 _ _ _) ?_)
 go_wp2_with fail
 go_ret;exact⟨G,rfl,hGn,by unfold maxLen;omega,HF.out⟩
open Go.Lib
def Zbbn (kept:List (List UInt8)):List (List UInt8)->Option (List (List UInt8))
 | []=>some kept
 | p::ps=>if p = []∨p = [46]then Zbbn kept ps else if p = [46,46]then(if kept = []then none else Zbbn kept.dropLast ps)else Zbbn (kept ++ [p]) ps
theorem Zbbq (kept ps:List (List UInt8)) (p:List UInt8) (h:p = []∨p = [46]):Zbbn kept (p::ps)=Zbbn kept ps:=by rw[Zbbn,if_pos h]
theorem Zbbr (kept ps:List (List UInt8)) (h:kept≠[]):Zbbn kept ([46,46]::ps)=Zbbn kept.dropLast ps:=by rw[Zbbn,if_neg (by simp),if_pos rfl,if_neg h]
theorem Zbbp (kept ps:List (List UInt8)) (p:List UInt8) (h1:p≠[]) (h2:p≠[46]) (h3:p≠[46,46]):Zbbn kept (p::ps)=Zbbn (kept ++ [p]) ps:=by rw[Zbbn,if_neg (by simp[h1,h2]),if_neg h3]
end Go.Proofs.YtokogjhcidkckaaGreatDoor
namespace Go.Proofs.YtokogjhcidkckaaGreatDoor
open Go.Lib (hid)
open Go.Proofs.Tryz
open Go.RowKit
theorem drop_at {α:Type} (l:List α) (k:Nat) (x:α) (h:l[k]? =some x):l.drop k=x::l.drop (k+1):=by
 obtain⟨hk,rfl⟩:=List.getElem?_eq_some_iff.1 h;exact List.drop_eq_getElem_cons hk
theorem Zbea {w:World} {B e size:Nat} {v:Value} {n:Nat} {xs:List Value} (h:w.ownsRow B e size v n xs):∃a c,v = .slice a n c/\(n≠0->∃g,a=some ⟨g,0,none⟩)/\n<=c/\c<=maxLen:=by
 rcases h with⟨_,⟨rfl,h0⟩|⟨g,cap,cur,rfl,_,_,hn,hm,_⟩⟩
 ·exact⟨none,0,by rw[h0],λh=>absurd h0 h,by omega,by simp[maxLen]⟩
 ·exact⟨_,_,rfl,λ_=>⟨g,rfl⟩,hn,hm⟩
theorem Zbbm (ls:List (List UInt8)):((nonE ls).map List.length).sum=(ls.map List.length).sum:=by
 induction ls with
 | nil=>rfl
 | cons a l ih=>
  unfold nonE at ih⊢
  by_cases h:a = []
  ·subst h;simp[ih]
  ·rw[List.filter_cons_of_pos (by simp[h]),List.map_cons,List.sum_cons,List.map_cons,List.sum_cons,ih]
theorem Zut (ls:List (List UInt8)):(Zus ls).length<=(ls.map List.length).sum+ls.length:=by
 have h1:=Zbbm ls;have h2:(nonE ls).length<=ls.length:=List.length_filter_le _ _;unfold Zus
 by_cases h:nonE ls = []
 ·rw[h,Lib.join_nil];simp
 ·have:=join_length 47 (nonE ls) h
  omega
theorem Zbqt (kept:List ByteArray) (x:ByteArray):((kept ++ [x]).map ByteArray.size).sum=(kept.map ByteArray.size).sum+x.size:=by simp
theorem Zbqv (kept:List ByteArray):(kept.dropLast.map ByteArray.size).sum<=(kept.map ByteArray.size).sum:=by
 by_cases h:kept = []
 ·subst h;simp
 ·have e:=List.dropLast_concat_getLast h
  have:(kept.map ByteArray.size).sum=((kept.dropLast ++ [kept.getLast h]).map ByteArray.size).sum:=by rw[e]
  rw[this,Zbqt];omega
theorem Zbqu (xs:List ByteArray):((xs.map (·.data.toList)).map List.length).sum=(xs.map ByteArray.size).sum:=by
 rw[List.map_map];congr 1
def NormAt (xs:List ByteArray) (k:Nat) (kept:List ByteArray) (total:Nat):Prop:=
 Zbbn (kept.map (·.data.toList)) ((xs.drop k).map (·.data.toList))=Zbbn [] (xs.map (·.data.toList))/\(kept.map ByteArray.size).sum+((xs.drop k).map ByteArray.size).sum<=total/\kept.length<=k
theorem NormAt.skip {xs:List ByteArray} {k:Nat} {kept:List ByteArray} {total:Nat} {x:ByteArray} (h:NormAt xs k kept total) (hx:xs[k]? =some x) (he:x.toList = []∨x.toList = [46]):NormAt xs (k+1) kept total:=by
 obtain⟨h1,h2,h3⟩:=h;rw[drop_at xs k x hx]at h1 h2;rw[List.map_cons,Zbbq _ _ _ (by rw[<-Lib.toList_data];exact he)]at h1;rw[List.map_cons,List.sum_cons]at h2;exact⟨h1,by omega,by omega⟩
theorem NormAt.up {xs:List ByteArray} {k:Nat} {kept:List ByteArray} {total:Nat} {x:ByteArray} (h:NormAt xs k kept total) (hx:xs[k]? =some x) (he:x.toList = [46,46]) (hk:kept≠[]):NormAt xs (k+1) kept.dropLast total:=by
 obtain⟨h1,h2,h3⟩:=h;rw[drop_at xs k x hx]at h1 h2;rw[List.map_cons,<-Lib.toList_data,he,Zbbr _ _ (by simpa using hk)]at h1;rw[List.map_cons,List.sum_cons]at h2;have:=Zbqv kept;exact⟨by rw[List.map_dropLast];exact h1,by omega,by simp;omega⟩
theorem NormAt.keep {xs:List ByteArray} {k:Nat} {kept:List ByteArray} {total:Nat} {x:ByteArray} (h:NormAt xs k kept total) (hx:xs[k]? =some x) (e1:¬x.toList = []) (e2:¬x.toList = [46]) (e3:¬x.toList = [46,46]):NormAt xs (k+1) (kept ++ [x]) total:=by
 obtain⟨h1,h2,h3⟩:=h;rw[Lib.toList_data]at e1 e2 e3;rw[drop_at xs k x hx]at h1 h2;rw[List.map_cons,Zbbp _ _ _ e1 e2 e3]at h1;rw[List.map_cons,List.sum_cons]at h2;exact⟨by rw[List.map_append];exact h1,by rw[Zbqt];omega,by simp;omega⟩
theorem NormAt.done {xs:List ByteArray} {k:Nat} {kept:List ByteArray} {total:Nat} (h:NormAt xs k kept total) (hk:xs.length<=k):Zbbn [] (xs.map (·.data.toList))=some (kept.map (·.data.toList))/\(Zus (kept.map (·.data.toList))).length<=total+k:=by
 obtain⟨h1,h2,h3⟩:=h;rw[List.drop_of_length_le hk]at h1 h2;refine⟨h1.symm,?_⟩;have:=Zut (kept.map (·.data.toList));rw[Zbqu,List.length_map]at this;omega
end Go.Proofs.YtokogjhcidkckaaGreatDoor
