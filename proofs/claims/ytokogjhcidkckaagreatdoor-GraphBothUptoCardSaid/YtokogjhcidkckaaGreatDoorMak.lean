import Derived.Laws.MakeOwn
import Derived.Maps.AppendAt
import Derived.Test.YtokogjhcidkckaaGreatDoorMaj
import Derived.Maps.OwnSet
import Derived.Maps.Own
import Derived.StringKeys
import Derived.Lib.Bytealg
import Derived.Laws.Tables
import Derived.Laws.Rows
import Derived.Test.YtokogjhcidkckaaGreatDoorLays
import Derived.WalkKit
import Derived.WalkSpells
import Derived.WalkLawsBesides
import Derived.Deep.DeepFit
import Derived.Deep.DeepMust
import Derived.Deep.QuietTactic
import Derived.BigQuiet
import Derived.Lib.Hide
import Derived.Test.YtokogjhcidkckaaGreatDoorProg
import Derived.Laws.OwnMore
import Derived.Laws.AppendOwn
import Derived.OwnWalk
import Derived.ArgAppend
import Derived.Lib.Join
namespace Go.Proofs.YtokogjhcidkckaaGreatDoor
open Go.Lib (hid)
open Go.Proofs.Tryz
open Go.RowKit Go.Shelf
def lkv (l:List Lb):List KV:=l.map λx=>(lv x,.agg #[])
theorem Zddd (l:List Lb):(lkv l).length=l.length:=by simp[lkv]
theorem Zddc (l m:List Lb):lkv (l++m)=lkv l++lkv m:=by simp[lkv]
theorem Zdde {l:List Lb} {k v:Value} (h:(k,v)∈lkv l):∃x∈l,k=lv x/\v = .agg #[]:=by
 obtain⟨x,hx,e⟩:=List.mem_map.1 h
 cases e
 exact⟨x,hx,rfl,rfl⟩
theorem Zddf {l m:List Lb} (h:(lkv l).Perm (lkv m)):l.Perm m:=by
 have h2:=h.map (λp:KV=>match p.1 with | .agg xs=>(match xs.toList with | [.bool a,.string s]=>(a,s)|_=>(false,(⟨#[]⟩:ByteArray)))|_=>(false,(⟨#[]⟩:ByteArray)));have e:∀l:List Lb,(lkv l).map (λp:KV=>match p.1 with | .agg xs=>(match xs.toList with | [.bool a,.string s]=>(a,s)|_=>(false,(⟨#[]⟩:ByteArray)))|_=>(false,(⟨#[]⟩:ByteArray)))=l:=λl=>by
  unfold lkv;rw[List.map_map];exact(List.map_congr_left (λx _=>rfl)).trans (List.map_id l)
 rwa [e,e]at h2
theorem RM.len {P:Program} {w:World} {b:Nat} {kv:List KV} (h:RM w b kv) {t kt e:TypeId} (ht:P.underlying t=some (.map kt e)) (ty:TypeId):(Builtin.len_ #[t] ty #[.map (some b)]).run P w = .ok (.int .i64 (kv.length:Int)) w:=by
 obtain⟨es,ck,h1,rfl,_⟩:=h;simp[Builtin.len_,run_underlying ht,MapKept.run_getObj_map h1];rfl
theorem Zdbm:(prog.info? 24).map (λi=>(i.zero,i.size,i.bytes))=some (some (.agg #[.bool false,.string ⟨#[]⟩]),2,24):=by kernel_rfl
theorem Zddt (n:Nat) (hn:n<=1000000) (w:World):(Instr.makeSlice 35 (.int .i64 0) (.int .i64 (n:Int))).run prog w = .ok (.slice (some ⟨w.heap.size,0,none⟩) 0 n) (w.alloc (.cells (madeCells #[.bool false,.string ⟨#[]⟩] (n*2)) 24)):=by
 obtain⟨i0,hi,hz,hs,hb⟩:=info_parts Zdbm;have:=run_make (P:=prog) w 35 24 i0 (.agg #[.bool false,.string ⟨#[]⟩]) underlying35 hi hz .i64 .i64 0 n (by omega) (by omega) (by rw[hb];omega) (by omega);rw[hs,show(Value.agg #[.bool false,.string ⟨#[]⟩]).cells = #[.bool false,.string ⟨#[]⟩]from rfl]at this;simpa using this
def Zcwm (w:World) (ls:List Lb) (e:Ending) (w':World):Prop:=∃g cap,e = .returned (.slice (some ⟨g,0,none⟩) ls.length cap)/\w'.ownsRow w.heap.size 24 2 (.slice (some ⟨g,0,none⟩) ls.length cap) ls.length (lcs (slb ls))/\Below w.heap.size w w'
set_option maxHeartbeats 4000000
set_option maxRecDepth 100000
theorem Zcxe (p:Addr) (mb:Nat) (ls:List Lb) (w:World) (hp:w.cell? p=some (.map (some mb))) (hm:RM w mb (lkv ls)) (hn:ls.length<=1000000):
  Calls prog 37 #[.pointer (some p)] w (Zcwm w ls):=by
 have mixed:prog.follows .mixedOrders=true:=by kernel_rfl
 obtain⟨i0,hi,hz0,hz1,hz2⟩:=info_parts Zdbm;have hlen:=λty=>hm.len (P:=prog) underlying70 ty
 rw[Zddd]at hlen;have hmb:=hm.lt;have hmk:=Zddt ls.length hn w;obtain⟨pb,po,pp⟩:=p;have hpb:pb<w.heap.size:=World.block_lt_of_cell? _ _ hp;have HM:=hid hm;obtain⟨n,hnn⟩:∃n,n=ls.length:=⟨_,rfl⟩;rw[<-hnn]at hlen hmk hn;obtain⟨oz,hoz⟩:∃oz,oz=Obj.cells (madeCells #[.bool false,.string ⟨#[]⟩] (n*2)) 24:=⟨_,rfl⟩;rw[<-hoz]at hmk;have hp1:(w.alloc oz).cell? ⟨pb,po,pp⟩=some (.map (some mb)):=((Below.refl w.heap.size w).alloc (Nat.le_refl _) oz)|>.cell (p:=⟨pb,po,pp⟩) hpb |>.trans hp
 have hm1:RM (w.alloc oz) mb (lkv ls):=hm.below ((Below.refl w.heap.size w).alloc (Nat.le_refl _) oz) hmb;have hown0:(w.alloc oz).ownsRow w.heap.size 24 2 (.slice (some ⟨w.heap.size,0,none⟩) 0 n) 0 []:=by
  refine⟨rfl,.inr ⟨w.heap.size,n,madeCells #[.bool false,.string ⟨#[]⟩] (n*2),rfl,Nat.le_refl _,by rw[hoz];exact(MapKept.heap_alloc w _).1,Nat.zero_le _,by unfold maxLen;omega,by simp[madeCells],by simp⟩⟩
 obtain⟨ob,hrng,hri⟩:=hm1.range (P:=prog) underlying70;have hBW:Below w.heap.size w ((w.alloc oz).alloc ob):=((Below.refl w.heap.size w).alloc (Nat.le_refl _) oz).alloc (by simp) ob;rw[show(w.alloc oz).heap.size=w.heap.size+1 by simp]at hri hrng;have HRI:=hid hri;have HBW:=hid hBW;have HO0:=hid (hown0.alloc ob);have HNN:=hid hnn;clear hm hm1 hown0 hoz hnn hri hBW
 go_enter func37,ntmps37
 go_wp2
 go_loopw [3] (λv wr=>∃(ss:List Lb) (g cap:Nat),g≠w.heap.size+1/\v = .slice (some ⟨g,0,none⟩) ss.length cap/\wr.ownsRow w.heap.size 24 2 v ss.length (lcs ss)/\RI wr mb (w.heap.size+1) (lkv ls) (lkv ss)/\Below w.heap.size w wr) (λv _=>n-(match v with | .slice _ k _=>k|_=>0))
 case atStart=>exact⟨[],w.heap.size,n,by omega,rfl,HO0.out,HRI.out,HBW.out⟩
 case round=>
  obtain⟨ss,g,cap,hgne,rfl,hown,hri,hnx⟩:=hrel;obtain⟨WR,rfl⟩:∃V,V=wr:=⟨_,rfl⟩
  rcases hri.next (P:=prog) 0 with⟨hperm,hrun⟩|⟨k,v,W2,hkv,hlt,hrun,hri2,hgr,hsz,hen⟩
  ·have hp2:=Zddf hperm
   have hsl:=hp2.length_eq;have hso:=λW (hW:W=WR)=>hW▸Zdix w.heap.size g cap ss WR hown (by rw[hsl];have:=HNN.out;omega)
   have hbl:g<WR.heap.size:=by have:=(hown.lt g rfl).2;exact this
   have hgb:w.heap.size<=g:=(hown.lt g rfl).1;have HSO:=hid hso;have HP2:=hid hp2;have HNX:=hid hnx;have HGB:=hid hgb;have HSL:=hid hsl;clear hri hperm hnx hown hso hp2 hgb hsl
   go_wp2_with fail
   refine(HSO.out _ rfl).mono ?_;rintro e w2 ⟨rfl,q1,q2,q3,q4,q5,q6⟩;have Q1:=hid q1;have Q2:=hid q2;have Q3:=hid q3;have Q4:=hid q4;have Q5:=hid q5;have Q6:=hid q6;clear q1 q2 q3 q4 q5 q6;go_wp2;go_ret;have hs:=Zdip HP2.out;rw[HSL.out]at Q1;refine⟨g,cap,by rw[HSL.out];rfl,by rw[<-hs];exact Q1.out,?_⟩;have hn:=HNX.out;exact⟨Q2.out.trans hn.os,Q3.out.trans hn.tape,Q4.out.trans hn.output,Nat.le_trans hn.size Q5.out,λk hk=>(Q6.out k (Nat.lt_of_lt_of_le hk hn.size) (by have:=HGB.out;omega)).trans (hn.block k hk)⟩
  ·obtain⟨x,hx,rfl,rfl⟩:=Zdde hkv
   obtain⟨xb,xs⟩:=x;have hlt2:ss.length<n:=by simp only[Zddd]at hlt;have:=HNN.out;omega
   have hr1:w.heap.size+1<WR.heap.size:=hri.lt;have hown2:=hown.kept hgr (.inr (by show some g≠_;intro e;exact hgne (Option.some.inj e)));have hnx2:Below w.heap.size w W2:=hnx.grown hgr hnx.size (λk e=>by cases e;omega);have hs2:=hnx2.size;rw[show lkv ss ++ [(lv (xb,xs),Value.agg #[])]=lkv (ss ++ [(xb,xs)]) by rw[Zddc];rfl]at hri2;have hn63:ss.length<=1000000:=by omega
   have HRI2:=hid hri2;have HNX2:=hid hnx2;have HLT:=hid hlt2;have HGN:=hid hgne;unfold lv at hrun hen;clear hri hnx hown hkv hlt hlt2 hri2 hnx2 hgne hgr hsz hx
   go_wp2_with (at_builtin;refine wpList_append_own_at _ rfl _ _ 35 rfl w.heap.size 24 i0 _ 2 24 underlying35 hi hz0 hz1 hz2 rfl (by decide) _ _ _ rfl ((hown2.alloc _).alloc _) ⟨W2.heap.size+1,0,none⟩ 1 1 [.bool xb,.string xs] rfl rfl ?c1 ?c2 ?c3 ?c4 ?c5 ?_)
   case c2=>exact⟨rfl,rfl⟩
   case c3=>unfold maxLen;omega
   case c4=>omega
   case c5=>omega
   intro v' w3 hown' hgrow hnil hblk;obtain⟨g',cap',rfl⟩:∃g' cap',v' = .slice (some ⟨g',0,none⟩) (ss.length+1) cap':=by
    rcases hown'.2 with⟨_,h0⟩|⟨g',cap',_,h1,_⟩
    ·omega
    ·exact⟨g',cap',h1⟩
   have hnx':Below w.heap.size w w3:=((HNX2.out.alloc hs2 _).alloc (by simp;omega) _).grown hgrow (by simp;omega) (λg hg=>(hown2.lt g hg).1);have hg':g'≠w.heap.size+1:=by
    intro e;subst e
    rcases hblk with e|e
    ·have e:some (w.heap.size+1)=some g:=e
     exact HGN.out (Option.some.inj e).symm
    ·have e:some (w.heap.size+1)=some _:=e
     have:=Option.some.inj e;simp at this;omega
   have hri':RI w3 mb (w.heap.size+1) (lkv ls) (lkv (ss ++ [(xb,xs)])):=by
    have hmb2:mb<W2.heap.size:=by omega
    have hr2:=HRI2.out.lt;have hold:∀k,k<W2.heap.size->some k≠(Value.slice (some ⟨g,0,none⟩) ss.length cap).ownBlock->w3.heap[k]? =W2.heap[k]?:=λk hk hne=>by
     rw[hgrow.block k (by simp;omega) hne,(MapKept.heap_alloc _ _).2 k (by simp;omega),(MapKept.heap_alloc _ _).2 k hk]
    refine HRI2.out.heap (hold _ hmb2 ?_) (hold _ hr2 ?_)
    ·intro e
     have:=(hown2.lt mb e.symm).1;omega
    ·intro e
     have e:some (w.heap.size+1)=some g:=e;exact HGN.out (Option.some.inj e).symm
   have hlen':(ss ++ [(xb,xs)]).length=ss.length+1:=by simp
   have HO':Hid (w3.ownsRow w.heap.size 24 2 (.slice (some ⟨g',0,none⟩) (ss ++ [(xb,xs)]).length cap') (ss ++ [(xb,xs)]).length (lcs (ss ++ [(xb,xs)]))):=by
    show w3.ownsRow _ _ _ _ _ _;rw[hlen',Zdco];exact hown'
   have HR':=hid hri';have HN':=hid hnx';have HG':=hid hg';have HL':=hid hlen';clear hown' hri' hnx' hg' hgrow hnil hblk hlen' hown2;go_wp2;go_roundw
   case rel=>exact⟨ss ++ [(xb,xs)],g',cap',HG'.out,by rw[HL'.out],by have:=HO'.out;rw[HL'.out]at this⊢;exact this,HR'.out,HN'.out⟩
   case measure=>have:=HLT.out;simp;omega
end Go.Proofs.YtokogjhcidkckaaGreatDoor
namespace Go.Proofs.YtokogjhcidkckaaGreatDoor.Exe
open Go.Lib (hid)
open Go.Proofs.Tryz
open Go Go.RowKit
variable {P:Program} {G:Nat} {r:Ren} {h:Hp} {w:World}
def lbsC:List (Value×Value×Nat)->Option (List Lb)
 | []=>some []
 | (.agg ⟨[.bool b,.string s]⟩,.agg ⟨[]⟩,_)::es=>match lbsC es with
  | some ls=>some ((b,s)::ls)
  | none=>none
 | _=>none
def Zcxp (ck:Nat):Nat->List (Value×Value×Nat)->Bool
 | _,[]=>true
 | lo,(_,_,b)::es=>Nat.ble lo b&&Nat.blt b ck&&Zcxp ck (b+1) es
theorem Zcxq {ck:Nat}:∀ {es:List (Value×Value×Nat)} {es':List MapEntry} {lo:Nat},Zcxp ck lo es=true->EntsR P r es es'->(es'.map (·.born)).Nodup/\(∀e∈es',e.born<ck)/\∀e∈es',lo<=e.born
 | [],es',lo,_,hE=>by
  cases es' with
  | nil=>simp
  | cons _ _=>have:=hE.1;simp at this
 | x::es,es',lo,hb,hE=>by
  obtain⟨y,ys,rfl,_,_,_,hbn,hE'⟩:=hE.head;obtain⟨kx,vx,b⟩:=x;simp only[Zcxp,Bool.and_eq_true]at hb;obtain⟨⟨b1,b2⟩,b3⟩:=hb;have b1:=Nat.le_of_ble_eq_true b1;have b2:=Nat.le_of_ble_eq_true b2;obtain⟨q1,q2,q3⟩:=Zcxq b3 hE'
  dsimp only at hbn
  refine⟨?_,λe he=>?_,λe he=>?_⟩
  ·rw[List.map_cons,List.nodup_cons]
   refine⟨λhm=>?_,q1⟩;obtain⟨z,hz,e⟩:=List.mem_map.1 hm;have:=q3 z hz;omega
  ·rcases List.mem_cons.1 he with rfl|he
   ·omega
   ·exact q2 e he
  ·rcases List.mem_cons.1 he with rfl|he
   ·omega
   ·have:=q3 e he;omega
theorem Zdck:∀ {es:List (Value×Value×Nat)} {es':List MapEntry} {ls:List Lb},lbsC es=some ls->EntsR P r es es'->es'.map kvE=lkv ls
 | [],es',ls,hc,hE=>by
  cases es' with
  | nil=>simp only[lbsC,Option.some.injEq]at hc;subst hc;rfl
  | cons _ _=>have:=hE.1;simp at this
 | x::es,es',ls,hc,hE=>by
  obtain⟨y,ys,rfl,hk,_,hv,_,hE'⟩:=hE.head;unfold lbsC at hc;split at hc
  ·rename_i heq;cases heq
  ·rename_i b s n es0 heq
   cases heq
   split at hc
   case h_2=>cases hc
   rename_i ls' h'
   cases hc
   have hv2:=Zcqk 2 (by rfl) hv;rw[List.map_cons,Zdck h' hE'];unfold kvE;rw[hk,hv2];rfl
  ·cases hc
theorem Zdcp:∀(l:List Lb) (i:Nat) v,(lcs l)[i]? =some v->atom v=true
 | [],i,v,hv=>by simp[lcs]at hv
 | x::l,i,v,hv=>by
  rw[Zdcq]at hv
  match i with
  | 0=>simp at hv;subst hv;rfl
  | 1=>simp at hv;subst hv;rfl
  | i+2=>exact Zdcp l i v (by simpa using hv)
def allK (nf:FuncId) (el:TypeId):FK:=λf vs k h=>bif Nat.beq f nf then match vs with
 | [.pointer (some ⟨n,o,none⟩)]=>match look h n with
  | some (.cells cs _ _ _)=>match cs[o]? with
   | some (.map (some m))=>match look h m with
    | some (.map es ck _)=>match lbsC es with
     | some ls=>bif Zcxp ck 0 es&&Nat.ble ls.length 1000 then some (.slice (some ⟨2*k+1,0,none⟩) ls.length ls.length,k+1,(2*k+1,.cells (lcs (slb ls)) el 0 false)::h)else none
     | none=>none
    | _=>none
   | _=>none
  | _=>none
 | _=>none else none
theorem Zcwy (hN:Zcmj prog) (hb:Zcqx prog 37=true) (hz:Zp prog 24=2):KS prog G (onFn (allK 37 24)):=by
 refine Zcth ?_;intro f vs k h v k1 h1 hc r w vs' hR hv;unfold allK at hc
 cases hm:Nat.beq f 37 with
 | false=>rw[hm]at hc;cases hc
 | true=>
  rw[hm]at hc;simp only[cond_true]at hc;obtain rfl:=Zcnc.1 hm;split at hc
  case h_2=>cases hc
  rename_i n o
  split at hc
  case h_2=>cases hc
  rename_i cs t hi ro hl
  split at hc
  case h_2=>cases hc
  rename_i m hcell
  split at hc
  case h_2=>cases hc
  rename_i es ck ro2 hl2
  split at hc
  case h_2=>cases hc
  rename_i ls hls
  cases hbb:(Zcxp ck 0 es&&Nat.ble ls.length 1000)with
  | false=>rw[hbb]at hc;cases hc
  | true=>
   rw[hbb]at hc;cases hc;simp only[Bool.and_eq_true]at hbb;obtain⟨b1,b2⟩:=hbb;have b2:=Nat.le_of_ble_eq_true b2;obtain⟨p',us,rfl,v1,v2⟩:=hv.head;obtain rfl:us = []:=by have:=v2.1;cases us with
    | nil=>rfl
    | cons _ _=>simp at this
   cases v1 with
   | same ha=>simp[atom]at ha
   | @ptr _ _ e he=>
    obtain⟨e',he',o',ho',hO⟩:=hR.obj n _ hl;obtain rfl:=Option.some.inj (he.symm.trans he')
    cases o' with
    | cells cur t' fz=>
     obtain⟨_,_,_,_,_,a6,_⟩:=hO;obtain⟨vm,q1,q2⟩:=a6 o _ hcell
     cases q2 with
     | same ha=>simp[atom]at ha
     | @map _ em hem=>
      obtain⟨em',hem',om,hom,hOm⟩:=hR.obj m _ hl2;obtain rfl:=Option.some.inj (hem.symm.trans hem')
      cases om with
      | map es' c'=>
       have hE:EntsR prog r es es'.toList:=⟨by simpa using hOm.2.1,λi x y a b=>hOm.2.2 i x y a (by simpa using b)⟩;have hck:=hOm.1;obtain⟨n1,n2,_⟩:=Zcxq b1 hE;have hRM:RM w em.b (lkv ls):=⟨es',c',hom,Zdck hls hE,n1,by rw[hck];exact n2⟩;have hcl:w.cell? ⟨e.b,o+e.sh,none⟩=some (.map (some em.b)):=by rw[cell_of ho'];exact q1
       have hcall:=Zcxe ⟨e.b,o+e.sh,none⟩ em.b ls w hcl hRM (by omega);refine .inr ⟨Zcqy hN hb _ _,callsIn_wide.2 (Calls.mono hcall ?_)⟩;rintro en w1 ⟨g,cap,rfl,hown,hB⟩
       rcases hown.2 with⟨hx,_⟩|⟨g',cap',cur',hx,g1,g2,g3,g4,g5,g6⟩
       ·cases hx
       ·obtain⟨rfl,rfl⟩:g=g'/\cap=cap':=by
         injection hx with e1 _ e2
         injection e1 with e1
         injection e1 with e1
         exact⟨e1,e2⟩
        have hgb:w.grownBy w1 none:=⟨hB.os,hB.tape,hB.output,hB.size,λi hi _=>hB.block i hi⟩;have hOn:ObjR (Zp prog) r (2*k+1) ⟨g,0,cap*2,24⟩ (.cells (lcs (slb ls)) 24 0 false) (.cells cur' 24 (0,0)):=by
         have hsl:(lcs (slb ls)).length=ls.length*2:=by rw[Zdcs,(Zdit ls).length_eq]
         refine⟨rfl,rfl,g5,?_,λhx=>(by rw[Zctd]at hx;cases hx),λj u hj=>⟨u,?_,.same (Zdcp _ j u hj)⟩,FzS.zero⟩
         ·rw[hsl]
          have:=Nat.mul_le_mul_right 2 g3;simpa using this
         ·rw[<-g6,List.getElem?_take]at hj
          split at hj
          ·simpa using hj
          ·cases hj
        obtain⟨y1,y2⟩:=hR.grown (h0:=h) (λ_ _ x=>x) (R:=none) (λb hb=>by cases hb) (λb hb=>by cases hb) hgb (nm:=2*k+1) (by omega) (by omega) (.inr g1) g2 hOn;exact⟨_,_,rfl,y2,y1,.slice (e:=⟨g,0,cap*2,24⟩) (c':=cap) (by simp[set1]) g3 (λhx=>(by rw[Zctd]at hx;cases hx)) (λ_=>by show CapR (0+0+cap*Zp _ _) cap (cap*2) (Zp _ _);rw[hz];exact⟨by omega,λ_ _=>by omega,g4⟩)⟩
      | _=>exact hOm.elim
    | _=>exact hO.elim
end Go.Proofs.YtokogjhcidkckaaGreatDoor.Exe
namespace Go.Proofs.YtokogjhcidkckaaGreatDoor
open Go.Lib (hid)
open Go.Proofs.Tryz
open Go.RowKit Go.Maps
abbrev MapL:=List (ByteArray×Value)
def Zrt (v:Value):Option (DataW Value×List MemPlace):=some (.held v,[])
def litS (k:ByteArray):Lit:= .string k.data.toList
def hasM (m:MapL) (k:ByteArray):Bool:=m.any λp=>decide (p.1=k)
def getM (m:MapL) (k:ByteArray) (z:Value):Value:=((m.find? λp=>decide (p.1=k)).map (·.2)).getD z
def putM (m:MapL) (k:ByteArray) (v:Value):MapL:=(k,v)::m.filter λp=> !decide (p.1=k)
theorem Zgy {a b:ByteArray} (h:a.data.toList=b.data.toList):a=b:=by
 cases a;cases b;simp only[ByteArray.mk.injEq]at h⊢;exact Array.ext' h
theorem Zxu {a b:ByteArray} (h:litS a=litS b):a=b:=by unfold litS at h;injection h with h;exact Zgy h
theorem Zrm (m:MapL) (k k':ByteArray) (v:Value):hasM (putM m k v) k'=(decide (k=k')||hasM m k'):=by
 unfold hasM putM;rw[List.any_cons,List.any_filter]
 by_cases e:k=k'
 ·simp[e]
 ·rw[decide_eq_false e,Bool.false_or,Bool.false_or]
  congr 1
  funext p
  by_cases h:p.1=k'
  ·have:¬p.1=k:=λe'=>e (e'.symm.trans h)
   rw[decide_eq_false this];rfl
  ·rw[decide_eq_false h,Bool.and_false]
theorem Zqj (m:MapL) (k:ByteArray) (v z:Value):getM (putM m k v) k z=v:=by
 unfold getM putM;rw[List.find?_cons_of_pos (by simp)];rfl
theorem Zqi (m:MapL) {k k':ByteArray} (v z:Value) (h:¬k=k'):getM (putM m k v) k' z=getM m k' z:=by
 unfold getM putM;rw[List.find?_cons_of_neg (by simpa using h),List.find?_filter]
 congr 3
 funext p
 by_cases h2:p.1=k'
 ·have:¬p.1=k:=λe'=>h (e'.symm.trans h2)
  rw[decide_eq_false this];simp
 ·rw[decide_eq_false h2];simp
def KeysN (m:MapL):Prop:=m.Pairwise λp q=>¬p.1=q.1
theorem KeysN.put {m:MapL} (h:KeysN m) (k:ByteArray) (v:Value):KeysN (putM m k v):=by
 unfold KeysN putM;rw[List.pairwise_cons];refine⟨λp hp=>?_,h.filter _⟩;have:=(List.mem_filter.1 hp).2;simp at this;exact λe=>this e.symm
theorem Zbfq {m:MapL} (h:KeysN m) (k:ByteArray) (v:Value):(putM m k v).length=if hasM m k then m.length else m.length+1:=by
 unfold putM;rw[List.length_cons]
 induction m with
 | nil=>simp[hasM]
 | cons p m ih=>
  have h':=List.pairwise_cons.1 h
  by_cases e:p.1=k
  ·have hf:m.filter (λp=> !decide (p.1=k))=m:=List.filter_eq_self.2 λq hq=>by
    have:=h'.1 q hq;rw[e]at this;simp;exact λe'=>this e'.symm
   have hh:hasM (p::m) k=true:=by simp[hasM,e]
   rw[hh,List.filter_cons_of_neg (by simp[e]),hf];simp
  ·have hh:hasM (p::m) k=hasM m k:=by simp[hasM,e]
   rw[hh,List.filter_cons_of_pos (by simpa using e),List.length_cons];have:=ih h'.2;rw[this,List.length_cons];split<;>rfl
def MapIs (P:Program) (kt:TypeId) (w:World) (b:Nat) (m:MapL):Prop:=
 ∃D:DataW Value,w.ownsMap P kt Zrt b m.length D/\(∀k,Maps.has D (litS k)=hasM m k)/\(∀k z,D.atKey (litS k) (.held z) = .held (getM m k z))/\Maps.size D=m.length/\KeysN m
variable {P:Program} {kt t e:TypeId} {w:World} {b:Nat} {m:MapL}
theorem Zyj (w:World) (P:Program) (kt:TypeId):MapIs P kt (w.alloc (.map #[] 0)) w.heap.size []:=
 ⟨.map [],World.ownsMap_made w P kt Zrt,λ_=>rfl,λ_ _=>rfl,rfl,List.Pairwise.nil⟩
theorem MapIs.lt (h:MapIs P kt w b m):b<w.heap.size:=by obtain⟨D,h,_⟩:=h;exact h.lt
theorem MapIs.kept {w':World} {row:Option Nat} (h:MapIs P kt w b m) (hg:w.grownBy w' row) (hne:some b≠row):MapIs P kt w' b m:=by
 obtain⟨D,h,r⟩:=h;exact⟨D,h.kept hg hne,r⟩
theorem MapIs.heap {w':World} (h:MapIs P kt w b m) (hb:w'.heap[b]? =w.heap[b]?):MapIs P kt w' b m:=by
 obtain⟨D,⟨es,clock,h1,h2⟩,r⟩:=h;exact⟨D,⟨es,clock,hb.trans h1,h2⟩,r⟩
theorem MapIs.below {B:Nat} {w':World} (h:MapIs P kt w b m) (hb:Below B w w') (hlt:b<B):MapIs P kt w' b m:=h.heap (hb.block b hlt)
theorem MapIs.alloc (h:MapIs P kt w b m) (o:Obj):MapIs P kt (w.alloc o) b m:=by obtain⟨D,h,r⟩:=h;exact⟨D,h.alloc o,r⟩
theorem MapIs.drew (h:MapIs P kt w b m):MapIs P kt w.drew b m:=h
theorem Zwr (hk:P.underlying kt=some .string) (k:ByteArray) (hs:k.size<=maxLen):keyOf P kt (.string k)=some (litS k):=WideMaps.keyOf_string_mk hk hs
theorem MapIs.look (h:MapIs P kt w b m) (hk:P.underlying kt=some .string) (ht:P.underlying t=some (.map kt e)) {z:Value} (hz:(zeroValue e).run P w = .ok z w) (k:ByteArray) (hs:k.size<=maxLen):
  (Instr.lookup t (.map (some b)) (.string k) false).run P w = .ok (getM m k z) w:=by
 obtain⟨D,h,_,h2,_⟩:=h;obtain⟨v,ps,hrun,hv⟩:=h.lookup (Maps.string_keyed hk) ht hz (zd:= .held z) (zp:=[]) rfl (Zwr hk k hs);rw[h2]at hv;simp only[Zrt,Option.some.injEq,Prod.mk.injEq,DataW.held.injEq]at hv;rw[hrun,hv.1]
theorem MapIs.look_ok (h:MapIs P kt w b m) (hk:P.underlying kt=some .string) (ht:P.underlying t=some (.map kt e)) {z:Value} (hz:(zeroValue e).run P w = .ok z w) (k:ByteArray) (hs:k.size<=maxLen):
  (Instr.lookup t (.map (some b)) (.string k) true).run P w = .ok (.tuple #[getM m k z,.bool (hasM m k)]) w:=by
 obtain⟨D,h,h1,h2,_⟩:=h;obtain⟨v,ps,hrun,hv⟩:=h.look_ok (Maps.string_keyed hk) ht hz (zd:= .held z) (zp:=[]) rfl (Zwr hk k hs);rw[h2]at hv;simp only[Zrt,Option.some.injEq,Prod.mk.injEq,DataW.held.injEq]at hv;rw[hrun,hv.1,h1]
theorem MapIs.len (h:MapIs P kt w b m) (ht:P.underlying t=some (.map kt e)) (ty:TypeId):(Builtin.len_ #[t] ty #[.map (some b)]).run P w = .ok (.int .i64 (m.length:Int)) w:=by
 obtain⟨D,h,_,_,h3,_⟩:=h;rw[h.len ht ty,h3]
theorem MapIs.put (h:MapIs P kt w b m) (hk:P.underlying kt=some .string) (ht:P.underlying t=some (.map kt e)) (hn:m.length<maxLen) (k:ByteArray) (hs:k.size<=maxLen) (v:Value):
  ∃w',(Instr.mapUpdate t (.map (some b)) (.string k) v).run P w = .ok () w'/\MapIs P kt w' b (putM m k v)/\w.mapTurned w' b:=by
 obtain⟨D,h,h1,h2,h3,hK⟩:=h;have K:=Maps.string_keyed hk;have hT:=h.tidy K;obtain⟨w',hrun,r1,r2⟩:=h.store K ht hn (Zwr hk k hs) (val:=v) (d:= .held v) (ps:=[]) rfl;have hkl:WideAt.IsKeyLit (litS k):=trivial;have hsz:Maps.size (D.put (litS k) (.held v))=(putM m k v).length:=by
  rw[Maps.size_put hT,h1,h3,Zbfq hK]
 refine⟨w',hrun,⟨D.put (litS k) (.held v),?_,λk'=>?_,λk' z=>?_,hsz,hK.put k v⟩,r2⟩
 ·obtain⟨es,clock,a1,a2,a3,a4⟩:=r1
  refine⟨es,clock,a1,a2,?_,a4⟩;have:Maps.size (D.put (litS k) (.held v))=es.size:=by rw[a4];simp[Maps.size,length_sorted]
  omega
 ·rw[Zrm]
  by_cases e:k=k'
  ·subst e
   rw[Maps.has_put_same hT.isMap hkl];simp
  ·have:¬litS k'=litS k:=λe'=>e (Zxu e').symm
   rw[Maps.has_put_other this,h1,decide_eq_false e,Bool.false_or]
 ·by_cases e:k=k'
  ·subst e
   rw[Maps.atKey_put_same hT.isMap hkl,Zqj]
  ·have:¬litS k'=litS k:=λe'=>e (Zxu e').symm
   rw[Maps.atKey_put_other this,h2,Zqi _ _ _ e]
end Go.Proofs.YtokogjhcidkckaaGreatDoor
namespace Go.Proofs.YtokogjhcidkckaaGreatDoor
open Go.Lib (hid)
open Go.Proofs.Tryz
def Zzp (c:UInt8):Bool:=decide ((97<=c.toNat/\c.toNat<=122)∨(65<=c.toNat/\c.toNat<=90)∨(48<=c.toNat/\c.toNat<=57)∨c.toNat=46∨c.toNat=95∨c.toNat=45∨c.toNat=47)
def Zbfb (c:UInt8):Bool:=decide (32<=c.toNat/\c.toNat<=126/\c.toNat≠34/\c.toNat≠92)
open Go.RowKit Go.Shelf
theorem heap_set {w:World} {g:Nat} {cur:Array Value} {t:TypeId} {fr:Nat×Nat} (i:Nat) (v:Value) (hg:w.heap[g]? =some (.cells cur t fr)):
  (w.setCell ⟨g,i,none⟩ v).heap[g]? =some (.cells (cur.setIfInBounds i v) t fr):=by
 rw[setCell_eq_setRow w g i cur t fr v hg];exact setRow_heap w g cur _ t fr hg
theorem Zbhl {P:Program} {fn:Func} {p:Tmp} {ty:TypeId} (h:fn.results = #[.cell p ty]) (tmps:Array Value) (w:World) (g:Nat) (t:TypeId) (cs:Array Value) (fr:Nat×Nat) (d:TypeDesc)
 (hp:tmps.getD p undef = .pointer (some ⟨g,0,none⟩)) (hg:w.heap[g]? =some (.cells cs t fr))
 (hu:P.underlying ty=some d) (hd:(match d with | .struct _ | .array _ _=>true|_=>false)=true) (hi:(P.info? ty).map (·.size)=some cs.size):
 (results fn tmps).run P w = .ok (.agg cs) w:=results_cell_row h tmps w g t cs fr d hp hg hu hd hi
theorem alloc_at (w:World) (o:Obj):(w.alloc o).heap[w.heap.size]? =some o:=by show(w.heap.push _)[w.heap.size]? =_;simp
def IsRow (w:World) (v:Value) (k:Nat) (rows:List (List Value)):Prop:=
 ∃a c,v = .slice a rows.length c/\rows.length<=c/\c<=maxLen/\(rows≠[]->∃b o,a=some ⟨b,o,none⟩/\b<w.heap.size/\∀(j:Nat) r,rows[j]? =some r->∀(i:Nat) u,r[i]? =some u->w.cell? ⟨b,o+j*k+i,none⟩=some u)
theorem Zpf (k:Nat):∀(rows:List (List Value)),(∀r∈rows,r.length=k)->∀(j:Nat) r,rows[j]? =some r->∀(i:Nat) u,r[i]? =some u->rows.flatten[j*k+i]? =some u
 | [],_,j,r,h,_,_,_=>by simp at h
 | r0::rows,hk,j,r,h,i,u,hi=>by
  rw[List.flatten_cons]
  cases j with
  | zero=>
   simp only[List.getElem?_cons_zero,Option.some.injEq]at h;subst h;rw[Nat.zero_mul,Nat.zero_add,List.getElem?_append_left (List.getElem?_eq_some_iff.1 hi).1];exact hi
  | succ j=>
   simp only[List.getElem?_cons_succ]at h;have h0:=hk r0 (by simp);rw[List.getElem?_append_right (by rw[h0,Nat.succ_mul];omega),h0,show(j+1)*k+i-k=j*k+i by rw[Nat.succ_mul];omega];exact Zpf k rows (λr hr=>hk r (by simp[hr])) j r h i u hi
theorem Zbij {w:World} {B k:Nat} {t:TypeId} {v:Value} {rows:List (List Value)} (h:w.ownsRow B t k v rows.length rows.flatten) (hk:∀r∈rows,r.length=k):IsRow w v k rows:=by
 rcases h with⟨_,⟨rfl,h0⟩|⟨g,cap,cur,rfl,hB,hb,hn,hm,hs,ht⟩⟩
 ·obtain rfl:rows = []:=List.eq_nil_of_length_eq_zero h0
  exact⟨none,0,rfl,by simp,by simp[maxLen],λh=>absurd rfl h⟩
 ·refine⟨_,cap,rfl,hn,hm,λ_=>⟨g,0,rfl,?_,λj r hr i u hu=>?_⟩⟩
  ·rcases Nat.lt_or_ge g w.heap.size with h'|h'
   ·exact h'
   ·rw[Array.getElem?_eq_none h']at hb;cases hb
  ·have:=Zpf k rows hk j r hr i u hu
   rw[<-ht,List.getElem?_take]at this;split at this
   ·simp only[World.cell?,hb,Nat.zero_add]
    simpa using this
   ·cases this
theorem IsRow.below {w w':World} {v:Value} {k:Nat} {rows:List (List Value)} (h:IsRow w v k rows) (hb:Below w.heap.size w w'):IsRow w' v k rows:=by
 obtain⟨a,c,rfl,h1,h1m,h2⟩:=h;refine⟨a,c,rfl,h1,h1m,λhne=>?_⟩;obtain⟨b,o,rfl,h3,h4⟩:=h2 hne;exact⟨b,o,rfl,Nat.lt_of_lt_of_le h3 hb.size,λj r hr i u hu=>(hb.cell h3).trans (h4 j r hr i u hu)⟩
abbrev Zcj:=Int×Nat×List UInt8
def Zbte (x:Zcj):List Value:=[.int .i64 x.1,.int .i64 (x.2.1:Int),.string ⟨x.2.2.toArray⟩]
def Zbtf (ws:List Zcj):List (List Value):=ws.map Zbte
theorem Zbti (ws:List Zcj):(Zbtf ws).length=ws.length:=by simp[Zbtf]
theorem Zsv {p:Program} {t:TypeId} {z:Option Value} {s b:Nat} (h:(p.info? t).map (λi=>(i.zero,i.size,i.bytes))=some (z,s,b)):∃i,p.info? t=some i/\i.zero=z/\i.size=s/\i.bytes=b:=by
 cases hi:p.info? t with
 | none=>rw[hi]at h;cases h
 | some i=>rw[hi]at h;injection h with h;injection h with h1 h;injection h with h2 h3;exact⟨i,rfl,h1,h2,h3⟩
abbrev PS:=Nat×Bool
def wAt (ws:List Zcj) (k:Nat):Zcj:=ws.getD k (4,0,[])
def wTx (ws:List Zcj) (k:Nat):ByteArray:=⟨(wAt ws k).2.2.toArray⟩
def Zbcr:List (List UInt8):=[[],[99,111,112,121],[110,101,101,100],[115,111,114,116],[99,111,117,110,116],[99,111,110,99,97,116],[108,105,116,101,114,97,108],[115,101,108,101,99,116],[114,101,112,108,97,99,101],[112,114,101,102,105,120]]
structure StepS where
 out:ByteArray
 op:Int
 args:List ByteArray
 lits:List ByteArray
 n:Int
structure RuleS where
 name:ByteArray
 ins:List ByteArray
 outs:List ByteArray
 after:List ByteArray
 steps:List StepS
def Zap (ws:List Zcj):Prop:=∀k,k<ws.length->(wAt ws k).1≠4->k+1<ws.length
structure Fr (Av:Nat->Prop) (w w':World):Prop where
 os:w'.os=w.os
 tape:w'.tape=w.tape
 output:w'.output=w.output
 size:w.heap.size<=w'.heap.size
 block:∀k,k<w.heap.size->¬Av k->w'.heap[k]? =w.heap[k]?
theorem Fr.refl (Av:Nat->Prop) (w:World):Fr Av w w:=⟨rfl,rfl,rfl,Nat.le_refl _,λ_ _ _=>rfl⟩
theorem Fr.trans {Av:Nat->Prop} {a b c:World} (h:Fr Av a b) (k:Fr Av b c):Fr Av a c:=
 ⟨k.os.trans h.os,k.tape.trans h.tape,k.output.trans h.output,Nat.le_trans h.size k.size,λi hi hn=>(k.block i (Nat.lt_of_lt_of_le hi h.size) hn).trans (h.block i hi hn)⟩
theorem Fr.mono {Av Av':Nat->Prop} {w w':World} (h:Fr Av w w') (hm:∀k,k<w.heap.size->Av k->Av' k):Fr Av' w w':=
 ⟨h.os,h.tape,h.output,h.size,λk hk hn=>h.block k hk λha=>hn (hm k hk ha)⟩
theorem Zpv {Av:Nat->Prop} {w w':World} (h:Below w.heap.size w w'):Fr Av w w':=⟨h.os,h.tape,h.output,h.size,λk hk _=>h.block k hk⟩
theorem Zpu (Av:Nat->Prop) (w:World) (o:Obj):Fr Av w (w.alloc o):=Zpv ((Below.refl _ _).alloc (Nat.le_refl _) _)
theorem Zpx {Av:Nat->Prop} {w w':World} {r:Option Nat} (h:w.grownBy w' r) (hr:∀k,r=some k->Av k):Fr Av w w':=
 ⟨h.os,h.tape,h.output,h.size,λk hk hn=>h.block k hk λe=>hn (hr k e.symm)⟩
theorem Zpy {Av:Nat->Prop} {w:World} {a:Addr} (ha:Av a.block) (u:Value):Fr Av w (w.setCell a u):=
 ⟨rfl,rfl,rfl,by simp[World.setCell],λk _ hn=>Below.heap_setCell _ _ _ _ λe=>hn (e▸ha)⟩
theorem Zpw (Av:Nat->Prop) (w:World):Fr Av w w.drew:=⟨rfl,rfl,rfl,Nat.le_refl _,λ_ _ _=>rfl⟩
theorem Fr.below {Av:Nat->Prop} {w w':World} (h:Fr Av w w') {B:Nat} (hB:B<=w.heap.size) (hn:∀k,k<B->¬Av k):Below B w w':=
 ⟨h.os,h.tape,h.output,h.size,λk hk=>h.block k (by omega) (hn k hk)⟩
def RowA (Av:Nat->Prop) (w:World) (v:Value) (k:Nat) (rows:List (List Value)):Prop:=
 IsRow w v k rows/\∀b,v.ownBlock=some b->b<w.heap.size/\¬Av b
theorem RowA.keep {Av:Nat->Prop} {w w':World} {v:Value} {k:Nat} {rows:List (List Value)} (h:RowA Av w v k rows) (hf:Fr Av w w'):RowA Av w' v k rows:=by
 obtain⟨⟨a,c,rfl,h1,h1m,h2⟩,hb⟩:=h;refine⟨⟨a,c,rfl,h1,h1m,λhne=>?_⟩,λb e=>⟨Nat.lt_of_lt_of_le (hb b e).1 hf.size,(hb b e).2⟩⟩;obtain⟨b,o,rfl,h3,h4⟩:=h2 hne;exact⟨b,o,rfl,Nat.lt_of_lt_of_le h3 hf.size,λj r hr i u hu=>(World.cell?_of_block (w:=w) (hf.block b h3 (hb b rfl).2)).trans (h4 j r hr i u hu)⟩
theorem RowA.mono {Av Av':Nat->Prop} {w:World} {v:Value} {k:Nat} {rows:List (List Value)} (h:RowA Av w v k rows) (hm:∀b,b<w.heap.size->Av' b->Av b):RowA Av' w v k rows:=
 ⟨h.1,λb e=>⟨(h.2 b e).1,λha=>(h.2 b e).2 (hm b (h.2 b e).1 ha)⟩⟩
theorem Zbie (Av:Nat->Prop) (w:World) (k:Nat):RowA Av w (.slice none 0 0) k []:=⟨⟨none,0,rfl,by simp,by simp[maxLen],λh=>absurd rfl h⟩,λb e=>by cases e⟩
theorem Zbif {w:World} {B k:Nat} {t:TypeId} {v:Value} {rows:List (List Value)} (h:w.ownsRow B t k v rows.length rows.flatten) (hk:∀r∈rows,r.length=k):RowA (λb=>b<B) w v k rows:=
 ⟨Zbij h hk,λb e=>⟨(h.lt b e).2,by have:=(h.lt b e).1;omega⟩⟩
def Zbpk (xs:List ByteArray):List (List Value):=xs.map λx=>[.string x]
theorem Zbpm (xs:List ByteArray):(Zbpk xs).flatten=xs.map Value.string:=by
 induction xs with
 | nil=>rfl
 | cons x xs ih=>simp[Zbpk]at ih⊢;exact ih
theorem Zbpo (xs:List ByteArray):(Zbpk xs).length=xs.length:=by simp[Zbpk]
theorem Zbpn (xs:List ByteArray):∀r∈Zbpk xs,r.length=1:=by
 intro r hr;obtain⟨x,_,rfl⟩:=List.mem_map.1 hr;rfl
def StrsA (Av:Nat->Prop) (w:World) (v:Value) (xs:List ByteArray):Prop:=RowA Av w v 1 (Zbpk xs)
theorem Zbqf {w:World} {B:Nat} {t:TypeId} {v:Value} {xs:List ByteArray} (h:w.ownsRow B t 1 v xs.length (xs.map Value.string)):StrsA (λb=>b<B) w v xs:=by
 refine Zbif (t:=t) ?_ (Zbpn xs);rw[Zbpm,Zbpo];exact h
structure PSt (w:World) (p:Nat) (v:Value) (ws:List Zcj) (s:PS):Prop where
 blk:w.heap[p]? =some (.cells #[v,.int .i64 (s.1:Int),.bool s.2] 286)
 row:RowA (λb=>b=p) w v 3 (Zbtf ws)
 lt:s.1<ws.length
 ends:Zap ws
theorem PSt.p_lt {w:World} {p:Nat} {v:Value} {ws:List Zcj} {s:PS} (h:PSt w p v ws s):p<w.heap.size:=by
 rcases Nat.lt_or_ge p w.heap.size with h'|h'
 ·exact h'
 ·have:=h.blk;rw[Array.getElem?_eq_none h']at this;cases this
theorem PSt.slice {w:World} {p:Nat} {v:Value} {ws:List Zcj} {s:PS} (h:PSt w p v ws s):
  ∃b o c,v = .slice (some ⟨b,o,none⟩) ws.length c/\ws.length<=c/\c<=maxLen/\b<w.heap.size/\b≠p/\
   w.cell? ⟨b,o+s.1*3,none⟩=some (.int .i64 (wAt ws s.1).1)/\w.cell? ⟨b,o+s.1*3+1,none⟩=some (.int .i64 ((wAt ws s.1).2.1:Int))/\w.cell? ⟨b,o+s.1*3+2,none⟩=some (.string (wTx ws s.1)):=by
 obtain⟨⟨⟨a,c,rfl,h1,h1m,h2⟩,h3⟩,hlt⟩:=And.intro h.row h.lt;have hne:Zbtf ws≠[]:=by
  intro e;have h0:ws.length=0:=by rw[<-Zbti ws,e];rfl
  omega
 obtain⟨b,o,rfl,h4,h5⟩:=h2 hne;rw[Zbti]at h1;have hr:(Zbtf ws)[s.1]? =some (Zbte (wAt ws s.1)):=by
  unfold Zbtf wAt;rw[List.getElem?_map,List.getD_eq_getElem?_getD,List.getElem?_eq_getElem hlt];rfl
 refine⟨b,o,c,by rw[Zbti],h1,h1m,h4,(h3 b rfl).2,h5 _ _ hr 0 _ rfl,h5 _ _ hr 1 _ rfl,h5 _ _ hr 2 _ rfl⟩
theorem PSt.len {w:World} {p:Nat} {v:Value} {ws:List Zcj} {s:PS} (h:PSt w p v ws s):ws.length<=9223372036854775807:=by
 obtain⟨b,o,c,_,h1,h2,_⟩:=h.slice;unfold maxLen at h2;omega
theorem PSt.fr {w w':World} {p:Nat} {v:Value} {ws:List Zcj} {s:PS} {Av:Nat->Prop} (h:PSt w p v ws s) (hf:Fr Av w w') (hp:¬Av p) (hv:∀b,v.ownBlock=some b->¬Av b):PSt w' p v ws s:=by
 refine⟨(hf.block p h.p_lt hp).trans h.blk,?_,h.lt,h.ends⟩;have h1:RowA Av w v 3 (Zbtf ws):=⟨h.row.1,λb e=>⟨(h.row.2 b e).1,hv b e⟩⟩;have h2:=h1.keep hf;exact⟨h2.1,λb e=>⟨(h2.2 b e).1,(h.row.2 b e).2⟩⟩
theorem PSt.below {w w':World} {p:Nat} {v:Value} {ws:List Zcj} {s:PS} (h:PSt w p v ws s) (hb:Below w.heap.size w w'):PSt w' p v ws s:=
 h.fr (Av:=λ_=>False) (Zpv hb) (λh=>h) (λ_ _ h=>h)
theorem PSt.alloc {w:World} {p:Nat} {v:Value} {ws:List Zcj} {s:PS} (h:PSt w p v ws s) (o:Obj):PSt (w.alloc o) p v ws s:=h.below ((Below.refl _ _).alloc (Nat.le_refl _) _)
theorem PSt.cells {w:World} {p:Nat} {v:Value} {ws:List Zcj} {s:PS} (h:PSt w p v ws s):
  w.cell? ⟨p,0,none⟩=some v/\w.cell? ⟨p,1,none⟩=some (.int .i64 (s.1:Int))/\w.cell? ⟨p,2,none⟩=some (.bool s.2)/\w.frozen? ⟨p,0,none⟩=false/\w.frozen? ⟨p,1,none⟩=false/\w.frozen? ⟨p,2,none⟩=false:=by
 simp[World.cell?,World.frozen?,h.blk]
def After (w w':World) (p:Nat) (v:Value) (ws:List Zcj) (s':PS):Prop:=PSt w' p v ws s'/\Fr (λb=>b=p) w w'
theorem After.trans {a b c:World} {p:Nat} {v:Value} {ws:List Zcj} {s s':PS} (h:After a b p v ws s) (k:After b c p v ws s'):After a c p v ws s':=⟨k.1,h.2.trans k.2⟩
theorem After.of_below {w w':World} {p:Nat} {v:Value} {ws:List Zcj} {s:PS} (h:PSt w p v ws s) (hb:Below w.heap.size w w'):After w w' p v ws s:=⟨h.below hb,Zpv hb⟩
structure GP (p:Nat) (w:World):Prop where
 glob:Glob w
 ops:∀(k:Nat) x,Zbcr[k]? =some x->w.cell? ⟨1,k,none⟩=some (.string ⟨x.toArray⟩)
 l1:0<p
 l2:2<p
 l3:3<p
 l4:4<p
 l5:1<p
 gx:Exe.GX 5 301 Exe.opNames w
theorem GP.below {p:Nat} {w w':World} (h:GP p w) (hb:Below p w w'):GP p w':=by
 obtain⟨⟨⟨m,hm⟩,ht,htop,⟨t1,p1,h1⟩,⟨t2,p2,h2⟩⟩,ho,l1,l2,l3,l4,l5,gx⟩:=h;exact⟨⟨⟨m,(hb.cell l1).trans hm⟩,var?_below hb (by kernel_rfl) l2 ht,Nat.lt_of_lt_of_le htop hb.size,⟨t1,p1,(hb.cell l3).trans h1⟩,⟨t2,p2,(hb.cell l4).trans h2⟩⟩,
  λk x hx=>(hb.cell (p:=⟨1,k,none⟩) l5).trans (ho k x hx),l1,l2,l3,l4,l5,gx.below (show Exe.gq<p from l5) hb⟩
theorem GP.fr {p:Nat} {w w':World} (h:GP p w) (hp:p<=w.heap.size) (hf:Fr (λb=>b=p) w w'):GP p w':=h.below (hf.below hp λk hk e=>by omega)
structure RS (w:World) (p:Nat) (v:Value) (ws:List Zcj) (s:PS):Prop where
 st:PSt w p v ws s
 gp:GP p w
 sz:∀k,k<ws.length->(wTx ws k).size<=1048576
 few:ws.length<=2097152
theorem RS.after {w w':World} {p:Nat} {v:Value} {ws:List Zcj} {s s':PS} (h:RS w p v ws s) (ha:After w w' p v ws s'):RS w' p v ws s':=
 ⟨ha.1,h.gp.fr (Nat.le_of_lt h.st.p_lt) ha.2,h.sz,h.few⟩
theorem RS.below {w w':World} {p:Nat} {v:Value} {ws:List Zcj} {s:PS} (h:RS w p v ws s) (hb:Below w.heap.size w w'):RS w' p v ws s:=h.after (After.of_below h.st hb)
theorem Fr.grownBy {p:Nat} {w w':World} (h:Fr (λb=>b=p) w w'):w.grownBy w' (some p):=⟨h.os,h.tape,h.output,h.size,λk hk hn=>h.block k hk λe=>hn (by rw[e])⟩
theorem After.grown {w w1 w2:World} {p:Nat} {v:Value} {ws:List Zcj} {s0 s:PS} {r:Option Nat} (h0:PSt w p v ws s0) (h:After w w1 p v ws s) (hg:w1.grownBy w2 r) (hr:∀k,r=some k->w.heap.size<=k):After w w2 p v ws s:=by
 refine⟨h.1.fr (Av:=λb=>some b=r) (Zpx hg λk e=>e.symm) (λe=>?_) (λb hb e=>?_),?_⟩
 ·have:=hr p e.symm;have:=h0.p_lt;omega
 ·have:=hr b e.symm;have:=(h0.row.2 b hb).1;omega
 ·refine⟨hg.os.trans h.2.os,hg.tape.trans h.2.tape,hg.output.trans h.2.output,Nat.le_trans h.2.size hg.size,λk hk hn=>?_⟩
  rw[hg.block k (Nat.lt_of_lt_of_le hk h.2.size) (λe=>by have:=hr k e.symm;omega)];exact h.2.block k hk hn
theorem After.alloc {w w1:World} {p:Nat} {v:Value} {ws:List Zcj} {s:PS} (h:After w w1 p v ws s) (o:Obj):After w (w1.alloc o) p v ws s:=⟨h.1.alloc o,h.2.trans (Zpu _ _ _)⟩
theorem After.drew {w w1:World} {p:Nat} {v:Value} {ws:List Zcj} {s:PS} (h:After w w1 p v ws s):After w w1.drew p v ws s:=⟨h.1.below (Below.refl _ _).drew,h.2.trans (Zpw _ _)⟩
theorem After.refl {w:World} {p:Nat} {v:Value} {ws:List Zcj} {s:PS} (h:PSt w p v ws s):After w w p v ws s:=⟨h,Fr.refl _ _⟩
def Zbfk (w:World) (p:Nat):Nat:=(intOf ((w.cell? ⟨p,1,none⟩).getD (.int .i64 0))).toNat
theorem PSt.pos {w:World} {p:Nat} {v:Value} {ws:List Zcj} {s:PS} (h:PSt w p v ws s):Zbfk w p=s.1:=by
 unfold Zbfk;rw[h.cells.2.1];simp[intOf]
theorem cells5 {w:World} {b:Nat} {x0 x1 x2 x3 x4:Value} {T:TypeId} (h:w.heap[b]? =some (.cells #[x0,x1,x2,x3,x4] T)):
  w.cell? ⟨b,0,none⟩=some x0/\w.cell? ⟨b,1,none⟩=some x1/\w.cell? ⟨b,2,none⟩=some x2/\w.cell? ⟨b,3,none⟩=some x3/\w.cell? ⟨b,4,none⟩=some x4/\
  w.frozen? ⟨b,0,none⟩=false/\w.frozen? ⟨b,1,none⟩=false/\w.frozen? ⟨b,2,none⟩=false/\w.frozen? ⟨b,3,none⟩=false/\w.frozen? ⟨b,4,none⟩=false:=by
 simp[World.cell?,World.frozen?,h]
theorem After.set {w w1:World} {p:Nat} {v:Value} {ws:List Zcj} {s0 s:PS} (h0:PSt w p v ws s0) (h:After w w1 p v ws s) {a:Addr} (ha:w.heap.size<=a.block) (u:Value):After w (w1.setCell a u) p v ws s:=by
 refine⟨h.1.fr (Av:=λb=>b=a.block) (Zpy (a:=a) (Av:=λb=>b=a.block) rfl u) (λe=>?_) (λb hb e=>?_),?_⟩
 ·have:=h0.p_lt;omega
 ·have:=(h0.row.2 b hb).1;omega
 ·refine⟨h.2.os,h.2.tape,h.2.output,by simp[World.setCell];exact h.2.size,λk hk hn=>?_⟩
  rw[Below.heap_setCell _ _ _ _ (by omega)];exact h.2.block k hk hn
structure SM (T:TypeId) (z:Array Value) (w wr:World) (p:Nat) (v:Value) (ws:List Zcj) (s:PS) (cs:Array Value):Prop where
 af:After w wr p v ws s
 r0:wr.heap[w.heap.size]? =some (.cells z T)
 r1:wr.heap[w.heap.size+1]? =some (.cells cs T)
 big:w.heap.size+2<=wr.heap.size
theorem SM.begin {T:TypeId} {w:World} {p:Nat} {v:Value} {ws:List Zcj} {s:PS} (h:PSt w p v ws s) (z cs:Array Value):SM T z w ((w.alloc (.cells z T)).alloc (.cells cs T)) p v ws s cs:=by
 refine⟨((After.refl h).alloc _).alloc _,?_,?_,by simp⟩
 ·rw[Below.heap_alloc _ _ _ (by simp)];exact alloc_at w _
 ·have:=alloc_at (w.alloc (.cells z T)) (.cells cs T)
  simpa using this
theorem SM.step {T:TypeId} {z:Array Value} {w wr w':World} {p:Nat} {v:Value} {ws:List Zcj} {s0 s s':PS} {cs:Array Value} (h0:PSt w p v ws s0) (h:SM T z w wr p v ws s cs) (ha:After wr w' p v ws s'):SM T z w w' p v ws s' cs:=by
 have hp:=h0.p_lt;have hb:=h.big;exact⟨h.af.trans ha,(ha.2.block _ (by omega) (by omega)).trans h.r0,(ha.2.block _ (by omega) (by omega)).trans h.r1,Nat.le_trans hb ha.2.size⟩
theorem SM.alloc {T:TypeId} {z:Array Value} {w wr:World} {p:Nat} {v:Value} {ws:List Zcj} {s0 s:PS} {cs:Array Value} (h0:PSt w p v ws s0) (h:SM T z w wr p v ws s cs) (o:Obj):SM T z w (wr.alloc o) p v ws s cs:=
 h.step h0 ((After.refl h.af.1).alloc o)
theorem SM.set {T:TypeId} {z:Array Value} {w wr:World} {p:Nat} {v:Value} {ws:List Zcj} {s0 s:PS} {cs:Array Value} (h0:PSt w p v ws s0) (h:SM T z w wr p v ws s cs) (i:Nat) (u:Value):SM T z w (wr.setCell ⟨w.heap.size+1,i,none⟩ u) p v ws s (cs.setIfInBounds i u):=by
 refine⟨h.af.set h0 (by simp) u,?_,heap_set i u h.r1,by simp[World.setCell];exact h.big⟩;rw[Below.heap_setCell _ _ _ _ (by simp)];exact h.r0
theorem SM.rs {T:TypeId} {z:Array Value} {w wr:World} {p:Nat} {v:Value} {ws:List Zcj} {s0 s:PS} {cs:Array Value} (h:SM T z w wr p v ws s cs) (h0:RS w p v ws s0):RS wr p v ws s:=h0.after h.af
theorem Zbig {Av:Nat->Prop} {w:World} {va:Value} {k:Nat} {rows:List (List Value)} (h:RowA Av w va k rows):∃a n c,va = .slice a n c:=by
 obtain⟨⟨a,c,rfl,_⟩,_⟩:=h;exact⟨a,_,c,rfl⟩
theorem Zbqd (Av:Nat->Prop) (w:World):StrsA Av w (.slice none 0 0) []:=Zbie Av w 1
theorem Zbdt {w:World} {B B' e size:Nat} {v:Value} {n:Nat} {xs:List Value} (h:w.ownsRow B e size v n xs) (hB:B'<=B):w.ownsRow B' e size v n xs:=by
 obtain⟨h1,h2|⟨g,cap,cur,hv,hg,hr⟩⟩:=h
 ·exact⟨h1,.inl h2⟩
 ·exact⟨h1,.inr ⟨g,cap,cur,hv,Nat.le_trans hB hg,hr⟩⟩
theorem Zbue {P:Program} (w:World) {ops:Array Oper} {rest:List Oper} {o:Oper} {a:Act} {Q:Exit->Act->World->Prop}
  (hg:o.guard=none) (s x:Operand) (t:TypeId) (hop:o.op=Op.call { callee:=Callee.builtin Builtin.append,args:=#[s,x],argTypes:=#[t,t] })
  (base:Nat) (e:TypeId) (i:TypeInfo) (z:Value) (size bytes:Nat) (h1:P.underlying t=some (.slice e)) (h2:P.info? e=some i) (h3:i.zero=some z) (h4:i.size=size) (h5:i.bytes=bytes) (h6:z.cells.size=size) (h7:0<size)
  (v:Value) (n:Nat) (xs:List Value) (hs:a.eval s=v) (hown:w.ownsRow base e size v n xs)
  (ad:Addr) (m c:Nat) (news:List Value) (hx:a.eval x = .slice (some ad) m c) (hn:news.length=m*size) (hc:∀j u,news[j]? =some u->w.cell? (ad.add j)=some u) (h1c:∀u∈news,u.oneCell'=true)
  (hm:0<m) (b1:n+m<=maxLen) (b2:(n+m)*bytes<=140737488355328) (hbase:base<=w.heap.size)
  (hK:∀v' w',w'.ownsRow base e size v' (n+m) (xs++news)->w.grownBy w' v.ownBlock->(∀b,v'.ownBlock=some b->v.ownBlock=some b∨w.heap.size<=b)->wpList P ops Q rest (a.put o.dst v') w'):
  wpList P ops Q (o::rest) a w:=by
 obtain⟨hl,⟨rfl,h0⟩|⟨g,cap,cur,rfl,hgB,hgc,hnc,hcm,hcs,htk⟩⟩:=id hown
 ·subst h0
  refine wpList_append_grows w hg s x t hop e i z size bytes h1 h2 h3 h4 h5 h6 h7 none 0 0 xs hs (λ_=>⟨rfl,rfl⟩) hl (λb hb=>by cases hb) ad m c news hx hn hc h1c (by omega) b1 b2 ?_;intro v' w' ho hgr;exact hK v' w' (Zbdt ho hbase) hgr λb hb=> .inr (ho.lt b hb).1
 ·by_cases hfit:n+m<=cap
  ·refine wpList_append_fits w hg s x t hop base e i size h1 h2 h4 g n cap xs hs hown ad m c news hx hn hc h1c hfit ?_
   intro w' ho hgr;exact hK _ w' ho hgr λb hb=> .inl hb
  ·refine wpList_append_grows w hg s x t hop e i z size bytes h1 h2 h3 h4 h5 h6 h7 (some ⟨g,0,none⟩) n cap xs hs (λh=>by cases h) hl (λb hb=>by cases hb;exact hown.cells rfl) ad m c news hx hn hc h1c (by omega) b1 b2 ?_
   intro v' w' ho hgr;exact hK v' w' (Zbdt ho hbase) ⟨hgr.os,hgr.tape,hgr.output,hgr.size,λk hk _=>hgr.block k hk (by simp)⟩ λb hb=> .inr (ho.lt b hb).1
def AllA {α:Type} (P:List Value->α->Prop) (rows:List (List Value)) (xs:List α):Prop:=rows.length=xs.length/\∀(j:Nat) r x,rows[j]? =some r->xs[j]? =some x->P r x
theorem AllA.nil {α:Type} (P:List Value->α->Prop):AllA P [] []:=⟨rfl,λj r x h=>by simp at h⟩
theorem AllA.snoc {α:Type} {P:List Value->α->Prop} {rows:List (List Value)} {xs:List α} (h:AllA P rows xs) {r:List Value} {x:α} (hp:P r x):AllA P (rows ++ [r]) (xs ++ [x]):=by
 refine⟨by simp[h.1],λj r' x' hr hx=>?_⟩
 rcases Nat.lt_trichotomy j rows.length with hj|hj|hj
 ·rw[List.getElem?_append_left hj]at hr
  rw[List.getElem?_append_left (by rw[<-h.1];exact hj)]at hx;exact h.2 j r' x' hr hx
 ·subst hj
  rw[List.getElem?_append_right (Nat.le_refl _)]at hr;rw[List.getElem?_append_right (by rw[h.1];exact Nat.le_refl _)]at hx;simp[h.1]at hr hx;subst hr hx;exact hp
 ·rw[List.getElem?_eq_none (by simp;omega)]at hr;cases hr
theorem AllA.imp {α:Type} {P Q:List Value->α->Prop} {rows:List (List Value)} {xs:List α} (h:AllA P rows xs) (hi:∀r x,P r x->Q r x):AllA Q rows xs:=⟨h.1,λj r x hr hx=>hi r x (h.2 j r x hr hx)⟩
theorem AllA.len {α:Type} {P:List Value->α->Prop} {rows:List (List Value)} {xs:List α} (h:AllA P rows xs) {n:Nat} (hn:∀r x,P r x->r.length=n):∀r∈rows,r.length=n:=by
 intro r hr;obtain⟨j,hj⟩:=List.getElem?_of_mem hr;have hlt:j<xs.length:=by rw[<-h.1];exact(List.getElem?_eq_some_iff.1 hj).1
 exact hn r _ (h.2 j r _ hj (List.getElem?_eq_getElem hlt))
def StepA (Av:Nat->Prop) (w:World) (r:List Value) (x:StepS):Prop:=∃va vl,r = [.string x.out,.int .i64 x.op,va,vl,.int .i64 x.n]/\StrsA Av w va x.args/\StrsA Av w vl x.lits
theorem StepA.len {Av:Nat->Prop} {w:World} {r:List Value} {x:StepS} (h:StepA Av w r x):r.length=5:=by obtain⟨va,vl,rfl,_⟩:=h;rfl
theorem StepA.keep {Av:Nat->Prop} {w w':World} {r:List Value} {x:StepS} (h:StepA Av w r x) (hf:Fr Av w w'):StepA Av w' r x:=by
 obtain⟨va,vl,rfl,h1,h2⟩:=h;exact⟨va,vl,rfl,RowA.keep h1 hf,RowA.keep h2 hf⟩
theorem StepA.mono {Av Av':Nat->Prop} {w:World} {r:List Value} {x:StepS} (h:StepA Av w r x) (hm:∀b,b<w.heap.size->Av' b->Av b):StepA Av' w r x:=by
 obtain⟨va,vl,rfl,h1,h2⟩:=h;exact⟨va,vl,rfl,RowA.mono h1 hm,RowA.mono h2 hm⟩
def StepsA (Av:Nat->Prop) (w:World) (v:Value) (xs:List StepS):Prop:=∃rows,RowA Av w v 5 rows/\AllA (StepA Av w) rows xs
theorem StepsA.keep {Av:Nat->Prop} {w w':World} {v:Value} {xs:List StepS} (h:StepsA Av w v xs) (hf:Fr Av w w'):StepsA Av w' v xs:=by
 obtain⟨rows,h1,h2⟩:=h;exact⟨rows,h1.keep hf,h2.imp λr x h=>h.keep hf⟩
theorem StepsA.mono {Av Av':Nat->Prop} {w:World} {v:Value} {xs:List StepS} (h:StepsA Av w v xs) (hm:∀b,b<w.heap.size->Av' b->Av b):StepsA Av' w v xs:=by
 obtain⟨rows,h1,h2⟩:=h;exact⟨rows,h1.mono hm,h2.imp λr x h=>h.mono hm⟩
def AvOf (B:Nat) (v:Value) (b:Nat):Prop:=b<B∨v.ownBlock=some b
theorem Zsx:(prog.info? 60).map (λi=>(i.zero,i.size,i.bytes))=some (some (.agg #[.string ByteArray.empty,.int .i64 0,.slice none 0 0,.slice none 0 0,.int .i64 0]),5,80):=by kernel_rfl
theorem Zqy {W w5:World} {B:Nat} {vv v':Value} {rows:List (List Value)} {xs:List StepS} (h:AllA (λr x=>StepA (AvOf B vv) W r x) rows xs) (hg:W.grownBy w5 vv.ownBlock) (hv:∀b,v'.ownBlock=some b->vv.ownBlock=some b∨W.heap.size<=b):
  AllA (StepA (AvOf B v') w5) rows xs:=by
 refine h.imp λr x hx=>?_
 have h1:StepA (λb=>AvOf B vv b∨W.heap.size<=b) W r x:=hx.mono λb hb e=>by
  rcases e with e|e
  ·exact e
  ·omega
 refine(h1.keep (Zpx hg λk e=> .inl (.inr e))).mono λb _ e=>?_
 rcases e with e|e
 ·exact .inl (.inl e)
 ·rcases hv b e with e|e
  ·exact .inl (.inr e)
  ·exact .inr e
theorem Zbol {Av:Nat->Prop} {w:World} {va:Value} {xs:List StepS} (h:StepsA Av w va xs):∃a n c,va = .slice a n c:=by
 obtain⟨rows,h1,_⟩:=h;exact Zbig h1
def RuleA (Av:Nat->Prop) (w:World) (r:List Value) (x:RuleS):Prop:=∃vi vo vf vs,r = [.string x.name,vi,vo,vf,vs]/\StrsA Av w vi x.ins/\StrsA Av w vo x.outs/\StrsA Av w vf x.after/\StepsA Av w vs x.steps
def Zbu (w w':World) (x:RuleS) (e:Ending):Prop:=
 ∃vi vo vf vs,e = .returned (.agg #[.string x.name,vi,vo,vf,vs])/\StrsA (λb=>b<w.heap.size) w' vi x.ins/\StrsA (λb=>b<w.heap.size) w' vo x.outs/\StrsA (λb=>b<w.heap.size) w' vf x.after/\StepsA (λb=>b<w.heap.size) w' vs x.steps
def Zwz (ws:List Zcj) (s:PS):Nat:=2*(ws.length-s.1)+(if s.2 then 0 else 1)
def Znh (w:World) (p:Nat):Nat:=match w.cell? ⟨p,2,none⟩with
 | some (.bool true)=>0
 | _=>1
theorem PSt.left {w:World} {p:Nat} {v:Value} {ws:List Zcj} {s:PS} (h:PSt w p v ws s):2*(ws.length-Zbfk w p)+Znh w p=Zwz ws s:=by
 rw[h.pos];unfold Znh Zwz;rw[h.cells.2.2.1]
 cases s.2<;>rfl
theorem RuleA.len {Av:Nat->Prop} {w:World} {r:List Value} {x:RuleS} (h:RuleA Av w r x):r.length=5:=by obtain⟨vi,vo,vf,vs,rfl,_⟩:=h;rfl
theorem RuleA.keep {Av:Nat->Prop} {w w':World} {r:List Value} {x:RuleS} (h:RuleA Av w r x) (hf:Fr Av w w'):RuleA Av w' r x:=by
 obtain⟨vi,vo,vf,vs,rfl,h1,h2,h3,h4⟩:=h;exact⟨vi,vo,vf,vs,rfl,RowA.keep h1 hf,RowA.keep h2 hf,RowA.keep h3 hf,h4.keep hf⟩
theorem RuleA.mono {Av Av':Nat->Prop} {w:World} {r:List Value} {x:RuleS} (h:RuleA Av w r x) (hm:∀b,b<w.heap.size->Av' b->Av b):RuleA Av' w r x:=by
 obtain⟨vi,vo,vf,vs,rfl,h1,h2,h3,h4⟩:=h;exact⟨vi,vo,vf,vs,rfl,RowA.mono h1 hm,RowA.mono h2 hm,RowA.mono h3 hm,h4.mono hm⟩
def RulesA (Av:Nat->Prop) (w:World) (v:Value) (xs:List RuleS):Prop:=∃rows,RowA Av w v 5 rows/\AllA (RuleA Av w) rows xs
theorem RulesA.keep {Av:Nat->Prop} {w w':World} {v:Value} {xs:List RuleS} (h:RulesA Av w v xs) (hf:Fr Av w w'):RulesA Av w' v xs:=by
 obtain⟨rows,h1,h2⟩:=h;exact⟨rows,h1.keep hf,h2.imp λr x h=>h.keep hf⟩
theorem RulesA.mono {Av Av':Nat->Prop} {w:World} {v:Value} {xs:List RuleS} (h:RulesA Av w v xs) (hm:∀b,b<w.heap.size->Av' b->Av b):RulesA Av' w v xs:=by
 obtain⟨rows,h1,h2⟩:=h;exact⟨rows,h1.mono hm,h2.imp λr x h=>h.mono hm⟩
theorem Zqx {W w5:World} {B:Nat} {vv v':Value} {rows:List (List Value)} {xs:List RuleS} (h:AllA (λr x=>RuleA (AvOf B vv) W r x) rows xs) (hg:W.grownBy w5 vv.ownBlock) (hv:∀b,v'.ownBlock=some b->vv.ownBlock=some b∨W.heap.size<=b):
  AllA (RuleA (AvOf B v') w5) rows xs:=by
 refine h.imp λr x hx=>?_
 have h1:RuleA (λb=>AvOf B vv b∨W.heap.size<=b) W r x:=hx.mono λb hb e=>by
  rcases e with e|e
  ·exact e
  ·omega
 refine(h1.keep (Zpx hg λk e=> .inl (.inr e))).mono λb _ e=>?_
 rcases e with e|e
 ·exact .inl (.inl e)
 ·rcases hv b e with e|e
  ·exact .inl (.inr e)
  ·exact .inr e
theorem Zsw:(prog.info? 50).map (λi=>(i.zero,i.size,i.bytes))=some (some (.agg #[.string ByteArray.empty,.slice none 0 0,.slice none 0 0,.slice none 0 0,.slice none 0 0]),5,112):=by kernel_rfl
def srtL (xs:List (List UInt8)):List (List UInt8):=xs.mergeSort λx y=>decide (x<=y)
def srtB (xs:List ByteArray):List ByteArray:=(srtL (xs.map (·.data.toList))).map λl=>⟨l.toArray⟩
theorem Zbnc (xs:List (List UInt8)):(srtL xs).length=xs.length:=List.length_mergeSort xs
theorem Zbnb (xs:List ByteArray):(srtB xs).length=xs.length:=by unfold srtB;rw[List.length_map,Zbnc,List.length_map]
def EndsN (l:List UInt8):Prop:=l = []∨∃r,l=r ++ [10]
theorem EndsN.drop {l:List UInt8} (h:EndsN l) (n:Nat):EndsN (l.drop n):=by
 rcases h with rfl|⟨r,rfl⟩
 ·exact .inl (by simp)
 ·by_cases hn:n<=r.length
  ·exact .inr ⟨r.drop n,by rw[List.drop_append_of_le_length hn]⟩
  ·exact .inl (List.drop_eq_nil_of_le (by simp;omega))
theorem below_drewN {B:Nat} {w w':World} (h:Below B w w') (n:Nat):Below B w (w'.drewN n):=⟨h.os,h.tape,h.output,h.size,h.block⟩
end Go.Proofs.YtokogjhcidkckaaGreatDoor
