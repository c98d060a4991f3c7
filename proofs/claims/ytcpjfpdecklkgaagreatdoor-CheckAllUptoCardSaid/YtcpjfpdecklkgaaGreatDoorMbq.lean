import Derived.Deep.CutBlock
import Derived.Deep.DeepCutAuto
import Derived.Deep.RegionLaw
import Derived.Test.YtcpjfpdecklkgaaGreatDoorMbp
namespace Go.Proofs.YtcpjfpdecklkgaaGreatDoor
open Go.Lib (hid)
open Go.Proofs.Tryz
open Go.RowKit Go.Shelf
def fwJ (M:Nat->Nat->Bool) (k q j:Nat):Nat->Nat->Bool:=λa b=>if a<q∨(a=q/\b<j)then M a b||(M a k&&M k b)else M a b
theorem Zceo (M:Nat->Nat->Bool) (k q j:Nat):fwJ M k q j q k=M q k:=by
 unfold fwJ;split
 ·cases M q k<;>simp
 ·rfl
theorem Zcen (M:Nat->Nat->Bool) (k q j:Nat):fwJ M k q j q j=M q j:=by
 unfold fwJ;rw[if_neg (by omega)]
theorem Zcem (M:Nat->Nat->Bool) (k q j:Nat):fwJ M k q j k j=M k j:=by
 unfold fwJ;split
 ·cases M k j<;>simp
 ·rfl
theorem Zcer (M:Nat->Nat->Bool) (k a b:Nat):M a b=fwJ M k 0 0 a b:=by
 unfold fwJ;rw[if_neg (by omega)]
theorem Zceq {M:Nat->Nat->Bool} {k q j:Nat} {x:Bool} (h:M q k=true) (hx:x=(M q j||M k j)) (a b:Nat):upd (fwJ M k q j) q j x a b=fwJ M k q (j+1) a b:=by
 unfold upd
 by_cases e:a=q/\b=j
 ·obtain⟨rfl,rfl⟩:=e
  rw[if_pos ⟨rfl,rfl⟩];unfold fwJ;rw[if_pos (by omega),h,hx];simp
 ·rw[if_neg e]
  unfold fwJ
  by_cases g:a<q∨(a=q/\b<j)
  ·rw[if_pos g,if_pos (by omega)]
  ·rw[if_neg g,if_neg (by omega)]
theorem Zcep {M:Nat->Nat->Bool} {k q j:Nat} (h:M q k=false) (a b:Nat):fwJ M k q j a b=fwJ M k (q+1) 0 a b:=by
 unfold fwJ
 by_cases e:a=q
 ·subst e
  rw[if_pos (show a<a+1∨(a=a+1/\b<0) by omega),h];simp
 ·by_cases g:a<q
  ·rw[if_pos (by omega),if_pos (by omega)]
  ·rw[if_neg (by omega),if_neg (by omega)]
theorem Zcel {M:Nat->Nat->Bool} {k q n:Nat} (a b:Nat) (hb:b<n):fwJ M k q n a b=fwJ M k (q+1) 0 a b:=by
 unfold fwJ
 by_cases g:a<q+1
 ·rw[if_pos (by omega),if_pos (by omega)]
 ·rw[if_neg (by omega),if_neg (by omega)]
theorem Zcek {M:Nat->Nat->Bool} {k n:Nat} (a b:Nat) (ha:a<n):fwJ (fwK M k) k n 0 a b=fwK M (k+1) a b:=by
 unfold fwJ;rw[if_pos (by omega)];rfl
set_option maxRecDepth 100000 in
theorem Zcch {w:World} {ty:TypeId} {b n c:Nat} {f:Nat->Bool} (h:RowX w b n f) (h0:0<n) (hn:n<=1000):
  ∃g2 cap w',(Builtin.append_ #[40,40] ty #[.slice none 0 0,.slice (some ⟨b,0,none⟩) n c]).run prog w = .ok (.slice (some ⟨g2,0,none⟩) n cap) w'/\RowX w' g2 n f/\n<=cap/\cap<=maxLen/\w.heap.size<=g2/\w.grownBy w' none:=by
 obtain⟨i0,hi,hz,hs,hb⟩:=Zsv Zcfa;obtain⟨cur,h1,h2,h3⟩:=h;have hlen:(cur.toList.take n).length=n*1:=by rw[List.length_take,Array.length_toList];omega
 obtain⟨v',w',hr,ho,hg,_⟩:=run_append_own (P:=prog) w w.heap.size 40 ty 4 i0 (.bool false) 1 1 underlying40 hi hz hs hb rfl (by decide) (.slice none 0 0) 0 [] (World.ownsRow_nil w _ _ 1) ⟨b,0,none⟩ n c (cur.toList.take n) hlen
  (λj u hj=>by
   rw[List.getElem?_take]at hj;split at hj
   ·rw[Addr.add_lit]
    simp only[Nat.zero_add];rw[Array.getElem?_toList]at hj;simp[World.cell?,h1,hj]
   ·cases hj)
  (λu hu=>by
   obtain⟨k,hk⟩:=List.getElem?_of_mem hu;rw[List.getElem?_take]at hk;split at hk
   ·rename_i hkn
    have hx:=h3 k hkn;rw[Array.getElem?_toList,hx]at hk;injection hk with hk
    rw[<-hk];rfl
   ·cases hk)
  (by unfold maxLen;omega) (by omega) (Nat.le_refl _)
 rw[Nat.zero_add]at ho
 rcases ho.2 with⟨_,hz⟩|⟨g2,cap,cur2,rfl,hB,hg2,hnc,hcm,hcs,htk⟩
 ·omega
 ·refine⟨g2,cap,w',hr,⟨cur2,hg2,by omega,λk hk=>?_⟩,hnc,hcm,hB,hg⟩
  have hx:=h3 k hk;have e:=congrArg (λl:List Value=>l[k]?) htk;simp only[List.nil_append]at e;rw[List.getElem?_take,if_pos (by omega),List.getElem?_take,if_pos hk,Array.getElem?_toList,Array.getElem?_toList,hx]at e;exact e
set_option maxHeartbeats 8000000 in
set_option maxRecDepth 100000 in
theorem Zccv (g n B:Nat) (M:Nat->Nat->Bool) (w:World) (h:MatX B w g n n M) (hn:n<=1000):
  Calls prog 33 #[.slice (some ⟨g,0,none⟩) n n] w λe w'=>(∃g',e = .returned (.slice (some ⟨g',0,none⟩) n n)/\MatX w.heap.size w' g' n n (fwK M n))/\Below w.heap.size w w':=by
 have HM:=hid h;have hmk1:=Zcfn n hn;have HM0:Hid (∀cur:Array Value,cur.size=n->MatX w.heap.size (w.alloc (.cells cur 40)) w.heap.size n 0 M):=by show ∀cur:Array Value,_;exact λcur hc=>MatX.begin _ (Nat.le_refl _) hc
 have HB0:Hid (∀o,Below w.heap.size w (w.alloc o)):=by show ∀o,_;exact λo=>(Below.refl _ _).alloc (Nat.le_refl _) o
 clear h
 go_enter func33,ntmps33
 go_wp2_with fail
 go_loopw [5] (λiv wr=>∃i:Nat,i<=n/\iv = .int .i64 (i:Int)/\MatX w.heap.size wr w.heap.size n i M/\Below w.heap.size w wr) (λiv _=>n-(intOf iv).toNat)
 case atStart=>exact⟨0,Nat.zero_le _,rfl,HM0.out _ (size_madeCells _ _),HB0.out _⟩
 case round=>
  obtain⟨i,hi,rfl,hmat,hbr⟩:=hrel;obtain⟨WR,hWR⟩:∃V,wr=V:=⟨_,rfl⟩;rw[hWR]at hmat hbr⊢;clear hWR;have HMAT:=hid hmat;have HBR:=hid hbr
  by_cases hlt:i<n
  ·obtain⟨b,c,hc0,_,hcm,_,hrow,_⟩:=(HM.out.below hbr).cell hlt
   obtain⟨g2,cap,W2,hrun,hrow2,hcap,hcapm,hg2,hgr⟩:=Zcch (ty:=40) (c:=c) hrow (by omega) hn;have hk2:∀k,k<WR.heap.size->W2.heap[k]? =WR.heap[k]?:=λk hk=>hgr.block k hk (by simp)
   have hm2:MatX w.heap.size W2 w.heap.size n i M:=hmat.keep λk hk=>hgr.block k hk (by simp)
   obtain⟨u0,hu0,hf0⟩:=hm2.mat.slot hlt;have HR:=hid hrun;have HMN:Hid (MatX w.heap.size (W2.setCell ⟨w.heap.size,i,none⟩ (.slice (some ⟨g2,0,none⟩) n cap)) w.heap.size n (i+1) M):=hid ((hmat.setRow hk2 hrow2 hg2 (by have:=hbr.size;omega) hcap hcapm hlt).congr (λa _ b _=>by by_cases e:a=i<;>simp[e]));have HBN:Hid (Below w.heap.size w (W2.setCell ⟨w.heap.size,i,none⟩ (.slice (some ⟨g2,0,none⟩) n cap))):=hid ((Zfj hbr hgr hbr.size).setCell (Nat.le_refl _) _);have hi1:(i:Int)<(n:Int):=by omega
   have hi0:(0:Int)<=(i:Int):=by omega
   clear hmat hbr hrow hrun hrow2 hgr hm2 hk2
   go_wp2_with (at_builtin;refine Zbud (by rfl) _ _ 40 (by rfl) (by rfl) (by rfl) HR.out ?_)
   go_roundw
   case rel=>exact⟨i+1,by omega,by go_num,HMN.out,HBN.out⟩
   case measure=>simp[intOf];omega
  ·obtain rfl:i=n:=by omega
   have hi1:¬(i:Int)<(i:Int):=by omega
   clear hmat hbr
   go_wp2_with fail
   go_loopw [6] (λkv wr=>∃k:Nat,k<=i/\kv = .int .i64 (k:Int)/\MatX w.heap.size wr w.heap.size i i (fwK M k)/\Below w.heap.size w wr) (λkv _=>i-(intOf kv).toNat)
   case atStart=>exact⟨0,Nat.zero_le _,rfl,HMAT.out,HBR.out⟩
   case round=>
    obtain⟨k,hk,rfl,hmk,hbk⟩:=hrel;have HMK:=hid hmk;have HBK:=hid hbk;clear hmk hbk;obtain⟨C,hC⟩:∃C,fwK M k=C:=⟨_,rfl⟩;have HC:=hid hC
    by_cases hkl:k<i
    ·rw[hC]at HMK
     clear hC;have hk1:(k:Int)<(i:Int):=by omega
     have hk0:(0:Int)<=(k:Int):=by omega
     go_wp2_with fail
     go_loopw [7] (λqv wr=>∃q:Nat,q<=i/\qv = .int .i64 (q:Int)/\MatX w.heap.size wr w.heap.size i i (fwJ C k q 0)/\Below w.heap.size w wr) (λqv _=>i-(intOf qv).toNat)
     case atStart=>exact⟨0,Nat.zero_le _,rfl,HMK.out.congr (λa _ b _=>Zcer C k a b),HBK.out⟩
     case round=>
      obtain⟨q,hq,rfl,hmq,hbq⟩:=hrel;have HMQ:=hid hmq;have HBQ:=hid hbq;clear hmq hbq
      by_cases hql:q<i
      ·have hq1:(q:Int)<(i:Int):=by omega
       have hq0:(0:Int)<=(q:Int):=by omega
       go_wp2_with fail
       go_loopw [8] (λjv wr=>∃j:Nat,j<=i/\jv = .int .i64 (j:Int)/\MatX w.heap.size wr w.heap.size i i (fwJ C k q j)/\Below w.heap.size w wr) (λjv _=>i-(intOf jv).toNat)
       case atStart=>exact⟨0,Nat.zero_le _,rfl,HMQ.out,HBQ.out⟩
       case round=>
        obtain⟨j,hj,rfl,hmj,hbj⟩:=hrel;obtain⟨WJ,hWJ⟩:∃V,wr=V:=⟨_,rfl⟩;rw[hWJ]at hmj hbj⊢;clear hWJ;have HMJ:=hid hmj;have HBJ:=hid hbj
        by_cases hjl:j<i
        ·have hj1:(j:Int)<(i:Int):=by omega
         have hj0:(0:Int)<=(j:Int):=by omega
         have hd:decide ((j:Int)<(i:Int))=true:=decide_eq_true hj1;have hd':decide (j<i)=true:=decide_eq_true hjl;obtain⟨b1,c1,e1,l1,m1,B1,r1,s1⟩:=hmj.cell hql;obtain⟨b2,c2,e2,l2,m2,B2,r2,_⟩:=hmj.cell hkl;obtain⟨z1,f1⟩:=r1.cell hkl;obtain⟨z2,f2⟩:=r1.cell hjl;obtain⟨z3,f3⟩:=r2.cell hjl;rw[Zceo]at z1;rw[Zcen]at z2;rw[Zcem]at z3;obtain⟨x1,hx1⟩:∃x,C q k=x:=⟨_,rfl⟩;obtain⟨x2,hx2⟩:∃x,C q j=x:=⟨_,rfl⟩;obtain⟨x3,hx3⟩:∃x,C k j=x:=⟨_,rfl⟩;rw[hx1]at z1;rw[hx2]at z2;rw[hx3]at z3;have HX1:=hid hx1;have HX2:=hid hx2;have HX3:=hid hx3;have HS1:=hid s1;have HB1:=hid B1;unfold maxLen at m1 m2;clear hmj hbj r1 r2 s1 B1 B2 hx1 hx2 hx3
         cases x1
         ·go_wp2
          go_roundw
          case rel=>exact⟨q+1,by omega,by go_num,HMJ.out.congr (λa _ b _=>Zcep HX1.out a b),HBJ.out⟩
          case measure=>simp[intOf];omega
         ·have HST:Hid (∀x,x=(x2||x3)->MatX w.heap.size (WJ.setCell ⟨b1,j,none⟩ (.bool x)).drew w.heap.size i i (fwJ C k q (j+1))/\Below w.heap.size w (WJ.setCell ⟨b1,j,none⟩ (.bool x)).drew):=by
           show ∀x,_;intro x hx;exact⟨((HS1.out j x).congr (λa _ b _=>Zceq HX1.out (by rw[HX2.out,HX3.out];exact hx) a b)).below (Below.refl _ _).drew,(HBJ.out.setCell HB1.out _).drew⟩
          cases x2
          all_goals go_wp2_with fail
          all_goals go_region
          all_goals go_wp2
          all_goals go_roundw
          case rel=>exact⟨j+1,by omega,by go_num,(HST.out _ (by simp)).1,(HST.out _ (by simp)).2⟩
          case measure=>simp[intOf];omega
          case rel=>exact⟨j+1,by omega,by go_num,(HST.out _ (by simp)).1,(HST.out _ (by simp)).2⟩
          case measure=>simp[intOf];omega
        ·have hj1:¬(j:Int)<(i:Int):=by omega
         have hd:decide ((j:Int)<(i:Int))=false:=decide_eq_false hj1;have hd':decide (j<i)=false:=decide_eq_false hjl;clear hmj hbj;go_wp2;go_roundw
         case rel=>exact⟨q+1,by omega,by go_num,(HMJ.out.congr (λa _ b hb=>by rw[show j=i by omega];exact Zcel a b hb)),HBJ.out⟩
         case measure=>simp[intOf];omega
      ·have hq1:¬(q:Int)<(i:Int):=by omega
       go_wp2;go_roundw
       case rel=>exact⟨k+1,by omega,by go_num,(HMQ.out.congr (λa ha b _=>by rw[show q=i by omega,<-HC.out];exact Zcek a b ha)),HBQ.out⟩
       case measure=>simp[intOf];omega
    ·have hk1:¬(k:Int)<(i:Int):=by omega
     go_wp2;go_ret;exact⟨⟨_,rfl,by have:=HMK.out;rw[show k=i by omega]at this;exact this⟩,HBK.out⟩
end Go.Proofs.YtcpjfpdecklkgaaGreatDoor
