import Derived.Test.YtmgcaldphpnfgaaGreatDoorMbm
import Derived.Lib.ItoaLen
import Derived.Test.YtmgcaldphpnfgaaGreatDoorMbi
namespace Go.Proofs.YtmgcaldphpnfgaaGreatDoor
open Go.Lib (hid)
open Go.RowKit
def Zchl (fs:List F2) (w:World) (e:Ending) (w':World):Prop:=∃b r q,e = .returned (.tuple #[.pointer (some ⟨b,0,none⟩),.pointer (some ⟨q,0,none⟩)])/\IsTree w' w.heap.size b r (newF (fs.take 30))/\Below w.heap.size w w'
set_option maxHeartbeats 8000000 in
set_option maxRecDepth 100000 in
theorem Zcip (v:Value) (fs:List F2) (w:World) (hF:IsFiles w v fs) (hsz:∀f∈fs,f.1.size<=maxLen/\f.2.size<=maxLen) (hG:Glob w):
  Calls Tryz.prog 27 #[v] w (Zchl fs w):=by
 have mixed:Tryz.prog.follows .mixedOrders=true:=by kernel_rfl
 obtain⟨ad,c,rfl,h1,h1m,h2⟩:=hF;unfold Zchl;have hgs:IsFiles w (.slice ad (min 30 fs.length) c) (fs.take 30):=by
  refine⟨ad,c,by rw[List.length_take],by rw[List.length_take];omega,h1m,λhne=>?_⟩;obtain⟨b0,o0,ha0,hb0,hc0⟩:=h2 (by rintro rfl;simp at hne);refine⟨b0,o0,ha0,hb0,λj x hx=>hc0 j x ?_⟩;rw[List.getElem?_take]at hx;split at hx
  ·exact hx
  ·cases hx
 have hgsz:∀f∈fs.take 30,f.1.size<=maxLen/\f.2.size<=maxLen:=λf hf=>hsz f (List.mem_of_mem_take hf)
 obtain⟨gs,hgse⟩:∃gs,fs.take 30=gs:=⟨_,rfl⟩;have hgl:gs.length=min 30 fs.length:=by rw[<-hgse,List.length_take]
 rw[hgse]at hgs hgsz⊢;rw[<-hgl]at hgs;have hcut:(min (fs.length:Int) 30).toNat=gs.length:=by omega
 have HG:=hid hG;have HGS:=hid hgs;have HSZ:=hid hgsz;have HGL:=hid hgl;have hc0:(0:Int)<=min (fs.length:Int) 30:=by omega
 have hc1:min (fs.length:Int) 30<=(c:Int):=by omega
 unfold maxLen at h1m;have hu0:IsRT (w.alloc (.cells #[.slice none 0 0] 96)) w.heap.size w.heap.size none (newF (gs.take 0)):=
  ⟨Nat.le_refl _,List.Pairwise.nil,by simp[newF],.slice none 0 0,heap_alloc_new w _,World.ownsRow_nil _ _ _ _,rfl⟩
 have HU0:=hid hu0;clear hG h2 hsz hgs hgsz hgse hgl hu0
 go_enter Tryz.func27,Tryz.ntmps27
 go_upto_region 3 with fail
 try rw[hcut]
 have hgm:gs.length<=30:=by omega
 clear hcut hc0 hc1 h1;go_wp2
 go_loopw [15] (λi wr=>∃(k:Nat) (rw':Option Nat),k<=gs.length/\i = .int .i64 k/\IsRT wr w.heap.size w.heap.size rw' (newF (gs.take k))/\Below w.heap.size w wr)
  (λi _=>gs.length-(intOf i).toNat)
 case atStart=>exact⟨0,none,Nat.zero_le _,rfl,HU0.out,(Below.refl _ _).alloc (Nat.le_refl _) _⟩
 case round=>
  obtain⟨k,rw',hk,rfl,hu,hnx⟩:=hrel;have HU:=hid hu;have HNX:=hid hnx;clear hu hnx HU0
  by_cases hlt:k<gs.length
  ·obtain⟨f,hf⟩:∃f,gs[k]? =some f:=⟨gs[k],List.getElem?_eq_getElem hlt⟩
   obtain⟨a',c',hv,_,_,hcs⟩:=HGS.out
   cases hv
   obtain⟨gb,go,rfl,hgb,hgc⟩:=hcs (by rintro rfl;simp at hlt);obtain⟨hf0,hf1⟩:=hgc k f hf;have hc0:∀w',Below w.heap.size w w'->w'.cell? ⟨gb,go+k*2,none⟩=some (.string f.1):=λw' hw=>(hw.cell (p:=⟨gb,go+k*2,none⟩) hgb).trans hf0
   have hc1:∀w',Below w.heap.size w w'->w'.cell? ⟨gb,go+k*2+1,none⟩=some (.string f.2):=λw' hw=>(hw.cell (p:=⟨gb,go+k*2+1,none⟩) hgb).trans hf1
   have HN:=hid (Zbav gs k f hf);have hfz:=HSZ.out f (List.mem_of_getElem? hf);have hk0:(0:Int)<=(k:Int):=by omega
   have hk1:(k:Int)<(gs.length:Int):=by omega
   have HS0:=hid (show Below w.heap.size w wr.drew from HNX.out.drew);have HUD:=hid (HU.out.below (Below.refl wr.heap.size wr).drew);have cW:=Zciu w.heap.size w.heap.size rw' (newF (gs.take k)) f.1 f.2 wr.drew HUD.out hfz.1 hfz.2;have hul:=HU.out.rlt;have HUL:=hid hul;clear hcs hgc hf hf0 hf1 hfz hul
   go_wp2_with fail
   go_region_held3 (λw'=>Below w.heap.size w w') (first|assumption|exact HS0.out)
    (first
     | (go_at_call 65;refine cW.mono ?_;rintro e w3 ⟨r3,rfl,hu3,hf3,hr3⟩;have hSn:=HS0.out.trans (hf3.below HS0.out.size (Nat.le_refl _) (λg hg=>(HUL.out.1 g hg).1));clear hf3 hr3)
     | fail)
   have HU3:=hid hu3;have HX3:=hid hSn;clear hu3 hSn hc0 hc1 cW;go_wp2;go_roundw
   case rel=>exact⟨k+1,r3,by omega,by go_num,by rw[HN.out];exact HU3.out,HX3.out⟩
   case measure=>simp[intOf];omega
  ·have hk1:¬(k:Int)<(gs.length:Int):=by omega
   have CN:=hid (Zbaw (.slice ad gs.length c) gs wr (HGS.out.below HNX.out) (HG.out.below HNX.out) HSZ.out);clear hlt
   go_wp2_with fail
   refine CN.out.mono ?_;rintro e w2 ⟨bt,rt,rfl,hT2,hb2⟩;have HT2:=hid hT2;have HB2:=hid hb2;clear hT2 hb2;go_wp2
   go_ret2
   exact⟨bt,rt,w.heap.size,rfl,HT2.out.low HNX.out.size,HNX.out.trans (HB2.out.mono HNX.out.size)⟩
open Go.Lib
def FOk (fs:List F2):Prop:=∀f∈fs,f.1.size<=40/\f.2.size<=2000
theorem Zchy {x:ByteArray} (h:Zbcf x.data.toList=true):x.size<=40:=by
 unfold Zbcf at h;simp only[Bool.and_eq_true,decide_eq_true_eq]at h;rw[Lib.size_eq];exact h.1.1
theorem FOk.write {fs:List F2} (h:FOk fs) (x b:ByteArray):FOk (Zbum fs x b).2:=by
 unfold Zbum;split
 ·exact h
 ·rename_i h1
  have hx:=Zchy (x:=x) (by simpa using h1);split
  ·exact h
  ·split
   ·intro f hf
    rcases List.mem_or_eq_of_mem_set hf with hf|rfl
    ·exact h f hf
    ·exact⟨hx,by show b.size<=2000;omega⟩
   ·split
    ·exact h
    ·intro f hf
     rcases List.mem_append.1 hf with hf|hf
     ·exact h f (List.mem_of_mem_take hf)
     ·rcases List.mem_cons.1 hf with rfl|hf
      ·exact⟨hx,by show b.size<=2000;omega⟩
      ·exact h f (List.mem_of_mem_drop hf)
theorem FOk.fold:∀(xs t:List F2) (_:FOk t),FOk (xs.foldl (λu f=>(Zbum u f.1 f.2).2) t)
 | [],_,h=>h
 | x::xs,_,h=>FOk.fold xs _ (h.write x.1 x.2)
theorem FOk.new (xs:List F2):FOk (newF xs):=FOk.fold xs [] (λf hf=>by simp at hf)
theorem Zcif {fs:List F2} (hs:Sorted fs) {p:Nat} {x b:ByteArray} (h:fs[p]? =some (x,b)):Zbgv fs x=(b,true):=by
 have hh:hasF fs x=true:=List.any_eq_true.2 ⟨(x,b),List.mem_of_getElem? h,by simp⟩;obtain⟨f,hf,hfx⟩:=Zrl hs hh;unfold Zbgv;rw[if_pos hh,hf];obtain⟨hp,hpe⟩:=List.getElem?_eq_some_iff.1 h;obtain⟨hq,hqe⟩:=List.getElem?_eq_some_iff.1 hf;have hpw:=List.pairwise_iff_getElem.1 hs
 rcases Nat.lt_trichotomy p (Zbff fs x)with hlt|heq|hgt
 ·have:=hpw p _ hp hq hlt
  rw[hpe,hqe]at this;unfold cmpF at this;rw[hfx,Zjx]at this;exact absurd this (by decide)
 ·have e:=h.symm.trans (heq▸hf)
  injection e with e
  rw[<-e]
 ·have:=hpw _ p hq hp hgt
  rw[hpe,hqe]at this;unfold cmpF at this;rw[hfx,Zjx]at this;exact absurd this (by decide)
end Go.Proofs.YtmgcaldphpnfgaaGreatDoor
namespace Go.Proofs.YtmgcaldphpnfgaaGreatDoor
open Go.Lib (hid)
open Go.Lib
theorem Zcig {fs:List F2} {x:ByteArray} (h:∀b,(x,b)∉fs):Zbgv fs x=(ByteArray.empty,false):=by
 have hh:hasF fs x=false:=by
  unfold hasF;rw[List.any_eq_false];intro f hf e;have e':f.1=x:=ByteArray.ext (Array.toList_inj.1 (by simpa using e));exact h f.2 (by rw[<-e'];exact hf)
 unfold Zbgv;rw[if_neg (by rw[hh];decide)]
theorem Zcii {fs:List F2} (hs:Sorted fs) {x b:ByteArray} (h:(x,b)∈fs):Zbgv fs x=(b,true):=by
 obtain⟨p,hp⟩:=List.getElem?_of_mem h;exact Zcif hs hp
theorem Zcie {fs gs:List F2} (hs:Sorted fs) (hg:Sorted gs) {x:ByteArray} (h:∀b,(x,b)∈fs↔(x,b)∈gs):Zbgv fs x=Zbgv gs x:=by
 by_cases hb:∃b,(x,b)∈fs
 ·obtain⟨b,hb⟩:=hb
  rw[Zcii hs hb,Zcii hg ((h b).1 hb)]
 ·rw[Zcig (λb hb'=>hb ⟨b,hb'⟩),Zcig (λb hb'=>hb ⟨b,(h b).2 hb'⟩)]
theorem Zcib {fs:List F2} {p:Nat} {f:F2} (h:fs[p]? =some f):fs=fs.take p++f::fs.drop (p+1):=by
 obtain⟨hp,rfl⟩:=List.getElem?_eq_some_iff.1 h;rw[<-List.drop_eq_getElem_cons hp,List.take_append_drop]
theorem Zciv {fs:List F2} (hs:Sorted fs) (y c:ByteArray) (hs2:Sorted (Zbum fs y c).2) {x:ByteArray} (hne:y≠x):Zbgv (Zbum fs y c).2 x=Zbgv fs x:=by
 refine Zcie hs2 hs λb=>?_
 have hn:∀d:ByteArray,(x,b)≠(y,d):=λd e=>hne (Prod.mk.inj e).1.symm
 unfold Zbum;split
 ·exact Iff.rfl
 ·split
  ·exact Iff.rfl
  ·split
   ·rename_i hh
    obtain⟨f,hf,hfy⟩:=Zrl hs hh;have hlt:=(List.getElem?_eq_some_iff.1 hf).1;have hf2:(x,b)≠f:=λe=>hne (by rw[<-hfy,<-e])
    conv=>rhs;rw[Zcib hf]
    show(x,b)∈fs.set (Zbff fs y) (y,c)↔_;rw[List.set_eq_take_append_cons_drop,if_pos hlt];simp[hn c,hf2]
   ·split
    ·exact Iff.rfl
    ·show(x,b)∈fs.take (Zbff fs y)++(y,c)::fs.drop (Zbff fs y)↔_
     have e:(x,b)∈fs↔(x,b)∈fs.take (Zbff fs y)∨(x,b)∈fs.drop (Zbff fs y):=by rw[<-List.mem_append,List.take_append_drop]
     rw[e,List.mem_append,List.mem_cons];simp[hn c]
end Go.Proofs.YtmgcaldphpnfgaaGreatDoor
namespace Go.Proofs.YtmgcaldphpnfgaaGreatDoor
open Go.Lib (hid)
theorem Zcis {rs:List RuleS} {f g:ByteArray->ByteArray×Bool} (h:∀x,mkrN rs rs.length x=none->f x=g x):∀(d:Nat) (x:ByteArray),valF rs f d x=valF rs g d x
 | 0,_=>rfl
 | d+1,x=>by
  rw[valF,valF]
  cases hm:mkrN rs rs.length x with
  | none=>simp only;rw[h x hm]
  | some k=>
   simp only
   cases rs[k]? with
   | none=>rfl
   | some r=>
    simp only;rw[List.map_congr_left (λa _=>Zcis h d a)]
theorem Zcho {rs:List RuleS} {f g:ByteArray->ByteArray×Bool} (h:∀x,mkrN rs rs.length x=none->f x=g x) (x:ByteArray):Zob rs f x=Zob rs g x:=Zcis h _ x
theorem Zbwe {n:Nat} {p:Nat->Bool} (h:∀k,k<n->p k=false):(List.range n).find? p=none:=by
 rw[List.find?_eq_none];intro k hk;rw[h k (by simpa using hk)];decide
theorem Zbvb:∀ {ks L:List ByteArray},ks.Nodup->(∀k∈ks,k∉L)->(addS L ks).length=L.length+ks.length
 | [],L,_,_=>by simp[addS]
 | k::ks,L,hn,hd=>by
  have e:addS L (k::ks)=addS (insS L k) ks:=rfl;have hi:insS L k=L ++ [k]:=by unfold insS;rw[if_neg (λh=>hd k (by simp) (Zsj.1 h))]
  obtain⟨h1,h2⟩:=List.nodup_cons.1 hn;rw[e,Zbvb h2 (λa ha hm=>?_),hi]
  ·simp only[List.length_append,List.length_cons,List.length_nil];omega
  ·rw[hi]at hm
   rcases List.mem_append.1 hm with hm|hm
   ·exact hd a (by simp[ha]) hm
   ·obtain rfl:a=k:=by simpa using hm
    exact h1 ha
theorem Zbya {rs:List RuleS} {k:Nat} {x:RuleS} (h:x∈rs.take k):∃i,i<k/\rs[i]? =some x:=by
 obtain⟨i,hi⟩:=List.getElem?_of_mem h;rw[List.getElem?_take]at hi;split at hi
 ·exact⟨i,by assumption,hi⟩
 ·cases hi
theorem Zbxz {rs:List RuleS} (hn:∀(i j:Nat) x y,rs[i]? =some x->rs[j]? =some y->i<j->x.name≠y.name) (ho:∀r∈rs,r.outs.Nodup) (hf:∀(i j:Nat) x y,rs[i]? =some x->rs[j]? =some y->i<j->∀a∈x.outs,a∉y.outs):(List.range rs.length).find? (takP rs)=none:=by
 refine Zbwe λk hk=>?_
 have hx:=List.getElem?_eq_getElem hk;unfold takP;rw[hx];simp only[Option.map_some,Option.getD_some];unfold takB;rw[Bool.or_eq_false_iff];constructor
 ·cases e:inS (nmS (rs.take k)) rs[k].name with
  | false=>rfl
  | true=>
   obtain⟨y,hy,he⟩:=Zbbb.1 (Zsj.1 e);obtain⟨i,hik,hi⟩:=Zbya hy;exact absurd he.symm (hn i k y _ hi hx hik)
 ·rw[Zbvb (ho _ (List.getElem_mem _)) (λa ha hm=>?_)]
  ·simp
  ·obtain⟨y,hy,he⟩:=Zpk.1 hm
   obtain⟨i,hik,hi⟩:=Zbya hy;exact hf i k y _ hi hx hik a he ha
theorem Zbxq {rs:List RuleS} (h:∀r∈rs,Zbip r=0):rs.find? (λr=> !decide (Zbip r=0))=none:=by
 rw[List.find?_eq_none];intro r hr;simp[h r hr]
theorem OkTog.before {rs:List RuleS} (h:OkTog rs):Zet rs=(0,⟨#[]⟩):=by
 unfold Zet;rw[Zbxq h.each];simp only;rw[if_neg (by have:=h.few;omega),Zbxz h.names h.own h.files];simp only;have ha:(List.range rs.length).find? (astP rs)=none:=by
  refine Zbwe λk hk=>?_
  unfold astP;rw[List.getElem?_eq_getElem hk];simp only[Option.map_some,Option.getD_some,Bool.not_eq_false',List.all_eq_true];intro a hm;exact Zsj.2 (Zbbb.2 (h.after _ (List.getElem_mem _) a hm))
 rw[ha]
theorem Zbxe {rs:List RuleS}:(Zet rs).1=0↔OkTog rs:=⟨Zbcj,λh=>by rw[h.before]⟩
theorem Zbxp (r:RuleS):Zbip r=0∨Zbip r=1∨Zbip r=2∨Zbip r=4:=by
 unfold Zbip
 repeat' split
 all_goals simp
theorem Zbve (rs:List RuleS):(Zet rs).1=0∨(Zet rs).1=1∨(Zet rs).1=2∨(Zet rs).1=4:=by
 unfold Zet;split
 ·exact Zbxp _
 ·split
  ·exact .inr (.inr (.inr rfl))
  ·split
   ·exact .inr (.inr (.inl rfl))
   ·split
    ·exact .inr (.inr (.inl rfl))
    ·exact .inl rfl
def Zbvn (rs:List RuleS):Int:=(allB rs (Zot (Zbng rs))).1
theorem Zbvp {rs:List RuleS} (h:(Zet rs).1≠0):allB rs (Zot (Zbng rs))=Zet rs:=by
 unfold allB;rw[if_neg h]
theorem Zbvr {rs:List RuleS} (h:OkTog rs):Zbvn rs=if Zot (Zbng rs) = []then 0 else 3:=by
 unfold Zbvn allB;rw[if_pos (Zbxe.2 h)]
 cases Zot (Zbng rs)with
 | nil=>rfl
 | cons x l=>rfl
theorem Zbvq (rs:List RuleS):(OkTog rs/\(Zbvn rs=0∨Zbvn rs=3))∨(¬OkTog rs/\Zbvn rs≠0/\Zbvn rs≠3):=by
 by_cases h:OkTog rs
 ·refine .inl ⟨h,?_⟩
  rw[Zbvr h];split<;>simp
 ·have h0:(Zet rs).1≠0:=λe=>h (Zbxe.1 e)
  refine .inr ⟨h,?_⟩;unfold Zbvn;rw[Zbvp h0];have:=Zbve rs;omega
theorem Zbxb {s:Nat} {way:List Nat}:∀ {xs:List Nat} {q:List (List Nat)} {r:List Bool},Zbax s way xs q r=none->s∈xs
 | [],_,_,h=>by simp[Zbax]at h
 | x::xs,q,r,h=>by
  unfold Zbax at h;split at h
  ·rename_i e;exact e▸List.mem_cons_self
  ·split at h<;>exact List.mem_cons_of_mem _ (Zbxb h)
theorem Zbxc {s:Nat} {way:List Nat} {P:Nat->Prop}:∀ {xs:List Nat} {q:List (List Nat)} {r:List Bool} {q':List (List Nat)} {r':List Bool},Zbax s way xs q r=some (q',r')->(∀x∈xs,P x)->(∀w∈q,P (w.getLastD 0))->∀w∈q',P (w.getLastD 0)
 | [],q,r,q',r',h,_,hq=>by
  simp only[Zbax,Option.some.injEq,Prod.mk.injEq]at h;rw[<-h.1];exact hq
 | x::xs,q,r,q',r',h,hx,hq=>by
  unfold Zbax at h;split at h
  ·cases h
  ·split at h
   ·exact Zbxc h (λy hy=>hx y (by simp[hy])) hq
   ·refine Zbxc h (λy hy=>hx y (by simp[hy])) (λw hw=>?_)
    rcases List.mem_append.1 hw with hw|hw
    ·exact hq w hw
    ·obtain rfl:w=way ++ [x]:=by simpa using hw
     have:(way ++ [x]).getLastD 0=x:=by simp
     rw[this];exact hx x (by simp)
theorem Zbvf {s:Nat} {nd:Nat->List Nat}:∀(n:Nat) (q:List (List Nat)) (r:List Bool),(∀w∈q,w.getLastD 0=s∨Rch nd s (w.getLastD 0))->bfsF s nd n q r≠[]->Rch nd s s
 | 0,_,_,_,h=>absurd (by simp[bfsF]) h
 | _+1,[],_,_,h=>absurd (by simp[bfsF]) h
 | n+1,w::q,r,hq,h=>by
  rw[Zfp]at h;have hw:=hq w (by simp);have hn:∀x∈nd (w.getLastD 0),x=s∨Rch nd s x:=by
   intro x hx
   rcases hw with e|e
   ·rw[e]at hx;exact .inr (.one hx)
   ·exact .inr (.more e hx)
  cases e:Zbax s w (nd (w.getLastD 0)) q r with
  | none=>
   have hs:=Zbxb e
   rcases hw with e2|e2
   ·rw[e2]at hs;exact .one hs
   ·exact .more e2 hs
  | some p=>
   rw[e]at h;obtain⟨q',r'⟩:=p;exact Zbvf n q' r' (Zbxc (P:=λx=>x=s∨Rch nd s x) e hn (λw hw=>hq w (by simp[hw]))) h
theorem Zbxn {s N:Nat} {nd:Nat->List Nat} (h:Zbhz s nd N≠[]):Rch nd s s:=by
 refine Zbvf _ _ _ (λw hw=>?_) h;obtain rfl:w = [s]:=by simpa using hw
 exact .inl rfl
theorem Zbwc {nd:Nat->List Nat} {N:Nat}:∀ {l:List Nat},(∀s∈l,Zbhz s nd N = [])->fcL nd N l = []
 | [],_=>rfl
 | a::l,h=>by
  unfold fcL;rw[if_pos (h a (by simp))];exact Zbwc λs hs=>h s (by simp[hs])
theorem Zbwf {rs:List RuleS} (h:∀s,s<rs.length->¬Rch (Zban rs) s s):Zot rs = []:=by
 unfold Zot;rw[Zbwc (λs hs=>?_)]
 ·rfl
 ·exact Classical.byContradiction λhn=>h s (by simpa using hs) (Zbxn hn)
theorem Zbvs {rs:List RuleS}:Zbvn rs=0↔OkTog rs/\∀s,s<rs.length->¬Rch (Zban rs) s s:=by
 constructor
 ·intro h
  rcases Zbvq rs with⟨hT,_⟩|⟨_,h0,_⟩
  ·refine⟨hT,Zcl hT ?_⟩
   rw[Zbvr hT]at h;split at h
   ·assumption
   ·omega
  ·exact absurd h h0
 ·rintro⟨hT,ha⟩
  have hp:(Zbng rs).Perm rs:=List.mergeSort_perm _ _;rw[Zbvr hT,if_pos];exact Zbwf (Zcm (hT.perm hp) hp.symm ha)
theorem Zcih {fs:List F2} (h:FOk fs) (x:ByteArray):(Zbgv fs x).1.size<=100000000:=by
 unfold Zbgv;split
 ·cases hp:fs[Zbff fs x]? with
  | none=>exact Nat.zero_le _
  | some f=>exact Nat.le_trans (h f (List.mem_of_getElem? hp)).2 (by decide)
 ·exact Nat.zero_le _
theorem Zciq {rs:List RuleS} (h0:Zbvn rs=0) {k:Nat} {r:RuleS} {o:ByteArray} (hk:rs[k]? =some r) (ho:o∈r.outs) {T:List F2} (hs:Sorted T) (b:ByteArray) (hs2:Sorted (Zbum T o b).2) (x:ByteArray):Zob rs (Zbgv (Zbum T o b).2) x=Zob rs (Zbgv T) x:=
 Zcho (λz hz=>Zciv hs o b hs2 (λe=>by
  subst e;rw[Zzh (Zbvs.1 h0).1 hk ho (List.getElem?_eq_some_iff.1 hk).1 (Nat.le_refl _)]at hz
  cases hz)) x
theorem Zcia {r:RuleS} (h:Zbip r=0):0<r.outs.length:=by
 unfold Zbip at h;split at h
 ·cases h
 rename_i h1
 have h1:Zpo r=true:=by simpa using h1
 unfold Zpo at h1;simp only[Bool.and_eq_true,decide_eq_true_eq]at h1;exact h1.1.1.1.2
theorem Zchq {rs:List RuleS} (h0:Zbvn rs=0) (f:ByteArray->ByteArray×Bool) (x:ByteArray):(Zod rs f [x]).headD noV=Zob rs f x:=by
 unfold Zod;rw[if_pos (show Zkd rs=0 from h0)];rfl
open Go.RowKit Go.Shelf
theorem Zchn (a:Bool) (s:ByteArray) (w:World):(Go.binOp .eql 28 (.agg #[.bool a,.string s]) (.agg #[.bool a,.string s])).run Tryz.prog w = .ok (.bool true) w:=by
 rw[Zmw];simp
open Go.Maps
set_option maxHeartbeats 8000000
set_option maxRecDepth 100000
theorem Zchp (v tv:Value) (rs:List RuleS) (f:ByteArray->ByteArray×Bool) (x:ByteArray) (w:World) (hv:RulesI w v rs) (hs:∀r∈rs,SmallR r 1048576) (hn:rs.length<=1000) (ht:∃a,tv = .pointer a) (hR:Zbs tv w f) (hf:∀x,(f x).1.size<=100000000) (hx:x.size<=maxLen) (hG:Glob w) (hM:MayW w):
  Calls Tryz.prog 28 #[v,tv,.string x] w λe w'=>e = .returned (valE ((Zod rs f [x]).headD noV))/\Below w.heap.size w w':=by
 obtain⟨n,hnn⟩:∃n,w.heap.size=n:=⟨_,rfl⟩;obtain⟨W2,hW2⟩:∃V,(w.alloc (.cells #[.bool false,.string ⟨#[]⟩] 28)).alloc (.cells #[.string x] 9)=V:=⟨_,rfl⟩;have hb2:Below w.heap.size w W2:=by rw[<-hW2];exact((Below.refl _ _).alloc (Nat.le_refl _) _).alloc (by simp) _
 have hr2:W2.heap[n]? =some (.cells #[.bool false,.string ⟨#[]⟩] 28):=by
  rw[<-hW2,Below.heap_alloc _ _ _ (by simp[hnn]),<-hnn];exact alloc_at w _
 have hs2:W2.heap.size=n+2:=by rw[<-hW2];simp[hnn]
 have hx2:W2.heap[n+1]? =some (.cells #[.string x] 9):=by
  have:=alloc_at (w.alloc (.cells #[.bool false,.string ⟨#[]⟩] 28)) (.cells #[.string x] 9);rw[World.size_alloc,hnn]at this;rw[<-hW2];exact this
 have hst:IsStrs W2 (.slice (some ⟨n+1,0,none⟩) 1 1) [x]:=⟨_,_,rfl,Nat.le_refl _,by decide,λ_=>⟨n+1,0,rfl,by omega,λj y hy=>by
  have hj:=(List.getElem?_eq_some_iff.1 hy).1;simp only[List.length_cons,List.length_nil]at hj;obtain rfl:j=0:=by omega
  obtain rfl:x=y:=by simpa using hy
  simp only[World.cell?,hx2,Option.isSome_none,Bool.false_eq_true,if_false];rfl⟩⟩
 obtain⟨va,vc,rfl,_,_⟩:=Zbjn hv;have hx1:∀y∈[x],y.size<=maxLen:=λy hy=>by rw[show y=x by simpa using hy];exact hx
 have CF:=hid (Zoe (.slice va rs.length vc) tv _ rs f [x] W2 (hv.below hb2) hs hn ht (λy V hy hV=>hR y V hy (hb2.trans (hV.mono hb2.size))) hf hst hx1 (by simp) (hG.below hb2) (hM.below hb2));obtain⟨t,ht1⟩:∃t,Zod rs f [x] = [t]:=by
  unfold Zod;split
  ·exact⟨_,rfl⟩
  ·exact⟨_,rfl⟩
 obtain⟨ta,rfl⟩:=ht;rw[ht1]at CF⊢;obtain⟨ok,tx⟩:=t;show Calls _ _ _ _ λe w'=>e = .returned (.agg #[.bool ok,.string tx])/\_
 have HW2:=hid hW2;have HB2:=hid hb2;have HR2:=hid hr2;have HS2:=hid hs2;have HNN:=hid hnn;clear hv hs hR hf hG hM hx hx1 hW2 hb2 hr2 hs2 hx2 hst ht1 hnn
 go_enter Tryz.func28,Tryz.ntmps28
 go_wp2_with (go_at_call 35;rw[HW2.out,HNN.out];(with_reducible refine CF.out.mono ?_);rintro e w3 ⟨g,rfl,hrow,hg,hb3⟩;obtain⟨p0,p1,_,_⟩:=hrow.cells (j:=0) rfl;have hr3:=(hb3.block n (by have:=HS2.out;omega)).trans HR2.out;have HR3:=hid hr3;obtain⟨r0,r1⟩:=Zih hr3;have HB3:=hid (HB2.out.trans (hb3.mono HB2.out.size));clear hrow hg hb3 hr3;simp only[Nat.zero_mul,List.length_cons,List.length_nil,Nat.zero_add]at p0 p1⊢)
 refine bodyPost_ret (Zbhl rfl _ _ n _ _ _ _ rfl (heap_set _ _ (heap_set _ _ HR3.out)) Tryz.underlying28 rfl (by kernel_rfl)) rfl ?_;have hn':=HNN.out;exact⟨rfl,(HB3.out.setCell (p:=⟨n,0,none⟩) (by show _<=n;omega) _).setCell (p:=⟨n,1,none⟩) (by show _<=n;omega) _⟩
end Go.Proofs.YtmgcaldphpnfgaaGreatDoor
