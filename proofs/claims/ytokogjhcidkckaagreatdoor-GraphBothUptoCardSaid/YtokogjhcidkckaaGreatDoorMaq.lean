import Derived.Test.YtokogjhcidkckaaGreatDoorMap
import Derived.Maps.AppendAt
namespace Go.Proofs.YtokogjhcidkckaaGreatDoor
open Go.Lib (hid)
open Go.Proofs.Tryz
open Go.RowKit Go.Shelf Go.Maps
set_option maxHeartbeats 4000000
set_option maxRecDepth 100000
def Zae (w:World) (b:Nat) (L ks:List ByteArray) (e:Ending) (w':World):Prop:=e = .returned (.bool (decide ((addS L ks).length=L.length+ks.length)))/\SetIs w' b (addS L ks)/\w.grownBy w' (some b)/\w'.heap.size=w.heap.size
theorem Zha (b:Nat) (L:List ByteArray) (nv:Value) (ks:List ByteArray) (w:World) (hS:SetIs w b L) (hk:IsStrs w nv ks) (hkb:∀g o c,ks≠[]->nv = .slice (some ⟨g,o,none⟩) ks.length c->g≠b) (hn:L.length+ks.length<=4000000000000000) (hs:∀k∈ks,k.size<=maxLen):
  Calls prog 170 #[.map (some b),nv] w (Zae w b L ks):=by
 obtain⟨ka,kc,rfl,hkl,hkm,hkc⟩:=hk;have HK:Hid (∀(k:Nat) x,ks[k]? =some x->∃g o,ka=some ⟨g,o,none⟩/\∀w',w.grownBy w' (some b)->w'.cell? ⟨g,o+k,none⟩=some (.string x)):=by
  show ∀(k:Nat) x,_;intro k x hx;have hne:ks≠[]:=by rintro rfl;simp at hx
  obtain⟨g,o,rfl,hg,hc⟩:=hkc hne;exact⟨g,o,rfl,λw' hw=>(World.cell?_of_block (hw.block g hg (λe=>hkb g o kc hne rfl (by cases e;rfl)))).trans (hc k x hx)⟩
 have HS:=hid hs;have HS0:=hid hS;have hlen:=hS.len underlying216 3;unfold maxLen at hkm;clear hkc hs hS hkb
 go_enter func170,ntmps170
 go_wp2
 go_loopw [7,12,13,14,15,16,17,18,19] (λ_ iv _ _ _ _ _ _ _ wr=>∃k:Nat,k<=ks.length/\iv = .int .i64 (k:Int)/\SetIs wr b (addS L (ks.take k))/\w.grownBy wr (some b)/\wr.heap.size=w.heap.size) (λ_ iv _ _ _ _ _ _ _ _=>ks.length-(intOf iv).toNat)
 case atStart=>exact⟨0,Nat.zero_le _,rfl,by simpa[addS]using HS0.out,Zrh _ _,rfl⟩
 case round=>
  obtain⟨k,hk,rfl,hset,hgr,hsz⟩:=hrel;have HZ:=hid hsz;have HG:=hid hgr
  by_cases hlt:k<ks.length
  ·obtain⟨x,hx⟩:∃x,ks[k]? =some x:=⟨ks[k],List.getElem?_eq_getElem hlt⟩
   obtain⟨g,o,q1,hc1⟩:=HK.out k x hx;subst q1;have cx:=hc1 _ HG.out;have hi1:(k:Int)<(ks.length:Int):=by omega
   have hi0:(0:Int)<=(k:Int):=by omega
   have hl:=Zco (ks.take k) L;rw[List.length_take]at hl;obtain⟨w3,hput,hset3,hturn⟩:=hset.put underlying216 (by omega) x (HS.out x (List.mem_of_getElem? hx));rw[<-Zcq L hx]at hset3;have HS3:=hid hset3;have HG3:=hid (HG.out.trans hturn.grown);have HZ3:Hid (w3.heap.size=w.heap.size):=hid (by obtain⟨_,_,_,_,_,e⟩:=hturn;rw[e];show(wr.heap.setIfInBounds b _).size=_;rw[Array.size_setIfInBounds];exact HZ.out);clear hset hgr hc1 hx hl hset3 hturn hsz hlen;go_wp2;go_roundw
   case rel=>exact⟨k+1,by omega,by go_num,HS3.out,HG3.out,HZ3.out⟩
   case measure=>simp[intOf];omega
  ·have hi1:¬(k:Int)<(ks.length:Int):=by omega
   have hset':SetIs wr b (addS L ks):=by rw[List.take_of_length_le (by omega)]at hset;exact hset
   have hl:=Zco ks L;have hlen2:=hset'.len underlying216 3;have HF:=hid hset';obtain⟨m,hm⟩:∃m,(addS L ks).length=m:=⟨_,rfl⟩;rw[hm]at hlen2 hl;have HM:=hid hm;have hd2:((m:Int)==(L.length:Int)+(ks.length:Int))=decide (m=L.length+ks.length):=by rw[Bool.eq_iff_iff,beq_iff_eq,decide_eq_true_eq];omega
   have HD2:=hid hd2;clear hset hgr hsz hset' hm hlen hd2;go_wp2;go_ret;exact⟨by rw[HM.out];exact congrArg (λb=>Ending.returned (.bool b)) HD2.out,HF.out,HG.out,HZ.out⟩
theorem Zbuw (w:World):(zeroValue 111).run prog w = .ok (.agg #[]) w:=zeroValue111 w
theorem Zhg (b bn:Nat) (L:List ByteArray) (k:ByteArray) (w:World) (hB:Boxed w bn 216 (.map (some b))) (hS:SetIs w b L) (hs:k.size<=maxLen):
  Calls prog 223 #[.string k,.pointer (some ⟨bn,0,none⟩)] w λe w'=>e = .returned (.bool (!inS L k))/\Below w.heap.size w w':=by
 have hlook:=λW (h:Below w.heap.size w W)=>(hS.below h hS.lt).look underlying216 (Zbuw W) k hs
 have hbc:=λW (h:Below w.heap.size w W)=>Boxed.cell (show Boxed W bn 216 (.map (some b))from(h.block bn hB.lt).trans hB)
 obtain⟨r,hr⟩:∃r,inS L k=r:=⟨_,rfl⟩;rw[hr]at hlook⊢;have mixed:prog.follows .mixedOrders=true:=by kernel_rfl
 have l0:=hlook w (Below.refl _ _);have c0:=hbc w (Below.refl _ _);clear hr
 go_enter func223,ntmps223
 go_wp2;go_ret;exact⟨rfl,by first|exact(Below.refl _ _).alloc (Nat.le_refl _) _|exact below_drewN ((Below.refl _ _).alloc (Nat.le_refl _) _) 1⟩
theorem Zdm (xs:List ByteArray) (q:ByteArray->Bool):(List.range xs.length).any (λk=>q (xs.getD k ⟨#[]⟩))=xs.any q:=by
 rw[Bool.eq_iff_iff,List.any_eq_true,List.any_eq_true];constructor
 ·rintro⟨k,hk,h⟩
  have hk:=List.mem_range.1 hk;refine⟨xs[k],List.getElem_mem hk,?_⟩
  rwa [List.getD_eq_getElem?_getD,List.getElem?_eq_getElem hk]at h
 ·rintro⟨x,hx,h⟩
  obtain⟨k,hk,e⟩:=List.getElem_of_mem hx;refine⟨k,List.mem_range.2 hk,?_⟩
  rwa [List.getD_eq_getElem?_getD,List.getElem?_eq_getElem hk,e]
theorem getD_at {xs:List ByteArray} {k:Nat} (h:k<xs.length):xs[k]? =some (xs.getD k ⟨#[]⟩):=by
 rw[List.getD_eq_getElem?_getD,List.getElem?_eq_getElem h];rfl
theorem Zqe {xs:List ByteArray} {k:Nat} (h:k<xs.length):xs.getD k ⟨#[]⟩∈xs:=List.mem_of_getElem? (getD_at h)
theorem Zki (fid:Nat) (caps:Array Value) (eg:∀args w,(callFunc fid args).run prog w = .ok (.enter fid args) w) (v:Value) (xs:List ByteArray) (q:ByteArray->Bool) (B:Nat) (w:World) (hB:B<=w.heap.size) (hv:∀W,Below B w W->IsStrs W v xs)
  (hf:∀x∈xs,∀W,Below B w W->Calls prog fid (#[.string x]++caps) W λe W'=>e = .returned (.bool (q x))/\Below W.heap.size W W'):
  Calls prog 132 #[v,.func (.func fid) #[] caps] w λe w'=>e = .returned (.bool (xs.any q))/\Below B w w':=by
 obtain⟨a,c,rfl,h1,h2,h3⟩:=hv w (Below.refl _ _);refine(Zkk fid caps eg a xs.length c (Nat.le_trans h1 h2) (λk=>xs.getD k ⟨#[]⟩) (λk=>q (xs.getD k ⟨#[]⟩)) (λ_ W=>Below B w W) w (λk W hk hW=>?_) (λk W hk _ hW=>?_) (Below.refl _ _)).mono ?_
 ·obtain⟨a',c',e,_,_,h3⟩:=hv W hW
  cases e
  have hx:=getD_at hk;obtain⟨b,o,rfl,hb,hc⟩:=h3 (by rintro rfl;simp at hk);exact⟨b,o,rfl,hc k _ hx⟩
 ·refine(hf _ (Zqe hk) W hW).mono ?_
  rintro e W' ⟨rfl,hb⟩;exact⟨rfl,hW.trans (hb.mono (Nat.le_trans hB hW.size))⟩
 ·intro e w' h
  obtain⟨rfl,k,_,hb⟩:=h.any;exact⟨by rw[Zdm],hb⟩
theorem Zhh (b:Nat) (L:List ByteArray) (v:Value) (ks:List ByteArray) (w:World) (hS:SetIs w b L) (hk:IsStrs w v ks) (hs:∀k∈ks,k.size<=maxLen):
  Calls prog 172 #[.map (some b),v] w λe w'=>e = .returned (.bool (ks.all (inS L)))/\Below w.heap.size w w':=by
 obtain⟨W1,hW1⟩:∃W,w.alloc (.cells #[.map (some b)] 216)=W:=⟨_,rfl⟩;have hb1:Below w.heap.size w W1:=by rw[<-hW1];exact(Below.refl _ _).alloc (Nat.le_refl _) _
 have hbx:Boxed W1 w.heap.size 216 (.map (some b)):=by rw[<-hW1];exact Boxed.new w _ _
 have hlt:=hbx.lt;have hset1:=hS.below hb1 hS.lt;have cC:=Zki 223 #[.pointer (some ⟨w.heap.size,0,none⟩)] (enters_of func223 (by kernel_rfl) rfl) v ks (λx=> !inS L x) W1.heap.size W1 (Nat.le_refl _) (λW hW=>hk.below (hb1.trans (hW.mono hb1.size))) (λx hx W hW=>Zhg b w.heap.size L x W ((hW.block _ hlt).trans hbx) (hset1.below hW hset1.lt) (hs x hx));have e:(!ks.any λx=> !inS L x)=ks.all (inS L):=by rw[<-List.not_all_eq_any_not];simp
 obtain⟨r,hr⟩:∃r,(ks.any λx=> !inS L x)=r:=⟨_,rfl⟩;rw[hr]at cC e;rw[<-e];have CC:=hid cC;have HB1:=hid hb1;have HW1:=hid hW1;clear hS hk hs hb1 hbx hlt hset1 cC e hr hW1
 go_enter func172,ntmps172
 go_wp2_with (go_at_call 132;rw[HW1.out];refine CC.out.mono ?_;rintro e w2 ⟨rfl,hb2⟩)
 go_ret;exact⟨rfl,HB1.out.trans (hb2.mono HB1.out.size)⟩
theorem Zdiy {xs ys:List ByteArray} (hp:xs.Perm ys):srtB xs=srtB ys:=by
 have pw:∀l:List (List UInt8),(srtL l).Pairwise λx y=>decide (x<=y)=true:=λl=>by
  unfold srtL;exact List.pairwise_mergeSort (λa b c h1 h2=>by simp only[decide_eq_true_eq]at *;exact List.le_trans h1 h2) (λa b=>by simp only[Bool.or_eq_true,decide_eq_true_eq];exact List.le_total a b) l
 unfold srtB
 congr 1
 refine List.Perm.eq_of_pairwise (le:=λx y=>decide (x<=y)=true) (λa b _ _ h1 h2=>?_) (pw _) (pw _) ?_
 ·exact List.le_antisymm (of_decide_eq_true h1) (of_decide_eq_true h2)
 ·unfold srtL
  exact(List.mergeSort_perm _ _).trans ((hp.map _).trans (List.mergeSort_perm _ _).symm)
abbrev NE:=ByteArray×Value×List ByteArray
def nkv (L:List NE):List KV:=L.map λe=>(.string e.1,e.2.1)
def hasN (L:List NE) (x:ByteArray):Bool:=L.any λe=>decide (e.1=x)
def Zdae (L:List NE) (e:NE):Bool:= !(e.2.2.any (hasN L))
def Zdgw (L:List NE):List ByteArray:=(L.filter (Zdae L)).map (·.1)
theorem Zcxh (a b:ByteArray):(a==b)=decide (a=b):=by
 cases a;cases b
 rename_i x y
 show(x==y)=_;rw[Bool.eq_iff_iff];simp
theorem Zczi (x:ByteArray):∀(es:List MapEntry) (L:List NE) (i:Nat),es.map kvE=nkv L->∃q,Instr.findNow .string (.string x) es i=some q/\q.isSome=hasN L x
 | [],L,i,h=>by
  have:L = []:=by cases L with
   | nil=>rfl
   | cons _ _=>simp[nkv]at h
  subst this;exact⟨none,rfl,rfl⟩
 | e::es,L,i,h=>by
  cases L with
  | nil=>simp[nkv]at h
  | cons a L=>
   simp only[nkv,List.map_cons,List.cons.injEq]at h;obtain⟨h1,h2⟩:=h;have hk:e.key = .string a.1:=congrArg Prod.fst h1;obtain⟨q,q1,q2⟩:=Zczi x es L (i+1) h2;simp only[Instr.findNow,hk,Instr.sameNow];unfold hasN at q2⊢;rw[List.any_cons]
   by_cases hx:a.1=x
   ·subst hx
    refine⟨some (i,e.val),?_,by simp⟩;rw[Zcxh,decide_eq_true rfl]
   ·refine⟨q,?_,by rw[decide_eq_false hx,Bool.false_or];exact q2⟩
    rw[Zcxh,decide_eq_false (λe=>hx e.symm)];exact q1
theorem RM.look_str {P:Program} {w:World} {b:Nat} {L:List NE} (h:RM w b (nkv L)) {t kt e:TypeId} (ht:P.underlying t=some (.map kt e)) (hk:P.underlying kt=some .string) {z:Value} (hz:∀w,(zeroValue e).run P w = .ok z w) (x:ByteArray):
  ∃u,(Instr.lookup t (.map (some b)) (.string x) true).run P w = .ok (.tuple #[u,.bool (hasN L x)]) w:=by
 obtain⟨es,ck,h1,h2,_⟩:=h;obtain⟨q,q1,q2⟩:=Zczi x es.toList L 0 h2;have hchk:∀em,(Instr.checkKey em 10000 kt (.string x)).run P w = .ok () w:=λem=>by
  have:(10000:Nat)=9999+1:=rfl;rw[this];generalize 9999=D;simp[Instr.checkKey,run_underlying hk]
 cases q with
 | none=>
  refine⟨z,?_⟩;rw[<-q2];simp[Instr.lookup,run_underlying ht,MapKept.run_getObj_map h1,hchk,Instr.findKey,run_underlying hk,q1,hz]
 | some p=>
  refine⟨p.2,?_⟩;rw[<-q2];simp[Instr.lookup,run_underlying ht,MapKept.run_getObj_map h1,hchk,Instr.findKey,run_underlying hk,q1]
theorem Zdkd:∀w,(zeroValue 47).run prog w = .ok (.slice none 0 0) w:=zeroValue47
set_option maxHeartbeats 4000000
set_option maxRecDepth 100000
theorem Zcxa (mb bn:Nat) (L:List NE) (x:ByteArray) (w:World) (hB:Boxed w bn 108 (.map (some mb))) (hm:RM w mb (nkv L)):
  Calls prog 133 #[.string x,.pointer (some ⟨bn,0,none⟩)] w λe w'=>e = .returned (.bool (hasN L x))/\Below w.heap.size w w':=by
 have c0:=Boxed.cell hB;obtain⟨u,l0⟩:=hm.look_str (P:=prog) underlying108 underlying9 Zdkd x;obtain⟨r,hr⟩:∃r,hasN L x=r:=⟨_,rfl⟩;rw[hr]at l0⊢;have mixed:prog.follows .mixedOrders=true:=by kernel_rfl
 clear hr hm hB
 go_enter func133,ntmps133
 go_wp2;go_ret;exact⟨rfl,by first|exact Below.refl _ _|exact(Below.refl _ _).alloc (Nat.le_refl _) _⟩
theorem Zcxb (mb:Nat) (L:List NE) (v:Value) (xs:List ByteArray) (w:World) (hm:RM w mb (nkv L)) (hv:IsStrs w v xs):
  Calls prog 95 #[.map (some mb),v] w λe w'=>e = .returned (.bool (xs.any (hasN L)))/\Below w.heap.size w w':=by
 have mixed:prog.follows .mixedOrders=true:=by kernel_rfl
 obtain⟨W1,hW1⟩:∃W,w.alloc (.cells #[.map (some mb)] 108)=W:=⟨_,rfl⟩;have hb1:Below w.heap.size w W1:=by rw[<-hW1];exact(Below.refl _ _).alloc (Nat.le_refl _) _
 have hbx:Boxed W1 w.heap.size 108 (.map (some mb)):=by rw[<-hW1];exact Boxed.new w _ _
 have hlt:=hbx.lt;have hm1:=hm.below hb1 hm.lt;have cC:=Zki 133 #[.pointer (some ⟨w.heap.size,0,none⟩)] (enters_of func133 (by kernel_rfl) rfl) v xs (hasN L) W1.heap.size W1 (Nat.le_refl _) (λW hW=>hv.below (hb1.trans (hW.mono hb1.size))) (λx hx W hW=>Zcxa mb w.heap.size L x W ((hW.block _ hlt).trans hbx) (hm1.below hW hm1.lt));obtain⟨r,hr⟩:∃r,xs.any (hasN L)=r:=⟨_,rfl⟩;rw[hr]at cC⊢;have CC:=hid cC;have HB1:=hid hb1;have HW1:=hid hW1;clear hm hv hb1 hbx hlt hm1 cC hr hW1
 go_enter func95,ntmps95
 go_wp2_with (go_at_call 132;rw[HW1.out];refine CC.out.mono ?_;rintro e w2 ⟨rfl,hb2⟩)
 go_ret;exact⟨rfl,HB1.out.trans (hb2.mono HB1.out.size)⟩
theorem Zdbn:(prog.info? 9).map (λi=>(i.zero,i.size,i.bytes))=some (some (.string ⟨#[]⟩),1,16):=by kernel_rfl
theorem Zdey {L:List NE} {k v:Value} (h:(k,v)∈nkv L):∃e∈L,k = .string e.1/\v=e.2.1:=by
 obtain⟨x,hx,e⟩:=List.mem_map.1 h
 cases e
 exact⟨x,hx,rfl,rfl⟩
theorem Zdeo {L:List NE} (hn:(L.map (·.1)).Nodup) {x y:NE} (hx:x∈L) (hy:y∈L) (h:x.1=y.1):x=y:=by
 induction L with
 | nil=>cases hx
 | cons e es ih=>
  rw[List.map_cons,List.nodup_cons]at hn
  rcases List.mem_cons.1 hx with rfl|hx1<;>rcases List.mem_cons.1 hy with rfl|hy1
  ·rfl
  ·exact absurd (by rw[h];exact List.mem_map_of_mem hy1) hn.1
  ·exact absurd (by rw[<-h];exact List.mem_map_of_mem hx1) hn.1
  ·exact ih hn.2 hx1 hy1
theorem Zdez {S L:List NE} (hn:(L.map (·.1)).Nodup) (hs:∀e∈S,e∈L) (hp:(nkv S).Perm (nkv L)):S.Perm L:=by
 have hnames:∀M:List NE,(nkv M).map (λp:KV=>match p.1 with | .string s=>s|_=>(⟨#[]⟩:ByteArray))=M.map (·.1):=λM=>by
  unfold nkv;rw[List.map_map];rfl
 have hpn:(S.map (·.1)).Perm (L.map (·.1)):=by
  have:=hp.map (λp:KV=>match p.1 with | .string s=>s|_=>(⟨#[]⟩:ByteArray))
  rwa [hnames,hnames]at this
 have hS:(S.map (·.1)).Nodup:=hpn.nodup_iff.2 hn;have nd:∀ {M:List NE},(M.map (·.1)).Nodup->M.Nodup:=λh=>List.Pairwise.of_map (·.1) (λ_ _ hne e=>hne (congrArg _ e)) h
 refine(List.perm_ext_iff_of_nodup (nd hS) (nd hn)).2 λx=>⟨hs x,λhx=>?_⟩
 have:x.1∈S.map (·.1):=hpn.mem_iff.2 (List.mem_map_of_mem hx);obtain⟨y,hy,e⟩:=List.mem_map.1 this;obtain rfl:=Zdeo hn (hs y hy) hx e;exact hy
def seenN (w:World) (r:Nat):Nat:=match w.heap[r]? with
 | some (.mapIter _ _ seen _)=>seen.size
 | _=>0
theorem RI.seenN {w:World} {b r:Nat} {kv ss:List KV} (h:RI w b r kv ss):seenN w r=ss.length:=by
 obtain⟨es,ck,since,seen,c0,vis,_,_,_,_,hr,_,_,_,_,hse,_,rfl⟩:=h;unfold Go.Proofs.YtokogjhcidkckaaGreatDoor.seenN;rw[hr];have:=congrArg List.length hse;simpa using this
def Zcwq (w:World) (xs:List ByteArray) (e:Ending) (w':World):Prop:=∃v,e = .returned v/\OwnStrs w.heap.size w' v xs/\(xs = []->v = .slice none 0 0)/\Below w.heap.size w w'
set_option maxHeartbeats 4000000
set_option maxRecDepth 100000
theorem Zdha (mb:Nat) (L:List NE) (w:World) (hm:RM w mb (nkv L)) (hv:∀e∈L,IsStrs w e.2.1 e.2.2) (hnd:(L.map (·.1)).Nodup) (hn:L.length<=1000000):
  Calls prog 71 #[.map (some mb)] w (Zcwq w (srtB (Zdgw L))):=by
 have mixed:prog.follows .mixedOrders=true:=by kernel_rfl
 obtain⟨i0,hi,hz0,hz1,hz2⟩:=info_parts Zdbn;obtain⟨ob,hrng,hri⟩:=hm.range (P:=prog) underlying108;have hmb:=hm.lt;have hb0:Below w.heap.size w (w.alloc ob):=(Below.refl _ _).alloc (Nat.le_refl _) ob;have HRI:=hid hri;have HB0:=hid hb0;have HV:=hid hv;have HND:=hid hnd;have HNN:=hid hn;clear hm hri hb0 hv hnd hn
 go_enter func71,ntmps71
 go_wp2
 go_loopw [3] (λv wr=>∃S:List NE,(∀e∈S,e∈L)/\v.ownBlock≠some w.heap.size/\(v = .slice none 0 0∨(S.filter (Zdae L)).map (·.1)≠[])/\OwnStrs w.heap.size wr v ((S.filter (Zdae L)).map (·.1))/\RI wr mb w.heap.size (nkv L) (nkv S)/\Below w.heap.size w wr) (λ_ wr=>L.length-seenN wr w.heap.size)
 case atStart=>exact⟨[],by simp,by simp[Value.ownBlock],.inl rfl,World.ownsRow_nil _ _ _ _,HRI.out,HB0.out⟩
 case round=>
  obtain⟨S,hSL,hvb,hvn,hown,hri,hnx⟩:=hrel;obtain⟨WR,rfl⟩:∃V,V=wr:=⟨_,rfl⟩;have hsn:=hri.seenN
  rcases hri.next (P:=prog) 0 with⟨hperm,hrun⟩|⟨k,v,W2,hkv,hlt,hrun,hri2,hgr,hsz,hen⟩
  ·have hp2:=Zdez HND.out hSL hperm
   have hpr:((S.filter (Zdae L)).map (·.1)).Perm (Zdgw L):=(hp2.filter _).map _;have hsrt:=Zdiy hpr;obtain⟨xs,hxs⟩:∃xs,(S.filter (Zdae L)).map (·.1)=xs:=⟨_,rfl⟩;have hxl:xs.length<=8796093022208:=by
    rw[<-hxs,List.length_map];have h1:=List.length_filter_le (Zdae L) S;have h2:=hp2.length_eq;have:=HNN.out;omega
   rw[hxs]at hown hsrt hvn;have HSR:=hid hsrt;have HNX:=hid hnx;have HVN:=hid hvn;clear hri hperm hnx hp2 hpr hsn hvb hSL hsrt hxs hvn
   rcases hown.2 with⟨rfl,h0⟩|⟨g,cap,cur,rfl,hbg,hrest⟩
   ·have hx0:=List.eq_nil_of_length_eq_zero h0
    subst hx0;clear hown
    go_wp2_with fail
    refine(Zbmj _ _ _).mono ?_;rintro e w3 ⟨rfl,rfl⟩;go_wp2;go_ret;refine⟨_,rfl,?_,λ_=>rfl,HNX.out⟩;rw[<-HSR.out,show srtB [] = [] by simp[srtB,Go.Proofs.YtokogjhcidkckaaGreatDoor.srtL]];exact World.ownsRow_nil _ _ _ _
   ·have cS:=Zbmi w.heap.size g cap xs WR hown hxl
    have CS:=hid cS;have HBG:=hid hbg;clear hown cS hrest hbg
    go_wp2_with fail
    refine CS.out.mono ?_;rintro e w3 ⟨rfl,q1,q2⟩;have Q1:=hid q1;have Q2:=hid q2;clear q1 q2;go_wp2;go_ret;refine⟨_,rfl,?_,λh0=>?_,HNX.out.grown Q2.out HNX.out.size (λk e=>by cases e;exact HBG.out)⟩;rotate_left
    ·rw[<-HSR.out]at h0
     have hl0:=congrArg List.length h0;rw[Zbnb]at hl0
     rcases HVN.out with hq|hq
     ·cases hq
     ·exact absurd (List.eq_nil_of_length_eq_zero hl0) hq
    rw[<-HSR.out];have:=Q1.out;unfold OwnStrs at this⊢
    rwa [Zbnb]at this⊢
  ·obtain⟨e,he,rfl,rfl⟩:=Zdey hkv
   have hown2:OwnStrs w.heap.size W2 u3 ((S.filter (Zdae L)).map (·.1)):=World.ownsRow.kept hown hgr (.inr hvb);have hr1:w.heap.size<WR.heap.size:=hri.lt;have hnx2:Below w.heap.size w W2:=hnx.grown hgr hnx.size (λk e=>by cases e;exact Nat.le_refl _);rw[show nkv S ++ [(Value.string e.1,e.2.1)]=nkv (S ++ [e]) by simp[nkv]]at hri2;have hS2:∀x∈S ++ [e],x∈L:=λx hx=>by
    rcases List.mem_append.1 hx with hx|hx
    ·exact hSL x hx
    ·simp at hx;subst hx;exact he
   have hsn2:=hri2.seenN;have hlt2:(S ++ [e]).length<=L.length:=by simp only[nkv,List.length_map]at hlt;simp;omega
   have hcL:=Zcxb mb L e.2.1 e.2.2 W2 hri2.rm ((HV.out e he).below hnx2);have hfl:(S ++ [e]).filter (Zdae L)=if Zdae L e then S.filter (Zdae L) ++ [e]else S.filter (Zdae L):=by
    rw[List.filter_append]
    cases hf:Zdae L e<;>simp[hf]
   have hfe:Zdae L e = !(e.2.2.any (hasN L)):=rfl;obtain⟨rr,hrr⟩:∃rr,e.2.2.any (hasN L)=rr:=⟨_,rfl⟩;rw[hrr]at hcL hfe;obtain⟨en,ev,exs⟩:=e;have hs2:=hnx2.size;have hs3:=hri2.lt;have HRI2:=hid hri2;have HNX2:=hid hnx2;have HS2:=hid hS2;have HCL:=hid hcL;have HFL:=hid hfl;have HFE:=hid hfe;have HOW:=hid hown2;have HVB:=hid hvb;have HVN:=hid hvn;have HM:Hid (L.length-seenN W2 w.heap.size<L.length-seenN WR w.heap.size):=by
    show _<_;rw[hsn,hsn2];simp only[nkv,List.length_map]at hlt⊢;simp;omega
   have hlen:S.length<=1000000:=by simp only[nkv,List.length_map]at hlt;have:=HNN.out;omega
   clear hri hnx hown hkv hlt hri2 hnx2 hsn hsn2 hlt2 hcL hfl hfe hrr hS2 hown2 hvb hvn hgr hsz he hSL
   dsimp only at HCL hrun hen
   go_wp2_with fail
   refine HCL.out.mono ?_;rintro e3 w3 ⟨rfl,hb3⟩;have hsz3:=hb3.size;have hri3:=HRI2.out.below hb3 (by omega) hs3;have hown3:OwnStrs w.heap.size w3 u3 ((S.filter (Zdae L)).map (·.1)):=World.ownsRow.kept (row:=none) HOW.out ⟨hb3.os,hb3.tape,hb3.output,hb3.size,λi hi _=>hb3.block i hi⟩ (by cases u3.ownBlock<;>simp);have hnx3:Below w.heap.size w w3:=HNX2.out.trans (hb3.mono hs2);have hse3:seenN w3 w.heap.size=seenN W2 w.heap.size:=by unfold seenN;rw[hb3.block _ hs3]
   have HR3:=hid hri3;have HO3:=hid hown3;have HN3:=hid hnx3;have HE3:=hid hse3;clear hb3 hri3 hown3 hnx3 hse3
   cases rr with
   | true=>
    go_wp2;go_roundw
    case rel=>
     refine⟨S ++ [(en,ev,exs)],HS2.out,HVB.out,?_,?_,HR3.out,HN3.out⟩
     ·rw[HFL.out,HFE.out]
      exact HVN.out
     ·rw[HFL.out,HFE.out]
      exact HO3.out
    case measure=>rw[HE3.out];exact HM.out
   | false=>
    have hown3:=HO3.out
    go_wp2_with (at_builtin;refine wpList_append_own_at _ rfl _ _ 47 rfl w.heap.size 9 i0 _ 1 16 underlying47 hi hz0 hz1 hz2 rfl (by decide) _ _ _ rfl (World.ownsRow.alloc hown3 _) ⟨w3.heap.size,0,none⟩ 1 1 [.string en] rfl rfl ?c1 ?c2 ?c3 ?c4 ?c5 ?_)
    case c1=>
     intro j u hj
     match j,hj with
     | 0,hj=>simp at hj;subst hj;simp[Addr.add]
    case c2=>intro u hu;simp at hu;subst hu;rfl
    case c3=>have:=List.length_filter_le (Zdae L) S;rw[List.length_map];unfold maxLen;omega
    case c4=>have:=List.length_filter_le (Zdae L) S;rw[List.length_map];omega
    case c5=>have:=HN3.out.size;simp;omega
    intro v' w4 hown' hgrow hnil hblk;have hsz4:=HN3.out.size;have hnx4:Below w.heap.size w w4:=(HN3.out.alloc hsz4 _).grown hgrow (by simp;omega) (λg hg=>(hown3.lt g hg).1);have hwl:w.heap.size<w3.heap.size:=HR3.out.lt;have hvb4:v'.ownBlock≠some w.heap.size:=by
     rcases hblk with hq|hq<;>rw[hq]
     ·exact HVB.out
     ·intro e2
      have:=Option.some.inj e2;omega
    have hold:∀k,k<w3.heap.size->some k≠u3.ownBlock->w4.heap[k]? =w3.heap[k]?:=λk hk hne=>by
     rw[hgrow.block k (by simp;omega) hne,(MapKept.heap_alloc _ _).2 k hk]
    have hri4:RI w4 mb w.heap.size (nkv L) (nkv (S ++ [(en,ev,exs)])):=by
     refine HR3.out.heap (hold _ (by omega) ?_) (hold _ hwl ?_)
     ·intro e2
      have:=(hown3.lt mb e2.symm).1;omega
     ·intro e2;exact HVB.out e2.symm
    have hse4:seenN w4 w.heap.size=seenN w3 w.heap.size:=by
     unfold seenN;rw[hold _ hwl (λe2=>HVB.out e2.symm)]
    have hown4:OwnStrs w.heap.size w4 v' (((S ++ [(en,ev,exs)]).filter (Zdae L)).map (·.1)):=by
     rw[HFL.out,HFE.out];unfold OwnStrs;simpa using hown'
    have hvn4:v' = .slice none 0 0∨((S ++ [(en,ev,exs)]).filter (Zdae L)).map (·.1)≠[]:=by
     rw[HFL.out,HFE.out];exact .inr (by simp)
    have HVN4:=hid hvn4;have HR4:=hid hri4;have HN4:=hid hnx4;have HV4:=hid hvb4;have HE4:=hid hse4;have HO4:=hid hown4;clear hown' hgrow hnil hblk hnx4 hwl hvb4 hold hri4 hse4 hown4 hown3 hvn4;go_wp2;go_roundw
    case rel=>exact⟨S ++ [(en,ev,exs)],HS2.out,HV4.out,HVN4.out,HO4.out,HR4.out,HN4.out⟩
    case measure=>rw[HE4.out,HE3.out];exact HM.out
end Go.Proofs.YtokogjhcidkckaaGreatDoor
namespace Go.Proofs.YtokogjhcidkckaaGreatDoor.Exe
open Go.Lib (hid)
open Go.Proofs.Tryz
open Go Go.RowKit Go.Shelf
variable {P:Program} {G:Nat} {r:Ren} {h:Hp} {w:World}
def Zdjj:Nat->List Value->Option (List ByteArray)
 | 0,_=>some []
 | n+1,cs=>match cs with
  | .string a::cs=>match Zdjj n cs with
   | some xs=>some (a::xs)
   | none=>none
  | _=>none
theorem Zdjk:∀ {n:Nat} {cs:List Value} {xs:List ByteArray},Zdjj n cs=some xs->xs.length=n/\∀(k:Nat) x,xs[k]? =some x->cs[k]? =some (.string x)
 | 0,cs,xs,hc=>by simp only[Zdjj,Option.some.injEq]at hc;subst hc;exact⟨rfl,λk x hx=>by simp at hx⟩
 | n+1,cs,xs,hc=>by
  simp only[Zdjj]at hc;split at hc
  case h_2=>cases hc
  rename_i a cs'
  split at hc
  case h_2=>cases hc
  rename_i xs' h'
  cases hc
  obtain⟨h1,h2⟩:=Zdjk h';refine⟨by simp[h1],λk x hx=>?_⟩
  cases k with
  | zero=>simp at hx;subst hx;rfl
  | succ k=>simpa using h2 k x (by simpa using hx)
def Zdep (h:Hp):Value->Option (List ByteArray)
 | .slice none l c=>bif Nat.beq l 0&&Nat.ble c 1000000 then some []else none
 | .slice (some ⟨n,o,none⟩) l c=>match look h n with
  | some (.cells cs _ _ _)=>bif Nat.ble l c&&Nat.ble c 1000000&&Nat.ble (o+l) cs.length then Zdjj l (cs.drop o)else none
  | _=>none
 | _=>none
theorem Zdeq {N:Nat->Prop} (hR:Rep N (Zp P) G r h w) {v v':Value} (hv:ValR (Zp P) r v v') {xs:List ByteArray} (hc:Zdep h v=some xs):IsStrs w v' xs:=by
 unfold Zdep at hc;split at hc
 ·rename_i l c
  cases hb:(Nat.beq l 0&&Nat.ble c 1000000)with
  | false=>rw[hb]at hc;cases hc
  | true=>
   rw[hb]at hc;cases hc;simp only[Bool.and_eq_true,Zcnc]at hb;obtain⟨rfl,b2⟩:=hb;have b2:=Nat.le_of_ble_eq_true b2;obtain rfl:=Zcna rfl hv;exact⟨none,c,rfl,Nat.zero_le _,by unfold maxLen;omega,λhx=>absurd rfl hx⟩
 ·rename_i n o l c
  split at hc
  case h_2=>cases hc
  rename_i cs t hi ro hl
  cases hb:(Nat.ble l c&&Nat.ble c 1000000&&Nat.ble (o+l) cs.length)with
  | false=>rw[hb]at hc;cases hc
  | true=>
   rw[hb]at hc;simp only[cond_true]at hc;simp only[Bool.and_eq_true]at hb;obtain⟨⟨b1,b2⟩,b3⟩:=hb;have b1:=Nat.le_of_ble_eq_true b1;have b2:=Nat.le_of_ble_eq_true b2;have b3:=Nat.le_of_ble_eq_true b3;obtain⟨h1,h2⟩:=Zdjk hc
   cases hv with
   | same ha=>simp[atom]at ha
   | @slice _ _ _ _ c' e he hle hex hr=>
    obtain⟨e',he',o',ho',hO⟩:=hR.obj n _ hl;obtain rfl:=Option.some.inj (he.symm.trans he')
    cases o' with
    | cells cur t' fz=>
     obtain⟨_,_,_,_,_,a6,_⟩:=hO;have hcm:c'<=maxLen:=by
      cases hn:exN n with
      | true=>rw[hex hn];unfold maxLen;omega
      | false=>exact(hr hn).2.2
     subst h1;refine⟨some ⟨e.b,o+e.sh,none⟩,c',rfl,by omega,hcm,λ_=>⟨e.b,o+e.sh,rfl,hR.low _ _ he,λk x hx=>?_⟩⟩;have:=h2 k x hx;rw[List.getElem?_drop]at this;obtain⟨u,q1,q2⟩:=a6 _ _ this;obtain rfl:=Zcna rfl q2;rw[cell_of ho',show o+e.sh+k=o+k+e.sh by omega];exact q1
    | _=>exact hO.elim
 ·cases hc
def nesC (h:Hp):List (Value×Value×Nat)->Option (List (ByteArray×List ByteArray))
 | []=>some []
 | (.string s,v,_)::es=>match Zdep h v with
  | some xs=>match nesC h es with
   | some L=>some ((s,xs)::L)
   | none=>none
  | none=>none
 | _=>none
theorem Zdex {N:Nat->Prop} (hR:Rep N (Zp P) G r h w):∀ {es:List (Value×Value×Nat)} {es':List MapEntry} {L:List (ByteArray×List ByteArray)},nesC h es=some L->EntsR P r es es'->
  ∃M:List NE,es'.map kvE=nkv M/\(∀e∈M,IsStrs w e.2.1 e.2.2)/\M.map (λe=>(e.1,e.2.2))=L
 | [],es',L,hc,hE=>by
  cases es' with
  | nil=>simp only[nesC,Option.some.injEq]at hc;subst hc;exact⟨[],rfl,by simp,rfl⟩
  | cons _ _=>have:=hE.1;simp at this
 | x::es,es',L,hc,hE=>by
  obtain⟨y,ys,rfl,hk,_,hv,_,hE'⟩:=hE.head;unfold nesC at hc;split at hc
  ·rename_i heq;cases heq
  ·rename_i s u n es0 heq
   cases heq
   split at hc
   case h_2=>cases hc
   rename_i xs hxs
   split at hc
   case h_2=>cases hc
   rename_i L' h'
   cases hc
   obtain⟨M,m1,m2,m3⟩:=Zdex hR h' hE';have hs:=Zdeq hR hv hxs;refine⟨(s,y.val,xs)::M,?_,λe he=>?_,by rw[List.map_cons,m3]⟩
   ·rw[List.map_cons,m1]
    unfold kvE nkv;rw[hk];rfl
   ·rcases List.mem_cons.1 he with rfl|he
    ·exact hs
    ·exact m2 e he
  ·cases hc
def Zcxs:List UInt8->List UInt8->Bool
 | [],[]=>true
 | a::us,b::bs=>Nat.beq a.toNat b.toNat&&Zcxs us bs
 | _,_=>false
theorem Zcxt:∀ {a b:List UInt8},Zcxs a b=true↔a=b
 | [],[]=>by simp[Zcxs]
 | [],_::_=>by simp[Zcxs]
 | _::_,[]=>by simp[Zcxs]
 | a::us,b::bs=>by
  simp only[Zcxs,Bool.and_eq_true,Zcnc,Zcxt,List.cons.injEq,UInt8.toNat_inj]
def Zzp (a b:ByteArray):Bool:=Zcxs a.data.toList b.data.toList
theorem Zden {a b:ByteArray}:Zzp a b=decide (a=b):=by
 rw[Bool.eq_iff_iff,decide_eq_true_eq];unfold Zzp;rw[Zcxt];exact⟨Zdcj,λe=>by rw[e]⟩
def hasB (L:List (ByteArray×List ByteArray)) (x:ByteArray):Bool:=L.any λe=>Zzp e.1 x
def Zdgs (L:List (ByteArray×List ByteArray)):List ByteArray:=(L.filter λe=> !(e.2.any (hasB L))).map (·.1)
theorem Zdaz (M:List NE) (x:ByteArray):hasB (M.map λe=>(e.1,e.2.2)) x=hasN M x:=by
 unfold hasB hasN;rw[List.any_map]
 congr 1
 funext e
 exact Zden
theorem Zdgt (M:List NE):Zdgs (M.map λe=>(e.1,e.2.2))=Zdgw M:=by
 unfold Zdgs Zdgw;rw[List.filter_map,List.map_map];have:(λe:NE=> !(e.2.2.any (hasB (M.map λe=>(e.1,e.2.2)))))=Zdae M:=by
  funext e
  unfold Zdae
  congr 2
  funext x
  exact Zdaz M x
 have e2:((λe:ByteArray×List ByteArray=> !(e.2.any (hasB (M.map λe=>(e.1,e.2.2)))))∘λe:NE=>(e.1,e.2.2))=Zdae M:=this;rw[e2];rfl
def insN (x:ByteArray):List ByteArray->List ByteArray
 | []=>[x]
 | y::ys=>bif Op.bytesLess y.data.toList x.data.toList then y::insN x ys else x::y::ys
def srtN:List ByteArray->List ByteArray
 | []=>[]
 | x::xs=>insN x (srtN xs)
theorem Zdbo (x:ByteArray):∀l:List ByteArray,(insN x l).map (λb=>((false,b):Lb))=ilb (false,x) (l.map λb=>(false,b))
 | []=>rfl
 | y::ys=>by
  rw[List.map_cons];unfold insN ilb;have:ltL (false,y) (false,x)=Op.bytesLess y.data.toList x.data.toList:=by unfold ltL;rw[if_pos rfl,bytesLess_eq]
  rw[this]
  cases Op.bytesLess y.data.toList x.data.toList with
  | true=>simp only[cond_true,if_true,List.map_cons,Zdbo x ys]
  | false=>rfl
theorem Zdja:∀l:List ByteArray,(srtN l).map (λb=>((false,b):Lb))=slb (l.map λb=>(false,b))
 | []=>rfl
 | x::xs=>by
  rw[List.map_cons];unfold srtN slb;rw[Zdbo,Zdja xs]
theorem Zdiz (l:List ByteArray):srtN l=srtB l:=by
 have h1:(srtB l).map (λb=>((false,b):Lb))=slb (l.map λb=>(false,b)):=by
  refine Zdir ?_ ?_
  ·unfold srtB Go.Proofs.YtokogjhcidkckaaGreatDoor.srtL
   have hp:=(List.mergeSort_perm (l.map (·.data.toList)) λx y=>decide (x<=y)).map λq=>(⟨q.toArray⟩:ByteArray)
   have e:(l.map (·.data.toList)).map (λq=>(⟨q.toArray⟩:ByteArray))=l:=by
    rw[List.map_map];exact(List.map_congr_left (λx _=>by cases x;simp)).trans (List.map_id l)
   rw[e]at hp;exact hp.map _
  ·unfold Slb
   rw[List.pairwise_map];unfold srtB Go.Proofs.YtokogjhcidkckaaGreatDoor.srtL;rw[List.pairwise_map];have pw:=List.pairwise_mergeSort (le:=λx y:List UInt8=>decide (x<=y)) (λa b c h1 h2=>by simp only[decide_eq_true_eq]at *;exact List.le_trans h1 h2) (λa b=>by simp only[Bool.or_eq_true,decide_eq_true_eq];exact List.le_total a b) (l.map (·.data.toList));refine pw.imp fun {a b} hab=>?_
   unfold leL ltL;rw[if_pos rfl];simp only[decide_eq_true_eq]at hab;simpa using hab
 have h2:=(Zdja l).trans h1.symm;have h3:=congrArg (List.map (·.2)) h2;rw[List.map_map,List.map_map]at h3;exact((List.map_id _).symm.trans h3).trans (List.map_id _)
def Zbck:List (ByteArray×List ByteArray)->Bool
 | []=>true
 | e::L=> !(hasB L e.1)&&Zbck L
theorem Zdfl:∀ {M:List NE},Zbck (M.map λe=>(e.1,e.2.2))=true->(M.map (·.1)).Nodup
 | [],_=>List.nodup_nil
 | e::M,h=>by
  rw[List.map_cons]at h;simp only[Zbck,Bool.and_eq_true,Bool.not_eq_true']at h;rw[Zdaz]at h;rw[List.map_cons,List.nodup_cons];refine⟨λhm=>?_,Zdfl h.2⟩;obtain⟨y,hy,hye⟩:=List.mem_map.1 hm;have h1:=h.1;unfold hasN at h1;rw[List.any_eq_false]at h1;exact h1 y hy (by simpa using hye)
def Zdgu (nf:FuncId) (el:TypeId):FK:=λf vs k h=>bif Nat.beq f nf then match vs with
 | [.map (some m)]=>match look h m with
  | some (.map es ck _)=>match nesC h es with
   | some L=>bif Zcxp ck 0 es&&Nat.ble L.length 1000&&Zbck L then match srtN (Zdgs L)with
     | []=>some (.slice none 0 0,k+1,h)
     | x::xs=>some (.slice (some ⟨2*k+1,0,none⟩) (xs.length+1) (xs.length+1),k+1,(2*k+1,.cells ((x::xs).map Value.string) el 0 false)::h)
    else none
   | none=>none
  | _=>none
 | _=>none else none
theorem Zdgv (hN:Zcmj prog) (hb:Zcqx prog 71=true) (hz:Zp prog 9=1):KS prog G (onFn (Zdgu 71 9)):=by
 refine Zcth ?_;intro f vs k h v k1 h1 hc r w vs' hR hv;unfold Zdgu at hc
 cases hm:Nat.beq f 71 with
 | false=>rw[hm]at hc;cases hc
 | true=>
  rw[hm]at hc;simp only[cond_true]at hc;obtain rfl:=Zcnc.1 hm;split at hc
  case h_2=>cases hc
  rename_i m
  split at hc
  case h_2=>cases hc
  rename_i es ck ro2 hl2
  split at hc
  case h_2=>cases hc
  rename_i L hL
  cases hbb:(Zcxp ck 0 es&&Nat.ble L.length 1000&&Zbck L)with
  | false=>rw[hbb]at hc;cases hc
  | true=>
   rw[hbb]at hc;simp only[cond_true]at hc;simp only[Bool.and_eq_true]at hbb;obtain⟨⟨b1,b2⟩,b3⟩:=hbb;have b2:=Nat.le_of_ble_eq_true b2;obtain⟨p',us,rfl,v1,v2⟩:=hv.head;obtain rfl:us = []:=by have:=v2.1;cases us with
    | nil=>rfl
    | cons _ _=>simp at this
   cases v1 with
   | same ha=>simp[atom]at ha
   | @map _ em hem=>
    obtain⟨em',hem',om,hom,hOm⟩:=hR.obj m _ hl2;obtain rfl:=Option.some.inj (hem.symm.trans hem')
    cases om with
    | map es' c'=>
     have hE:EntsR prog r es es'.toList:=⟨by simpa using hOm.2.1,λi x y a b=>hOm.2.2 i x y a (by simpa using b)⟩;have hck:=hOm.1;obtain⟨n1,n2,_⟩:=Zcxq b1 hE;obtain⟨M,m1,m2,rfl⟩:=Zdex hR hL hE;have hRM:RM w em.b (nkv M):=⟨es',c',hom,m1,n1,by rw[hck];exact n2⟩;have hcall:=Zdha em.b M w hRM m2 (Zdfl b3) (by rw[List.length_map]at b2;omega);rw[<-Zdiz,<-Zdgt]at hcall;have hfin:∀w1,Below w.heap.size w w1->Nx r h w r h w1/\Rep (Zcmd (k+1)) (Zp prog) G r h w1:=λw1 hB=>by
      refine⟨⟨Ext.refl r,hB.size,λb hb _=>hB.block b hb,λ_ _ x=>x,λ_ _ x=>x,hB.os,hB.tape,hB.output⟩,(⟨λn o hn=>?_,hR.inj,λn e he=>Nat.lt_of_lt_of_le (hR.low n e he) hB.size,hR.new,hR.glo⟩:Rep (Zcmd k) (Zp prog) G r h w1).weak Zcqr⟩;obtain⟨e2,he2,o2,ho2,hO2⟩:=hR.obj n o hn;exact⟨e2,he2,o2,by rw[hB.block _ (hR.low _ _ he2)];exact ho2,hO2⟩
     refine .inr ⟨Zcqy hN hb _ _,callsIn_wide.2 (Calls.mono hcall ?_)⟩;rintro en w1 ⟨rv,rfl,hown,hnil,hB⟩
     cases hs:srtN (Zdgs (M.map λe=>(e.1,e.2.2)))with
     | nil=>
      rw[hs]at hc hnil
      cases hc
      obtain rfl:=hnil rfl;obtain⟨y1,y2⟩:=hfin w1 hB;exact⟨r,_,rfl,y1,y2,.same rfl⟩
     | cons x xs=>
      rw[hs]at hc hown
      cases hc
      rcases hown.2 with⟨hx,h0⟩|⟨g,cap,cur',rfl,g1,g2,g3,g4,g5,g6⟩
      ·simp at h0
      ·have hgb:w.grownBy w1 none:=⟨hB.os,hB.tape,hB.output,hB.size,λi hi _=>hB.block i hi⟩
       have hOn:ObjR (Zp prog) r (2*k+1) ⟨g,0,cap*1,9⟩ (.cells ((x::xs).map Value.string) 9 0 false) (.cells cur' 9 (0,0)):=by
        refine⟨rfl,rfl,g5,?_,λhx=>(by rw[Zctd]at hx;cases hx),λj u hj=>⟨u,?_,.same ?_⟩,FzS.zero⟩
        ·rw[List.length_map];show(x::xs).length+0<=cap*1;omega
        ·rw[<-g6,List.getElem?_take]at hj
         split at hj
         ·simpa using hj
         ·cases hj
        ·rw[List.getElem?_map]at hj
         obtain⟨b,_,rfl⟩:=Option.map_eq_some_iff.1 hj;rfl
       obtain⟨y1,y2⟩:=hR.grown (h0:=h) (λ_ _ x=>x) (R:=none) (λb hb=>by cases hb) (λb hb=>by cases hb) hgb (nm:=2*k+1) (by omega) (by omega) (.inr g1) g2 hOn;exact⟨_,_,rfl,y2,y1,.slice (e:=⟨g,0,cap*1,9⟩) (c':=cap) (by simp[set1]) g3 (λhx=>(by rw[Zctd]at hx;cases hx)) (λ_=>by show CapR (0+0+cap*Zp _ _) cap (cap*1) (Zp _ _);rw[hz];exact⟨by omega,λhx _=>by omega,g4⟩)⟩
    | _=>exact hOm.elim
end Go.Proofs.YtokogjhcidkckaaGreatDoor.Exe
