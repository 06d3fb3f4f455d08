import Derived.Shelf.SlSortCmp.InsertionK
import Derived.Sort.LotA
import Derived.Shelf.SlicesE.Clone
import Derived.Shelf.Small.Strs
import Derived.Lib.OwnBridge
import Derived.Deep.RegionHeld2
import Derived.OrdersHeld
import Derived.Deep.RegionHeld
import Derived.Laws.Rows
import Derived.Test.YtghpcgagijhlaaaGreatDoorP07
set_option linter.all false
set_option maxRecDepth 100000
set_option maxHeartbeats 16000000
open Option renaming some->aA,none->aB
open Bool renaming true->aE,false->aF
open Or renaming inl->aG,inr->aH
open Go.Ending renaming returned->aL
open Go.Obj renaming cells->aI
open Go.IntKind renaming i64->aD
open Go.Value renaming slice->aJ,string->aK,pointer->aN,int->aC
open Bool renaming eq_false_iff->aHE,not_eq_true'->aHF,and_comm->aHG,false_ne_true->aHH
open Go.Lib renaming compareBytes->aHf
open Go.Proofs.Tryz
namespace Go.Proofs.Zq
open Go.RowKit Sha
instance:Inhabited bZ:=⟨⟨[],[],aF⟩⟩
def OI (x y:bZ):Int:=aHf x.idx y.idx
def yS (x y):ltOf OI x y=aE↔aHf x.idx y.idx= -1:=by unfold ltOf OI;rw[zBo];obtain h|h|h:=jG x.idx y.idx<;>omega
def sa:Go.Sort.SWO (ltOf OI):=by
 refine⟨λx=> ?_,λx y z d c=> ?_,λx y z d c=> ?_⟩
 .rw[aHE,Ne,yS,eP];decide
 .rw[yS]at*;exact oE d c
 .rw[aHE,Ne,yS]at*;intro h;have i:=iF x.idx y.idx;have g:=iF y.idx z.idx;obtain a|a|a:=jG x.idx y.idx
  .exact d a
  .rw[lJ a]at h;exact c h
  .obtain b|b|b:=jG y.idx z.idx
   .exact c b
   .rw[<-lJ b]at h;exact d h
   .have e:aHf y.idx x.idx= -1:=by{omega};have f:=oE e h;omega
def lF (I:zB)(l:List bZ):List bZ:=l.filter λu=>u.idx==I
def Oa {α:Type}(A B)(x y:α):((A++x::y::B).set (A.length+1) x).set A.length y=A++y::x::B:=by
 induction A with
 |nil=>rfl
 |cons a A i=>simp only[zCl,zAi,zDb,i]
def Ho {α} [Inhabited α] (d:Array α)(j)(h:j+1<d.size):
  ∃A B,d.toList=A++d[j]! ::d[j+1]! ::B/\(Go.Sort.swp d (j+1) j).toList=A++d[j+1]! ::d[j]! ::B:=by
 have b:j<d.toList.length:=by simpa using Nat.lt_of_succ_lt h
 have a:j+1<d.toList.length:=by simpa using h
 have f:d[j]! =d.toList[j]:=by rw[zGe d j (by simpa using b)];simp
 have e:d[j+1]! =d.toList[j+1]:=by rw[zGe d (j+1) h];simp
 have c:d.toList=d.toList.take j++d.toList[j]::d.toList[j+1]::d.toList.drop (j+2):=by rw[<-zGh a,<-zGh b,zEc]
 have hl:(d.toList.take j).length=j:=by rw[zBg];omega
 refine⟨d.toList.take j,d.toList.drop (j+2),by rw[f,e];exact c,?_⟩;unfold Go.Sort.swp;rw[zDx,zDx,f,e];have:=Oa (d.toList.take j) (d.toList.drop (j+2)) d.toList[j] d.toList[j+1];rw[<-c,hl]at this;exact this
def Uv (I)(d)(j)(h:j+1<d.size)(hl:ltOf OI d[j+1]! d[j]! =aE):lF I (Go.Sort.swp d (j+1) j).toList=lF I d.toList:=by
 obtain⟨A,B,g,f⟩:=Ho d j h;rw[yS]at hl;have c:(d[j+1]!).idx≠(d[j]!).idx:=λe=>by rw[e,eP]at hl;cases hl
 rw[g,f];unfold lF;rw[zDl,zDl];congr 1;by_cases b:(d[j]!).idx=I
 .have a:(d[j+1]!).idx≠I:=λe=>c (e.trans b.symm);rw[zAt (by simpa using a),zBd (by simpa using b),zBd (by simpa using b),zAt (by simpa using a)]
 .by_cases a:(d[j+1]!).idx=I
  .rw[zBd (by simpa using a),zAt (by simpa using b),zAt (by simpa using b),zBd (by simpa using a)]
  .rw[zAt (by simpa using a),zAt (by simpa using b),zAt (by simpa using b),zAt (by simpa using a)]
def size_swp {α} [Inhabited α] (d:Array α)(i j):(Go.Sort.swp d i j).size=d.size:=by unfold Go.Sort.swp;simp
def WE (I:zB)(a:Nat):∀(j:Nat)(d:Array bZ),j<d.size->lF I (Go.Sort.insInner (ltOf OI) a j d).toList=lF I d.toList/\(Go.Sort.insInner (ltOf OI) a j d).size=d.size
 |0,_,_=>⟨rfl,rfl⟩
 |j+1,d,h=>by rw[Go.Sort.insInner];split;{rename_i b;rw[zBc]at b;obtain⟨e,c⟩:=WE I a j (Go.Sort.swp d (j+1) j) (by rw[size_swp];omega);exact⟨e.trans (Uv I d j h b.2),c.trans (size_swp _ _ _)⟩};{exact⟨rfl,rfl⟩}
def IL (I:zB)(a b:Nat):∀(m i:Nat)(d:Array bZ),b-i=m->b<=d.size->lF I (Go.Sort.insOuter (ltOf OI) a b i d).toList=lF I d.toList/\(Go.Sort.insOuter (ltOf OI) a b i d).size=d.size
 |0,i,d,hm,_=>by rw[Go.Sort.insOuter,zAj (by omega)];exact⟨rfl,rfl⟩
 |m+1,i,d,hm,hb=>by rw[Go.Sort.insOuter,zAl (by omega)];obtain⟨f,e⟩:=WE I a i d (by omega);obtain⟨c,h⟩:=IL I a b m (i+1) (Go.Sort.insInner (ltOf OI) a i d) (by omega) (by omega);exact⟨c.trans f,h.trans e⟩
def cJ (us:List bZ):List bZ:=(Go.Sort.insertionSort (ltOf OI) us.toArray 0 us.length).toList
def GC (I)(us):lF I (cJ us)=lF I us:=by have:=(IL I 0 us.length _ 1 us.toArray rfl (by simp)).1;simpa [cJ,Go.Sort.insertionSort]using this
def mL (us):(cJ us).length=us.length:=by have:=(IL [] 0 us.length _ 1 us.toArray rfl (by simp)).2;simpa [cJ,Go.Sort.insertionSort]using this
def TG (us)(u):u∈cJ us↔u∈us:=by
 have h:∀l:List bZ,u∈l↔u∈lF u.idx l:=λl=>by unfold lF;rw[zAx];simp
 rw[h,h us,GC]
def vU (us):(cJ us).Pairwise λx y=>aHf y.idx x.idx≠-1:=by
 have c:=(Go.Sort.insertionSort_holds sa us.toArray 0 us.length (zBq _) (by simp)).2;have hl:=mL us;rw[List.pairwise_iff_getElem];intro i j hi e a;have h:=c i j (zBq _) a (by omega);have b:(Go.Sort.insertionSort (ltOf OI) us.toArray 0 us.length).size=us.length:=by simpa [cJ]using hl
 rw[zGe _ j (by omega),zGe _ i (by omega)]at h;intro d;have:ltOf OI (cJ us)[j] (cJ us)[i]=aE:=(yS _ _).2 d;simp only[cJ,Array.getElem_toList]at this;rw[this]at h;cases h
def gF:List bZ->List bZ
 |[]=>[]
 |[u]=>[u]
 |u::v::r=>if v.idx=u.idx then gF (v::r)else u::gF (v::r)
def dV (us:List bZ):List bZ:=gF (cJ us)
def nQ:∀{l:List bZ}{u:bZ},u∈gF l->u∈l
 |[],_,h=>h
 |[_],_,h=>h
 |a::b::r,u,h=>by
  rw[gF]at h;split at h;{exact zBl _ (nQ h)}
  .obtain h|h:=zAf.1 h
   .rw[h];exact zBj ..
   .exact zBl _ (nQ h)
def rQ {us u}(h:u∈dV us):u∈us:=(TG us u).1 (nQ h)
def uA:∀{l:List bZ},(l.Pairwise λx y=>aHf y.idx x.idx≠-1)->(gF l).Pairwise λx y=>aHf x.idx y.idx= -1
 |[],_=>List.Pairwise.nil
 |[u],_=>List.pairwise_singleton _ _
 |a::b::r,h=>by
  rw[zCx]at h;have j:=uA h.2;rw[gF];split;{exact j}
  .rename_i f;rw[zCx];refine⟨λu k=> ?_,j⟩;have d:=nQ k;have n:=h.1 u d;have g:=h.1 b (zBj ..);have e:=iF u.idx a.idx;obtain c|c|c:=jG u.idx a.idx
   .exact absurd c n
   .exfalso;obtain i|i:=zAf.1 d
    .rw[i]at c;exact f (lJ c)
    .have m:=(zCx.1 h.2).1 u i;rw[lJ c]at m;obtain q|q|q:=jG b.idx a.idx
     .exact g q
     .exact f (lJ q)
     .have:=iF b.idx a.idx;omega
   .omega
def GW (us):(dV us).Pairwise λx y=>aHf x.idx y.idx= -1:=uA (vU us)
def DZ (I:zB):∀{l:List bZ},(l.Pairwise λx y=>aHf y.idx x.idx≠-1)->(lF I (gF l)).getLast? =(lF I l).getLast?
 |[],_=>rfl
 |[u],_=>rfl
 |a::b::r,h=>by
  have i:=DZ I (zCx.1 h).2;rw[gF];split
  .rename_i d;rw[i];unfold lF;by_cases c:a.idx=I
   .have e:=d.trans c;rw[zBd (a:=a) (by simpa using c),zBd (a:=b) (by simpa using e),List.getLast?_cons_cons]
   .rw[zAt (a:=a) (by simpa using c)]
  .unfold lF at*;by_cases c:a.idx=I
   .rw[zBd (a:=a) (by simpa using c),zBd (a:=a) (by simpa using c),List.getLast?_cons,List.getLast?_cons,i]
   .rw[zAt (a:=a) (by simpa using c),zAt (a:=a) (by simpa using c),i]
def TY (I)(us):(lF I (dV us)).getLast? =(lF I us).getLast? :=by rw[dV,DZ I (vU us),GC]
def wW (I:zB):∀(us:List bZ)(l:List qW),eZ (dC l us) I=match(lF I us).getLast? with|some u=>(if u.gone then aB else aA u.val)|none=>eZ l I
 |[],_=>rfl
 |u::us,l=>by show eZ (dC (yG l u) us) I=_;rw[wW I us (yG l u),get_put];unfold lF;by_cases h:u.idx=I;{rw[zBd (by simpa using h),List.getLast?_cons,zAl h];cases(us.filter λu=>u.idx==I).getLast? <;>rfl};{rw[zAt (by simpa using h),zAj h]}
def PU {l:List qW}(hl:iB l)(us:List bZ):dC l (dV us)=dC l us:=
 BM (yH hl) (yH hl) λI=>by rw[wW,wW,TY]
end Go.Proofs.Zq
namespace Go.Proofs
open Go.Shelf
def Qz.Cy:Go.Shelf.Ren:=⟨λ|41=>60|n=>n,λ|22=>48|23=>53|4=>4|n=>n,λ|n=>n⟩
def Qz.Si:Go.Proofs.SlLaysE0.n41 zq Qz.Cy:={
 mixed:=by kernel_rfl
 f41:=⟨Tryz.f60.name,by decide,(Qz.fn func60).trans (congrArg aA (by kernel_rfl))⟩
 t4:=((Qz.eH 4).trans Tryz.underlying4)
 a4:=(λw=>(Qz.isAgg w 4).trans (Tryz.isAgg4 w))
 z4:=(λw=>(Qz.sizeOf w 4).trans (Tryz.sizeOf4 w))
 v4:=(λw=>(Qz.zeroValue w 4).trans (Tryz.zeroValue4 w))
 t22:=((Qz.eH 48).trans Tryz.underlying48)
 a22:=(λw=>(Qz.isAgg w 48).trans (Tryz.isAgg48 w))
 z22:=(λw=>(Qz.sizeOf w 48).trans (Tryz.sizeOf48 w))
 v22:=(λw=>(Qz.zeroValue w 48).trans (Tryz.zeroValue48 w))}
def Qz.Qj:Go.Shelf.Ren:=⟨λ|20=>101|n=>n,λ|24=>53|22=>48|3=>3|25=>120|4=>4|0=>0|n=>n,λ|n=>n⟩
def Qz.tp:Go.Proofs.SlLaysF0.n20 zq Qz.Qj:={
 mixed:=by kernel_rfl
 f20:=⟨Tryz.f101.name,by decide,(Qz.fn func101).trans (congrArg aA (by kernel_rfl))⟩
 t0:=((Qz.eH 0).trans Tryz.underlying0)
 a0:=(λw=>(Qz.isAgg w 0).trans (Tryz.isAgg0 w))
 z0:=(λw=>(Qz.sizeOf w 0).trans (Tryz.sizeOf0 w))
 v0:=(λw=>(Qz.zeroValue w 0).trans (Tryz.zeroValue0 w))
 t3:=((Qz.eH 3).trans Tryz.underlying3)
 a3:=(λw=>(Qz.isAgg w 3).trans (Tryz.isAgg3 w))
 z3:=(λw=>(Qz.sizeOf w 3).trans (Tryz.sizeOf3 w))
 v3:=(λw=>(Qz.zeroValue w 3).trans (Tryz.zeroValue3 w))
 t4:=((Qz.eH 4).trans Tryz.underlying4)
 a4:=(λw=>(Qz.isAgg w 4).trans (Tryz.isAgg4 w))
 z4:=(λw=>(Qz.sizeOf w 4).trans (Tryz.sizeOf4 w))
 v4:=(λw=>(Qz.zeroValue w 4).trans (Tryz.zeroValue4 w))
 t22:=((Qz.eH 48).trans Tryz.underlying48)
 a22:=(λw=>(Qz.isAgg w 48).trans (Tryz.isAgg48 w))
 z22:=(λw=>(Qz.sizeOf w 48).trans (Tryz.sizeOf48 w))
 v22:=(λw=>(Qz.zeroValue w 48).trans (Tryz.zeroValue48 w))
 t25:=((Qz.eH 120).trans Tryz.underlying120)
 a25:=(λw=>(Qz.isAgg w 120).trans (Tryz.isAgg120 w))
 z25:=(λw=>(Qz.sizeOf w 120).trans (Tryz.sizeOf120 w))
 v25:=(λw=>(Qz.zeroValue w 120).trans (Tryz.zeroValue120 w))}
def Qz.VV:Go.Shelf.Ren:=⟨λ|106=>63|213=>89|265=>103|n=>n,λ|9=>9|3=>3|n=>n,λ|n=>n⟩
def Qz.Wl:Go.Proofs.Lays.n106 zq Qz.VV:={
 mixed:=by kernel_rfl
 f106:=(Qz.fn func63).trans (congrArg aA (by kernel_rfl))
 f213:=(Qz.fn func89).trans (congrArg aA (by kernel_rfl))
 f265:=(Qz.fn func103).trans (congrArg aA (by kernel_rfl))
 t3:=((Qz.eH 3).trans Tryz.underlying3)
 a3:=(λw=>(Qz.isAgg w 3).trans (Tryz.isAgg3 w))
 z3:=(λw=>(Qz.sizeOf w 3).trans (Tryz.sizeOf3 w))
 v3:=(λw=>(Qz.zeroValue w 3).trans (Tryz.zeroValue3 w))
 t9:=((Qz.eH 9).trans Tryz.underlying9)
 a9:=(λw=>(Qz.isAgg w 9).trans (Tryz.isAgg9 w))
 z9:=(λw=>(Qz.sizeOf w 9).trans (Tryz.sizeOf9 w))
 v9:=(λw=>(Qz.zeroValue w 9).trans (Tryz.zeroValue9 w))}
open Go.RowKit in
def Qz.strings_Compare (a b:ByteArray)(w:zW):
  Calls zq 63 #[aK a,aK b] w λe c=>e=aL (aC aD (aHf a.data.toList b.data.toList))/\c=w:=Any.strings_Compare Qz.Wl a b w
end Go.Proofs
namespace Go.Proofs.Zq
open Go.RowKit Sha Go.Shelf Go.Sort
def Sf (x y)(W):Calls zq 62 #[.agg x.cells.toArray,.agg y.cells.toArray] W λe w=>e=aL (aC aD (OI x y))/\∃q o,w=grow (W.drewN q) o:=by have h:=λb=>Qz.strings_Compare ⟨x.idx.toArray⟩ ⟨y.idx.toArray⟩ b;have a:aHf (⟨x.idx.toArray⟩:ByteArray).data.toList (⟨y.idx.toArray⟩:ByteArray).data.toList=OI x y:=rfl;rw[a]at h;generalize OI x y=r at*;unfold bZ.cells;go_enter (Qz.fn func62),ntmps62;go_wp2_with (go_at_call 63;refine(h _).mono ?_;rintro e w ⟨rfl,rfl⟩);go_ret;exact⟨rfl,0,_,by rw[alloc_eq_grow,alloc_eq_grow,grow_grow];rfl⟩
def Sg (blk off size)(w):CmpLays zq 62 #[] bZ.cells 3 OI blk off size w:=λ_ _ _ _ x y=>Sf x y _
def de:∀args w,(callFunc 62 args).run zq w= .ok (.enter 62 args) w:=enters_of (Qz.fn func62) (by kernel_rfl) rfl
def QQ (g cap a b:Nat)(d:Array bZ)(w:zW)(k:HoldsK bZ.cells 3 w g 0 d)(i:g<w.heap.size)(h:a<=b)(j:b<=d.size)(f:d.size<=1000):
  Calls zq 101 #[aJ (aA ⟨g,0,aB⟩) d.size cap,aC aD a,aC aD b,.func (.func 62) #[] #[]] w λe c=>
   e=aL (.tuple #[])/\∃n os,c=sortWorldK bZ.cells 3 w g 0 n (insertionSort (ltOf OI) d a b) os:=
 AnyQ.insertionSortCmpFunc Qz.tp 3 (λw=>(Qz.isAgg w 53).trans (isAgg53 w)) (λw=>(Qz.sizeOf w 53).trans (sizeOf53 w)) bZ.cells (λ_=>rfl) EV OI 62 #[] g 0 cap a b d w de (Sg g 0 d.size w) k i h j (by omega)
def OB (us:List bZ)(i)(u)(h:us[i]? =aA u)(j)(b:j<3):(flatK bZ.cells 3 us.toArray)[i*3+j]! =(u.cells[j]?).getD default/\i*3+j<(flatK bZ.cells 3 us.toArray).size:=by
 have hi:=(zAp.1 h).1;have a:i*3+j<us.toArray.size*3:=by simp only[zAq];omega
 refine⟨?_,by rw[size_flatK];exact a⟩;rw[get_flatK _ _ _ _ a,show(i*3+j)/3=i by omega,show(i*3+j)%3=j by omega];have e:us.toArray[i]! =u:=by rw[zGe us.toArray i (by simpa using hi)];simpa using(zAp.1 h).2
 rw[e,List.getElem!_eq_getElem?_getD]
def Kh {w base g cap us}(h:cM w base (aJ (aA ⟨g,0,aB⟩) us.length cap) us):HoldsK bZ.cells 3 w g 0 us.toArray:=by
 intro t d;rw[size_flatK,zAq]at d;have hi:t/3<us.length:=by omega
 have a:=zAe hi;have c:=(OB us (t/3) _ a (t%3) (zFr _ (by omega))).1;have b:=h.cellAt (t/3) _ a (t%3) (zFr _ (by omega));rw[show t/3*3+t%3=t by omega]at c b;refine⟨?_,World.ownsRow.frozenAt h _⟩;rw[zAz,b,c];have:t%3<(us[t/3]).cells.length:=zFr _ (by omega);rw[zAe this];rfl
def Da {w g}{us:List bZ}(h:HoldsK bZ.cells 3 w g 0 us.toArray)(i)(u)(b:us[i]? =aA u)(j)(a:j<3):w.cell? ⟨g,i*3+j,aB⟩=u.cells[j]? :=by obtain⟨d,c⟩:=OB us i u b j a;have:=(h (i*3+j) c).1;rw[zAz,d]at this;rw[this];have:j<u.cells.length:=a;rw[zAe this];rfl
def qP {B w0 w g n d os}(h:Below B w0 w)(c:B<=g)(e:B<=w.heap.size):Below B w0 (sortWorldK bZ.cells 3 w g 0 n d os):=by
 have a:Below B w0 (putRow id (Go.Sort.ahead w n) g 0 (flatK bZ.cells 3 d)):=Lib.below_putRow h c;refine⟨a.os,a.tape,a.output,?_,λk b=> ?_⟩
 .show _<=(_++os).size;rw[zEi];exact zAv a.size (zFk _ _)
 .show(_++os)[k]? =_;rw[zDd (by show k<(putRow id (Go.Sort.ahead w n) g 0 (flatK bZ.cells 3 d)).heap.size;rw[size_putRow];show k<w.heap.size;omega)];exact a.block k b
def PN {w g n d os}:w.heap.size<=(sortWorldK bZ.cells 3 w g 0 n d os).heap.size:=size_sortWorldK_c bZ.cells 3 w g 0 n d os
def Qi (d)(a b)(h:b<=a+1):insertionSort (ltOf OI) d a b=d:=by exact insOuter_stop _ a b (a+1) d (by omega)
def ZG (base g cap)(us)(w)(i:cM w base (aJ (aA ⟨g,0,aB⟩) us.length cap) us)(t:base<=g)(j:g<w.heap.size)(L:us.length<=20):
  Calls zq 88 #[aJ (aA ⟨g,0,aB⟩) us.length cap,aC aD us.length,.func (.func 62) #[] #[]] w λe r=>
   e=aL (.tuple #[])/\HoldsK bZ.cells 3 r g 0 (cJ us).toArray/\Below base w r:=by
 have H0:=hid (Kh i);have u:Hid ((insertionSort (ltOf OI) us.toArray 0 us.length)=(cJ us).toArray):=by show _=_;simp[cJ]
 have f:=mL us;have l:base<=w.heap.size:=by omega
 by_cases J:us.length=20
 .have c:=QQ g cap 0 us.length us.toArray w H0.out j (zBq _) (by simp) (by simp;omega);rw[u.out]at c;have s:∀w1,HoldsK bZ.cells 3 w1 g 0 (cJ us).toArray->g<w1.heap.size->Calls zq 101 #[aJ (aA ⟨g,0,aB⟩) us.length cap,aC aD us.length,aC aD us.length,.func (.func 62) #[] #[]] w1 λe r=>e=aL (.tuple #[])/\∃n os,r=sortWorldK bZ.cells 3 w1 g 0 n (cJ us).toArray os:=λw1 p m=>by
   have h:=QQ g cap us.length us.length (cJ us).toArray w1 p m (zAa _) (by simp;omega) (by simp;omega);rw[Qi _ _ _ (by omega)]at h;rw[show(cJ us).toArray.size=us.length by simp[f]]at h;exact h
  have A:=hid s;rw[show us.toArray.size=us.length by simp]at c;have y:Hid (∀n os,HoldsK bZ.cells 3 (sortWorldK bZ.cells 3 w g 0 n (cJ us).toArray os) g 0 (cJ us).toArray):=λn os=>holdsK_sortWorldK_c bZ.cells 3 w g 0 us.toArray _ n os H0.out j (by simp[f]);have x:Hid (∀w1,HoldsK bZ.cells 3 w1 g 0 (cJ us).toArray->g<w1.heap.size->∀n os,HoldsK bZ.cells 3 (sortWorldK bZ.cells 3 w1 g 0 n (cJ us).toArray os) g 0 (cJ us).toArray):=λw1 p m n os=>holdsK_sortWorldK_c bZ.cells 3 w1 g 0 _ _ n os p m rfl;generalize(cJ us).toArray=D at*;rw[J]at*;have k:=c;have z:=hid A.out;have H:=hid k;go_enter (Qz.fn func88),ntmps88;go_wp2_with fail;go_loopg [7,8] 1 (λq a b wr=>(q=1/\a=aC aD 0/\b=aC aD 20/\wr=w)\/(q=0/\a=aC aD 20/\b=aC aD 40/\HoldsK bZ.cells 3 wr g 0 D/\Below base w wr/\g<wr.heap.size));case atStart=>exact aG ⟨rfl,rfl,rfl,rfl⟩
  case round=>
   obtain⟨rfl,rfl,rfl,rfl⟩|⟨rfl,rfl,rfl,p,m,K⟩:=hrel
   .go_wp2_with fail;refine H.out.mono ?_;rintro e w1 ⟨rfl,d,o,rfl⟩;go_wp2_with fail;go_roundg 0;case measure=>omega
    case rel=>
     go_light
     exact aH ⟨rfl,rfl,rfl,y.out d o,qP (zGn _ _) t l,zAc j PN⟩
   .have H1:=hid p;have F:=hid m;have E:=hid K;go_wp2_with fail;refine(z.out wr H1.out E.out).mono ?_;rintro e w1 ⟨rfl,d,o,rfl⟩;have C:=hid (x.out wr H1.out E.out d o);have B:Hid (Below base w (sortWorldK bZ.cells 3 wr g 0 d D o)):=qP F.out t (zAv (by omega) F.out.size);generalize sortWorldK bZ.cells 3 wr g 0 d D o=w2 at*;go_wp2_with fail;go_loopg [6] 0 (λq v w3=>v=aC aD 20/\w3=w2);case atStart=>exact⟨rfl,rfl⟩
    case round=>
     obtain⟨rfl,rfl⟩:=hrel
     go_wp2_with fail
     go_end0
     exact⟨rfl,C.out,B.out⟩
 .have c:=QQ g cap 0 us.length us.toArray w H0.out j (zBq _) (by simp) (by simp;omega);rw[u.out]at c;rw[show us.toArray.size=us.length by simp]at c;have y:Hid (∀n os,HoldsK bZ.cells 3 (sortWorldK bZ.cells 3 w g 0 n (cJ us).toArray os) g 0 (cJ us).toArray):=λn os=>holdsK_sortWorldK_c bZ.cells 3 w g 0 us.toArray _ n os H0.out j (by simp[f]);clear u;generalize(cJ us).toArray=D at*;have H:=hid c;clear c H0;have I:¬((20:Int)<=(us.length:Int)):=by{omega};have G:¬((20:Int)<(us.length:Int)):=by{omega};generalize us.length=n at*;go_enter (Qz.fn func88),ntmps88;go_wp2_with fail;go_loopg [7,8] 0 (λq a b wr=>a=aC aD 0/\b=aC aD 20/\wr=w);case atStart=>exact⟨rfl,rfl,rfl⟩
  case round=>
   obtain⟨rfl,rfl,rfl⟩:=hrel
   go_wp2_with fail
   refine H.out.mono ?_
   rintro e w1 ⟨rfl,d,o,rfl⟩
   have C:=hid (y.out d o)
   have B:Hid (Below base wr (sortWorldK bZ.cells 3 wr g 0 d D o)):=qP (zGn _ _) t l
   generalize sortWorldK bZ.cells 3 wr g 0 d D o=w2 at*
   go_wp2_with fail
   go_loopg [6] 0 (λq v w3=>v=aC aD 20/\w3=w2)
   case atStart=>exact⟨rfl,rfl⟩
   case round=>
    obtain⟨rfl,rfl⟩:=hrel
    go_wp2_with fail
    go_end0
    exact⟨rfl,C.out,B.out⟩
def GD (base g cap)(us)(w)(h:cM w base (aJ (aA ⟨g,0,aB⟩) us.length cap) us)(f:base<=g)(c:g<w.heap.size)(a:us.length<=20):
  Calls zq 61 #[aJ (aA ⟨g,0,aB⟩) us.length cap,.func (.func 62) #[] #[]] w λe b=>
   e=aL (.tuple #[])/\HoldsK bZ.cells 3 b g 0 (cJ us).toArray/\Below base w b:=by
 have d:=ZG base g cap us w h f c a;generalize us.length=n at*;generalize(cJ us).toArray=D at*;go_enter (Qz.fn func61),ntmps61;go_wp2_with fail;refine d.mono ?_;rintro e w1 ⟨rfl,j,i⟩;go_wp2_with fail;go_end0;exact⟨rfl,j,i⟩
def Tc (w:zW)(v:zY)(us:List bZ):Prop:=(us=[]/\∃a c,v=aJ a 0 c)\/∃g o c,v=aJ (aA ⟨g,o,aB⟩) us.length c/\g<w.heap.size/\∀j u,(cK us)[j]? =aA u->w.cell? ⟨g,o+j,aB⟩=aA u
def JZ (g o c)(us)(w)(hl:us.length<=1000)(l:∀j u,(cK us)[j]? =aA u->w.cell? ⟨g,o+j,aB⟩=aA u):
  Calls zq 60 #[aJ (aA ⟨g,o,aB⟩) us.length c] w λe b=>∃v,e=aL v/\cM b w.heap.size v us/\v≠aJ aB 0 0/\zb w b:=by
 obtain⟨i,hi,d,h,a⟩:=FV;exact AnyE.slices_Clone Qz.Si i _ 3 40 hi d h a rfl (by omega) (λw=>(Qz.sizeOf w 53).trans (sizeOf53 w)) g o us.length c (cK us) w (nD us) (by simp only[maxLen];omega) (by omega) l (λu k=>by obtain⟨x,_,f⟩:=List.mem_flatMap.1 k;exact EV x u f)
def emit (S:List bZ)(i:Nat):Option bZ:=
 match S[i]?,S[i+1]? with
 |some u,aB=>aA u
 |some u,aA v=>if v.idx=u.idx then aB else aA u
 |none,_=>aB
def wC:∀S:List bZ,gF S=(List.range S.length).filterMap (emit S)
 |[]=>rfl
 |[u]=>rfl
 |u::v::r=>by
  have i:=wC (v::r);have e:(List.range (u::v::r).length).filterMap (emit (u::v::r))=([0].filterMap (emit (u::v::r)))++(List.range (v::r).length).filterMap (emit (v::r)):=by rw[zAi,List.range_succ_eq_map,show(0::(List.range (v::r).length).map Nat.succ)=[0]++(List.range (v::r).length).map Nat.succ from rfl,zDs,List.filterMap_map];rfl
  rw[e,gF,i];have a:emit (u::v::r) 0=if v.idx=u.idx then aB else aA u:=rfl
  rw[zDz,List.filterMap_nil,a];by_cases h:v.idx=u.idx;{rw[zAl h,zAl h];rfl};{rw[zAj h,zAj h];rfl}
def oR (S:List bZ)(t:Nat):List bZ:=(List.range t).filterMap (emit S)
def Ao (S)(t):oR S (t+1)=oR S t++(emit S t).toList:=by unfold oR;rw[List.range_succ,zDs,zDz,List.filterMap_nil];cases emit S t<;>rfl
def ND (S)(t):(oR S t).length<=t:=by have:=zGj (emit S) (List.range t);rw[List.length_range]at this;exact this
def Qh (v fv)(w):Calls zq 101 #[v,aC aD 0,aC aD 0,fv] w λe a=>e=aL (.tuple #[])/\a=w:=by
 go_enter (Qz.fn func101),ntmps101;go_wp2_with fail;go_loopg [8] 0 (λq i wr=>i=aC aD 1/\wr=w);case atStart=>exact⟨rfl,rfl⟩
 case round=>
  obtain⟨rfl,rfl⟩:=hrel
  go_wp2_with fail
  go_end0
  exact⟨rfl,rfl⟩
def TE (v fv)(w):Calls zq 88 #[v,aC aD 0,fv] w λe c=>e=aL (.tuple #[])/\c=w:=by
 go_enter (Qz.fn func88),ntmps88;go_wp2_with fail;go_loopg [7,8] 0 (λq a b wr=>a=aC aD 0/\b=aC aD 20/\wr=w);case atStart=>exact⟨rfl,rfl,rfl⟩
 case round=>
  obtain⟨rfl,rfl,rfl⟩:=hrel
  go_wp2_with fail
  refine(Qh v fv wr).mono ?_
  rintro e w1 ⟨rfl,rfl⟩
  go_wp2_with fail
  go_loopg [6] 0 (λq d w3=>d=aC aD 20/\w3=w1)
  case atStart=>exact⟨rfl,rfl⟩
  case round=>
   obtain⟨rfl,rfl⟩:=hrel
   go_wp2_with fail
   go_end0
   exact⟨rfl,rfl⟩
def EI (a)(c)(fv)(w):Calls zq 61 #[aJ a 0 c,fv] w λe b=>e=aL (.tuple #[])/\b=w:=by go_enter (Qz.fn func61),ntmps61;go_wp2_with fail;refine(TE _ fv w).mono ?_;rintro e w1 ⟨rfl,rfl⟩;go_wp2_with fail;go_end0;exact⟨rfl,rfl⟩
def xZ (a)(c)(w)(p:∀x,a=aA x->∃g o,x=⟨g,o,aB⟩):
  Calls zq 39 #[aJ a 0 c] w λe b=>∃f,e=aL f/\cM b w.heap.size f []/\zb w b:=by
 have n:Calls zq 60 #[aJ a 0 c] w λe b=>∃d v,e=aL (aJ d 0 v)/\zb w b:=by
  cases a with
  |none=>exact(AnyE.slices_Clone_nil Qz.Si 0 c w).mono λe b ⟨m,l⟩=>⟨aB,0,m,by rw[l];exact zGn _ _⟩
  |some x=>
   obtain⟨g,o,rfl⟩:=p x rfl;exact(JZ g o c [] w (by simp) (λj u h=>by cases h)).mono λe b ⟨f,m,l,_,r⟩=>by obtain⟨d,v,rfl,_⟩:=l.len;exact⟨d,v,m,r⟩
 go_enter (Qz.fn func39),ntmps39;go_wp2_with fail;refine n.mono ?_;rintro e w1 ⟨d,v,rfl,hb⟩;have B:=hid hb;go_wp2_with fail;refine(EI d v _ w1).mono ?_;rintro e w2 ⟨rfl,k⟩;obtain rfl:w1=w2:=k.symm;go_wp2_with fail;go_loopg [4,13] 0 (λq out i wr=>out=aJ aB 0 0/\i=aC aD 0/\wr=w1);case atStart=>exact⟨rfl,rfl,rfl⟩
 case round=>
  obtain⟨rfl,rfl,rfl⟩:=hrel
  go_wp2_with fail
  go_ret
  exact⟨_,rfl,cM.nil _ _,B.out⟩
def PS (g0 o c)(us)(w)(hn:0<us.length)(ly:us.length<=20)(x:∀j u,(cK us)[j]? =aA u->w.cell? ⟨g0,o+j,aB⟩=aA u):
  Calls zq 39 #[aJ (aA ⟨g0,o,aB⟩) us.length c] w λe m=>∃r,e=aL r/\cM m w.heap.size r (dV us)/\zb w m:=by
 have hc:=JZ g0 o c us w (by omega) x;have HC:=hid hc;have HS:Hid (∀g cap w1,cM w1 w.heap.size (aJ (aA ⟨g,0,aB⟩) us.length cap) us->w.heap.size<=g->g<w1.heap.size->Calls zq 61 #[aJ (aA ⟨g,0,aB⟩) us.length cap,.func (.func 62) #[] #[]] w1 λe m=>e=aL (.tuple #[])/\HoldsK bZ.cells 3 m g 0 (cJ us).toArray/\Below w.heap.size w1 m):=λg cap w1 K A h3=>GD w.heap.size g cap us w1 K A h3 ly;have HF:Hid (dV us=oR (cJ us) us.length):=by show gF (cJ us)=_;rw[wC,mL];rfl
 have hSl:=mL us;rw[HF.out];clear hc HF;generalize cJ us=S at*;have HL:Hid (∀r m,cM m w.heap.size r us->∃g cap,r=aJ (aA ⟨g,0,aB⟩) us.length cap/\w.heap.size<=g/\g<m.heap.size):=λr m h=>by obtain⟨va,cc,e,A⟩:=h.len;obtain⟨g,rfl,h3,h4⟩:=A hn;exact⟨g,cc,e,h3,h4⟩
 go_enter (Qz.fn func39),ntmps39;go_wp2_with fail;refine HC.out.mono ?_;rintro e w1 ⟨r,rfl,a,_,hb⟩;obtain⟨g,cap,rfl,kx,I⟩:=HL.out r w1 a;have B1:=hid hb;have O1:=hid a;clear hb a HC HL;go_wp2_with fail;refine(HS.out g cap w1 O1.out kx I).mono ?_;rintro e w2 ⟨rfl,hh,y⟩;have F:=hid (B1.out.trans y);have K2:=hid hh;have Z:=zAc I y.size;clear y hh HS B1 O1;generalize hN:us.length=N at*;have HN0:=hid hN;clear hN;go_wp2_with fail;go_loopg [4,13] N (λq out i wr=>∃t:Nat,t+q=N/\i=aC aD (t:Int)/\zb w wr/\zb w2 wr/\cM wr w2.heap.size out (oR S t));case atStart=>exact⟨0,by omega,rfl,F.out,zGn _ _,cM.nil _ _⟩
 case round=>
  obtain⟨t,ht,rfl,b1,b2,b3⟩:=hrel
  have T:=hid b1
  have O:=hid b2
  have C3:=hid b3
  clear b1 b2 b3
  by_cases bX:t<N
  .have hSt:t<S.length:=by omega
   have K3:Hid (∀W,zb w2 W->∀i u,S[i]? =aA u->∀j,j<3->W.cell? ⟨g,i*3+j,aB⟩=u.cells[j]?):=λW hW i u P j Y=>by rw[hW.cell Z];exact Da K2.out i u P j Y
   have P:=zAe hSt;have C:=hid (Ao S t);have Q:=hid P;clear P;have r0:wr.rangeAt g (t*3) S[t].cells:=λj v hv=>by have Y:=(zAp.1 hv).1;rw[K3.out wr O.out t _ Q.out j Y];exact hv
   generalize S[t]=u at*;obtain⟨b,d,f⟩:=u;have fl:(t:Int)<(N:Int):=by{omega};have ht0:(0:Int)<=(t:Int):=by{omega};have r1:wr.rangeAt g (t*3) [aK ⟨b.toArray⟩,aK ⟨d.toArray⟩,.bool f]:=r0;clear r0;go_upto_region 7 with(refine wpList_load_mid rfl 53 _ rfl g (t*3) rfl _ _ r1 ((Qz.eH 53).trans underlying53) rfl (by kernel_rfl) ?_)
   have Ka:Hid (bW (wr.alloc (aI #[aK ⟨b.toArray⟩,aK ⟨d.toArray⟩,.bool f] 53)) wr.heap.size 53 #[aK ⟨b.toArray⟩,aK ⟨d.toArray⟩,.bool f]):=bW.new _ _ _;have Ca:Hid (zb w (wr.alloc (aI #[aK ⟨b.toArray⟩,aK ⟨d.toArray⟩,.bool f] 53))):=T.out.alloc T.out.size _;have Cb:Hid (zb w2 (wr.alloc (aI #[aK ⟨b.toArray⟩,aK ⟨d.toArray⟩,.bool f] 53))):=O.out.alloc O.out.size _;have Cc:Hid (cM (wr.alloc (aI #[aK ⟨b.toArray⟩,aK ⟨d.toArray⟩,.bool f] 53)) w2.heap.size u4 (oR S t)):=C3.out.alloc _;have HN:=hid O.out.size;generalize wr.alloc (aI #[aK ⟨b.toArray⟩,aK ⟨d.toArray⟩,.bool f] 53)=l at*;clear T O C3 r1;generalize wr.heap.size=B at*;have p0:l.cell? ⟨B,0,aB⟩=aA (aK ⟨b.toArray⟩):=by{rw[Ka.out.cell];rfl};by_cases X:t+1=N
   .have hq:(t:Int)+1=(N:Int):=by omega
    have H:Hid ((emit S t).toList=[⟨b,d,f⟩]):=by show(emit S t).toList=_;have K:S[t+1]? =aB:=List.getElem?_eq_none (by omega);unfold emit;rw[Q.out,K];rfl
    go_quiet (fail);have Dk:Hid (bW (l.drewN nq) B 53 #[aK ⟨b.toArray⟩,aK ⟨d.toArray⟩,.bool f]):=Ka.out.drewN nq;have R:Hid (zb w (l.drewN nq)):=below_drewN Ca.out nq;have E:Hid (zb w2 (l.drewN nq)):=below_drewN Cb.out nq;have D:Hid (cM (l.drewN nq) w2.heap.size u4 (oR S t)):=Cc.out.kept λ_ _=>rfl;generalize l.drewN nq=U at*;have s:(oR S t).length<=1000000:=by{have:=ND S t;omega};have k:w2.heap.size<=U.heap.size:=E.out.size;go_wp2_with (first|(refine zGv rfl 53 _ rfl B rfl 53 _ (0,0) _ Dk.out ((Qz.eH 53).trans underlying53) rfl (by kernel_rfl) ?_)|(at_builtin;refine kK rfl _ _ rfl w2.heap.size _ _ rfl D.out ⟨b,d,f⟩ 1 rfl s k ?_;intro g' L m a n));go_roundg (N-(t+1));case measure=>omega
    case rel=>
     go_light
     refine⟨t+1,by omega,by go_num,eX R.out D.out n F.out.size (zAv F.out.size k),eX E.out D.out n (zAa _) k,?_⟩
     rw[C.out,H.out]
     have hl:(oR S t++[(⟨b,d,f⟩:bZ)]).length=(oR S t).length+1:=by simp
     exact a
   .have hq:¬(t:Int)+1=(N:Int):=by{omega};have J:t+1<S.length:=by{omega};have aCi:(t:Int)+1<(N:Int):=by{omega};have az:IntKind.i64.wrap ((t:Int)+1)=(t:Int)+1:=by{rw[zGs];omega};have ht1:(0:Int)<=(t:Int)+1:=by{omega};have ht2:((t:Int)+1).toNat=t+1:=by omega
    have p1:l.cell? ⟨g,(t+1)*3,aB⟩=aA (aK ⟨S[t+1].idx.toArray⟩):=by have:=K3.out l Cb.out (t+1) _ (zAe J) 0 (by omega);rw[zFs]at this;exact this
    have M:Hid (S[t+1]? =aA S[t+1]):=zAe J;generalize S[t+1]=v at*;obtain⟨V,vV,vG⟩:=v;dsimp only at p1;go_quiet (fail);have Dk:Hid (bW (l.drewN nq) B 53 #[aK ⟨b.toArray⟩,aK ⟨d.toArray⟩,.bool f]):=Ka.out.drewN nq;have R:Hid (zb w (l.drewN nq)):=below_drewN Ca.out nq;have E:Hid (zb w2 (l.drewN nq)):=below_drewN Cb.out nq;have D:Hid (cM (l.drewN nq) w2.heap.size u4 (oR S t)):=Cc.out.kept λ_ _=>rfl;generalize l.drewN nq=U at*;have G:((t:Int)+1==(N:Int))=aF:=by{rw[zBy];exact hq};by_cases p:V=b
    .have z:(((t:Int)+1==(N:Int))|| !(V==b))=aF:=by rw[G,p];simp
     have H:Hid ((emit S t).toList=[]):=by show(emit S t).toList=_;unfold emit;rw[Q.out,M.out];dsimp only;rw[zAl p];rfl
     rw[z];go_wp2_with fail;go_roundg (N-(t+1));case measure=>omega
     case rel=>
      go_light
      refine⟨t+1,by omega,by go_num,R.out,E.out,?_⟩
      rw[C.out,H.out,zAy]
      exact D.out
    .have z:(((t:Int)+1==(N:Int))|| !(V==b))=aE:=by
      rw[G,zGc,aHF,zBy];exact p
     have H:Hid ((emit S t).toList=[⟨b,d,f⟩]):=by show(emit S t).toList=_;unfold emit;rw[Q.out,M.out];dsimp only;rw[zAj p];rfl
     rw[z];have s:(oR S t).length<=1000000:=by{have:=ND S t;omega};have k:w2.heap.size<=U.heap.size:=E.out.size;go_wp2_with (first|(refine zGv rfl 53 _ rfl B rfl 53 _ (0,0) _ Dk.out ((Qz.eH 53).trans underlying53) rfl (by kernel_rfl) ?_)|(at_builtin;refine kK rfl _ _ rfl w2.heap.size _ _ rfl D.out ⟨b,d,f⟩ 1 rfl s k ?_;intro g' L m a n));go_roundg (N-(t+1));case measure=>omega
     case rel=>
      go_light
      refine⟨t+1,by omega,by go_num,eX R.out D.out n F.out.size (zAv F.out.size k),eX E.out D.out n (zAa _) k,?_⟩
      rw[C.out,H.out]
      have hl:(oR S t++[(⟨b,d,f⟩:bZ)]).length=(oR S t).length+1:=by simp
      exact a
  .obtain rfl:t=N:=by{omega};go_wp2_with fail;go_ret;refine⟨_,rfl,?_,T.out⟩;rw[HN0.out];obtain⟨K,A⟩:=C3.out;refine⟨K,?_⟩;obtain A|⟨gg,cp,cur,e1,e2,e3⟩:=A;{exact aG A};{exact aH ⟨gg,cp,cur,e1,zAv F.out.size e2,e3⟩}
open Go.RowKit Sha
def EL (u:bZ):Bool:=decide (u.idx.length=32)&&(decide (u.val.length<=100)&&(!u.gone||decide (u.val=[])))
def WC (v)(us)(w)(hl:us.length<=1000)(M:Tc w v us)(hs:∀u∈us,u.idx.length<=1000000/\u.val.length<=1000000):
  Calls zq 38 #[v] w λe N=>e=aL (.bool (us.all EL))/\zb w N:=by
 have HV:=hid M;obtain⟨z,J,rfl,A⟩:∃z J,v=aJ z us.length J/\(0<us.length->∃g o,z=aA ⟨g,o,aB⟩/\g<w.heap.size/\∀j u,(cK us)[j]? =aA u->w.cell? ⟨g,o+j,aB⟩=aA u):=by obtain⟨rfl,a,c,rfl⟩|⟨g,o,c,rfl,m,l⟩:=M;{exact⟨a,c,rfl,λh=>by simp at h⟩};{exact⟨_,c,rfl,λ_=>⟨g,o,rfl,m,l⟩⟩}
 have X:Hid (∀t,t<=us.length->(∀i u,i<t->us[i]? =aA u->EL u=aE)->t=us.length->us.all EL=aE):=λt _ h e=>by rw[zBt];intro u k;obtain⟨i,hi⟩:=List.getElem?_of_mem k;exact h i u (by rw[e];exact(zAp.1 hi).1) hi
 have G:Hid (∀t u,us[t]? =aA u->EL u=aF->us.all EL=aF):=λt u p m=>by rw[List.all_eq_false];exact⟨u,zCr p,by rw[m];decide⟩
 generalize us.all EL=Y at*;go_enter (Qz.fn func38),ntmps38;go_wp2_with fail;go_loopg [7] us.length (λq i wr=>∃t:Nat,t+q=us.length/\i=aC aD (t:Int)/\zb w wr/\∀i u,i<t->us[i]? =aA u->EL u=aE);case atStart=>exact⟨0,by omega,rfl,zGn _ _,λi u h=>by omega⟩
 case round=>
  obtain⟨t,ht,rfl,V,U⟩:=hrel
  have s:=hid V
  have I:=hid U
  by_cases bX:t<us.length
  .obtain⟨g,o,rfl,Q,R⟩:=A (by omega);have n:=hid (zAe bX);have E:=hs us[t] (zCt _);have r0:wr.rangeAt g (o+t*3) us[t].cells:=λj x L=>by
    have P:=(zAp.1 L).1;rw[s.out.cell Q,zCi];exact R _ _ (by rw[rK us t _ n.out j P];exact L)
   generalize us[t]=u at*;obtain⟨d,b,f⟩:=u;have r1:wr.rangeAt g (o+t*3) [aK ⟨d.toArray⟩,aK ⟨b.toArray⟩,.bool f]:=r0;have D:(t:Int)<(us.length:Int):=by{omega};have O:(0:Int)<=(t:Int):=by{omega};go_upto_region 4 with(refine wpList_load_mid rfl 53 _ rfl g (o+t*3) rfl _ _ r1 ((Qz.eH 53).trans underlying53) rfl (by kernel_rfl) ?_)
   have K:Hid (bW (wr.alloc (aI #[aK ⟨d.toArray⟩,aK ⟨b.toArray⟩,.bool f] 53)) wr.heap.size 53 #[aK ⟨d.toArray⟩,aK ⟨b.toArray⟩,.bool f]):=bW.new _ _ _;have C:Hid (zb w (wr.alloc (aI #[aK ⟨d.toArray⟩,aK ⟨b.toArray⟩,.bool f] 53))):=s.out.alloc s.out.size _;generalize wr.alloc (aI #[aK ⟨d.toArray⟩,aK ⟨b.toArray⟩,.bool f] 53)=y at*;clear s r1;generalize wr.heap.size=B at*;have p0:y.cell? ⟨B,0,aB⟩=aA (aK ⟨d.toArray⟩):=by{rw[K.out.cell];rfl};have Z:y.cell? ⟨B,1,aB⟩=aA (aK ⟨b.toArray⟩):=by{rw[K.out.cell];rfl};have p2:y.cell? ⟨B,2,aB⟩=aA (.bool f):=by{rw[K.out.cell];rfl};dsimp only at E;have s0:(⟨d.toArray⟩:ByteArray).size=d.length:=by{simp[ByteArray.size]};have s1:(⟨b.toArray⟩:ByteArray).size=b.length:=by{simp[ByteArray.size]};by_cases p:d.length=32
   .by_cases m:b.length<=100
    .have F:¬(100:Int)<(b.length:Int):=by{omega};cases f with
     |false=>
      have H:EL ⟨d,b,aF⟩=aE:=by{simp[EL,p,m]};go_wp2_with fail;go_roundg (us.length-(t+1));case measure=>omega
      case rel=>
       go_light
       refine⟨t+1,by omega,by go_num,C.out,λi u hi k=> ?_⟩
       by_cases e:i=t
       .subst e;rw[n.out]at k;rw[<-zAm k];exact H
       .exact I.out i u (by omega) k
     |true=>
      by_cases l:b=[]
      .have H:EL ⟨d,b,aE⟩=aE:=by{simp[EL,p,l]};subst l;go_wp2_with fail;go_roundg (us.length-(t+1));case measure=>omega
       case rel=>
        go_light
        refine⟨t+1,by omega,by go_num,C.out,λi u hi k=> ?_⟩
        by_cases e:i=t
        .subst e;rw[n.out]at k;rw[<-zAm k];exact H
        .exact I.out i u (by omega) k
      .have H:EL ⟨d,b,aE⟩=aF:=by{simp[EL,l]};have S:b.isEmpty=aF:=by{simpa using l};have r:=hid (G.out t _ n.out H);go_wp2_with fail;go_ret;exact⟨by rw[r.out];rfl,C.out⟩
    .have F:(100:Int)<(b.length:Int):=by{omega};have H:EL ⟨d,b,f⟩=aF:=by{simp[EL,m]};have r:=hid (G.out t _ n.out H);go_wp2_with fail;go_ret;exact⟨by rw[r.out];rfl,C.out⟩
   .have T:¬(d.length:Int)=32:=by{omega};have H:EL ⟨d,b,f⟩=aF:=by{simp[EL,p]};have r:=hid (G.out t _ n.out H);go_wp2_with fail;go_ret;exact⟨by rw[r.out];rfl,C.out⟩
  .have W:=hid (X.out t (by omega) I.out (by omega));have D:¬(t:Int)<(us.length:Int):=by{omega};go_wp2_with fail;go_ret;exact⟨by rw[W.out];rfl,s.out⟩
open Go Go.RowKit Sha Go.Ga Go.Ren
def yA:dV []=[]:=List.eq_nil_iff_forall_not_mem.2 λu h=>by simpa using rQ h
def yX:∀l:List bZ,(gF l).length<=l.length
 |[]=>zAa _
 |[_]=>zAa _
 |a::b::r=>by have:=yX (b::r);rw[gF];split;{simp only[zAi]at*;omega};{simp only[zAi]at*;omega}
def PX (us):(dV us).length<=us.length:=by have:=yX (cJ us);rw[mL]at this;exact this
def PV {w base v us}(h:cM w base v us)(c:us.length<=20):
  Calls zq 39 #[v] w λe d=>∃f,e=aL f/\cM d w.heap.size f (dV us)/\zb w d:=by
 obtain⟨rfl,m⟩|⟨g,cap,cur,rfl,hb,k,p,o,n,l⟩:=h.2
 .have e:=zDp m;subst e;rw[yA];exact xZ aB 0 w (λx a=>by cases a)
 .by_cases i:us.length=0
  .have e:=zDp i;subst e;rw[yA];exact xZ (aA ⟨g,0,aB⟩) cap w (λx a=>by injection a with a;exact⟨g,0,a.symm⟩)
  .refine PS g 0 cap us w (by omega) c λj u b=> ?_;rw[zAz,zHf w g j cur 53 (0,0) k];rw[<-l,zCo]at b;split at b
   .rw[<-zBr];exact b
   .cases b
def cM.ru {w base v us}(h:cM w base v us):Tc w v us:=by
 obtain⟨rfl,d⟩|⟨g,cap,cur,rfl,hb,b,i,f,e,c⟩:=h.2
 .exact aG ⟨zDp d,aB,0,rfl⟩
 .refine aH ⟨g,0,cap,rfl,(zAb.1 b).1,λj u a=> ?_⟩;rw[zAz,zHf w g j cur 53 (0,0) b];rw[<-c,zCo]at a;split at a
  .rw[<-zBr];exact a
  .cases a
def Zt:∃i,zq.info? 9=aA i/\i.zero=aA (aK ⟨#[]⟩)/\i.size=1/\i.bytes=16:=QR (by kernel_rfl)
def By {w hb b n H}(l:fA YH w hb 9 1 (aJ (aA ⟨hb,0,aB⟩) n b) n (gW H))(I:n<=1000)(x){vb}(p:w.heap[vb]? =aA (aI #[aK ⟨x.toArray⟩] 9 (0,0)))(bX:hb<=w.heap.size):
  ∃a h W,(∀ty,(Builtin.append_ #[82,82] ty #[aJ (aA ⟨hb,0,aB⟩) n b,aJ (aA ⟨vb,0,aB⟩) 1 1]).run zq w= .ok (aJ (aA ⟨a,0,aB⟩) (n+1) h) W)/\w.grownBy W (aA hb)/\(a=hb\/a=w.heap.size)/\fA YH W a 9 1 (aJ (aA ⟨a,0,aB⟩) (n+1) h) (n+1) (gW (H++[x])):=by
 obtain⟨it,ti,o,t,f⟩:=Zt;have G:=λty=>tN w YH hb 82 ty 9 it _ 1 16 ((Qz.eH 82).trans underlying82) ti o t f rfl (by omega) (λx k=>by simp[Value.cells]at k;exact⟨_,k⟩) _ n _ l.1 l.2 ⟨vb,0,aB⟩ 1 1 [aK ⟨x.toArray⟩] rfl (λj u q=>by rw[addr_add,zAz,zHf w vb j _ 9 (0,0) p];simpa using q) (λu g=>by rw[zAn.1 g];rfl) (λu g=>by rw[zAn.1 g];exact⟨_,rfl⟩) (Nat.succ_pos _) (by simp only[maxLen];omega) (by omega) bX
 obtain⟨m,c,W,z,y,v,s,r⟩:=G 0;have i:fA YH W hb 9 1 (aJ (aA ⟨m,0,aB⟩) (n+1) c) (n+1) (gW H++[aK ⟨x.toArray⟩]):=⟨y,r⟩;obtain⟨d,F,J,E,D,C,B,A⟩:=i.row;refine⟨m,c,W,λty=>z,v,?_,fA.of d F (zAa _) E D C (by rw[B];simp[gW]) A⟩;obtain e|e:=s
 .exact aG (zAm e).symm
 .exact aH e
end Go.Proofs.Zq
namespace Go.Proofs.Zq.AnyX
open Go
section
variable {P:zZ}{ops:zQ}{Q:zX}{md:Region.Mode}{S:zW->Prop}{late:Nat->Bool}
def early (ops:zQ)(late:Nat->Bool)(listed:Array Bool):Bool:=(List.range ops.size).all λs=> !(late s)|| !(listed.getD s aF)
def BY {listed i}(h:early ops late listed=aE)(hi:late i=aF):early ops late (listed.setIfInBounds i aE)=aE:=by
 refine zBt.2 λs a=> ?_;have:=zBt.1 h s a;by_cases e:i=s
 .subst e;rw[hi];rfl
 .rw[getD_set_ne aF e];exact this
def jO (P:zZ)(md:Region.Mode)(ops:zQ)(Q:zX)(S:zW->Prop)(late:Nat->Bool):Nat->Array Bool->Act->zW->Prop
 |0,listed,a,w=>Region.ready md ops listed=[]/\Q .normal a w
 |fuel+1,listed,a,w=>
  (Region.ready md ops listed=[]->Q .normal a w)/\
  ∀i∈Region.ready md ops listed,wpOp P ops Q i (λc b=>(early ops late (listed.setIfInBounds i aE)=aE->S b)/\jO P md ops Q S late fuel (listed.setIfInBounds i aE) c b) a w
def FO:∀(fuel:Nat)(listed:Array Bool)(a:Act)(w:zW),jO P md ops Q S late fuel listed a w->wpAny P md ops Q fuel listed a w
 |0,_,_,_,h=>h
 |fuel+1,_,_,_,h=>⟨h.1,λi hi=>wpOp_mono (λd b c=>FO fuel _ d b c.2) (h.2 i hi)⟩
structure ee (md:Region.Mode)(ops:zQ)(listed:Array Bool):Prop where
 size:listed.size=ops.size
 closed:∀j oj,ops[j]? =aA oj->listed.getD j aF=aE->∀e∈oj.after,Region.binds md e=aE->listed.getD e.on aF=aE
def Xf (md:Region.Mode)(ops:zQ)(listed:Array Bool):Bool:=
 decide (listed.size=ops.size)&&((List.range ops.size).all λj=>(!(listed.getD j aF))||match ops[j]? with
   |some o=>o.after.all λe=> !(Region.binds md e)||listed.getD e.on aF
   |none=>aE)
def Ld {listed}(h:Xf md ops listed=aE):ee md ops listed:=by unfold Xf at h;simp only[zBc,zBo]at h;obtain⟨g,f⟩:=h;refine⟨g,λj o b hl e c d=> ?_⟩;have a:=(zAb.1 b).1;have:=zBt.1 f j (zBs.2 a);rw[b,hl]at this;simp only[Bool.not_true,zGc]at this;have:=zFx.1 this e c;rw[d]at this;simpa using this
def ee.set {i listed}(inv:ee md ops listed)(hi:i∈Region.ready md ops listed):ee md ops (listed.setIfInBounds i aE):=by
 obtain⟨_,g,b,a⟩:=mem_ready.1 hi;refine⟨by simp[inv.size],λj o c hl e d f=> ?_⟩;by_cases h:i=j
 .subst h;have:o=g:=zAm (c.symm.trans b);subst this;exact getD_set_true (a e d f)
 .rw[getD_set_ne aF h]at hl;exact getD_set_true (inv.closed j o c hl e d f)
def waits (md:Region.Mode)(ops:zQ):Nat->Nat->Nat->Bool
 |0,_,_=>aF
 |f+1,s,i=>match ops[s]? with
  |some o=>o.after.any λe=>Region.binds md e&&(e.on==i||waits md ops f e.on i)
  |none=>aF
def FR {listed:Array Bool}(inv:ee md ops listed){i:Nat}:∀(f s:Nat)(o:Oper),ops[s]? =aA o->(∀e∈o.after,Region.binds md e=aE->listed.getD e.on aF=aE)->waits md ops f s i=aE->listed.getD i aF=aE
 |0,_,_,_,_,h=>by cases h
 |f+1,s,o,k,b,h=>by
  unfold waits at h;rw[k]at h;obtain⟨e,l,d⟩:=Array.any_eq_true'.1 h;simp only[zBc,zDn,zCm]at d;have j:=b e l d.1;obtain a|a:=d.2;{rw[<-a];exact j}
  .cases c:ops[e.on]? with
   |none=>
    cases f with
    |zero=>cases a
    |succ f=>unfold waits at a;rw[c]at a;cases a
   |some g=>exact FR inv f e.on g c (inv.closed e.on g c j) a
def Ex (md:Region.Mode)(ops:zQ)(late:Nat->Bool)(i:Nat):Bool:=(List.range ops.size).all λs=> !(late s)||waits md ops ops.size s i
def Bo {listed i}(inv:ee md ops listed)(h:Ex md ops late i=aE)(d:listed.getD i aE=aF):early ops late listed=aE/\∀j,j∈Region.ready md ops listed->late j=aF:=by
 have k:∀s os,ops[s]? =aA os->late s=aE->(∀e∈os.after,Region.binds md e=aE->listed.getD e.on aF=aE)->False:=λs os c hl a=>by have:=zBt.1 h s (zBs.2 (zAb.1 c).1);rw[hl]at this;have:=FR inv _ s os c a (by simpa using this);rw[getD_both d]at this;cases this
 refine⟨zBt.2 λs c=> ?_,λj l=> ?_⟩
 .cases hl:late s with
  |false=>rfl
  |true=>
   cases g:listed.getD s aF with
   |false=>rfl
   |true=>have b:=zBs.1 c;exact(k s _ (zAk b) hl (inv.closed s _ (zAk b) g)).elim
 .obtain⟨_,o,f,a⟩:=mem_ready.1 l;cases hl:late j with
  |false=>rfl
  |true=>exact(k j o f hl a).elim
def OW {i t v}(hi:ops[i]? =aA t)(p:∀(j:Nat)(o) cs b,ops[j]? =aA o->o.op≠.select cs b)
  (bX:Ex md ops late i=aE) (O:∀c a w,Q (.panic c) (a.put t.dst v) w->Q (.panic c) a w):
  ∀(fuel)(listed)(a)(w),ee md ops listed->
   (∀j s,ops[j]? =aA s->j≠i->listed.getD j aE=aF->(∀e∈s.after,Region.binds md e=aE->e.on≠i)->t.apart ops s=aE)->
   i∈Region.ready md ops listed->YieldsIf P ops S t v a->S w->
   jO P md ops Q S late fuel (listed.setIfInBounds i aE) (a.put t.dst v) w->jO P md ops Q S late (fuel+1) listed a w:=by
 intro fuel;induction fuel with
 |zero=>intro listed a w _ _ q C B H;refine⟨λh=>(by rw[h]at q;cases q),λj x=> ?_⟩;by_cases d:j=i;{subst d;exact C.wpOp hi B ⟨λ_=>B,H⟩};{have:=ready_mono x d;rw[H.1]at this;cases this}
 |succ fuel K=>
  intro listed a w inv g q C B H;have f:=(mem_ready.1 q).1;obtain⟨I,m⟩:=Bo inv bX f;refine⟨λh=>(by rw[h]at q;cases q),λj x=> ?_⟩;by_cases d:j=i;{subst d;exact C.wpOp hi B ⟨λ_=>B,H⟩}
  .have E:=H.2 j (ready_mono x d);obtain⟨r,s,u,A⟩:=mem_ready.1 x;have y:∀e∈s.after,Region.binds md e=aE->e.on≠i:=λe M N G=>by
    have E:=A e M N;rw[G,getD_both f]at E;cases E
   have R:=wpOp_putIf u (g j s u d r y) (λcs b=>p i t cs b hi) (λcs b=>p j s cs b u) O C E;have n:∀k ok,ops[k]? =aA ok->k≠i->(listed.setIfInBounds j aE).getD k aE=aF->
     (∀e∈ok.after,Region.binds md e=aE->e.on≠i)->t.apart ops ok=aE:=λk ok L F f m=>by
    refine g k ok L F ?_ m
    by_cases z:j=k
    .subst z;exact r
    .rw[getD_set_ne aE z]at f;exact f
   have l:=BY (BY I (m i q)) (m j x);refine wpOp_mono (λT J D=>⟨λ_=>D.2.1 l,K (listed.setIfInBounds j aE) T J (inv.set x) n (ready_mono q (zDy d)) D.1 (D.2.1 l) ?_⟩) R;rw[zEt _ _ d];exact D.2.2
def OV {i q v}(hi:ops[i]? =aA q)(m:∀(j:Nat)(o) cs b,ops[j]? =aA o->o.op≠.select cs b)
  (bX:late i=aF) (N:∀c a w,Q (.panic c) (a.put q.dst v) w->Q (.panic c) a w):
  ∀(fuel)(listed)(a)(w),
   (∀j p,ops[j]? =aA p->j≠i->listed.getD j aE=aF->(∀e∈p.after,Region.binds md e=aE->e.on≠i)->q.apart ops p=aE)->
   i∈Region.ready md ops listed->Yields P ops q v a->(early ops late (listed.setIfInBounds i aE)=aE->S w)->
   jO P md ops Q S late fuel (listed.setIfInBounds i aE) (a.put q.dst v) w->jO P md ops Q S late (fuel+1) listed a w:=by
 intro fuel;induction fuel with
 |zero=>intro listed a w _ r y G H;refine⟨λh=>(by rw[h]at r;cases r),λj z=> ?_⟩;by_cases d:j=i;{subst d;exact y.wpOp hi ⟨G,H⟩};{have:=ready_mono z d;rw[H.1]at this;cases this}
 |succ fuel J=>
  intro listed a w f r y G H;have g:=(mem_ready.1 r).1;refine⟨λh=>(by rw[h]at r;cases r),λj z=> ?_⟩;by_cases d:j=i;{subst d;exact y.wpOp hi ⟨G,H⟩}
  .have B:=H.2 j (ready_mono z d);obtain⟨n,p,s,x⟩:=mem_ready.1 z;have t:∀e∈p.after,Region.binds md e=aE->e.on≠i:=λe L M E=>by
    have B:=x e L M;rw[E,getD_both g]at B;cases B
   have O:=wpOp_put s (f j p s d n t) (λcs b=>m i q cs b hi) (λcs b=>m j p cs b s) N y B;have l:∀k ok,ops[k]? =aA ok->k≠i->(listed.setIfInBounds j aE).getD k aE=aF->
     (∀e∈ok.after,Region.binds md e=aE->e.on≠i)->q.apart ops ok=aE:=λk ok K D g C=>by
    refine f k ok K D ?_ C
    by_cases u:j=k
    .subst u;exact n
    .rw[getD_set_ne aE u]at g;exact g
   refine wpOp_mono (λR I A=>⟨λF=>A.2.1 (by rw[<-zEt _ _ d];exact BY F bX),J (listed.setIfInBounds j aE) R I l (ready_mono r (zDy d)) A.1 (λF=>A.2.1 (by rw[<-zEt _ _ d];exact F)) ?_⟩) O;rw[zEt _ _ d];exact A.2.2
def tB {i o v fuel listed a w}(hi:ops[i]? =aA o)
  (d:(Region.noSelect ops&&Ex md ops late i&&Xf md ops listed&&Region.free md ops listed i&&(Region.ready md ops listed).contains i)=aE)
  (k:∀c a w,Q (.panic c) (a.put o.dst v) w->Q (.panic c) a w) (e:YieldsIf P ops S o v a) (j:S w)
  (h:jO P md ops Q S late fuel (listed.setIfInBounds i aE) (a.put o.dst v) w):jO P md ops Q S late (fuel+1) listed a w:=by
 simp only[zBc]at d;obtain⟨⟨⟨⟨b,hl⟩,g⟩,d⟩,f⟩:=d;exact OW hi (Region.noSelect_spec b) hl k fuel listed a w (Ld g) (Region.free_spec hi d) (by simpa using f) e j h
def CP {i o v fuel listed a w}(hi:ops[i]? =aA o)
  (d:(Region.noSelect ops&& !(late i)&&Region.free md ops listed i&&(Region.ready md ops listed).contains i)=aE)
  (j:∀c a w,Q (.panic c) (a.put o.dst v) w->Q (.panic c) a w) (e:Yields P ops o v a) (g:S w)
  (h:jO P md ops Q S late fuel (listed.setIfInBounds i aE) (a.put o.dst v) w):jO P md ops Q S late (fuel+1) listed a w:=by
 simp only[zBc,aHF]at d;obtain⟨⟨⟨b,hl⟩,d⟩,f⟩:=d;exact OV hi (Region.noSelect_spec b) hl j fuel listed a w (Region.free_spec hi d) (by simpa using f) e (λ_=>g) h
def cG {i:Nat}{o:Oper}{fuel:Nat}{listed:Array Bool}{a:Act}{w:zW}(b:Region.ready md ops listed=[i])(d:ops[i]? =aA o)
  (h:∀K:Act->zW->Prop,Shut (∀a w,(early ops late (listed.setIfInBounds i aE)=aE->S w)->jO P md ops Q S late fuel (listed.setIfInBounds i aE) a w->K a w)->if Region.wanted o (yielded ops a.tmps)=aE then Oper.wp P o a w K Q else K (a.put o.dst undef) w):
  jO P md ops Q S late (fuel+1) listed a w:=
 ⟨λk=>absurd (b.symm.trans k) (List.cons_ne_nil _ _),λj c=>by rw[b]at c;obtain rfl:=zAn.1 c;exact wpOp_step d (λK g=>h K (λa w f e=>g a w ⟨f,e⟩))⟩
def iD {b}{p:Prop}(h:b=aE)(a:b=aF):p:=by rw[h]at a;cases a
def mK {listed:Array Bool}{a:Act}{w:zW}(b:Region.ready md ops listed=[])(h:Q .normal a w):∀fuel,jO P md ops Q S late fuel listed a w
 |0=>⟨b,h⟩
 |_+1=>⟨λ_=>h,by rw[b];simp⟩
def tk (i)(v){o fuel listed a w}(g:S w)(h:jO P md ops Q S late fuel (listed.setIfInBounds i aE) (a.put o.dst v) w)(hi:ops[i]? =aA o:=by rfl)
  (f:(Region.noSelect ops&&Ex md ops late i&&Xf md ops listed&&Region.free md ops listed i&&(Region.ready md ops listed).contains i)=aE:=by kernel_rfl)
  (j:∀c a w,Q (.panic c) (a.put o.dst v) w->Q (.panic c) a w:=by exactλ_ _ _ h=>h) (e:YieldsIf P ops S o v a:=by exact aG ⟨by rfl,λW b=>by first|(obtain⟨d,q,l,k⟩:=b;go_simp;done)|(obtain⟨d,q⟩:=b;go_simp;done)|go_simp⟩):jO P md ops Q S late (fuel+1) listed a w:=tB hi f j e g h
def mI {id:Nat}{a:Act}{w:zW}(S:zW->Prop)(late:Nat->Bool)(b:P.follows .mixedOrders=aE)
  (h:jO P .any ops Q S late ops.size (Array.replicate ops.size aF) a w.drew):(Code.region id ops aE).wp P Q a w:=
 wp_region_any b (FO _ _ _ _ h)
end
end Go.Proofs.Zq.AnyX
namespace Go.Proofs.Zq
open Go Go.RowKit Sha Go.Ga Go.Ren
section
variable {w:zW}{k d:Nat}{p:Option Nat}{S:zP}{us:List bZ}
structure sN (k:Nat)(w:zW)(us:List bZ)(d:Nat)(z o:Option Nat):Prop where
 z:eU k w z (bK d 0 us) (d+1)
 o:eU k w o (bK d 1 us) (d+1)
def ON {u}(h:bP u.idx d=0):bK d 0 [u]=[u]/\bK d 1 [u]=[]:=by unfold bK;rw[zBd (by rw[h];rfl),zAt (by rw[h];decide)];exact⟨rfl,rfl⟩
def OM {u}(h:bP u.idx d=1):bK d 0 [u]=[]/\bK d 1 [u]=[u]:=by unfold bK;rw[zAt (by rw[h];decide),zBd (by rw[h];rfl)];exact⟨rfl,rfl⟩
def UO (h:eU k w p us d)(I:d<256)(hi:∀u∈us,u.idx.length=32)(y:CS w S)(q:∀b,p=aA b->S b):
  Calls zq 230 #[ptr p,aC aD d] w λe a=>∃z o,e=aL (.tuple #[ptr z,ptr o])/\(a=w\/a=w.drew)/\sN k w us d z o/\(∀b,z=aA b->S b)/\∀b,o=aA b->S b:=by
 have m:=hid ((cY.done h (zAa 0)).ends);cases h with
 |nil=>have x:sN k w [] d aB aB:=⟨.nil _,.nil _⟩;have E:=hid m.out;have H:Hid (sN k w [] d aB aB/\(∀b,aB=aA b->S b)/\∀b,aB=aA b->S b):=⟨x,λb e=>by(cases e),λb e=>by(cases e)⟩;go_enter (Qz.fn func230),ntmps230;go_wp2_with fail;refine E.out.mono ?_;rintro e a ⟨rfl,rfl⟩;go_wp2;go_ret2;exact⟨aB,aB,rfl,aG rfl,H.out.1,λb e=>by(cases e),λb e=>by(cases e)⟩
 | @leaf b u _ t f=>have E:=hid m.out;have A:=hi u (by simp);have l:Hid (Calls zq 82 #[aK ⟨u.idx.toArray⟩,aC aD d] w λe a=>e=aL (.bool (decide (bP u.idx d=1)))/\a=w):=(lE ⟨u.idx.toArray⟩ d w (by show d/8<u.idx.length;omega) (by show u.idx.length<=_;omega) (by omega)).mono λe a h=>by{simpa using h};have k2:=f.c2;have i:=q b rfl;have hl:eU k w (aA b) [u] (d+1):= .leaf (by rw[JY k (d+1) d];exact f);obtain g|g:=jH u.idx d;{have H:Hid (sN k w [u] d (aA b) aB/\S b):=⟨⟨by rw[(ON g).1];exact hl,by rw[(ON g).2];exact .nil _⟩,i⟩;rw[zBv (by omega)]at l;go_enter (Qz.fn func230),ntmps230;go_wp2_with fail;refine E.out.mono ?_;rintro e a ⟨rfl,rfl⟩;go_wp2_with fail;refine l.out.mono ?_;rintro e a ⟨rfl,rfl⟩;go_wp2;go_ret2;exact⟨aA b,aB,rfl,aG rfl,H.out.1,λb e=>by(cases e;exact H.out.2),λb e=>by(cases e)⟩};{have H:Hid (sN k w [u] d aB (aA b)/\S b):=⟨⟨by rw[(OM g).1];exact .nil _,by rw[(OM g).2];exact hl⟩,i⟩;rw[zDf g]at l;go_enter (Qz.fn func230),ntmps230;go_wp2_with fail;refine E.out.mono ?_;rintro e a ⟨rfl,rfl⟩;go_wp2_with fail;refine l.out.mono ?_;rintro e a ⟨rfl,rfl⟩;go_wp2;go_ret2;exact⟨aB,aA b,rfl,aG rfl,H.out.1,λb e=>by(cases e),λb e=>by(cases e;exact H.out.2)⟩}
 | @node b _ _ z o t J _ f r v=>
  rw[zBv (by omega)]at m;have F:=f.c0;have k1:=f.c1;have H:Hid (sN k w us d z o/\(∀b,z=aA b->S b)/\∀b,o=aA b->S b):=by obtain⟨B,D,G,C,K,s,n,_,j⟩:=y b (q b rfl);obtain⟨rfl,rfl,_⟩:=gQ f n;exact⟨⟨r,v⟩,λc e=>j c (aG e),λc e=>j c (aH e)⟩
  go_enter (Qz.fn func230),ntmps230;go_wp2_with fail;refine m.out.mono ?_;rintro e a ⟨rfl,rfl⟩;go_upto_region 2 with(fail)
  go_region;all_goals go_wp2
  all_goals go_ret2
  all_goals exact⟨z,o,rfl,aH rfl,H.out⟩
end
section
variable {w:zW}{k:Nat}{p:Option Nat}{us:List bZ}{I:zB}
def Dt (w:zW)(us:List bZ)(I:zB)(e:Ending):Prop:=
 (∃u b g h,u∈us/\u.idx=I/\e=aL (ptr (aA b))/\aX w b aB aB u.idx u.val g h)\/(e=aL (ptr aB)/\∀u∈us,u.idx≠I)
def Ks (h:eU k w p us 0)(R:I.length=32):Calls zq 228 #[ptr p,aK ⟨I.toArray⟩] w λe f=>f=w/\Dt w us I e:=by
 have N:=hid h;have P:Hid (∀d:Nat,d<256->Calls zq 82 #[aK ⟨I.toArray⟩,aC aD d] w λe f=>e=aL (.bool (decide (bP I d=1)))/\f=w):=λd J=>(lE ⟨I.toArray⟩ d w (by show d/8<I.length;omega) (by show I.length<=_;omega) (by omega)).mono λe f h=>by simpa using h
 go_enter (Qz.fn func228),ntmps228;go_wp2;go_loopg [0,5] 257 (λq c i wr=>∃(d:Nat)(y:Option Nat)(g:List bZ),d+q=257/\i=aC aD (d:Int)/\c=ptr y/\wr=w/\eU k w y g d/\(∀u∈g,u∈us)/\∀u∈us,u.idx=I->u∈g);case atStart=>exact⟨0,p,us,rfl,rfl,rfl,rfl,N.out,λ_ h=>h,λ_ h _=>h⟩
 case round=>
  obtain⟨d,y,g,J,rfl,rfl,rfl,r1,r2,r3⟩:=hrel
  cases r1 with
  |nil=>have E:=hid (OD wr);have t:Hid (∀u∈us,u.idx≠I):=λu j e=>by{have:=r3 u j e;simp at this};go_wp2_with fail;refine E.out.mono ?_;rintro e f ⟨rfl,rfl⟩;go_wp2;go_ret;exact⟨rfl,aH ⟨rfl,t.out⟩⟩
  | @leaf b u _ F l=>
   have E:=hid (AH l);have k2:=l.c2;by_cases j:u.idx=I;{have t:Hid (Dt wr us I (aL (ptr (aA b)))):=aG ⟨u,b,_,_,r2 u (by simp),j,rfl,l⟩;rw[j]at k2;go_wp2_with fail;refine E.out.mono ?_;rintro e f ⟨rfl,rfl⟩;go_wp2;go_ret;exact⟨rfl,t.out⟩}
   .have t:Hid (∀u∈us,u.idx≠I):=λx D e=>by
     have:=r3 x D e;rw[zAn]at this;subst this;exact j e
    have G:(u.idx==I)=aF:=by rw[zBy];exact j
    go_wp2_with fail;refine E.out.mono ?_;rintro e f ⟨rfl,rfl⟩;go_wp2;go_ret;exact⟨rfl,aH ⟨rfl,t.out⟩⟩
  | @node b _ _ z o F L s l A B=>
   have E:Hid (Calls zq 225 #[ptr (aA b)] wr λe f=>e=aL (.bool aF)/\f=wr):=(cY.done (eU.node L s l A B) (zAa 0)).ends.mono λe f h=>⟨by rw[h.1,zBv (by omega)],h.2⟩;have Q:=l.c0;have k1:=l.c1;have hi:(d:Int)<256:=by{omega};have H:=P.out d s;have C:Hid (∀a:Nat,bP I d=a->(∀u∈bK d a g,u∈us)/\∀u∈us,u.idx=I->u∈bK d a g):=λa K=>⟨λu j=>r2 u (zAx.1 j).1,λu j e=>zAx.2 ⟨r3 u j e,by rw[e,K];exact zEw _⟩⟩;have M:=hid A;have O:=hid B;obtain v|v:=jH I d
   .have n:=C.out 0 v;have m:=hid n;rw[zBv (by omega)]at H;have r:=hid H;go_wp2_with fail;refine E.out.mono ?_;rintro e f ⟨rfl,rfl⟩;go_wp2_with fail;refine r.out.mono ?_;rintro e f ⟨rfl,rfl⟩;go_wp2;go_roundg (257-(d+1));case measure=>omega
    case rel=>
     go_light
     exact⟨d+1,z,_,by omega,by go_num,rfl,rfl,M.out,m.out⟩
   .have n:=C.out 1 v;have m:=hid n;rw[zDf v]at H;have r:=hid H;go_wp2_with fail;refine E.out.mono ?_;rintro e f ⟨rfl,rfl⟩;go_wp2_with fail;refine r.out.mono ?_;rintro e f ⟨rfl,rfl⟩;go_wp2;go_roundg (257-(d+1));case measure=>omega
    case rel=>
     go_light
     exact⟨d+1,o,_,by omega,by go_num,rfl,rfl,O.out,m.out⟩
end
open Go Go.RowKit Sha
section
variable {l cs:List bZ}{u:bZ}{d b:Nat}{I:zB}
def yK (h:nW l)(u):nW (jE l u):=by have a:iB (yG (bG l) u):=wU (zDq.2 h);rw[<-yF]at a;exact zDq.1 a
def IM:∀(cs:List bZ){l:List bZ},nW l->nW (bL l cs)
 |[],_,h=>h
 |u::cs,_,h=>IM cs (yK h u)
def Oy (c:nW l):bK d b (jE l u)=if bP u.idx d=b then jE (bK d b l) u else bK d b l:=by
 have k:bK d b (tY u.idx l)=tY u.idx (bK d b l):=by unfold bK tY;rw[zEn,zEn];congr 1;funext x;exact aHG ..
 have j:bK d b (mW u.idx l)=mW u.idx (bK d b l):=by unfold bK mW;rw[zEn,zEn];congr 1;funext x;exact aHG ..
 have i:bK d b (jE l u)=tY u.idx (bK d b l)++(bK d b (if u.gone then []else [VY u])++mW u.idx (bK d b l)):=by rw[<-k,<-j];unfold jE bK;rw[zDl,zDl]
 rw[i];by_cases h:bP u.idx d=b
 .rw[zAl h];congr 2;cases u.gone with
  |true=>rfl
  |false=>exact zBd (show(bP u.idx d==b)=aE by rw[h];exact zEw _)
 .rw[zAj h];have g:bK d b (if u.gone then []else [VY u])=[]:=by
   cases u.gone with
   |true=>rfl
   |false=>exact zAt (show¬(bP u.idx d==b)=aE by rw[zCm];exact h)
  rw[g,zCe];obtain⟨x,a,e⟩|⟨e,_⟩:=BE u.idx (bK d b l) (c.filter _);{exfalso;have f:x∈bK d b l:=by{rw[e];simp};have:=(zAx.1 f).2;rw[a]at this;exact h (zCm.1 this)};{exact e.symm}
def kN:∀(cs:List bZ){l:List bZ},nW l->bK d b (bL l cs)=bL (bK d b l) (bK d b cs)
 |[],_,_=>rfl
 |u::cs,l,a=>by show bK d b (bL (jE l u) cs)=_;rw[kN cs (yK a u),Oy a];by_cases h:bP u.idx d=b;{rw[zAl h,show bK d b (u::cs)=u::bK d b cs from zBd (show(bP u.idx d==b)=aE by rw[h];exact zEw _)];rfl};{rw[zAj h,show bK d b (u::cs)=bK d b cs from zAt (show¬(bP u.idx d==b)=aE by rw[zCm];exact h)]}
def qO (l:List bZ)(u:bZ):Bool:=match eZ (bG l) u.idx with|none=> !u.gone|some v=>u.gone||v !=u.val
def jL (l:List bZ)(u:bZ):Int:=match eZ (bG l) u.idx with|none=>if u.gone then 0 else 1|some _=>if u.gone then-1 else 0
def kU (l cs:List bZ):List bZ:=cs.filter (qO l)
def fU (l cs:List bZ):Int:=(cs.map (jL l)).sum
def zM (l)(u)(I):eZ (bG (jE l u)) I=if u.idx=I then(if u.gone then aB else aA u.val)else eZ (bG l) I:=by rw[yF,get_put]
def wE:∀(cs:List bZ)(l:List bZ),(∀x∈cs,x.idx≠I)->eZ (bG (bL l cs)) I=eZ (bG l) I
 |[],_,_=>rfl
 |u::cs,l,h=>by show eZ (bG (bL (jE l u) cs)) I=_;rw[wE cs _ λx a=>h x (zBl _ a),zM,zAj (h u (zBj ..))]
def IN {u cs}(h:nW (u::cs)):∀x∈cs,u.idx≠x.idx:=λx a e=>by have:=(zCx.1 h).1 x a;rw[e,eP]at this;cases this
def uD:∀(cs:List bZ)(l:List bZ),nW cs->∀u∈cs,eZ (bG (bL l cs)) u.idx=if u.gone then aB else aA u.val
 |[],_,_,u,hu=>by simp at hu
 |c::cs,l,h,u,hu=>by show eZ (bG (bL (jE l c) cs)) u.idx=_;obtain rfl|hu:=zAf.1 hu;{rw[wE cs _ λx a e=>IN h x a e.symm,zM,zAl rfl]};{exact uD cs _ (zCx.1 h).2 u hu}
def Rv (g:nW cs):Diff (kU l cs) (bG (bL l cs)) (bG l):=λu f=>by
 obtain⟨i,a⟩:=zAx.1 f;rw[uD cs l g u i];unfold qO at a;cases c:eZ (bG l) u.idx with
 |none=>
  rw[c]at a;cases h:u.gone with
  |true=>rw[h]at a;cases a
  |false=>simp
 |some v=>
  rw[c]at a;cases h:u.gone with
  |true=>simp
  |false=>rw[h]at a;simp at a⊢;exactλe=>a e.symm
def Fl (c)(h:c.idx≠u.idx):qO (jE l c) u=qO l u/\jL (jE l c) u=jL l u:=by unfold qO jL;rw[zM,zAj h];exact⟨rfl,rfl⟩
def Ox (hl:nW l)(hh:∀x∈l,x.gone=aF)(h:qO l u=aF):jE l u=l:=by
 have k:bG (jE l u)=bG l:=by
  refine BM (zDq.2 (yK hl u)) (zDq.2 hl) λI=> ?_;rw[zM];by_cases e:u.idx=I
  .rw[zAl e];unfold qO at h;rw[<-e];cases f:eZ (bG l) u.idx with
   |none=>
    rw[f]at h;cases c:u.gone with
    |true=>rfl
    |false=>rw[c]at h;cases h
   |some v=>
    rw[f]at h;cases c:u.gone with
    |true=>rw[c]at h;cases h
    |false=>rw[c]at h;simp at h;rw[h];rfl
  .rw[zAj e]
 have g:∀{x:List bZ},(∀u∈x,u.gone=aF)->x=(bG x).map λe=>⟨e.1,e.2,aF⟩:=λ{x} a=>by
  unfold bG;rw[zEm];conv=>lhs;rw[<-List.map_id x]
  apply zEj;intro u i;have:=a u i;cases u;simp only at this;subst this;rfl
 have j:∀x∈jE l u,x.gone=aF:=λx a=>by
  obtain a|a:=zAh.1 a;{exact hh x (zAx.1 a).1}
  .obtain a|a:=zAh.1 a
   .cases f:u.gone with
    |true=>rw[f]at a;simp at a
    |false=>rw[f]at a;simp at a;rw[a];rfl
   .exact hh x (zAx.1 a).1
 exact(g j).trans ((congrArg _ k).trans (g hh).symm)
def Qp (hh:∀x∈l,x.gone=aF)(u):∀x∈jE l u,x.gone=aF:=λx h=>by
 obtain h|h:=zAh.1 h
 .exact hh x (zAx.1 h).1
 .obtain h|h:=zAh.1 h
  .cases a:u.gone with
   |true=>rw[a]at h;simp at h
   |false=>rw[a]at h;simp at h;rw[h];rfl
  .exact hh x (zAx.1 h).1
def Fo:∀(cs:List bZ){l:List bZ},nW l->(∀x∈l,x.gone=aF)->nW cs->bL l (kU l cs)=bL l cs
 |[],_,_,_,_=>rfl
 |u::cs,l,hl,c,e=>by
  have a:=IN e;have i:=Fo cs (yK hl u) (Qp c u) (zCx.1 e).2;have g:kU (jE l u) cs=kU l cs:=List.filter_congr λx f=>(Fl u (a x f)).1;rw[g]at i;show _=bL (jE l u) cs;rw[<-i];cases h:qO l u with
  |true=>rw[show kU l (u::cs)=u::kU l cs from zBd h];rfl
  |false=>rw[show kU l (u::cs)=kU l cs from zAt (by rw[h];exact aHH),Ox hl c h]
def Vr (hl:nW l)(u):((jE l u).length:Int)=l.length+jL l u:=by
 unfold jL;obtain⟨x,h,e⟩|⟨e,g⟩:=BE u.idx l hl
 .have a:eZ (bG l) u.idx=aA x.val:=AD (zDq.2 hl) (by rw[<-h];exact zCh.2 ⟨x,by rw[e];simp,rfl⟩);rw[a];have c:=congrArg List.length e;rw[zAg,zAi]at c;unfold jE;rw[zAg,zAg];cases u.gone<;>simp<;>omega
 .have a:eZ (bG l) u.idx=aB:=fP λx h=>by
   obtain⟨y,f,rfl⟩:=zCh.1 h;exact g y f
  rw[a];have c:=congrArg List.length e;rw[zAg]at c;unfold jE;rw[zAg,zAg];cases u.gone<;>simp<;>omega
def VK:∀(cs:List bZ){l:List bZ},nW l->nW cs->((bL l cs).length:Int)=l.length+fU l cs
 |[],l,_,_=>by simp[fU,bL]
 |u::cs,l,hl,a=>by
  have h:=IN a;have i:=VK cs (yK hl u) (zCx.1 a).2;have e:fU (jE l u) cs=fU l cs:=by unfold fU;congr 1;exact zEj λx c=>(Fl u (h x c)).2
  show((bL (jE l u) cs).length:Int)=_;rw[i,e,Vr hl u];show _=(l.length:Int)+(jL l u+fU l cs);omega
end
section
variable {w:zW}{d bx:Nat}{cs:List bZ}
def Lm (u)(hi:u.idx.length=32)(m:d<256)(k:w.cell? ⟨bx,0,aB⟩=aA (aC aD d))(hl:bx<w.heap.size):
  Calls zq 238 #[Up u,aN (aA ⟨bx,0,aB⟩)] w λe b=>e=aL (.bool (decide (bP u.idx d=1)))/\zb w b:=by
 obtain⟨a,f,g⟩:=u;dsimp only at*;have c:Hid (zb w (w.alloc (aI #[aK ⟨a.toArray⟩,aK ⟨f.toArray⟩,.bool g] 53))):=(zGn _ w).alloc (zAa _) _;have j:(w.alloc (aI #[aK ⟨a.toArray⟩,aK ⟨f.toArray⟩,.bool g] 53)).cell? ⟨bx,0,aB⟩=aA (aC aD d):=by rw[c.out.cell hl];exact k
 have l:(w.alloc (aI #[aK ⟨a.toArray⟩,aK ⟨f.toArray⟩,.bool g] 53)).cell? ⟨w.heap.size,0,aB⟩=aA (aK ⟨a.toArray⟩):=(aZ (zGw w _) 0).trans rfl;have H:Hid (∀W,Calls zq 82 #[aK ⟨a.toArray⟩,aC aD d] W λe b=>e=aL (.bool (decide (bP a d=1)))/\b=W):=λW=>(lE ⟨a.toArray⟩ d W (by show d/8<a.length;omega) (by show a.length<=_;omega) (by omega)).mono λe b h=>by simpa using h
 go_enter (Qz.fn func238),ntmps238;go_upto_region 1 with(fail)
 generalize(w.alloc (aI #[aK ⟨a.toArray⟩,aK ⟨f.toArray⟩,.bool g] 53))=i at*;go_wp2_with fail;refine(H.out i).mono ?_;rintro e b ⟨rfl,rfl⟩;go_wp2;go_ret;exact⟨rfl,c.out⟩
def LO {y cap m}(D:fL w y cs)(hl:cs.length<=1000000)(hi:∀u∈cs,u.idx.length=32)(K:d<256)(z:w.cell? ⟨bx,0,aB⟩=aA (aC aD d))(C:bx<w.heap.size)(s:Cut cs d m):
  Calls zq 237 #[aJ y cs.length cap,.func (.func 238) #[] #[aN (aA ⟨bx,0,aB⟩)]] w λe f=>e=aL (aC aD (if m<cs.length then(m)else-1))/\zb w f:=by
 have M:=hid D;have p:=hid s;have v:Hid (∀(t:Nat) u,cs[t]? =aA u->∀W,zb w W->Calls zq 238 #[Up u,aN (aA ⟨bx,0,aB⟩)] W λe f=>e=aL (.bool (decide (bP u.idx d=1)))/\zb w f):=λt u c W j=>(Lm u (hi u (zCr c)) K (by rw[j.cell C];exact z) (zAc C j.size)).mono λe f h=>⟨h.1,j.trans (h.2.mono j.size)⟩;obtain⟨n,r⟩:∃n,n=cs.length:=⟨_,rfl⟩;have L:=hid r;have G:=s.le;rw[<-r]at hl G⊢;clear D s hi z r;go_enter (Qz.fn func237),ntmps237;go_wp2;go_loopg [8] n (λq i wr=>∃t:Nat,t+q=n/\i=aC aD (t:Int)/\t<=m/\zb w wr);case atStart=>exact⟨0,by omega,rfl,by omega,zGn _ _⟩
 case round=>
  obtain⟨t,Q,rfl,E,k⟩:=hrel
  have x:=hid k
  by_cases bX:t<n
  .have c:=zAe (l:=cs) (i:=t) (by have:=L.out;omega);have H:=hid (v.out t _ c wr x.out);have H0:Hid (t<m->bP cs[t].idx d=0):=λh=>p.out.zero t _ h c;have H1:Hid (m<=t->bP cs[t].idx d=1):=λh=>p.out.one t _ h c;obtain⟨g,o,rfl,R,c0,c1,c2⟩:=(M.out.below x.out (zAa _)).idx t _ c;generalize cs[t]=u at*;obtain⟨O,N,P⟩:=u;dsimp only at*;have J:¬((t:Int)<0):=by{omega};have I:(t:Int)<(n:Int):=by{omega};by_cases A:m<=t;{obtain rfl:t=m:=by{omega};have b:=H1.out (zAa _);rw[zDf b]at H;clear b k v H0 H1 c p;go_wp2_with fail;refine H.out.mono ?_;rintro e w2 ⟨rfl,a⟩;have B:=hid a;clear a;go_wp2;go_ret;exact⟨rfl,B.out⟩}
   .have b:=H0.out (by omega);rw[zBv (by omega)]at H;clear b k v H0 H1 c p;go_wp2_with fail;refine H.out.mono ?_;rintro e w2 ⟨rfl,a⟩;have B:=hid a;clear a;go_wp2;go_roundg (n-(t+1));case measure=>omega
    case rel=>
     go_light
     exact⟨t+1,by omega,by go_num,by omega,B.out⟩
  .have F:¬(t:Int)<(n:Int):=by{omega};clear k;go_wp2;go_ret;exact⟨rfl,x.out⟩
def UN {v cap m}(i:fL w v cs)(hl:cs.length<=1000000)(hi:∀u∈cs,u.idx.length=32)(g:d<256)(f:Cut cs d m):
  Calls zq 231 #[aJ v cs.length cap,aC aD d] w λe c=>e=aL (aC aD (m))/\zb w c:=by
 have b:zb w (w.alloc (aI #[aC aD d] 3)):=(zGn _ w).alloc (zAa _) _;have H:Hid (Calls zq 237 #[aJ v cs.length cap,.func (.func 238) #[] #[aN (aA ⟨w.heap.size,0,aB⟩)]] (w.alloc (aI #[aC aD d] 3)) λe c=>e=aL (aC aD (if m<cs.length then(m:Int)else-1))/\zb w c):=by refine(LO (i.below b (zAa _)) hl hi g ((aZ (zGw w _) 0).trans rfl) (by rw[size_alloc];omega) f).mono λe c h=>⟨h.1,b.trans (h.2.mono b.size)⟩
 have j:=f.le;by_cases bX:m<cs.length
 .rw[zAl bX]at H;have k:¬(m:Int)<0:=by{omega};go_enter (Qz.fn func231),ntmps231;go_wp2_with fail;refine H.out.mono ?_;rintro e w2 ⟨rfl,a⟩;have B:=hid a;go_wp2;go_ret;exact⟨rfl,B.out⟩
 .rw[zAj bX]at H;obtain rfl:m=cs.length:=by{omega};go_enter (Qz.fn func231),ntmps231;go_wp2_with fail;refine H.out.mono ?_;rintro e w2 ⟨rfl,a⟩;have B:=hid a;go_wp2;go_ret;exact⟨rfl,B.out⟩
end
section
variable {w w1 w':zW}{t k d:Nat}{x0 x1 x2 x3 x4:zY}{c:Int}{p:Option Nat}{S:zP}{us cs:List bZ}
def fL.hl {m}(h:fL w m cs)(s:Hl t w w')(A:∀a,m=aA a->a.block≠t):fL w' m cs:=λx=>by
 obtain⟨g,o,e,r,D⟩:=h x;obtain⟨u,y⟩:∃u,cs[0]? =aA u:=⟨_,zAe x⟩;obtain⟨f,n,l,_,_,_,k2⟩:=h.idx 0 u y;have F:f=g/\n=o:=by rw[e]at l;injection l with l;injection l with G a2 _;exact⟨G.symm,a2.symm⟩
 obtain⟨rfl,rfl⟩:=F;have E:w'.heap[f]? =w.heap[f]? :=s.block f r (A _ e) λz o i v g B b=>by obtain⟨fr,b⟩:=b.at';rw[aZ b]at k2;have q:Value.bool u.gone∈(mZ z o i v g B).toList:=by{rw[zDw];exact zBi k2};simp only[mZ,zAf,zAr,zCb]at q;obtain h|h|h|h|h|h:=q;{cases z<;>cases h};{cases o<;>cases h};all_goals cases h
 refine⟨f,n,e,zAc r s.size,λj u C=> ?_⟩;rw[World.cell?_of_block (a:=⟨f,n+j,aB⟩) E];exact D j u C
def Grown (k t:Nat)(S:zP)(us cs:List bZ)(d:Nat)(x0 x1 x2 x3 x4:zY)(c:Int)(W:zW)(e:Ending)(w':zW):Prop:=
 ∃a rows f,e=aL (ptr a)/\cY k w' a (bL us cs) d W.heap.size w'.heap.size rows/\Grow t S f W w'/\(∀b,a=aA b->f b)/\dK w' t x0 x1 x2 x3 x4 (c+rows.length)/\rows.length<=nF (bG (bL us cs)) (bG us) d
structure kS (k t:Nat)(S:zP)(p:Option Nat)(us cs:List bZ)(d:Nat)(x0 x1 x2 x3 x4:zY)(c:Int)(W:zW):Prop where
 k1:1<=k
 k2:k<=32
 rep:eU k W p us d
 QI:nW us
 ai:nW cs
 here:∀u∈us,u.gone=aF
 EL:∀u∈us,u.idx.length=32
 ao:∀u∈cs,u.idx.length=32/\u.val.length<=100
 bits:∀a∈us++cs,∀b∈us++cs,∀i,i<d->bP a.idx i=bP b.idx i
 diff:Diff cs (bG (bL us cs)) (bG us)
 cells:CS W S
 zz:∀b,p=aA b->S b
 at':dK W t x0 x1 x2 x3 x4 c
 lo: -4611686018427387904<=c
 hi:c+nF (bG (bL us cs)) (bG us) d<=4611686018427387904
def Grow.below {B}(h:CS w S)(a:Below B w w')(b:w.heap.size<=B):Grow t S S w w':=⟨Hl.below a b,h.hl (t:=t) (Hl.below a b),λ_ h=>h,λ_ h=>aG h⟩
def Cg (h:kS k t S p us [] d x0 x1 x2 x3 x4 c w):Grown k t S us [] d x0 x1 x2 x3 x4 c w (aL (ptr p)) w:=
 ⟨p,[],S,rfl,.done h.rep (zAa _),.refl h.cells,h.zz,by simpa using h.at',zBq _⟩
def Er {u}(h:us=[]\/∃x,us=[x]/\x.idx=u.idx):bL us [u]=if u.gone then []else [VY u]:=by
 show jE us u=_;obtain rfl|⟨x,rfl,a⟩:=h
 .unfold jE tY mW;simp
 .have e:tY u.idx [x]=[]:=zAt (by rw[a,eP];decide);have b:mW u.idx [x]=[]:=zAt (by rw[a,eP];decide);unfold jE;rw[e,b];simp
def Ce {u}(h:kS k t S p us [u] d x0 x1 x2 x3 x4 c w)(f:us=[]\/∃x,us=[x]/\x.idx=u.idx)(g:u.gone=aE)(a:zb w w'):Grown k t S us [u] d x0 x1 x2 x3 x4 c w (aL (ptr aB)) w':=by refine⟨aB,[],S,rfl,?_,.below h.cells a (zAa _),λb e=>(by cases e),by simpa using h.at'.below a (zAa _),zBq _⟩;rw[Er f,zAl g];exact .done (.nil d) a.size
def Cf {u b}(h:kS k t S p us [u] d x0 x1 x2 x3 x4 c w)(n:us=[]\/∃x,us=[x]/\x.idx=u.idx)(o:u.gone=aF)(m:zb w w1)(i:KM w1 w' b aB aB u.idx u.val)(s:Hl t w1 w')(r:dK w' t x0 x1 x2 x3 x4 (c+1))(j:b<w'.heap.size):Grown k t S us [u] d x0 x1 x2 x3 x4 c w (aL (ptr (aA b))) w':=by obtain⟨v,q⟩:=i.cell;have a:=zAv m.size i.lo;have f:=(Hl.below m (zAa _)).trans s;have e:=Er n;rw[o]at e;have e:=e;refine⟨aA b,_,λx=>S x\/x=b,rfl,by rw[e];exact .leaf a j q,⟨f,(h.cells.hl f).add i (λc e=>by cases e) (λc e=>by cases e),λx g=>aG g,λx g=>g.imp id λe=>by subst e;exact a⟩,λx e=>by cases e;exact aH rfl,by simpa using r,?_⟩;rw[e];have l:=h.diff;rw[e]at l;exact Jr (zDq.2 h.QI) l (zAn.2 rfl) rfl
def kS.deep (h:kS k t S p us cs d x0 x1 x2 x3 x4 c w)(o:d<=256)(l:0<cs.length)(j:∀u,cs=[u]->us≠[]/\∀x,us=[x]->x.idx≠u.idx):d<256:=by
 have two:∀a∈us++cs,∀b∈us++cs,a.idx≠b.idx->d<256:=λa f b e g=>by
  obtain x|x:=zDi d 256;{exact x}
  .refine absurd (RP ?_ ?_ λi hi=>h.bits a f b e i (by omega)) g
   .obtain f|f:=zAh.1 f
    .exact h.EL a f
    .exact(h.ao a f).1
   .obtain e|e:=zAh.1 e
    .exact h.EL b e
    .exact(h.ao b e).1
 match cs,l with
 |[u],_=>
  obtain⟨n,m⟩:=j u rfl;match us,n with
  |[x],_=>exact two x (by simp) u (by simp) (m x rfl)
  |x::y::us,_=>exact two x (by simp) y (by simp) (IN h.QI y (by simp))
 |u::v::cs,_=>exact two u (by simp) v (by simp) (IN h.ai v (by simp))
def VI (us)(a)(d)(hl:us.length<=1)(e:d<256):nF (bG (bK d 0 us)) (cN a d 0) (d+1)+nF (bG (bK d 1 us)) (cN a d 1) (d+1)<=nF (bG us) a d:=by
 have h:=nB us d;have b:fV (256-(d+1)) (bG (bK d 0 us)) (cN a d 0) (d+1)=0:=by have:=tU (256-(d+1)) (bG (bK d 0 us)) (cN a d 0) (d+1);rw[gZ,show(bK d 0 us).length-1=0 by omega]at this;omega
 have n:fV (256-(d+1)) (bG (bK d 1 us)) (cN a d 1) (d+1)=0:=by have:=tU (256-(d+1)) (bG (bK d 1 us)) (cN a d 1) (d+1);rw[gZ,show(bK d 1 us).length-1=0 by omega]at this;omega
 unfold nF;rw[b,n,fB,fB];have:=tV (bG us) a d;omega
def BQ (h:kS k t S p us cs d x0 x1 x2 x3 x4 c w)(e:0<cs.length)(b:d<256):(if 2<=(bL us cs).length then 1 else 0)+(nF (bG (bL (bK d 0 us) (bK d 0 cs))) (bG (bK d 0 us)) (d+1)+nF (bG (bL (bK d 1 us) (bK d 1 cs))) (bG (bK d 1 us)) (d+1))<=nF (bG (bL us cs)) (bG us) d:=by
 rw[<-kN cs h.QI,<-kN cs h.QI,fB us d 0,fB us d 1];by_cases a:2<=(bL us cs).length
 .rw[zAl a,<-Jq h.diff a e b];exact zAa _
 .rw[zAj a,zAz];exact VI _ _ d (by omega) b
def kS.half (h:kS k t S p us cs d x0 x1 x2 x3 x4 c w)(b){j S1 c1}(m:eU k w1 j (bK d b us) (d+1))(q:CS w1 S1)(n:∀b,j=aA b->S1 b)(o:dK w1 t x0 x1 x2 x3 x4 c1)(s: -4611686018427387904<=c1)(r:c1+nF (bG (bL (bK d b us) (bK d b cs))) (bG (bK d b us)) (d+1)<=4611686018427387904):kS k t S1 j (bK d b us) (bK d b cs) (d+1) x0 x1 x2 x3 x4 c1 w1:=by
 refine⟨h.k1,h.k2,m,h.QI.filter _,h.ai.filter _,λu g=>h.here u (zAx.1 g).1,λu g=>h.EL u (zAx.1 g).1,λu g=>h.ao u (zAx.1 g).1,λx a y l i hi=> ?_,?_,q,n,o,s,r⟩
 .have f:∀x∈bK d b us++bK d b cs,x∈us++cs/\bP x.idx d=b:=λx a=>by
   obtain a|a:=zAh.1 a;{exact⟨zAh.2 (aG (zAx.1 a).1),zCm.1 (zAx.1 a).2⟩};{exact⟨zAh.2 (aH (zAx.1 a).1),zCm.1 (zAx.1 a).2⟩}
  by_cases e:i=d;{subst e;exact(f x a).2.trans (f y l).2.symm};{exact h.bits x (f x a).1 y (f y l).1 i (by omega)}
 .have:=h.diff.half d b;rw[<-fB,<-fB,kN cs h.QI]at this;exact this
end
def ye (k t:Nat)(S:zP)(us cs:List bZ)(d:Nat)(x0 x1 x2 x3 x4:zY)(c:Int)(w:zW)(p0:Option Nat)(w0:zW):Prop:=
 ∃m r0 S0,w.heap.size<=m/\cY k w0 p0 (bL (bK d 0 us) (bK d 0 cs)) (d+1) m w0.heap.size r0/\Grow t S S0 w w0/\(∀b,p0=aA b->S0 b)/\dK w0 t x0 x1 x2 x3 x4 (c+r0.length)/\r0.length<=nF (bG (bL (bK d 0 us) (bK d 0 cs))) (bG (bK d 0 us)) (d+1)
def dy (k t:Nat)(S:zP)(us cs:List bZ)(d:Nat)(x0 x1 x2 x3 x4:zY)(c:Int)(w:zW)(p0 p1:Option Nat)(w1:zW):Prop:=
 ∃m m1 r0 r1 S1,w.heap.size<=m/\m1<=w1.heap.size/\cY k w1 p0 (bL (bK d 0 us) (bK d 0 cs)) (d+1) m m1 r0/\cY k w1 p1 (bL (bK d 1 us) (bK d 1 cs)) (d+1) m1 w1.heap.size r1/\Grow t S S1 w w1/\(∀b,p0=aA b->S1 b)/\(∀b,p1=aA b->S1 b)/\dK w1 t x0 x1 x2 x3 x4 (c+(r0.length+r1.length:Nat))/\r0.length<=nF (bG (bL (bK d 0 us) (bK d 0 cs))) (bG (bK d 0 us)) (d+1)/\r1.length<=nF (bG (bL (bK d 1 us) (bK d 1 cs))) (bG (bK d 1 us)) (d+1)
section
variable {w wa w0 w1 w':zW}{t k d:Nat}{x0 x1 x2 x3 x4:zY}{c:Int}{p p0 p1 z o:Option Nat}{S:zP}{us cs:List bZ}{e:Ending}
def au (h:kS k t S p us cs d x0 x1 x2 x3 x4 c w)(a:zb w wa)(g:Grown k t S (bK d 0 us) (bK d 0 cs) (d+1) x0 x1 x2 x3 x4 c wa e w0):∃p0,e=aL (ptr p0)/\ye k t S us cs d x0 x1 x2 x3 x4 c w p0 w0:=by obtain⟨p0,r0,S0,m,l,j,i,f,b⟩:=g;exact⟨p0,m,wa.heap.size,r0,S0,a.size,l,(Grow.below h.cells a (zAa _)).trans j,i,f,b⟩
def Dn (h:kS k t S p us cs d x0 x1 x2 x3 x4 c w)(l:0<cs.length)(j:d<256)(a:zb w wa)(i:sN k w us d z o)(g:∀b,z=aA b->S b):kS k t S z (bK d 0 us) (bK d 0 cs) (d+1) x0 x1 x2 x3 x4 c wa:=by have m:=BQ h l j;have hi:=h.hi;have f:Hl t w wa:=Hl.below a (zAa _);exact h.half 0 (i.z.hl h.k1 h.k2 f) (h.cells.hl f) g (h.at'.below a (zAa _)) h.lo (by omega)
def Lq (h:kS k t S p us cs d x0 x1 x2 x3 x4 c w)(r:0<cs.length)(q:d<256)(j:sN k w us d z o)(i:∀b,o=aA b->S b)(l:ye k t S us cs d x0 x1 x2 x3 x4 c w p0 w0):
  ∃S0 c0,kS k t S0 o (bK d 1 us) (bK d 1 cs) (d+1) x0 x1 x2 x3 x4 c0 w0/\∀e w1,Grown k t S0 (bK d 1 us) (bK d 1 cs) (d+1) x0 x1 x2 x3 x4 c0 w0 e w1->∃p1,e=aL (ptr p1)/\dy k t S us cs d x0 x1 x2 x3 x4 c w p0 p1 w1:=by
 obtain⟨m,r0,S0,y,x,a,v,u,s⟩:=l;have D:=BQ h r q;have hi:=h.hi;have n:=h.lo;refine⟨S0,c+r0.length,h.half 1 (j.o.hl h.k1 h.k2 a.hl) a.cs (λb e=>a.old b (i b e)) u (by omega) (by omega),λe w1 g=> ?_⟩;obtain⟨p1,r1,S1,C,B,f,A,g4,g5⟩:=g;exact⟨p1,C,m,w0.heap.size,r0,r1,S1,y,f.hl.size,x.hl h.k1 h.k2 f.hl,B,a.trans f,λb e=>f.old b (v b e),A,by rw[show c+((r0.length+r1.length:Nat):Int)=c+r0.length+r1.length by omega];exact g4,s,g5⟩
def Br (h:kS k t S p us cs d x0 x1 x2 x3 x4 c w)(M:0<cs.length)(L:d<256)(I:dy k t S us cs d x0 x1 x2 x3 x4 c w p0 p1 w1):
  Calls zq 232 #[aN (aA ⟨t,0,aB⟩),ptr p0,ptr p1] w1 λe w'=>∃j,e=aL (ptr j)/\Grown k t S us cs d x0 x1 x2 x3 x4 c w (aL (ptr j)) w':=by
 obtain⟨m,m1,r0,r1,S1,X,h2,V,U,v,T,R,Q,h9,W⟩:=I;have hn:=BQ h M L;have hi:=h.hi;have J:=h.lo;have P:Sub (bL us cs) d:=by
  have g:∀x∈bL us cs,∃y∈us++cs,x.idx=y.idx:=by
   have:∀(cs l:List bZ),∀x∈bL l cs,∃y∈l++cs,x.idx=y.idx:=by
    intro cs;induction cs with
    |nil=>intro l x q;exact⟨x,zAh.2 (aG q),rfl⟩
    |cons u cs G=>
     intro l x q;obtain⟨y,f,e⟩:=G (jE l u) x q;obtain f|f:=zAh.1 f
     .obtain f|f:=zAh.1 f
      .exact⟨y,zAh.2 (aG (zAx.1 f).1),e⟩
      .obtain f|f:=zAh.1 f
       .refine⟨u,by simp,e.trans ?_⟩;cases s:u.gone with
        |true=>rw[s]at f;simp at f
        |false=>rw[s]at f;simp at f;rw[f];rfl
       .exact⟨y,zAh.2 (aG (zAx.1 f).1),e⟩
     .exact⟨y,zAh.2 (aH (zBl _ f)),e⟩
   exact this cs us
  refine⟨IM cs h.QI,λu H=> ?_,λa O b N i hi=> ?_⟩
  .obtain⟨y,f,e⟩:=g u H;rw[e];obtain f|f:=zAh.1 f
   .exact h.EL y f
   .exact(h.ao y f).1
  .obtain⟨y,f,e⟩:=g a O;obtain⟨A,n,r⟩:=g b N;rw[e,r];exact h.bits y f A n i hi
 have q0:=kN (d:=d) (b:=0) cs h.QI;have B:=kN (d:=d) (b:=1) cs h.QI;refine(Kf h.k1 h.k2 (by rw[q0];exact V) (by rw[B];exact U) P v.cs T R Q (by omega) (by omega)).mono λe w' K=> ?_;obtain⟨j,rows,Y,r,F,E,D,C,Z⟩:=K;refine⟨j,r,j,rows,Y,rfl,F.wide X (zAa _),v.trans E,D,?_,by omega⟩;rw[show c+(rows.length:Int)=c+((r0.length+r1.length:Nat):Int)+((rows.length:Int)-(r0.length+r1.length:Nat)) by omega];exact C
end
section
variable {w:zW}{t k d cap:Nat}{x0 x1 x2 x3 x4:zY}{c:Int}{p:Option Nat}{S:zP}{us cs:List bZ}{va:zO}
def WI (h:kS k t S p us [] d x0 x1 x2 x3 x4 c w):Calls zq 223 #[aN (aA ⟨t,0,aB⟩),ptr p,aC aD d,aJ va 0 cap] w (Grown k t S us [] d x0 x1 x2 x3 x4 c w):=by have H:=hid (Cg h);generalize Grown k t S us [] d x0 x1 x2 x3 x4 c w=J at*;go_enter (Qz.fn func223),ntmps223;go_wp2;exact H.out
def WY {u cs}(a:fL w va (u::cs)):∃g o,va=aA ⟨g,o,aB⟩/\g<w.heap.size/\w.cell? ⟨g,o,aB⟩=aA (aK ⟨u.idx.toArray⟩)/\w.cell? ⟨g,o+1,aB⟩=aA (aK ⟨u.val.toArray⟩)/\w.cell? ⟨g,o+2,aB⟩=aA (.bool u.gone):=by obtain⟨g,o,e,h,c0,c1,c2⟩:=a.idx 0 u rfl;rw[zFq,zFs]at c0 c1 c2;exact⟨g,o,e,h,c0,c1,c2⟩
def WH {u}(h:kS k t S p us [u] d x0 x1 x2 x3 x4 c w)(A:us=[]\/∃x,us=[x]/\x.idx=u.idx)(Q:fL w va [u]):Calls zq 223 #[aN (aA ⟨t,0,aB⟩),ptr p,aC aD d,aJ va 1 cap] w (Grown k t S us [u] d x0 x1 x2 x3 x4 c w):=by
 obtain⟨g,o,rfl,y,c0,c1,c2⟩:=WY Q;have N:=h.ao u (zAn.2 rfl);have I:Hid (u.gone=aE->∀W,zb w W->Grown k t S us [u] d x0 x1 x2 x3 x4 c w (aL (ptr aB)) W):=λy W q=>Ce h A y q;have K:Hid (u.gone=aF->∀W,zb w W->Calls zq 229 #[aN (aA ⟨t,0,aB⟩),Up u] W λe l=>∃b,e=aL (ptr (aA b))/\Grown k t S us [u] d x0 x1 x2 x3 x4 c w (aL (ptr (aA b))) l):=λy W q=>by have O:=h.lo;have hi:=h.hi;refine(Kb u (by omega) (by omega) (h.at'.below q (zAa _)) h.lo (by omega)).mono λe l V=> ?_;obtain⟨b,F,U,D,T,R⟩:=V;exact⟨b,F,Cf h A y q U D T R⟩
 have M:p=aB\/∃b g B,p=aA b/\aX w b aB aB u.idx ((us.headD ⟨[],[],aF⟩).val) g B:=by
  obtain rfl|⟨x,rfl,L⟩:=A;{exact aG (h.rep.gO.2 rfl)}
  .cases h.rep with
   |leaf v=>exact aH ⟨_,_,_,rfl,by rw[<-L];exact v⟩
   |node D=>simp at D
 have H:Hid (zb w (w.alloc (aI #[aK ⟨u.idx.toArray⟩,aK ⟨u.val.toArray⟩,.bool u.gone] 53))):=(zGn _ w).alloc (zAa _) _;have i:(w.alloc (aI #[aK ⟨u.idx.toArray⟩,aK ⟨u.val.toArray⟩,.bool u.gone] 53)).heap[w.heap.size]? =aA (aI #[aK ⟨u.idx.toArray⟩,aK ⟨u.val.toArray⟩,.bool u.gone] 53 (0,0)):=zGw w _;generalize Grown k t S us [u] d x0 x1 x2 x3 x4 c w=J at*;have a:Hid (∀W n,zb w W->zb w (W.drewN n)):=λW n h=>⟨h.os,h.tape,h.output,h.size,h.block⟩;obtain rfl|⟨b,X,B,rfl,v⟩:=M
 .obtain⟨s,r,z⟩:=u;dsimp only at*;cases z with
  |true=>
   go_enter (Qz.fn func223),ntmps223;go_upto_region 4 with(fail)
   have E:=(aZ i 2).trans rfl;generalize(w.alloc (aI #[aK ⟨s.toArray⟩,aK ⟨r.toArray⟩,.bool aE] 53))=f at*;go_quiet (fail);go_wp2;exact I.out (by first|trivial|rfl) _ (a.out _ _ H.out)
  |false=>
   go_enter (Qz.fn func223),ntmps223;go_upto_region 4 with(fail)
   have G:=(aZ i 0).trans rfl;have F:=(aZ i 1).trans rfl;have E:=(aZ i 2).trans rfl;generalize(w.alloc (aI #[aK ⟨s.toArray⟩,aK ⟨r.toArray⟩,.bool aF] 53))=f at*;go_quiet (fail);go_wp2_with fail;refine(K.out (by first|trivial|rfl) _ (a.out _ _ H.out)).mono ?_;rintro e l ⟨b,rfl,C⟩;go_wp2;exact C
 .have j:Hid (∀W,zb w W->aX W b aB aB u.idx ((us.headD ⟨[],[],aF⟩).val) X B):=λW q=>⟨by rw[q.block b v.lt];exact v.at'⟩;generalize(us.headD ⟨[],[],aF⟩).val=Y at*;have P:=v.lt;obtain⟨s,r,z⟩:=u;dsimp only at*;cases z with
  |true=>
   go_enter (Qz.fn func223),ntmps223;go_upto_region 4 with(fail)
   have G:=(aZ i 0).trans rfl;have E:=(aZ i 2).trans rfl;generalize(w.alloc (aI #[aK ⟨s.toArray⟩,aK ⟨r.toArray⟩,.bool aE] 53))=f at*;have k2:=(j.out f H.out).c2;have m:Hid (∀n,Calls zq 227 #[ptr (aA b)] (f.drewN n) λe l=>e=aL (.bool aE)/\l=f.drewN n):=λn=>iU (j.out _ (a.out _ n H.out));go_quiet ((go_at_call 227;exact zHa (m.out _)));go_wp2;exact I.out (by first|trivial|rfl) _ (a.out _ _ H.out)
  |false=>
   go_enter (Qz.fn func223),ntmps223;go_upto_region 4 with(fail)
   have G:=(aZ i 0).trans rfl;have F:=(aZ i 1).trans rfl;have E:=(aZ i 2).trans rfl;generalize(w.alloc (aI #[aK ⟨s.toArray⟩,aK ⟨r.toArray⟩,.bool aF] 53))=f at*;have k2:=(j.out f H.out).c2;have m:Hid (∀n,Calls zq 227 #[ptr (aA b)] (f.drewN n) λe l=>e=aL (.bool aE)/\l=f.drewN n):=λn=>iU (j.out _ (a.out _ n H.out));go_quiet ((go_at_call 227;exact zHa (m.out _)));go_wp2_with fail;refine(K.out (by first|trivial|rfl) _ (a.out _ _ H.out)).mono ?_;rintro e l ⟨b,rfl,C⟩;go_wp2;exact C
end
section
variable {w W:zW}{t k d cap n m g o:Nat}{p z:Option Nat}{S:zP}{us:List bZ}{J:Ending->zW->Prop}
def UI (A:CS w S)(y:zb w W)(h:eU k W z us d)(D:∀b,z=aA b->S b):eU k w z us d:=by
 refine h.stay (λb z o i v g x l j c e=> ?_) (λb z o i v g x l j=> ?_) D
 .obtain⟨q,s,u,r,C,a,f,_,B⟩:=A b l;have E:aX W b q s u r C a:=⟨by rw[y.block b f.lt];exact f.at'⟩;obtain⟨rfl,rfl,_⟩:=gQ j E;exact B c e
 .obtain⟨q,s,u,r,C,a,f,_,B⟩:=A b l;exact⟨x,⟨by rw[<-y.block b f.lt];exact j.at'⟩⟩
def Gk (w:zW)(p:Option Nat)(n:Nat)(I:zB):Prop:=
 2<=n\/(n=1/\∃b z o i v g h,p=aA b/\aX w b z o i v g h/\((z.isNone&&o.isNone)=aF\/(z=aB/\o=aB/\i≠I)))
def Kl {Ha:zY->zY->Prop}{M1:zR}{M2:zY->zR}{x D:zB}{E}
  {vb Y cb} (G:(cap=m/\Y=0/\cb=0/\vb=aA ⟨g,o,aB⟩)\/(cap≠m/\Y=n-m/\cb=cap-m/\vb=aA ⟨g,o+m*3,aB⟩)) (hd:d<256) (hn:n<=1000000) (hm:m<=n) (fE:n<=cap) (hN:Gk w p n x) (hg:g<w.heap.size) (c0:w.cell? ⟨g,o,aB⟩=aA (aK ⟨x.toArray⟩)) (c1:w.cell? ⟨g,o+1,aB⟩=aA (aK ⟨D.toArray⟩)) (c2:w.cell? ⟨g,o+2,aB⟩=aA (.bool E))
  (hP:∀W,zb w W->Calls zq 230 #[ptr p,aC aD d] W λe w'=>∃z o,e=aL (.tuple #[z,o])/\zb w w'/\Ha z o)
  (hQ:∀W,zb w W->Calls zq 231 #[aJ (aA ⟨g,o,aB⟩) n cap,aC aD d] W λe w'=>e=aL (aC aD (m))/\zb w w')
  (hZ:∀z R,Ha z R->∀W,zb w W->Calls zq 223 #[aN (aA ⟨t,0,aB⟩),z,aC aD ((d)+1),aJ (aA ⟨g,o,aB⟩) m cap] W λe w'=>∃p0,e=aL p0/\M1 p0 w')
  (hO:∀z R,Ha z R->∀p0 W,M1 p0 W->Calls zq 223 #[aN (aA ⟨t,0,aB⟩),R,aC aD ((d)+1),aJ vb Y cb] W λe w'=>∃A,e=aL A/\M2 p0 A w')
  (hJ:∀p0 A W,M2 p0 A W->Calls zq 232 #[aN (aA ⟨t,0,aB⟩),p0,A] W λe w'=>∃p',e=aL p'/\J (aL p') w'):
  Calls zq 223 #[aN (aA ⟨t,0,aB⟩),ptr p,aC aD d,aJ (aA ⟨g,o,aB⟩) n cap] w J:=by
 have U:=hid hP;have T:=hid hQ;have HZ:=hid hZ;have HO:=hid hO;have HJ:=hid hJ;have H:Hid (zb w (w.alloc (aI #[aK ⟨x.toArray⟩,aK ⟨D.toArray⟩,.bool E] 53))):=(zGn _ w).alloc (zAa _) _;have Z:(w.alloc (aI #[aK ⟨x.toArray⟩,aK ⟨D.toArray⟩,.bool E] 53)).heap[w.heap.size]? =aA (aI #[aK ⟨x.toArray⟩,aK ⟨D.toArray⟩,.bool E] 53 (0,0)):=zGw w _;have j:Hid (∀W n,zb w W->zb w (W.drewN n)):=λW n h=>⟨h.os,h.tape,h.output,h.size,h.block⟩;have s:Hid (∀W,zb w W->zb w W.drew):=λW h=>h.drew;have hwr:IntKind.i64.wrap ((d:Int)+1)=(d:Int)+1:=by rw[zGs];omega
 have qe:¬((m:Int)<0):=by omega
 have vf:(m:Int)<=(n:Int):=by omega
 have qd:(m:Int)<=(cap:Int):=by omega
 have hn0:(0:Int)<(n:Int):=by obtain h|⟨h,_⟩:=hN<;>omega
 have H3:∃(B:Prop),(2<=n/\B=True)\/(n=1/\∃b i v,∃q:Bool,p=aA b/\(∀W,zb w W->Calls zq 227 #[ptr p] W λe w'=>e=aL (.bool q)/\w'=W)/\(∀W,zb w W->W.cell? ⟨b,2,aB⟩=aA (aK ⟨(i:zB).toArray⟩))/\(q=aF\/(q=aE/\(i==x)=aF))/\v=b):=by
  refine⟨True,?_⟩;obtain h|⟨h,b,z,o1,i,v,gg,hs,rfl,hc,F⟩:=hN;{exact aG ⟨h,rfl⟩}
  .have hC:∀W,zb w W->aX W b z o1 i v gg hs:=λW N=>⟨by rw[N.block b hc.lt];exact hc.at'⟩;refine aH ⟨h,b,i,b,z.isNone&&o1.isNone,rfl,λW N=>iU (hC W N),λW N=>(hC W N).c2,?_,rfl⟩;obtain F|⟨rfl,rfl,F⟩:=F
   .exact aG F
   .exact aH ⟨rfl,zBy.2 F⟩
 obtain⟨B,H3⟩:=H3;obtain⟨h,-⟩|⟨rfl,b,i,v,q,rfl,K,L,hq,-⟩:=H3
 .have py:=zBv (by omega);have aCK:decide (n=1)=aF:=zBv (by omega);have aCJ:((n:Int)==1)=aF:=zBy.2 (by omega);have aCI:(n==1)=aF:=zBy.2 (by omega);obtain⟨rfl,rfl,rfl,rfl⟩|⟨hcm,rfl,rfl,rfl⟩:=G;all_goals
   go_enter (Qz.fn func223),ntmps223
   go_upto_region 4 with(fail)
   clear Z c0 c1 c2
   generalize(w.alloc (aI #[aK ⟨x.toArray⟩,aK ⟨D.toArray⟩,.bool E] 53))=u at*
   go_quiet (fail)
   have f:=j.out u nq H.out
   generalize u.drewN nq=V at*
   have l:=hid f
   clear f H j
   go_wp2_with fail
   refine(U.out V l.out).mono ?_
   rintro e w2 ⟨z,X,rfl,c,M⟩
   have Q:=hid M
   have r:=hid c
   clear c M U l
   go_wp2_with fail
   refine(T.out w2 r.out).mono ?_
   rintro e w3 ⟨rfl,a⟩
   have C:Hid (zb w w3.drew):=s.out _ a
   clear a T r s
   go_upto_region 10 with(fail)
   go_region_with (first
    |(go_at_call_of 223 z;refine(HZ.out _ _ Q.out _ C.out).mono ?_;rintro e w4 ⟨p0,rfl,m1⟩;dsimp only)
    |(go_at_call_of 223 X;refine(HO.out _ _ Q.out _ _ m1).mono ?_;rintro e w5 ⟨A,rfl,m2⟩;dsimp only)
    |(go_at_call 232;refine(HJ.out _ _ _ m2).mono ?_;rintro e w6 ⟨p2,rfl,I⟩;dsimp only))
   all_goals go_wp2
   all_goals first|exact I|(go_ret;exact I)
 .have O:=hid K;have P:=hid L;clear K L;obtain rfl|⟨rfl,hi⟩:=hq;all_goals obtain⟨rfl,rfl,rfl,rfl⟩|⟨hcm,rfl,rfl,rfl⟩:=G
  all_goals
   go_enter (Qz.fn func223),ntmps223
   go_upto_region 4 with(fail)
   have e0:=(aZ Z 0).trans rfl
   clear Z c0 c1 c2
   generalize(w.alloc (aI #[aK ⟨x.toArray⟩,aK ⟨D.toArray⟩,.bool E] 53))=u at*
   have k2:=P.out u H.out
   have y:Hid (∀n,Calls zq 227 #[ptr (aA b)] (u.drewN n) λe w'=>e=aL (.bool _)/\w'=u.drewN n):=λn=>O.out _ (j.out _ n H.out)
   clear O P
   go_quiet ((go_at_call 227;exact zHa (y.out _)))
   clear y k2 e0
   have f:=j.out u nq H.out
   generalize u.drewN nq=V at*
   have l:=hid f
   clear f H j
   go_wp2_with fail
   refine(U.out V l.out).mono ?_
   rintro e w2 ⟨z,X,rfl,c,M⟩
   have Q:=hid M
   have r:=hid c
   clear c M U l
   go_wp2_with fail
   refine(T.out w2 r.out).mono ?_
   rintro e w3 ⟨rfl,a⟩
   have C:Hid (zb w w3.drew):=s.out _ a
   clear a T r s
   go_upto_region 10 with(fail)
   go_region_with (first
    |(go_at_call_of 223 z;refine(HZ.out _ _ Q.out _ C.out).mono ?_;rintro e w4 ⟨p0,rfl,m1⟩;dsimp only)
    |(go_at_call_of 223 X;refine(HO.out _ _ Q.out _ _ m1).mono ?_;rintro e w5 ⟨A,rfl,m2⟩;dsimp only)
    |(go_at_call 232;refine(HJ.out _ _ _ m2).mono ?_;rintro e w6 ⟨p2,rfl,I⟩;dsimp only))
   all_goals go_wp2
   all_goals first|exact I|(go_ret;exact I)
end
section
variable {k t:Nat}{x0 x1 x2 x3 x4:zY}
def Pp {S p us cs u d c w}(h:kS k t S p us (u::cs) d x0 x1 x2 x3 x4 c w)(i:∀v,u::cs=[v]->us≠[]/\∀x,us=[x]->x.idx≠v.idx):Gk w p (u::cs).length u.idx:=by
 cases cs with
 |cons v cs=>exact aG (by simp)
 |nil=>
  obtain⟨l,j⟩:=i u rfl;refine aH ⟨rfl,?_⟩;cases h.rep with
  |nil=>exact absurd rfl l
  |leaf a=>exact⟨_,_,_,_,_,_,_,rfl,a,aH ⟨rfl,rfl,j _ rfl⟩⟩
  | @node b _ _ z o m g2 _ a f g=>
   refine⟨_,_,_,_,_,_,_,rfl,a,aG ?_⟩;have hl:=nB us d;have e:=f.gO;have n:=g.gO;cases z with
   |some _=>rfl
   |none=>
    cases o with
    |some _=>rfl
    |none=>rw[e.1 rfl,n.1 rfl]at hl;simp at hl;omega
def Qs:∀(f){d cap us cs p S c w I},256-d=f->d<=256->kS k t S p us cs d x0 x1 x2 x3 x4 c w->fL w I cs->(∀a,I=aA a->a.block≠t)->cs.length<=1000000->cs.length<=cap->
  Calls zq 223 #[aN (aA ⟨t,0,aB⟩),ptr p,aC aD d,aJ I cs.length cap] w (Grown k t S us cs d x0 x1 x2 x3 x4 c w):=by
 intro f;induction f with
 |zero=>
  intro d cap us cs p S c w I hf hd h y T hl l;match cs,h,y,hl,l with
  |[],h,_,_,_=>exact WI h
  |u::cs,h,y,_,_=>
   by_cases j:cs=[]/\(us=[]\/∃x,us=[x]/\x.idx=u.idx);{obtain⟨rfl,hu⟩:=j;exact WH h hu y}
   .exfalso;have:=h.deep hd (by simp) λv e=>by
     injection e with H O;subst H;exact⟨λe=>j ⟨O,aG e⟩,λx ex C=>j ⟨O,aH ⟨x,ex,C⟩⟩⟩
    omega
 |succ f ih=>
  intro d cap us cs p S c w I hf hd h y T hl l;match cs,h,y,hl,l with
  |[],h,_,_,_=>exact WI h
  |u::cs,h,y,hl,l=>
   by_cases j:cs=[]/\(us=[]\/∃x,us=[x]/\x.idx=u.idx);{obtain⟨rfl,hu⟩:=j;exact WH h hu y}
   .have B:∀v,u::cs=[v]->us≠[]/\∀x,us=[x]->x.idx≠v.idx:=λv e=>by
     injection e with H O;subst H;exact⟨λe=>j ⟨O,aG e⟩,λx ex C=>j ⟨O,aH ⟨x,ex,C⟩⟩⟩
    have U:0<(u::cs).length:=by{simp};have n:=h.deep hd U B;have hN:=Pp h B;obtain⟨g,o,rfl,hg,c0,c1,c2⟩:=WY y;have hgt:=T _ rfl;have hSC:Sub (u::cs) d:=⟨h.ai,λx C=>(h.ao x C).1,λa ha b hb i hi=>h.bits a (zAh.2 (aH ha)) b (zAh.2 (aH hb)) i hi⟩;obtain⟨m,hcut,e0,H⟩:=hSC.cut;have hmn:=hcut.le;have l0:(bK d 0 (u::cs)).length=m:=by{rw[<-e0,zBg];omega};have l1:(bK d 1 (u::cs)).length=(u::cs).length-m:=by{rw[<-H,zCk]};have s:(((d+1:Nat)):Int)=(d:Int)+1:=by omega
    obtain⟨Q,R,V,r⟩:∃Q R V,(cap=m/\R=0/\V=0/\Q=aA (⟨g,o,aB⟩:Addr))\/(cap≠m/\R=(u::cs).length-m/\V=cap-m/\Q=aA (⟨g,o+m*3,aB⟩:Addr)):=by by_cases e:cap=m;{exact⟨_,_,_,aG ⟨e,rfl,rfl,rfl⟩⟩};{exact⟨_,_,_,aH ⟨e,rfl,rfl,rfl⟩⟩}
    refine Kl (Ha:=λX Y=>∃z o,X=ptr z/\Y=ptr o/\sN k w us d z o/\(∀b,z=aA b->S b)/\∀b,o=aA b->S b) (M1:=λv W=>∃p0,v=ptr p0/\ye k t S us (u::cs) d x0 x1 x2 x3 x4 c w p0 W) (M2:=λv v' W=>∃p0 L,v=ptr p0/\v'=ptr L/\dy k t S us (u::cs) d x0 x1 x2 x3 x4 c w p0 L W) r n hl hmn l hN hg c0 c1 c2 (λW q=> ?_) (λW q=> ?_) (λX Y F W q=> ?_) (λX Y F v0 W hM=> ?_) (λv0 v1 W hM=> ?_)
    .have F:Hl t w W:=Hl.below q (zAa _);refine(UO (h.rep.hl h.k1 h.k2 F) n h.EL (h.cells.hl F) h.zz).mono λe P A=> ?_;obtain⟨z,Z,D,hw,G,J,K⟩:=A;refine⟨_,_,D,?_,z,Z,rfl,rfl,⟨UI h.cells q G.z J,UI h.cells q G.o K⟩,J,K⟩;obtain rfl|rfl:=hw
     .exact q
     .exact q.drew
    .exact(UN (y.below q (zAa _)) hl (λx C=>(h.ao x C).1) n hcut).mono λe P A=>⟨A.1,q.trans (A.2.mono q.size)⟩
    .obtain⟨z,Z,rfl,rfl,G,J,K⟩:=F;have hE0:fL W (aA ⟨g,o,aB⟩) (bK d 0 (u::cs)):=by{rw[<-e0];exact(y.below q (zAa _)).part m};have:=ih (cap:=cap) (by omega) (by omega) (Dn h U n q G J) hE0 T (by omega) (by omega);rw[l0,s]at this;refine this.mono λe P A=> ?_;obtain⟨p0,D,E⟩:=au h q A;exact⟨_,D,p0,rfl,E⟩
    .obtain⟨z,Z,rfl,rfl,G,J,K⟩:=F;obtain⟨p0,rfl,E⟩:=hM;obtain⟨S0,c0',N,M⟩:=Lq h U n G K E;have hl0:Hl t w W:=by obtain⟨_,_,_,_,_,hG,_⟩:=E;exact hG.hl
     have xk:fL W Q (bK d 1 (u::cs)):=by rw[<-H];refine(y.hl hl0 T).rest m λbX=> ?_;obtain⟨hv,_,_,_⟩|⟨_,_,_,rfl⟩:=r;{omega};{rw[zBh,addr_add]}
     have:=ih (cap:=V) (by omega) (by omega) N xk (λa ha=>by
      obtain⟨_,_,_,rfl⟩|⟨_,_,_,rfl⟩:=r<;>(cases ha;exact hgt)) (by omega) (by
      obtain⟨hv,_,rfl,_⟩|⟨_,_,rfl,_⟩:=r<;>omega)
     have hlb:(u::cs).length-m=R:=by obtain⟨hv,rfl,_,_⟩|⟨_,rfl,_,_⟩:=r<;>omega
     rw[l1,hlb,s]at this;refine this.mono λe P A=> ?_;obtain⟨L,D,qd⟩:=M _ _ A;exact⟨_,D,p0,L,rfl,rfl,qd⟩
    .obtain⟨p0,L,rfl,rfl,E⟩:=hM;refine(Br h U n E).mono λe P A=> ?_;obtain⟨p',D,hG⟩:=A;exact⟨_,D,hG⟩
end
def cM.cy {w base v l}(h:cM w base v l):∃d c,v=aJ d l.length c/\l.length<=c/\fL w d l:=by
 obtain⟨rfl,m⟩|⟨g,cap,cur,rfl,hb,e,i,r,o,f⟩:=h.2
 .exact⟨aB,0,by rw[m],by omega,λh=>by omega⟩
 .refine⟨aA ⟨g,0,aB⟩,cap,rfl,i,λ_=>⟨g,0,rfl,(zAb.1 e).1,λj u a=> ?_⟩⟩;rw[zAz,zHf w g j cur 53 (0,0) e];rw[<-f,zCo]at a;split at a
  .rw[<-zBr];exact a
  .cases a
structure Gw (k t b cap n:Nat)(C:zP)(cur:zA)(R x4 c:Int)(NX:List bZ)(S:List (List bZ))(rows:List (Nat×ByteArray))(lo hi:Nat)(p:Option Nat)(w W:zW):Prop where
 mem:lL k t b cap n C cur R x4 c W
 rep:cY k W p NX 0 lo hi rows
 Fa:∀b,p=aA b->C b
 hl:Hl t w W
 Zn:YG k W cur S
structure Gd (k t b cap n:Nat)(C:zP)(cur:zA)(R x4 c:Int)(NX:List bZ)(S:List (List bZ))(p:Option Nat)(b0:Nat)(w W:zW):Prop where
 mem:lL k t b cap n C cur R x4 c W
 rep:eU k W p NX 0
 Fa:∀b,p=aA b->C b
 save:eR (kW w t b0) w W
 Zn:YG k W cur S
section
variable {k t b cap n lo hi room:Nat}{C C':zP}{cur:zA}{R x4 c c':Int}{NX last cs:List bZ}{S:List (List bZ)}{rows:List (Nat×ByteArray)}{p q:Option Nat}{w W W':zW}
def Gw.next (e:1<=k)(d:k<=32)(f:zq.globals.size<t)(h:Gw k t b cap n C cur R x4 c NX S rows lo hi p w W)(a:Hl t W W')(g:dK W' t (aC aD k) (aC aD R) (aK ⟨(dg k [0]).toArray⟩) (aJ (aA ⟨b,0,aB⟩) n cap) (aC aD x4) c'):Gw k t b cap n C cur R x4 c' NX S rows lo hi p w W':=
 ⟨h.mem.hl a f g (h.mem.cs.hl a),h.rep.hl e d a,h.Fa,h.hl.trans a,h.Zn.hl e d a⟩
def Gw.below (f:1<=k)(e:k<=32)(d:zq.globals.size<t)(h:Gw k t b cap n C cur R x4 c NX S rows lo hi p w W)(a:zb W W'):Gw k t b cap n C cur R x4 c NX S rows lo hi p w W':=
 h.next f e d (.below a (zAa _)) (h.mem.tr.below a (zAa _))
def Gd.next {d:Nat}(f:1<=k)(e:k<=32)(g:zq.globals.size<t)(h:Gd k t b cap n C cur R x4 c NX S p d w W)(a:Hl t W W')(i:dK W' t (aC aD k) (aC aD R) (aK ⟨(dg k [0]).toArray⟩) (aJ (aA ⟨b,0,aB⟩) n cap) (aC aD x4) c'):Gd k t b cap n C cur R x4 c' NX S p d w W':=
 ⟨h.mem.hl a g i (h.mem.cs.hl a),h.rep.hl f e a,h.Fa,h.save.step (b':=d) (.hl a) (aG rfl),h.Zn.hl f e a⟩
def Gd.below {d:Nat}(g:1<=k)(f:k<=32)(e:zq.globals.size<t)(h:Gd k t b cap n C cur R x4 c NX S p d w W)(a:zb W W'):Gd k t b cap n C cur R x4 c NX S p d w W':=
 h.next g f e (.below a (zAa _)) (h.mem.tr.below a (zAa _))
def lz (m:1<=k)(l:k<=32)(H:zq.globals.size<t)(K:lL k t b cap n C cur R x4 c w)(D:YG k w cur S)(M:eU k w q last 0)(N:∀b,q=aA b->C b)(h:KV last)(z:∀u∈cs,u.idx.length=32/\u.val.length<=100)(s:nW cs)(hl:cs.length<=1000)(B: -4611686018427387904<=c)(A:c+nF (bG (bL last cs)) (bG last) 0<=4611686018427387904)
  (J:zb w W) {v} (G:cM W w.heap.size v (kU last cs)):
  Calls zq 223 #[aN (aA ⟨t,0,aB⟩),ptr q,aC aD 0,v] W λe W'=>∃F p rows C' hi,e=aL F/\F=ptr p/\Gw k t b cap n C' cur R x4 (c+rows.length) (bL last cs) S rows W.heap.size hi p w W'/\rows.length<=nF (bG (bL last cs)) (bG last) 0/\∀x,C x->C' x:=by
 obtain⟨L,Q,rfl,y,P⟩:=G.cy;have f:=K.below J (zAa _) H;have E:Hl t w W:= .below J (zAa _);have d:=Fo cs h.sub.order h.here s;have g:∀u∈kU last cs,u∈cs:=λu r=>(zAx.1 r).1;have j:kS k t C q last (kU last cs) 0 (aC aD k) (aC aD R) (aK ⟨(dg k [0]).toArray⟩) (aJ (aA ⟨b,0,aB⟩) n cap) (aC aD x4) c W:=
  ⟨m,l,M.hl m l E,h.sub.order,s.filter _,h.here,h.sub.idx,λu r=>z u (g u r),λa _ b _ i hi=>absurd hi (Nat.not_lt_zero _),by rw[d];exact Rv s,f.cs,N,f.tr,B,by rw[d];exact A⟩
 have o:∀a,L=aA a->a.block≠t:=λa O e=>by subst O;have:=G.lt a.block rfl;have:=K.tr.lt;omega
 have I:(kU last cs).length<=cs.length:=zGa ..;refine(Qs 256 rfl (zBq _) j P o (by omega) y).mono ?_;rintro e W' ⟨p,rows,C',rfl,g1,g2,g3,g4,g5⟩;rw[d]at g1 g5;refine⟨_,p,rows,C',W'.heap.size,rfl,rfl,⟨f.hl g2.hl H g4 g2.cs,g1,g3,E.trans g2.hl,(D.hl m l E).hl m l g2.hl⟩,g5,g2.old⟩
def Gw.hold (f:1<=k)(d:k<=32)(a:zq.globals.size<t)(h:Gw k t b cap n C cur R x4 c NX S rows lo hi p w W):Calls zq 222 #[ptr p] W λe W'=>e=aL (ptr p)/\Gw k t b cap n C cur R x4 c NX S rows lo hi p w W':=
 (yZ (h.mem.cs.cells h.Fa) h.mem.tr).mono λ_ _ ⟨e,g1,g2,_⟩=>⟨e,h.next f d a g1 g2⟩
def Gd.hold {a:Nat}(g:1<=k)(f:k<=32)(d:zq.globals.size<t)(h:Gd k t b cap n C cur R x4 c NX S p a w W):Calls zq 222 #[ptr p] W λe W'=>e=aL (ptr p)/\Gd k t b cap n C cur R x4 c NX S p a w W':=
 (yZ (h.mem.cs.cells h.Fa) h.mem.tr).mono λ_ _ ⟨e,g1,g2,_⟩=>⟨e,h.next g f d g1 g2⟩
def Gw.work (D:1<=k)(B:k<=32)(A:zq.globals.size<t)(l:zq.globals.size<b)(s:CS w C')(j:∀x,C' x->C x)(d:∀x∈cur.toList,pK C' x)(I:w.heap.size<=lo)(F:∀u∈NX,u.idx.length=32/\u.val.length<=100)(m:rows.length<=1000000)(h:Gw k t b cap n C cur R x4 c NX S rows lo hi p w W):
  Calls zq 224 #[aN (aA ⟨t,0,aB⟩),ptr p] W λe W'=>(e=aL (.tuple #[])/\Gd k t b cap n C cur R x4 c NX S p b w W')\/∃ch,e= .panicked ch/\sW k t (Ky t b C) NX ch W'/\Gw k t b cap n C cur R x4 c NX S rows lo hi p w W':=by
 have f:∀x∈cur.toList,pK C x:=λx g=>by obtain⟨p,e,H⟩:=d x g;exact⟨p,e,λb l=>j b (H b l)⟩
 have K:=h.mem.dom D B A l f;refine(SM K h.rep (λb l=>aH (aH (aH (h.Fa b l)))) F m).mono ?_;rintro e W' (⟨rfl,g1,g2⟩|⟨ch,rfl,g1,g2⟩)
 .left;have a:∀x∈rows,fK W x.1:=λx g=>by
   obtain⟨_,_,z,o,i,v,G,J⟩:=h.rep.each.1 x g;exact⟨z,o,i,v,[],G,J⟩
  have r:=s.hl h.hl;refine⟨rfl,h.mem.Xe g2 A a,g1,h.Fa,(eR.hl h.hl).step (.Xe g2 a) (aG rfl),h.Zn.kept r d λx g=>g2.block x (r.cell g).lt λy E e=> ?_⟩;have M:=(h.rep.each.1 y E).1;have L:=(s.cell g).lt;omega
 .exact aH ⟨ch,rfl,g1,h.below D B A g2⟩
def Gw.told {u}(v:1<=k)(s:k<=32)(o:zq.globals.size<t)(D:zq.globals.size<b)(a:∀x∈cur.toList,pK C x)(y:∀u∈NX,u.idx.length=32/\u.val.length<=100)(hl:NX.length<=400)(B: -4611686018427387904<=c-102800)(f:c<=4611686018427387904){ch}(E:sW k t (Ky t b C) NX ch W)(h:Gw k t b cap n C cur R x4 c NX S rows lo hi p w W):
  CallsD zq 219 #[aN (aA ⟨t,0,aB⟩),ptr p] u W λe l W'=>l=u/\e=aL (.tuple #[])/\lP ch W':=by
 obtain⟨m,A,d⟩:=h.rep.WL h.mem.cs h.Fa (zBq _);have z:257*NX.length<=102800:=by omega
 have r:=d;refine(IY A u W _ _ _ _ _ c .refl h.mem.tr (by omega) f).mono ?_;rintro e l W' ⟨rfl,rfl,j,c',g,_,_⟩;have i:=h.mem.hl j o g (h.mem.cs.hl j);exact⟨rfl,rfl,(E.hl v s j h.mem.tr).mh (i.dom v s o D a) y⟩
def Gd.leave {R:Nat}{v cap u}(s:1<=k)(r:k<=32)(l:zq.globals.size<t)(A:zq.globals.size<b)(d:∀x∈cur.toList,pK C x)(hl:NX.length<=400)(H:S.length<1000)(I:S.length+1<=cap)(E:cap<=maxLen)(D:cur.size=cap)(J:c+room<=R)(d3:R<=1000000)(d4: -(1000000*((R)-room))+102800<=c)(st:∀us∈S++[NX],KV us/\us.length<=400)(h:Gd k t b cap (S.length+1) C cur R NX.length c NX (S++[NX]) p v w W):
  CallsD zq 219 #[aN (aA ⟨t,0,aB⟩),ptr p] u W λe j W'=>j=u/\e=aL (.tuple #[])/\dF W' t k room b cap (S++[NX])/\eR (kW w t v) w W':=by
 obtain⟨m,z,f⟩:=h.rep.WL h.mem.cs h.Fa (zBq _);have y:257*NX.length<=102800:=by omega
 have o:=f;refine(IY z u W _ _ _ _ _ c .refl h.mem.tr (by omega) (by omega)).mono ?_;rintro e j W' ⟨rfl,rfl,B,c',g,G,F⟩;have i:=h.next s r l B g;have a:(S++[NX]).length=S.length+1:=by rw[zAg];rfl
 refine⟨rfl,rfl,lL.EO (c:=c') ?_ d i.Zn (by omega) E D (by omega) d3 (by omega) s r l A st (by omega) (by omega),i.save⟩;rw[JA,a];exact i.mem
end
section
variable {w:zW}{k:Nat}{p:Option Nat}{us cs:List bZ}
def Ru (us cs:List bZ)(t)(h:t<cs.length):kU us (cs.take (t+1))=kU us (cs.take t)++(if qO us cs[t]then [cs[t]]else []):=by
 unfold kU;rw[zCc h,zDl];congr 1;cases e:qO us cs[t]with
 |true=>rw[zBd e];rfl
 |false=>rw[zAt (by rw[e];exact aHH)];rfl
def Jt (us cs:List bZ)(t)(h:t<cs.length):fU us (cs.take (t+1))=fU us (cs.take t)+jL us cs[t]:=by unfold fU;rw[zCc h,zDm,List.sum_append];simp
def Pr (us)(u): -1<=jL us u/\jL us u<=1:=by unfold jL;cases eZ (bG us) u.idx<;>cases u.gone<;>simp
def VL (us:List bZ):∀cs:List bZ,-(cs.length:Int)<=fU us cs/\fU us cs<=cs.length
 |[]=>by simp[fU]
 |u::cs=>by have a:=VL us cs;have h:=Pr us u;have e:fU us (u::cs)=jL us u+fU us cs:=rfl;rw[e,zAi];omega
def Ko (n:nW us){I e}(h:Dt w us I e):(e=aL (ptr aB)/\eZ (bG us) I=aB)\/∃b i v g a,e=aL (ptr (aA b))/\aX w b aB aB i v g a/\eZ (bG us) I=aA v:=by
 obtain⟨u,b,g,a,j,hi,c,m⟩|⟨c,l⟩:=h
 .exact aH ⟨b,_,_,g,a,c,m,AD (zDq.2 n) (by rw[<-hi];exact zCh.2 ⟨u,j,rfl⟩)⟩
 .refine aG ⟨c,fP λx f=> ?_⟩;obtain⟨y,d,rfl⟩:=zCh.1 f;exact l y d
end
section
variable {w:zW}{k:Nat}{p:Option Nat}{us cs:List bZ}
def LS {Z cap}(h:eU k w p us 0)(X:1<=k)(V:k<=32)(hU:nW us)(hE:fL w Z cs)(hi:∀u∈cs,u.idx.length=32)(hl:cs.length<=1000):
  Calls zq 221 #[ptr p,aJ Z cs.length cap] w λe B=>∃v,e=aL (.tuple #[v,aC aD (fU us cs)])/\cM B w.heap.size v (kU us cs)/\zb w B:=by
 have HE:=hid hE;have HF:Hid (∀u∈cs,∀W,zb w W->Calls zq 228 #[ptr p,aK ⟨u.idx.toArray⟩] W λe B=>B=W/\((e=aL (ptr aB)/\eZ (bG us) u.idx=aB)\/∃b v,e=aL (ptr (aA b))/\W.cell? ⟨b,3,aB⟩=aA (aK ⟨v.toArray⟩)/\eZ (bG us) u.idx=aA v)):=λu N W hW=>by refine(Ks (h.keep X V λb z o i v g hs _ hc=>⟨hs,⟨by rw[hW.block b hc.lt];exact hc.at'⟩⟩) (hi u N)).mono λe B h'=>⟨h'.1,?_⟩;obtain⟨Q,C⟩|⟨b,i,v,g,hs,Q,C,h3⟩:=Ko hU h'.2;{exact aG ⟨Q,C⟩};{exact aH ⟨b,v,Q,C.c3,h3⟩}
 have HL:Hid (∀t,-(1000:Int)<=fU us (cs.take t)/\fU us (cs.take t)<=1000):=λt=>by have:=VL us (cs.take t);have C:(cs.take t).length<=cs.length:=by{rw[zBg];omega};omega
 obtain⟨n,U⟩:∃n,n=cs.length:=⟨_,rfl⟩;have S:=hid U;have HT:Hid (fU us (cs.take cs.length)=fU us cs/\kU us (cs.take cs.length)=kU us cs):=by rw[zFl];exact⟨rfl,rfl⟩
 rw[<-U]at hl⊢;clear U hE hi h hU;go_enter (Qz.fn func221),ntmps221;go_wp2;go_loopg [6,7,13] n (λq x y i wr=>∃t:Nat,t+q=n/\i=aC aD (t:Int)/\y=aC aD (fU us (cs.take t))/\zb w wr/\cM wr w.heap.size x (kU us (cs.take t)));case atStart=>exact⟨0,by omega,rfl,rfl,zGn _ _,cM.nil _ _⟩
 case round=>
  obtain⟨t,ht,rfl,rfl,b2,o2⟩:=hrel
  have K:=hid b2
  have R:=hid o2
  by_cases bX:t<n
  .have r:t<cs.length:=by have:=S.out;omega
   have N:=zAe r;have c:=hid (Ru us cs t r);have H:=hid (Jt us cs t r);have J:=HF.out cs[t] (zCt _);have E:(kU us (cs.take t)).length<=1000000:=by have Q:=zGa (qO us) (cs.take t);have C:(cs.take t).length<=cs.length:=by{rw[zBg];omega};have h3:=S.out;show(List.filter _ _).length<=_;omega
   have HM0:=HL.out t;generalize cs[t]=u at*;obtain⟨d,f,I⟩:=u;dsimp only at*;generalize fU us (cs.take t)=M at*;generalize kU us (cs.take t)=L at*;have Y:=hid J;obtain⟨g,o,rfl,hg,c0,c1,c2⟩:=(HE.out.below K.out (zAa _)).idx t _ N;have Ug:¬((t:Int)<0):=by{omega};have Yd:(t:Int)<(n:Int):=by{omega};clear J HF N HL;have az:wrap64 (M+1)=M+1:=by{unfold wrap64;omega};have hw2:wrap64 (M-1)=M-1:=by{unfold wrap64;omega};go_upto_region 6 with(fail)
   have P:=zGw wr (aI #[aK ⟨d.toArray⟩,aK ⟨f.toArray⟩,.bool I] 53);have G:Hid (zb w (wr.alloc (aI #[aK ⟨d.toArray⟩,aK ⟨f.toArray⟩,.bool I] 53))):=K.out.alloc K.out.size _;have O:Hid (cM (wr.alloc (aI #[aK ⟨d.toArray⟩,aK ⟨f.toArray⟩,.bool I] 53)) w.heap.size u6 L):=R.out.alloc _;have e0:=(aZ P 0).trans rfl;have e1:=(aZ P 1).trans rfl;have e2:=(aZ P 2).trans rfl;clear P K R c0 c1 c2;generalize(wr.alloc (aI #[aK ⟨d.toArray⟩,aK ⟨f.toArray⟩,.bool I] 53))=wa at*;have m:=G.out.size;have F:Hid (∀W n,zb w W->zb w (W.drewN n)):=λW n h=>⟨h.os,h.tape,h.output,h.size,h.block⟩;go_wp2_with fail;refine(Y.out wa G.out).mono ?_;rintro e w2 ⟨rfl,⟨rfl,a⟩|⟨b,v,rfl,k3,a⟩⟩
   .cases I with
    |true=>
     have A:Hid (fU us (cs.take (t+1))=M):=by{have:=H.out;rw[show jL us ⟨d,f,aE⟩=0 by unfold jL;dsimp only;rw[a];rfl]at this;exact this.trans (by omega)};have j:Hid (kU us (cs.take (t+1))=L):=by{have:=c.out;rw[show qO us ⟨d,f,aE⟩=aF by unfold qO;dsimp only;rw[a];rfl]at this;exact this.trans (by simp)};clear c H a;go_upto_region 11 with(fail)
     go_quiet (fail);go_wp2;go_roundg (n-(t+1));case measure=>omega
     case rel=>
      go_light
      exact⟨t+1,by omega,by go_num,by rw[A.out],F.out _ _ G.out,by rw[j.out];exact cM.kept O.out λ_ _=>rfl⟩
    |false=>
     have A:Hid (fU us (cs.take (t+1))=M+1):=by{have:=H.out;rw[show jL us ⟨d,f,aF⟩=1 by unfold jL;dsimp only;rw[a];rfl]at this;exact this};have j:Hid (kU us (cs.take (t+1))=L++[⟨d,f,aF⟩]):=by{have:=c.out;rw[show qO us ⟨d,f,aF⟩=aE by unfold qO;dsimp only;rw[a];rfl]at this;exact this};clear c H a;go_wp2_with (first|(at_builtin;refine kK rfl _ _ rfl w.heap.size _ _ rfl O.out ⟨d,f,aF⟩ 1 rfl E m ?_;intro g' D B l s));go_roundg (n-(t+1));case measure=>omega
     case rel=>
      go_light
      exact⟨t+1,by omega,by go_num,by rw[A.out],eX G.out O.out s (zAa _) m,by rw[j.out];exact l⟩
   .cases I with
    |true=>
     have A:Hid (fU us (cs.take (t+1))=M-1):=by{have:=H.out;rw[show jL us ⟨d,f,aE⟩= -1 by unfold jL;dsimp only;rw[a];rfl]at this;exact this.trans (by omega)};have j:Hid (kU us (cs.take (t+1))=L++[⟨d,f,aE⟩]):=by{have:=c.out;rw[show qO us ⟨d,f,aE⟩=aE by unfold qO;dsimp only;rw[a];rfl]at this;exact this.trans (by simp)};clear c H a;go_wp2_with (first|(at_builtin;refine kK rfl _ _ rfl w.heap.size _ _ rfl O.out ⟨d,f,aE⟩ 1 rfl E m ?_;intro g' D B l s));go_roundg (n-(t+1));case measure=>omega
     case rel=>
      go_light
      exact⟨t+1,by omega,by go_num,by rw[A.out],eX G.out O.out s (zAa _) m,by rw[j.out];exact l⟩
    |false=>
     by_cases T:v=f
     .subst T;have A:Hid (fU us (cs.take (t+1))=M):=by{have:=H.out;rw[show jL us ⟨d,v,aF⟩=0 by unfold jL;dsimp only;rw[a];rfl]at this;exact this.trans (by omega)};have j:Hid (kU us (cs.take (t+1))=L):=by{have:=c.out;rw[show qO us ⟨d,v,aF⟩=aF by unfold qO;dsimp only;rw[a];simp]at this;exact this.trans (by simp)};clear c H a;go_upto_region 11 with(fail)
      go_quiet (fail);go_wp2;go_roundg (n-(t+1));case measure=>omega
      case rel=>
       go_light
       exact⟨t+1,by omega,by go_num,by rw[A.out],F.out _ _ G.out,by rw[j.out];exact cM.kept O.out λ_ _=>rfl⟩
     .have Uf:=zBy.2 T;have A:Hid (fU us (cs.take (t+1))=M):=by{have:=H.out;rw[show jL us ⟨d,f,aF⟩=0 by unfold jL;dsimp only;rw[a];rfl]at this;exact this.trans (by omega)};have j:Hid (kU us (cs.take (t+1))=L++[⟨d,f,aF⟩]):=by{have:=c.out;rw[show qO us ⟨d,f,aF⟩=aE by unfold qO;dsimp only;rw[a];simpa using T]at this;exact this.trans (by simp)};clear c H a;go_upto_region 11 with(fail)
      go_quiet (fail);go_wp2_with (first|(at_builtin;refine kK rfl _ _ rfl w.heap.size _ _ rfl (cM.kept O.out λ_ _=>rfl) ⟨d,f,aF⟩ 1 rfl E m ?_;intro g' D B l s));go_roundg (n-(t+1));case measure=>omega
      case rel=>
       go_light
       exact⟨t+1,by omega,by go_num,by rw[A.out],eX (F.out _ _ G.out) (cM.kept O.out λ_ _=>rfl) s (zAa _) m,by rw[j.out];exact l⟩
  .have fl:¬(t:Int)<(n:Int):=by{omega};obtain rfl:t=n:=by{omega};have e1:fU us (cs.take t)=fU us cs:=by{have:=HT.out.1;rw[<-S.out]at this;exact this};have O3:Hid (cM wr w.heap.size u6 (kU us cs)):=by{have:=HT.out.2;rw[<-S.out]at this;have C:=R.out;rw[this]at C;exact C};rw[e1];clear R;go_wp2;go_ret2;exact⟨_,rfl,O3.out,K.out⟩
end
def cM.lower {w base a v l}(h:cM w base v l)(d:a<=base):cM w a v l:=by
 refine⟨h.1,?_⟩;obtain h|⟨g,c,cur,e,f,r⟩:=h.2
 .exact aG h
 .exact aH ⟨g,c,cur,e,zAv d f,r⟩
section
variable {w:zW}{t k room nw b cap:Nat}
def Pq (last cs)(vc)(cc)(S0)(h:dF w t k (room+nw+1) b cap (S0++[last]))(hl:(S0++[last]).length<1000)(hE:fL w vc cs)(m:∀u∈cs,u.idx.length=32/\u.val.length<=100)(ho:nW cs)(hl':cs.length<=1000)(h4:(bL last cs).length<=400)(hnw:nF (bG (bL last cs)) (bG last) 0<=nw):
  Calls zq 215 #[aN (aA ⟨t,0,aB⟩),aJ vc cs.length cc] w (RF λx X=>x=aC aD 0/\∃D a,dF X t k room D a (S0++[last]++[bL last cs])/\(D=b\/w.heap.size<=D)/\eR (kW w t b) w X):=by
 obtain⟨C,j,R,c,hM,P,Z,g1,g2,g3,g4,g5,g6⟩:=h.mem;have L:(S0++[last])[S0.length]? =aA last:=by rw[zBx (zAa _),zGf];rfl
 have z:=h.st last (by simp);obtain⟨p,fo,hr⟩:=Z S0.length last L;have hp:=QG P fo;have Q:=h.k1;have O:=h.k2;have J:=h.FY;have hb:=h.RO;have hn:(S0++[last]).length=S0.length+1:=by rw[zAg];rfl
 have hlu:rC (S0++[last])=last:=JA _ _;rw[hlu]at hM;have bz:=z.1.dC m;have r:=VK cs z.1.sub.order ho;have gi:Hid (∀us∈S0++[last]++[bL last cs],KV us/\us.length<=400):=λus V=>by obtain V|V:=zAh.1 V;{exact h.st us V};{rw[zAn.1 V];exact⟨bz,h4⟩}
 have yj:Hid (∀u∈bL last cs,u.idx.length=32/\u.val.length<=100):=λu V=>⟨bz.sub.idx u V,bz.val u V⟩;have hrR:(R:Int)<=1000000:=by omega
 have HF:Hid (∀W,zb w W->Calls zq 221 #[ptr p,aJ vc cs.length cc] W λe X=>∃v,e=aL (.tuple #[v,aC aD (fU last cs)])/\cM X w.heap.size v (kU last cs)/\zb w X):=λW hW=>
  (LS (hr.hl Q O (.below (t:=t) hW (zAa _))) Q O z.1.sub.order (hE.below hW (zAa _)) (λu V=>(m u V).1) hl').mono λe X ⟨v,e1,e2,e3⟩=>⟨v,e1,e2.lower hW.size,hW.trans (e3.mono hW.size)⟩
 have HG:Hid (∀W v,zb w W->cM W w.heap.size v (kU last cs)->Calls zq 223 #[aN (aA ⟨t,0,aB⟩),ptr p,aC aD 0,v] W λe W'=>∃v' y rows B hi,e=aL v'/\v'=ptr y/\Gw k t b cap (S0++[last]).length B j R last.length (c+rows.length) (bL last cs) (S0++[last]) rows W.heap.size hi y w W'/\rows.length<=nF (bG (bL last cs)) (bG last) 0/\∀x,C x->B x):=λW v hW hv=>
  lz Q O J hM Z hr hp z.1 m ho hl' (by omega) (by omega) hW hv
 have HM:=hid hM;have U:=hid P;have c3:w.cell? ⟨t,3,aB⟩=aA (aJ (aA ⟨b,0,aB⟩) (S0.length+1) cap):=by rw[<-hn];exact(aZ hM.tr 3).trans rfl
 have d1:w.cell? ⟨b,S0.length,aB⟩=aA (ptr p):=by rw[aZ hM.rL];exact fo
 have fj:=hM.tr.lt;have Yf:=h.blt;obtain⟨N,lx⟩:∃N,N=bL last cs:=⟨_,rfl⟩;obtain⟨S,hSe⟩:∃S,S=S0++[last]:=⟨_,rfl⟩;rw[<-lx]at h4 r gi yj HG hnw⊢;rw[<-hSe]at HM HG Z hn hl gi g1⊢;obtain⟨vp,ba⟩:∃vp,vp=ptr p:=⟨_,rfl⟩;rw[<-ba]at HF HG d1;have hll:=z.2;generalize hMU:fU last cs=M at HF r;generalize hEF:kU last cs=EF at HF HG;clear hE m ho bz z hM P Z hr hp fo L hlu h lx hSe ba hMU hEF;have hn0:S0.length+1<1000:=by omega
 generalize S0.length=E at*;generalize aCP:last.length=F at*;generalize cs.length=nc at*;have Ug:¬((E:Int)<0):=by omega
 have Yd:(E:Int)<(E:Int)+1:=by omega
 have hM1:IntKind.i64.wrap ((F:Int)+M)=(N.length:Int):=by rw[zGs];omega
 have hM2:wrap64 ((F:Int)+M)=(N.length:Int):=by unfold wrap64;omega
 have hM3:¬((2000:Int)<(N.length:Int)):=by omega
 go_enter_defers (Qz.fn func215),ntmps215;go_upto_region 1 with(fail)
 have q0:=eB c3 fj;have q1:=eB d1 Yf;refine zHb (by kernel_rfl) (by kernel_rfl) ?_;repeat (any_goals(first|go_big_quiet_step (fail)|quiet_step (fail)))
 refine zHj ?_;intro w1 jz;obtain⟨q,hq⟩:=jz;have B1:Hid (zb w w1):=by rw[hq];exact zGu w q.d q.os
 clear hq q0 q1 c3 d1;go_wp2_with fail;refine(HF.out w1 B1.out).mono ?_;rintro e w2 ⟨v2,rfl,hO2,Bz⟩;have O2:=hid hO2;have B2:=hid Bz;clear hO2 Bz HF B1;have c4:w2.cell? ⟨t,4,aB⟩=aA (aC aD F):=by rw[B2.out.cell fj];exact(aZ HM.out.tr 4).trans rfl
 go_wp2_with fail;refine(HG.out w2 v2 B2.out O2.out).mono ?_;rintro e w3 ⟨v3,y,rows,B,hi,rfl,hv3,qf,um,Ql⟩;have GW3:=hid qf;have np:=hid Ql;have H:=hid hv3;have HH:Calls zq 222 #[v3] w3 λe W'=>e=aL v3/\Gw k t b cap S.length B j R F (c+rows.length) N S rows w2.heap.size hi y w W':=by rw[H.out];exact GW3.out.hold Q O J
 have tx:=B2.out.size;clear qf Ql hv3 c4 HG O2 B2;go_wp2_with fail;refine HH.mono ?_;clear HH GW3;rintro e w4 ⟨rfl,kt⟩;have A:=hid kt;clear kt;go_upto_region 7 with(fail)
 have hle:¬((R:Int)<c+(rows.length:Int)):=by omega
 have q5:=eB A.out.mem.tr.c5 A.out.mem.tr.lt;have q6:=eB ((aZ A.out.mem.tr 1).trans (rfl:_=aA (Value.int aD R))) A.out.mem.tr.lt;refine zHb (by kernel_rfl) (by kernel_rfl) ?_;repeat (any_goals(first|go_big_quiet_step (fail)|quiet_step (fail)))
 refine zHj ?_;intro w5 jz;obtain⟨q,hq⟩:=jz;have GW5:Hid (Gw k t b cap S.length B j R F (c+rows.length) N S rows w2.heap.size hi y w w5):=A.out.below Q O J (by rw[hq];exact zGu w4 q.d q.os);clear hq q5 q6 A;have HW:Calls zq 224 #[aN (aA ⟨t,0,aB⟩),v3] w5 λe W'=>(e=aL (.tuple #[])/\Gd k t b cap S.length B j R F (c+rows.length) N S y b w W')\/∃ch,e= .panicked ch/\sW k t (Ky t b B) N ch W'/\Gw k t b cap S.length B j R F (c+rows.length) N S rows w2.heap.size hi y w W':=by rw[H.out];exact GW5.out.work Q O J hb HM.out.cs np.out U.out tx yj.out (by omega)
 have s:Hid (∀x∈j.toList,pK B x):=λx Y=>by obtain⟨p,e,hp⟩:=U.out x Y;exact⟨p,e,λb hb=>np.out b (hp b hb)⟩
 clear GW5 U HM;go_wp2_with fail;refine HW.mono ?_;clear HW;rintro e w6 (⟨rfl,hgd⟩|⟨ch,rfl,I,vr⟩);rotate_left
 .refine leaves_cons (f:=219) (args:= #[aN (aA ⟨t,0,aB⟩),v3]) (by simp) (by simp[go_sem]) ?_;rw[H.out];refine(vr.told Q O J hb s.out yj.out h4 (by omega) (by omega) I).mono ?_;rintro e u' w7 ⟨rfl,rfl,he⟩;show Leaves _ _ _ _ [] (settle (.panicking ch)) w7;rw[I.settle];exact .told he
 have yx:=hid hgd;clear hgd;have HH2:Hid (Calls zq 222 #[v3] w6.drew λe W'=>e=aL v3/\Gd k t b cap S.length B j R F (c+rows.length) N S y b w W'):=by rw[H.out];exact(yx.out.below Q O J (fF (zGn _ w6))).hold Q O J
 have p3:w6.cell? ⟨t,3,aB⟩=aA (aJ (aA ⟨b,0,aB⟩) (E+1) cap):=by rw[<-hn];exact(aZ yx.out.mem.tr 3).trans rfl
 clear yx;go_upto_region 10 with(fail)
 have HS:=p3;refine wp_region_noPanic ?_;refine AnyX.mI (λX=>X.cell? ⟨t,3,aB⟩=aA (aJ (aA ⟨b,0,aB⟩) (E+1) cap)) (λi=>i==8) (by kernel_rfl) ?_;refine AnyX.CP (i:=0) (v:=aN (aA ⟨t,0,aB⟩)) rfl (by kernel_rfl) (λ_ _ _ h=>h) (aG ⟨by rfl,λW=>by go_simp⟩) HS ?_;simp only[Act.put];refine AnyX.tk 1 (aN (aA ⟨t,0,aB⟩)) HS ?_;simp only[Act.put];refine AnyX.tk 2 (aN (aA ⟨t,0,aB⟩)) HS ?_;simp only[Act.put];refine AnyX.tk 3 (aN (aA ⟨t,3,aB⟩)) HS ?_;simp only[Act.put];refine AnyX.tk 4 (aJ (aA ⟨b,0,aB⟩) (E+1) cap) HS ?_;simp only[Act.put];refine AnyX.tk 5 (v3) HS ?_;simp only[Act.put];refine AnyX.cG (i:=6) (by kernel_rfl) rfl (λK o=> ?_);go_simp;refine HH2.out.mono ?_;rintro e w7 ⟨rfl,kv⟩;have qx:=hid kv;have p7:w7.cell? ⟨t,3,aB⟩=aA (aJ (aA ⟨b,0,aB⟩) (E+1) cap):=by rw[<-hn];exact(aZ qx.out.mem.tr 3).trans rfl
 have uc:=qx.out.mem.tr.lt;clear kv;refine o.out _ _ (λ_=>p7) ?_;clear o K HS HH2;obtain⟨vq,hvq⟩:∃vq,v3= .pointer vq:=by
  rw[H.out];cases y with
  |none=>exact⟨_,rfl⟩
  |some x=>exact⟨_,rfl⟩
 subst hvq;refine AnyX.cG (i:=7) (by kernel_rfl) rfl (λK o=> ?_);go_simp;refine o.out _ _ (λ_=>by rw[World.cell?_alloc_lt _ _ _ uc];exact p7) ?_;clear o K;have G:Hid (Gd k t b cap S.length B j R F (c+rows.length) N S y b w (w7.alloc (aI #[.pointer vq] 264))):=qx.out.below Q O J ((zGn _ _).alloc (zAa _) _);obtain⟨D,a,W8,ml,uo,vt,fw,t1,t2,t3,t4,t5,t6⟩:=He (n:=E+1) (p:=y) G.out.mem.rL (by rw[<-hn];exact g1) g2 g3 s.out (by omega) G.out.Fa (vb:=w7.heap.size) (by rw[<-H.out];exact zGw w7 _);refine AnyX.cG (i:=8) (by kernel_rfl) rfl (λK o=> ?_);refine jX rfl _ _ 166 166 rfl _ _ rfl rfl (uo _) ?_;refine o.out _ _ (λh=>AnyX.iD h (by kernel_rfl)) ?_;clear o K;have xe:=(vt.block t G.out.mem.tr.lt (λe=>by have e':=zAm e;have h2:=G.out.mem.tr;have h3:=G.out.mem.rL;unfold dK at h2;rw[<-e',h2]at h3;injection h3 with h3;injection h3 with _ h4;revert h4;decide)).trans G.out.mem.tr
 have a3:W8.cell? ⟨t,3,aB⟩=aA (aJ (aA ⟨b,0,aB⟩) S.length cap):=(aZ xe 3).trans rfl;have z3:W8.frozen? ⟨t,3,aB⟩=aF:=dA xe 3;clear xe;refine AnyX.cG (i:=9) (by kernel_rfl) rfl (λK o=> ?_);simp only[Act.put,zCd,zDh,zDb];go_simp;refine o.out _ _ (λh=>AnyX.iD h (by kernel_rfl)) ?_;clear o K;refine AnyX.cG (i:=10) (by kernel_rfl) rfl (λK o=> ?_);go_simp;refine o.out _ _ (λh=>AnyX.iD h (by kernel_rfl)) ?_;clear o K;refine AnyX.cG (i:=11) (by kernel_rfl) rfl (λK o=> ?_);go_simp;refine o.out _ _ (λh=>AnyX.iD h (by kernel_rfl)) ?_;clear o K;refine AnyX.mK (by kernel_rfl) ?_ _;simp only[NoPanic];have HBB:Hid (D=b\/w.heap.size<=D):=fw.imp id λe=>by rw[e];exact G.out.save.size
 have wj:zq.globals.size<D:=by obtain e|e:=fw;{rw[e];exact hb};{rw[e];have:=G.out.mem.tr.lt;omega}
 obtain⟨hM9,l,ki⟩:=G.out.mem.EG (cap':=a) (n':=E+1+1) J hb vt t1;have g:Hid (Gd k t D a (S.length+1) B ml R F (c+rows.length) N (S++[N]) y b w (W8.setCell ⟨t,3,aB⟩ (aJ (aA ⟨D,0,aB⟩) (E+1+1) a))):=by have kl:=G.out.rep.kept G.out.mem.cs G.out.Fa λx Y=>l x (G.out.mem.cs.cell Y);refine⟨by rw[hn];exact hM9,kl,G.out.Fa,G.out.save.step ki (aG rfl),Nh (p:=y) (cur:=j) (G.out.Zn.kept G.out.mem.cs s.out λx Y=>l x (G.out.mem.cs.cell Y)) (by omega) (by rw[hn];exact t6) kl⟩
 generalize W8.setCell ⟨t,3,aB⟩ (aJ (aA ⟨D,0,aB⟩) (E+1+1) a)=w9 at*;have T:=hid t5;clear uo vt fw t1 t5 t6 hM9 l ki a3 z3 G qx p7 p3;have c4:w9.cell? ⟨t,4,aB⟩=aA (aC aD F):=(aZ g.out.mem.tr 4).trans rfl;have f4:w9.frozen? ⟨t,4,aB⟩=aF:=dA g.out.mem.tr 4;have aCh:=g.out.mem.tr.lt;obtain⟨hMs,m,hss⟩:=g.out.mem.sized J (N.length:Int);have GDE:Hid (Gd k t D a (S.length+1) B ml R N.length (c+rows.length) N (S++[N]) y b w (w9.setCell ⟨t,4,aB⟩ (aC aD (N.length:Int)))):=⟨hMs,g.out.rep.kept g.out.mem.cs g.out.Fa λx Y=>m x (g.out.mem.cs.cell Y),g.out.Fa,g.out.save.step hss HBB.out,g.out.Zn.kept g.out.mem.cs T.out λx Y=>m x (g.out.mem.cs.cell Y)⟩;clear hMs m hss g;go_wp2;refine leaves_cons (f:=219) (args:= #[aN (aA ⟨t,0,aB⟩),.pointer vq]) (by simp) (by simp[go_sem]) ?_;rw[H.out,<-r];refine(GDE.out.leave (room:=room) Q O J wj T.out h4 (by omega) (by omega) t3 t4 (by omega) (by omega) (by omega) gi.out).mono ?_;rintro e u' X ⟨rfl,rfl,hE,hSv⟩;exact⟨_,results_tmp rfl _ _ _,.of ⟨rfl,D,a,hE,HBB.out,hSv⟩⟩
end
section
variable {w:zW}{d k win first hb fE t room b cap:Nat}{S:List (List bZ)}
def Lw (S0)(last us)(v)(base){nw}(h:dO w d k win first hb fE t (room+1+nw+1) b cap (S0++[last]))(hU:cM w base v us)(ly:us.length<=20)(O:∀u∈us,u.idx.length=32/\u.val.length<=100/\(u.gone=aE->u.val=[]))
  (hl:(S0++[last]).length<1000) (h4:(bL last (dV us)).length<=400) (F:nF (bG (bL last (dV us))) (bG last) 0<=nw) (hfi:first+2<=1000000) (tv:1<=win) (aB9:win<=1000):
  Calls zq 19 #[aN (aA ⟨d,0,aB⟩),v] w (RF λx r=>x= .tuple #[aC aD ((first)+((S0++[last]).length:Int)),aC aD 0]/\∃j f B q,dO r d k win (if win<(S0++[last]).length+1 then first+1 else first) j f t room B q (if win<(S0++[last]).length+1 then(S0++[last]++[bL last (dV us)]).drop 1 else S0++[last]++[bL last (dV us)])/\(j=hb\/w.heap.size<=j)/\(B=b\/w.heap.size<=B)/\eR (oV w d hb t b) w r):=by
 have X:us.all EL=aE:=zBt.2 λu hu=>by obtain⟨h1,h2,h3⟩:=O u hu;unfold EL;cases hg:u.gone;{simp[h1,h2]};{simp[h1,h2,h3 hg]}
 obtain⟨n1,n2,n3,n4,n5⟩:=h.ne;have yq:=WC v us w (by omega) hU.ru (λu hu=>by have:=O u hu;omega);rw[X]at yq;have HSE:Hid (∀W,zb w W->Calls zq 39 #[v] W λe r=>∃v',e=aL v'/\cM r W.heap.size v' (dV us)/\zb W r):=λW hW=>PV (hU.below hW (zAa _)) ly;have hsm:∀u∈dV us,u.idx.length=32/\u.val.length<=100:=λu hu=>by have:=O u (rQ hu);exact⟨this.1,this.2.1⟩
 have pe:(dV us).length<=1000:=by have:=PX us;omega
 have HE:=hid h;have yp:=hid (GW us);have yn:=hid hsm;have nu:=hid F;have mN:∀W,(method (zq.types.size+100) 146 (aN (aA ⟨t,0,aB⟩)) "Next").run zq W= .ok (215,aN (aA ⟨t,0,aB⟩)) W:=λW=>reaches (by kernel_rfl) _ W;have mR:∀W,(method (zq.types.size+100) 146 (aN (aA ⟨t,0,aB⟩)) "Root").run zq W= .ok (217,aN (aA ⟨t,0,aB⟩)) W:=λW=>reaches (by kernel_rfl) _ W;obtain⟨va,vc,rfl,hvl,_⟩:=hU.cy;clear h O X F hsm hU;generalize dV us=ST at*;generalize bz:bL last ST=N at*;have J:=hid bz;clear bz;obtain⟨S,R⟩:∃S,S=S0++[last]:=⟨_,rfl⟩;have L:=hid R;obtain⟨n,hn⟩:∃n,n=S.length:=⟨_,rfl⟩;have Z:=hid hn;rw[<-R,<-hn]at hl⊢;have py:1<=n:=by rw[hn,R];simp
 clear R hn;obtain⟨F',xj⟩:∃F',F'=if win<n+1 then first+1 else first:=⟨_,rfl⟩
 obtain⟨S',xf⟩:∃S',S'=if win<n+1 then(S++[N]).drop 1 else S++[N]:=⟨_,rfl⟩
 have HF':=hid xj;have HS':=hid xf;rw[<-xj,<-xf];clear xj xf;go_enter (Qz.fn func19),ntmps19;go_wp2_with fail;refine yq.mono ?_;clear yq;rintro e w1 ⟨rfl,br⟩;have B1:=hid br;have D1:=hid (HE.out.below br (zAa _));clear br;have aAC:¬((200:Int)<(us.length:Int)):=by omega
 go_upto_region 5 with(fail)
 have q4:=D1.out.cell 4;have l:=q4;refine AnyX.mI (λr=>r.cell? ⟨d,4,aB⟩=aA (.iface 146 (aN (aA ⟨t,0,aB⟩)))) (λ_=>aF) (by kernel_rfl) ?_;refine AnyX.tk 0 (aN (aA ⟨d,0,aB⟩)) l ?_;simp only[Act.put];refine AnyX.tk 1 (aN (aA ⟨d,0,aB⟩)) l ?_;simp only[Act.put];refine AnyX.tk 2 (aN (aA ⟨d,4,aB⟩)) l ?_;simp only[Act.put];refine AnyX.tk 3 (.iface 146 (aN (aA ⟨t,0,aB⟩))) l ?_;simp only[Act.put];refine AnyX.tk 4 (aJ va us.length vc) l ?_;simp only[Act.put];refine AnyX.tk 6 (.iface 146 (aN (aA ⟨t,0,aB⟩))) l ?_;simp only[Act.put];refine AnyX.tk 7 (.iface 146 (aN (aA ⟨t,0,aB⟩))) l ?_;simp only[Act.put];refine AnyX.cG (i:=5) (by kernel_rfl) rfl (λK o=> ?_);go_simp;refine(HSE.out _ (fF B1.out)).mono ?_;rintro e w2 ⟨v2,rfl,pq,Bz⟩;have y:Hid (zb w1 w2):=tE Bz;have qq:w2.cell? ⟨d,4,aB⟩=aA (.iface 146 (aN (aA ⟨t,0,aB⟩))):=(D1.out.below y.out (zAa _)).cell 4;obtain⟨vs,cs,hvs,hcs,qg⟩:=pq.cy;subst hvs;refine o.out _ _ (λ_=>qq) ?_;clear o K l;refine AnyX.cG (i:=8) (by kernel_rfl) rfl (λK o=> ?_);go_simp;refine(Pq last ST vs cs S0 (D1.out.below y.out (zAa _)).EO (by rw[<-L.out,<-Z.out];exact hl) qg yn.out yp.out pe (by rw[J.out];exact h4) (by rw[J.out];exact nu.out)).mono ?_;rintro e w3 (⟨_,rfl,rfl,B,q,hE3,hb3,I⟩|⟨c,rfl,he⟩);rotate_left
 .exact⟨rfl,.told he⟩
 have ss:w3.cell? ⟨d,4,aB⟩=aA (.iface 146 (aN (aA ⟨t,0,aB⟩))):=by rw[World.cell?_of_block (a:=⟨d,4,aB⟩) (I.block d (D1.out.below y.out (zAa _)).lt (D1.out.below y.out (zAa _)).two.1)];exact qq
 refine o.out _ _ (λ_=>ss) ?_;clear o K;refine AnyX.cG (i:=9) (by kernel_rfl) rfl (λK o=> ?_);go_simp;refine o.out _ _ (λ_=>ss) ?_;clear o K;refine AnyX.mK (by kernel_rfl) ?_ _;have E3:Hid (dF w3 t k (room+1) B q (S++[N])):=by have:=hE3;rw[J.out,<-L.out]at this;exact this
 have D:=D1.out.below y.out (zAa _);have K3:Hid (bW w3 d 86 #[aC aD k,aC aD win,aC aD first,aJ (aA ⟨hb,0,aB⟩) n fE,.iface 146 (aN (aA ⟨t,0,aB⟩))]):=(I.block d D.lt D.two.1).trans (by have:=D.at';rw[<-L.out,<-Z.out]at this;exact this);obtain⟨H,hH1,hH2,xi⟩:=D.gJ;have O3:Hid (fA YH w3 hb 9 1 (aJ (aA ⟨hb,0,aB⟩) n fE) n (gW H)):=by
  rw[<-L.out,<-Z.out]at xi;exact xi.kept λg hg=>by have e:hb=g:=zAm hg;subst e;exact I.block hb D.bX D.two.2
 have hHn:H.length=n:=by rw[hH1,<-L.out,<-Z.out]
 have V3:Hid (eR (oV w d hb t b) w w3):=((eR.of B1.out (zAa _)).trans (eR.of y.out (zAa _))).four (I.mono λx hx=>aH (aH hx)) (aG rfl) (aG rfl);have yv:Hid (B=b\/w.heap.size<=B):=hb3.imp id λh=>by have h1:=B1.out.size;have h2:=y.out.size;omega
 have vm:hb<w3.heap.size:=(fA.lt O3.out hb rfl).2;have s:=K3.out.lt;have z:Hid (zq.globals.size<d/\zq.globals.size<hb):=⟨D1.out.Lb,D1.out.qM⟩;have Ml:=D1.out.EO.k1;have bj:=D1.out.EO.k2;clear hE3 xi I hb3 q4 D D1 B1 y Bz pq qg HSE HE ss qq;have p0:w3.cell? ⟨d,0,aB⟩=aA (aC aD k):=(K3.out.cell 0).trans rfl;have p2:w3.cell? ⟨d,2,aB⟩=aA (aC aD first):=(K3.out.cell 2).trans rfl;have p3:w3.cell? ⟨d,3,aB⟩=aA (aJ (aA ⟨hb,0,aB⟩) n fE):=(K3.out.cell 3).trans rfl;have p4:w3.cell? ⟨d,4,aB⟩=aA (.iface 146 (aN (aA ⟨t,0,aB⟩))):=(K3.out.cell 4).trans rfl;go_upto_region 10 with(fail)
 obtain⟨m,hm⟩:∃m,n=m+1:=⟨n-1,by omega⟩;have hmi:(n:Int)-1=(m:Int):=by omega
 have vf:(m:Int)<(n:Int):=by omega
 have qe:¬((m:Int)<0):=by omega
 have qd:(0:Int)<=(m:Int):=by omega
 have fg:IntKind.i64.wrap (m:Int)=(m:Int):=by rw[zGs];omega
 have C:IntKind.i64.wrap ((n:Int)-1)=(m:Int):=by rw[hmi];exact fg
 have hHm:H[m]? =aA (H[m]'(by omega)):=zAe _;have hHl:=hH2 (H[m]'(by omega)) (zCt _);generalize H[m]'(by omega)=V at hHm hHl;have p5:w3.cell? ⟨hb,m,aB⟩=aA (aK ⟨V.toArray⟩):=by
  obtain⟨cur,c1,c2,c3,c4,c5,c6,c7⟩:=fA.row O3.out;rw[zHf w3 hb m cur _ (0,0) c1,<-zBr];have:(gW H)[m]? =aA (aK ⟨V.toArray⟩):=by unfold gW;rw[zDr,hHm];rfl
  rw[<-c6,zCo,zAl (by omega)]at this;exact this
 have HIN:Hid ((S++[N])[n]? =aA N):=by show _=_;rw[zBx (by rw[<-Z.out];exact zAa _),<-Z.out,zGf];rfl
 have HMm:=hid hm;clear hm;have E3d:Hid (dF w3.drew t k (room+1) B q (S++[N])):=E3.out.kept (zAa _) λ_ _=>rfl;have l:(λr:zW=>r.cell? ⟨d,0,aB⟩=aA (aC aD k)/\r.cell? ⟨d,3,aB⟩=aA (aJ (aA ⟨hb,0,aB⟩) n fE)/\r.cell? ⟨d,4,aB⟩=aA (.iface 146 (aN (aA ⟨t,0,aB⟩)))/\r.cell? ⟨hb,m,aB⟩=aA (aK ⟨V.toArray⟩)) w3.drew:=⟨p0,p3,p4,p5⟩;refine AnyX.mI (λr=>r.cell? ⟨d,0,aB⟩=aA (aC aD k)/\r.cell? ⟨d,3,aB⟩=aA (aJ (aA ⟨hb,0,aB⟩) n fE)/\r.cell? ⟨d,4,aB⟩=aA (.iface 146 (aN (aA ⟨t,0,aB⟩)))/\r.cell? ⟨hb,m,aB⟩=aA (aK ⟨V.toArray⟩)) (λi=>i==26) (by kernel_rfl) ?_;refine AnyX.CP (i:=0) (v:=aN (aA ⟨d,0,aB⟩)) rfl (by kernel_rfl) (λ_ _ _ h=>h) (aG ⟨by rfl,λW=>by go_simp⟩) l ?_;simp only[Act.put];refine AnyX.tk 1 (aN (aA ⟨d,0,aB⟩)) l ?_;simp only[Act.put];refine AnyX.tk 2 (aN (aA ⟨d,0,aB⟩)) l ?_;simp only[Act.put];refine AnyX.tk 3 (aN (aA ⟨d,3,aB⟩)) l ?_;simp only[Act.put];refine AnyX.tk 4 (aJ (aA ⟨hb,0,aB⟩) n fE) l ?_;simp only[Act.put];refine AnyX.tk 5 (aN (aA ⟨d,0,aB⟩)) l ?_;simp only[Act.put];refine AnyX.tk 6 (aN (aA ⟨d,0,aB⟩)) l ?_;simp only[Act.put];refine AnyX.tk 7 (aN (aA ⟨d,0,aB⟩)) l ?_;simp only[Act.put];refine AnyX.tk 8 (aC aD k) l ?_;simp only[Act.put];refine AnyX.tk 9 (aN (aA ⟨d,0,aB⟩)) l ?_;simp only[Act.put];refine AnyX.tk 10 (aN (aA ⟨d,0,aB⟩)) l ?_;simp only[Act.put];refine AnyX.tk 11 (aN (aA ⟨d,3,aB⟩)) l ?_;simp only[Act.put];refine AnyX.tk 12 (aJ (aA ⟨hb,0,aB⟩) n fE) l ?_;simp only[Act.put];refine AnyX.tk 13 (aC aD n) l ?_;simp only[Act.put];refine AnyX.tk 14 (aC aD m) l ?_;simp only[Act.put];refine AnyX.tk 15 (aN (aA ⟨hb,m,aB⟩)) l ?_;simp only[Act.put];refine AnyX.tk 16 (aK ⟨V.toArray⟩) l ?_;simp only[Act.put];refine AnyX.tk 17 (aC aD ((first:Int)+(n:Int))) l ?_;simp only[Act.put];refine AnyX.tk 18 (aN (aA ⟨d,0,aB⟩)) l ?_;simp only[Act.put];refine AnyX.tk 19 (aN (aA ⟨d,0,aB⟩)) l ?_;simp only[Act.put];refine AnyX.tk 20 (aN (aA ⟨d,4,aB⟩)) l ?_;simp only[Act.put];refine AnyX.tk 21 (.iface 146 (aN (aA ⟨t,0,aB⟩))) l ?_;simp only[Act.put];refine AnyX.tk 22 (aC aD n) l ?_;simp only[Act.put];refine AnyX.cG (i:=23) (by kernel_rfl) rfl (λK o=> ?_);go_simp;refine(UH E3d.out HIN.out).mono ?_;rintro e w4 (⟨_,rfl,rfl,hb4⟩|⟨c,rfl,he⟩);rotate_left
 .exact⟨rfl,.told he⟩
 have b4:Hid (zb w3 w4):=tE hb4;have r0:w4.cell? ⟨d,0,aB⟩=aA (aC aD k):=by rw[b4.out.cell (p:=⟨d,0,aB⟩) s];exact p0
 have r3:w4.cell? ⟨d,3,aB⟩=aA (aJ (aA ⟨hb,0,aB⟩) n fE):=by rw[b4.out.cell (p:=⟨d,3,aB⟩) s];exact p3
 have r4:w4.cell? ⟨d,4,aB⟩=aA (.iface 146 (aN (aA ⟨t,0,aB⟩))):=by rw[b4.out.cell (p:=⟨d,4,aB⟩) s];exact p4
 have r5:w4.cell? ⟨hb,m,aB⟩=aA (aK ⟨V.toArray⟩):=by rw[b4.out.cell (p:=⟨hb,m,aB⟩) vm];exact p5
 refine o.out _ _ (λ_=>⟨r0,r3,r4,r5⟩) ?_;clear o K hb4 l;refine AnyX.cG (i:=24) (by kernel_rfl) rfl (λK o=> ?_);go_simp;refine(Qq k _ V _ w4 (E3.out.iP.below b4.out (zAa _)) Ml bj hHl (by have:=xH k 0 (bG N) bj;omega) (by omega)).mono ?_;rintro e w5 ⟨HX,rfl,hHX,ll⟩;have b5:Hid (zb w3 w5):=bD b4.out ll b4.out.size;have G:d<w5.heap.size:=zAc s b5.out.size;have vn:hb<w5.heap.size:=zAc vm b5.out.size;have s0:w5.cell? ⟨d,0,aB⟩=aA (aC aD k):=by rw[b5.out.cell (p:=⟨d,0,aB⟩) s];exact p0
 have s3:w5.cell? ⟨d,3,aB⟩=aA (aJ (aA ⟨hb,0,aB⟩) n fE):=by rw[b5.out.cell (p:=⟨d,3,aB⟩) s];exact p3
 have s4:w5.cell? ⟨d,4,aB⟩=aA (.iface 146 (aN (aA ⟨t,0,aB⟩))):=by rw[b5.out.cell (p:=⟨d,4,aB⟩) s];exact p4
 have s5:w5.cell? ⟨hb,m,aB⟩=aA (aK ⟨V.toArray⟩):=by rw[b5.out.cell (p:=⟨hb,m,aB⟩) vm];exact p5
 refine o.out _ _ (λ_=>⟨s0,s3,s4,s5⟩) ?_;clear o K ll r0 r3 r4 r5;refine AnyX.cG (i:=25) (by kernel_rfl) rfl (λK o=> ?_);go_simp;refine o.out _ _ (λ_=>⟨by rw[World.cell?_alloc_lt _ _ _ G];exact s0,by rw[World.cell?_alloc_lt _ _ _ G];exact s3,by rw[World.cell?_alloc_lt _ _ _ G];exact s4,by rw[World.cell?_alloc_lt _ _ _ vn];exact s5⟩) ?_;clear o K s0 s3 s4 s5;obtain⟨j,f,Y,hr6,Q,wv,T⟩:=By (O3.out.below b5.out (zAa _)|>.alloc (aI #[aK ⟨HX.toArray⟩] 9)) (by omega) HX (vb:=w5.heap.size) (zGw w5 _) (by have:=b5.out.size;rw[size_alloc];omega);refine AnyX.cG (i:=26) (by kernel_rfl) rfl (λK o=> ?_);refine jX rfl _ _ 82 82 rfl _ _ rfl rfl (hr6 _) ?_;refine o.out _ _ (λh=>AnyX.iD h (by kernel_rfl)) ?_;clear o K;have hd5:d<(w5.alloc (aI #[aK ⟨HX.toArray⟩] 9)).heap.size:=by have:=b5.out.size;rw[size_alloc];omega
 have KA:=((K3.out.below b5.out s).alloc (aI #[aK ⟨HX.toArray⟩] 9)).grown Q (λe=>by injection e with e;exact n1 e);have a3:Y.cell? ⟨d,3,aB⟩=aA (aJ (aA ⟨hb,0,aB⟩) n fE):=(KA.cell 3).trans rfl;have z3:=KA.frozen 3;have M:=hid KA;clear KA;refine AnyX.cG (i:=27) (by kernel_rfl) rfl (λK o=> ?_);simp only[Act.put,zCd,zDh,zDb];go_simp;refine o.out _ _ (λh=>AnyX.iD h (by kernel_rfl)) ?_;clear o K;refine AnyX.cG (i:=28) (by kernel_rfl) rfl (λK o=> ?_);go_simp;refine o.out _ _ (λh=>AnyX.iD h (by kernel_rfl)) ?_;clear o K;refine AnyX.cG (i:=29) (by kernel_rfl) rfl (λK o=> ?_);go_simp;refine o.out _ _ (λh=>AnyX.iD h (by kernel_rfl)) ?_;clear o K;refine AnyX.mK (by kernel_rfl) ?_ _;have P:=iW Y d (#[aC aD k,aC aD win,aC aD first,aJ (aA ⟨j,0,aB⟩) (n+1) f,.iface 146 (aN (aA ⟨t,0,aB⟩))]:zA);have E:Y.setCell ⟨d,3,aB⟩ (aJ (aA ⟨j,0,aB⟩) (n+1) f)=Y.setRow d (#[aC aD k,aC aD win,aC aD first,aJ (aA ⟨j,0,aB⟩) (n+1) f,.iface 146 (aN (aA ⟨t,0,aB⟩))]:zA):=by rw[setCell_eq_setRow Y d 3 _ _ (0,0) _ M.out];rfl
 have U:=M.out.dB (#[aC aD k,aC aD win,aC aD first,aJ (aA ⟨j,0,aB⟩) (n+1) f,.iface 146 (aN (aA ⟨t,0,aB⟩))]:zA);have bA:zb w3 (w5.alloc (aI #[aK ⟨HX.toArray⟩] 9)):=b5.out.alloc b5.out.size _;obtain⟨xv,ch1,_⟩:=fA.row (O3.out.below bA (zAa _));have D7:Hid (dO (Y.setCell ⟨d,3,aB⟩ (aJ (aA ⟨j,0,aB⟩) (n+1) f)) d k win first j f t (room+1) B q (S++[N])):=by
  rw[E];have A:(S++[N]).length=n+1:=by rw[zAg,<-Z.out];rfl
  have hhb:j≠d:=λe=>by obtain⟨c6,e6,_⟩:=fA.row T;rw[e,M.out]at e6;injection e6 with e6;injection e6 with _ e7;revert e7;decide
  refine⟨((E3.out.below bA (zAa _)).other Q ch1 (by decide) z.out.2).other P M.out (by decide) z.out.1,z.out.1,?_,by rw[A];exact U,⟨H++[HX],by rw[zAg,A,hHn];rfl,λx hx=> ?_,?_⟩,by omega⟩
  .obtain e|e:=wv
   .rw[e];exact z.out.2
   .rw[e];have:=z.out.1;omega
  .obtain hx|hx:=zAh.1 hx
   .exact hH2 x hx
   .rw[zAn.1 hx];exact hHX
  .rw[A];exact T.kept λg hg=>by have e:j=g:=zAm hg;subst e;exact P.block j (fA.lt T j rfl).2 (λe=>by injection e with e;exact hhb e)
 have V7:Hid (eR (oV w d hb t b) w (Y.setCell ⟨d,3,aB⟩ (aJ (aA ⟨j,0,aB⟩) (n+1) f))):=by rw[E];exact((V3.out.trans (eR.of bA (zAa _))).trans (eR.grown Q (aH (aG rfl)))).trans (eR.grown P (aG rfl))
 have yr:Hid (j=hb\/w.heap.size<=j):=wv.imp id λe=>by have h1:=bA.size;have h2:=V3.out.size;rw[e];omega
 generalize Y.setCell ⟨d,3,aB⟩ (aJ (aA ⟨j,0,aB⟩) (n+1) f)=w7 at*;clear E U P ch1 bA Q wv T M a3 z3 hr6 K3 O3 E3 E3d V3;go_wp2_with fail;have y3:=eB ((D7.out.cell 3).trans (rfl:_=aA (Value.slice (aA ⟨j,0,aB⟩) (S++[N]).length f))) D7.out.lt;have y1:=eB ((D7.out.cell 1).trans (rfl:_=aA (Value.int aD win))) D7.out.lt;have A:(S++[N]).length=n+1:=by rw[zAg,<-Z.out];rfl
 rw[A]at y3;refine zHb (by kernel_rfl) (by kernel_rfl) ?_;repeat (any_goals(first|go_big_quiet_step (fail)|quiet_step (fail)))
 refine zHj ?_;intro w8 hw8;obtain⟨q8,hq8⟩:=hw8;have b8:Hid (zb w7 w8):=by rw[hq8];exact zGu w7 q8.d q8.os
 have D8:Hid (dO w8 d k win first j f t (room+1) B q (S++[N])):=D7.out.below b8.out (zAa _);have V8:Hid (eR (oV w d hb t b) w w8):=V7.out.trans (eR.of b8.out (zAa _));clear hq8 y1 y3 D7 V7 b8;by_cases C:win<n+1
 .have hwi:(win:Int)<(n:Int)+1:=by{omega};have HFG:=LV D8.out (by rw[A];omega);go_wp2_with fail;refine HFG.mono ?_;clear HFG;rintro e w9 ⟨rfl,hD9,hV9⟩;have D9:Hid (dO w9 d k win (first+1) j f t room B q ((S++[N]).drop 1)):=hD9 (by omega);have V9:Hid (eR (oV w d hb t b) w w9):=V8.out.four hV9 yr.out yv.out;clear hD9 hV9;go_wp2;go_ret2;exact .of ⟨rfl,j,f,B,q,by rw[HF'.out,HS'.out,zAl C,zAl C];exact D9.out,yr.out,yv.out,V9.out⟩
 .have hwi:¬((win:Int)<(n:Int)+1):=by{omega};go_wp2;go_ret2;exact .of ⟨rfl,j,f,B,⟨q,by rw[HF'.out,HS'.out,zAj C,zAj C];exact D8.out.less (Nat.le_succ _)⟩,yr.out,yv.out,V8.out⟩
end
def jR (s:St):List bZ:=(bQ s).map uE
def oF (s):bG (jR s)=bQ s:=by
 unfold jR bG;rw[zEm];conv=>rhs;rw[<-List.map_id (bQ s)]
 apply zEj;intro e _;rfl
def Uo (s):(jR s).length<=64:=by unfold jR;rw[zDa,<-IE];exact Eo s 64
def YK (s:St):Prop:=∀k v,s k=aA v->v.length<=100
def Na {s}(h:YK s):KV (jR s):=by
 have d:nW (jR s):=by have a:=TF s;rw[<-oF]at a;exact zDq.1 a
 refine⟨Sub.zero d λu b=> ?_,λu b=> ?_,λu b=> ?_⟩
 .obtain⟨e,c,rfl⟩:=zCh.1 b;obtain⟨k,_,a,_⟩:=wO c;show e.1.length=32;rw[a];exact rD k
 .obtain⟨e,c,rfl⟩:=zCh.1 b;obtain⟨k,_,_,a⟩:=wO c;exact h k e.2 a
 .obtain⟨e,c,rfl⟩:=zCh.1 b;rfl
def GV {s}(h:YK s)(l):YK (s.with l):=Mr h l
def Ad (r:Int×Int):(eA r).idx.length=32/\(eA r).val.length<=100/\((eA r).gone=aE->(eA r).val=[]):=by
 unfold eA;split
 .exact⟨lG _,zBq _,λ_=>rfl⟩
 .refine⟨lG _,?_,λh=>by cases h⟩;show(valOf r.2).length<=100;have:=xF r.2;omega
def Nb {s}(h:YK s)(l):bL (jR s) (dV ((l.take 20).map eA))=jR (s.with l):=by
 refine KV.same ((Na h).dC λu a=> ?_) (Na (GV h l)) ?_
 .have b:=rQ a;obtain⟨r,_,rfl⟩:=zCh.1 b;exact⟨(Ad r).1,(Ad r).2.1⟩
 .rw[DN,oF,oF,PU (TF s),Gs]
def pI (rs:Nat->zII)(f:Nat):Nat->List (List bZ)
 |0=>[]
 |n+1=>jR (gL rs f)::pI rs (f+1) n
def JN (rs:Nat->zII):∀n f,(pI rs f n).length=n
 |0,_=>rfl
 |n+1,f=>by rw[pI,zAi,JN rs n]
def XC (rs:Nat->zII):∀n f i,i<n->(pI rs f n)[i]? =aA (jR (gL rs (f+i)))
 |n+1,f,0,_=>rfl
 |n+1,f,i+1,h=>by rw[pI,List.getElem?_cons_succ,XC rs n (f+1) i (by omega),show f+1+i=f+(i+1) by omega]
def BV (rs:Nat->zII):∀n f,pI rs f (n+1)=pI rs f n++[jR (gL rs (f+n))]
 |0,f=>rfl
 |n+1,f=>by rw[pI,BV rs n (f+1),pI,zCl,show f+1+n=f+(n+1) by omega]
def KG (rs:Nat->zII):∀j,YK (gL rs j)
 |0=>λ_ _ h=>by cases h
 |j+1=>GV (KG rs j) (rs j)
def yD (j:Nat):Nat:=if j=0 then 100000 else 97437-5073*(j-1)
def Rm (rs:Nat->zII)(j)(h:j<20):∃n,yD j=yD (j+1)+1+n+1/\nF (bG (jR (gL rs (j+1)))) (bG (jR (gL rs j))) 0<=n:=by
 rw[oF,oF];by_cases a:j=0
 .subst a;refine⟨2561,rfl,?_⟩;have b:bQ (λ_=>aB)=[]:=by{decide+kernel};have c:=Az (rs 0);show VM (bQ (St.with (λ_=>aB) (rs 0))) (bQ (λ_=>aB))<=2561;rw[b];exact c
 .refine⟨5071,?_,Ju (gL rs j) (rs j)⟩;unfold yD;rw[zAj a,zAj (by omega)];omega
open Go Go.RowKit
section
variable {P:zZ}
def run_loadVar_mid (w:zW)(g o:Nat)(t ty:zD)(cur cs:zA)(fr:Nat×Nat)(d:TypeDesc)(k:w.heap[g]? =aA (aI cur t fr))(l:∀j v,cs.toList[j]? =aA v->cur[o+j]? =aA v)
  (e:P.underlying ty=aA d) (m:(match d with| .struct _| .array _ _=>aE|_=>aF)=aE) (hi:(P.info? ty).map (·.size)=aA cs.size):
  (loadVar ty ⟨g,o,aB⟩).run P w= .ok (.agg cs) w:=by
 have hl:(loadCells ⟨g,o,aB⟩ cs.toList.length).run P w= .ok cs.toList.toArray w:=
  run_loadCells_list w ⟨g,o,aB⟩ cs.toList (λj v c=>by rw[Addr.add_lit,zHf w g _ cur t fr k];exact l j v c)
 cases b:P.info? ty with
 |none=>simp[b]at hi
 |some i=>
  have f:i.size=cs.size:=by simpa [b]using hi
  have h:(isAgg ty).run P w= .ok aE w:=by unfold isAgg;rw[Sem.run_bind,run_underlying e w];cases d<;>simp_all
  simp only[zCp,Array.toArray_toList]at hl;simp[loadVar,Sem.run_bind,h,sizeOf,typeInfo,b,f,hl]
def run_storeVar_mid (w)(g o)(t ty)(cur cells)(d:w.heap[g]? =aA (aI cur t (0,0)))(hi:(P.info? ty).map (·.size)=aA cells.size)
  (c:o+cells.size<=cur.size) (e:∀v∈cells.toList,v.oneCell'=aE):
  (storeVar ty ⟨g,o,aB⟩ (.agg cells)).run P w= .ok () (w.setRow g (over cur.toList o cells.toList).toArray):=by
 have:=run_storeCells_at P g o t cells.toList 0 cur w d (by simpa using c) e;simp only[zFs]at this;cases h:P.info? ty with
 |none=>simp[h]at hi
 |some i=>have b:cells.size=i.size:=by{simp[h]at hi;omega};simp[storeVar,sizeOf,typeInfo,h,Value.cells,b,this,over]
variable {ops:zQ}{rest:List Oper}{o:Oper}{a:Act}{w:zW}{K:Act->zW->Prop}{Q:zX}{E:Prop}
def wp_load_mid (ty:zD)(x:Operand)(e:o.op= .load ty x)(g p:Nat)(b:a.eval x=aN (aA ⟨g,p,aB⟩))(t:zD)(cur cs:zA)(fr:Nat×Nat)(d:TypeDesc)(f:w.heap[g]? =aA (aI cur t fr))(k:∀j v,cs.toList[j]? =aA v->cur[p+j]? =aA v)
  (c:P.underlying ty=aA d) (i:(match d with| .struct _| .array _ _=>aE|_=>aF)=aE) (hi:(P.info? ty).map (·.size)=aA cs.size) (h:K (a.put o.dst (.agg cs)) w):o.wp P a w K Q:=by
 unfold Oper.wp execOp;simp only[e,b,Instr.loadAt,Instr.sureAddr,Sem.run_bind,Sem.run_pure,zHe,run_loadVar_mid w g p t ty cur cs fr d f k c i hi];exact h
def wp_store_mid (ty)(x y)(e:o.op= .store ty x y)(g p)(cells)(d:a.eval x=aN (aA ⟨g,p,aB⟩))(c:a.eval y= .agg cells)
  (t) (cur) (f:w.heap[g]? =aA (aI cur t (0,0))) (hi:(P.info? ty).map (·.size)=aA cells.size) (b:p+cells.size<=cur.size) (i:∀v∈cells.toList,v.oneCell'=aE)
  (h:K (a.put o.dst undef) (w.setRow g (over cur.toList p cells.toList).toArray)):o.wp P a w K Q:=by
 unfold Oper.wp execOp;simp only[e,d,c,Instr.storeAt,Instr.sureAddr,Sem.run_bind,Sem.run_pure,zHe,run_storeVar_mid w g p t ty cur cells f hi b i];exact h
def wpList_load_mid (b:o.guard=aB)(ty:zD)(x:Operand)(f:o.op= .load ty x)(g p:Nat)(c:a.eval x=aN (aA ⟨g,p,aB⟩))(t:zD)(cur cs:zA)(fr:Nat×Nat)(d:TypeDesc)(i:w.heap[g]? =aA (aI cur t fr))(l:∀j v,cs.toList[j]? =aA v->cur[p+j]? =aA v)
  (e:P.underlying ty=aA d) (k:(match d with| .struct _| .array _ _=>aE|_=>aF)=aE) (hi:(P.info? ty).map (·.size)=aA cs.size) (h:wpList P ops Q rest (a.put o.dst (.agg cs)) w):wpList P ops Q (o::rest) a w:=
 wpList_plain b λ_ m=>wp_load_mid ty x f g p c t cur cs fr d i l e k hi (m _ _ h)
def GB (c:o.guard=aB)(ty)(x y)(i:o.op= .store ty x y)(g p)(cells)(e:a.eval x=aN (aA ⟨g,p,aB⟩))(d:a.eval y= .agg cells)
  (t) (cur) (j:w.heap[g]? =aA (aI cur t (0,0))) (hi:(P.info? ty).map (·.size)=aA cells.size) (b:p+cells.size<=cur.size) (k:∀v∈cells.toList,v.oneCell'=aE)
  (h:K (a.put o.dst undef) (w.setRow g (over cur.toList p cells.toList).toArray)):if Region.wanted o (yielded ops a.tmps)=aE then Oper.wp P o a w K Q else E:=by
 have f:Region.wanted o (yielded ops a.tmps)=aE:=by simp[Region.wanted,c]
 rw[zAl f];exact wp_store_mid ty x y i g p cells e d t cur j hi b k h
end
def rN (s):(dM s).size=128:=jC _ _
def Hw (s):∀v∈(dM s).toList,v.oneCell'=aE:=UF _ _
structure lQ (w:zW)(A:Nat)(rs:Nat->zII)(j:Nat)(cur:zA):Prop where
 row:w.heap[A]? =aA (aI cur 72 (0,0))
 size:cur.size=2688
 has:∀i,i<=j->∀p v,(dM (gL rs i)).toList[p]? =aA v->cur[i*128+p]? =aA v
def Pj {c news o}(h:o+news.length<=c.length)(i):(over c o news)[i]? =if o<=i/\i<o+news.length then news[i-o]? else c[i]? :=by
 unfold over;by_cases b:i<o
 .rw[zAj (by omega),zCf,zCn (by rw[zBg];omega),zCo,zAl b]
 .rw[zCf,zBx (by rw[zBg];omega),zBg,show min o c.length=o by omega];by_cases a:i<o+news.length
  .rw[zAl ⟨by omega,a⟩,zCn (by omega)]
  .rw[zAj (by omega),zBx (by omega),zFw];congr 1;omega
def lQ.next {w A rs j cur}(h:lQ w A rs j cur)(g:j<20):
  lQ (w.setRow A (over cur.toList ((j+1)*128) (dM (gL rs (j+1))).toList).toArray) A rs (j+1) (over cur.toList ((j+1)*128) (dM (gL rs (j+1))).toList).toArray:=by
 have c:(dM (gL rs (j+1))).toList.length=128:=by rw[zCp,rN]
 have d:cur.toList.length=2688:=by rw[zCp,h.size]
 have a:(j+1)*128+(dM (gL rs (j+1))).toList.length<=cur.toList.length:=by rw[c,d];omega
 refine⟨setRow_heap w A _ _ _ _ h.row,by rw[zAq,kO a,d],λi hi p v b=> ?_⟩;have f:p<128:=by have:=(zAp.1 b).1;rw[zCp,rN]at this;exact this
 rw[zDk,Pj a];by_cases e:i=j+1
 .subst e;rw[zAl ⟨by omega,by rw[c];omega⟩,show(j+1)*128+p-(j+1)*128=p by omega];exact b
 .rw[zAj (by rw[c];omega),zBr];exact h.has i (by omega) p v b
def lQ.kept {w w' A rs j cur}(h:lQ w A rs j cur)(a:w'.heap[A]? =w.heap[A]?):lQ w' A rs j cur:=⟨by rw[a];exact h.row,h.size,h.has⟩
def lQ.lt {w A rs j cur}(h:lQ w A rs j cur):A<w.heap.size:=(zAb.1 h.row).1
def Mn:zeroCells72.size=2688/\zeroCells72.toList.take 128=(dM (λ_=>aB)).toList:=⟨by kernel_rfl,by kernel_rfl⟩
def Ly (w:zW)(rs:Nat->zII):lQ (w.alloc (aI zeroCells72 72)) w.heap.size rs 0 zeroCells72:=by
 refine⟨zGw w _,Mn.1,λi hi p v h=> ?_⟩;obtain rfl:i=0:=by omega
 have e:gL rs 0=λ_=>aB:=rfl;rw[e,<-Mn.2,zCo]at h;split at h
 .rw[zFq,zAz,<-zBr];exact h
 .cases h
def RQ {B w w1 w2 x}(h:Below B w w1)(a:w1.grownBy w2 (aA x))(g:B<=x)(f:B<=w1.heap.size):Below B w w2:=⟨a.os.trans h.os,a.tape.trans h.tape,a.output.trans h.output,zAv h.size a.size,λk c=>(a.block k (zAc c f) (λe=>by injection e with e;omega)).trans (h.block k c)⟩
def Dj {B w w1 w2 F}(h:Below B w w1)(hs:eR F w1 w2)(hF:∀x,F x->B<=x)(c:B<=w1.heap.size):Below B w w2:=⟨hs.os.trans h.os,hs.tape.trans h.tape,hs.output.trans h.output,zAv h.size hs.size,λk a=>(hs.block k (zAc a c) (λe=>by have:=hF k e;omega)).trans (h.block k a)⟩
section
variable {w w':zW}{d k win first hb fE t room b cap:Nat}{S:List (List bZ)}
def dO.other {x cs ty fr}(h:dO w d k win first hb fE t room b cap S)(i:w.grownBy w' (aA x))(c:w.heap[x]? =aA (aI cs ty fr))(a:ty≠272/\ty≠168/\ty≠264/\ty≠86/\ty≠9)(hl:zq.globals.size<x):dO w' d k win first hb fE t room b cap S:=by
 obtain⟨H,n,m,j⟩:=h.gJ;obtain⟨l,ch,_⟩:=fA.row j;refine⟨h.EO.other i c ⟨a.1,a.2.1,a.2.2.1⟩ hl,h.Lb,h.qM,?_,⟨H,n,m,j.kept λg f=> ?_⟩,h.f1⟩
 .rw[i.block d h.lt (λe=>by injection e with e;exact oL c h.at' a.2.2.2.1 e.symm)];exact h.at'
 .have e:=zAm f;subst e;exact i.block hb h.bX (λe=>by injection e with e;exact oL c ch a.2.2.2.2 e.symm)
end
def RF.mono {R a e w}(h:RF R e w)(g:∀x,R x w->a x w):RF a e w:=h.imp (λ⟨x,f,c⟩=>⟨x,f,g x c⟩) id
def Lv {w d k win f m j hb fE t b cap base v}(rs:Nat->zII)(D:dO w d k win f hb fE t (yD j) b cap (pI rs f m))(M:cM w base v (((rs j).take 20).map eA))(K:f+m=j+1)(P:1<=m)(I:m<=win)(O:win<=20)(J:j<20):
  Calls zq 19 #[aN (aA ⟨d,0,aB⟩),v] w (RF λx w'=>x= .tuple #[aC aD ((j)+1),aC aD 0]/\∃B o a h n c,dO w' d k win B a h t (yD (j+1)) n c (pI rs B o)/\B+o=j+2/\1<=o/\o<=win/\(a=hb\/w.heap.size<=a)/\(n=b\/w.heap.size<=n)/\eR (oV w d hb t b) w w'):=by
 obtain⟨m0,rfl⟩:∃m0,m=m0+1:=⟨m-1,by omega⟩;have y:f+m0=j:=by omega
 have l:bL (jR (gL rs j)) (dV (((rs j).take 20).map eA))=jR (gL rs (j+1)):=Nb (KG rs j) (rs j);have A:pI rs f (m0+1)=pI rs f m0++[jR (gL rs j)]:=by rw[BV,y]
 have g:(pI rs f m0++[jR (gL rs j)]).length=m0+1:=by rw[<-A,JN]
 have z:pI rs f m0++[jR (gL rs j)]++[jR (gL rs (j+1))]=pI rs f (m0+2):=by rw[<-A,BV rs (m0+1),show f+(m0+1)=j+1 by omega]
 rw[A]at D;obtain⟨N,s,i⟩:=Rm rs j J;rw[s]at D;have H:=Lw (pI rs f m0) (jR (gL rs j)) (((rs j).take 20).map eA) v base D M (by rw[zDa,zBg];omega) (λu G=>by obtain⟨r,_,rfl⟩:=zCh.1 G;exact Ad r) (by rw[g];omega) (by rw[l];have:=Uo (gL rs (j+1));omega) (by rw[l];exact i) (by omega) (by omega) (by omega);rw[l,g,z]at H;refine H.mono λe w' L=>RF.mono L λx=> ?_;rintro⟨rfl,a,h,n,c,q,F,E,C⟩;refine⟨by rw[show((f:Int)+((m0+1:Nat):Int))=(j:Int)+1 by omega],?_⟩;by_cases p:win<m0+1+1
 .rw[zAl p,zAl p]at q;exact⟨f+1,m0+1,a,h,n,c,q,by omega,by omega,by omega,F,E,C⟩
 .rw[zAj p,zAj p]at q;exact⟨f,m0+2,a,h,n,c,q,by omega,by omega,by omega,F,E,C⟩
def LN (f wo)(k b:Nat)(w)(h:Base w)(P: -9223372036854775808<=f)(O:f<=9223372036854775807)(N: -9223372036854775808<=wo)(M:wo<=9223372036854775807)(A:(k)=1+dY f 32)(v:(b)=1+dY wo 20):
  Calls zq 14 #[aC aD 0,aC aD f,aC aD wo] w λe j=>∃d g t i,e=aL (aN (aA ⟨d,0,aB⟩))/\dO j d k b 0 g 1 t 100000 i 1 [[]]/\w.heap.size<=d/\w.heap.size<=g/\w.heap.size<=t/\w.heap.size<=i/\zb w j:=by
 obtain⟨a,E,K⟩:=gN f 32 (by omega);obtain⟨c,D,J⟩:=gN wo 20 (by omega);have p:dY f 32=(a:Int):=E;have n:dY wo 20=(c:Int):=D;have q:=λW=>oQ f 32 W P O (by omega) (by omega);have H:=λW=>oQ wo 20 W N M (by omega) (by omega);rw[p]at q A;rw[n]at H v;have z:k=a+1:=by omega
 have u:b=c+1:=by omega
 have y:1<=k:=by omega
 have x:k<=32:=by omega
 have s:1<=b:=by omega
 have r:b<=50:=by omega
 have T:=hid h;have C:=A.symm;have B:=v.symm;have I:=hid C;have G:=hid B;clear h E D p n A v z u C B;have S:Hid (∀W,W=w->Calls zq 35 #[.agg #[aC aD 0,aC aD k,aC aD b,aC aD 100000]] W λe j=>∃d g t i,e=aL (.tuple #[aN (aA ⟨d,0,aB⟩),aC aD 0])/\dO j d k b 0 g 1 t 100000 i 1 [[]]/\W.heap.size<=d/\W.heap.size<=g/\W.heap.size<=t/\W.heap.size<=i/\zb W j):=λW L=>by subst L;exact Cq k b 100000 W T.out y x s r (by omega) (by omega)
 go_enter (Qz.fn func14),ntmps14;go_wp2_with fail;refine(q _).mono ?_;rintro e w1 ⟨rfl,m⟩;subst m;dsimp only;go_wp2_with fail;refine(H _).mono ?_;rintro e w2 ⟨rfl,l⟩;subst l;dsimp only;have Q:IntKind.i64.wrap ((1:Int)+(a:Int))=(k:Int):=by rw[zGs,I.out];omega
 have R:IntKind.i64.wrap ((1:Int)+(c:Int))=(b:Int):=by rw[zGs,G.out];omega
 have C:=I.out;have B:=G.out;go_wp2_with fail;refine(S.out _ rfl).mono ?_;rintro e w3 ⟨d,g,t,i,rfl,F,g1,g2,g3,g4,o⟩;have U:=hid o;have D3:=hid F;clear o F;dsimp only;go_wp2;go_ret;exact⟨d,g,t,i,rfl,D3.out,g1,g2,g3,g4,U.out⟩
open Go.RowKit Sha
def Rz:dg 2 [0]=[110,52]:=by rw[dg,Nw]
def TX (idx):parse 2 idx [0,0,0]=aA ⟨0,[],[],[],[]⟩:=by rw[tP (by decide) (by decide) (by decide) (by decide) (λi _ h=>absurd h (by simp[cV,dN])) rfl,oX];rfl
def LB (idx)(h:idx.length=32):verdict [110,52] idx [0,0,0]=(2,[],0):=by
 have a:(PW.mk 0 [] [] [] []).root 2 idx=[110,52]:=by show dg 2 [0]=_;exact Rz
 rw[verdict,zAj (by simp[h])];have b:parse ([110,52]:zB).length idx [0,0,0]=aA ⟨0,[],[],[],[]⟩:=TX idx;rw[b];exact zAl a
def Kd (w)(i:fJ w):Calls zq 13 #[] w λe g=>e=aL (.bool aE)/\zb w g:=by have H:=hid i;go_enter (Qz.fn func13),ntmps13;go_wp2_with fail;refine(Cs 2 ⟨#[97,98,99]⟩ w (by omega) (by omega) (by decide) H.out).mono ?_;rintro e w1 ⟨rfl,b⟩;have f:=hid b;rw[show mj 2 (⟨#[97,98,99]⟩:ByteArray).data.toList=mj 2 [97,98,99]from rfl,Ry];go_wp2_with fail;refine(pV 0 w1 (by omega) (by omega)).mono ?_;rintro e w2 ⟨rfl,a⟩;have B:=bD f.out a f.out.size;have c:=lG 0;generalize idxOf 0=I at*;go_wp2_with fail;refine(DO ⟨#[110,52]⟩ ⟨I.toArray⟩ ⟨#[0,0,0]⟩ w2 (by decide) (by decide) (H.out.below B.out (zAa _))).mono ?_;rintro e w3 ⟨h,rfl⟩;rw[show verdict (⟨#[110,52]⟩:ByteArray).data.toList (⟨I.toArray⟩:ByteArray).data.toList (⟨#[0,0,0]⟩:ByteArray).data.toList=(2,[],0)from LB _ c];have d:=bD B.out h B.out.size;simp only[gV];go_wp2;go_ret;exact⟨rfl,d.out.alloc d.out.size _⟩
structure KS (w:zW)(va:zO)(E:List (zII)):Prop where
 EM:∀i l,E[i]? =aA l->∃g o ev,va=aA ⟨g,o,aB⟩/\g<w.heap.size/\w.cell? ⟨g,o+i,aB⟩=aA ev/\wI w ev l/\l.length<=4611686018427387904
structure SE (w:zW)(aa:zO)(L:List Int):Prop where
 EM:∀i n,L[i]? =aA n->∃g o,aa=aA ⟨g,o,aB⟩/\g<w.heap.size/\w.cell? ⟨g,o+i,aB⟩=aA (aC aD n)/\-9223372036854775808<=n/\n<=9223372036854775807
section
variable {P:zZ}{o:Oper}{ev:Operand->zY}{w:zW}
def wF (ty:zD)(x:Operand)(b:o.op= .load ty x)(g p:Nat)(h:ev x=aN (aA ⟨g,p,aB⟩))(t:zD)(cur cs:zA)(fr:Nat×Nat)(d:TypeDesc)(c:w.heap[g]? =aA (aI cur t fr))(f:∀j v,cs.toList[j]? =aA v->cur[p+j]? =aA v)
  (a:P.underlying ty=aA d) (e:(match d with| .struct _| .array _ _=>aE|_=>aF)=aE) (hi:(P.info? ty).map (·.size)=aA cs.size):(execOp ev o).run P w= .ok (.value (.agg cs)) w:=by
 unfold execOp;simp only[b,h,Instr.loadAt,Instr.sureAddr,Sem.run_bind,Sem.run_pure,zHe,run_loadVar_mid w g p t ty cur cs fr d c f a e hi]
end
def EW (s):(zq.info? 43).map (·.size)=aA (dM s).size:=by rw[rN];kernel_rfl
def RG (va)(vc)(E)(wi wo)(k r:Nat)(aa)(ac)(L)(w)(hB:Base w)(ps:∀x,¬fK w x)(hE:KS w va E)(hEl:E.length<=4611686018427387904)(hL:SE w aa L)(hLl:L.length<=4611686018427387904)(h1: -9223372036854775808<=wi)(h2:wi<=9223372036854775807)(h3: -9223372036854775808<=wo)(h4:wo<=9223372036854775807)(hk:(k)=1+dY wi 32)(hw:(r)=1+dY wo 20):
  Calls zq 12 #[aC aD 0,aJ va E.length vc,aC aD wi,aC aD wo,aJ aa L.length ac] w (RF λx y=>x= .bool aE/\zb w y):=by
 obtain⟨c,hc,qi⟩:=gN wo 20 (by omega);have qk:dY wo 20=(c:Int):=hc;have tv:1<=r:=by omega
 have jy:r<=20:=by omega
 have HP2:Hid (∀W,Calls zq 15 #[aC aD wo,aC aD 20] W λe y=>e=aL (aC aD (c:Int))/\y=W):=λW=>by have:=oQ wo 20 W h3 h4 (by omega) (by omega);rw[qk]at this;exact this
 have HC:Hid (r=c+1):=by show r=c+1;omega
 clear hc qk;have hgl:zq.globals.size<w.heap.size:=hB.low;have HB:=hid hB;have HNO:=hid ps;have HE:=hid hE;have HL:=hid hL;clear hB hE hL ps;obtain⟨Q,vd⟩:∃Q,Q=E.length:=⟨_,rfl⟩;have HNE:=hid vd;obtain⟨O,uz⟩:∃O,O=L.length:=⟨_,rfl⟩;have HNL:=hid uz;rw[<-vd]at hEl⊢;rw[<-uz]at hLl⊢;clear vd uz;go_enter (Qz.fn func12),ntmps12;go_wp2_with fail;refine(Kd w HB.out.iP).mono ?_;rintro e w1 ⟨rfl,br⟩;have B1:=hid br;have H1:Hid (Base w1):=HB.out.below br (zAa _);clear br;dsimp only;go_wp2_with fail;refine(LN wi wo k r w1 H1.out h1 h2 h3 h4 hk hw).mono ?_;rintro e w2 ⟨d,hb,tt,bb,rfl,hD,g1,g2,g3,g4,Bz⟩;have B2:Hid (zb w w2):=bD B1.out Bz B1.out.size;have D2:=hid hD;have hz:=B1.out.size;clear Bz hD;dsimp only;go_upto_region 7 with(fail)
 have HA:Hid (lQ (w2.alloc (aI zeroCells72 72)) w2.heap.size (λj=>E.getD j []) 0 zeroCells72):=Ly w2 _;have b3:Hid (zb w2 (w2.alloc (aI zeroCells72 72))):=(zGn _ _).alloc (zAa _) _;generalize w2.alloc (aI zeroCells72 72)=w3 at*;have B3:Hid (zb w w3):=bD B2.out b3.out B2.out.size;have D3:Hid (dO w3 d k r 0 hb 1 tt 100000 bb 1 [[]]):=D2.out.below b3.out (zAa _);have hAw:w.heap.size<=w2.heap.size:=B2.out.size;generalize w2.heap.size=A at*;have HRS:Hid (∀i l,E[i]? =aA l->(λj=>E.getD j []) i=l):=λi l h=>by show E.getD i []=l;rw[zBe,h];rfl
 generalize(λj=>E.getD j [])=rs at*;clear b3 D2 B2 B1 H1;go_loopg [14] 20 (λq i wr=>∃(j f m F s b' z:Nat)(a:zA),j+q=20/\j<=Q/\i=aC aD (j:Int)/\dO wr d k r f F s tt (yD j) b' z (pI rs f m)/\f+m=j+1/\1<=m/\m<=r/\w.heap.size<=F/\w.heap.size<=b'/\lQ wr A rs j a/\zb w wr);case atStart=>exact⟨0,0,1,hb,1,bb,1,zeroCells72,by omega,by omega,rfl,D3.out,rfl,zAa _,by omega,by omega,by omega,HA.out,B3.out⟩
 case round=>
  obtain⟨j,f,m,F,s,b',z,a,hj,hjn,rfl,hD,hfm,vf,hmw,hh1,hh2,hA,V⟩:=hrel
  have AA:=hid hA
  have DA:=hid hD
  have B4:=hid V
  clear hA hD V HA D3 B3
  obtain⟨bX,kp⟩|⟨bX,kp⟩|bX:=(show(j<Q/\j<20)\/(j<Q/\¬j<20)\/¬j<Q by omega)
  .have hu:=zAe (l:=E) (i:=j) (by have:=HNE.out;omega);generalize E[j]'(by have:=HNE.out;omega)=l at hu;obtain⟨g,o,ev,rfl,hg,n,Y,Z⟩:=HE.out.EM j l hu;have HRL:Hid (rs j=l):=HRS.out j l hu;have HR:=hid Y;have HWI:Hid (∀W,zb w W->Calls zq 18 #[.agg (dM (gL rs j)),ev] W λe y=>e=aL (.agg (dM (gL rs (j+1))))/\zb W y):=λW J=>by
    have:=Ms (gL rs j) ev l W (HR.out.below J (zAa _)) Z;rw[<-HRL.out]at this;exact this
   have HCE:=hid n;have Qr:wr.cell? ⟨g,o+j,aB⟩=aA ev:=by{rw[B4.out.cell (p:=⟨g,o+j,aB⟩) hg];exact n};have Yc:(j:Int)<(Q:Int):=by{omega};have hj2:(j:Int)<20:=by{omega};have fp:¬((j:Int)<0):=by{omega};have hj3:(0:Int)<=(j:Int):=by{omega};have hj4:(j:Int)<21:=by{omega};have hj5:(j:Int)+1<21:=by{omega};have hj6:(0:Int)<=(j:Int)+1:=by{omega};have hj7:¬((j:Int)+1<0):=by{omega};have hj8:IntKind.i64.wrap ((j:Int)+1)=(j:Int)+1:=by{rw[zGs];omega};have hj9:((j:Int)+1).toNat=j+1:=by{omega};clear hu Y n;go_upto_region 9 with(fail)
   have t:(λy:zW=>y.heap[A]? =aA (aI a 72 (0,0))/\y.cell? ⟨g,o+j,aB⟩=aA ev) wr.drew:=⟨AA.out.row,Qr⟩;refine AnyX.mI (λy=>y.heap[A]? =aA (aI a 72 (0,0))/\y.cell? ⟨g,o+j,aB⟩=aA ev) (λi=>i==10) (by kernel_rfl) ?_;refine AnyX.tk 0 (aC aD (j:Int)) t ?_;simp only[Act.put];refine AnyX.tk 1 (aC aD ((j:Int)+1)) t ?_;simp only[Act.put];refine AnyX.tk 2 (aC aD (j:Int)) t ?_;simp only[Act.put];refine AnyX.tk 3 (aN (aA ⟨A,j*128,aB⟩)) t ?_;simp only[Act.put];refine AnyX.tB (i:=4) (v:= .agg (dM (gL rs j))) rfl (by kernel_rfl) (λ_ _ _ h=>h) (aG ⟨by rfl,λW J=>by obtain⟨q1,q2⟩:=J;exact wF 43 _ rfl A (j*128) rfl _ a _ _ _ q1 (λp v hv=>AA.out.has j (zAa _) p v hv) ((Qz.eH 43).trans underlying43) rfl (EW _)⟩) t ?_;simp only[Act.put];refine AnyX.tk 5 (aJ (aA ⟨g,o,aB⟩) Q vc) t ?_;simp only[Act.put];refine AnyX.tk 6 (aC aD (j:Int)) t ?_;simp only[Act.put];refine AnyX.tk 7 (aN (aA ⟨g,o+j,aB⟩)) t ?_;simp only[Act.put];refine AnyX.tk 8 (ev) t ?_;simp only[Act.put];refine AnyX.cG (i:=9) (by kernel_rfl) rfl (λK C=> ?_);go_simp;refine(HWI.out _ (fF B4.out)).mono ?_;rintro e w5 ⟨rfl,ll⟩;have b5:Hid (zb wr w5):=tE ll;have A5:Hid (lQ w5 A rs j a):=AA.out.kept (b5.out.block A AA.out.lt);have um:=B4.out.size;have c5:w5.cell? ⟨g,o+j,aB⟩=aA ev:=by{rw[b5.out.cell (p:=⟨g,o+j,aB⟩) (by show g<_;omega)];exact Qr};clear ll;dsimp only;refine C.out _ _ (λ_=>⟨A5.out.row,c5⟩) ?_;clear C K t;refine AnyX.cG (i:=10) (by kernel_rfl) rfl (λK C=> ?_);go_simp;refine C.out _ _ (λh=>AnyX.iD h (by kernel_rfl)) ?_;clear C K;refine AnyX.cG (i:=11) (by kernel_rfl) rfl (λK C=> ?_);refine GB rfl 43 _ _ rfl A ((j+1)*128) (dM (gL rs (j+1))) rfl rfl 72 a A5.out.row (EW _) (by rw[rN,A5.out.size];omega) (Hw _) ?_;refine C.out _ _ (λh=>AnyX.iD h (by kernel_rfl)) ?_;clear C K;refine AnyX.mK (by kernel_rfl) ?_ _;have hg6:=iW w5 A (over a.toList ((j+1)*128) (dM (gL rs (j+1))).toList).toArray;have A6:Hid (lQ (w5.setRow A (over a.toList ((j+1)*128) (dM (gL rs (j+1))).toList).toArray) A rs (j+1) (over a.toList ((j+1)*128) (dM (gL rs (j+1))).toList).toArray):=A5.out.next (by omega);have D6:Hid (dO (w5.setRow A (over a.toList ((j+1)*128) (dM (gL rs (j+1))).toList).toArray) d k r f F s tt (yD j) b' z (pI rs f m)):=(DA.out.below b5.out (zAa _)).other hg6 A5.out.row (by decide) (by omega);have B6:Hid (zb w (w5.setRow A (over a.toList ((j+1)*128) (dM (gL rs (j+1))).toList).toArray)):=RQ (bD B4.out b5.out um) hg6 hAw (zAv um b5.out.size);generalize(over a.toList ((j+1)*128) (dM (gL rs (j+1))).toList).toArray=D at*;generalize w5.setRow A D=w6 at*;have c6:w6.cell? ⟨g,o+j,aB⟩=aA ev:=by{rw[B6.out.cell (p:=⟨g,o+j,aB⟩) hg];exact HCE.out};clear c5 Qr b5 A5 DA AA B4 HWI;simp only[Act.put,zCd,zDh,zDb];go_wp2_with fail;refine(Lp ev l w6 (HR.out.below B6.out (zAa _)) Z).mono ?_;rintro e w7 ⟨v7,rfl,hO7,U⟩;have O7:Hid (cM w7 w6.heap.size v7 (((rs j).take 20).map eA)):=by{rw[HRL.out];exact hO7};have B7:Hid (zb w w7):=bD B6.out U B6.out.size;have D7:Hid (dO w7 d k r f F s tt (yD j) b' z (pI rs f m)):=D6.out.below U (zAa _);have A7:Hid (lQ w7 A rs (j+1) D):=A6.out.kept (U.block A A6.out.lt);clear hO7 U c6 D6 A6 B6;dsimp only;have HAP:=Lv rs D7.out O7.out hfm vf hmw jy (by omega);go_wp2_with fail;refine HAP.mono ?_;clear HAP;rintro e w8 (⟨_,rfl,rfl,f',m',fw,lg,b8,xx,hD8,aC8,hm8,ve,fe,pc,kj⟩|⟨c,rfl,he⟩);rotate_left;{exact⟨rfl,.told he⟩}
   have hz7:=B7.out.size;have D8:=hid hD8;have B8:Hid (zb w w8):=Dj B7.out kj (λx B=>by
    obtain rfl|rfl|rfl|rfl|B:=B;{omega};{omega};{omega};{omega}
    .exact Nat.le_of_not_lt λbX=>HNO.out x (B.same (B7.out.block x bX).symm)) hz7
   have A8:Hid (lQ w8 A rs (j+1) D):=A7.out.kept (kj.block A A7.out.lt (λB=>by
    obtain⟨H,_,_,hh⟩:=D7.out.gJ;obtain⟨xv,ch,_⟩:=fA.row hh;obtain⟨aEq,cb⟩:=D7.out.EO.mz;obtain⟨aEp,ct⟩:=D7.out.EO.ig;obtain B|B|B|B|B:=B;{exact oL A7.out.row D7.out.at' (by decide) B};{exact oL A7.out.row ch (by decide) B};{exact oL A7.out.row ct (by decide) B};{exact oL A7.out.row cb (by decide) B}
    .exact B.ne A7.out.row (by decide) rfl))
   have hh8:w.heap.size<=fw:=by{obtain h|h:=fe<;>omega};have wu:w.heap.size<=b8:=by{obtain h|h:=pc<;>omega};clear hD8 kj fe pc D7 A7 B7 O7;dsimp only;go_wp2;go_roundg (20-(j+1));case measure=>go_light;omega
   case rel=>go_light;exact⟨j+1,f',m',fw,lg,b8,xx,D,by omega,by omega,by go_num,D8.out,by omega,hm8,ve,hh8,wu,A8.out,B8.out⟩
  all_goals
   first|(have Yc:¬((j:Int)<(Q:Int)):=by omega)|(have Yc:(j:Int)<(Q:Int):=by omega)
   try(have hj2:¬((j:Int)<20):=by omega)
   have HK:=VX DA.out
   rw[JN,show(f:Int)+(m:Int)-1=(j:Int) by omega]at HK
   go_wp2_with fail
   refine HK.mono ?_
   clear HK
   rintro e w9 ⟨rfl,T⟩
   have B9:Hid (zb w w9):=bD B4.out T B4.out.size
   have D9:Hid (dO w9 d k r f F s tt (yD j) b' z (pI rs f m)):=DA.out.below T (zAa _)
   have A9:Hid (lQ w9 A rs j a):=AA.out.kept (T.block A AA.out.lt)
   have xl:A<w9.heap.size:=A9.out.lt
   clear T DA AA B4
   dsimp only
   have aCV:j<=20:=by omega
   go_upto_region 15 with(fail)
   go_loopg [19] m (λq i wr=>∃(p b:Nat),p+q=m/\b=f+p/\i=aC aD (b:Int)/\zb w9 wr)
   case atStart=>exact⟨0,f,by omega,by omega,rfl,zGn _ _⟩
   case round=>
    obtain⟨p,b,hp,S,rfl,V⟩:=hrel
    generalize wr=N at*
    have HEP:=hid S
    have M:=hid V
    have AR:Hid (lQ N A rs j a):=A9.out.kept (V.block A xl)
    clear V
    by_cases hpm:p<m
    .have hle:(b:Int)<=(j:Int):=by{omega};have he0:¬((b:Int)<0):=by{omega};have he1:(0:Int)<=(b:Int):=by{omega};have he2:(b:Int)<21:=by{omega};have he3:¬((20:Int)<(b:Int)):=by{omega};have R:(pI rs f m)[p]? =aA (jR (gL rs b)):=by rw[XC rs m f p hpm,S]
     have HEN:Hid (OT N (aN (aA ⟨d,0,aB⟩)) (b:Int) (bQ (gL rs b))):=λW J=>by have:=JW ((D9.out.below M.out (zAa _)).below J (zAa _)) R;rw[show(f:Int)+(p:Int)=(b:Int) by omega]at this;exact this
     have HRO:Hid (∀w1,zb N w1->Te w1 (aN (aA ⟨d,0,aB⟩)) (b:Int) k (bQ (gL rs b))):=λw1 az W J=>by have:=XH (((D9.out.below M.out (zAa _)).below az (zAa _)).below J (zAa _)) R;rw[show(f:Int)+(p:Int)=(b:Int) by omega,oF]at this;exact this
     have HPR:Hid (∀w1,zb N w1->Gi w1 (aN (aA ⟨d,0,aB⟩)) (b:Int) k (bQ (gL rs b))):=λw1 az W J I hI=>by have:=QZ (((D9.out.below M.out (zAa _)).below az (zAa _)).below J (zAa _)) R I hI;rw[show(f:Int)+(p:Int)=(b:Int) by omega,oF]at this;exact this
     have HTB:Hid (fJ N):=(D9.out.below M.out (zAa _)).EO.iP;have Ml:=D9.out.EO.k1;have bj:=D9.out.EO.k2;have HS8:Hid (b<=j):=by{show b<=j;omega};clear R S;go_wp2_with (refine wpList_load_mid rfl 43 _ rfl A (b*128) rfl 72 a (dM (gL rs b)) (0,0) _ AR.out.row (λp v hv=>AR.out.has b HS8.out p v hv) ((Qz.eH 43).trans underlying43) rfl (EW _) ?_);refine(Jy (gL rs b) _ (b:Int) N HEN.out).mono ?_;rintro e w10 ⟨rfl,lp⟩;have B10:=hid lp;clear lp HEN;dsimp only;go_upto_region 23 with(fail)
     go_loopg [21] 20 (λq i wr=>∃(u:Nat),u+q=20/\u<=O/\i=aC aD (u:Int)/\zb N wr);case atStart=>exact⟨0,by omega,by omega,rfl,B10.out⟩
     case round=>
      obtain⟨u,hu,hun,rfl,V⟩:=hrel
      have X:=hid V
      clear V B10
      obtain⟨bg,hl2⟩|⟨bg,hl2⟩|bg:=(show(u<O/\u<20)\/(u<O/\¬u<20)\/¬u<O by omega)
      .have G:=zAe (l:=L) (i:=u) (by have:=HNL.out;omega);generalize L[u]'(by have:=HNL.out;omega)=nn at G;obtain⟨g,o,rfl,hg,n,py,hn2⟩:=HL.out.EM u nn G;have hr9:=M.out.size;have tw:=B9.out.size;have hcx:wr.cell? ⟨g,o+u,aB⟩=aA (aC aD nn):=by
        rw[X.out.cell (p:=⟨g,o+u,aB⟩) (by show g<_;omega),M.out.cell (p:=⟨g,o+u,aB⟩) (by show g<_;omega),B9.out.cell (p:=⟨g,o+u,aB⟩) hg];exact n
       have pd:(u:Int)<(O:Int):=by{omega};have ub:(u:Int)<20:=by{omega};have hu0:¬((u:Int)<0):=by{omega};have hu3:(0:Int)<=(u:Int):=by{omega};have AX:Hid (lQ wr A rs j a):=AR.out.kept (X.out.block A AR.out.lt);clear G n;go_upto_region 25 with(fail)
       have t:(λy:zW=>y.heap[A]? =aA (aI a 72 (0,0))/\y.cell? ⟨g,o+u,aB⟩=aA (aC aD nn)) wr.drew:=⟨AX.out.row,hcx⟩;refine AnyX.mI (λy=>y.heap[A]? =aA (aI a 72 (0,0))/\y.cell? ⟨g,o+u,aB⟩=aA (aC aD nn)) (λi=>i==9) (by kernel_rfl) ?_;refine AnyX.tk 0 (aC aD (b:Int)) t ?_;simp only[Act.put];refine AnyX.tk 1 (aN (aA ⟨A,b*128,aB⟩)) t ?_;simp only[Act.put];refine AnyX.tB (i:=2) (v:= .agg (dM (gL rs b))) rfl (by kernel_rfl) (λ_ _ _ h=>h) (aG ⟨by rfl,λW J=>by obtain⟨q1,q2⟩:=J;exact wF 43 _ rfl A (b*128) rfl _ a _ _ _ q1 (λp v hv=>AX.out.has b HS8.out p v hv) ((Qz.eH 43).trans underlying43) rfl (EW _)⟩) t ?_;simp only[Act.put];refine AnyX.tk 3 (aN (aA ⟨d,0,aB⟩)) t ?_;simp only[Act.put];refine AnyX.tk 4 (aC aD (b:Int)) t ?_;simp only[Act.put];refine AnyX.tk 5 (aJ (aA ⟨g,o,aB⟩) O ac) t ?_;simp only[Act.put];refine AnyX.tk 6 (aC aD (u:Int)) t ?_;simp only[Act.put];refine AnyX.tk 7 (aN (aA ⟨g,o+u,aB⟩)) t ?_;simp only[Act.put];refine AnyX.tk 8 (aC aD nn) t ?_;simp only[Act.put];refine AnyX.cG (i:=9) (by kernel_rfl) rfl (λK C=> ?_);go_simp;refine(Ah (gL rs b) _ (b:Int) nn k wr.drew (HTB.out.below (fF X.out) (zAa _)) Ml bj (KG rs b) (HRO.out _ (fF X.out)) (HPR.out _ (fF X.out)) py hn2).mono ?_;rintro e w12 (⟨_,rfl,rfl,ln⟩|⟨c,rfl,he⟩);rotate_left;{exact⟨rfl,.told he⟩};have B12:Hid (zb N w12):=bD X.out (tE ln) X.out.size;clear ln;dsimp only;refine C.out _ _ (λh=>AnyX.iD h (by kernel_rfl)) ?_;clear C K t hcx AX;refine AnyX.cG (i:=10) (by kernel_rfl) rfl (λK C=> ?_);go_simp;refine C.out _ _ (λh=>AnyX.iD h (by kernel_rfl)) ?_;clear C K;refine AnyX.mK (by kernel_rfl) ?_ _;go_wp2;go_roundg (20-(u+1));case measure=>go_light;omega
       case rel=>go_light;exact⟨u+1,by omega,by omega,by go_num,B12.out⟩
      .have pd:(u:Int)<(O:Int):=by{omega};have ub:¬((u:Int)<20):=by{omega};have zc:Hid (zb w9 wr):=bD M.out X.out M.out.size;go_wp2;go_roundg (m-(p+1));case measure=>go_light;omega
       case rel=>go_light;exact⟨p+1,b+1,by omega,by have:=HEP.out;omega,by go_num,zc.out⟩
      .have pd:¬((u:Int)<(O:Int)):=by{omega};have zc:Hid (zb w9 wr):=bD M.out X.out M.out.size;go_wp2;go_roundg (m-(p+1));case measure=>go_light;omega
       case rel=>go_light;exact⟨p+1,b+1,by omega,by have:=HEP.out;omega,by go_num,zc.out⟩
    .have hle:¬((b:Int)<=(j:Int)):=by{omega};have vv:(j:Int)-(f:Int)<1+(c:Int):=by{have:=HC.out;omega};have B14:Hid (zb w N):=bD B9.out M.out B9.out.size;have hwx:IntKind.i64.wrap ((j:Int)-(f:Int))=(j:Int)-(f:Int):=by{rw[zGs];omega};clear S;go_wp2_with fail;refine(HP2.out N).mono ?_;rintro e w15 ⟨rfl,rfl⟩;dsimp only;go_wp2;go_ret;exact .of ⟨by simp[vv],B14.out⟩
def LW (v)(vc)(E)(b wo)(g)(ac)(L)(w)(n:Base w)(h:∀x,¬fK w x)(m:KS w v E)(f:E.length<=4611686018427387904)(l:SE w g L)(d:L.length<=4611686018427387904)(r: -9223372036854775808<=b)(q:b<=9223372036854775807)(p: -9223372036854775808<=wo)(o:wo<=9223372036854775807):
  Calls zq 4 #[aJ v E.length vc,aC aD b,aC aD wo,aJ g L.length ac] w (RF λx i=>x= .bool aE/\zb w i):=by
 obtain⟨a,k,_⟩:=gN b 32 (by omega);obtain⟨c,j,_⟩:=gN wo 20 (by omega);have H:=RG v vc E b wo (a+1) (c+1) g ac L w n h m f l d r q p o (by rw[show dY b 32=(a:Int)from k];omega) (by rw[show dY wo 20=(c:Int)from j];omega);generalize E.length=t at*;generalize L.length=s at*;go_enter (Qz.fn func4),ntmps4;go_wp2_with fail;refine H.mono ?_;rintro e w1 (⟨_,rfl,rfl,hb⟩|⟨c,rfl,he⟩);rotate_left
 .exact⟨rfl,.told he⟩
 go_wp2;go_ret;exact .of ⟨rfl,hb⟩
end Go.Proofs.Zq
