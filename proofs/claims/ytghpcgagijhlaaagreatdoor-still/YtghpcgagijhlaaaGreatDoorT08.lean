import Derived.Shelf.SlSortCmp.InsertionK
import Derived.Sort.LotA
import Derived.Shelf.SlicesE.Clone
import Derived.Shelf.Small.Strs
import Derived.Lib.OwnBridge
import Derived.Deep.RegionHeld2
import Derived.OrdersHeld
import Derived.Deep.RegionHeld
import Derived.Laws.Rows
import Derived.Test.YtghpcgagijhlaaaGreatDoorT07
set_option linter.all false
set_option maxRecDepth 100000
set_option maxHeartbeats 16000000
open Option renaming some->aA,none->aB
open Bool renaming true->aE,false->aF
open Or renaming inl->aG,inr->aH
open Go.Ending renaming returned->aL
open Go.Obj renaming cells->aI
open Go.IntKind renaming i64->aD
open Go.Value renaming slice->aJ,string->aK,pointer->aN,int->aC
open Bool renaming eq_false_iff->aF2,not_eq_true'->aF3,and_comm->aF4,false_ne_true->aF5
open Go.Lib renaming compareBytes->aFH
open Go.Proofs.Tryz
namespace Go.Proofs.Zq
open Go.RowKit Sha
instance:Inhabited bS:=⟨⟨[],[],aF⟩⟩
def MM (x y:bS):Int:=aFH x.idx y.idx
def xP (x y):ltOf MM x y=aE↔aFH x.idx y.idx= -1:=by unfold ltOf MM;rw[zBl];obtain h|h|h:=iT x.idx y.idx<;>omega
def ml:Go.Sort.SWO (ltOf MM):=by
 refine⟨λx=> ?_,λx y z d c=> ?_,λx y z d c=> ?_⟩
 .rw[aF2,Ne,xP,eQ];decide
 .rw[xP]at*;exact nM d c
 .rw[aF2,Ne,xP]at*;intro h;have i:=gT x.idx y.idx;have g:=gT y.idx z.idx;obtain a|a|a:=iT x.idx y.idx
  .exact d a
  .rw[kY a]at h;exact c h
  .obtain b|b|b:=iT y.idx z.idx
   .exact c b
   .rw[<-kY b]at h;exact d h
   .have e:aFH y.idx x.idx= -1:=by{omega};have f:=nM e h;omega
def kT (I:zB)(l:List bS):List bS:=l.filter λu=>u.idx==I
def Lf {α:Type}(A B)(x y:α):((A++x::y::B).set (A.length+1) x).set A.length y=A++y::x::B:=by
 induction A with
 |nil=>rfl
 |cons a A i=>simp only[zCe,zAh,zDd,i]
def Ew {α} [Inhabited α] (d:Array α)(j)(h:j+1<d.size):
  ∃A B,d.toList=A++d[j]! ::d[j+1]! ::B/\(Go.Sort.swp d (j+1) j).toList=A++d[j+1]! ::d[j]! ::B:=by
 have b:j<d.toList.length:=by simpa using Nat.lt_of_succ_lt h
 have a:j+1<d.toList.length:=by simpa using h
 have f:d[j]! =d.toList[j]:=by rw[zFv d j (by simpa using b)];simp
 have e:d[j+1]! =d.toList[j+1]:=by rw[zFv d (j+1) h];simp
 have c:d.toList=d.toList.take j++d.toList[j]::d.toList[j+1]::d.toList.drop (j+2):=by rw[<-List.drop_eq_getElem_cons a,<-List.drop_eq_getElem_cons b,zFn]
 have hl:(d.toList.take j).length=j:=by rw[zBj];omega
 refine⟨d.toList.take j,d.toList.drop (j+2),by rw[f,e];exact c,?_⟩;unfold Go.Sort.swp;rw[zDu,zDu,f,e];have:=Lf (d.toList.take j) (d.toList.drop (j+2)) d.toList[j] d.toList[j+1];rw[<-c,hl]at this;exact this
def Rv (I)(d)(j)(h:j+1<d.size)(hl:ltOf MM d[j+1]! d[j]! =aE):kT I (Go.Sort.swp d (j+1) j).toList=kT I d.toList:=by
 obtain⟨A,B,g,f⟩:=Ew d j h;rw[xP]at hl;have c:(d[j+1]!).idx≠(d[j]!).idx:=λe=>by rw[e,eQ]at hl;cases hl
 rw[g,f];unfold kT;rw[zDh,zDh];congr 1;by_cases b:(d[j]!).idx=I
 .have a:(d[j+1]!).idx≠I:=λe=>c (e.trans b.symm);rw[zAs (by simpa using a),zBd (by simpa using b),zBd (by simpa using b),zAs (by simpa using a)]
 .by_cases a:(d[j+1]!).idx=I
  .rw[zBd (by simpa using a),zAs (by simpa using b),zAs (by simpa using b),zBd (by simpa using a)]
  .rw[zAs (by simpa using a),zAs (by simpa using b),zAs (by simpa using b),zAs (by simpa using a)]
def size_swp {α} [Inhabited α] (d:Array α)(i j):(Go.Sort.swp d i j).size=d.size:=by unfold Go.Sort.swp;simp
def UG (I:zB)(a:Nat):∀(j:Nat)(d:Array bS),j<d.size->kT I (Go.Sort.insInner (ltOf MM) a j d).toList=kT I d.toList/\(Go.Sort.insInner (ltOf MM) a j d).size=d.size
 |0,_,_=>⟨rfl,rfl⟩
 |j+1,d,h=>by rw[Go.Sort.insInner];split;{rename_i b;rw[zBc]at b;obtain⟨e,c⟩:=UG I a j (Go.Sort.swp d (j+1) j) (by rw[size_swp];omega);exact⟨e.trans (Rv I d j h b.2),c.trans (size_swp _ _ _)⟩};{exact⟨rfl,rfl⟩}
def FQ (I:zB)(a b:Nat):∀(m i:Nat)(d:Array bS),b-i=m->b<=d.size->kT I (Go.Sort.insOuter (ltOf MM) a b i d).toList=kT I d.toList/\(Go.Sort.insOuter (ltOf MM) a b i d).size=d.size
 |0,i,d,hm,_=>by rw[Go.Sort.insOuter,zAn (by omega)];exact⟨rfl,rfl⟩
 |m+1,i,d,hm,hb=>by rw[Go.Sort.insOuter,zAq (by omega)];obtain⟨f,e⟩:=UG I a i d (by omega);obtain⟨c,h⟩:=FQ I a b m (i+1) (Go.Sort.insInner (ltOf MM) a i d) (by omega) (by omega);exact⟨c.trans f,h.trans e⟩
def cG (us:List bS):List bS:=(Go.Sort.insertionSort (ltOf MM) us.toArray 0 us.length).toList
def EJ (I)(us):kT I (cG us)=kT I us:=by have:=(FQ I 0 us.length _ 1 us.toArray rfl (by simp)).1;simpa [cG,Go.Sort.insertionSort]using this
def lV (us):(cG us).length=us.length:=by have:=(FQ [] 0 us.length _ 1 us.toArray rfl (by simp)).2;simpa [cG,Go.Sort.insertionSort]using this
def RN (us)(u):u∈cG us↔u∈us:=by
 have h:∀l:List bS,u∈l↔u∈kT u.idx l:=λl=>by unfold kT;rw[zBa];simp
 rw[h,h us,EJ]
def uS (us):(cG us).Pairwise λx y=>aFH y.idx x.idx≠-1:=by
 have c:=(Go.Sort.insertionSort_holds ml us.toArray 0 us.length (zBr _) (by simp)).2;have hl:=lV us;rw[List.pairwise_iff_getElem];intro i j hi e a;have h:=c i j (zBr _) a (by omega);have b:(Go.Sort.insertionSort (ltOf MM) us.toArray 0 us.length).size=us.length:=by simpa [cG]using hl
 rw[zFv _ j (by omega),zFv _ i (by omega)]at h;intro d;have:ltOf MM (cG us)[j] (cG us)[i]=aE:=(xP _ _).2 d;simp only[cG,Array.getElem_toList]at this;rw[this]at h;cases h
def fU:List bS->List bS
 |[]=>[]
 |[u]=>[u]
 |u::v::r=>if v.idx=u.idx then fU (v::r)else u::fU (v::r)
def cQ (us:List bS):List bS:=fU (cG us)
def nA:∀{l:List bS}{u:bS},u∈fU l->u∈l
 |[],_,h=>h
 |[_],_,h=>h
 |a::b::r,u,h=>by
  rw[fU]at h;split at h;{exact zBh _ (nA h)}
  .obtain h|h:=zAe.1 h
   .rw[h];exact zBk ..
   .exact zBh _ (nA h)
def qO {us u}(h:u∈cQ us):u∈us:=(RN us u).1 (nA h)
def tB:∀{l:List bS},(l.Pairwise λx y=>aFH y.idx x.idx≠-1)->(fU l).Pairwise λx y=>aFH x.idx y.idx= -1
 |[],_=>List.Pairwise.nil
 |[u],_=>List.pairwise_singleton _ _
 |a::b::r,h=>by
  rw[zCm]at h;have j:=tB h.2;rw[fU];split;{exact j}
  .rename_i f;rw[zCm];refine⟨λu k=> ?_,j⟩;have d:=nA k;have n:=h.1 u d;have g:=h.1 b (zBk ..);have e:=gT u.idx a.idx;obtain c|c|c:=iT u.idx a.idx
   .exact absurd c n
   .exfalso;obtain i|i:=zAe.1 d
    .rw[i]at c;exact f (kY c)
    .have m:=(zCm.1 h.2).1 u i;rw[kY c]at m;obtain q|q|q:=iT b.idx a.idx
     .exact g q
     .exact f (kY q)
     .have:=gT b.idx a.idx;omega
   .omega
def FA (us):(cQ us).Pairwise λx y=>aFH x.idx y.idx= -1:=tB (uS us)
def CH (I:zB):∀{l:List bS},(l.Pairwise λx y=>aFH y.idx x.idx≠-1)->(kT I (fU l)).getLast? =(kT I l).getLast?
 |[],_=>rfl
 |[u],_=>rfl
 |a::b::r,h=>by
  have i:=CH I (zCm.1 h).2;rw[fU];split
  .rename_i d;rw[i];unfold kT;by_cases c:a.idx=I
   .have e:=d.trans c;rw[zBd (a:=a) (by simpa using c),zBd (a:=b) (by simpa using e),List.getLast?_cons_cons]
   .rw[zAs (a:=a) (by simpa using c)]
  .unfold kT at*;by_cases c:a.idx=I
   .rw[zBd (a:=a) (by simpa using c),zBd (a:=a) (by simpa using c),List.getLast?_cons,List.getLast?_cons,i]
   .rw[zAs (a:=a) (by simpa using c),zAs (a:=a) (by simpa using c),i]
def SG (I)(us):(kT I (cQ us)).getLast? =(kT I us).getLast? :=by rw[cQ,CH I (uS us),EJ]
def vR (I:zB):∀(us:List bS)(l:List rU),fJ (cY l us) I=match(kT I us).getLast? with|some u=>(if u.gone then aB else aA u.val)|none=>fJ l I
 |[],_=>rfl
 |u::us,l=>by show fJ (cY (xC l u) us) I=_;rw[vR I us (xC l u),get_put];unfold kT;by_cases h:u.idx=I;{rw[zBd (by simpa using h),List.getLast?_cons,zAq h];cases(us.filter λu=>u.idx==I).getLast? <;>rfl};{rw[zAs (by simpa using h),zAn h]}
def NW {l:List rU}(hl:gQ l)(us:List bS):cY l (cQ us)=cY l us:=
 AE (xD hl) (xD hl) λI=>by rw[vR,vR,SG]
end Go.Proofs.Zq
namespace Go.Proofs
open Go.Shelf
def Qz.Aq:Go.Shelf.Ren:=⟨λ|41=>60|n=>n,λ|22=>48|23=>53|4=>4|n=>n,λ|n=>n⟩
def Qz.Pk:Go.Proofs.SlLaysE0.n41 zq Qz.Aq:={
 mixed:=by kernel_rfl
 f41:=⟨Tryz.f60.name,by decide,(Qz.fn func60).trans (congrArg aA (by kernel_rfl))⟩
 t4:=((Qz.eO 4).trans Tryz.underlying4)
 a4:=(λw=>(Qz.isAgg w 4).trans (Tryz.isAgg4 w))
 z4:=(λw=>(Qz.sizeOf w 4).trans (Tryz.sizeOf4 w))
 v4:=(λw=>(Qz.zeroValue w 4).trans (Tryz.zeroValue4 w))
 t22:=((Qz.eO 48).trans Tryz.underlying48)
 a22:=(λw=>(Qz.isAgg w 48).trans (Tryz.isAgg48 w))
 z22:=(λw=>(Qz.sizeOf w 48).trans (Tryz.sizeOf48 w))
 v22:=(λw=>(Qz.zeroValue w 48).trans (Tryz.zeroValue48 w))}
def Qz.Nj:Go.Shelf.Ren:=⟨λ|20=>101|n=>n,λ|24=>53|22=>48|3=>3|25=>120|4=>4|0=>0|n=>n,λ|n=>n⟩
def Qz.oo:Go.Proofs.SlLaysF0.n20 zq Qz.Nj:={
 mixed:=by kernel_rfl
 f20:=⟨Tryz.f101.name,by decide,(Qz.fn func101).trans (congrArg aA (by kernel_rfl))⟩
 t0:=((Qz.eO 0).trans Tryz.underlying0)
 a0:=(λw=>(Qz.isAgg w 0).trans (Tryz.isAgg0 w))
 z0:=(λw=>(Qz.sizeOf w 0).trans (Tryz.sizeOf0 w))
 v0:=(λw=>(Qz.zeroValue w 0).trans (Tryz.zeroValue0 w))
 t3:=((Qz.eO 3).trans Tryz.underlying3)
 a3:=(λw=>(Qz.isAgg w 3).trans (Tryz.isAgg3 w))
 z3:=(λw=>(Qz.sizeOf w 3).trans (Tryz.sizeOf3 w))
 v3:=(λw=>(Qz.zeroValue w 3).trans (Tryz.zeroValue3 w))
 t4:=((Qz.eO 4).trans Tryz.underlying4)
 a4:=(λw=>(Qz.isAgg w 4).trans (Tryz.isAgg4 w))
 z4:=(λw=>(Qz.sizeOf w 4).trans (Tryz.sizeOf4 w))
 v4:=(λw=>(Qz.zeroValue w 4).trans (Tryz.zeroValue4 w))
 t22:=((Qz.eO 48).trans Tryz.underlying48)
 a22:=(λw=>(Qz.isAgg w 48).trans (Tryz.isAgg48 w))
 z22:=(λw=>(Qz.sizeOf w 48).trans (Tryz.sizeOf48 w))
 v22:=(λw=>(Qz.zeroValue w 48).trans (Tryz.zeroValue48 w))
 t25:=((Qz.eO 120).trans Tryz.underlying120)
 a25:=(λw=>(Qz.isAgg w 120).trans (Tryz.isAgg120 w))
 z25:=(λw=>(Qz.sizeOf w 120).trans (Tryz.sizeOf120 w))
 v25:=(λw=>(Qz.zeroValue w 120).trans (Tryz.zeroValue120 w))}
def Qz.UA:Go.Shelf.Ren:=⟨λ|106=>63|213=>89|265=>103|n=>n,λ|9=>9|3=>3|n=>n,λ|n=>n⟩
def Qz.Tm:Go.Proofs.Lays.n106 zq Qz.UA:={
 mixed:=by kernel_rfl
 f106:=(Qz.fn func63).trans (congrArg aA (by kernel_rfl))
 f213:=(Qz.fn func89).trans (congrArg aA (by kernel_rfl))
 f265:=(Qz.fn func103).trans (congrArg aA (by kernel_rfl))
 t3:=((Qz.eO 3).trans Tryz.underlying3)
 a3:=(λw=>(Qz.isAgg w 3).trans (Tryz.isAgg3 w))
 z3:=(λw=>(Qz.sizeOf w 3).trans (Tryz.sizeOf3 w))
 v3:=(λw=>(Qz.zeroValue w 3).trans (Tryz.zeroValue3 w))
 t9:=((Qz.eO 9).trans Tryz.underlying9)
 a9:=(λw=>(Qz.isAgg w 9).trans (Tryz.isAgg9 w))
 z9:=(λw=>(Qz.sizeOf w 9).trans (Tryz.sizeOf9 w))
 v9:=(λw=>(Qz.zeroValue w 9).trans (Tryz.zeroValue9 w))}
open Go.RowKit in
def Qz.strings_Compare (a b:ByteArray)(w:zW):
  Calls zq 63 #[aK a,aK b] w λe c=>e=aL (aC aD (aFH a.data.toList b.data.toList))/\c=w:=Any.strings_Compare Qz.Tm a b w
end Go.Proofs
namespace Go.Proofs.Zq
open Go.RowKit Sha Go.Shelf Go.Sort
def Ph (x y)(W):Calls zq 62 #[.agg x.cells.toArray,.agg y.cells.toArray] W λe w=>e=aL (aC aD (MM x y))/\∃q o,w=grow (W.drewN q) o:=by have h:=λb=>Qz.strings_Compare ⟨x.idx.toArray⟩ ⟨y.idx.toArray⟩ b;have a:aFH (⟨x.idx.toArray⟩:ByteArray).data.toList (⟨y.idx.toArray⟩:ByteArray).data.toList=MM x y:=rfl;rw[a]at h;generalize MM x y=r at*;unfold bS.cells;go_enter (Qz.fn func62),ntmps62;go_wp2_with (go_at_call 63;refine(h _).mono ?_;rintro e w ⟨rfl,rfl⟩);go_ret;exact⟨rfl,0,_,by rw[alloc_eq_grow,alloc_eq_grow,grow_grow];rfl⟩
def Pj (blk off size)(w):CmpLays zq 62 #[] bS.cells 3 MM blk off size w:=λ_ _ _ _ x y=>Ph x y _
def Yw:∀args w,(callFunc 62 args).run zq w= .ok (.enter 62 args) w:=enters_of (Qz.fn func62) (by kernel_rfl) rfl
def OT (g cap a b:Nat)(d:Array bS)(w:zW)(k:HoldsK bS.cells 3 w g 0 d)(i:g<w.heap.size)(h:a<=b)(j:b<=d.size)(f:d.size<=1000):
  Calls zq 101 #[aJ (aA ⟨g,0,aB⟩) d.size cap,aC aD a,aC aD b,.func (.func 62) #[] #[]] w λe c=>
   e=aL (.tuple #[])/\∃n os,c=sortWorldK bS.cells 3 w g 0 n (insertionSort (ltOf MM) d a b) os:=
 AnyQ.insertionSortCmpFunc Qz.oo 3 (λw=>(Qz.isAgg w 53).trans (isAgg53 w)) (λw=>(Qz.sizeOf w 53).trans (sizeOf53 w)) bS.cells (λ_=>rfl) NF MM 62 #[] g 0 cap a b d w Yw (Pj g 0 d.size w) k i h j (by omega)
def MF (us:List bS)(i)(u)(h:us[i]? =aA u)(j)(b:j<3):(flatK bS.cells 3 us.toArray)[i*3+j]! =(u.cells[j]?).getD default/\i*3+j<(flatK bS.cells 3 us.toArray).size:=by
 have hi:=(zAu.1 h).1;have a:i*3+j<us.toArray.size*3:=by simp only[zAr];omega
 refine⟨?_,by rw[size_flatK];exact a⟩;rw[get_flatK _ _ _ _ a,show(i*3+j)/3=i by omega,show(i*3+j)%3=j by omega];have e:us.toArray[i]! =u:=by rw[zFv us.toArray i (by simpa using hi)];simpa using(zAu.1 h).2
 rw[e,List.getElem!_eq_getElem?_getD]
def Hw {w base g cap us}(h:dE w base (aJ (aA ⟨g,0,aB⟩) us.length cap) us):HoldsK bS.cells 3 w g 0 us.toArray:=by
 intro t d;rw[size_flatK,zAr]at d;have hi:t/3<us.length:=by omega
 have a:=zAf hi;have c:=(MF us (t/3) _ a (t%3) (zFt _ (by omega))).1;have b:=h.cellAt (t/3) _ a (t%3) (zFt _ (by omega));rw[show t/3*3+t%3=t by omega]at c b;refine⟨?_,World.ownsRow.frozenAt h _⟩;rw[zAx,b,c];have:t%3<(us[t/3]).cells.length:=zFt _ (by omega);rw[zAf this];rfl
def As {w g}{us:List bS}(h:HoldsK bS.cells 3 w g 0 us.toArray)(i)(u)(b:us[i]? =aA u)(j)(a:j<3):w.cell? ⟨g,i*3+j,aB⟩=u.cells[j]? :=by obtain⟨d,c⟩:=MF us i u b j a;have:=(h (i*3+j) c).1;rw[zAx,d]at this;rw[this];have:j<u.cells.length:=a;rw[zAf this];rfl
def pR {B w0 w g n d os}(h:Below B w0 w)(c:B<=g)(e:B<=w.heap.size):Below B w0 (sortWorldK bS.cells 3 w g 0 n d os):=by
 have a:Below B w0 (putRow id (Go.Sort.ahead w n) g 0 (flatK bS.cells 3 d)):=Lib.below_putRow h c;refine⟨a.os,a.tape,a.output,?_,λk b=> ?_⟩
 .show _<=(_++os).size;rw[zEd];exact zAw a.size (zFe _ _)
 .show(_++os)[k]? =_;rw[zCv (by show k<(putRow id (Go.Sort.ahead w n) g 0 (flatK bS.cells 3 d)).heap.size;rw[size_putRow];show k<w.heap.size;omega)];exact a.block k b
def NR {w g n d os}:w.heap.size<=(sortWorldK bS.cells 3 w g 0 n d os).heap.size:=size_sortWorldK_c bS.cells 3 w g 0 n d os
def Ni (d)(a b)(h:b<=a+1):insertionSort (ltOf MM) d a b=d:=by exact insOuter_stop _ a b (a+1) d (by omega)
def XK (base g cap)(us)(w)(i:dE w base (aJ (aA ⟨g,0,aB⟩) us.length cap) us)(t:base<=g)(j:g<w.heap.size)(L:us.length<=20):
  Calls zq 88 #[aJ (aA ⟨g,0,aB⟩) us.length cap,aC aD us.length,.func (.func 62) #[] #[]] w λe r=>
   e=aL (.tuple #[])/\HoldsK bS.cells 3 r g 0 (cG us).toArray/\Below base w r:=by
 have H0:=hid (Hw i);have u:Hid ((insertionSort (ltOf MM) us.toArray 0 us.length)=(cG us).toArray):=by show _=_;simp[cG]
 have f:=lV us;have l:base<=w.heap.size:=by omega
 by_cases J:us.length=20
 .have c:=OT g cap 0 us.length us.toArray w H0.out j (zBr _) (by simp) (by simp;omega);rw[u.out]at c;have s:∀w1,HoldsK bS.cells 3 w1 g 0 (cG us).toArray->g<w1.heap.size->Calls zq 101 #[aJ (aA ⟨g,0,aB⟩) us.length cap,aC aD us.length,aC aD us.length,.func (.func 62) #[] #[]] w1 λe r=>e=aL (.tuple #[])/\∃n os,r=sortWorldK bS.cells 3 w1 g 0 n (cG us).toArray os:=λw1 p m=>by
   have h:=OT g cap us.length us.length (cG us).toArray w1 p m (zAb _) (by simp;omega) (by simp;omega);rw[Ni _ _ _ (by omega)]at h;rw[show(cG us).toArray.size=us.length by simp[f]]at h;exact h
  have A:=hid s;rw[show us.toArray.size=us.length by simp]at c;have y:Hid (∀n os,HoldsK bS.cells 3 (sortWorldK bS.cells 3 w g 0 n (cG us).toArray os) g 0 (cG us).toArray):=λn os=>holdsK_sortWorldK_c bS.cells 3 w g 0 us.toArray _ n os H0.out j (by simp[f]);have x:Hid (∀w1,HoldsK bS.cells 3 w1 g 0 (cG us).toArray->g<w1.heap.size->∀n os,HoldsK bS.cells 3 (sortWorldK bS.cells 3 w1 g 0 n (cG us).toArray os) g 0 (cG us).toArray):=λw1 p m n os=>holdsK_sortWorldK_c bS.cells 3 w1 g 0 _ _ n os p m rfl;generalize(cG us).toArray=D at*;rw[J]at*;have k:=c;have z:=hid A.out;have H:=hid k;go_enter (Qz.fn func88),ntmps88;go_wp2_with fail;go_loopg [7,8] 1 (λq a b wr=>(q=1/\a=aC aD 0/\b=aC aD 20/\wr=w)\/(q=0/\a=aC aD 20/\b=aC aD 40/\HoldsK bS.cells 3 wr g 0 D/\Below base w wr/\g<wr.heap.size));case atStart=>exact aG ⟨rfl,rfl,rfl,rfl⟩
  case round=>
   obtain⟨rfl,rfl,rfl,rfl⟩|⟨rfl,rfl,rfl,p,m,K⟩:=hrel
   .go_wp2_with fail;refine H.out.mono ?_;rintro e w1 ⟨rfl,d,o,rfl⟩;go_wp2_with fail;go_roundg 0;case measure=>omega
    case rel=>
     go_light
     exact aH ⟨rfl,rfl,rfl,y.out d o,pR (zGe _ _) t l,zAc j NR⟩
   .have H1:=hid p;have F:=hid m;have E:=hid K;go_wp2_with fail;refine(z.out wr H1.out E.out).mono ?_;rintro e w1 ⟨rfl,d,o,rfl⟩;have C:=hid (x.out wr H1.out E.out d o);have B:Hid (Below base w (sortWorldK bS.cells 3 wr g 0 d D o)):=pR F.out t (zAw (by omega) F.out.size);generalize sortWorldK bS.cells 3 wr g 0 d D o=w2 at*;go_wp2_with fail;go_loopg [6] 0 (λq v w3=>v=aC aD 20/\w3=w2);case atStart=>exact⟨rfl,rfl⟩
    case round=>
     obtain⟨rfl,rfl⟩:=hrel
     go_wp2_with fail
     go_end0
     exact⟨rfl,C.out,B.out⟩
 .have c:=OT g cap 0 us.length us.toArray w H0.out j (zBr _) (by simp) (by simp;omega);rw[u.out]at c;rw[show us.toArray.size=us.length by simp]at c;have y:Hid (∀n os,HoldsK bS.cells 3 (sortWorldK bS.cells 3 w g 0 n (cG us).toArray os) g 0 (cG us).toArray):=λn os=>holdsK_sortWorldK_c bS.cells 3 w g 0 us.toArray _ n os H0.out j (by simp[f]);clear u;generalize(cG us).toArray=D at*;have H:=hid c;clear c H0;have I:¬((20:Int)<=(us.length:Int)):=by{omega};have G:¬((20:Int)<(us.length:Int)):=by{omega};generalize us.length=n at*;go_enter (Qz.fn func88),ntmps88;go_wp2_with fail;go_loopg [7,8] 0 (λq a b wr=>a=aC aD 0/\b=aC aD 20/\wr=w);case atStart=>exact⟨rfl,rfl,rfl⟩
  case round=>
   obtain⟨rfl,rfl,rfl⟩:=hrel
   go_wp2_with fail
   refine H.out.mono ?_
   rintro e w1 ⟨rfl,d,o,rfl⟩
   have C:=hid (y.out d o)
   have B:Hid (Below base wr (sortWorldK bS.cells 3 wr g 0 d D o)):=pR (zGe _ _) t l
   generalize sortWorldK bS.cells 3 wr g 0 d D o=w2 at*
   go_wp2_with fail
   go_loopg [6] 0 (λq v w3=>v=aC aD 20/\w3=w2)
   case atStart=>exact⟨rfl,rfl⟩
   case round=>
    obtain⟨rfl,rfl⟩:=hrel
    go_wp2_with fail
    go_end0
    exact⟨rfl,C.out,B.out⟩
def EK (base g cap)(us)(w)(h:dE w base (aJ (aA ⟨g,0,aB⟩) us.length cap) us)(f:base<=g)(c:g<w.heap.size)(a:us.length<=20):
  Calls zq 61 #[aJ (aA ⟨g,0,aB⟩) us.length cap,.func (.func 62) #[] #[]] w λe b=>
   e=aL (.tuple #[])/\HoldsK bS.cells 3 b g 0 (cG us).toArray/\Below base w b:=by
 have d:=XK base g cap us w h f c a;generalize us.length=n at*;generalize(cG us).toArray=D at*;go_enter (Qz.fn func61),ntmps61;go_wp2_with fail;refine d.mono ?_;rintro e w1 ⟨rfl,j,i⟩;go_wp2_with fail;go_end0;exact⟨rfl,j,i⟩
def PY (w:zW)(v:zY)(us:List bS):Prop:=(us=[]/\∃a c,v=aJ a 0 c)\/∃g o c,v=aJ (aA ⟨g,o,aB⟩) us.length c/\g<w.heap.size/\∀j u,(cI us)[j]? =aA u->w.cell? ⟨g,o+j,aB⟩=aA u
def IE (g o c)(us)(w)(hl:us.length<=1000)(l:∀j u,(cI us)[j]? =aA u->w.cell? ⟨g,o+j,aB⟩=aA u):
  Calls zq 60 #[aJ (aA ⟨g,o,aB⟩) us.length c] w λe b=>∃v,e=aL v/\dE b w.heap.size v us/\v≠aJ aB 0 0/\zb w b:=by
 obtain⟨i,hi,d,h,a⟩:=QW;exact AnyE.slices_Clone Qz.Pk i _ 3 40 hi d h a rfl (by omega) (λw=>(Qz.sizeOf w 53).trans (sizeOf53 w)) g o us.length c (cI us) w (mK us) (by simp only[maxLen];omega) (by omega) l (λu k=>by obtain⟨x,_,f⟩:=List.mem_flatMap.1 k;exact NF x u f)
def emit (S:List bS)(i:Nat):Option bS:=
 match S[i]?,S[i+1]? with
 |some u,aB=>aA u
 |some u,aA v=>if v.idx=u.idx then aB else aA u
 |none,_=>aB
def uZ:∀S:List bS,fU S=(List.range S.length).filterMap (emit S)
 |[]=>rfl
 |[u]=>rfl
 |u::v::r=>by
  have i:=uZ (v::r);have e:(List.range (u::v::r).length).filterMap (emit (u::v::r))=([0].filterMap (emit (u::v::r)))++(List.range (v::r).length).filterMap (emit (v::r)):=by rw[zAh,List.range_succ_eq_map,show(0::(List.range (v::r).length).map Nat.succ)=[0]++(List.range (v::r).length).map Nat.succ from rfl,zEk,List.filterMap_map];rfl
  rw[e,fU,i];have a:emit (u::v::r) 0=if v.idx=u.idx then aB else aA u:=rfl
  rw[zEf,List.filterMap_nil,a];by_cases h:v.idx=u.idx;{rw[zAq h,zAq h];rfl};{rw[zAn h,zAn h];rfl}
def nW (S:List bS)(t:Nat):List bS:=(List.range t).filterMap (emit S)
def YO (S)(t):nW S (t+1)=nW S t++(emit S t).toList:=by unfold nW;rw[List.range_succ,zEk,zEf,List.filterMap_nil];cases emit S t<;>rfl
def LJ (S)(t):(nW S t).length<=t:=by have:=zFz (emit S) (List.range t);rw[List.length_range]at this;exact this
def Nh (v fv)(w):Calls zq 101 #[v,aC aD 0,aC aD 0,fv] w λe a=>e=aL (.tuple #[])/\a=w:=by
 go_enter (Qz.fn func101),ntmps101;go_wp2_with fail;go_loopg [8] 0 (λq i wr=>i=aC aD 1/\wr=w);case atStart=>exact⟨rfl,rfl⟩
 case round=>
  obtain⟨rfl,rfl⟩:=hrel
  go_wp2_with fail
  go_end0
  exact⟨rfl,rfl⟩
def RL (v fv)(w):Calls zq 88 #[v,aC aD 0,fv] w λe c=>e=aL (.tuple #[])/\c=w:=by
 go_enter (Qz.fn func88),ntmps88;go_wp2_with fail;go_loopg [7,8] 0 (λq a b wr=>a=aC aD 0/\b=aC aD 20/\wr=w);case atStart=>exact⟨rfl,rfl,rfl⟩
 case round=>
  obtain⟨rfl,rfl,rfl⟩:=hrel
  go_wp2_with fail
  refine(Nh v fv wr).mono ?_
  rintro e w1 ⟨rfl,rfl⟩
  go_wp2_with fail
  go_loopg [6] 0 (λq d w3=>d=aC aD 20/\w3=w1)
  case atStart=>exact⟨rfl,rfl⟩
  case round=>
   obtain⟨rfl,rfl⟩:=hrel
   go_wp2_with fail
   go_end0
   exact⟨rfl,rfl⟩
def CP (a)(c)(fv)(w):Calls zq 61 #[aJ a 0 c,fv] w λe b=>e=aL (.tuple #[])/\b=w:=by go_enter (Qz.fn func61),ntmps61;go_wp2_with fail;refine(RL _ fv w).mono ?_;rintro e w1 ⟨rfl,rfl⟩;go_wp2_with fail;go_end0;exact⟨rfl,rfl⟩
def wW (a)(c)(w)(p:∀x,a=aA x->∃g o,x=⟨g,o,aB⟩):
  Calls zq 39 #[aJ a 0 c] w λe b=>∃f,e=aL f/\dE b w.heap.size f []/\zb w b:=by
 have n:Calls zq 60 #[aJ a 0 c] w λe b=>∃d v,e=aL (aJ d 0 v)/\zb w b:=by
  cases a with
  |none=>exact(AnyE.slices_Clone_nil Qz.Pk 0 c w).mono λe b ⟨m,l⟩=>⟨aB,0,m,by rw[l];exact zGe _ _⟩
  |some x=>
   obtain⟨g,o,rfl⟩:=p x rfl;exact(IE g o c [] w (by simp) (λj u h=>by cases h)).mono λe b ⟨f,m,l,_,r⟩=>by obtain⟨d,v,rfl,_⟩:=l.len;exact⟨d,v,m,r⟩
 go_enter (Qz.fn func39),ntmps39;go_wp2_with fail;refine n.mono ?_;rintro e w1 ⟨d,v,rfl,hb⟩;have B:=hid hb;go_wp2_with fail;refine(CP d v _ w1).mono ?_;rintro e w2 ⟨rfl,k⟩;obtain rfl:w1=w2:=k.symm;go_wp2_with fail;go_loopg [4,13] 0 (λq out i wr=>out=aJ aB 0 0/\i=aC aD 0/\wr=w1);case atStart=>exact⟨rfl,rfl,rfl⟩
 case round=>
  obtain⟨rfl,rfl,rfl⟩:=hrel
  go_wp2_with fail
  go_ret
  exact⟨_,rfl,dE.nil _ _,B.out⟩
def NV (g0 o c)(us)(w)(hn:0<us.length)(kz:us.length<=20)(x:∀j u,(cI us)[j]? =aA u->w.cell? ⟨g0,o+j,aB⟩=aA u):
  Calls zq 39 #[aJ (aA ⟨g0,o,aB⟩) us.length c] w λe m=>∃r,e=aL r/\dE m w.heap.size r (cQ us)/\zb w m:=by
 have hc:=IE g0 o c us w (by omega) x;have HC:=hid hc;have HS:Hid (∀g cap w1,dE w1 w.heap.size (aJ (aA ⟨g,0,aB⟩) us.length cap) us->w.heap.size<=g->g<w1.heap.size->Calls zq 61 #[aJ (aA ⟨g,0,aB⟩) us.length cap,.func (.func 62) #[] #[]] w1 λe m=>e=aL (.tuple #[])/\HoldsK bS.cells 3 m g 0 (cG us).toArray/\Below w.heap.size w1 m):=λg cap w1 K A h3=>EK w.heap.size g cap us w1 K A h3 kz;have HF:Hid (cQ us=nW (cG us) us.length):=by show fU (cG us)=_;rw[uZ,lV];rfl
 have yn:=lV us;rw[HF.out];clear hc HF;generalize cG us=S at*;have HL:Hid (∀r m,dE m w.heap.size r us->∃g cap,r=aJ (aA ⟨g,0,aB⟩) us.length cap/\w.heap.size<=g/\g<m.heap.size):=λr m h=>by obtain⟨va,cc,e,A⟩:=h.len;obtain⟨g,rfl,h3,h4⟩:=A hn;exact⟨g,cc,e,h3,h4⟩
 go_enter (Qz.fn func39),ntmps39;go_wp2_with fail;refine HC.out.mono ?_;rintro e w1 ⟨r,rfl,a,_,hb⟩;obtain⟨g,cap,rfl,ks,I⟩:=HL.out r w1 a;have B1:=hid hb;have O1:=hid a;clear hb a HC HL;go_wp2_with fail;refine(HS.out g cap w1 O1.out ks I).mono ?_;rintro e w2 ⟨rfl,hh,y⟩;have F:=hid (B1.out.trans y);have K2:=hid hh;have Z:=zAc I y.size;clear y hh HS B1 O1;generalize hN:us.length=N at*;have HN0:=hid hN;clear hN;go_wp2_with fail;go_loopg [4,13] N (λq out i wr=>∃t:Nat,t+q=N/\i=aC aD (t:Int)/\zb w wr/\zb w2 wr/\dE wr w2.heap.size out (nW S t));case atStart=>exact⟨0,by omega,rfl,F.out,zGe _ _,dE.nil _ _⟩
 case round=>
  obtain⟨t,ht,rfl,b1,b2,b3⟩:=hrel
  have T:=hid b1
  have O:=hid b2
  have C3:=hid b3
  clear b1 b2 b3
  by_cases bW:t<N
  .have hSt:t<S.length:=by omega
   have K3:Hid (∀W,zb w2 W->∀i u,S[i]? =aA u->∀j,j<3->W.cell? ⟨g,i*3+j,aB⟩=u.cells[j]?):=λW hW i u P j Y=>by rw[hW.cell Z];exact As K2.out i u P j Y
   have P:=zAf hSt;have C:=hid (YO S t);have Q:=hid P;clear P;have r0:wr.rangeAt g (t*3) S[t].cells:=λj v hv=>by have Y:=(zAu.1 hv).1;rw[K3.out wr O.out t _ Q.out j Y];exact hv
   generalize S[t]=u at*;obtain⟨b,d,f⟩:=u;have dt:(t:Int)<(N:Int):=by{omega};have ht0:(0:Int)<=(t:Int):=by{omega};have r1:wr.rangeAt g (t*3) [aK ⟨b.toArray⟩,aK ⟨d.toArray⟩,.bool f]:=r0;clear r0;go_upto_region 7 with(refine wpList_load_mid rfl 53 _ rfl g (t*3) rfl _ _ r1 ((Qz.eO 53).trans underlying53) rfl (by kernel_rfl) ?_)
   have Ka:Hid (cD (wr.alloc (aI #[aK ⟨b.toArray⟩,aK ⟨d.toArray⟩,.bool f] 53)) wr.heap.size 53 #[aK ⟨b.toArray⟩,aK ⟨d.toArray⟩,.bool f]):=cD.new _ _ _;have Ca:Hid (zb w (wr.alloc (aI #[aK ⟨b.toArray⟩,aK ⟨d.toArray⟩,.bool f] 53))):=T.out.alloc T.out.size _;have Cb:Hid (zb w2 (wr.alloc (aI #[aK ⟨b.toArray⟩,aK ⟨d.toArray⟩,.bool f] 53))):=O.out.alloc O.out.size _;have Cc:Hid (dE (wr.alloc (aI #[aK ⟨b.toArray⟩,aK ⟨d.toArray⟩,.bool f] 53)) w2.heap.size u4 (nW S t)):=C3.out.alloc _;have HN:=hid O.out.size;generalize wr.alloc (aI #[aK ⟨b.toArray⟩,aK ⟨d.toArray⟩,.bool f] 53)=l at*;clear T O C3 r1;generalize wr.heap.size=B at*;have p0:l.cell? ⟨B,0,aB⟩=aA (aK ⟨b.toArray⟩):=by{rw[Ka.out.cell];rfl};by_cases X:t+1=N
   .have hq:(t:Int)+1=(N:Int):=by omega
    have H:Hid ((emit S t).toList=[⟨b,d,f⟩]):=by show(emit S t).toList=_;have K:S[t+1]? =aB:=List.getElem?_eq_none (by omega);unfold emit;rw[Q.out,K];rfl
    go_quiet (fail);have Dk:Hid (cD (l.drewN nq) B 53 #[aK ⟨b.toArray⟩,aK ⟨d.toArray⟩,.bool f]):=Ka.out.drewN nq;have R:Hid (zb w (l.drewN nq)):=below_drewN Ca.out nq;have E:Hid (zb w2 (l.drewN nq)):=below_drewN Cb.out nq;have D:Hid (dE (l.drewN nq) w2.heap.size u4 (nW S t)):=Cc.out.kept λ_ _=>rfl;generalize l.drewN nq=U at*;have s:(nW S t).length<=1000000:=by{have:=LJ S t;omega};have k:w2.heap.size<=U.heap.size:=E.out.size;go_wp2_with (first|(refine zGm rfl 53 _ rfl B rfl 53 _ (0,0) _ Dk.out ((Qz.eO 53).trans underlying53) rfl (by kernel_rfl) ?_)|(at_builtin;refine jZ rfl _ _ rfl w2.heap.size _ _ rfl D.out ⟨b,d,f⟩ 1 rfl s k ?_;intro g' L m a n));go_roundg (N-(t+1));case measure=>omega
    case rel=>
     go_light
     refine⟨t+1,by omega,by go_num,eZ R.out D.out n F.out.size (zAw F.out.size k),eZ E.out D.out n (zAb _) k,?_⟩
     rw[C.out,H.out]
     have hl:(nW S t++[(⟨b,d,f⟩:bS)]).length=(nW S t).length+1:=by simp
     exact a
   .have hq:¬(t:Int)+1=(N:Int):=by{omega};have J:t+1<S.length:=by{omega};have aAX:(t:Int)+1<(N:Int):=by{omega};have ox:IntKind.i64.wrap ((t:Int)+1)=(t:Int)+1:=by{rw[zGj];omega};have ht1:(0:Int)<=(t:Int)+1:=by{omega};have xc:((t:Int)+1).toNat=t+1:=by omega
    have p1:l.cell? ⟨g,(t+1)*3,aB⟩=aA (aK ⟨S[t+1].idx.toArray⟩):=by have:=K3.out l Cb.out (t+1) _ (zAf J) 0 (by omega);rw[Nat.add_zero]at this;exact this
    have M:Hid (S[t+1]? =aA S[t+1]):=zAf J;generalize S[t+1]=v at*;obtain⟨V,vV,vG⟩:=v;dsimp only at p1;go_quiet (fail);have Dk:Hid (cD (l.drewN nq) B 53 #[aK ⟨b.toArray⟩,aK ⟨d.toArray⟩,.bool f]):=Ka.out.drewN nq;have R:Hid (zb w (l.drewN nq)):=below_drewN Ca.out nq;have E:Hid (zb w2 (l.drewN nq)):=below_drewN Cb.out nq;have D:Hid (dE (l.drewN nq) w2.heap.size u4 (nW S t)):=Cc.out.kept λ_ _=>rfl;generalize l.drewN nq=U at*;have G:((t:Int)+1==(N:Int))=aF:=by{rw[zBw];exact hq};by_cases p:V=b
    .have z:(((t:Int)+1==(N:Int))|| !(V==b))=aF:=by rw[G,p];simp
     have H:Hid ((emit S t).toList=[]):=by show(emit S t).toList=_;unfold emit;rw[Q.out,M.out];dsimp only;rw[zAq p];rfl
     rw[z];go_wp2_with fail;go_roundg (N-(t+1));case measure=>omega
     case rel=>
      go_light
      refine⟨t+1,by omega,by go_num,R.out,E.out,?_⟩
      rw[C.out,H.out,zAy]
      exact D.out
    .have z:(((t:Int)+1==(N:Int))|| !(V==b))=aE:=by
      rw[G,zFs,aF3,zBw];exact p
     have H:Hid ((emit S t).toList=[⟨b,d,f⟩]):=by show(emit S t).toList=_;unfold emit;rw[Q.out,M.out];dsimp only;rw[zAn p];rfl
     rw[z];have s:(nW S t).length<=1000000:=by{have:=LJ S t;omega};have k:w2.heap.size<=U.heap.size:=E.out.size;go_wp2_with (first|(refine zGm rfl 53 _ rfl B rfl 53 _ (0,0) _ Dk.out ((Qz.eO 53).trans underlying53) rfl (by kernel_rfl) ?_)|(at_builtin;refine jZ rfl _ _ rfl w2.heap.size _ _ rfl D.out ⟨b,d,f⟩ 1 rfl s k ?_;intro g' L m a n));go_roundg (N-(t+1));case measure=>omega
     case rel=>
      go_light
      refine⟨t+1,by omega,by go_num,eZ R.out D.out n F.out.size (zAw F.out.size k),eZ E.out D.out n (zAb _) k,?_⟩
      rw[C.out,H.out]
      have hl:(nW S t++[(⟨b,d,f⟩:bS)]).length=(nW S t).length+1:=by simp
      exact a
  .obtain rfl:t=N:=by{omega};go_wp2_with fail;go_ret;refine⟨_,rfl,?_,T.out⟩;rw[HN0.out];obtain⟨K,A⟩:=C3.out;refine⟨K,?_⟩;obtain A|⟨gg,cp,cur,e1,e2,e3⟩:=A;{exact aG A};{exact aH ⟨gg,cp,cur,e1,zAw F.out.size e2,e3⟩}
open Go.RowKit Sha
def CB (u:bS):Bool:=decide (u.idx.length=32)&&(decide (u.val.length<=100)&&(!u.gone||decide (u.val=[])))
def CI (v)(us)(w)(hl:us.length<=1000)(M:PY w v us)(hs:∀u∈us,u.idx.length<=1000000/\u.val.length<=1000000):
  Calls zq 38 #[v] w λe N=>e=aL (.bool (us.all CB))/\zb w N:=by
 have HV:=hid M;obtain⟨z,J,rfl,A⟩:∃z J,v=aJ z us.length J/\(0<us.length->∃g o,z=aA ⟨g,o,aB⟩/\g<w.heap.size/\∀j u,(cI us)[j]? =aA u->w.cell? ⟨g,o+j,aB⟩=aA u):=by obtain⟨rfl,a,c,rfl⟩|⟨g,o,c,rfl,m,l⟩:=M;{exact⟨a,c,rfl,λh=>by simp at h⟩};{exact⟨_,c,rfl,λ_=>⟨g,o,rfl,m,l⟩⟩}
 have X:Hid (∀t,t<=us.length->(∀i u,i<t->us[i]? =aA u->CB u=aE)->t=us.length->us.all CB=aE):=λt _ h e=>by rw[zBq];intro u k;obtain⟨i,hi⟩:=List.getElem?_of_mem k;exact h i u (by rw[e];exact(zAu.1 hi).1) hi
 have G:Hid (∀t u,us[t]? =aA u->CB u=aF->us.all CB=aF):=λt u p m=>by rw[List.all_eq_false];exact⟨u,zDb p,by rw[m];decide⟩
 generalize us.all CB=Y at*;go_enter (Qz.fn func38),ntmps38;go_wp2_with fail;go_loopg [7] us.length (λq i wr=>∃t:Nat,t+q=us.length/\i=aC aD (t:Int)/\zb w wr/\∀i u,i<t->us[i]? =aA u->CB u=aE);case atStart=>exact⟨0,by omega,rfl,zGe _ _,λi u h=>by omega⟩
 case round=>
  obtain⟨t,ht,rfl,V,U⟩:=hrel
  have s:=hid V
  have I:=hid U
  by_cases bW:t<us.length
  .obtain⟨g,o,rfl,Q,R⟩:=A (by omega);have n:=hid (zAf bW);have E:=hs us[t] (zCx _);have r0:wr.rangeAt g (o+t*3) us[t].cells:=λj x L=>by
    have P:=(zAu.1 L).1;rw[s.out.cell Q,zCc];exact R _ _ (by rw[qK us t _ n.out j P];exact L)
   generalize us[t]=u at*;obtain⟨d,b,f⟩:=u;have r1:wr.rangeAt g (o+t*3) [aK ⟨d.toArray⟩,aK ⟨b.toArray⟩,.bool f]:=r0;have D:(t:Int)<(us.length:Int):=by{omega};have O:(0:Int)<=(t:Int):=by{omega};go_upto_region 4 with(refine wpList_load_mid rfl 53 _ rfl g (o+t*3) rfl _ _ r1 ((Qz.eO 53).trans underlying53) rfl (by kernel_rfl) ?_)
   have K:Hid (cD (wr.alloc (aI #[aK ⟨d.toArray⟩,aK ⟨b.toArray⟩,.bool f] 53)) wr.heap.size 53 #[aK ⟨d.toArray⟩,aK ⟨b.toArray⟩,.bool f]):=cD.new _ _ _;have C:Hid (zb w (wr.alloc (aI #[aK ⟨d.toArray⟩,aK ⟨b.toArray⟩,.bool f] 53))):=s.out.alloc s.out.size _;generalize wr.alloc (aI #[aK ⟨d.toArray⟩,aK ⟨b.toArray⟩,.bool f] 53)=y at*;clear s r1;generalize wr.heap.size=B at*;have p0:y.cell? ⟨B,0,aB⟩=aA (aK ⟨d.toArray⟩):=by{rw[K.out.cell];rfl};have Z:y.cell? ⟨B,1,aB⟩=aA (aK ⟨b.toArray⟩):=by{rw[K.out.cell];rfl};have p2:y.cell? ⟨B,2,aB⟩=aA (.bool f):=by{rw[K.out.cell];rfl};dsimp only at E;have s0:(⟨d.toArray⟩:ByteArray).size=d.length:=by{simp[ByteArray.size]};have s1:(⟨b.toArray⟩:ByteArray).size=b.length:=by{simp[ByteArray.size]};by_cases p:d.length=32
   .by_cases m:b.length<=100
    .have F:¬(100:Int)<(b.length:Int):=by{omega};cases f with
     |false=>
      have H:CB ⟨d,b,aF⟩=aE:=by{simp[CB,p,m]};go_wp2_with fail;go_roundg (us.length-(t+1));case measure=>omega
      case rel=>
       go_light
       refine⟨t+1,by omega,by go_num,C.out,λi u hi k=> ?_⟩
       by_cases e:i=t
       .subst e;rw[n.out]at k;rw[<-zAk k];exact H
       .exact I.out i u (by omega) k
     |true=>
      by_cases l:b=[]
      .have H:CB ⟨d,b,aE⟩=aE:=by{simp[CB,p,l]};subst l;go_wp2_with fail;go_roundg (us.length-(t+1));case measure=>omega
       case rel=>
        go_light
        refine⟨t+1,by omega,by go_num,C.out,λi u hi k=> ?_⟩
        by_cases e:i=t
        .subst e;rw[n.out]at k;rw[<-zAk k];exact H
        .exact I.out i u (by omega) k
      .have H:CB ⟨d,b,aE⟩=aF:=by{simp[CB,l]};have S:b.isEmpty=aF:=by{simpa using l};have r:=hid (G.out t _ n.out H);go_wp2_with fail;go_ret;exact⟨by rw[r.out];rfl,C.out⟩
    .have F:(100:Int)<(b.length:Int):=by{omega};have H:CB ⟨d,b,f⟩=aF:=by{simp[CB,m]};have r:=hid (G.out t _ n.out H);go_wp2_with fail;go_ret;exact⟨by rw[r.out];rfl,C.out⟩
   .have T:¬(d.length:Int)=32:=by{omega};have H:CB ⟨d,b,f⟩=aF:=by{simp[CB,p]};have r:=hid (G.out t _ n.out H);go_wp2_with fail;go_ret;exact⟨by rw[r.out];rfl,C.out⟩
  .have W:=hid (X.out t (by omega) I.out (by omega));have D:¬(t:Int)<(us.length:Int):=by{omega};go_wp2_with fail;go_ret;exact⟨by rw[W.out];rfl,s.out⟩
open Go Go.RowKit Sha Go.Ga Go.Ren
def wX:cQ []=[]:=List.eq_nil_iff_forall_not_mem.2 λu h=>by simpa using qO h
def xU:∀l:List bS,(fU l).length<=l.length
 |[]=>zAb _
 |[_]=>zAb _
 |a::b::r=>by have:=xU (b::r);rw[fU];split;{simp only[zAh]at*;omega};{simp only[zAh]at*;omega}
def NZ (us):(cQ us).length<=us.length:=by have:=xU (cG us);rw[lV]at this;exact this
def NY {w base v us}(h:dE w base v us)(c:us.length<=20):
  Calls zq 39 #[v] w λe d=>∃f,e=aL f/\dE d w.heap.size f (cQ us)/\zb w d:=by
 obtain⟨rfl,m⟩|⟨g,cap,cur,rfl,hb,k,p,o,n,l⟩:=h.2
 .have e:=zDl m;subst e;rw[wX];exact wW aB 0 w (λx a=>by cases a)
 .by_cases i:us.length=0
  .have e:=zDl i;subst e;rw[wX];exact wW (aA ⟨g,0,aB⟩) cap w (λx a=>by injection a with a;exact⟨g,0,a.symm⟩)
  .refine NV g 0 cap us w (by omega) c λj u b=> ?_;rw[zAx,zGv w g j cur 53 (0,0) k];rw[<-l,zCs]at b;split at b
   .rw[<-zBp];exact b
   .cases b
def dE.mh {w base v us}(h:dE w base v us):PY w v us:=by
 obtain⟨rfl,d⟩|⟨g,cap,cur,rfl,hb,b,i,f,e,c⟩:=h.2
 .exact aG ⟨zDl d,aB,0,rfl⟩
 .refine aH ⟨g,0,cap,rfl,(zAa.1 b).1,λj u a=> ?_⟩;rw[zAx,zGv w g j cur 53 (0,0) b];rw[<-c,zCs]at a;split at a
  .rw[<-zBp];exact a
  .cases a
def Wy:∃i,zq.info? 9=aA i/\i.zero=aA (aK ⟨#[]⟩)/\i.size=1/\i.bytes=16:=OU (by kernel_rfl)
def ZT {w hb b n H}(l:eR PZ w hb 9 1 (aJ (aA ⟨hb,0,aB⟩) n b) n (fZ H))(I:n<=1000)(x){vb}(p:w.heap[vb]? =aA (aI #[aK ⟨x.toArray⟩] 9 (0,0)))(bW:hb<=w.heap.size):
  ∃a h W,(∀ty,(Builtin.append_ #[82,82] ty #[aJ (aA ⟨hb,0,aB⟩) n b,aJ (aA ⟨vb,0,aB⟩) 1 1]).run zq w= .ok (aJ (aA ⟨a,0,aB⟩) (n+1) h) W)/\w.grownBy W (aA hb)/\(a=hb\/a=w.heap.size)/\eR PZ W a 9 1 (aJ (aA ⟨a,0,aB⟩) (n+1) h) (n+1) (fZ (H++[x])):=by
 obtain⟨it,ti,o,t,f⟩:=Wy;have G:=λty=>sP w PZ hb 82 ty 9 it _ 1 16 ((Qz.eO 82).trans underlying82) ti o t f rfl (by omega) (λx k=>by simp[Value.cells]at k;exact⟨_,k⟩) _ n _ l.1 l.2 ⟨vb,0,aB⟩ 1 1 [aK ⟨x.toArray⟩] rfl (λj u q=>by rw[addr_add,zAx,zGv w vb j _ 9 (0,0) p];simpa using q) (λu g=>by rw[zAm.1 g];rfl) (λu g=>by rw[zAm.1 g];exact⟨_,rfl⟩) (Nat.succ_pos _) (by simp only[maxLen];omega) (by omega) bW
 obtain⟨m,c,W,z,y,v,s,r⟩:=G 0;have i:eR PZ W hb 9 1 (aJ (aA ⟨m,0,aB⟩) (n+1) c) (n+1) (fZ H++[aK ⟨x.toArray⟩]):=⟨y,r⟩;obtain⟨d,F,J,E,D,C,B,A⟩:=i.row;refine⟨m,c,W,λty=>z,v,?_,eR.of d F (zAb _) E D C (by rw[B];simp[fZ]) A⟩;obtain e|e:=s
 .exact aG (zAk e).symm
 .exact aH e
end Go.Proofs.Zq
namespace Go.Proofs.Zq.AnyX
open Go
section
variable {P:zZ}{ops:zQ}{Q:zX}{md:Region.Mode}{S:zW->Prop}{late:Nat->Bool}
def early (ops:zQ)(late:Nat->Bool)(listed:Array Bool):Bool:=(List.range ops.size).all λs=> !(late s)|| !(listed.getD s aF)
def AO {listed i}(h:early ops late listed=aE)(hi:late i=aF):early ops late (listed.setIfInBounds i aE)=aE:=by
 refine zBq.2 λs a=> ?_;have:=zBq.1 h s a;by_cases e:i=s
 .subst e;rw[hi];rfl
 .rw[getD_set_ne aF e];exact this
def jA (P:zZ)(md:Region.Mode)(ops:zQ)(Q:zX)(S:zW->Prop)(late:Nat->Bool):Nat->Array Bool->Act->zW->Prop
 |0,listed,a,w=>Region.ready md ops listed=[]/\Q .normal a w
 |fuel+1,listed,a,w=>
  (Region.ready md ops listed=[]->Q .normal a w)/\
  ∀i∈Region.ready md ops listed,wpOp P ops Q i (λc b=>(early ops late (listed.setIfInBounds i aE)=aE->S b)/\jA P md ops Q S late fuel (listed.setIfInBounds i aE) c b) a w
def DZ:∀(fuel:Nat)(listed:Array Bool)(a:Act)(w:zW),jA P md ops Q S late fuel listed a w->wpAny P md ops Q fuel listed a w
 |0,_,_,_,h=>h
 |fuel+1,_,_,_,h=>⟨h.1,λi hi=>wpOp_mono (λd b c=>DZ fuel _ d b c.2) (h.2 i hi)⟩
structure Zl (md:Region.Mode)(ops:zQ)(listed:Array Bool):Prop where
 size:listed.size=ops.size
 closed:∀j oj,ops[j]? =aA oj->listed.getD j aF=aE->∀e∈oj.after,Region.binds md e=aE->listed.getD e.on aF=aE
def Ug (md:Region.Mode)(ops:zQ)(listed:Array Bool):Bool:=
 decide (listed.size=ops.size)&&((List.range ops.size).all λj=>(!(listed.getD j aF))||match ops[j]? with
   |some o=>o.after.all λe=> !(Region.binds md e)||listed.getD e.on aF
   |none=>aE)
def Iq {listed}(h:Ug md ops listed=aE):Zl md ops listed:=by unfold Ug at h;simp only[zBc,zBl]at h;obtain⟨g,f⟩:=h;refine⟨g,λj o b hl e c d=> ?_⟩;have a:=(zAa.1 b).1;have:=zBq.1 f j (zBu.2 a);rw[b,hl]at this;simp only[Bool.not_true,zFs]at this;have:=Array.all_eq_true_iff_forall_mem.1 this e c;rw[d]at this;simpa using this
def Zl.set {i listed}(inv:Zl md ops listed)(hi:i∈Region.ready md ops listed):Zl md ops (listed.setIfInBounds i aE):=by
 obtain⟨_,g,b,a⟩:=mem_ready.1 hi;refine⟨by simp[inv.size],λj o c hl e d f=> ?_⟩;by_cases h:i=j
 .subst h;have:o=g:=zAk (c.symm.trans b);subst this;exact getD_set_true (a e d f)
 .rw[getD_set_ne aF h]at hl;exact getD_set_true (inv.closed j o c hl e d f)
def waits (md:Region.Mode)(ops:zQ):Nat->Nat->Nat->Bool
 |0,_,_=>aF
 |f+1,s,i=>match ops[s]? with
  |some o=>o.after.any λe=>Region.binds md e&&(e.on==i||waits md ops f e.on i)
  |none=>aF
def EB {listed:Array Bool}(inv:Zl md ops listed){i:Nat}:∀(f s:Nat)(o:Oper),ops[s]? =aA o->(∀e∈o.after,Region.binds md e=aE->listed.getD e.on aF=aE)->waits md ops f s i=aE->listed.getD i aF=aE
 |0,_,_,_,_,h=>by cases h
 |f+1,s,o,k,b,h=>by
  unfold waits at h;rw[k]at h;obtain⟨e,l,d⟩:=Array.any_eq_true'.1 h;simp only[zBc,zDk,zCo]at d;have j:=b e l d.1;obtain a|a:=d.2;{rw[<-a];exact j}
  .cases c:ops[e.on]? with
   |none=>
    cases f with
    |zero=>cases a
    |succ f=>unfold waits at a;rw[c]at a;cases a
   |some g=>exact EB inv f e.on g c (inv.closed e.on g c j) a
def Cw (md:Region.Mode)(ops:zQ)(late:Nat->Bool)(i:Nat):Bool:=(List.range ops.size).all λs=> !(late s)||waits md ops ops.size s i
def ZL {listed i}(inv:Zl md ops listed)(h:Cw md ops late i=aE)(d:listed.getD i aE=aF):early ops late listed=aE/\∀j,j∈Region.ready md ops listed->late j=aF:=by
 have k:∀s os,ops[s]? =aA os->late s=aE->(∀e∈os.after,Region.binds md e=aE->listed.getD e.on aF=aE)->False:=λs os c hl a=>by have:=zBq.1 h s (zBu.2 (zAa.1 c).1);rw[hl]at this;have:=EB inv _ s os c a (by simpa using this);rw[getD_both d]at this;cases this
 refine⟨zBq.2 λs c=> ?_,λj l=> ?_⟩
 .cases hl:late s with
  |false=>rfl
  |true=>
   cases g:listed.getD s aF with
   |false=>rfl
   |true=>have b:=zBu.1 c;exact(k s _ (zAj b) hl (inv.closed s _ (zAj b) g)).elim
 .obtain⟨_,o,f,a⟩:=mem_ready.1 l;cases hl:late j with
  |false=>rfl
  |true=>exact(k j o f hl a).elim
def NA {i t v}(hi:ops[i]? =aA t)(p:∀(j:Nat)(o) cs b,ops[j]? =aA o->o.op≠.select cs b)
  (bW:Cw md ops late i=aE) (O:∀c a w,Q (.panic c) (a.put t.dst v) w->Q (.panic c) a w):
  ∀(fuel)(listed)(a)(w),Zl md ops listed->
   (∀j s,ops[j]? =aA s->j≠i->listed.getD j aE=aF->(∀e∈s.after,Region.binds md e=aE->e.on≠i)->t.apart ops s=aE)->
   i∈Region.ready md ops listed->YieldsIf P ops S t v a->S w->
   jA P md ops Q S late fuel (listed.setIfInBounds i aE) (a.put t.dst v) w->jA P md ops Q S late (fuel+1) listed a w:=by
 intro fuel;induction fuel with
 |zero=>intro listed a w _ _ q C B H;refine⟨λh=>(by rw[h]at q;cases q),λj x=> ?_⟩;by_cases d:j=i;{subst d;exact C.wpOp hi B ⟨λ_=>B,H⟩};{have:=ready_mono x d;rw[H.1]at this;cases this}
 |succ fuel K=>
  intro listed a w inv g q C B H;have f:=(mem_ready.1 q).1;obtain⟨I,m⟩:=ZL inv bW f;refine⟨λh=>(by rw[h]at q;cases q),λj x=> ?_⟩;by_cases d:j=i;{subst d;exact C.wpOp hi B ⟨λ_=>B,H⟩}
  .have E:=H.2 j (ready_mono x d);obtain⟨r,s,u,A⟩:=mem_ready.1 x;have y:∀e∈s.after,Region.binds md e=aE->e.on≠i:=λe M N G=>by
    have E:=A e M N;rw[G,getD_both f]at E;cases E
   have R:=wpOp_putIf u (g j s u d r y) (λcs b=>p i t cs b hi) (λcs b=>p j s cs b u) O C E;have n:∀k ok,ops[k]? =aA ok->k≠i->(listed.setIfInBounds j aE).getD k aE=aF->
     (∀e∈ok.after,Region.binds md e=aE->e.on≠i)->t.apart ops ok=aE:=λk ok L F f m=>by
    refine g k ok L F ?_ m
    by_cases z:j=k
    .subst z;exact r
    .rw[getD_set_ne aE z]at f;exact f
   have l:=AO (AO I (m i q)) (m j x);refine wpOp_mono (λT J D=>⟨λ_=>D.2.1 l,K (listed.setIfInBounds j aE) T J (inv.set x) n (ready_mono q (zEa d)) D.1 (D.2.1 l) ?_⟩) R;rw[zEp _ _ d];exact D.2.2
def MZ {i q v}(hi:ops[i]? =aA q)(m:∀(j:Nat)(o) cs b,ops[j]? =aA o->o.op≠.select cs b)
  (bW:late i=aF) (N:∀c a w,Q (.panic c) (a.put q.dst v) w->Q (.panic c) a w):
  ∀(fuel)(listed)(a)(w),
   (∀j p,ops[j]? =aA p->j≠i->listed.getD j aE=aF->(∀e∈p.after,Region.binds md e=aE->e.on≠i)->q.apart ops p=aE)->
   i∈Region.ready md ops listed->Yields P ops q v a->(early ops late (listed.setIfInBounds i aE)=aE->S w)->
   jA P md ops Q S late fuel (listed.setIfInBounds i aE) (a.put q.dst v) w->jA P md ops Q S late (fuel+1) listed a w:=by
 intro fuel;induction fuel with
 |zero=>intro listed a w _ r y G H;refine⟨λh=>(by rw[h]at r;cases r),λj z=> ?_⟩;by_cases d:j=i;{subst d;exact y.wpOp hi ⟨G,H⟩};{have:=ready_mono z d;rw[H.1]at this;cases this}
 |succ fuel J=>
  intro listed a w f r y G H;have g:=(mem_ready.1 r).1;refine⟨λh=>(by rw[h]at r;cases r),λj z=> ?_⟩;by_cases d:j=i;{subst d;exact y.wpOp hi ⟨G,H⟩}
  .have B:=H.2 j (ready_mono z d);obtain⟨n,p,s,x⟩:=mem_ready.1 z;have t:∀e∈p.after,Region.binds md e=aE->e.on≠i:=λe L M E=>by
    have B:=x e L M;rw[E,getD_both g]at B;cases B
   have O:=wpOp_put s (f j p s d n t) (λcs b=>m i q cs b hi) (λcs b=>m j p cs b s) N y B;have l:∀k ok,ops[k]? =aA ok->k≠i->(listed.setIfInBounds j aE).getD k aE=aF->
     (∀e∈ok.after,Region.binds md e=aE->e.on≠i)->q.apart ops ok=aE:=λk ok K D g C=>by
    refine f k ok K D ?_ C
    by_cases u:j=k
    .subst u;exact n
    .rw[getD_set_ne aE u]at g;exact g
   refine wpOp_mono (λR I A=>⟨λF=>A.2.1 (by rw[<-zEp _ _ d];exact AO F bW),J (listed.setIfInBounds j aE) R I l (ready_mono r (zEa d)) A.1 (λF=>A.2.1 (by rw[<-zEp _ _ d];exact F)) ?_⟩) O;rw[zEp _ _ d];exact A.2.2
def QN {i o v fuel listed a w}(hi:ops[i]? =aA o)
  (d:(Region.noSelect ops&&Cw md ops late i&&Ug md ops listed&&Region.free md ops listed i&&(Region.ready md ops listed).contains i)=aE)
  (k:∀c a w,Q (.panic c) (a.put o.dst v) w->Q (.panic c) a w) (e:YieldsIf P ops S o v a) (j:S w)
  (h:jA P md ops Q S late fuel (listed.setIfInBounds i aE) (a.put o.dst v) w):jA P md ops Q S late (fuel+1) listed a w:=by
 simp only[zBc]at d;obtain⟨⟨⟨⟨b,hl⟩,g⟩,d⟩,f⟩:=d;exact NA hi (Region.noSelect_spec b) hl k fuel listed a w (Iq g) (Region.free_spec hi d) (by simpa using f) e j h
def BG {i o v fuel listed a w}(hi:ops[i]? =aA o)
  (d:(Region.noSelect ops&& !(late i)&&Region.free md ops listed i&&(Region.ready md ops listed).contains i)=aE)
  (j:∀c a w,Q (.panic c) (a.put o.dst v) w->Q (.panic c) a w) (e:Yields P ops o v a) (g:S w)
  (h:jA P md ops Q S late fuel (listed.setIfInBounds i aE) (a.put o.dst v) w):jA P md ops Q S late (fuel+1) listed a w:=by
 simp only[zBc,aF3]at d;obtain⟨⟨⟨b,hl⟩,d⟩,f⟩:=d;exact MZ hi (Region.noSelect_spec b) hl j fuel listed a w (Region.free_spec hi d) (by simpa using f) e (λ_=>g) h
def dF {i:Nat}{o:Oper}{fuel:Nat}{listed:Array Bool}{a:Act}{w:zW}(b:Region.ready md ops listed=[i])(d:ops[i]? =aA o)
  (h:∀K:Act->zW->Prop,Shut (∀a w,(early ops late (listed.setIfInBounds i aE)=aE->S w)->jA P md ops Q S late fuel (listed.setIfInBounds i aE) a w->K a w)->if Region.wanted o (yielded ops a.tmps)=aE then Oper.wp P o a w K Q else K (a.put o.dst undef) w):
  jA P md ops Q S late (fuel+1) listed a w:=
 ⟨λk=>absurd (b.symm.trans k) (List.cons_ne_nil _ _),λj c=>by rw[b]at c;obtain rfl:=zAm.1 c;exact wpOp_step d (λK g=>h K (λa w f e=>g a w ⟨f,e⟩))⟩
def mB {b}{p:Prop}(h:b=aE)(a:b=aF):p:=by rw[h]at a;cases a
def sC {listed:Array Bool}{a:Act}{w:zW}(b:Region.ready md ops listed=[])(h:Q .normal a w):∀fuel,jA P md ops Q S late fuel listed a w
 |0=>⟨b,h⟩
 |_+1=>⟨λ_=>h,by rw[b];simp⟩
def tk (i)(v){o fuel listed a w}(g:S w)(h:jA P md ops Q S late fuel (listed.setIfInBounds i aE) (a.put o.dst v) w)(hi:ops[i]? =aA o:=by rfl)
  (f:(Region.noSelect ops&&Cw md ops late i&&Ug md ops listed&&Region.free md ops listed i&&(Region.ready md ops listed).contains i)=aE:=by kernel_rfl)
  (j:∀c a w,Q (.panic c) (a.put o.dst v) w->Q (.panic c) a w:=by exactλ_ _ _ h=>h) (e:YieldsIf P ops S o v a:=by exact aG ⟨by rfl,λW b=>by first|(obtain⟨d,q,l,k⟩:=b;go_simp;done)|(obtain⟨d,q⟩:=b;go_simp;done)|go_simp⟩):jA P md ops Q S late (fuel+1) listed a w:=QN hi f j e g h
def sB {id:Nat}{a:Act}{w:zW}(S:zW->Prop)(late:Nat->Bool)(b:P.follows .mixedOrders=aE)
  (h:jA P .any ops Q S late ops.size (Array.replicate ops.size aF) a w.drew):(Code.region id ops aE).wp P Q a w:=
 wp_region_any b (DZ _ _ _ _ h)
end
end Go.Proofs.Zq.AnyX
namespace Go.Proofs.Zq
open Go Go.RowKit Sha Go.Ga Go.Ren
section
variable {w:zW}{k d:Nat}{p:Option Nat}{S:zP}{us:List bS}
structure rK (k:Nat)(w:zW)(us:List bS)(d:Nat)(z o:Option Nat):Prop where
 z:eL k w z (bK d 0 us) (d+1)
 o:eL k w o (bK d 1 us) (d+1)
def MR {u}(h:bZ u.idx d=0):bK d 0 [u]=[u]/\bK d 1 [u]=[]:=by unfold bK;rw[zBd (by rw[h];rfl),zAs (by rw[h];decide)];exact⟨rfl,rfl⟩
def MQ {u}(h:bZ u.idx d=1):bK d 0 [u]=[]/\bK d 1 [u]=[u]:=by unfold bK;rw[zAs (by rw[h];decide),zBd (by rw[h];rfl)];exact⟨rfl,rfl⟩
def SV (h:eL k w p us d)(G:d<256)(hi:∀u∈us,u.idx.length=32)(y:CS w S)(q:∀b,p=aA b->S b):
  Calls zq 230 #[ptr p,aC aD d] w λe a=>∃z o,e=aL (.tuple #[ptr z,ptr o])/\(a=w\/a=w.drew)/\rK k w us d z o/\(∀b,z=aA b->S b)/\∀b,o=aA b->S b:=by
 have m:=hid ((cS.done h (zAb 0)).ends);cases h with
 |nil=>have x:rK k w [] d aB aB:=⟨.nil _,.nil _⟩;have E:=hid m.out;have H:Hid (rK k w [] d aB aB/\(∀b,aB=aA b->S b)/\∀b,aB=aA b->S b):=⟨x,λb e=>by(cases e),λb e=>by(cases e)⟩;go_enter (Qz.fn func230),ntmps230;go_wp2_with fail;refine E.out.mono ?_;rintro e a ⟨rfl,rfl⟩;go_wp2;go_ret2;exact⟨aB,aB,rfl,aG rfl,H.out.1,λb e=>by(cases e),λb e=>by(cases e)⟩
 | @leaf b u _ t f=>have E:=hid m.out;have Nu:=hi u (by simp);have l:Hid (Calls zq 82 #[aK ⟨u.idx.toArray⟩,aC aD d] w λe a=>e=aL (.bool (decide (bZ u.idx d=1)))/\a=w):=(kS ⟨u.idx.toArray⟩ d w (by show d/8<u.idx.length;omega) (by show u.idx.length<=_;omega) (by omega)).mono λe a h=>by{simpa using h};have k2:=f.c2;have i:=q b rfl;have hl:eL k w (aA b) [u] (d+1):= .leaf (by rw[ID k (d+1) d];exact f);obtain g|g:=jQ u.idx d;{have H:Hid (rK k w [u] d (aA b) aB/\S b):=⟨⟨by rw[(MR g).1];exact hl,by rw[(MR g).2];exact .nil _⟩,i⟩;rw[zBs (by omega)]at l;go_enter (Qz.fn func230),ntmps230;go_wp2_with fail;refine E.out.mono ?_;rintro e a ⟨rfl,rfl⟩;go_wp2_with fail;refine l.out.mono ?_;rintro e a ⟨rfl,rfl⟩;go_wp2;go_ret2;exact⟨aA b,aB,rfl,aG rfl,H.out.1,λb e=>by(cases e;exact H.out.2),λb e=>by(cases e)⟩};{have H:Hid (rK k w [u] d aB (aA b)/\S b):=⟨⟨by rw[(MQ g).1];exact .nil _,by rw[(MQ g).2];exact hl⟩,i⟩;rw[zCy g]at l;go_enter (Qz.fn func230),ntmps230;go_wp2_with fail;refine E.out.mono ?_;rintro e a ⟨rfl,rfl⟩;go_wp2_with fail;refine l.out.mono ?_;rintro e a ⟨rfl,rfl⟩;go_wp2;go_ret2;exact⟨aB,aA b,rfl,aG rfl,H.out.1,λb e=>by(cases e),λb e=>by(cases e;exact H.out.2)⟩}
 | @node b _ _ z o t I _ f r v=>
  rw[zBs (by omega)]at m;have D:=f.c0;have k1:=f.c1;have H:Hid (rK k w us d z o/\(∀b,z=aA b->S b)/\∀b,o=aA b->S b):=by obtain⟨A,C,F,B,J,s,n,_,j⟩:=y b (q b rfl);obtain⟨rfl,rfl,_⟩:=gF f n;exact⟨⟨r,v⟩,λc e=>j c (aG e),λc e=>j c (aH e)⟩
  go_enter (Qz.fn func230),ntmps230;go_wp2_with fail;refine m.out.mono ?_;rintro e a ⟨rfl,rfl⟩;go_upto_region 2 with(fail)
  go_region;all_goals go_wp2
  all_goals go_ret2
  all_goals exact⟨z,o,rfl,aH rfl,H.out⟩
end
section
variable {w:zW}{k:Nat}{p:Option Nat}{us:List bS}{I:zB}
def Bl (w:zW)(us:List bS)(I:zB)(e:Ending):Prop:=
 (∃u b g h,u∈us/\u.idx=I/\e=aL (ptr (aA b))/\aX w b aB aB u.idx u.val g h)\/(e=aL (ptr aB)/\∀u∈us,u.idx≠I)
def Ii (h:eL k w p us 0)(R:I.length=32):Calls zq 228 #[ptr p,aK ⟨I.toArray⟩] w λe f=>f=w/\Bl w us I e:=by
 have N:=hid h;have P:Hid (∀d:Nat,d<256->Calls zq 82 #[aK ⟨I.toArray⟩,aC aD d] w λe f=>e=aL (.bool (decide (bZ I d=1)))/\f=w):=λd J=>(kS ⟨I.toArray⟩ d w (by show d/8<I.length;omega) (by show I.length<=_;omega) (by omega)).mono λe f h=>by simpa using h
 go_enter (Qz.fn func228),ntmps228;go_wp2;go_loopg [0,5] 257 (λq c i wr=>∃(d:Nat)(y:Option Nat)(g:List bS),d+q=257/\i=aC aD (d:Int)/\c=ptr y/\wr=w/\eL k w y g d/\(∀u∈g,u∈us)/\∀u∈us,u.idx=I->u∈g);case atStart=>exact⟨0,p,us,rfl,rfl,rfl,rfl,N.out,λ_ h=>h,λ_ h _=>h⟩
 case round=>
  obtain⟨d,y,g,J,rfl,rfl,rfl,r1,r2,r3⟩:=hrel
  cases r1 with
  |nil=>have E:=hid (MH wr);have t:Hid (∀u∈us,u.idx≠I):=λu j e=>by{have:=r3 u j e;simp at this};go_wp2_with fail;refine E.out.mono ?_;rintro e f ⟨rfl,rfl⟩;go_wp2;go_ret;exact⟨rfl,aH ⟨rfl,t.out⟩⟩
  | @leaf b u _ F l=>
   have E:=hid (yE l);have k2:=l.c2;by_cases j:u.idx=I;{have t:Hid (Bl wr us I (aL (ptr (aA b)))):=aG ⟨u,b,_,_,r2 u (by simp),j,rfl,l⟩;rw[j]at k2;go_wp2_with fail;refine E.out.mono ?_;rintro e f ⟨rfl,rfl⟩;go_wp2;go_ret;exact⟨rfl,t.out⟩}
   .have t:Hid (∀u∈us,u.idx≠I):=λx D e=>by
     have:=r3 x D e;rw[zAm]at this;subst this;exact j e
    have G:(u.idx==I)=aF:=by rw[zBw];exact j
    go_wp2_with fail;refine E.out.mono ?_;rintro e f ⟨rfl,rfl⟩;go_wp2;go_ret;exact⟨rfl,aH ⟨rfl,t.out⟩⟩
  | @node b _ _ z o F L s l A B=>
   have E:Hid (Calls zq 225 #[ptr (aA b)] wr λe f=>e=aL (.bool aF)/\f=wr):=(cS.done (eL.node L s l A B) (zAb 0)).ends.mono λe f h=>⟨by rw[h.1,zBs (by omega)],h.2⟩;have Q:=l.c0;have k1:=l.c1;have hi:(d:Int)<256:=by{omega};have H:=P.out d s;have C:Hid (∀a:Nat,bZ I d=a->(∀u∈bK d a g,u∈us)/\∀u∈us,u.idx=I->u∈bK d a g):=λa K=>⟨λu j=>r2 u (zBa.1 j).1,λu j e=>zBa.2 ⟨r3 u j e,by rw[e,K];exact zFd _⟩⟩;have M:=hid A;have O:=hid B;obtain v|v:=jQ I d
   .have n:=C.out 0 v;have m:=hid n;rw[zBs (by omega)]at H;have r:=hid H;go_wp2_with fail;refine E.out.mono ?_;rintro e f ⟨rfl,rfl⟩;go_wp2_with fail;refine r.out.mono ?_;rintro e f ⟨rfl,rfl⟩;go_wp2;go_roundg (257-(d+1));case measure=>omega
    case rel=>
     go_light
     exact⟨d+1,z,_,by omega,by go_num,rfl,rfl,M.out,m.out⟩
   .have n:=C.out 1 v;have m:=hid n;rw[zCy v]at H;have r:=hid H;go_wp2_with fail;refine E.out.mono ?_;rintro e f ⟨rfl,rfl⟩;go_wp2_with fail;refine r.out.mono ?_;rintro e f ⟨rfl,rfl⟩;go_wp2;go_roundg (257-(d+1));case measure=>omega
    case rel=>
     go_light
     exact⟨d+1,o,_,by omega,by go_num,rfl,rfl,O.out,m.out⟩
end
open Go Go.RowKit Sha
section
variable {l cs:List bS}{u:bS}{d b:Nat}{I:zB}
def xH (h:mP l)(u):mP (iP l u):=by have a:gQ (xC (bC l) u):=vO (zDn.2 h);rw[<-xB]at a;exact zDn.1 a
def FR:∀(cs:List bS){l:List bS},mP l->mP (bJ l cs)
 |[],_,h=>h
 |u::cs,_,h=>FR cs (xH h u)
def Lz (c:mP l):bK d b (iP l u)=if bZ u.idx d=b then iP (bK d b l) u else bK d b l:=by
 have k:bK d b (sZ u.idx l)=sZ u.idx (bK d b l):=by unfold bK sZ;rw[zEj,zEj];congr 1;funext x;exact aF4 ..
 have j:bK d b (mF u.idx l)=mF u.idx (bK d b l):=by unfold bK mF;rw[zEj,zEj];congr 1;funext x;exact aF4 ..
 have i:bK d b (iP l u)=sZ u.idx (bK d b l)++(bK d b (if u.gone then []else [UD u])++mF u.idx (bK d b l)):=by rw[<-k,<-j];unfold iP bK;rw[zDh,zDh]
 rw[i];by_cases h:bZ u.idx d=b
 .rw[zAq h];congr 2;cases u.gone with
  |true=>rfl
  |false=>exact zBd (show(bZ u.idx d==b)=aE by rw[h];exact zFd _)
 .rw[zAn h];have g:bK d b (if u.gone then []else [UD u])=[]:=by
   cases u.gone with
   |true=>rfl
   |false=>exact zAs (show¬(bZ u.idx d==b)=aE by rw[zCo];exact h)
  rw[g,zCn];obtain⟨x,a,e⟩|⟨e,_⟩:=yV u.idx (bK d b l) (c.filter _);{exfalso;have f:x∈bK d b l:=by{rw[e];simp};have:=(zBa.1 f).2;rw[a]at this;exact h (zCo.1 this)};{exact e.symm}
def kC:∀(cs:List bS){l:List bS},mP l->bK d b (bJ l cs)=bJ (bK d b l) (bK d b cs)
 |[],_,_=>rfl
 |u::cs,l,a=>by show bK d b (bJ (iP l u) cs)=_;rw[kC cs (xH a u),Lz a];by_cases h:bZ u.idx d=b;{rw[zAq h,show bK d b (u::cs)=u::bK d b cs from zBd (show(bZ u.idx d==b)=aE by rw[h];exact zFd _)];rfl};{rw[zAn h,show bK d b (u::cs)=bK d b cs from zAs (show¬(bZ u.idx d==b)=aE by rw[zCo];exact h)]}
def pQ (l:List bS)(u:bS):Bool:=match fJ (bC l) u.idx with|none=> !u.gone|some v=>u.gone||v !=u.val
def iX (l:List bS)(u:bS):Int:=match fJ (bC l) u.idx with|none=>if u.gone then 0 else 1|some _=>if u.gone then-1 else 0
def kH (l cs:List bS):List bS:=cs.filter (pQ l)
def fL (l cs:List bS):Int:=(cs.map (iX l)).sum
def xZ (l)(u)(I):fJ (bC (iP l u)) I=if u.idx=I then(if u.gone then aB else aA u.val)else fJ (bC l) I:=by rw[xB,get_put]
def vC:∀(cs:List bS)(l:List bS),(∀x∈cs,x.idx≠I)->fJ (bC (bJ l cs)) I=fJ (bC l) I
 |[],_,_=>rfl
 |u::cs,l,h=>by show fJ (bC (bJ (iP l u) cs)) I=_;rw[vC cs _ λx a=>h x (zBh _ a),xZ,zAn (h u (zBk ..))]
def FT {u cs}(h:mP (u::cs)):∀x∈cs,u.idx≠x.idx:=λx a e=>by have:=(zCm.1 h).1 x a;rw[e,eQ]at this;cases this
def tF:∀(cs:List bS)(l:List bS),mP cs->∀u∈cs,fJ (bC (bJ l cs)) u.idx=if u.gone then aB else aA u.val
 |[],_,_,u,hu=>by simp at hu
 |c::cs,l,h,u,hu=>by show fJ (bC (bJ (iP l c) cs)) u.idx=_;obtain rfl|hu:=zAe.1 hu;{rw[vC cs _ λx a e=>FT h x a e.symm,xZ,zAq rfl]};{exact tF cs _ (zCm.1 h).2 u hu}
def Ox (g:mP cs):Diff (kH l cs) (bC (bJ l cs)) (bC l):=λu f=>by
 obtain⟨i,a⟩:=zBa.1 f;rw[tF cs l g u i];unfold pQ at a;cases c:fJ (bC l) u.idx with
 |none=>
  rw[c]at a;cases h:u.gone with
  |true=>rw[h]at a;cases a
  |false=>simp
 |some v=>
  rw[c]at a;cases h:u.gone with
  |true=>simp
  |false=>rw[h]at a;simp at a⊢;exactλe=>a e.symm
def Di (c)(h:c.idx≠u.idx):pQ (iP l c) u=pQ l u/\iX (iP l c) u=iX l u:=by unfold pQ iX;rw[xZ,zAn h];exact⟨rfl,rfl⟩
def Ly (hl:mP l)(hh:∀x∈l,x.gone=aF)(h:pQ l u=aF):iP l u=l:=by
 have k:bC (iP l u)=bC l:=by
  refine AE (zDn.2 (xH hl u)) (zDn.2 hl) λI=> ?_;rw[xZ];by_cases e:u.idx=I
  .rw[zAq e];unfold pQ at h;rw[<-e];cases f:fJ (bC l) u.idx with
   |none=>
    rw[f]at h;cases c:u.gone with
    |true=>rfl
    |false=>rw[c]at h;cases h
   |some v=>
    rw[f]at h;cases c:u.gone with
    |true=>rw[c]at h;cases h
    |false=>rw[c]at h;simp at h;rw[h];rfl
  .rw[zAn e]
 have g:∀{x:List bS},(∀u∈x,u.gone=aF)->x=(bC x).map λe=>⟨e.1,e.2,aF⟩:=λ{x} a=>by
  unfold bC;rw[zEh];conv=>lhs;rw[<-List.map_id x]
  apply zFh;intro u i;have:=a u i;cases u;simp only at this;subst this;rfl
 have j:∀x∈iP l u,x.gone=aF:=λx a=>by
  obtain a|a:=zAg.1 a;{exact hh x (zBa.1 a).1}
  .obtain a|a:=zAg.1 a
   .cases f:u.gone with
    |true=>rw[f]at a;simp at a
    |false=>rw[f]at a;simp at a;rw[a];rfl
   .exact hh x (zBa.1 a).1
 exact(g j).trans ((congrArg _ k).trans (g hh).symm)
def Nr (hh:∀x∈l,x.gone=aF)(u):∀x∈iP l u,x.gone=aF:=λx h=>by
 obtain h|h:=zAg.1 h
 .exact hh x (zBa.1 h).1
 .obtain h|h:=zAg.1 h
  .cases a:u.gone with
   |true=>rw[a]at h;simp at h
   |false=>rw[a]at h;simp at h;rw[h];rfl
  .exact hh x (zBa.1 h).1
def Dj:∀(cs:List bS){l:List bS},mP l->(∀x∈l,x.gone=aF)->mP cs->bJ l (kH l cs)=bJ l cs
 |[],_,_,_,_=>rfl
 |u::cs,l,hl,c,e=>by
  have a:=FT e;have i:=Dj cs (xH hl u) (Nr c u) (zCm.1 e).2;have g:kH (iP l u) cs=kH l cs:=List.filter_congr λx f=>(Di u (a x f)).1;rw[g]at i;show _=bJ (iP l u) cs;rw[<-i];cases h:pQ l u with
  |true=>rw[show kH l (u::cs)=u::kH l cs from zBd h];rfl
  |false=>rw[show kH l (u::cs)=kH l cs from zAs (by rw[h];exact aF5),Ly hl c h]
def Sv (hl:mP l)(u):((iP l u).length:Int)=l.length+iX l u:=by
 unfold iX;obtain⟨x,h,e⟩|⟨e,g⟩:=yV u.idx l hl
 .have a:fJ (bC l) u.idx=aA x.val:=yA (zDn.2 hl) (by rw[<-h];exact zCg.2 ⟨x,by rw[e];simp,rfl⟩);rw[a];have c:=congrArg List.length e;rw[zAi,zAh]at c;unfold iP;rw[zAi,zAi];cases u.gone<;>simp<;>omega
 .have a:fJ (bC l) u.idx=aB:=gV λx h=>by
   obtain⟨y,f,rfl⟩:=zCg.1 h;exact g y f
  rw[a];have c:=congrArg List.length e;rw[zAi]at c;unfold iP;rw[zAi,zAi];cases u.gone<;>simp<;>omega
def TQ:∀(cs:List bS){l:List bS},mP l->mP cs->((bJ l cs).length:Int)=l.length+fL l cs
 |[],l,_,_=>by simp[fL,bJ]
 |u::cs,l,hl,a=>by
  have h:=FT a;have i:=TQ cs (xH hl u) (zCm.1 a).2;have e:fL (iP l u) cs=fL l cs:=by unfold fL;congr 1;exact zFh λx c=>(Di u (h x c)).2
  show((bJ (iP l u) cs).length:Int)=_;rw[i,e,Sv hl u];show _=(l.length:Int)+(iX l u+fL l cs);omega
end
section
variable {w:zW}{d bx:Nat}{cs:List bS}
def Iz (u)(hi:u.idx.length=32)(m:d<256)(k:w.cell? ⟨bx,0,aB⟩=aA (aC aD d))(hl:bx<w.heap.size):
  Calls zq 238 #[Rp u,aN (aA ⟨bx,0,aB⟩)] w λe b=>e=aL (.bool (decide (bZ u.idx d=1)))/\zb w b:=by
 obtain⟨a,f,g⟩:=u;dsimp only at*;have c:Hid (zb w (w.alloc (aI #[aK ⟨a.toArray⟩,aK ⟨f.toArray⟩,.bool g] 53))):=(zGe _ w).alloc (zAb _) _;have j:(w.alloc (aI #[aK ⟨a.toArray⟩,aK ⟨f.toArray⟩,.bool g] 53)).cell? ⟨bx,0,aB⟩=aA (aC aD d):=by rw[c.out.cell hl];exact k
 have l:(w.alloc (aI #[aK ⟨a.toArray⟩,aK ⟨f.toArray⟩,.bool g] 53)).cell? ⟨w.heap.size,0,aB⟩=aA (aK ⟨a.toArray⟩):=(aZ (zGn w _) 0).trans rfl;have H:Hid (∀W,Calls zq 82 #[aK ⟨a.toArray⟩,aC aD d] W λe b=>e=aL (.bool (decide (bZ a d=1)))/\b=W):=λW=>(kS ⟨a.toArray⟩ d W (by show d/8<a.length;omega) (by show a.length<=_;omega) (by omega)).mono λe b h=>by simpa using h
 go_enter (Qz.fn func238),ntmps238;go_upto_region 1 with(fail)
 generalize(w.alloc (aI #[aK ⟨a.toArray⟩,aK ⟨f.toArray⟩,.bool g] 53))=i at*;go_wp2_with fail;refine(H.out i).mono ?_;rintro e b ⟨rfl,rfl⟩;go_wp2;go_ret;exact⟨rfl,c.out⟩
def JV {y cap m}(D:fA w y cs)(hl:cs.length<=1000000)(hi:∀u∈cs,u.idx.length=32)(K:d<256)(z:w.cell? ⟨bx,0,aB⟩=aA (aC aD d))(C:bx<w.heap.size)(s:Cut cs d m):
  Calls zq 237 #[aJ y cs.length cap,.func (.func 238) #[] #[aN (aA ⟨bx,0,aB⟩)]] w λe f=>e=aL (aC aD (if m<cs.length then(m)else-1))/\zb w f:=by
 have M:=hid D;have p:=hid s;have v:Hid (∀(t:Nat) u,cs[t]? =aA u->∀W,zb w W->Calls zq 238 #[Rp u,aN (aA ⟨bx,0,aB⟩)] W λe f=>e=aL (.bool (decide (bZ u.idx d=1)))/\zb w f):=λt u c W j=>(Iz u (hi u (zDb c)) K (by rw[j.cell C];exact z) (zAc C j.size)).mono λe f h=>⟨h.1,j.trans (h.2.mono j.size)⟩;obtain⟨n,r⟩:∃n,n=cs.length:=⟨_,rfl⟩;have L:=hid r;have G:=s.le;rw[<-r]at hl G⊢;clear D s hi z r;go_enter (Qz.fn func237),ntmps237;go_wp2;go_loopg [8] n (λq i wr=>∃t:Nat,t+q=n/\i=aC aD (t:Int)/\t<=m/\zb w wr);case atStart=>exact⟨0,by omega,rfl,by omega,zGe _ _⟩
 case round=>
  obtain⟨t,Q,rfl,E,k⟩:=hrel
  have x:=hid k
  by_cases bW:t<n
  .have c:=zAf (l:=cs) (i:=t) (by have:=L.out;omega);have H:=hid (v.out t _ c wr x.out);have H0:Hid (t<m->bZ cs[t].idx d=0):=λh=>p.out.zero t _ h c;have H1:Hid (m<=t->bZ cs[t].idx d=1):=λh=>p.out.one t _ h c;obtain⟨g,o,rfl,R,c0,c1,c2⟩:=(M.out.below x.out (zAb _)).idx t _ c;generalize cs[t]=u at*;obtain⟨O,N,P⟩:=u;dsimp only at*;have J:¬((t:Int)<0):=by{omega};have I:(t:Int)<(n:Int):=by{omega};by_cases A:m<=t;{obtain rfl:t=m:=by{omega};have b:=H1.out (zAb _);rw[zCy b]at H;clear b k v H0 H1 c p;go_wp2_with fail;refine H.out.mono ?_;rintro e w2 ⟨rfl,a⟩;have B:=hid a;clear a;go_wp2;go_ret;exact⟨rfl,B.out⟩}
   .have b:=H0.out (by omega);rw[zBs (by omega)]at H;clear b k v H0 H1 c p;go_wp2_with fail;refine H.out.mono ?_;rintro e w2 ⟨rfl,a⟩;have B:=hid a;clear a;go_wp2;go_roundg (n-(t+1));case measure=>omega
    case rel=>
     go_light
     exact⟨t+1,by omega,by go_num,by omega,B.out⟩
  .have F:¬(t:Int)<(n:Int):=by{omega};clear k;go_wp2;go_ret;exact⟨rfl,x.out⟩
def SU {v cap m}(i:fA w v cs)(hl:cs.length<=1000000)(hi:∀u∈cs,u.idx.length=32)(g:d<256)(f:Cut cs d m):
  Calls zq 231 #[aJ v cs.length cap,aC aD d] w λe c=>e=aL (aC aD (m))/\zb w c:=by
 have b:zb w (w.alloc (aI #[aC aD d] 3)):=(zGe _ w).alloc (zAb _) _;have H:Hid (Calls zq 237 #[aJ v cs.length cap,.func (.func 238) #[] #[aN (aA ⟨w.heap.size,0,aB⟩)]] (w.alloc (aI #[aC aD d] 3)) λe c=>e=aL (aC aD (if m<cs.length then(m:Int)else-1))/\zb w c):=by refine(JV (i.below b (zAb _)) hl hi g ((aZ (zGn w _) 0).trans rfl) (by rw[size_alloc];omega) f).mono λe c h=>⟨h.1,b.trans (h.2.mono b.size)⟩
 have j:=f.le;by_cases bW:m<cs.length
 .rw[zAq bW]at H;have k:¬(m:Int)<0:=by{omega};go_enter (Qz.fn func231),ntmps231;go_wp2_with fail;refine H.out.mono ?_;rintro e w2 ⟨rfl,a⟩;have B:=hid a;go_wp2;go_ret;exact⟨rfl,B.out⟩
 .rw[zAn bW]at H;obtain rfl:m=cs.length:=by{omega};go_enter (Qz.fn func231),ntmps231;go_wp2_with fail;refine H.out.mono ?_;rintro e w2 ⟨rfl,a⟩;have B:=hid a;go_wp2;go_ret;exact⟨rfl,B.out⟩
end
section
variable {w w1 w':zW}{t k d:Nat}{x0 x1 x2 x3 x4:zY}{c:Int}{p:Option Nat}{S:zP}{us cs:List bS}
def fA.hl {m}(h:fA w m cs)(s:Hl t w w')(A:∀a,m=aA a->a.block≠t):fA w' m cs:=λx=>by
 obtain⟨g,o,e,r,D⟩:=h x;obtain⟨u,y⟩:∃u,cs[0]? =aA u:=⟨_,zAf x⟩;obtain⟨f,n,l,_,_,_,k2⟩:=h.idx 0 u y;have F:f=g/\n=o:=by rw[e]at l;injection l with l;injection l with G a2 _;exact⟨G.symm,a2.symm⟩
 obtain⟨rfl,rfl⟩:=F;have E:w'.heap[f]? =w.heap[f]? :=s.block f r (A _ e) λz o i v g B b=>by obtain⟨fr,b⟩:=b.at';rw[aZ b]at k2;have q:Value.bool u.gone∈(mH z o i v g B).toList:=by{rw[zDt];exact zBf k2};simp only[mH,zAe,zAo,zCa]at q;obtain h|h|h|h|h|h:=q;{cases z<;>cases h};{cases o<;>cases h};all_goals cases h
 refine⟨f,n,e,zAc r s.size,λj u C=> ?_⟩;rw[World.cell?_of_block (a:=⟨f,n+j,aB⟩) E];exact D j u C
def Grown (k t:Nat)(S:zP)(us cs:List bS)(d:Nat)(x0 x1 x2 x3 x4:zY)(c:Int)(W:zW)(e:Ending)(w':zW):Prop:=
 ∃a rows f,e=aL (ptr a)/\cS k w' a (bJ us cs) d W.heap.size w'.heap.size rows/\Grow t S f W w'/\(∀b,a=aA b->f b)/\dJ w' t x0 x1 x2 x3 x4 (c+rows.length)/\rows.length<=mC (bC (bJ us cs)) (bC us) d
structure kG (k t:Nat)(S:zP)(p:Option Nat)(us cs:List bS)(d:Nat)(x0 x1 x2 x3 x4:zY)(c:Int)(W:zW):Prop where
 k1:1<=k
 k2:k<=32
 rep:eL k W p us d
 OK:mP us
 Xk:mP cs
 here:∀u∈us,u.gone=aF
 CB:∀u∈us,u.idx.length=32
 Xo:∀u∈cs,u.idx.length=32/\u.val.length<=100
 bits:∀a∈us++cs,∀b∈us++cs,∀i,i<d->bZ a.idx i=bZ b.idx i
 diff:Diff cs (bC (bJ us cs)) (bC us)
 cells:CS W S
 vy:∀b,p=aA b->S b
 at':dJ W t x0 x1 x2 x3 x4 c
 lo: -4611686018427387904<=c
 hi:c+mC (bC (bJ us cs)) (bC us) d<=4611686018427387904
def Grow.below {B}(h:CS w S)(a:Below B w w')(b:w.heap.size<=B):Grow t S S w w':=⟨Hl.below a b,h.hl (t:=t) (Hl.below a b),λ_ h=>h,λ_ h=>aG h⟩
def ZX (h:kG k t S p us [] d x0 x1 x2 x3 x4 c w):Grown k t S us [] d x0 x1 x2 x3 x4 c w (aL (ptr p)) w:=
 ⟨p,[],S,rfl,.done h.rep (zAb _),.refl h.cells,h.vy,by simpa using h.at',zBr _⟩
def Cp {u}(h:us=[]\/∃x,us=[x]/\x.idx=u.idx):bJ us [u]=if u.gone then []else [UD u]:=by
 show iP us u=_;obtain rfl|⟨x,rfl,a⟩:=h
 .unfold iP sZ mF;simp
 .have e:sZ u.idx [x]=[]:=zAs (by rw[a,eQ];decide);have b:mF u.idx [x]=[]:=zAs (by rw[a,eQ];decide);unfold iP;rw[e,b];simp
def ZV {u}(h:kG k t S p us [u] d x0 x1 x2 x3 x4 c w)(f:us=[]\/∃x,us=[x]/\x.idx=u.idx)(g:u.gone=aE)(a:zb w w'):Grown k t S us [u] d x0 x1 x2 x3 x4 c w (aL (ptr aB)) w':=by refine⟨aB,[],S,rfl,?_,.below h.cells a (zAb _),λb e=>(by cases e),by simpa using h.at'.below a (zAb _),zBr _⟩;rw[Cp f,zAq g];exact .done (.nil d) a.size
def ZW {u b}(h:kG k t S p us [u] d x0 x1 x2 x3 x4 c w)(n:us=[]\/∃x,us=[x]/\x.idx=u.idx)(o:u.gone=aF)(m:zb w w1)(i:IS w1 w' b aB aB u.idx u.val)(s:Hl t w1 w')(r:dJ w' t x0 x1 x2 x3 x4 (c+1))(j:b<w'.heap.size):Grown k t S us [u] d x0 x1 x2 x3 x4 c w (aL (ptr (aA b))) w':=by obtain⟨v,q⟩:=i.cell;have a:=zAw m.size i.lo;have f:=(Hl.below m (zAb _)).trans s;have e:=Cp n;rw[o]at e;have e:=e;refine⟨aA b,_,λx=>S x\/x=b,rfl,by rw[e];exact .leaf a j q,⟨f,(h.cells.hl f).add i (λc e=>by cases e) (λc e=>by cases e),λx g=>aG g,λx g=>g.imp id λe=>by subst e;exact a⟩,λx e=>by cases e;exact aH rfl,by simpa using r,?_⟩;rw[e];have l:=h.diff;rw[e]at l;exact Hc (zDn.2 h.OK) l (zAm.2 rfl) rfl
def kG.deep (h:kG k t S p us cs d x0 x1 x2 x3 x4 c w)(o:d<=256)(l:0<cs.length)(j:∀u,cs=[u]->us≠[]/\∀x,us=[x]->x.idx≠u.idx):d<256:=by
 have two:∀a∈us++cs,∀b∈us++cs,a.idx≠b.idx->d<256:=λa f b e g=>by
  obtain x|x:=zDf d 256;{exact x}
  .refine absurd (Dx ?_ ?_ λi hi=>h.bits a f b e i (by omega)) g
   .obtain f|f:=zAg.1 f
    .exact h.CB a f
    .exact(h.Xo a f).1
   .obtain e|e:=zAg.1 e
    .exact h.CB b e
    .exact(h.Xo b e).1
 match cs,l with
 |[u],_=>
  obtain⟨n,m⟩:=j u rfl;match us,n with
  |[x],_=>exact two x (by simp) u (by simp) (m x rfl)
  |x::y::us,_=>exact two x (by simp) y (by simp) (FT h.OK y (by simp))
 |u::v::cs,_=>exact two u (by simp) v (by simp) (FT h.Xk v (by simp))
def TO (us)(a)(d)(hl:us.length<=1)(e:d<256):mC (bC (bK d 0 us)) (cV a d 0) (d+1)+mC (bC (bK d 1 us)) (cV a d 1) (d+1)<=mC (bC us) a d:=by
 have h:=oE us d;have b:fM (256-(d+1)) (bC (bK d 0 us)) (cV a d 0) (d+1)=0:=by have:=sU (256-(d+1)) (bC (bK d 0 us)) (cV a d 0) (d+1);rw[gN,show(bK d 0 us).length-1=0 by omega]at this;omega
 have n:fM (256-(d+1)) (bC (bK d 1 us)) (cV a d 1) (d+1)=0:=by have:=sU (256-(d+1)) (bC (bK d 1 us)) (cV a d 1) (d+1);rw[gN,show(bK d 1 us).length-1=0 by omega]at this;omega
 unfold mC;rw[b,n,eU,eU];have:=sV (bC us) a d;omega
def AI (h:kG k t S p us cs d x0 x1 x2 x3 x4 c w)(e:0<cs.length)(b:d<256):(if 2<=(bJ us cs).length then 1 else 0)+(mC (bC (bJ (bK d 0 us) (bK d 0 cs))) (bC (bK d 0 us)) (d+1)+mC (bC (bJ (bK d 1 us) (bK d 1 cs))) (bC (bK d 1 us)) (d+1))<=mC (bC (bJ us cs)) (bC us) d:=by
 rw[<-kC cs h.OK,<-kC cs h.OK,eU us d 0,eU us d 1];by_cases a:2<=(bJ us cs).length
 .rw[zAq a,<-Gz h.diff a e b];exact zAb _
 .rw[zAn a,zAx];exact TO _ _ d (by omega) b
def kG.half (h:kG k t S p us cs d x0 x1 x2 x3 x4 c w)(b){j S1 c1}(m:eL k w1 j (bK d b us) (d+1))(q:CS w1 S1)(n:∀b,j=aA b->S1 b)(o:dJ w1 t x0 x1 x2 x3 x4 c1)(s: -4611686018427387904<=c1)(r:c1+mC (bC (bJ (bK d b us) (bK d b cs))) (bC (bK d b us)) (d+1)<=4611686018427387904):kG k t S1 j (bK d b us) (bK d b cs) (d+1) x0 x1 x2 x3 x4 c1 w1:=by
 refine⟨h.k1,h.k2,m,h.OK.filter _,h.Xk.filter _,λu g=>h.here u (zBa.1 g).1,λu g=>h.CB u (zBa.1 g).1,λu g=>h.Xo u (zBa.1 g).1,λx a y l i hi=> ?_,?_,q,n,o,s,r⟩
 .have f:∀x∈bK d b us++bK d b cs,x∈us++cs/\bZ x.idx d=b:=λx a=>by
   obtain a|a:=zAg.1 a;{exact⟨zAg.2 (aG (zBa.1 a).1),zCo.1 (zBa.1 a).2⟩};{exact⟨zAg.2 (aH (zBa.1 a).1),zCo.1 (zBa.1 a).2⟩}
  by_cases e:i=d;{subst e;exact(f x a).2.trans (f y l).2.symm};{exact h.bits x (f x a).1 y (f y l).1 i (by omega)}
 .have:=h.diff.half d b;rw[<-eU,<-eU,kC cs h.OK]at this;exact this
end
def tj (k t:Nat)(S:zP)(us cs:List bS)(d:Nat)(x0 x1 x2 x3 x4:zY)(c:Int)(w:zW)(p0:Option Nat)(w0:zW):Prop:=
 ∃m r0 S0,w.heap.size<=m/\cS k w0 p0 (bJ (bK d 0 us) (bK d 0 cs)) (d+1) m w0.heap.size r0/\Grow t S S0 w w0/\(∀b,p0=aA b->S0 b)/\dJ w0 t x0 x1 x2 x3 x4 (c+r0.length)/\r0.length<=mC (bC (bJ (bK d 0 us) (bK d 0 cs))) (bC (bK d 0 us)) (d+1)
def Zi (k t:Nat)(S:zP)(us cs:List bS)(d:Nat)(x0 x1 x2 x3 x4:zY)(c:Int)(w:zW)(p0 p1:Option Nat)(w1:zW):Prop:=
 ∃m m1 r0 r1 S1,w.heap.size<=m/\m1<=w1.heap.size/\cS k w1 p0 (bJ (bK d 0 us) (bK d 0 cs)) (d+1) m m1 r0/\cS k w1 p1 (bJ (bK d 1 us) (bK d 1 cs)) (d+1) m1 w1.heap.size r1/\Grow t S S1 w w1/\(∀b,p0=aA b->S1 b)/\(∀b,p1=aA b->S1 b)/\dJ w1 t x0 x1 x2 x3 x4 (c+(r0.length+r1.length:Nat))/\r0.length<=mC (bC (bJ (bK d 0 us) (bK d 0 cs))) (bC (bK d 0 us)) (d+1)/\r1.length<=mC (bC (bJ (bK d 1 us) (bK d 1 cs))) (bC (bK d 1 us)) (d+1)
section
variable {w wa w0 w1 w':zW}{t k d:Nat}{x0 x1 x2 x3 x4:zY}{c:Int}{p p0 p1 z o:Option Nat}{S:zP}{us cs:List bS}{e:Ending}
def Xr (h:kG k t S p us cs d x0 x1 x2 x3 x4 c w)(a:zb w wa)(g:Grown k t S (bK d 0 us) (bK d 0 cs) (d+1) x0 x1 x2 x3 x4 c wa e w0):∃p0,e=aL (ptr p0)/\tj k t S us cs d x0 x1 x2 x3 x4 c w p0 w0:=by obtain⟨p0,r0,S0,m,l,j,i,f,b⟩:=g;exact⟨p0,m,wa.heap.size,r0,S0,a.size,l,(Grow.below h.cells a (zAb _)).trans j,i,f,b⟩
def Bf (h:kG k t S p us cs d x0 x1 x2 x3 x4 c w)(l:0<cs.length)(j:d<256)(a:zb w wa)(i:rK k w us d z o)(g:∀b,z=aA b->S b):kG k t S z (bK d 0 us) (bK d 0 cs) (d+1) x0 x1 x2 x3 x4 c wa:=by have m:=AI h l j;have hi:=h.hi;have f:Hl t w wa:=Hl.below a (zAb _);exact h.half 0 (i.z.hl h.k1 h.k2 f) (h.cells.hl f) g (h.at'.below a (zAb _)) h.lo (by omega)
def Jb (h:kG k t S p us cs d x0 x1 x2 x3 x4 c w)(r:0<cs.length)(q:d<256)(j:rK k w us d z o)(i:∀b,o=aA b->S b)(l:tj k t S us cs d x0 x1 x2 x3 x4 c w p0 w0):
  ∃S0 c0,kG k t S0 o (bK d 1 us) (bK d 1 cs) (d+1) x0 x1 x2 x3 x4 c0 w0/\∀e w1,Grown k t S0 (bK d 1 us) (bK d 1 cs) (d+1) x0 x1 x2 x3 x4 c0 w0 e w1->∃p1,e=aL (ptr p1)/\Zi k t S us cs d x0 x1 x2 x3 x4 c w p0 p1 w1:=by
 obtain⟨m,r0,S0,y,x,a,v,u,s⟩:=l;have D:=AI h r q;have hi:=h.hi;have n:=h.lo;refine⟨S0,c+r0.length,h.half 1 (j.o.hl h.k1 h.k2 a.hl) a.cs (λb e=>a.old b (i b e)) u (by omega) (by omega),λe w1 g=> ?_⟩;obtain⟨p1,r1,S1,C,B,f,A,g4,g5⟩:=g;exact⟨p1,C,m,w0.heap.size,r0,r1,S1,y,f.hl.size,x.hl h.k1 h.k2 f.hl,B,a.trans f,λb e=>f.old b (v b e),A,by rw[show c+((r0.length+r1.length:Nat):Int)=c+r0.length+r1.length by omega];exact g4,s,g5⟩
def ZN (h:kG k t S p us cs d x0 x1 x2 x3 x4 c w)(M:0<cs.length)(L:d<256)(I:Zi k t S us cs d x0 x1 x2 x3 x4 c w p0 p1 w1):
  Calls zq 232 #[aN (aA ⟨t,0,aB⟩),ptr p0,ptr p1] w1 λe w'=>∃j,e=aL (ptr j)/\Grown k t S us cs d x0 x1 x2 x3 x4 c w (aL (ptr j)) w':=by
 obtain⟨m,m1,r0,r1,S1,X,h2,V,U,v,T,R,Q,h9,W⟩:=I;have hn:=AI h M L;have hi:=h.hi;have J:=h.lo;have P:Sub (bJ us cs) d:=by
  have g:∀x∈bJ us cs,∃y∈us++cs,x.idx=y.idx:=by
   have:∀(cs l:List bS),∀x∈bJ l cs,∃y∈l++cs,x.idx=y.idx:=by
    intro cs;induction cs with
    |nil=>intro l x q;exact⟨x,zAg.2 (aG q),rfl⟩
    |cons u cs G=>
     intro l x q;obtain⟨y,f,e⟩:=G (iP l u) x q;obtain f|f:=zAg.1 f
     .obtain f|f:=zAg.1 f
      .exact⟨y,zAg.2 (aG (zBa.1 f).1),e⟩
      .obtain f|f:=zAg.1 f
       .refine⟨u,by simp,e.trans ?_⟩;cases s:u.gone with
        |true=>rw[s]at f;simp at f
        |false=>rw[s]at f;simp at f;rw[f];rfl
       .exact⟨y,zAg.2 (aG (zBa.1 f).1),e⟩
     .exact⟨y,zAg.2 (aH (zBh _ f)),e⟩
   exact this cs us
  refine⟨FR cs h.OK,λu H=> ?_,λa O b N i hi=> ?_⟩
  .obtain⟨y,f,e⟩:=g u H;rw[e];obtain f|f:=zAg.1 f
   .exact h.CB y f
   .exact(h.Xo y f).1
  .obtain⟨y,f,e⟩:=g a O;obtain⟨A,n,r⟩:=g b N;rw[e,r];exact h.bits y f A n i hi
 have q0:=kC (d:=d) (b:=0) cs h.OK;have B:=kC (d:=d) (b:=1) cs h.OK;refine(Hr h.k1 h.k2 (by rw[q0];exact V) (by rw[B];exact U) P v.cs T R Q (by omega) (by omega)).mono λe w' K=> ?_;obtain⟨j,rows,Y,r,F,E,D,C,Z⟩:=K;refine⟨j,r,j,rows,Y,rfl,F.wide X (zAb _),v.trans E,D,?_,by omega⟩;rw[show c+(rows.length:Int)=c+((r0.length+r1.length:Nat):Int)+((rows.length:Int)-(r0.length+r1.length:Nat)) by omega];exact C
end
section
variable {w:zW}{t k d cap:Nat}{x0 x1 x2 x3 x4:zY}{c:Int}{p:Option Nat}{S:zP}{us cs:List bS}{va:zO}
def UK (h:kG k t S p us [] d x0 x1 x2 x3 x4 c w):Calls zq 223 #[aN (aA ⟨t,0,aB⟩),ptr p,aC aD d,aJ va 0 cap] w (Grown k t S us [] d x0 x1 x2 x3 x4 c w):=by have H:=hid (ZX h);generalize Grown k t S us [] d x0 x1 x2 x3 x4 c w=J at*;go_enter (Qz.fn func223),ntmps223;go_wp2;exact H.out
def VA {u cs}(a:fA w va (u::cs)):∃g o,va=aA ⟨g,o,aB⟩/\g<w.heap.size/\w.cell? ⟨g,o,aB⟩=aA (aK ⟨u.idx.toArray⟩)/\w.cell? ⟨g,o+1,aB⟩=aA (aK ⟨u.val.toArray⟩)/\w.cell? ⟨g,o+2,aB⟩=aA (.bool u.gone):=by obtain⟨g,o,e,h,c0,c1,c2⟩:=a.idx 0 u rfl;rw[zFk,Nat.add_zero]at c0 c1 c2;exact⟨g,o,e,h,c0,c1,c2⟩
def UJ {u}(h:kG k t S p us [u] d x0 x1 x2 x3 x4 c w)(A:us=[]\/∃x,us=[x]/\x.idx=u.idx)(Q:fA w va [u]):Calls zq 223 #[aN (aA ⟨t,0,aB⟩),ptr p,aC aD d,aJ va 1 cap] w (Grown k t S us [u] d x0 x1 x2 x3 x4 c w):=by
 obtain⟨g,o,rfl,y,c0,c1,c2⟩:=VA Q;have N:=h.Xo u (zAm.2 rfl);have I:Hid (u.gone=aE->∀W,zb w W->Grown k t S us [u] d x0 x1 x2 x3 x4 c w (aL (ptr aB)) W):=λy W q=>ZV h A y q;have K:Hid (u.gone=aF->∀W,zb w W->Calls zq 229 #[aN (aA ⟨t,0,aB⟩),Rp u] W λe l=>∃b,e=aL (ptr (aA b))/\Grown k t S us [u] d x0 x1 x2 x3 x4 c w (aL (ptr (aA b))) l):=λy W q=>by have O:=h.lo;have hi:=h.hi;refine(Hm u (by omega) (by omega) (h.at'.below q (zAb _)) h.lo (by omega)).mono λe l V=> ?_;obtain⟨b,F,U,D,T,R⟩:=V;exact⟨b,F,ZW h A y q U D T R⟩
 have M:p=aB\/∃b g B,p=aA b/\aX w b aB aB u.idx ((us.headD ⟨[],[],aF⟩).val) g B:=by
  obtain rfl|⟨x,rfl,L⟩:=A;{exact aG (h.rep.iH.2 rfl)}
  .cases h.rep with
   |leaf v=>exact aH ⟨_,_,_,rfl,by rw[<-L];exact v⟩
   |node D=>simp at D
 have H:Hid (zb w (w.alloc (aI #[aK ⟨u.idx.toArray⟩,aK ⟨u.val.toArray⟩,.bool u.gone] 53))):=(zGe _ w).alloc (zAb _) _;have i:(w.alloc (aI #[aK ⟨u.idx.toArray⟩,aK ⟨u.val.toArray⟩,.bool u.gone] 53)).heap[w.heap.size]? =aA (aI #[aK ⟨u.idx.toArray⟩,aK ⟨u.val.toArray⟩,.bool u.gone] 53 (0,0)):=zGn w _;generalize Grown k t S us [u] d x0 x1 x2 x3 x4 c w=J at*;have a:Hid (∀W n,zb w W->zb w (W.drewN n)):=λW n h=>⟨h.os,h.tape,h.output,h.size,h.block⟩;obtain rfl|⟨b,X,B,rfl,v⟩:=M
 .obtain⟨s,r,z⟩:=u;dsimp only at*;cases z with
  |true=>
   go_enter (Qz.fn func223),ntmps223;go_upto_region 4 with(fail)
   have E:=(aZ i 2).trans rfl;generalize(w.alloc (aI #[aK ⟨s.toArray⟩,aK ⟨r.toArray⟩,.bool aE] 53))=f at*;go_quiet (fail);go_wp2;exact I.out (by first|trivial|rfl) _ (a.out _ _ H.out)
  |false=>
   go_enter (Qz.fn func223),ntmps223;go_upto_region 4 with(fail)
   have G:=(aZ i 0).trans rfl;have F:=(aZ i 1).trans rfl;have E:=(aZ i 2).trans rfl;generalize(w.alloc (aI #[aK ⟨s.toArray⟩,aK ⟨r.toArray⟩,.bool aF] 53))=f at*;go_quiet (fail);go_wp2_with fail;refine(K.out (by first|trivial|rfl) _ (a.out _ _ H.out)).mono ?_;rintro e l ⟨b,rfl,C⟩;go_wp2;exact C
 .have j:Hid (∀W,zb w W->aX W b aB aB u.idx ((us.headD ⟨[],[],aF⟩).val) X B):=λW q=>⟨by rw[q.block b v.lt];exact v.at'⟩;generalize(us.headD ⟨[],[],aF⟩).val=Y at*;have P:=v.lt;obtain⟨s,r,z⟩:=u;dsimp only at*;cases z with
  |true=>
   go_enter (Qz.fn func223),ntmps223;go_upto_region 4 with(fail)
   have G:=(aZ i 0).trans rfl;have E:=(aZ i 2).trans rfl;generalize(w.alloc (aI #[aK ⟨s.toArray⟩,aK ⟨r.toArray⟩,.bool aE] 53))=f at*;have k2:=(j.out f H.out).c2;have m:Hid (∀n,Calls zq 227 #[ptr (aA b)] (f.drewN n) λe l=>e=aL (.bool aE)/\l=f.drewN n):=λn=>lG (j.out _ (a.out _ n H.out));go_quiet ((go_at_call 227;exact zGq (m.out _)));go_wp2;exact I.out (by first|trivial|rfl) _ (a.out _ _ H.out)
  |false=>
   go_enter (Qz.fn func223),ntmps223;go_upto_region 4 with(fail)
   have G:=(aZ i 0).trans rfl;have F:=(aZ i 1).trans rfl;have E:=(aZ i 2).trans rfl;generalize(w.alloc (aI #[aK ⟨s.toArray⟩,aK ⟨r.toArray⟩,.bool aF] 53))=f at*;have k2:=(j.out f H.out).c2;have m:Hid (∀n,Calls zq 227 #[ptr (aA b)] (f.drewN n) λe l=>e=aL (.bool aE)/\l=f.drewN n):=λn=>lG (j.out _ (a.out _ n H.out));go_quiet ((go_at_call 227;exact zGq (m.out _)));go_wp2_with fail;refine(K.out (by first|trivial|rfl) _ (a.out _ _ H.out)).mono ?_;rintro e l ⟨b,rfl,C⟩;go_wp2;exact C
end
section
variable {w W:zW}{t k d cap n m g o:Nat}{p z:Option Nat}{S:zP}{us:List bS}{J:Ending->zW->Prop}
def SO (A:CS w S)(y:zb w W)(h:eL k W z us d)(D:∀b,z=aA b->S b):eL k w z us d:=by
 refine h.stay (λb z o i v g x l j c e=> ?_) (λb z o i v g x l j=> ?_) D
 .obtain⟨q,s,u,r,C,a,f,_,B⟩:=A b l;have E:aX W b q s u r C a:=⟨by rw[y.block b f.lt];exact f.at'⟩;obtain⟨rfl,rfl,_⟩:=gF j E;exact B c e
 .obtain⟨q,s,u,r,C,a,f,_,B⟩:=A b l;exact⟨x,⟨by rw[<-y.block b f.lt];exact j.at'⟩⟩
def Ec (w:zW)(p:Option Nat)(n:Nat)(I:zB):Prop:=
 2<=n\/(n=1/\∃b z o i v g h,p=aA b/\aX w b z o i v g h/\((z.isNone&&o.isNone)=aF\/(z=aB/\o=aB/\i≠I)))
def Ia {Ha:zY->zY->Prop}{M1:zR}{M2:zY->zR}{x D:zB}{E}
  {vb Y cb} (G:(cap=m/\Y=0/\cb=0/\vb=aA ⟨g,o,aB⟩)\/(cap≠m/\Y=n-m/\cb=cap-m/\vb=aA ⟨g,o+m*3,aB⟩)) (hd:d<256) (hn:n<=1000000) (hm:m<=n) (dH:n<=cap) (hN:Ec w p n x) (hg:g<w.heap.size) (c0:w.cell? ⟨g,o,aB⟩=aA (aK ⟨x.toArray⟩)) (c1:w.cell? ⟨g,o+1,aB⟩=aA (aK ⟨D.toArray⟩)) (c2:w.cell? ⟨g,o+2,aB⟩=aA (.bool E))
  (hP:∀W,zb w W->Calls zq 230 #[ptr p,aC aD d] W λe w'=>∃z o,e=aL (.tuple #[z,o])/\zb w w'/\Ha z o)
  (hQ:∀W,zb w W->Calls zq 231 #[aJ (aA ⟨g,o,aB⟩) n cap,aC aD d] W λe w'=>e=aL (aC aD (m))/\zb w w')
  (hZ:∀z R,Ha z R->∀W,zb w W->Calls zq 223 #[aN (aA ⟨t,0,aB⟩),z,aC aD ((d)+1),aJ (aA ⟨g,o,aB⟩) m cap] W λe w'=>∃p0,e=aL p0/\M1 p0 w')
  (hO:∀z R,Ha z R->∀p0 W,M1 p0 W->Calls zq 223 #[aN (aA ⟨t,0,aB⟩),R,aC aD ((d)+1),aJ vb Y cb] W λe w'=>∃A,e=aL A/\M2 p0 A w')
  (hJ:∀p0 A W,M2 p0 A W->Calls zq 232 #[aN (aA ⟨t,0,aB⟩),p0,A] W λe w'=>∃p',e=aL p'/\J (aL p') w'):
  Calls zq 223 #[aN (aA ⟨t,0,aB⟩),ptr p,aC aD d,aJ (aA ⟨g,o,aB⟩) n cap] w J:=by
 have U:=hid hP;have T:=hid hQ;have HZ:=hid hZ;have HO:=hid hO;have HJ:=hid hJ;have H:Hid (zb w (w.alloc (aI #[aK ⟨x.toArray⟩,aK ⟨D.toArray⟩,.bool E] 53))):=(zGe _ w).alloc (zAb _) _;have Z:(w.alloc (aI #[aK ⟨x.toArray⟩,aK ⟨D.toArray⟩,.bool E] 53)).heap[w.heap.size]? =aA (aI #[aK ⟨x.toArray⟩,aK ⟨D.toArray⟩,.bool E] 53 (0,0)):=zGn w _;have j:Hid (∀W n,zb w W->zb w (W.drewN n)):=λW n h=>⟨h.os,h.tape,h.output,h.size,h.block⟩;have s:Hid (∀W,zb w W->zb w W.drew):=λW h=>h.drew;have wc:IntKind.i64.wrap ((d:Int)+1)=(d:Int)+1:=by rw[zGj];omega
 have qi:¬((m:Int)<0):=by omega
 have hm1:(m:Int)<=(n:Int):=by omega
 have kp:(m:Int)<=(cap:Int):=by omega
 have xo:(0:Int)<(n:Int):=by obtain h|⟨h,_⟩:=hN<;>omega
 have H3:∃(B:Prop),(2<=n/\B=True)\/(n=1/\∃b i v,∃q:Bool,p=aA b/\(∀W,zb w W->Calls zq 227 #[ptr p] W λe w'=>e=aL (.bool q)/\w'=W)/\(∀W,zb w W->W.cell? ⟨b,2,aB⟩=aA (aK ⟨(i:zB).toArray⟩))/\(q=aF\/(q=aE/\(i==x)=aF))/\v=b):=by
  refine⟨True,?_⟩;obtain h|⟨h,b,z,o1,i,v,gg,hs,rfl,hc,F⟩:=hN;{exact aG ⟨h,rfl⟩}
  .have hC:∀W,zb w W->aX W b z o1 i v gg hs:=λW N=>⟨by rw[N.block b hc.lt];exact hc.at'⟩;refine aH ⟨h,b,i,b,z.isNone&&o1.isNone,rfl,λW N=>lG (hC W N),λW N=>(hC W N).c2,?_,rfl⟩;obtain F|⟨rfl,rfl,F⟩:=F
   .exact aG F
   .exact aH ⟨rfl,zBw.2 F⟩
 obtain⟨B,H3⟩:=H3;obtain⟨h,-⟩|⟨rfl,b,i,v,q,rfl,K,L,hq,-⟩:=H3
 .have km:=zBs (by omega);have aBp:decide (n=1)=aF:=zBs (by omega);have aBo:((n:Int)==1)=aF:=zBw.2 (by omega);have aBn:(n==1)=aF:=zBw.2 (by omega);obtain⟨rfl,rfl,rfl,rfl⟩|⟨hcm,rfl,rfl,rfl⟩:=G;all_goals
   go_enter (Qz.fn func223),ntmps223
   go_upto_region 4 with(fail)
   clear Z c0 c1 c2
   generalize(w.alloc (aI #[aK ⟨x.toArray⟩,aK ⟨D.toArray⟩,.bool E] 53))=u at*
   go_quiet (fail)
   have f:=j.out u nq H.out
   generalize u.drewN nq=V at*
   have l:=hid f
   clear f H j
   go_wp2_with fail
   refine(U.out V l.out).mono ?_
   rintro e w2 ⟨z,X,rfl,c,M⟩
   have Q:=hid M
   have r:=hid c
   clear c M U l
   go_wp2_with fail
   refine(T.out w2 r.out).mono ?_
   rintro e w3 ⟨rfl,a⟩
   have C:Hid (zb w w3.drew):=s.out _ a
   clear a T r s
   go_upto_region 10 with(fail)
   go_region_with (first
    |(go_at_call_of 223 z;refine(HZ.out _ _ Q.out _ C.out).mono ?_;rintro e w4 ⟨p0,rfl,m1⟩;dsimp only)
    |(go_at_call_of 223 X;refine(HO.out _ _ Q.out _ _ m1).mono ?_;rintro e w5 ⟨A,rfl,m2⟩;dsimp only)
    |(go_at_call 232;refine(HJ.out _ _ _ m2).mono ?_;rintro e w6 ⟨p2,rfl,I⟩;dsimp only))
   all_goals go_wp2
   all_goals first|exact I|(go_ret;exact I)
 .have O:=hid K;have P:=hid L;clear K L;obtain rfl|⟨rfl,hi⟩:=hq;all_goals obtain⟨rfl,rfl,rfl,rfl⟩|⟨hcm,rfl,rfl,rfl⟩:=G
  all_goals
   go_enter (Qz.fn func223),ntmps223
   go_upto_region 4 with(fail)
   have e0:=(aZ Z 0).trans rfl
   clear Z c0 c1 c2
   generalize(w.alloc (aI #[aK ⟨x.toArray⟩,aK ⟨D.toArray⟩,.bool E] 53))=u at*
   have k2:=P.out u H.out
   have y:Hid (∀n,Calls zq 227 #[ptr (aA b)] (u.drewN n) λe w'=>e=aL (.bool _)/\w'=u.drewN n):=λn=>O.out _ (j.out _ n H.out)
   clear O P
   go_quiet ((go_at_call 227;exact zGq (y.out _)))
   clear y k2 e0
   have f:=j.out u nq H.out
   generalize u.drewN nq=V at*
   have l:=hid f
   clear f H j
   go_wp2_with fail
   refine(U.out V l.out).mono ?_
   rintro e w2 ⟨z,X,rfl,c,M⟩
   have Q:=hid M
   have r:=hid c
   clear c M U l
   go_wp2_with fail
   refine(T.out w2 r.out).mono ?_
   rintro e w3 ⟨rfl,a⟩
   have C:Hid (zb w w3.drew):=s.out _ a
   clear a T r s
   go_upto_region 10 with(fail)
   go_region_with (first
    |(go_at_call_of 223 z;refine(HZ.out _ _ Q.out _ C.out).mono ?_;rintro e w4 ⟨p0,rfl,m1⟩;dsimp only)
    |(go_at_call_of 223 X;refine(HO.out _ _ Q.out _ _ m1).mono ?_;rintro e w5 ⟨A,rfl,m2⟩;dsimp only)
    |(go_at_call 232;refine(HJ.out _ _ _ m2).mono ?_;rintro e w6 ⟨p2,rfl,I⟩;dsimp only))
   all_goals go_wp2
   all_goals first|exact I|(go_ret;exact I)
end
section
variable {k t:Nat}{x0 x1 x2 x3 x4:zY}
def Mo {S p us cs u d c w}(h:kG k t S p us (u::cs) d x0 x1 x2 x3 x4 c w)(i:∀v,u::cs=[v]->us≠[]/\∀x,us=[x]->x.idx≠v.idx):Ec w p (u::cs).length u.idx:=by
 cases cs with
 |cons v cs=>exact aG (by simp)
 |nil=>
  obtain⟨l,j⟩:=i u rfl;refine aH ⟨rfl,?_⟩;cases h.rep with
  |nil=>exact absurd rfl l
  |leaf a=>exact⟨_,_,_,_,_,_,_,rfl,a,aH ⟨rfl,rfl,j _ rfl⟩⟩
  | @node b _ _ z o m g2 _ a f g=>
   refine⟨_,_,_,_,_,_,_,rfl,a,aG ?_⟩;have hl:=oE us d;have e:=f.iH;have n:=g.iH;cases z with
   |some _=>rfl
   |none=>
    cases o with
    |some _=>rfl
    |none=>rw[e.1 rfl,n.1 rfl]at hl;simp at hl;omega
def Nv:∀(f){d cap us cs p S c w I},256-d=f->d<=256->kG k t S p us cs d x0 x1 x2 x3 x4 c w->fA w I cs->(∀a,I=aA a->a.block≠t)->cs.length<=1000000->cs.length<=cap->
  Calls zq 223 #[aN (aA ⟨t,0,aB⟩),ptr p,aC aD d,aJ I cs.length cap] w (Grown k t S us cs d x0 x1 x2 x3 x4 c w):=by
 intro f;induction f with
 |zero=>
  intro d cap us cs p S c w I hf hd h y T hl l;match cs,h,y,hl,l with
  |[],h,_,_,_=>exact UK h
  |u::cs,h,y,_,_=>
   by_cases j:cs=[]/\(us=[]\/∃x,us=[x]/\x.idx=u.idx);{obtain⟨rfl,hu⟩:=j;exact UJ h hu y}
   .exfalso;have:=h.deep hd (by simp) λv e=>by
     injection e with H O;subst H;exact⟨λe=>j ⟨O,aG e⟩,λx ex C=>j ⟨O,aH ⟨x,ex,C⟩⟩⟩
    omega
 |succ f ih=>
  intro d cap us cs p S c w I hf hd h y T hl l;match cs,h,y,hl,l with
  |[],h,_,_,_=>exact UK h
  |u::cs,h,y,hl,l=>
   by_cases j:cs=[]/\(us=[]\/∃x,us=[x]/\x.idx=u.idx);{obtain⟨rfl,hu⟩:=j;exact UJ h hu y}
   .have B:∀v,u::cs=[v]->us≠[]/\∀x,us=[x]->x.idx≠v.idx:=λv e=>by
     injection e with H O;subst H;exact⟨λe=>j ⟨O,aG e⟩,λx ex C=>j ⟨O,aH ⟨x,ex,C⟩⟩⟩
    have U:0<(u::cs).length:=by{simp};have n:=h.deep hd U B;have hN:=Mo h B;obtain⟨g,o,rfl,hg,c0,c1,c2⟩:=VA y;have xv:=T _ rfl;have hSC:Sub (u::cs) d:=⟨h.Xk,λx C=>(h.Xo x C).1,λa ha b hb i hi=>h.bits a (zAg.2 (aH ha)) b (zAg.2 (aH hb)) i hi⟩;obtain⟨m,hcut,e0,H⟩:=hSC.cut;have hmn:=hcut.le;have l0:(bK d 0 (u::cs)).length=m:=by{rw[<-e0,zBj];omega};have l1:(bK d 1 (u::cs)).length=(u::cs).length-m:=by{rw[<-H,zCh]};have s:(((d+1:Nat)):Int)=(d:Int)+1:=by omega
    obtain⟨Q,R,V,r⟩:∃Q R V,(cap=m/\R=0/\V=0/\Q=aA (⟨g,o,aB⟩:Addr))\/(cap≠m/\R=(u::cs).length-m/\V=cap-m/\Q=aA (⟨g,o+m*3,aB⟩:Addr)):=by by_cases e:cap=m;{exact⟨_,_,_,aG ⟨e,rfl,rfl,rfl⟩⟩};{exact⟨_,_,_,aH ⟨e,rfl,rfl,rfl⟩⟩}
    refine Ia (Ha:=λX Y=>∃z o,X=ptr z/\Y=ptr o/\rK k w us d z o/\(∀b,z=aA b->S b)/\∀b,o=aA b->S b) (M1:=λv W=>∃p0,v=ptr p0/\tj k t S us (u::cs) d x0 x1 x2 x3 x4 c w p0 W) (M2:=λv v' W=>∃p0 L,v=ptr p0/\v'=ptr L/\Zi k t S us (u::cs) d x0 x1 x2 x3 x4 c w p0 L W) r n hl hmn l hN hg c0 c1 c2 (λW q=> ?_) (λW q=> ?_) (λX Y F W q=> ?_) (λX Y F v0 W hM=> ?_) (λv0 v1 W hM=> ?_)
    .have F:Hl t w W:=Hl.below q (zAb _);refine(SV (h.rep.hl h.k1 h.k2 F) n h.CB (h.cells.hl F) h.vy).mono λe P A=> ?_;obtain⟨z,Z,D,hw,G,J,K⟩:=A;refine⟨_,_,D,?_,z,Z,rfl,rfl,⟨SO h.cells q G.z J,SO h.cells q G.o K⟩,J,K⟩;obtain rfl|rfl:=hw
     .exact q
     .exact q.drew
    .exact(SU (y.below q (zAb _)) hl (λx C=>(h.Xo x C).1) n hcut).mono λe P A=>⟨A.1,q.trans (A.2.mono q.size)⟩
    .obtain⟨z,Z,rfl,rfl,G,J,K⟩:=F;have hE0:fA W (aA ⟨g,o,aB⟩) (bK d 0 (u::cs)):=by{rw[<-e0];exact(y.below q (zAb _)).part m};have:=ih (cap:=cap) (by omega) (by omega) (Bf h U n q G J) hE0 T (by omega) (by omega);rw[l0,s]at this;refine this.mono λe P A=> ?_;obtain⟨p0,D,E⟩:=Xr h q A;exact⟨_,D,p0,rfl,E⟩
    .obtain⟨z,Z,rfl,rfl,G,J,K⟩:=F;obtain⟨p0,rfl,E⟩:=hM;obtain⟨S0,c0',N,M⟩:=Jb h U n G K E;have xt:Hl t w W:=by obtain⟨_,_,_,_,_,hG,_⟩:=E;exact hG.hl
     have sn:fA W Q (bK d 1 (u::cs)):=by rw[<-H];refine(y.hl xt T).rest m λbW=> ?_;obtain⟨hv,_,_,_⟩|⟨_,_,_,rfl⟩:=r;{omega};{rw[zBe,addr_add]}
     have:=ih (cap:=V) (by omega) (by omega) N sn (λa ha=>by
      obtain⟨_,_,_,rfl⟩|⟨_,_,_,rfl⟩:=r<;>(cases ha;exact xv)) (by omega) (by
      obtain⟨hv,_,rfl,_⟩|⟨_,_,rfl,_⟩:=r<;>omega)
     have hlb:(u::cs).length-m=R:=by obtain⟨hv,rfl,_,_⟩|⟨_,rfl,_,_⟩:=r<;>omega
     rw[l1,hlb,s]at this;refine this.mono λe P A=> ?_;obtain⟨L,D,kp⟩:=M _ _ A;exact⟨_,D,p0,L,rfl,rfl,kp⟩
    .obtain⟨p0,L,rfl,rfl,E⟩:=hM;refine(ZN h U n E).mono λe P A=> ?_;obtain⟨p',D,hG⟩:=A;exact⟨_,D,hG⟩
end
def dE.Yt {w base v l}(h:dE w base v l):∃d c,v=aJ d l.length c/\l.length<=c/\fA w d l:=by
 obtain⟨rfl,m⟩|⟨g,cap,cur,rfl,hb,e,i,r,o,f⟩:=h.2
 .exact⟨aB,0,by rw[m],by omega,λh=>by omega⟩
 .refine⟨aA ⟨g,0,aB⟩,cap,rfl,i,λ_=>⟨g,0,rfl,(zAa.1 e).1,λj u a=> ?_⟩⟩;rw[zAx,zGv w g j cur 53 (0,0) e];rw[<-f,zCs]at a;split at a
  .rw[<-zBp];exact a
  .cases a
structure Gw (k t b cap n:Nat)(C:zP)(cur:zA)(R x4 c:Int)(NX:List bS)(S:List (List bS))(rows:List (Nat×ByteArray))(lo hi:Nat)(p:Option Nat)(w W:zW):Prop where
 mem:kJ k t b cap n C cur R x4 c W
 rep:cS k W p NX 0 lo hi rows
 Cz:∀b,p=aA b->C b
 hl:Hl t w W
 Wt:QM k W cur S
structure Gd (k t b cap n:Nat)(C:zP)(cur:zA)(R x4 c:Int)(NX:List bS)(S:List (List bS))(p:Option Nat)(b0:Nat)(w W:zW):Prop where
 mem:kJ k t b cap n C cur R x4 c W
 rep:eL k W p NX 0
 Cz:∀b,p=aA b->C b
 save:dN (jD w t b0) w W
 Wt:QM k W cur S
section
variable {k t b cap n lo hi room:Nat}{C C':zP}{cur:zA}{R x4 c c':Int}{NX last cs:List bS}{S:List (List bS)}{rows:List (Nat×ByteArray)}{p q:Option Nat}{w W W':zW}
def Gw.next (e:1<=k)(d:k<=32)(f:zq.globals.size<t)(h:Gw k t b cap n C cur R x4 c NX S rows lo hi p w W)(a:Hl t W W')(g:dJ W' t (aC aD k) (aC aD R) (aK ⟨(dg k [0]).toArray⟩) (aJ (aA ⟨b,0,aB⟩) n cap) (aC aD x4) c'):Gw k t b cap n C cur R x4 c' NX S rows lo hi p w W':=
 ⟨h.mem.hl a f g (h.mem.cs.hl a),h.rep.hl e d a,h.Cz,h.hl.trans a,h.Wt.hl e d a⟩
def Gw.below (f:1<=k)(e:k<=32)(d:zq.globals.size<t)(h:Gw k t b cap n C cur R x4 c NX S rows lo hi p w W)(a:zb W W'):Gw k t b cap n C cur R x4 c NX S rows lo hi p w W':=
 h.next f e d (.below a (zAb _)) (h.mem.tr.below a (zAb _))
def Gd.next {d:Nat}(f:1<=k)(e:k<=32)(g:zq.globals.size<t)(h:Gd k t b cap n C cur R x4 c NX S p d w W)(a:Hl t W W')(i:dJ W' t (aC aD k) (aC aD R) (aK ⟨(dg k [0]).toArray⟩) (aJ (aA ⟨b,0,aB⟩) n cap) (aC aD x4) c'):Gd k t b cap n C cur R x4 c' NX S p d w W':=
 ⟨h.mem.hl a g i (h.mem.cs.hl a),h.rep.hl f e a,h.Cz,h.save.step (b':=d) (.hl a) (aG rfl),h.Wt.hl f e a⟩
def Gd.below {d:Nat}(g:1<=k)(f:k<=32)(e:zq.globals.size<t)(h:Gd k t b cap n C cur R x4 c NX S p d w W)(a:zb W W'):Gd k t b cap n C cur R x4 c NX S p d w W':=
 h.next g f e (.below a (zAb _)) (h.mem.tr.below a (zAb _))
def gb (m:1<=k)(l:k<=32)(H:zq.globals.size<t)(J:kJ k t b cap n C cur R x4 c w)(D:QM k w cur S)(L:eL k w q last 0)(M:∀b,q=aA b->C b)(h:JC last)(z:∀u∈cs,u.idx.length=32/\u.val.length<=100)(s:mP cs)(hl:cs.length<=1000)(B: -4611686018427387904<=c)(A:c+mC (bC (bJ last cs)) (bC last) 0<=4611686018427387904)
  (I:zb w W) {v} (G:dE W w.heap.size v (kH last cs)):
  Calls zq 223 #[aN (aA ⟨t,0,aB⟩),ptr q,aC aD 0,v] W λe W'=>∃F p rows C' hi,e=aL F/\F=ptr p/\Gw k t b cap n C' cur R x4 (c+rows.length) (bJ last cs) S rows W.heap.size hi p w W'/\rows.length<=mC (bC (bJ last cs)) (bC last) 0/\∀x,C x->C' x:=by
 obtain⟨K,P,rfl,y,O⟩:=G.Yt;have f:=J.below I (zAb _) H;have E:Hl t w W:= .below I (zAb _);have d:=Dj cs h.sub.order h.here s;have g:∀u∈kH last cs,u∈cs:=λu r=>(zBa.1 r).1;have j:kG k t C q last (kH last cs) 0 (aC aD k) (aC aD R) (aK ⟨(dg k [0]).toArray⟩) (aJ (aA ⟨b,0,aB⟩) n cap) (aC aD x4) c W:=
  ⟨m,l,L.hl m l E,h.sub.order,s.filter _,h.here,h.sub.idx,λu r=>z u (g u r),λa _ b _ i hi=>absurd hi (Nat.not_lt_zero _),by rw[d];exact Ox s,f.cs,M,f.tr,B,by rw[d];exact A⟩
 have o:∀a,K=aA a->a.block≠t:=λa N e=>by subst N;have:=G.lt a.block rfl;have:=J.tr.lt;omega
 have hlen:(kH last cs).length<=cs.length:=zFo ..;refine(Nv 256 rfl (zBr _) j O o (by omega) y).mono ?_;rintro e W' ⟨p,rows,C',rfl,g1,g2,g3,g4,g5⟩;rw[d]at g1 g5;refine⟨_,p,rows,C',W'.heap.size,rfl,rfl,⟨f.hl g2.hl H g4 g2.cs,g1,g3,E.trans g2.hl,(D.hl m l E).hl m l g2.hl⟩,g5,g2.old⟩
def Gw.hold (f:1<=k)(d:k<=32)(a:zq.globals.size<t)(h:Gw k t b cap n C cur R x4 c NX S rows lo hi p w W):Calls zq 222 #[ptr p] W λe W'=>e=aL (ptr p)/\Gw k t b cap n C cur R x4 c NX S rows lo hi p w W':=
 (xW (h.mem.cs.cells h.Cz) h.mem.tr).mono λ_ _ ⟨e,g1,g2,_⟩=>⟨e,h.next f d a g1 g2⟩
def Gd.hold {a:Nat}(g:1<=k)(f:k<=32)(d:zq.globals.size<t)(h:Gd k t b cap n C cur R x4 c NX S p a w W):Calls zq 222 #[ptr p] W λe W'=>e=aL (ptr p)/\Gd k t b cap n C cur R x4 c NX S p a w W':=
 (xW (h.mem.cs.cells h.Cz) h.mem.tr).mono λ_ _ ⟨e,g1,g2,_⟩=>⟨e,h.next g f d g1 g2⟩
def Gw.work (D:1<=k)(B:k<=32)(A:zq.globals.size<t)(l:zq.globals.size<b)(s:CS w C')(j:∀x,C' x->C x)(d:∀x∈cur.toList,oM C' x)(I:w.heap.size<=lo)(F:∀u∈NX,u.idx.length=32/\u.val.length<=100)(m:rows.length<=1000000)(h:Gw k t b cap n C cur R x4 c NX S rows lo hi p w W):
  Calls zq 224 #[aN (aA ⟨t,0,aB⟩),ptr p] W λe W'=>(e=aL (.tuple #[])/\Gd k t b cap n C cur R x4 c NX S p b w W')\/∃ch,e= .panicked ch/\rT k t (Il t b C) NX ch W'/\Gw k t b cap n C cur R x4 c NX S rows lo hi p w W':=by
 have f:∀x∈cur.toList,oM C x:=λx g=>by obtain⟨p,e,H⟩:=d x g;exact⟨p,e,λb l=>j b (H b l)⟩
 have K:=h.mem.zh D B A l f;refine(QR K h.rep (λb l=>aH (aH (aH (h.Cz b l)))) F m).mono ?_;rintro e W' (⟨rfl,g1,g2⟩|⟨ch,rfl,g1,g2⟩)
 .left;have a:∀x∈rows,eM W x.1:=λx g=>by
   obtain⟨_,_,z,o,i,v,G,J⟩:=h.rep.each.1 x g;exact⟨z,o,i,v,[],G,J⟩
  have r:=s.hl h.hl;refine⟨rfl,h.mem.Uf g2 A a,g1,h.Cz,(dN.hl h.hl).step (.Uf g2 a) (aG rfl),h.Wt.kept r d λx g=>g2.block x (r.cell g).lt λy E e=> ?_⟩;have M:=(h.rep.each.1 y E).1;have L:=(s.cell g).lt;omega
 .exact aH ⟨ch,rfl,g1,h.below D B A g2⟩
def Gw.told {u}(v:1<=k)(s:k<=32)(o:zq.globals.size<t)(D:zq.globals.size<b)(a:∀x∈cur.toList,oM C x)(y:∀u∈NX,u.idx.length=32/\u.val.length<=100)(hl:NX.length<=400)(B: -4611686018427387904<=c-102800)(f:c<=4611686018427387904){ch}(E:rT k t (Il t b C) NX ch W)(h:Gw k t b cap n C cur R x4 c NX S rows lo hi p w W):
  CallsD zq 219 #[aN (aA ⟨t,0,aB⟩),ptr p] u W λe l W'=>l=u/\e=aL (.tuple #[])/\lD ch W':=by
 obtain⟨m,A,d⟩:=h.rep.UN h.mem.cs h.Cz (zBr _);have z:257*NX.length<=102800:=by omega
 have r:=d;refine(GB A u W _ _ _ _ _ c .refl h.mem.tr (by omega) f).mono ?_;rintro e l W' ⟨rfl,rfl,j,c',g,_,_⟩;have i:=h.mem.hl j o g (h.mem.cs.hl j);exact⟨rfl,rfl,(E.hl v s j h.mem.tr).gl (i.zh v s o D a) y⟩
def Gd.leave {R:Nat}{s cap u}(r:1<=k)(o:k<=32)(j:zq.globals.size<t)(z:zq.globals.size<b)(a:∀x∈cur.toList,oM C x)(hl:NX.length<=400)(G:S.length<1000)(H:S.length+1<=cap)(D:cap<=maxLen)(B:cur.size=cap)(I:c+room<=R)(d3:R<=1000000)(d4: -(1000000*((R)-room))+102800<=c)(st:∀us∈S++[NX],JC us/\us.length<=400)(h:Gd k t b cap (S.length+1) C cur R NX.length c NX (S++[NX]) p s w W):
  CallsD zq 219 #[aN (aA ⟨t,0,aB⟩),ptr p] u W λe i W'=>i=u/\e=aL (.tuple #[])/\dA W' t k room b cap (S++[NX])/\dN (jD w t s) w W':=by
 obtain⟨m,y,d⟩:=h.rep.UN h.mem.cs h.Cz (zBr _);have v:257*NX.length<=102800:=by omega
 have l:=d;refine(GB y u W _ _ _ _ _ c .refl h.mem.tr (by omega) (by omega)).mono ?_;rintro e i W' ⟨rfl,rfl,A,c',f,F,E⟩;have g:=h.next r o j A f;have hlen:(S++[NX]).length=S.length+1:=by rw[zAi];rfl
 refine⟨rfl,rfl,kJ.JY (c:=c') ?_ a g.Wt (by omega) D B (by omega) d3 (by omega) r o j z st (by omega) (by omega),g.save⟩;rw[GF,hlen];exact g.mem
end
section
variable {w:zW}{k:Nat}{p:Option Nat}{us cs:List bS}
def Ov (us cs:List bS)(t)(h:t<cs.length):kH us (cs.take (t+1))=kH us (cs.take t)++(if pQ us cs[t]then [cs[t]]else []):=by
 unfold kH;rw[zCp h,zDh];congr 1;cases e:pQ us cs[t]with
 |true=>rw[zBd e];rfl
 |false=>rw[zAs (by rw[e];exact aF5)];rfl
def He (us cs:List bS)(t)(h:t<cs.length):fL us (cs.take (t+1))=fL us (cs.take t)+iX us cs[t]:=by unfold fL;rw[zCp h,zDi,List.sum_append];simp
def Mq (us)(u): -1<=iX us u/\iX us u<=1:=by unfold iX;cases fJ (bC us) u.idx<;>cases u.gone<;>simp
def TR (us:List bS):∀cs:List bS,-(cs.length:Int)<=fL us cs/\fL us cs<=cs.length
 |[]=>by simp[fL]
 |u::cs=>by have a:=TR us cs;have h:=Mq us u;have e:fL us (u::cs)=iX us u+fL us cs:=rfl;rw[e,zAh];omega
def Ie (n:mP us){I e}(h:Bl w us I e):(e=aL (ptr aB)/\fJ (bC us) I=aB)\/∃b i v g a,e=aL (ptr (aA b))/\aX w b aB aB i v g a/\fJ (bC us) I=aA v:=by
 obtain⟨u,b,g,a,j,hi,c,m⟩|⟨c,l⟩:=h
 .exact aH ⟨b,_,_,g,a,c,m,yA (zDn.2 n) (by rw[<-hi];exact zCg.2 ⟨u,j,rfl⟩)⟩
 .refine aG ⟨c,gV λx f=> ?_⟩;obtain⟨y,d,rfl⟩:=zCg.1 f;exact l y d
end
section
variable {w:zW}{k:Nat}{p:Option Nat}{us cs:List bS}
def KB {Z cap}(h:eL k w p us 0)(X:1<=k)(V:k<=32)(hU:mP us)(hE:fA w Z cs)(hi:∀u∈cs,u.idx.length=32)(hl:cs.length<=1000):
  Calls zq 221 #[ptr p,aJ Z cs.length cap] w λe B=>∃v,e=aL (.tuple #[v,aC aD (fL us cs)])/\dE B w.heap.size v (kH us cs)/\zb w B:=by
 have HE:=hid hE;have HF:Hid (∀u∈cs,∀W,zb w W->Calls zq 228 #[ptr p,aK ⟨u.idx.toArray⟩] W λe B=>B=W/\((e=aL (ptr aB)/\fJ (bC us) u.idx=aB)\/∃b v,e=aL (ptr (aA b))/\W.cell? ⟨b,3,aB⟩=aA (aK ⟨v.toArray⟩)/\fJ (bC us) u.idx=aA v)):=λu N W hW=>by refine(Ii (h.keep X V λb z o i v g hs _ hc=>⟨hs,⟨by rw[hW.block b hc.lt];exact hc.at'⟩⟩) (hi u N)).mono λe B h'=>⟨h'.1,?_⟩;obtain⟨Q,C⟩|⟨b,i,v,g,hs,Q,C,h3⟩:=Ie hU h'.2;{exact aG ⟨Q,C⟩};{exact aH ⟨b,v,Q,C.c3,h3⟩}
 have HL:Hid (∀t,-(1000:Int)<=fL us (cs.take t)/\fL us (cs.take t)<=1000):=λt=>by have:=TR us (cs.take t);have C:(cs.take t).length<=cs.length:=by{rw[zBj];omega};omega
 obtain⟨n,U⟩:∃n,n=cs.length:=⟨_,rfl⟩;have S:=hid U;have HT:Hid (fL us (cs.take cs.length)=fL us cs/\kH us (cs.take cs.length)=kH us cs):=by rw[List.take_length];exact⟨rfl,rfl⟩
 rw[<-U]at hl⊢;clear U hE hi h hU;go_enter (Qz.fn func221),ntmps221;go_wp2;go_loopg [6,7,13] n (λq x y i wr=>∃t:Nat,t+q=n/\i=aC aD (t:Int)/\y=aC aD (fL us (cs.take t))/\zb w wr/\dE wr w.heap.size x (kH us (cs.take t)));case atStart=>exact⟨0,by omega,rfl,rfl,zGe _ _,dE.nil _ _⟩
 case round=>
  obtain⟨t,ht,rfl,rfl,b2,o2⟩:=hrel
  have K:=hid b2
  have R:=hid o2
  by_cases bW:t<n
  .have r:t<cs.length:=by have:=S.out;omega
   have N:=zAf r;have c:=hid (Ov us cs t r);have H:=hid (He us cs t r);have J:=HF.out cs[t] (zCx _);have E:(kH us (cs.take t)).length<=1000000:=by have Q:=zFo (pQ us) (cs.take t);have C:(cs.take t).length<=cs.length:=by{rw[zBj];omega};have h3:=S.out;show(List.filter _ _).length<=_;omega
   have HM0:=HL.out t;generalize cs[t]=u at*;obtain⟨d,f,I⟩:=u;dsimp only at*;generalize fL us (cs.take t)=M at*;generalize kH us (cs.take t)=L at*;have Y:=hid J;obtain⟨g,o,rfl,hg,c0,c1,c2⟩:=(HE.out.below K.out (zAb _)).idx t _ N;have Np:¬((t:Int)<0):=by{omega};have Vg:(t:Int)<(n:Int):=by{omega};clear J HF N HL;have ox:wrap64 (M+1)=M+1:=by{unfold wrap64;omega};have hw2:wrap64 (M-1)=M-1:=by{unfold wrap64;omega};go_upto_region 6 with(fail)
   have P:=zGn wr (aI #[aK ⟨d.toArray⟩,aK ⟨f.toArray⟩,.bool I] 53);have G:Hid (zb w (wr.alloc (aI #[aK ⟨d.toArray⟩,aK ⟨f.toArray⟩,.bool I] 53))):=K.out.alloc K.out.size _;have O:Hid (dE (wr.alloc (aI #[aK ⟨d.toArray⟩,aK ⟨f.toArray⟩,.bool I] 53)) w.heap.size u6 L):=R.out.alloc _;have e0:=(aZ P 0).trans rfl;have e1:=(aZ P 1).trans rfl;have e2:=(aZ P 2).trans rfl;clear P K R c0 c1 c2;generalize(wr.alloc (aI #[aK ⟨d.toArray⟩,aK ⟨f.toArray⟩,.bool I] 53))=wa at*;have m:=G.out.size;have F:Hid (∀W n,zb w W->zb w (W.drewN n)):=λW n h=>⟨h.os,h.tape,h.output,h.size,h.block⟩;go_wp2_with fail;refine(Y.out wa G.out).mono ?_;rintro e w2 ⟨rfl,⟨rfl,a⟩|⟨b,v,rfl,k3,a⟩⟩
   .cases I with
    |true=>
     have A:Hid (fL us (cs.take (t+1))=M):=by{have:=H.out;rw[show iX us ⟨d,f,aE⟩=0 by unfold iX;dsimp only;rw[a];rfl]at this;exact this.trans (by omega)};have j:Hid (kH us (cs.take (t+1))=L):=by{have:=c.out;rw[show pQ us ⟨d,f,aE⟩=aF by unfold pQ;dsimp only;rw[a];rfl]at this;exact this.trans (by simp)};clear c H a;go_upto_region 11 with(fail)
     go_quiet (fail);go_wp2;go_roundg (n-(t+1));case measure=>omega
     case rel=>
      go_light
      exact⟨t+1,by omega,by go_num,by rw[A.out],F.out _ _ G.out,by rw[j.out];exact dE.kept O.out λ_ _=>rfl⟩
    |false=>
     have A:Hid (fL us (cs.take (t+1))=M+1):=by{have:=H.out;rw[show iX us ⟨d,f,aF⟩=1 by unfold iX;dsimp only;rw[a];rfl]at this;exact this};have j:Hid (kH us (cs.take (t+1))=L++[⟨d,f,aF⟩]):=by{have:=c.out;rw[show pQ us ⟨d,f,aF⟩=aE by unfold pQ;dsimp only;rw[a];rfl]at this;exact this};clear c H a;go_wp2_with (first|(at_builtin;refine jZ rfl _ _ rfl w.heap.size _ _ rfl O.out ⟨d,f,aF⟩ 1 rfl E m ?_;intro g' D B l s));go_roundg (n-(t+1));case measure=>omega
     case rel=>
      go_light
      exact⟨t+1,by omega,by go_num,by rw[A.out],eZ G.out O.out s (zAb _) m,by rw[j.out];exact l⟩
   .cases I with
    |true=>
     have A:Hid (fL us (cs.take (t+1))=M-1):=by{have:=H.out;rw[show iX us ⟨d,f,aE⟩= -1 by unfold iX;dsimp only;rw[a];rfl]at this;exact this.trans (by omega)};have j:Hid (kH us (cs.take (t+1))=L++[⟨d,f,aE⟩]):=by{have:=c.out;rw[show pQ us ⟨d,f,aE⟩=aE by unfold pQ;dsimp only;rw[a];rfl]at this;exact this.trans (by simp)};clear c H a;go_wp2_with (first|(at_builtin;refine jZ rfl _ _ rfl w.heap.size _ _ rfl O.out ⟨d,f,aE⟩ 1 rfl E m ?_;intro g' D B l s));go_roundg (n-(t+1));case measure=>omega
     case rel=>
      go_light
      exact⟨t+1,by omega,by go_num,by rw[A.out],eZ G.out O.out s (zAb _) m,by rw[j.out];exact l⟩
    |false=>
     by_cases T:v=f
     .subst T;have A:Hid (fL us (cs.take (t+1))=M):=by{have:=H.out;rw[show iX us ⟨d,v,aF⟩=0 by unfold iX;dsimp only;rw[a];rfl]at this;exact this.trans (by omega)};have j:Hid (kH us (cs.take (t+1))=L):=by{have:=c.out;rw[show pQ us ⟨d,v,aF⟩=aF by unfold pQ;dsimp only;rw[a];simp]at this;exact this.trans (by simp)};clear c H a;go_upto_region 11 with(fail)
      go_quiet (fail);go_wp2;go_roundg (n-(t+1));case measure=>omega
      case rel=>
       go_light
       exact⟨t+1,by omega,by go_num,by rw[A.out],F.out _ _ G.out,by rw[j.out];exact dE.kept O.out λ_ _=>rfl⟩
     .have Rg:=zBw.2 T;have A:Hid (fL us (cs.take (t+1))=M):=by{have:=H.out;rw[show iX us ⟨d,f,aF⟩=0 by unfold iX;dsimp only;rw[a];rfl]at this;exact this.trans (by omega)};have j:Hid (kH us (cs.take (t+1))=L++[⟨d,f,aF⟩]):=by{have:=c.out;rw[show pQ us ⟨d,f,aF⟩=aE by unfold pQ;dsimp only;rw[a];simpa using T]at this;exact this.trans (by simp)};clear c H a;go_upto_region 11 with(fail)
      go_quiet (fail);go_wp2_with (first|(at_builtin;refine jZ rfl _ _ rfl w.heap.size _ _ rfl (dE.kept O.out λ_ _=>rfl) ⟨d,f,aF⟩ 1 rfl E m ?_;intro g' D B l s));go_roundg (n-(t+1));case measure=>omega
      case rel=>
       go_light
       exact⟨t+1,by omega,by go_num,by rw[A.out],eZ (F.out _ _ G.out) (dE.kept O.out λ_ _=>rfl) s (zAb _) m,by rw[j.out];exact l⟩
  .have dt:¬(t:Int)<(n:Int):=by{omega};obtain rfl:t=n:=by{omega};have e1:fL us (cs.take t)=fL us cs:=by{have:=HT.out.1;rw[<-S.out]at this;exact this};have O3:Hid (dE wr w.heap.size u6 (kH us cs)):=by{have:=HT.out.2;rw[<-S.out]at this;have C:=R.out;rw[this]at C;exact C};rw[e1];clear R;go_wp2;go_ret2;exact⟨_,rfl,O3.out,K.out⟩
end
def dE.lower {w base a v l}(h:dE w base v l)(d:a<=base):dE w a v l:=by
 refine⟨h.1,?_⟩;obtain h|⟨g,c,cur,e,f,r⟩:=h.2
 .exact aG h
 .exact aH ⟨g,c,cur,e,zAw d f,r⟩
section
variable {w:zW}{t k room nw b cap:Nat}
def Mp (last cs)(vc)(cc)(S0)(h:dA w t k (room+nw+1) b cap (S0++[last]))(hl:(S0++[last]).length<1000)(hE:fA w vc cs)(m:∀u∈cs,u.idx.length=32/\u.val.length<=100)(ho:mP cs)(xu:cs.length<=1000)(h4:(bJ last cs).length<=400)(hnw:mC (bC (bJ last cs)) (bC last) 0<=nw):
  Calls zq 215 #[aN (aA ⟨t,0,aB⟩),aJ vc cs.length cc] w (RF λx X=>x=aC aD 0/\∃D a,dA X t k room D a (S0++[last]++[bJ last cs])/\(D=b\/w.heap.size<=D)/\dN (jD w t b) w X):=by
 obtain⟨C,j,R,c,hM,P,Z,g1,g2,g3,g4,g5,g6⟩:=h.mem;have L:(S0++[last])[S0.length]? =aA last:=by rw[zCu (zAb _),Nat.sub_self];rfl
 have z:=h.st last (by simp);obtain⟨p,Zv,hr⟩:=Z S0.length last L;have hp:=OI P Zv;have Q:=h.k1;have O:=h.k2;have J:=h.EG;have hb:=h.PS;have hn:(S0++[last]).length=S0.length+1:=by rw[zAi];rfl
 have ee:oY (S0++[last])=last:=GF _ _;rw[ee]at hM;have Yj:=z.1.cY m;have r:=TQ cs z.1.sub.order ho;have aj:Hid (∀us∈S0++[last]++[bJ last cs],JC us/\us.length<=400):=λus V=>by obtain V|V:=zAg.1 V;{exact h.st us V};{rw[zAm.1 V];exact⟨Yj,h4⟩}
 have tu:Hid (∀u∈bJ last cs,u.idx.length=32/\u.val.length<=100):=λu V=>⟨Yj.sub.idx u V,Yj.val u V⟩;have hrR:(R:Int)<=1000000:=by omega
 have HF:Hid (∀W,zb w W->Calls zq 221 #[ptr p,aJ vc cs.length cc] W λe X=>∃v,e=aL (.tuple #[v,aC aD (fL last cs)])/\dE X w.heap.size v (kH last cs)/\zb w X):=λW hW=>
  (KB (hr.hl Q O (.below (t:=t) hW (zAb _))) Q O z.1.sub.order (hE.below hW (zAb _)) (λu V=>(m u V).1) xu).mono λe X ⟨v,e1,e2,e3⟩=>⟨v,e1,e2.lower hW.size,hW.trans (e3.mono hW.size)⟩
 have HG:Hid (∀W v,zb w W->dE W w.heap.size v (kH last cs)->Calls zq 223 #[aN (aA ⟨t,0,aB⟩),ptr p,aC aD 0,v] W λe W'=>∃v' y rows B hi,e=aL v'/\v'=ptr y/\Gw k t b cap (S0++[last]).length B j R last.length (c+rows.length) (bJ last cs) (S0++[last]) rows W.heap.size hi y w W'/\rows.length<=mC (bC (bJ last cs)) (bC last) 0/\∀x,C x->B x):=λW v hW hv=>
  gb Q O J hM Z hr hp z.1 m ho xu (by omega) (by omega) hW hv
 have HM:=hid hM;have U:=hid P;have c3:w.cell? ⟨t,3,aB⟩=aA (aJ (aA ⟨b,0,aB⟩) (S0.length+1) cap):=by rw[<-hn];exact(aZ hM.tr 3).trans rfl
 have d1:w.cell? ⟨b,S0.length,aB⟩=aA (ptr p):=by rw[aZ hM.rW];exact Zv
 have dq:=hM.tr.lt;have Vi:=h.blt;obtain⟨N,ga⟩:∃N,N=bJ last cs:=⟨_,rfl⟩;obtain⟨S,yo⟩:∃S,S=S0++[last]:=⟨_,rfl⟩;rw[<-ga]at h4 r aj tu HG hnw⊢;rw[<-yo]at HM HG Z hn hl aj g1⊢;obtain⟨vp,Xw⟩:∃vp,vp=ptr p:=⟨_,rfl⟩;rw[<-Xw]at HF HG d1;have xq:=z.2;generalize hMU:fL last cs=M at HF r;generalize hEF:kH last cs=EF at HF HG;clear hE m ho Yj z hM P Z hr hp Zv L ee h ga yo Xw hMU hEF;have xo:S0.length+1<1000:=by omega
 generalize S0.length=E at*;generalize aBt:last.length=F at*;generalize cs.length=nc at*;have Np:¬((E:Int)<0):=by omega
 have Vg:(E:Int)<(E:Int)+1:=by omega
 have yv:IntKind.i64.wrap ((F:Int)+M)=(N.length:Int):=by rw[zGj];omega
 have hM2:wrap64 ((F:Int)+M)=(N.length:Int):=by unfold wrap64;omega
 have hM3:¬((2000:Int)<(N.length:Int)):=by omega
 go_enter_defers (Qz.fn func215),ntmps215;go_upto_region 1 with(fail)
 have q0:=cX c3 dq;have q1:=cX d1 Vi;refine zGr (by kernel_rfl) (by kernel_rfl) ?_;repeat (any_goals(first|go_big_quiet_step (fail)|quiet_step (fail)))
 refine zGy ?_;intro w1 dk;obtain⟨q,hq⟩:=dk;have B1:Hid (zb w w1):=by rw[hq];exact zGl w q.d q.os
 clear hq q0 q1 c3 d1;go_wp2_with fail;refine(HF.out w1 B1.out).mono ?_;rintro e w2 ⟨v2,rfl,yq,ZU⟩;have O2:=hid yq;have B2:=hid ZU;clear yq ZU HF B1;have c4:w2.cell? ⟨t,4,aB⟩=aA (aC aD F):=by rw[B2.out.cell dq];exact(aZ HM.out.tr 4).trans rfl
 go_wp2_with fail;refine(HG.out w2 v2 B2.out O2.out).mono ?_;rintro e w3 ⟨v3,y,rows,B,hi,rfl,wx,kr,hrl,Nl⟩;have GW3:=hid kr;have iv:=hid Nl;have H:=hid wx;have HH:Calls zq 222 #[v3] w3 λe W'=>e=aL v3/\Gw k t b cap S.length B j R F (c+rows.length) N S rows w2.heap.size hi y w W':=by rw[H.out];exact GW3.out.hold Q O J
 have ov:=B2.out.size;clear kr Nl wx c4 HG O2 B2;go_wp2_with fail;refine HH.mono ?_;clear HH GW3;rintro e w4 ⟨rfl,er⟩;have A:=hid er;clear er;go_upto_region 7 with(fail)
 have hle:¬((R:Int)<c+(rows.length:Int)):=by omega
 have q5:=cX A.out.mem.tr.c5 A.out.mem.tr.lt;have q6:=cX ((aZ A.out.mem.tr 1).trans (rfl:_=aA (Value.int aD R))) A.out.mem.tr.lt;refine zGr (by kernel_rfl) (by kernel_rfl) ?_;repeat (any_goals(first|go_big_quiet_step (fail)|quiet_step (fail)))
 refine zGy ?_;intro w5 dk;obtain⟨q,hq⟩:=dk;have GW5:Hid (Gw k t b cap S.length B j R F (c+rows.length) N S rows w2.heap.size hi y w w5):=A.out.below Q O J (by rw[hq];exact zGl w4 q.d q.os);clear hq q5 q6 A;have HW:Calls zq 224 #[aN (aA ⟨t,0,aB⟩),v3] w5 λe W'=>(e=aL (.tuple #[])/\Gd k t b cap S.length B j R F (c+rows.length) N S y b w W')\/∃ch,e= .panicked ch/\rT k t (Il t b B) N ch W'/\Gw k t b cap S.length B j R F (c+rows.length) N S rows w2.heap.size hi y w W':=by rw[H.out];exact GW5.out.work Q O J hb HM.out.cs iv.out U.out ov tu.out (by omega)
 have s:Hid (∀x∈j.toList,oM B x):=λx Y=>by obtain⟨p,e,hp⟩:=U.out x Y;exact⟨p,e,λb hb=>iv.out b (hp b hb)⟩
 clear GW5 U HM;go_wp2_with fail;refine HW.mono ?_;clear HW;rintro e w6 (⟨rfl,xx⟩|⟨ch,rfl,I,qv⟩);rotate_left
 .refine leaves_cons (f:=219) (args:= #[aN (aA ⟨t,0,aB⟩),v3]) (by simp) (by simp[go_sem]) ?_;rw[H.out];refine(qv.told Q O J hb s.out tu.out h4 (by omega) (by omega) I).mono ?_;rintro e u' w7 ⟨rfl,rfl,he⟩;show Leaves _ _ _ _ [] (settle (.panicking ch)) w7;rw[I.settle];exact .told he
 have uo:=hid xx;clear xx;have zx:Hid (Calls zq 222 #[v3] w6.drew λe W'=>e=aL v3/\Gd k t b cap S.length B j R F (c+rows.length) N S y b w W'):=by rw[H.out];exact(uo.out.below Q O J (jY (zGe _ w6))).hold Q O J
 have p3:w6.cell? ⟨t,3,aB⟩=aA (aJ (aA ⟨b,0,aB⟩) (E+1) cap):=by rw[<-hn];exact(aZ uo.out.mem.tr 3).trans rfl
 clear uo;go_upto_region 10 with(fail)
 have HS:=p3;refine wp_region_noPanic ?_;refine AnyX.sB (λX=>X.cell? ⟨t,3,aB⟩=aA (aJ (aA ⟨b,0,aB⟩) (E+1) cap)) (λi=>i==8) (by kernel_rfl) ?_;refine AnyX.BG (i:=0) (v:=aN (aA ⟨t,0,aB⟩)) rfl (by kernel_rfl) (λ_ _ _ h=>h) (aG ⟨by rfl,λW=>by go_simp⟩) HS ?_;simp only[Act.put];refine AnyX.tk 1 (aN (aA ⟨t,0,aB⟩)) HS ?_;simp only[Act.put];refine AnyX.tk 2 (aN (aA ⟨t,0,aB⟩)) HS ?_;simp only[Act.put];refine AnyX.tk 3 (aN (aA ⟨t,3,aB⟩)) HS ?_;simp only[Act.put];refine AnyX.tk 4 (aJ (aA ⟨b,0,aB⟩) (E+1) cap) HS ?_;simp only[Act.put];refine AnyX.tk 5 (v3) HS ?_;simp only[Act.put];refine AnyX.dF (i:=6) (by kernel_rfl) rfl (λK o=> ?_);go_simp;refine zx.out.mono ?_;rintro e w7 ⟨rfl,ez⟩;have ln:=hid ez;have p7:w7.cell? ⟨t,3,aB⟩=aA (aJ (aA ⟨b,0,aB⟩) (E+1) cap):=by rw[<-hn];exact(aZ ln.out.mem.tr 3).trans rfl
 have pc:=ln.out.mem.tr.lt;clear ez;refine o.out _ _ (λ_=>p7) ?_;clear o K HS zx;obtain⟨vq,hvq⟩:∃vq,v3= .pointer vq:=by
  rw[H.out];cases y with
  |none=>exact⟨_,rfl⟩
  |some x=>exact⟨_,rfl⟩
 subst hvq;refine AnyX.dF (i:=7) (by kernel_rfl) rfl (λK o=> ?_);go_simp;refine o.out _ _ (λ_=>by rw[World.cell?_alloc_lt _ _ _ pc];exact p7) ?_;clear o K;have G:Hid (Gd k t b cap S.length B j R F (c+rows.length) N S y b w (w7.alloc (aI #[.pointer vq] 264))):=ln.out.below Q O J ((zGe _ _).alloc (zAb _) _);obtain⟨D,a,W8,gq,pw,qw,rl,t1,t2,t3,t4,t5,t6⟩:=Eo (n:=E+1) (p:=y) G.out.mem.rW (by rw[<-hn];exact g1) g2 g3 s.out (by omega) G.out.Cz (vb:=w7.heap.size) (by rw[<-H.out];exact zGn w7 _);refine AnyX.dF (i:=8) (by kernel_rfl) rfl (λK o=> ?_);refine jJ rfl _ _ 166 166 rfl _ _ rfl rfl (pw _) ?_;refine o.out _ _ (λh=>AnyX.mB h (by kernel_rfl)) ?_;clear o K;have sc:=(qw.block t G.out.mem.tr.lt (λe=>by have e':=zAk e;have h2:=G.out.mem.tr;have h3:=G.out.mem.rW;unfold dJ at h2;rw[<-e',h2]at h3;injection h3 with h3;injection h3 with _ h4;revert h4;decide)).trans G.out.mem.tr
 have a3:W8.cell? ⟨t,3,aB⟩=aA (aJ (aA ⟨b,0,aB⟩) S.length cap):=(aZ sc 3).trans rfl;have z3:W8.frozen? ⟨t,3,aB⟩=aF:=cW sc 3;clear sc;refine AnyX.dF (i:=9) (by kernel_rfl) rfl (λK o=> ?_);simp only[Act.put,zCf,zDg,zDd];go_simp;refine o.out _ _ (λh=>AnyX.mB h (by kernel_rfl)) ?_;clear o K;refine AnyX.dF (i:=10) (by kernel_rfl) rfl (λK o=> ?_);go_simp;refine o.out _ _ (λh=>AnyX.mB h (by kernel_rfl)) ?_;clear o K;refine AnyX.dF (i:=11) (by kernel_rfl) rfl (λK o=> ?_);go_simp;refine o.out _ _ (λh=>AnyX.mB h (by kernel_rfl)) ?_;clear o K;refine AnyX.sC (by kernel_rfl) ?_ _;simp only[NoPanic];have HBB:Hid (D=b\/w.heap.size<=D):=rl.imp id λe=>by rw[e];exact G.out.save.size
 have rj:zq.globals.size<D:=by obtain e|e:=rl;{rw[e];exact hb};{rw[e];have:=G.out.mem.tr.lt;omega}
 obtain⟨yu,l,du⟩:=G.out.mem.CO (cap':=a) (n':=E+1+1) J hb qw t1;have g:Hid (Gd k t D a (S.length+1) B gq R F (c+rows.length) N (S++[N]) y b w (W8.setCell ⟨t,3,aB⟩ (aJ (aA ⟨D,0,aB⟩) (E+1+1) a))):=by have dw:=G.out.rep.kept G.out.mem.cs G.out.Cz λx Y=>l x (G.out.mem.cs.cell Y);refine⟨by rw[hn];exact yu,dw,G.out.Cz,G.out.save.step du (aG rfl),Kk (p:=y) (cur:=j) (G.out.Wt.kept G.out.mem.cs s.out λx Y=>l x (G.out.mem.cs.cell Y)) (by omega) (by rw[hn];exact t6) dw⟩
 generalize W8.setCell ⟨t,3,aB⟩ (aJ (aA ⟨D,0,aB⟩) (E+1+1) a)=w9 at*;have T:=hid t5;clear pw qw rl t1 t5 t6 yu l du a3 z3 G ln p7 p3;have c4:w9.cell? ⟨t,4,aB⟩=aA (aC aD F):=(aZ g.out.mem.tr 4).trans rfl;have f4:w9.frozen? ⟨t,4,aB⟩=aF:=cW g.out.mem.tr 4;have aAW:=g.out.mem.tr.lt;obtain⟨yr,m,xd⟩:=g.out.mem.sized J (N.length:Int);have GDE:Hid (Gd k t D a (S.length+1) B gq R N.length (c+rows.length) N (S++[N]) y b w (w9.setCell ⟨t,4,aB⟩ (aC aD (N.length:Int)))):=⟨yr,g.out.rep.kept g.out.mem.cs g.out.Cz λx Y=>m x (g.out.mem.cs.cell Y),g.out.Cz,g.out.save.step xd HBB.out,g.out.Wt.kept g.out.mem.cs T.out λx Y=>m x (g.out.mem.cs.cell Y)⟩;clear yr m xd g;go_wp2;refine leaves_cons (f:=219) (args:= #[aN (aA ⟨t,0,aB⟩),.pointer vq]) (by simp) (by simp[go_sem]) ?_;rw[H.out,<-r];refine(GDE.out.leave (room:=room) Q O J rj T.out h4 (by omega) (by omega) t3 t4 (by omega) (by omega) (by omega) aj.out).mono ?_;rintro e u' X ⟨rfl,rfl,hE,hSv⟩;exact⟨_,results_tmp rfl _ _ _,.of ⟨rfl,D,a,hE,HBB.out,hSv⟩⟩
end
def IQ (k first n:Nat)(N:List bS)(H:zLL)(a:zB):Prop:=∃h,H[n-1]? =aA h/\a=dg k (3::(h++eight (first+n)++jE k (bC N) 0))
section
variable {w:zW}{d k win first hb dH t room b cap:Nat}{S:List (List bS)}{H:zLL}
def Jf (S0:List (List bS))(last us:List bS)(v:zY)(base:Nat){nw:Nat}(h:cJ w d k win first hb dH t (room+1+nw+1) b cap (S0++[last]) H)(hU:dE w base v us)(kz:us.length<=20)(Q:∀u∈us,u.idx.length=32/\u.val.length<=100/\(u.gone=aE->u.val=[]))
  (hl:(S0++[last]).length<1000) (h4:(bJ last (cQ us)).length<=400) (I:mC (bC (bJ last (cQ us))) (bC last) 0<=nw) (hfi:first+2<=1000000) (aAN:1<=win) (aAO:win<=1000):
  Calls zq 19 #[aN (aA ⟨d,0,aB⟩),v] w (RF λx r=>x= .tuple #[aC aD ((first:Int)+((S0++[last]).length:Int)),aC aD 0]/\∃j f C q A,IQ k first (S0++[last]).length (bJ last (cQ us)) H A/\cJ r d k win (if win<(S0++[last]).length+1 then first+1 else first) j f t room C q (if win<(S0++[last]).length+1 then(S0++[last]++[bJ last (cQ us)]).drop 1 else S0++[last]++[bJ last (cQ us)]) (if win<(S0++[last]).length+1 then(H++[A]).drop 1 else H++[A])/\(j=hb\/w.heap.size<=j)/\(C=b\/w.heap.size<=C)/\dN (jV w d hb t b) w r):=by
 have Z:us.all CB=aE:=zBq.2 λu hu=>by obtain⟨h1,h2,h3⟩:=Q u hu;unfold CB;cases hg:u.gone;{simp[h1,h2]};{simp[h1,h2,h3 hg]}
 obtain⟨n1,n2,n3,n4,n5⟩:=h.ne;have ug:=CI v us w (by omega) hU.mh (λu hu=>by have:=Q u hu;omega);rw[Z]at ug;have zp:Hid (∀W,zb w W->Calls zq 39 #[v] W λe r=>∃v',e=aL v'/\dE r W.heap.size v' (cQ us)/\zb W r):=λW hW=>NY (hU.below hW (zAb _)) kz;have xe:∀u∈cQ us,u.idx.length=32/\u.val.length<=100:=λu hu=>by have:=Q u (qO hu);exact⟨this.1,this.2.1⟩
 have jy:(cQ us).length<=1000:=by have:=NZ us;omega
 have HE:Hid (cJ w d k win first hb dH t (room+1+nw+1) b cap (S0++[last]) H):=h;have uc:Hid (mP (cQ us)):=FA us;have tz:Hid (∀u∈cQ us,u.idx.length=32/\u.val.length<=100):=xe;have iy:Hid (mC (bC (bJ last (cQ us))) (bC last) 0<=nw):=I;have mN:∀W,(method (zq.types.size+100) 146 (aN (aA ⟨t,0,aB⟩)) "Next").run zq W= .ok (215,aN (aA ⟨t,0,aB⟩)) W:=λW=>reaches (by kernel_rfl) _ W;have mR:∀W,(method (zq.types.size+100) 146 (aN (aA ⟨t,0,aB⟩)) "Root").run zq W= .ok (217,aN (aA ⟨t,0,aB⟩)) W:=λW=>reaches (by kernel_rfl) _ W;obtain⟨va,vc,rfl,hvl,_⟩:=hU.Yt;clear h Q Z I xe hU;generalize cQ us=ST at*;generalize Yj:bJ last ST=N at*;have M:Hid (bJ last ST=N):=Yj;clear Yj;obtain⟨S,U⟩:∃S,S=S0++[last]:=⟨_,rfl⟩;have O:Hid (S=S0++[last]):=U;obtain⟨n,hn⟩:∃n,n=S.length:=⟨_,rfl⟩;have HN:Hid (n=S.length):=hn;rw[<-U,<-hn]at hl⊢;have km:1<=n:=by rw[hn,U];simp
 clear U hn;obtain⟨F',sm⟩:∃F',F'=if win<n+1 then first+1 else first:=⟨_,rfl⟩
 obtain⟨S',se⟩:∃S',S'=if win<n+1 then(S++[N]).drop 1 else S++[N]:=⟨_,rfl⟩
 have zz:Hid (F'=if win<n+1 then first+1 else first):=sm;have zt:Hid (S'=if win<n+1 then(S++[N]).drop 1 else S++[N]):=se;rw[<-sm,<-se];clear sm se;go_enter (Qz.fn func19),ntmps19;go_wp2_with fail;refine ug.mono ?_;clear ug;rintro e w1 ⟨rfl,Yg⟩;have B1:Hid (zb w w1):=Yg;have D1:Hid (cJ w1 d k win first hb dH t (room+1+nw+1) b cap (S0++[last]) H):=HE.out.below Yg (zAb _);clear Yg;dsimp only;have xr:¬((200:Int)<(us.length:Int)):=by omega
 go_upto_region 5 with(fail)
 have q4:w1.cell? ⟨d,4,aB⟩=aA (.iface 146 (aN (aA ⟨t,0,aB⟩))):=D1.out.cell 4;have l:(λr:zW=>r.cell? ⟨d,4,aB⟩=aA (.iface 146 (aN (aA ⟨t,0,aB⟩)))) w1.drew:=q4;refine AnyX.sB (λr=>r.cell? ⟨d,4,aB⟩=aA (.iface 146 (aN (aA ⟨t,0,aB⟩)))) (λ_=>aF) (by kernel_rfl) ?_;refine AnyX.tk 0 (aN (aA ⟨d,0,aB⟩)) l ?_;simp only[Act.put];refine AnyX.tk 1 (aN (aA ⟨d,0,aB⟩)) l ?_;simp only[Act.put];refine AnyX.tk 2 (aN (aA ⟨d,4,aB⟩)) l ?_;simp only[Act.put];refine AnyX.tk 3 (.iface 146 (aN (aA ⟨t,0,aB⟩))) l ?_;simp only[Act.put];refine AnyX.tk 4 (aJ va us.length vc) l ?_;simp only[Act.put];refine AnyX.tk 6 (.iface 146 (aN (aA ⟨t,0,aB⟩))) l ?_;simp only[Act.put];refine AnyX.tk 7 (.iface 146 (aN (aA ⟨t,0,aB⟩))) l ?_;simp only[Act.put];refine AnyX.dF (i:=5) (by kernel_rfl) rfl (λK o=> ?_);go_simp;refine(zp.out _ (jY B1.out)).mono ?_;rintro e w2 ⟨v2,rfl,ki,ZU⟩;have y:Hid (zb w1 w2):=NG ZU;have qq:w2.cell? ⟨d,4,aB⟩=aA (.iface 146 (aN (aA ⟨t,0,aB⟩))):=(D1.out.below y.out (zAb _)).cell 4;obtain⟨vs,cs,wv,hcs,kt⟩:=ki.Yt;subst wv;dsimp only;refine o.out _ _ (λ_=>qq) ?_;clear o K l;refine AnyX.dF (i:=8) (by kernel_rfl) rfl (λK o=> ?_);go_simp;refine(Mp last ST vs cs S0 (D1.out.below y.out (zAb _)).JY (by rw[<-O.out,<-HN.out];exact hl) kt tz.out uc.out jy (by rw[M.out];exact h4) (by rw[M.out];exact iy.out)).mono ?_;rintro e w3 (⟨_,rfl,rfl,C,q,za,yh,L⟩|⟨c,rfl,he⟩);rotate_left
 .exact⟨rfl,.told he⟩
 have nk:w3.cell? ⟨d,4,aB⟩=aA (.iface 146 (aN (aA ⟨t,0,aB⟩))):=by rw[World.cell?_of_block (a:=⟨d,4,aB⟩) (L.block d (D1.out.below y.out (zAb _)).lt (D1.out.below y.out (zAb _)).two.1)];exact qq
 dsimp only;refine o.out _ _ (λ_=>nk) ?_;clear o K;refine AnyX.dF (i:=9) (by kernel_rfl) rfl (λK o=> ?_);go_simp;refine o.out _ _ (λ_=>nk) ?_;clear o K;refine AnyX.sC (by kernel_rfl) ?_ _;have E3:Hid (dA w3 t k (room+1) C q (S++[N])):=by have:=za;rw[M.out,<-O.out]at this;exact this
 have D:=D1.out.below y.out (zAb _);have K3:Hid (cD w3 d 86 #[aC aD k,aC aD win,aC aD first,aJ (aA ⟨hb,0,aB⟩) n dH,.iface 146 (aN (aA ⟨t,0,aB⟩))]):=(L.block d D.lt D.two.1).trans (by have:=D.at';rw[<-O.out,<-HN.out]at this;exact this);have hH1:=D.hlen;have yz:=D.Nu;have sk:=D.fX;have O3:Hid (eR PZ w3 hb 9 1 (aJ (aA ⟨hb,0,aB⟩) n dH) n (fZ H)):=by
  rw[<-O.out,<-HN.out]at sk;exact sk.kept λg hg=>by have e:hb=g:=zAk hg;subst e;exact L.block hb D.bW D.two.2
 have hHn:H.length=n:=by rw[hH1,<-O.out,<-HN.out]
 have V3:Hid (dN (jV w d hb t b) w w3):=((dN.of B1.out (zAb _)).trans (dN.of y.out (zAb _))).four (L.mono λx hx=>aH (aH hx)) (aG rfl) (aG rfl);have uk:Hid (C=b\/w.heap.size<=C):=yh.imp id λh=>by have h1:=B1.out.size;have h2:=y.out.size;omega
 have qs:hb<w3.heap.size:=(eR.lt O3.out hb rfl).2;have s:=K3.out.lt;have z:Hid (zq.globals.size<d/\zq.globals.size<hb):=⟨D1.out.Oz,D1.out.qC⟩;have No:=D1.out.JY.k1;have Yb:=D1.out.JY.k2;clear za sk L yh q4 D D1 B1 y ZU ki kt zp HE nk qq;have p0:w3.cell? ⟨d,0,aB⟩=aA (aC aD k):=(K3.out.cell 0).trans rfl;have p2:w3.cell? ⟨d,2,aB⟩=aA (aC aD first):=(K3.out.cell 2).trans rfl;have p3:w3.cell? ⟨d,3,aB⟩=aA (aJ (aA ⟨hb,0,aB⟩) n dH):=(K3.out.cell 3).trans rfl;have p4:w3.cell? ⟨d,4,aB⟩=aA (.iface 146 (aN (aA ⟨t,0,aB⟩))):=(K3.out.cell 4).trans rfl;go_upto_region 10 with(fail)
 obtain⟨m,hm⟩:∃m,n=m+1:=⟨n-1,by omega⟩;have hmi:(n:Int)-1=(m:Int):=by omega
 have hm1:(m:Int)<(n:Int):=by omega
 have qi:¬((m:Int)<0):=by omega
 have kp:(0:Int)<=(m:Int):=by omega
 have Zt:IntKind.i64.wrap (m:Int)=(m:Int):=by rw[zGj];omega
 have F:IntKind.i64.wrap ((n:Int)-1)=(m:Int):=by rw[hmi];exact Zt
 have sj:H[m]? =aA (H[m]'(by omega)):=zAf _;have yy:=yz (H[m]'(by omega)) (zCx _);generalize H[m]'(by omega)=E at sj yy;have p5:w3.cell? ⟨hb,m,aB⟩=aA (aK ⟨E.toArray⟩):=by
  obtain⟨cur,c1,c2,c3,c4,c5,c6,c7⟩:=eR.row O3.out;rw[zGv w3 hb m cur _ (0,0) c1,<-zBp];have:(fZ H)[m]? =aA (aK ⟨E.toArray⟩):=by unfold fZ;rw[zDo,sj];rfl
  rw[<-c6,zCs,zAq (by omega)]at this;exact this
 have HIN:Hid ((S++[N])[n]? =aA N):=by show _=_;rw[zCu (by rw[<-HN.out];exact zAb _),<-HN.out,Nat.sub_self];rfl
 have HMm:Hid (n=m+1):=hm;clear hm;have E3d:Hid (dA w3.drew t k (room+1) C q (S++[N])):=E3.out.kept (zAb _) λ_ _=>rfl;have l:(λr:zW=>r.cell? ⟨d,0,aB⟩=aA (aC aD k)/\r.cell? ⟨d,3,aB⟩=aA (aJ (aA ⟨hb,0,aB⟩) n dH)/\r.cell? ⟨d,4,aB⟩=aA (.iface 146 (aN (aA ⟨t,0,aB⟩)))/\r.cell? ⟨hb,m,aB⟩=aA (aK ⟨E.toArray⟩)) w3.drew:=⟨p0,p3,p4,p5⟩;refine AnyX.sB (λr=>r.cell? ⟨d,0,aB⟩=aA (aC aD k)/\r.cell? ⟨d,3,aB⟩=aA (aJ (aA ⟨hb,0,aB⟩) n dH)/\r.cell? ⟨d,4,aB⟩=aA (.iface 146 (aN (aA ⟨t,0,aB⟩)))/\r.cell? ⟨hb,m,aB⟩=aA (aK ⟨E.toArray⟩)) (λi=>i==26) (by kernel_rfl) ?_;refine AnyX.BG (i:=0) (v:=aN (aA ⟨d,0,aB⟩)) rfl (by kernel_rfl) (λ_ _ _ h=>h) (aG ⟨by rfl,λW=>by go_simp⟩) l ?_;simp only[Act.put];refine AnyX.tk 1 (aN (aA ⟨d,0,aB⟩)) l ?_;simp only[Act.put];refine AnyX.tk 2 (aN (aA ⟨d,0,aB⟩)) l ?_;simp only[Act.put];refine AnyX.tk 3 (aN (aA ⟨d,3,aB⟩)) l ?_;simp only[Act.put];refine AnyX.tk 4 (aJ (aA ⟨hb,0,aB⟩) n dH) l ?_;simp only[Act.put];refine AnyX.tk 5 (aN (aA ⟨d,0,aB⟩)) l ?_;simp only[Act.put];refine AnyX.tk 6 (aN (aA ⟨d,0,aB⟩)) l ?_;simp only[Act.put];refine AnyX.tk 7 (aN (aA ⟨d,0,aB⟩)) l ?_;simp only[Act.put];refine AnyX.tk 8 (aC aD k) l ?_;simp only[Act.put];refine AnyX.tk 9 (aN (aA ⟨d,0,aB⟩)) l ?_;simp only[Act.put];refine AnyX.tk 10 (aN (aA ⟨d,0,aB⟩)) l ?_;simp only[Act.put];refine AnyX.tk 11 (aN (aA ⟨d,3,aB⟩)) l ?_;simp only[Act.put];refine AnyX.tk 12 (aJ (aA ⟨hb,0,aB⟩) n dH) l ?_;simp only[Act.put];refine AnyX.tk 13 (aC aD n) l ?_;simp only[Act.put];refine AnyX.tk 14 (aC aD m) l ?_;simp only[Act.put];refine AnyX.tk 15 (aN (aA ⟨hb,m,aB⟩)) l ?_;simp only[Act.put];refine AnyX.tk 16 (aK ⟨E.toArray⟩) l ?_;simp only[Act.put];refine AnyX.tk 17 (aC aD ((first:Int)+(n:Int))) l ?_;simp only[Act.put];refine AnyX.tk 18 (aN (aA ⟨d,0,aB⟩)) l ?_;simp only[Act.put];refine AnyX.tk 19 (aN (aA ⟨d,0,aB⟩)) l ?_;simp only[Act.put];refine AnyX.tk 20 (aN (aA ⟨d,4,aB⟩)) l ?_;simp only[Act.put];refine AnyX.tk 21 (.iface 146 (aN (aA ⟨t,0,aB⟩))) l ?_;simp only[Act.put];refine AnyX.tk 22 (aC aD n) l ?_;simp only[Act.put];refine AnyX.dF (i:=23) (by kernel_rfl) rfl (λK o=> ?_);go_simp;refine(SN E3d.out HIN.out).mono ?_;rintro e w4 (⟨_,rfl,rfl,yg⟩|⟨c,rfl,he⟩);rotate_left
 .exact⟨rfl,.told he⟩
 have b4:Hid (zb w3 w4):=NG yg;have r0:w4.cell? ⟨d,0,aB⟩=aA (aC aD k):=by rw[b4.out.cell (p:=⟨d,0,aB⟩) s];exact p0
 have r3:w4.cell? ⟨d,3,aB⟩=aA (aJ (aA ⟨hb,0,aB⟩) n dH):=by rw[b4.out.cell (p:=⟨d,3,aB⟩) s];exact p3
 have r4:w4.cell? ⟨d,4,aB⟩=aA (.iface 146 (aN (aA ⟨t,0,aB⟩))):=by rw[b4.out.cell (p:=⟨d,4,aB⟩) s];exact p4
 have r5:w4.cell? ⟨hb,m,aB⟩=aA (aK ⟨E.toArray⟩):=by rw[b4.out.cell (p:=⟨hb,m,aB⟩) qs];exact p5
 dsimp only;refine o.out _ _ (λ_=>⟨r0,r3,r4,r5⟩) ?_;clear o K yg l;refine AnyX.dF (i:=24) (by kernel_rfl) rfl (λK o=> ?_);go_simp;refine(Ns k _ E _ w4 (E3.out.iM.below b4.out (zAb _)) No Yb yy (by have:=wD k 0 (bC N) Yb;omega) (by omega)).mono ?_;rintro e w5 ⟨rfl,yf⟩;have hHX:(dg k (3::(E++eight (first+n)++jE k (bC N) 0))).length<=32:=by rw[fE k _ Yb];omega
 have zv:Hid (IQ k first n N H (dg k (3::(E++eight (first+n)++jE k (bC N) 0)))):=⟨E,by rw[HMm.out];exact sj,rfl⟩;generalize dg k (3::(E++eight (first+n)++jE k (bC N) 0))=A at*;have b5:Hid (zb w3 w5):=bE b4.out yf b4.out.size;have J:d<w5.heap.size:=zAc s b5.out.size;have qu:hb<w5.heap.size:=zAc qs b5.out.size;have s0:w5.cell? ⟨d,0,aB⟩=aA (aC aD k):=by rw[b5.out.cell (p:=⟨d,0,aB⟩) s];exact p0
 have s3:w5.cell? ⟨d,3,aB⟩=aA (aJ (aA ⟨hb,0,aB⟩) n dH):=by rw[b5.out.cell (p:=⟨d,3,aB⟩) s];exact p3
 have s4:w5.cell? ⟨d,4,aB⟩=aA (.iface 146 (aN (aA ⟨t,0,aB⟩))):=by rw[b5.out.cell (p:=⟨d,4,aB⟩) s];exact p4
 have s5:w5.cell? ⟨hb,m,aB⟩=aA (aK ⟨E.toArray⟩):=by rw[b5.out.cell (p:=⟨hb,m,aB⟩) qs];exact p5
 dsimp only;refine o.out _ _ (λ_=>⟨s0,s3,s4,s5⟩) ?_;clear o K yf r0 r3 r4 r5;refine AnyX.dF (i:=25) (by kernel_rfl) rfl (λK o=> ?_);go_simp;refine o.out _ _ (λ_=>⟨by rw[World.cell?_alloc_lt _ _ _ J];exact s0,by rw[World.cell?_alloc_lt _ _ _ J];exact s3,by rw[World.cell?_alloc_lt _ _ _ J];exact s4,by rw[World.cell?_alloc_lt _ _ _ qu];exact s5⟩) ?_;clear o K s0 s3 s4 s5;obtain⟨j,f,X,xi,T,rn,V⟩:=ZT (O3.out.below b5.out (zAb _)|>.alloc (aI #[aK ⟨A.toArray⟩] 9)) (by omega) A (vb:=w5.heap.size) (zGn w5 _) (by have:=b5.out.size;rw[size_alloc];omega);refine AnyX.dF (i:=26) (by kernel_rfl) rfl (λK o=> ?_);refine jJ rfl _ _ 82 82 rfl _ _ rfl rfl (xi _) ?_;refine o.out _ _ (λh=>AnyX.mB h (by kernel_rfl)) ?_;clear o K;have hd5:d<(w5.alloc (aI #[aK ⟨A.toArray⟩] 9)).heap.size:=by have:=b5.out.size;rw[size_alloc];omega
 have KA:=((K3.out.below b5.out s).alloc (aI #[aK ⟨A.toArray⟩] 9)).grown T (λe=>by injection e with e;exact n1 e);have a3:X.cell? ⟨d,3,aB⟩=aA (aJ (aA ⟨hb,0,aB⟩) n dH):=(KA.cell 3).trans rfl;have z3:=KA.frozen 3;have P:Hid (cD X d 86 #[aC aD k,aC aD win,aC aD first,aJ (aA ⟨hb,0,aB⟩) n dH,.iface 146 (aN (aA ⟨t,0,aB⟩))]):=KA;clear KA;refine AnyX.dF (i:=27) (by kernel_rfl) rfl (λK o=> ?_);simp only[Act.put,zCf,zDg,zDd];go_simp;refine o.out _ _ (λh=>AnyX.mB h (by kernel_rfl)) ?_;clear o K;refine AnyX.dF (i:=28) (by kernel_rfl) rfl (λK o=> ?_);go_simp;refine o.out _ _ (λh=>AnyX.mB h (by kernel_rfl)) ?_;clear o K;refine AnyX.dF (i:=29) (by kernel_rfl) rfl (λK o=> ?_);go_simp;refine o.out _ _ (λh=>AnyX.mB h (by kernel_rfl)) ?_;clear o K;refine AnyX.sC (by kernel_rfl) ?_ _;have R:=kW X d (#[aC aD k,aC aD win,aC aD first,aJ (aA ⟨j,0,aB⟩) (n+1) f,.iface 146 (aN (aA ⟨t,0,aB⟩))]:zA);have G:X.setCell ⟨d,3,aB⟩ (aJ (aA ⟨j,0,aB⟩) (n+1) f)=X.setRow d (#[aC aD k,aC aD win,aC aD first,aJ (aA ⟨j,0,aB⟩) (n+1) f,.iface 146 (aN (aA ⟨t,0,aB⟩))]:zA):=by rw[setCell_eq_setRow X d 3 _ _ (0,0) _ P.out];rfl
 have Y:=P.out.dV (#[aC aD k,aC aD win,aC aD first,aJ (aA ⟨j,0,aB⟩) (n+1) f,.iface 146 (aN (aA ⟨t,0,aB⟩))]:zA);have bA:zb w3 (w5.alloc (aI #[aK ⟨A.toArray⟩] 9)):=b5.out.alloc b5.out.size _;obtain⟨aCY,zk,_⟩:=eR.row (O3.out.below bA (zAb _));have D7:Hid (cJ (X.setCell ⟨d,3,aB⟩ (aJ (aA ⟨j,0,aB⟩) (n+1) f)) d k win first j f t (room+1) C q (S++[N]) (H++[A])):=by
  rw[G];have B:(S++[N]).length=n+1:=by rw[zAi,<-HN.out];rfl
  have hhb:j≠d:=λe=>by obtain⟨c6,e6,_⟩:=eR.row V;rw[e,P.out]at e6;injection e6 with e6;injection e6 with _ e7;revert e7;decide
  refine⟨((E3.out.below bA (zAb _)).other T zk (by decide) z.out.2).other R P.out (by decide) z.out.1,z.out.1,?_,by rw[B];exact Y,by rw[zAi,B,hHn];rfl,λx hx=> ?_,?_,by omega⟩
  .obtain e|e:=rn
   .rw[e];exact z.out.2
   .rw[e];have:=z.out.1;omega
  .obtain hx|hx:=zAg.1 hx
   .exact yz x hx
   .rw[zAm.1 hx];exact hHX
  .rw[B];exact V.kept λg hg=>by have e:j=g:=zAk hg;subst e;exact R.block j (eR.lt V j rfl).2 (λe=>by injection e with e;exact hhb e)
 have V7:Hid (dN (jV w d hb t b) w (X.setCell ⟨d,3,aB⟩ (aJ (aA ⟨j,0,aB⟩) (n+1) f))):=by rw[G];exact((V3.out.trans (dN.of bA (zAb _))).trans (dN.grown T (aH (aG rfl)))).trans (dN.grown R (aG rfl))
 have uh:Hid (j=hb\/w.heap.size<=j):=rn.imp id λe=>by have h1:=bA.size;have h2:=V3.out.size;rw[e];omega
 generalize X.setCell ⟨d,3,aB⟩ (aJ (aA ⟨j,0,aB⟩) (n+1) f)=w7 at*;clear G Y R zk bA T rn V P a3 z3 xi K3 O3 E3 E3d V3;go_wp2_with fail;have y3:=cX ((D7.out.cell 3).trans (rfl:_=aA (Value.slice (aA ⟨j,0,aB⟩) (S++[N]).length f))) D7.out.lt;have y1:=cX ((D7.out.cell 1).trans (rfl:_=aA (Value.int aD win))) D7.out.lt;have B:(S++[N]).length=n+1:=by rw[zAi,<-HN.out];rfl
 rw[B]at y3;refine zGr (by kernel_rfl) (by kernel_rfl) ?_;repeat (any_goals(first|go_big_quiet_step (fail)|quiet_step (fail)))
 refine zGy ?_;intro w8 hw8;obtain⟨q8,xj⟩:=hw8;have b8:Hid (zb w7 w8):=by rw[xj];exact zGl w7 q8.d q8.os
 have D8:Hid (cJ w8 d k win first j f t (room+1) C q (S++[N]) (H++[A])):=D7.out.below b8.out (zAb _);have V8:Hid (dN (jV w d hb t b) w w8):=V7.out.trans (dN.of b8.out (zAb _));clear xj y1 y3 D7 V7 b8;by_cases F:win<n+1
 .have hwi:(win:Int)<(n:Int)+1:=by{omega};have zy:=vD D8.out (by rw[B];omega);go_wp2_with fail;refine zy.mono ?_;clear zy;rintro e w9 ⟨rfl,zc,yi⟩;have D9:Hid (cJ w9 d k win (first+1) j f t room C q ((S++[N]).drop 1) ((H++[A]).drop 1)):=zc (by omega);have V9:Hid (dN (jV w d hb t b) w w9):=V8.out.four yi uh.out uk.out;clear zc yi;dsimp only;go_wp2;go_ret2;exact .of ⟨rfl,j,f,C,q,A,zv.out,by rw[zz.out,zt.out,zAq F,zAq F,<-List.drop_one];exact D9.out,uh.out,uk.out,V9.out⟩
 .have hwi:¬((win:Int)<(n:Int)+1):=by{omega};go_wp2;go_ret2;exact .of ⟨rfl,j,f,C,q,A,zv.out,by rw[zz.out,zt.out,zAn F,zAn F];exact D8.out.less (Nat.le_succ _),uh.out,uk.out,V8.out⟩
end
def fR (s:St):List bS:=(dG s).map Yx
def sG (s):bC (fR s)=dG s:=by
 unfold fR bC;rw[zEh];conv=>rhs;rw[<-List.map_id (dG s)]
 apply zFh;intro e _;rfl
def Ro (s):(fR s).length<=64:=by unfold fR;rw[zDj,<-Lw];exact Ss s 64
def WL (s:St):Prop:=∀k v,s k=aA v->v.length<=100
def Ke {s}(h:WL s):JC (fR s):=by
 have d:mP (fR s):=by have a:=RM s;rw[<-sG]at a;exact zDn.1 a
 refine⟨Sub.zero d λu b=> ?_,λu b=> ?_,λu b=> ?_⟩
 .obtain⟨e,c,rfl⟩:=zCg.1 b;obtain⟨k,_,a,_⟩:=Ku c;show e.1.length=32;rw[a];exact Ht k
 .obtain⟨e,c,rfl⟩:=zCg.1 b;obtain⟨k,_,_,a⟩:=Ku c;exact h k e.2 a
 .obtain⟨e,c,rfl⟩:=zCg.1 b;rfl
def EZ {s}(h:WL s)(l):WL (s.with l):=Jy h l
def YI (r:Int×Int):(dR r).idx.length=32/\(dR r).val.length<=100/\((dR r).gone=aE->(dR r).val=[]):=by
 unfold dR;split
 .exact⟨iS _,zBr _,λ_=>rfl⟩
 .refine⟨iS _,?_,λh=>by cases h⟩;show(valOf r.2).length<=100;have:=wA r.2;omega
def Kf {s}(h:WL s)(l):bJ (fR s) (cQ ((l.take 20).map dR))=fR (s.with l):=by
 refine JC.same ((Ke h).cY λu a=> ?_) (Ke (EZ h l)) ?_
 .have b:=qO a;obtain⟨r,_,rfl⟩:=zCg.1 b;exact⟨(YI r).1,(YI r).2.1⟩
 .rw[BX,sG,sG,NW (RM s),Ei]
def rY (rs:Nat->zII)(f:Nat):Nat->List (List bS)
 |0=>[]
 |n+1=>fR (mL rs f)::rY rs (f+1) n
def tG (rs:Nat->zII):∀n f,(rY rs f n).length=n
 |0,_=>rfl
 |n+1,f=>by rw[rY,zAh,tG rs n]
def GW (rs:Nat->zII):∀n f i,i<n->(rY rs f n)[i]? =aA (fR (mL rs (f+i)))
 |n+1,f,0,_=>rfl
 |n+1,f,i+1,h=>by rw[rY,List.getElem?_cons_succ,GW rs n (f+1) i (by omega),show f+1+i=f+(i+1) by omega]
def AM (rs:Nat->zII):∀n f,rY rs f (n+1)=rY rs f n++[fR (mL rs (f+n))]
 |0,f=>rfl
 |n+1,f=>by rw[rY,AM rs n (f+1),rY,zCe,show f+1+n=f+(n+1) by omega]
def WE (rs:Nat->zII):∀j,WL (mL rs j)
 |0=>λ_ _ h=>by cases h
 |j+1=>EZ (WE rs j) (rs j)
def FI (j:Nat):Nat:=if j=0 then 100000 else 97437-5073*(j-1)
def Ol (rs:Nat->zII)(j)(h:j<20):∃n,FI j=FI (j+1)+1+n+1/\mC (bC (fR (mL rs (j+1)))) (bC (fR (mL rs j))) 0<=n:=by
 rw[sG,sG];by_cases a:j=0
 .subst a;refine⟨2561,rfl,?_⟩;have b:dG (λ_=>aB)=[]:=by{decide+kernel};have c:=YY (rs 0);show TS (dG (St.with (λ_=>aB) (rs 0))) (dG (λ_=>aB))<=2561;rw[b];exact c
 .refine⟨5071,?_,Hf (mL rs j) (rs j)⟩;unfold FI;rw[zAn a,zAn (by omega)];omega
open Go Go.RowKit
section
variable {P:zZ}
variable {ops:zQ}{rest:List Oper}{o:Oper}{a:Act}{w:zW}{K:Act->zW->Prop}{Q:zX}{E:Prop}
end
def Bc {B w w1 w2 F}(h:Below B w w1)(hs:dN F w1 w2)(hF:∀x,F x->B<=x)(c:B<=w1.heap.size):Below B w w2:=⟨hs.os.trans h.os,hs.tape.trans h.tape,hs.output.trans h.output,zAw h.size hs.size,λk a=>(hs.block k (zAc a c) (λe=>by have:=hF k e;omega)).trans (h.block k a)⟩
section
variable {w w':zW}{d k win first hb dH t room b cap:Nat}{S:List (List bS)}{H:zLL}
end
def RF.mono {R a e w}(h:RF R e w)(g:∀x,R x w->a x w):RF a e w:=h.imp (λ⟨x,f,c⟩=>⟨x,f,g x c⟩) id
def Je {H:zLL}{w:zW}{d k win f m j hb dH t b cap base:Nat}{v:zY}(rs:Nat->zII)(D:cJ w d k win f hb dH t (FI j) b cap (rY rs f m) H)(N:dE w base v (((rs j).take 20).map dR))(L:f+m=j+1)(Q:1<=m)(J:m<=win)(P:win<=20)(K:j<20):
  Calls zq 19 #[aN (aA ⟨d,0,aB⟩),v] w (RF λx w'=>x= .tuple #[aC aD ((j:Int)+1),aC aD 0]/\∃o s p a h n c,IQ k f m (fR (mL rs (j+1))) H o/\cJ w' d k win s a h t (FI (j+1)) n c (rY rs s p) (if win<m+1 then(H++[o]).drop 1 else H++[o])/\s=(if win<m+1 then f+1 else f)/\s+p=j+2/\1<=p/\p<=win/\(a=hb\/w.heap.size<=a)/\(n=b\/w.heap.size<=n)/\dN (jV w d hb t b) w w'):=by
 obtain⟨m0,rfl⟩:∃m0,m=m0+1:=⟨m-1,by omega⟩;have z:f+m0=j:=by omega
 have l:bJ (fR (mL rs j)) (cQ (((rs j).take 20).map dR))=fR (mL rs (j+1)):=Kf (WE rs j) (rs j);have B:rY rs f (m0+1)=rY rs f m0++[fR (mL rs j)]:=by rw[AM,z]
 have hlen:(rY rs f m0++[fR (mL rs j)]).length=m0+1:=by rw[<-B,tG]
 have A:rY rs f m0++[fR (mL rs j)]++[fR (mL rs (j+1))]=rY rs f (m0+2):=by rw[<-B,AM rs (m0+1),show f+(m0+1)=j+1 by omega]
 rw[B]at D;obtain⟨O,y,i⟩:=Ol rs j K;rw[y]at D;have H:=Jf (rY rs f m0) (fR (mL rs j)) (((rs j).take 20).map dR) v base D N (by rw[zDj,zBj];omega) (λu I=>by obtain⟨r,_,rfl⟩:=zCg.1 I;exact YI r) (by rw[hlen];omega) (by rw[l];have:=Ro (mL rs (j+1));omega) (by rw[l];exact i) (by omega) (by omega) (by omega);rw[l,hlen,A]at H;refine H.mono λe w' M=>RF.mono M λx=> ?_;rintro⟨rfl,a,h,n,c,o,C,q,G,F,E⟩;refine⟨by rw[show((f:Int)+((m0+1:Nat):Int))=(j:Int)+1 by omega],?_⟩;by_cases g:win<m0+1+1
 .rw[zAq g,zAq g,zAq g]at q;simp only[zAq g];exact⟨o,f+1,m0+1,a,h,n,c,C,q,rfl,by omega,by omega,by omega,G,F,E⟩
 .rw[zAn g,zAn g,zAn g]at q;simp only[zAn g];exact⟨o,f,m0+2,a,h,n,c,C,q,rfl,by omega,by omega,by omega,G,F,E⟩
def JU (i wo:Int)(k b:Nat)(w:zW)(h:Base w)(P: -9223372036854775808<=i)(O:i<=9223372036854775807)(N: -9223372036854775808<=wo)(M:wo<=9223372036854775807)(A:(k:Int)=1+eP i 32)(v:(b:Int)=1+eP wo 20):
  Calls zq 14 #[aC aD 0,aC aD i,aC aD wo] w λe j=>∃d f t g,e=aL (aN (aA ⟨d,0,aB⟩))/\cJ j d k b 0 f 1 t 100000 g 1 [[]] [dg k [3]]/\w.heap.size<=d/\w.heap.size<=f/\w.heap.size<=t/\w.heap.size<=g/\zb w j:=by
 obtain⟨a,E,K⟩:=iQ i 32 (by omega);obtain⟨c,D,J⟩:=iQ wo 20 (by omega);have p:eP i 32=(a:Int):=E;have n:eP wo 20=(c:Int):=D;have q:=λW=>qA i 32 W P O (by omega) (by omega);have H:=λW=>qA wo 20 W N M (by omega) (by omega);rw[p]at q A;rw[n]at H v;have z:k=a+1:=by omega
 have u:b=c+1:=by omega
 have y:1<=k:=by omega
 have x:k<=32:=by omega
 have s:1<=b:=by omega
 have r:b<=50:=by omega
 have T:Hid (Base w):=h;have C:(1:Int)+(a:Int)=(k:Int):=A.symm;have B:(1:Int)+(c:Int)=(b:Int):=v.symm;have I:Hid ((1:Int)+(a:Int)=(k:Int)):=C;have G:Hid ((1:Int)+(c:Int)=(b:Int)):=B;clear h E D p n A v z u C B;have S:Hid (∀W,W=w->Calls zq 35 #[.agg #[aC aD 0,aC aD k,aC aD b,aC aD 100000]] W λe j=>∃d f t g,e=aL (.tuple #[aN (aA ⟨d,0,aB⟩),aC aD 0])/\cJ j d k b 0 f 1 t 100000 g 1 [[]] [dg k [3]]/\W.heap.size<=d/\W.heap.size<=f/\W.heap.size<=t/\W.heap.size<=g/\zb W j):=λW L=>by subst L;exact Af k b 100000 W T.out y x s r (by omega) (by omega)
 go_enter (Qz.fn func14),ntmps14;go_wp2_with fail;refine(q _).mono ?_;rintro e w1 ⟨rfl,m⟩;subst m;dsimp only;go_wp2_with fail;refine(H _).mono ?_;rintro e w2 ⟨rfl,l⟩;subst l;dsimp only;have Q:IntKind.i64.wrap ((1:Int)+(a:Int))=(k:Int):=by rw[zGj,I.out];omega
 have R:IntKind.i64.wrap ((1:Int)+(c:Int))=(b:Int):=by rw[zGj,G.out];omega
 have C:=I.out;have B:=G.out;go_wp2_with fail;refine(S.out _ rfl).mono ?_;rintro e w3 ⟨d,f,t,g,rfl,F,g1,g2,g3,g4,o⟩;have U:Hid (zb w2 w3):=o;have D3:Hid (cJ w3 d k b 0 f 1 t 100000 g 1 [[]] [dg k [3]]):=F;clear o F;dsimp only;go_wp2;go_ret;exact⟨d,f,t,g,rfl,D3.out,g1,g2,g3,g4,U.out⟩
section
variable {w:zW}{d k win first hb dH t room b cap:Nat}{S:List (List bS)}{H:zLL}
def VG (h:cJ w d k win first hb dH t room b cap S H){i:Nat}{x:zB}(hi:H[i]? =aA x):
  Calls zq 16 #[aN (aA ⟨d,0,aB⟩),aC aD ((first:Int)+(i:Int))] w λe o=>e=aL (.tuple #[aK ⟨x.toArray⟩,aC aD 0])/\zb w o:=by
 have f:i<S.length:=h.hlen▸(zAu.1 hi).1;have m:=tZ h f;have n:Hid (cJ w d k win first hb dH t room b cap S H):=h;have F:=h.f1;have hl:=h.JY.len;have C:Hid (H[i]? =aA x):=hi;have v:IntKind.i64.wrap (i:Int)=(i:Int):=by rw[zGj];omega
 have j:(first:Int)+(i:Int)-(first:Int)=(i:Int):=by omega
 have z:(i:Int)<(S.length:Int):=by omega
 have A:¬((i:Int)<0):=by omega
 have y:(0:Int)<=(i:Int):=by omega
 clear h hi;go_enter (Qz.fn func16),ntmps16;go_wp2_with fail;refine m.mono ?_;clear m;rintro e w2 ⟨rfl,a⟩;have B:Hid (zb w w2):=a;have E:=n.out.below a (zAb _);have u:=cX ((E.cell 2).trans (rfl:_=aA (Value.int aD first))) E.lt;have s:=cX ((E.cell 3).trans (rfl:_=aA (Value.slice (aA ⟨hb,0,aB⟩) S.length dH))) E.lt;have p:w2.cell? ⟨hb,i,aB⟩=aA (aK ⟨x.toArray⟩):=by
  obtain⟨g,c1,c2,c3,c4,c5,c6,G⟩:=eR.row E.fX;rw[zGv w2 hb i g _ (0,0) c1,<-zBp];have:(fZ H)[i]? =aA (aK ⟨x.toArray⟩):=by unfold fZ;rw[zDo,C.out];rfl
  rw[<-c6,zCs,zAq (by omega)]at this;exact this
 have r:=cX p (eR.lt E.fX hb rfl).2;clear a n E p;dsimp only;go_wp2_with fail;refine zGr (by kernel_rfl) (by kernel_rfl) ?_;repeat (any_goals(first|go_big_quiet_step (fail)|quiet_step (fail)))
 refine zGy ?_;intro W c;obtain⟨q,l⟩:=c;have D:Hid (zb w W):=bE B.out (by rw[l];exact zGl w2 q.d q.os) B.out.size;clear l u s r;go_wp2;go_ret2;exact⟨rfl,D.out⟩
def PF {c:Nat}(h:cJ w d k win first hb dH t (room+c) b cap S H)(l:c<S.length)(g:first+c<=1000000):
  Calls zq 25 #[aN (aA ⟨d,0,aB⟩),aC aD ((first:Int)+(c:Int))] w λe i=>e=aL (aC aD 0)/\cJ i d k win (first+c) hb dH t room b cap (S.drop c) (H.drop c)/\dN (jV w d hb t b) w i:=by
 have o:=tZ h l;have p:Hid (cJ w d k win first hb dH t (room+c) b cap S H):=h;have hl:=h.JY.len;have r:IntKind.i64.wrap (c:Int)=(c:Int):=by rw[zGj];omega
 have j:(first:Int)+(c:Int)-(first:Int)=(c:Int):=by omega
 clear h;go_enter (Qz.fn func25),ntmps25;go_wp2_with fail;refine o.mono ?_;clear o;rintro e w2 ⟨rfl,a⟩;have s:Hid (dN (jV w d hb t b) w w2):=dN.of a (zAb _);have E:Hid (cJ w2 d k win first hb dH t (room+c) b cap S H):=p.out.below a (zAb _);clear a p;dsimp only;have q:w2.cell? ⟨d,2,aB⟩=aA (aC aD first):=E.out.cell 2;have f:=vD E.out l;go_wp2_with fail;refine f.mono ?_;clear f;rintro e w3 ⟨rfl,n,m⟩;have D3:Hid (cJ w3 d k win (first+c) hb dH t room b cap (S.drop c) (H.drop c)):=n g;have V:Hid (dN (jV w d hb t b) w w3):=s.out.four m (aG rfl) (aG rfl);clear n m q;dsimp only;go_wp2;go_ret;exact⟨rfl,D3.out,V.out⟩
def PU (us:List bS)(v:zY)(f:PY w v us)(i:us.length<=20)(hb:∀u∈us,u.idx.length<=1000000/\u.val.length<=1000000)(h:us.all CB=aF):
  Calls zq 19 #[aN (aA ⟨d,0,aB⟩),v] w λe g=>(∃x,e=aL x)/\zb w g:=by
 have a:=CI v us w (by omega) f hb;rw[h]at a;clear f hb;go_enter (Qz.fn func19),ntmps19;go_wp2_with fail;refine a.mono ?_;clear a;rintro e w1 ⟨rfl,c⟩;have B:Hid (zb w w1):=c;clear c;dsimp only;go_wp2;go_ret2;exact⟨⟨_,rfl⟩,B.out⟩
end
open Go.RowKit Sha
def Pb:dg 2 [0]=[110,52]:=by rw[dg,Lb]
def SF (idx):parse 2 idx [0,0,0]=aA ⟨0,[],[],[],[]⟩:=by rw[BY (by decide) (by decide) (by decide) (by decide) (λi _ h=>absurd h (by simp[dD,dP])) rfl,qF];rfl
def JJ (idx)(h:idx.length=32):verdict [110,52] idx [0,0,0]=(2,[],0):=by
 have a:(PW.mk 0 [] [] [] []).root 2 idx=[110,52]:=by show dg 2 [0]=_;exact Pb
 rw[verdict,zAn (by simp[h])];have b:parse ([110,52]:zB).length idx [0,0,0]=aA ⟨0,[],[],[],[]⟩:=SF idx;rw[b];exact zAq a
def Ho (w)(i:fF w):Calls zq 13 #[] w λe g=>e=aL (.bool aE)/\zb w g:=by have H:=hid i;go_enter (Qz.fn func13),ntmps13;go_wp2_with fail;refine(Ag 2 ⟨#[97,98,99]⟩ w (by omega) (by omega) (by decide) H.out).mono ?_;rintro e w1 ⟨rfl,b⟩;have f:=hid b;rw[show gp 2 (⟨#[97,98,99]⟩:ByteArray).data.toList=gp 2 [97,98,99]from rfl,Pa];go_wp2_with fail;refine(tD 0 w1 (by omega) (by omega)).mono ?_;rintro e w2 ⟨rfl,a⟩;have B:=bE f.out a f.out.size;have c:=iS 0;generalize idxOf 0=I at*;go_wp2_with fail;refine(TA ⟨#[110,52]⟩ ⟨I.toArray⟩ ⟨#[0,0,0]⟩ w2 (by decide) (by decide) (H.out.below B.out (zAb _))).mono ?_;rintro e w3 ⟨h,rfl⟩;rw[show verdict (⟨#[110,52]⟩:ByteArray).data.toList (⟨I.toArray⟩:ByteArray).data.toList (⟨#[0,0,0]⟩:ByteArray).data.toList=(2,[],0)from JJ _ c];have d:=bE B.out h B.out.size;simp only[kL];go_wp2;go_ret;exact⟨rfl,d.out.alloc d.out.size _⟩
structure tS (w:zW)(va:zO)(E:List (zII)):Prop where
 OP:∀i l,E[i]? =aA l->∃g o ev,va=aA ⟨g,o,aB⟩/\g<w.heap.size/\w.cell? ⟨g,o+i,aB⟩=aA ev/\tO w ev l/\l.length<=4611686018427387904
def kK (w0:zW)(rs:Nat->zII)(d k t j:Nat)(H:zLL)(w:zW):Prop:=∃a h b cap,cJ w d k 20 0 a h t (FI j) b cap (rY rs 0 (j+1)) H/\w0.heap.size<=a/\w0.heap.size<=b/\w0.heap.size<=d/\w0.heap.size<=t/\zb w0 w
def kK.below {w0 w w':zW}{rs:Nat->zII}{d k t j:Nat}{H:zLL}(h:kK w0 rs d k t j H w)(e:zb w w'):kK w0 rs d k t j H w':=by obtain⟨c,a,b,cap,D,l,i,g,f,B⟩:=h;exact⟨c,a,b,cap,D.below e (zAb _),l,i,g,f,bE B e B.size⟩
def GP {w0 w w':zW}{d c t b:Nat}(a:∀x,¬eM w0 x)(B:zb w0 w)(hs:dN (jV w d c t b) w w')(i:w0.heap.size<=c)(g:w0.heap.size<=b)(f:w0.heap.size<=d)(e:w0.heap.size<=t):zb w0 w':=Bc B hs (λx h=>by
 obtain rfl|rfl|rfl|rfl|h:=h
 .exact f
 .exact i
 .exact e
 .exact g
 .exact Nat.le_of_not_lt λbW=>a x (h.same (B.block x bW).symm)) B.size
def kK.apply {w0 w:zW}{rs:Nat->zII}{d k t j base:Nat}{H:zLL}{v:zY}(i:∀x,¬eM w0 x)(h:kK w0 rs d k t j H w)(E:dE w base v (((rs j).take 20).map dR))(K:j<19):
  Calls zq 19 #[aN (aA ⟨d,0,aB⟩),v] w (RF λx n=>∃m,kK w0 rs d k t (j+1) (H++[m]) n):=by
 obtain⟨C,p,b,cap,D,G,F,s,r,B⟩:=h;refine(Je rs D E (by omega) (by omega) (by omega) (zAb _) (by omega)).mono λe n A=>RF.mono A λx=> ?_;rintro⟨rfl,m,L,u,l,a,I,c,_,q,o,z,_,_,g,f,y⟩;have J:=B.size;rw[zAn (by omega)]at q o;subst o;obtain rfl:u=j+1+1:=by omega
 exact⟨m,l,a,I,c,q,by obtain h|h:=g<;>omega,by obtain h|h:=f<;>omega,s,r,GP i B y G F s r⟩
structure IN (w:zW)(d p:Nat)(I r x q:zB):Prop where
 root:∀W,zb w W->Calls zq 21 #[aN (aA ⟨d,0,aB⟩),aC aD (p:Int)] W (RF λv w'=>v= .tuple #[aK ⟨r.toArray⟩,aC aD 0]/\zb W w')
 head:∀W,zb w W->Calls zq 16 #[aN (aA ⟨d,0,aB⟩),aC aD (p:Int)] W λe w'=>e=aL (.tuple #[aK ⟨x.toArray⟩,aC aD 0])/\zb W w'
 prove:∀W,zb w W->Calls zq 24 #[aN (aA ⟨d,0,aB⟩),aC aD (p:Int),aK ⟨I.toArray⟩] W (RF λv w'=>v= .tuple #[aK ⟨q.toArray⟩,aC aD 0]/\zb W w')
def cJ.By {w:zW}{d k g f j a t room b cap p:Nat}{S:List (List bS)}{H:zLL}{us:List bS}{I x:zB}(h:cJ w d k g f j a t room b cap S H)(i:S[p-f]? =aA us)(m:H[p-f]? =aA x)(n:f<=p)(l:I.length=32):IN w d p I (jE k (bC us) 0) x (lT k (sD k I 256 (bC us) 0)):=by
 have e:(f:Int)+((p-f:Nat):Int)=(p:Int):=by omega
 refine⟨λW c=> ?_,λW c=> ?_,λW c=> ?_⟩
 .have:=VF (h.below c (zAb _)) i;rw[e]at this;exact this
 .have:=VG (h.below c (zAb _)) m;rw[e]at this;exact this
 .have:=PG (h.below c (zAb _)) i I l;rw[e]at this;exact this
def kK.kept {w0 w:zW}{rs:Nat->zII}{d k t j:Nat}{H:zLL}(h:kK w0 rs d k t j H w):Calls zq 23 #[aN (aA ⟨d,0,aB⟩)] w λe c=>e=aL (.tuple #[aC aD 0,aC aD (j:Int)])/\zb w c:=by obtain⟨f,a,b,cap,D,_⟩:=h;have:=UC D;rw[tG,show((0:Nat):Int)+((j+1:Nat):Int)-1=(j:Int) by omega]at this;exact this
def kK.has {w0 w:zW}{rs:Nat->zII}{d k t j:Nat}{H:zLL}(h:kK w0 rs d k t j H w){p:Nat}(e:p<=j):∃x,H[p]? =aA x:=by obtain⟨c,a,b,cap,D,_⟩:=h;have:=D.hlen;rw[tG]at this;exact⟨_,zAf (by omega)⟩
def kK.base {w0 w:zW}{rs:Nat->zII}{d k t j:Nat}{H:zLL}(h:kK w0 rs d k t j H w):zb w0 w:=by obtain⟨_,_,_,_,_,_,_,_,_,B⟩:=h;exact B
def kK.By {w0 w:zW}{rs:Nat->zII}{d k t j p:Nat}{H:zLL}{I x:zB}(h:kK w0 rs d k t j H w)(g:p<=j)(f:H[p]? =aA x)(e:I.length=32):IN w d p I (jE k (bC (fR (mL rs p))) 0) x (lT k (sD k I 256 (bC (fR (mL rs p))) 0)):=by obtain⟨c,a,b,cap,D,_⟩:=h;exact D.By (us:=fR (mL rs p)) (by rw[Nat.sub_zero,GW rs _ _ _ (by omega),zAx]) f (zBr _) e
def kK.prune {w0 w:zW}{rs:Nat->zII}{d k t j p c:Nat}{H:zLL}{I x:zB}(f:∀x,¬eM w0 x)(h:kK w0 rs d k t j H w)(A:j<=18)(z:p<=j)(C:c<=p)(o:H[p]? =aA x)(n:I.length=32):
  Calls zq 25 #[aN (aA ⟨d,0,aB⟩),aC aD (c:Int)] w λe a=>e=aL (aC aD 0)/\IN a d p I (jE k (bC (fR (mL rs p))) 0) x (lT k (sD k I 256 (bC (fR (mL rs p))) 0))/\zb w0 a:=by
 obtain⟨m,g,b,cap,D,y,v,u,s,B⟩:=h;have i:=PF (c:=c) (D.less (room':=1000+c) (by unfold FI;split<;>omega)) (by rw[tG];omega) (by omega);rw[show((0:Nat):Int)+(c:Int)=(c:Int) by omega]at i;refine i.mono ?_;rintro e a ⟨rfl,q,l⟩;refine⟨rfl,q.By (us:=fR (mL rs p)) ?_ ?_ (by omega) n,GP f B l y v u s⟩
 .rw[zEu,show c+(p-(0+c))=p by omega,GW rs _ _ _ (by omega),zAx]
 .rw[zEu,show c+(p-(0+c))=p by omega];exact o
def La:bS:=⟨[115,104,111,114,116],[],aF⟩
def XZ (w:zW):PY (w.alloc (aI #[aK ⟨#[115,104,111,114,116]⟩,aK ⟨#[]⟩,.bool aF] 53)) (aJ (aA ⟨w.heap.size,0,aB⟩) 1 1) [La]:=
 aH ⟨w.heap.size,0,1,rfl,by rw[size_alloc];omega,λj u h=>by rw[zAx,zGv _ _ j _ _ (0,0) (zGn w _)];rw[<-h,<-zBp];rfl⟩
def Ey (va:zO)(vc:Nat)(E:List (zII))(vb:zO)(vd:Nat)(M:List (zII))(wi G pr:Int)(w:zW)(hB:Base w)(kj:∀x,¬eM w x)(hE:tS w va E)(hEl:E.length<=4611686018427387904)(hM:tS w vb M)(hMl:M.length<=4611686018427387904)(h1: -9223372036854775808<=wi)(h2:wi<=9223372036854775807)(h3: -9223372036854775808<=G)(h4:G<=9223372036854775807)(h5: -9223372036854775808<=pr)(h6:pr<=9223372036854775807):
  Calls zq 6 #[aJ va E.length vc,aJ vb M.length vd,aC aD wi,aC aD G,aC aD pr] w (RF λx K=>x= .bool aE/\zb w K):=by
 obtain⟨a,ha,_⟩:=iQ wi 32 (by omega);have hk:((a+1:Nat):Int)=1+eP wi 32:=by rw[show eP wi 32=(a:Int)from ha];omega
 generalize a+1=k at hk;clear ha;have HB:Hid (Base w):=hB;have ud:Hid (∀x,¬eM w x):=kj;have HE:Hid (tS w va E):=hE;have HM:Hid (tS w vb M):=hM;have ue:=λW=>tD G W h3 h4;have si:Hid ((idxOf G).length=32):=iS G;generalize idxOf G=I at ue si;have HI:Hid (∀W,Calls zq 22 #[aC aD G] W λe K=>e=aL (aK ⟨I.toArray⟩)/\zb W K):=ue;clear hB hE hM kj ue;obtain⟨n,qh⟩:∃n,n=E.length:=⟨_,rfl⟩;have zw:Hid (n=E.length):=qh;obtain⟨L,qg⟩:∃L,L=M.length:=⟨_,rfl⟩;have zu:Hid (L=M.length):=qg;rw[<-qh]at hEl⊢;rw[<-qg]at hMl⊢;obtain⟨s,km,hn2⟩:∃s,(n<=9->s=n)/\(9<=n->s=9):=⟨min n 9,by omega,by omega⟩;obtain⟨rs,pq⟩:∃rs:Nat->zII,rs=λi=>if i<s then E.getD i []else M.getD (i-s) []:=⟨_,rfl⟩
 have HRE:Hid (∀i l,i<s->E[i]? =aA l->rs i=l):=λi l hi h=>by rw[pq];simp only[zAq hi];rw[zBo,h];rfl
 have HRM:Hid (∀i l,M[i]? =aA l->rs (s+i)=l):=λi l h=>by rw[pq];simp only[zAn (show¬s+i<s by omega)];rw[zBo,show s+i-s=i by omega,h];rfl
 clear qh qg pq;have z:((20:Nat):Int)=1+eP 19 20:=by decide
 go_enter (Qz.fn func6),ntmps6;go_wp2_with fail;refine(Ho w HB.out.iM).mono ?_;rintro e w1 ⟨rfl,Yg⟩;have B1:Hid (zb w w1):=Yg;have H1:Hid (Base w1):=HB.out.below Yg (zAb _);clear Yg;dsimp only;go_wp2_with fail;refine(JU wi 19 k 20 w1 H1.out h1 h2 (by omega) (by omega) hk z).mono ?_;rintro e w2 ⟨d,hb,t,bb,rfl,hD,g1,g2,g3,g4,ZU⟩;have No:=hD.JY.k1;have Yb:=hD.JY.k2;have J2:Hid (kK w rs d k t 0 [dg k [3]] w2):=⟨hb,1,bb,1,hD,by have:=B1.out.size;omega,by have:=B1.out.size;omega,by have:=B1.out.size;omega,by have:=B1.out.size;omega,bE B1.out ZU B1.out.size⟩;generalize [dg k [3]]=H0 at J2;clear ZU hD B1 H1 g1 g2 g3 g4;dsimp only;go_upto_region 6 with(fail)
 go_loopg [13] 9 (λq i wr=>∃(j:Nat)(H:zLL),j+q=9/\j<=n/\i=aC aD (j:Int)/\kK w rs d k t j H wr);case atStart=>exact⟨0,H0,by omega,by omega,rfl,J2.out⟩
 case round=>
  obtain⟨j,H,hj,hjn,rfl,hJ⟩:=hrel
  have JA:Hid (kK w rs d k t j H wr):=hJ
  clear hJ J2
  obtain⟨bW,ef⟩|⟨bW,ef⟩|bW:=(show(j<n/\j<9)\/(j<n/\¬j<9)\/¬j<n by omega)
  .have A:=zAf (l:=E) (i:=j) (by have:=zw.out;omega);generalize E[j]'(by have:=zw.out;omega)=l at A;obtain⟨g,o,ev,rfl,hg,b,f,hlen⟩:=HE.out.OP j l A;have ub:Hid (rs j=l):=HRE.out j l (by omega) A;have HR:Hid (tO w ev l):=f;have B4:Hid (zb w wr):=JA.out.base;have Nt:wr.cell? ⟨g,o+j,aB⟩=aA ev:=by{rw[B4.out.cell (p:=⟨g,o+j,aB⟩) hg];exact b};have Vf:(j:Int)<(n:Int):=by{omega};have hj2:(j:Int)<9:=by{omega};have Zw:¬((j:Int)<0):=by{omega};have hj3:(0:Int)<=(j:Int):=by{omega};clear A f b;go_wp2_with fail;refine(MS ev l wr (HR.out.below B4.out (zAb _)) hlen).mono ?_;rintro e w7 ⟨v7,rfl,D,C⟩;have O7:Hid (dE w7 wr.heap.size v7 (((rs j).take 20).map dR)):=by{rw[ub.out];exact D};have J7:Hid (kK w rs d k t j H w7):=JA.out.below C;clear D C Nt JA B4;dsimp only;have J:=J7.out.apply ud.out O7.out (by omega);go_wp2_with fail;refine J.mono ?_;clear J;rintro e w8 (⟨_,rfl,HX,F⟩|⟨c,rfl,he⟩);rotate_left;{exact⟨rfl,.told he⟩};have J8:Hid (kK w rs d k t (j+1) (H++[HX]) w8):=F;clear F J7 O7;dsimp only;go_wp2;go_roundg (9-(j+1));case measure=>go_light;omega
   case rel=>go_light;exact⟨j+1,H++[HX],by omega,by omega,by go_num,J8.out⟩
  all_goals
   first|(have Vf:¬((j:Int)<(n:Int)):=by omega)|(have Vf:(j:Int)<(n:Int):=by omega)
   try(have hj2:¬((j:Int)<9):=by omega)
   obtain rfl:j=s:=by omega
   obtain⟨p,hp,hpj⟩:=iQ G (j+1) (by omega)
   have HP:Hid (∀W,Calls zq 15 #[aC aD G,aC aD ((j:Int)+1)] W λe K=>e=aL (aC aD (p:Int))/\K=W):=λW=>by have:=qA G ((j+1:Nat):Int) W h3 h4 (by omega) (by omega);rw[hp]at this;exact this
   obtain⟨c,hc,ra⟩:=iQ pr (p+1) (by omega)
   have HC:Hid (∀W,Calls zq 15 #[aC aD pr,aC aD ((p:Int)+1)] W λe K=>e=aL (aC aD (c:Int))/\K=W):=λW=>by have:=qA pr ((p+1:Nat):Int) W h5 h6 (by omega) (by omega);rw[hc]at this;exact this
   obtain⟨x,hx⟩:=JA.out.has (p:=p) (by omega)
   obtain⟨r,hr⟩:∃r,r=jE k (bC (fR (mL rs p))) 0:=⟨_,rfl⟩
   obtain⟨q,hq⟩:∃q,q=lT k (sD k I 256 (bC (fR (mL rs p))) 0):=⟨_,rfl⟩
   have HTE:Hid (∀W,kK w rs d k t j H W->IN W d p I r x q):=λW h=>by rw[hr,hq];exact h.By (by omega) hx si.out
   have HPR:Hid (∀j' m W,kK w rs d k t j' m W->j'<=18->p<=j'->m[p]? =aA x->Calls zq 25 #[aN (aA ⟨d,0,aB⟩),aC aD (c:Int)] W λe K=>e=aL (aC aD 0)/\IN K d p I r x q/\zb w K):=λj' m W h hj' hp' hH=>by rw[hr,hq];exact h.prune (p:=p) (c:=c) ud.out hj' hp' (by omega) hH si.out
   have HXP:Hid (H[p]? =aA x):=hx
   clear hr hq hp hc hx
   have HK:=JA.out.kept
   go_wp2_with fail
   refine HK.mono ?_
   clear HK
   rintro e w9 ⟨rfl,B⟩
   have J9:Hid (kK w rs d k t j H w9):=JA.out.below B
   clear B JA
   dsimp only
   go_wp2_with fail
   refine(HP.out _).mono ?_
   rintro e y ⟨rfl,ow⟩
   subst ow
   dsimp only
   have N:Hid (IN y d p I r x q):=HTE.out _ J9.out
   go_wp2_with fail
   refine(N.out.root _ (zGe _ _)).mono ?_
   rintro e w11 (⟨_,rfl,rfl,ft⟩|⟨c,rfl,he⟩)
   rotate_left
   .exact⟨rfl,.told he⟩
   have R:Hid (zb y w11):=ft;clear ft;dsimp only;go_wp2_with fail;refine(N.out.head _ R.out).mono ?_;rintro e w12 ⟨rfl,fq⟩;have ux:Hid (zb y w12):=bE R.out fq R.out.size;clear fq R;dsimp only;go_wp2_with fail;refine(HI.out _).mono ?_;rintro e w13 ⟨rfl,Z⟩;have Q:Hid (zb y w13):=bE ux.out Z ux.out.size;clear Z ux;dsimp only;go_wp2_with fail;refine(N.out.prove _ Q.out).mono ?_;rintro e vg (⟨_,rfl,rfl,Y⟩|⟨c,rfl,he⟩);rotate_left;{exact⟨rfl,.told he⟩};have B14:Hid (zb y vg):=bE Q.out Y Q.out.size;have zl:Hid (kK w rs d k t j H vg):=J9.out.below B14.out;clear Y Q B14 N J9;dsimp only;go_upto_region 17 with(fail)
   go_loopg [23] 9 (λq i wr=>∃(u:Nat)(m:zLL),u+q=9/\u<=L/\i=aC aD (u:Int)/\kK w rs d k t (j+u) m wr/\m[p]? =aA x);case atStart=>exact⟨0,H,by omega,by omega,rfl,zl.out,HXP.out⟩
   case round=>
    obtain⟨u,m,hu9,hun,rfl,hJ,yx⟩:=hrel
    generalize wr=wq at*
    have JB:Hid (kK w rs d k t (j+u) m wq):=hJ
    have tn:Hid (m[p]? =aA x):=yx
    clear hJ zl yx
    obtain⟨ee,qj⟩|⟨ee,qj⟩|ee:=(show(u<L/\u<9)\/(u<L/\¬u<9)\/¬u<L by omega)
    .have A:=zAf (l:=M) (i:=u) (by have:=zu.out;omega);generalize M[u]'(by have:=zu.out;omega)=l at A;obtain⟨g,o,ev,rfl,hg,b,f,hlen⟩:=HM.out.OP u l A;have ub:Hid (rs (j+u)=l):=HRM.out u l A;have HR:Hid (tO w ev l):=f;have B4:Hid (zb w wq):=JB.out.base;have Nt:wq.cell? ⟨g,o+u,aB⟩=aA ev:=by{rw[B4.out.cell (p:=⟨g,o+u,aB⟩) hg];exact b};have jx:(u:Int)<(L:Int):=by{omega};have pb:(u:Int)<9:=by{omega};have hu0:¬((u:Int)<0):=by{omega};have wz:(0:Int)<=(u:Int):=by{omega};clear A f b;go_wp2_with fail;refine(MS ev l wq (HR.out.below B4.out (zAb _)) hlen).mono ?_;rintro e w7 ⟨v7,rfl,D,C⟩;have O7:Hid (dE w7 wq.heap.size v7 (((rs (j+u)).take 20).map dR)):=by{rw[ub.out];exact D};have J7:Hid (kK w rs d k t (j+u) m w7):=JB.out.below C;clear D C Nt JB B4;dsimp only;have J:=J7.out.apply ud.out O7.out (by omega);go_wp2_with fail;refine J.mono ?_;clear J;rintro e w8 (⟨_,rfl,HX,F⟩|⟨c,rfl,he⟩);rotate_left;{exact⟨rfl,.told he⟩};have J8:Hid (kK w rs d k t (j+u+1) (m++[HX]) w8):=F;have HX8:Hid ((m++[HX])[p]? =aA x):=by{show _=_;rw[zCz (zAu.1 tn.out).1];exact tn.out};clear F J7 O7;dsimp only;go_wp2_with fail;refine(PU [La] _ (XZ w8) (by decide) (by intro u A;rw[zAm.1 A];decide) (by decide)).mono ?_;rintro e w9 ⟨⟨_,rfl⟩,B⟩;have J9:Hid (kK w rs d k t (j+u+1) (m++[HX]) w9):=(J8.out.below ((zGe _ _).alloc (zAb _) _)).below B;clear B J8;dsimp only;go_wp2;go_roundg (9-(u+1));case measure=>go_light;omega
     case rel=>go_light;exact⟨u+1,m++[HX],by omega,by omega,by go_num,J9.out,HX8.out⟩
    all_goals
     first|(have jx:¬((u:Int)<(L:Int)):=by omega)|(have jx:(u:Int)<(L:Int):=by omega)
     try(have pb:¬((u:Int)<9):=by omega)
     go_wp2_with fail
     refine(HC.out _).mono ?_
     rintro e w20 ⟨rfl,z⟩
     subst z
     dsimp only
     go_wp2_with fail
     refine(HPR.out _ _ _ JB.out (by omega) (by omega) tn.out).mono ?_
     rintro e v ⟨rfl,fy,X⟩
     have HT:Hid (IN v d p I r x q):=fy
     have uw:Hid (zb w v):=X
     clear fy X
     dsimp only
     go_wp2_with fail
     refine(HT.out.root _ (zGe _ _)).mono ?_
     rintro e w22 (⟨_,rfl,rfl,V⟩|⟨c,rfl,he⟩)
     rotate_left
     .exact⟨rfl,.told he⟩
     have P:Hid (zb v w22):=V;clear V;dsimp only;go_wp2_with fail;refine(HT.out.head _ P.out).mono ?_;rintro e w23 ⟨rfl,U⟩;have uu:Hid (zb v w23):=bE P.out U P.out.size;clear U P;dsimp only;go_wp2_with fail;refine(HI.out _).mono ?_;rintro e w24 ⟨rfl,T⟩;have O:Hid (zb v w24):=bE uu.out T uu.out.size;clear T uu;dsimp only;go_wp2_with fail;refine(HT.out.prove _ O.out).mono ?_;rintro e w25 (⟨_,rfl,rfl,S⟩|⟨c,rfl,he⟩);rotate_left;{exact⟨rfl,.told he⟩};have B25:Hid (zb w w25):=bE uw.out (bE O.out S O.out.size) uw.out.size;clear S O uw HT;dsimp only;go_wp2;go_ret;exact .of ⟨rfl,B25.out⟩
end Go.Proofs.Zq
