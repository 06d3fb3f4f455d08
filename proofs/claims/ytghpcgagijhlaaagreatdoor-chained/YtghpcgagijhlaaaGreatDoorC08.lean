import Derived.Shelf.SlSortCmp.InsertionK
import Derived.Sort.LotA
import Derived.Shelf.SlicesE.Clone
import Derived.Shelf.Small.Strs
import Derived.Lib.OwnBridge
import Derived.Shelf.SlSortCmp.KitK
import Derived.Sort.WalkB2
import Derived.Sort.WalkB12
import Derived.Deep.RegionHeld2
import Derived.OrdersHeld
import Derived.Deep.RegionHeld
import Derived.Laws.Rows
import Derived.Test.YtghpcgagijhlaaaGreatDoorC07
set_option linter.all false
set_option maxRecDepth 100000
set_option maxHeartbeats 16000000
open Option renaming some->aA,none->aB
open Bool renaming true->aF,false->aG
open Or renaming inl->aH,inr->aI
open Go.Ending renaming returned->aM
open Go.Obj renaming cells->aJ
open Go.IntKind renaming i64->aD,u8->aQ
open Go.Value renaming slice->aK,string->aL,pointer->aO,int->aC
open Array renaming getElem_toList->aFm,toArray_toList->aFn
open Bool renaming not_eq_true'->aFo,and_comm->aFp,false_ne_true->aFq
open Go.AllReady renaming cons->aFr,nil->aFs
open Go.Calls renaming grown_of->aFt
open Go.Lib renaming compareBytes->aE1
open Nat renaming add_zero->aFu,succ->aFv
open UInt8 renaming ofNat->aEX
open Go.Proofs.Tryz
namespace Go.Proofs.Zq
open Go.RowKit Sha
instance:Inhabited bK:=⟨⟨[],[],aG⟩⟩
def uD (x y:bK):Int:=aE1 x.idx y.idx
def lL (x y):ltOf uD x y=aF↔aE1 x.idx y.idx= -1:=by unfold ltOf uD;rw[zBr];obtain h|h|h:=gQ x.idx y.idx<;>omega
def Wd:Go.Sort.SWO (ltOf uD):=by
 refine⟨λx=> ?_,λx y z d c=> ?_,λx y z d c=> ?_⟩
 .rw[zFb,Ne,lL,dC];decide
 .rw[lL]at*;exact nF d c
 .rw[zFb,Ne,lL]at*;intro h;have i:=fS x.idx y.idx;have g:=fS y.idx z.idx;obtain a|a|a:=gQ x.idx y.idx
  .exact d a
  .rw[jC a]at h;exact c h
  .obtain b|b|b:=gQ y.idx z.idx
   .exact c b
   .rw[<-jC b]at h;exact d h
   .have e:aE1 y.idx x.idx= -1:=by{omega};have f:=nF e h;omega
def dA (I:zB)(l:List bK):List bK:=l.filter λu=>u.idx==I
def Kf {α:Type}(A B)(x y:α):((A++x::y::B).set (A.length+1) x).set A.length y=A++y::x::B:=by
 induction A with
 |nil=>rfl
 |cons a A i=>simp only[zBz,zAf,zCq,i]
def Ea {α} [Inhabited α] (d:Array α)(j)(h:j+1<d.size):
  ∃A B,d.toList=A++d[j]! ::d[j+1]! ::B/\(Go.Sort.swp d (j+1) j).toList=A++d[j+1]! ::d[j]! ::B:=by
 have b:j<d.toList.length:=by simpa using Nat.lt_of_succ_lt h
 have a:j+1<d.toList.length:=by simpa using h
 have f:d[j]! =d.toList[j]:=by rw[zEf d j (by simpa using b)];simp
 have e:d[j+1]! =d.toList[j+1]:=by rw[zEf d (j+1) h];simp
 have c:d.toList=d.toList.take j++d.toList[j]::d.toList[j+1]::d.toList.drop (j+2):=by rw[<-List.drop_eq_getElem_cons a,<-List.drop_eq_getElem_cons b,zBy]
 have hl:(d.toList.take j).length=j:=by rw[zBe];omega
 refine⟨d.toList.take j,d.toList.drop (j+2),by rw[f,e];exact c,?_⟩;unfold Go.Sort.swp;rw[zGa,zGa,f,e];have:=Kf (d.toList.take j) (d.toList.drop (j+2)) d.toList[j] d.toList[j+1];rw[<-c,hl]at this;exact this
def Qv (I)(d)(j)(h:j+1<d.size)(hl:ltOf uD d[j+1]! d[j]! =aF):dA I (Go.Sort.swp d (j+1) j).toList=dA I d.toList:=by
 obtain⟨A,B,g,f⟩:=Ea d j h;rw[lL]at hl;have c:(d[j+1]!).idx≠(d[j]!).idx:=λe=>by rw[e,dC]at hl;cases hl
 rw[g,f];unfold dA;rw[zDb,zDb];congr 1;by_cases b:(d[j]!).idx=I
 .have a:(d[j+1]!).idx≠I:=λe=>c (e.trans b.symm);rw[zAp (by simpa using a),zAy (by simpa using b),zAy (by simpa using b),zAp (by simpa using a)]
 .by_cases a:(d[j+1]!).idx=I
  .rw[zAy (by simpa using a),zAp (by simpa using b),zAp (by simpa using b),zAy (by simpa using a)]
  .rw[zAp (by simpa using a),zAp (by simpa using b),zAp (by simpa using b),zAp (by simpa using a)]
def size_swp {α} [Inhabited α] (d:Array α)(i j):(Go.Sort.swp d i j).size=d.size:=by unfold Go.Sort.swp;simp
def TQ (I:zB)(a:Nat):∀(j:Nat)(d:Array bK),j<d.size->dA I (Go.Sort.insInner (ltOf uD) a j d).toList=dA I d.toList/\(Go.Sort.insInner (ltOf uD) a j d).size=d.size
 |0,_,_=>⟨rfl,rfl⟩
 |j+1,d,h=>by rw[Go.Sort.insInner];split;{rename_i b;rw[zBd]at b;obtain⟨e,c⟩:=TQ I a j (Go.Sort.swp d (j+1) j) (by rw[size_swp];omega);exact⟨e.trans (Qv I d j h b.2),c.trans (size_swp _ _ _)⟩};{exact⟨rfl,rfl⟩}
def xA (I:zB)(a b:Nat):∀(m i:Nat)(d:Array bK),b-i=m->b<=d.size->dA I (Go.Sort.insOuter (ltOf uD) a b i d).toList=dA I d.toList/\(Go.Sort.insOuter (ltOf uD) a b i d).size=d.size
 |0,i,d,hm,_=>by rw[Go.Sort.insOuter,zAt (by omega)];exact⟨rfl,rfl⟩
 |m+1,i,d,hm,hb=>by rw[Go.Sort.insOuter,zAv (by omega)];obtain⟨f,e⟩:=TQ I a i d (by omega);obtain⟨c,h⟩:=xA I a b m (i+1) (Go.Sort.insInner (ltOf uD) a i d) (by omega) (by omega);exact⟨c.trans f,h.trans e⟩
def dP (us:List bK):List bK:=(Go.Sort.insertionSort (ltOf uD) us.toArray 0 us.length).toList
def vF (I)(us):dA I (dP us)=dA I us:=by have:=(xA I 0 us.length _ 1 us.toArray rfl (by simp)).1;simpa [dP,Go.Sort.insertionSort]using this
def jR (us):(dP us).length=us.length:=by have:=(xA [] 0 us.length _ 1 us.toArray rfl (by simp)).2;simpa [dP,Go.Sort.insertionSort]using this
def QW (us)(u):u∈dP us↔u∈us:=by
 have h:∀l:List bK,u∈l↔u∈dA u.idx l:=λl=>by unfold dA;rw[zBb];simp
 rw[h,h us,vF]
def pD (us):(dP us).Pairwise λx y=>aE1 y.idx x.idx≠-1:=by
 have c:=(Go.Sort.insertionSort_holds Wd us.toArray 0 us.length (zBs _) (by simp)).2;have hl:=jR us;rw[List.pairwise_iff_getElem];intro i j hi e a;have h:=c i j (zBs _) a (by omega);have b:(Go.Sort.insertionSort (ltOf uD) us.toArray 0 us.length).size=us.length:=by simpa [dP]using hl
 rw[zEf _ j (by omega),zEf _ i (by omega)]at h;intro d;have:ltOf uD (dP us)[j] (dP us)[i]=aF:=(lL _ _).2 d;simp only[dP,aFm]at this;rw[this]at h;cases h
def fR:List bK->List bK
 |[]=>[]
 |[u]=>[u]
 |u::v::r=>if v.idx=u.idx then fR (v::r)else u::fR (v::r)
def cF (us:List bK):List bK:=fR (dP us)
def mQ:∀{l:List bK}{u:bK},u∈fR l->u∈l
 |[],_,h=>h
 |[_],_,h=>h
 |a::b::r,u,h=>by
  rw[fR]at h;split at h;{exact zBm _ (mQ h)}
  .obtain h|h:=zAg.1 h
   .rw[h];exact zBl ..
   .exact zBm _ (mQ h)
def mL {us u}(h:u∈cF us):u∈us:=(QW us u).1 (mQ h)
def sV:∀{l:List bK},(l.Pairwise λx y=>aE1 y.idx x.idx≠-1)->(fR l).Pairwise λx y=>aE1 x.idx y.idx= -1
 |[],_=>List.Pairwise.nil
 |[u],_=>List.pairwise_singleton _ _
 |a::b::r,h=>by
  rw[zBw]at h;have j:=sV h.2;rw[fR];split;{exact j}
  .rename_i f;rw[zBw];refine⟨λu k=> ?_,j⟩;have d:=mQ k;have n:=h.1 u d;have g:=h.1 b (zBl ..);have e:=fS u.idx a.idx;obtain c|c|c:=gQ u.idx a.idx
   .exact absurd c n
   .exfalso;obtain i|i:=zAg.1 d
    .rw[i]at c;exact f (jC c)
    .have m:=(zBw.1 h.2).1 u i;rw[jC c]at m;obtain q|q|q:=gQ b.idx a.idx
     .exact g q
     .exact f (jC q)
     .have:=fS b.idx a.idx;omega
   .omega
def EN (us):(cF us).Pairwise λx y=>aE1 x.idx y.idx= -1:=sV (pD us)
def BQ (I:zB):∀{l:List bK},(l.Pairwise λx y=>aE1 y.idx x.idx≠-1)->(dA I (fR l)).getLast? =(dA I l).getLast?
 |[],_=>rfl
 |[u],_=>rfl
 |a::b::r,h=>by
  have i:=BQ I (zBw.1 h).2;rw[fR];split
  .rename_i d;rw[i];unfold dA;by_cases c:a.idx=I
   .have e:=d.trans c;rw[zAy (a:=a) (by simpa using c),zAy (a:=b) (by simpa using e),List.getLast?_cons_cons]
   .rw[zAp (a:=a) (by simpa using c)]
  .unfold dA at*;by_cases c:a.idx=I
   .rw[zAy (a:=a) (by simpa using c),zAy (a:=a) (by simpa using c),List.getLast?_cons,List.getLast?_cons,i]
   .rw[zAp (a:=a) (by simpa using c),zAp (a:=a) (by simpa using c),i]
def RP (I)(us):(dA I (cF us)).getLast? =(dA I us).getLast? :=by rw[cF,BQ I (pD us),vF]
def qT (I:zB):∀(us:List bK)(l:List rQ),eT (cP l us) I=match(dA I us).getLast? with|some u=>(if u.gone then aB else aA u.val)|none=>eT l I
 |[],_=>rfl
 |u::us,l=>by show eT (cP (wX l u) us) I=_;rw[qT I us (wX l u),get_put];unfold dA;by_cases h:u.idx=I;{rw[zAy (by simpa using h),List.getLast?_cons,zAv h];cases(us.filter λu=>u.idx==I).getLast? <;>rfl};{rw[zAp (by simpa using h),zAt h]}
def wQ {l:List rQ}(hl:gM l)(us:List bK):cP l (cF us)=cP l us:=
 tM (qL hl) (qL hl) λI=>by rw[qT,qT,RP]
def tI (x y:bK):Prop:=aE1 y.idx x.idx≠-1
def pS (x y:bK):Prop:=aE1 x.idx y.idx= -1
abbrev kA (l:List bK):Prop:=l.Pairwise tI
structure eM (l l':List bK):Prop where
 len:l'.length=l.length
 of:∀I,dA I l'=dA I l
def tI.trans {x y z:bK}(b:tI x y)(a:tI y z):tI x z:=λh=>by have:=Wd.3 z y x;rw[zFb,Ne,lL,zFb,Ne,lL,zFb,Ne,lL]at this;exact this a b h
def pS.le {x y:bK}(h:pS x y):tI x y:=λa=>by have:=fS x.idx y.idx;unfold pS at h;omega
def pS.bw {x y z:bK}(b:tI x y)(a:pS y z):pS x z:=zBu λh=>tI.trans (x:=z) (y:=x) (z:=y) h b a
def pS.bk {x y z:bK}(b:pS x y)(a:tI y z):pS x z:=zBu λh=>tI.trans (x:=y) (y:=z) (z:=x) a h b
def tI.antisymm {x y:bK}(b:tI x y)(a:tI y x):x.idx=y.idx:=by
 have:=fS x.idx y.idx;unfold tI at b a;obtain h|h|h:=gQ x.idx y.idx
 .exact absurd h a
 .exact jC h
 .omega
def eM.refl (l:List bK):eM l l:=⟨rfl,λ_=>rfl⟩
def eM.trans {a b c:List bK}(d:eM a b)(h:eM b c):eM a c:=⟨h.len.trans d.len,λI=>(h.of I).trans (d.of I)⟩
def LG {u:bK}{l:List bK}:u∈l↔u∈dA u.idx l:=by unfold dA;rw[zBb];simp
def eM.mem {l a:List bK}(h:eM l a){u:bK}:u∈a↔u∈l:=by rw[LG,h.of,<-LG]
def OC (I:zB)(a b:List bK):dA I (a++b)=dA I a++dA I b:=zDb ..
def eM.fW {a b:List bK}(h:eM a b)(X Y:List bK):eM (X++a++Y) (X++b++Y):=⟨by simp[h.len],λI=>by simp only[OC,h.of]⟩
def LL:∀{l a:List bK},eM l a->kA l->kA a->a=l
 |[],a,h,_,_=>zBi h.len
 |x::t,[],h,_,_=>by cases h.len
 |x::t,y::f,h,h1,d=>by
  have i:x∈y::f:=h.mem.2 (zBl ..);have g:y∈x::t:=h.mem.1 (zBl ..);have r:∀z:bK,tI z z:=λz=>by unfold tI;rw[dC];decide
  have k:tI x y:=by obtain e|e:=zAg.1 g;{rw[e];exact r _};{exact(zBw.1 h1).1 y e}
  have j:tI y x:=by obtain e|e:=zAg.1 i;{rw[e];exact r _};{exact(zBw.1 d).1 x e}
  have e:=k.antisymm j;have c:=h.of x.idx;unfold dA at c;rw[zAy (by simp[e]),zAy (by simp)]at c;obtain⟨rfl,_⟩:=zFa c;congr 1;refine LL ⟨by have:=h.len;simpa using this,λI=> ?_⟩ (zBw.1 h1).2 (zBw.1 d).2;have:=h.of I;unfold dA at this⊢;by_cases b:y.idx=I;{rw[zAy (by simpa using b),zAy (by simpa using b)]at this;exact(zFa this).2};{rwa [zAp (by simpa using b),zAp (by simpa using b)]at this}
def vM {A1 A2 B1 B2 C1 C2:List bK}(d:eM (A1++B1) C1)(c:eM (A2++B2) C2)(h:∀x∈A2,∀y∈B1,pS y x):eM (A1++A2++(B1++B2)) (C1++C2):=by
 refine⟨by have:=d.len;have:=c.len;simp only[zAc]at*;omega,λI=> ?_⟩;have e:dA I A2++dA I B1=dA I B1++dA I A2:=by
  cases f:dA I A2 with
  |nil=>simp
  |cons x xs=>
   cases hb:dA I B1 with
   |nil=>simp
   |cons y i=>exfalso;have b:x∈dA I A2:=by{rw[f];exact zBl ..};have a:y∈dA I B1:=by{rw[hb];exact zBl ..};unfold dA at b a;rw[zBb]at b a;have:=h x b.1 y a.1;have ex:x.idx=I:=by{simpa using b.2};have g:y.idx=I:=by{simpa using a.2};unfold pS at this;rw[ex,g,dC]at this;cases this
 have:=d.of I;have:=c.of I;simp only[OC]at*;rw[d.of,c.of];simp only[OC,zBp];rw[<-zBp (dA I A2),e,zBp]
def yN {A1 A2 B1 B2 C1 C2:List bK}(f:eM (A1++B1) C1)(e:eM (A2++B2) C2)(s1:kA C1)(s2:kA C2)(d:kA (A1++A2))(c:kA (B1++B2))(h:∀x∈A2,∀y∈B1,pS y x)(g:∀x∈A1,∀y∈B2,tI x y):kA (C1++C2):=by
 refine zCg.2 ⟨s1,s2,λu b v a=> ?_⟩;obtain b|b:=zAi.1 (f.mem.1 b)<;>obtain a|a:=zAi.1 (e.mem.1 a)
 .exact(zCg.1 d).2.2 u b v a
 .exact g u b v a
 .exact(h v a u b).le
 .exact(zCg.1 c).2.2 u b v a
def le_last {l:List bK}(h:kA l){x y:bK}(a:x∈l)(b:l.getLast? =aA y):tI x y:=by
 obtain⟨i,rfl⟩:=List.getLast?_eq_some_iff.1 b;obtain a|a:=zAi.1 a
 .exact(zCg.1 h).2.2 x a y (zAs.2 rfl)
 .rw[zAs.1 a];unfold tI;rw[dC];decide
def Ci {l:List bK}(h:kA l){x y:bK}(a:x∈l)(b:l.head? =aA y):tI y x:=by
 cases l with
 |nil=>cases a
 |cons z l=>cases b;obtain e|e:=zAg.1 a;{rw[e];unfold tI;rw[dC];decide};{exact(zBw.1 h).1 x e}
def YO {A B:List bK}(g:kA A)(f:kA B)(h:∀x y,A.head? =aA x->B.getLast? =aA y->pS y x):∀x∈A,∀y∈B,pS y x:=λx d y c=>by
 obtain⟨a,e⟩:∃a,A.head? =aA a:=by cases A with|nil=>cases d|cons a A=>exact⟨a,rfl⟩
 obtain⟨b,hb⟩:∃b,B.getLast? =aA b:=by
  cases hb:B.getLast? with
  |none=>rw[zGe.1 hb]at c;cases c
  |some b=>exact⟨b,rfl⟩
 exact pS.bw (le_last f c hb) (pS.bk (h a b e hb) (Ci g d e))
def YV {A B:List bK}(i:kA A)(g:kA B)(h:∀x y,A.getLast? =aA x->B.head? =aA y->tI x y):∀x∈A,∀y∈B,tI x y:=λx d y e=>by
 obtain⟨b,f⟩:∃b,B.head? =aA b:=by cases B with|nil=>cases e|cons a A=>exact⟨a,rfl⟩
 obtain⟨a,c⟩:∃a,A.getLast? =aA a:=by
  cases c:A.getLast? with
  |none=>rw[zGe.1 c]at d;cases d
  |some a=>exact⟨a,rfl⟩
 exact(le_last i d c).trans ((h a b c f).trans (Ci g e f))
def Fq {x:bK}{B1 B2:List bK}(c:kA (B1++B2))(e:∀y,B1.getLast? =aA y->pS y x)(d:∀y,B2.head? =aA y->¬pS y x):eM (x::(B1++B2)) (B1++x::B2)/\kA (B1++x::B2):=by
 obtain⟨s1,s2,_⟩:=zCg.1 c;have a:kA [x]:=List.pairwise_singleton _ _;have k1:∀z∈[x],∀y∈B1,pS y z:=YO a s1 λz y h b=>by cases h;exact e y b
 have k2:∀z∈[x],∀y∈B2,tI z y:=YV a s2 λz y h b=>by cases h;exact d y b
 exact⟨vM (A1:=[]) (A2:=[x]) (C1:=B1) (C2:=x::B2) (.refl _) (.refl _) k1,yN (A1:=[]) (A2:=[x]) (C1:=B1) (C2:=x::B2) (.refl _) (.refl _) s1 (zCg.2 ⟨a,s2,k2⟩) a c k1 λz h=>by cases h⟩
def YA {y:bK}{A1 A2:List bK}(b:kA (A1++A2))(d:∀x,A1.getLast? =aA x->¬pS y x)(c:∀x,A2.head? =aA x->pS y x):eM (A1++A2++[y]) (A1++y::A2)/\kA (A1++y::A2):=by
 obtain⟨s1,s2,_⟩:=zCg.1 b;have h:kA [y]:=List.pairwise_singleton _ _;have k1:∀x∈A2,∀z∈[y],pS z x:=YO s2 h λx z h a=>by cases a;exact c x h
 have k2:∀x∈A1,∀z∈[y],tI x z:=YV s1 h λx z h a=>by cases a;exact d x h
 have e:A1++y::A2=A1++[y]++A2:=by simp
 rw[e];have l:eM (A2++[]) A2:=by rw[zAq];exact .refl _
 exact⟨vM (B1:=[y]) (B2:=[]) (.refl _) l k1,yN (B1:=[y]) (B2:=[]) (.refl _) l (zCg.2 ⟨s1,h,k2⟩) s2 b h k1 λx _ z a=>by cases a⟩
inductive fD (s:Nat):List bK->Prop
 |last (l:List bK):kA l->l.length<=s->fD s l
 |cons (l r:List bK):kA l->l.length=s->fD s r->fD s (l++r)
def fD.small {s:Nat}{r:List bK}(h:fD s r)(hl:r.length<=s):kA r:=by
 cases h with
 |last _ h _=>exact h
 |cons l r h1 b a=>obtain rfl:r=[]:=zBi (by rw[zAc]at hl;omega);rw[zAq];exact h1
def fD.first {s:Nat}{r:List bK}(h:fD s r)(hl:s<r.length):∃l a,r=l++a/\kA l/\l.length=s/\fD s a:=by
 cases h with
 |last _ h d=>omega
 |cons l r h1 c b=>exact⟨l,r,rfl,h1,c,b⟩
def fD.two {s:Nat}{r:List bK}(h:fD s r)(hs:0<s)(hl:2*s<=r.length):∃l a b,r=l++(a++b)/\kA l/\l.length=s/\kA a/\a.length=s/\fD s b:=by
 obtain⟨l,r1,rfl,f,e,i⟩:=h.first (by omega);rw[zAc]at hl;cases i with
 |last _ c d=>exact⟨l,r1,[],by rw[zAq],f,e,c,by omega,.last _ .nil (zBs _)⟩
 |cons a b c d g=>exact⟨l,a,b,rfl,f,e,c,d,g⟩
end Go.Proofs.Zq
namespace Go.Proofs
open Go.Shelf
def Qz.ZX:Go.Shelf.Ren:=⟨λ|41=>60|n=>n,λ|22=>48|23=>53|4=>4|n=>n,λ|n=>n⟩
def Qz.Oa:Go.Proofs.SlLaysE0.n41 zq Qz.ZX:={
 mixed:=by kernel_rfl
 f41:=⟨Tryz.f60.name,by decide,(Qz.fn func60).trans (congrArg aA (by kernel_rfl))⟩
 t4:=((Qz.eZ 4).trans Tryz.underlying4)
 a4:=(λw=>(Qz.isAgg w 4).trans (Tryz.isAgg4 w))
 z4:=(λw=>(Qz.sizeOf w 4).trans (Tryz.sizeOf4 w))
 v4:=(λw=>(Qz.zeroValue w 4).trans (Tryz.zeroValue4 w))
 t22:=((Qz.eZ 48).trans Tryz.underlying48)
 a22:=(λw=>(Qz.isAgg w 48).trans (Tryz.isAgg48 w))
 z22:=(λw=>(Qz.sizeOf w 48).trans (Tryz.sizeOf48 w))
 v22:=(λw=>(Qz.zeroValue w 48).trans (Tryz.zeroValue48 w))}
def Qz.Mj:Go.Shelf.Ren:=⟨λ|20=>101|n=>n,λ|24=>53|22=>48|3=>3|25=>120|4=>4|0=>0|n=>n,λ|n=>n⟩
def Qz.nb:Go.Proofs.SlLaysF0.n20 zq Qz.Mj:={
 mixed:=by kernel_rfl
 f20:=⟨Tryz.f101.name,by decide,(Qz.fn func101).trans (congrArg aA (by kernel_rfl))⟩
 t0:=((Qz.eZ 0).trans Tryz.underlying0)
 a0:=(λw=>(Qz.isAgg w 0).trans (Tryz.isAgg0 w))
 z0:=(λw=>(Qz.sizeOf w 0).trans (Tryz.sizeOf0 w))
 v0:=(λw=>(Qz.zeroValue w 0).trans (Tryz.zeroValue0 w))
 t3:=((Qz.eZ 3).trans Tryz.underlying3)
 a3:=(λw=>(Qz.isAgg w 3).trans (Tryz.isAgg3 w))
 z3:=(λw=>(Qz.sizeOf w 3).trans (Tryz.sizeOf3 w))
 v3:=(λw=>(Qz.zeroValue w 3).trans (Tryz.zeroValue3 w))
 t4:=((Qz.eZ 4).trans Tryz.underlying4)
 a4:=(λw=>(Qz.isAgg w 4).trans (Tryz.isAgg4 w))
 z4:=(λw=>(Qz.sizeOf w 4).trans (Tryz.sizeOf4 w))
 v4:=(λw=>(Qz.zeroValue w 4).trans (Tryz.zeroValue4 w))
 t22:=((Qz.eZ 48).trans Tryz.underlying48)
 a22:=(λw=>(Qz.isAgg w 48).trans (Tryz.isAgg48 w))
 z22:=(λw=>(Qz.sizeOf w 48).trans (Tryz.sizeOf48 w))
 v22:=(λw=>(Qz.zeroValue w 48).trans (Tryz.zeroValue48 w))
 t25:=((Qz.eZ 120).trans Tryz.underlying120)
 a25:=(λw=>(Qz.isAgg w 120).trans (Tryz.isAgg120 w))
 z25:=(λw=>(Qz.sizeOf w 120).trans (Tryz.sizeOf120 w))
 v25:=(λw=>(Qz.zeroValue w 120).trans (Tryz.zeroValue120 w))}
def Qz.TJ:Go.Shelf.Ren:=⟨λ|106=>63|213=>89|265=>103|n=>n,λ|9=>9|3=>3|n=>n,λ|n=>n⟩
def Qz.Sq:Go.Proofs.Lays.n106 zq Qz.TJ:={
 mixed:=by kernel_rfl
 f106:=(Qz.fn func63).trans (congrArg aA (by kernel_rfl))
 f213:=(Qz.fn func89).trans (congrArg aA (by kernel_rfl))
 f265:=(Qz.fn func103).trans (congrArg aA (by kernel_rfl))
 t3:=((Qz.eZ 3).trans Tryz.underlying3)
 a3:=(λw=>(Qz.isAgg w 3).trans (Tryz.isAgg3 w))
 z3:=(λw=>(Qz.sizeOf w 3).trans (Tryz.sizeOf3 w))
 v3:=(λw=>(Qz.zeroValue w 3).trans (Tryz.zeroValue3 w))
 t9:=((Qz.eZ 9).trans Tryz.underlying9)
 a9:=(λw=>(Qz.isAgg w 9).trans (Tryz.isAgg9 w))
 z9:=(λw=>(Qz.sizeOf w 9).trans (Tryz.sizeOf9 w))
 v9:=(λw=>(Qz.zeroValue w 9).trans (Tryz.zeroValue9 w))}
open Go.RowKit in
def Qz.strings_Compare (a b:ByteArray)(w:zW):
  Calls zq 63 #[aL a,aL b] w λe c=>e=aM (aC aD (aE1 a.data.toList b.data.toList))/\c=w:=Any.strings_Compare Qz.Sq a b w
end Go.Proofs
namespace Go.Proofs.Zq
open Go.RowKit Sha Go.Shelf Go.Sort
def Nz (x y)(W):Calls zq 62 #[.agg x.cells.toArray,.agg y.cells.toArray] W λe w=>e=aM (aC aD (uD x y))/\∃q o,w=grow (W.drewN q) o:=by have h:=λb=>Qz.strings_Compare ⟨x.idx.toArray⟩ ⟨y.idx.toArray⟩ b;have a:aE1 (⟨x.idx.toArray⟩:ByteArray).data.toList (⟨y.idx.toArray⟩:ByteArray).data.toList=uD x y:=rfl;rw[a]at h;generalize uD x y=r at*;unfold bK.cells;go_enter (Qz.fn func62),ntmps62;go_wp2_with (go_at_call 63;refine(h _).mono ?_;rintro e w ⟨rfl,rfl⟩);go_ret;exact⟨rfl,0,_,by rw[alloc_eq_grow,alloc_eq_grow,grow_grow];rfl⟩
def UY (blk off size)(w):CmpLays zq 62 #[] bK.cells 3 uD blk off size w:=λ_ _ _ _ x y=>Nz x y _
def Ya:∀args w,(callFunc 62 args).run zq w= .ok (.enter 62 args) w:=enters_of (Qz.fn func62) (by kernel_rfl) rfl
def Sw (g cap a b:Nat)(d:Array bK)(w:zW)(k:HoldsK bK.cells 3 w g 0 d)(i:g<w.heap.size)(h:a<=b)(j:b<=d.size)(f:d.size<=1000):
  Calls zq 101 #[aK (aA ⟨g,0,aB⟩) d.size cap,aC aD a,aC aD b,.func (.func 62) #[] #[]] w λe c=>
   e=aM (.tuple #[])/\∃n os,c=sortWorldK bK.cells 3 w g 0 n (insertionSort (ltOf uD) d a b) os:=
 AnyQ.insertionSortCmpFunc Qz.nb 3 (λw=>(Qz.isAgg w 53).trans (isAgg53 w)) (λw=>(Qz.sizeOf w 53).trans (sizeOf53 w)) bK.cells (λ_=>rfl) vU uD 62 #[] g 0 cap a b d w Ya (UY g 0 d.size w) k i h j (by omega)
def LX (us:List bK)(i)(u)(h:us[i]? =aA u)(j)(b:j<3):(flatK bK.cells 3 us.toArray)[i*3+j]! =(u.cells[j]?).getD default/\i*3+j<(flatK bK.cells 3 us.toArray).size:=by
 have hi:=(zAx.1 h).1;have a:i*3+j<us.toArray.size*3:=by simp only[zAn];omega
 refine⟨?_,by rw[size_flatK];exact a⟩;rw[get_flatK _ _ _ _ a,show(i*3+j)/3=i by omega,show(i*3+j)%3=j by omega];have e:us.toArray[i]! =u:=by rw[zEf us.toArray i (by simpa using hi)];simpa using(zAx.1 h).2
 rw[e,List.getElem!_eq_getElem?_getD]
def ZZ {w g}{us:List bK}(h:HoldsK bK.cells 3 w g 0 us.toArray)(i)(u)(b:us[i]? =aA u)(j)(a:j<3):w.cell? ⟨g,i*3+j,aB⟩=u.cells[j]? :=by obtain⟨d,c⟩:=LX us i u b j a;have:=(h (i*3+j) c).1;rw[zAz,d]at this;rw[this];have:j<u.cells.length:=a;rw[zAh this];rfl
def JP {B w0 w g n d os}(h:Below B w0 w)(c:B<=g)(e:B<=w.heap.size):Below B w0 (sortWorldK bK.cells 3 w g 0 n d os):=by
 have a:Below B w0 (putRow id (Go.Sort.ahead w n) g 0 (flatK bK.cells 3 d)):=Lib.below_putRow h c;refine⟨a.os,a.tape,a.output,?_,λk b=> ?_⟩
 .show _<=(_++os).size;rw[zEp];exact zBc a.size (zFf _ _)
 .show(_++os)[k]? =_;rw[zCu (by show k<(putRow id (Go.Sort.ahead w n) g 0 (flatK bK.cells 3 d)).heap.size;rw[size_putRow];show k<w.heap.size;omega)];exact a.block k b
def CN {α:Type} [Inhabited α] (P Q:List α)(x:α):(P++x::Q).toArray[P.length]! =x:=by simp
def CI {α:Type}(P Q:List α)(x y:α):(P++x::Q).set P.length y=P++y::Q:=by simp
def OO {α:Type} [Inhabited α] (P Q R:List α)(x y:α):(P++x::(Q++y::R)).toArray[P.length+1+Q.length]! =y:=by have:=CN (P++x::Q) R y;simp only[zBp,zBz,zAc,zAf]at this;rw[show P.length+1+Q.length=P.length+(Q.length+1) by omega,this]
def Qu {α:Type} [Inhabited α] (P Q R:List α)(x y:α):swp (P++x::(Q++y::R)).toArray P.length (P.length+1+Q.length)=(P++y::(Q++x::R)).toArray:=by unfold swp;rw[CN,OO,zBo,zBo,CI];have:=CI (P++y::Q) R y x;simp only[zBp,zBz,zAc,zAf]at this;rw[show P.length+1+Q.length=P.length+(Q.length+1) by omega,this]
abbrev gR (w0:zW)(g:Nat)(l:List bK)(w:zW):Prop:=SWK bK.cells 3 w0 g 0 l.toArray w
abbrev uF (w0:zW)(g:Nat)(n:Nat):Prop:=∃d0:Array bK,d0.size=n/\RowK bK.cells 3 w0 g 0 d0
section
variable {w0 w:zW}{g n cap:Nat}{fv:zY}
def Jt {α:Type} [Inhabited α] (P Q R:List α)(x y:α):swp (P++x::(Q++y::R)).toArray (P.length+1+Q.length) P.length=(P++y::(Q++x::R)).toArray:=by unfold swp;rw[CN,OO,zBo,zBo];have:=CI (P++x::Q) R y x;simp only[zBp,zBz,zAc,zAf]at this;rw[show P.length+1+Q.length=P.length+(Q.length+1) by omega,this,CI]
structure yn (w0:zW)(g:Nat)(l':List bK)(p r:Nat)(w:zW)(k:Nat)(cx cy:zV):Prop where
 zE:∀w,(Go.sizeOf 53).run zq w= .ok k w
 lx:cx.length=k
 ly:cy.length=k
 ld:Sem.run zq (loadCellsFrom ⟨g,p*k,aB⟩ 0 k #[]) w.drew= .ok cx.toArray w.drew
 ld':Sem.run zq (loadCellsFrom ⟨g,r*k,aB⟩ 0 k #[]) w.drew= .ok cy.toArray w.drew
 st:Sem.run zq (storeCells ⟨g,p*k,aB⟩ cy 0) w.drew= .ok () (w.drew.setCells g (p*k) cy)
 Py:Sem.run zq (storeCells ⟨g,r*k,aB⟩ cx 0) (w.drew.setCells g (p*k) cy)= .ok () ((w.drew.setCells g (p*k) cy).setCells g (r*k) cx)
 sw:Aside (gR w0 g l' ((w.drew.setCells g (p*k) cy).setCells g (r*k) cx))
def gR.ks {P Q R':List bK}{x y:bK}(h:gR w0 g (P++x::(Q++y::R')) w)(R:uF w0 g n)(q:(P++x::(Q++y::R')).length=n){p r:Nat}(e:p=P.length)(d:r=P.length+1+Q.length):
  (∃k j i,yn w0 g (P++y::(Q++x::R')) p r w k j i)/\∃k j i,yn w0 g (P++y::(Q++x::R')) r p w k j i:=by
 obtain⟨d0,f,R⟩:=R;have a:(P++x::(Q++y::R')).toArray.size=d0.size:=by rw[zAn,q,f]
 have hl:P.length+1+Q.length<(P++x::(Q++y::R')).toArray.size:=by rw[zAn];simp only[zAc,zAf];omega
 have ex:(P++x::(Q++y::R')).toArray[p]! =x:=by rw[e];exact CN ..
 have o:(P++x::(Q++y::R')).toArray[r]! =y:=by rw[d];exact OO ..
 have c:=h.ld1 R a zq p (by omega);have l:=h.ld1 R a zq r (by omega);have m:=h.st1 R a zq p (by omega) y;have s:=h.st2 R a zq p r (by omega) (by omega) y x;have t:=h.st1 R a zq r (by omega) x;have tb:=h.st2 R a zq r p (by omega) (by omega) x y;have b:=h.swapped R p r (by omega) (by omega);have S:=h.swapped R r p (by omega) (by omega);rw[ex]at c;rw[o]at l;rw[ex,o]at b S;rw[show swp (P++x::(Q++y::R')).toArray p r=(P++y::(Q++x::R')).toArray by rw[e,d];exact Qu ..]at b;rw[show swp (P++x::(Q++y::R')).toArray r p=(P++y::(Q++x::R')).toArray by rw[e,d];exact Jt ..]at S;rw[zAz]at c l m s t tb b S;rw[zAz]at s tb b S;exact⟨⟨3,x.cells,y.cells,(λw=>(Qz.sizeOf w 53).trans (sizeOf53 w)),rfl,rfl,c,l,m,s,b⟩,⟨3,y.cells,x.cells,(λw=>(Qz.sizeOf w 53).trans (sizeOf53 w)),rfl,rfl,l,c,t,tb,S⟩⟩
def IW (X A Z B Y:List bK)(R:uF w0 g n)(I:(X++(A++(Z++(B++Y)))).length=n)(h:A.length=B.length)(U:n<=1000)(S:gR w0 g (X++(A++(Z++(B++Y)))) w){H G F:Int}(D:H=(X.length:Int))(C:G=((X.length+A.length+Z.length:Nat):Int))(z:F=(A.length:Int)):
  Calls zq 129 #[aK (aA ⟨g,0,aB⟩) n cap,aC aD H,aC aD G,aC aD F,fv] w λe N=>e=aM (.tuple #[])/\gR w0 g (X++(B++(Z++(A++Y)))) N:=by
 have HR:Hid (uF w0 g n):=R;clear R;have mixed:zq.follows .mixedOrders=aF:=by kernel_rfl
 have S0:Aside (gR w0 g (X++(A++(Z++(B++Y)))) w):=S;clear S;have hlen:X.length+A.length+Z.length+B.length+Y.length=n:=by rw[<-I];simp only[zAc];omega
 obtain⟨a,J⟩:∃a,a=X.length:=⟨_,rfl⟩;obtain⟨b,s⟩:∃b,b=X.length+A.length+Z.length:=⟨_,rfl⟩;obtain⟨c,m⟩:∃c,c=A.length:=⟨_,rfl⟩;subst D C z;rw[<-s,<-J,<-m];go_enter (Qz.fn func129),ntmps129;go_wp2;go_loopg [10] c (λq i wr=>∃d j l f:List bK,A=d++j/\B=l++f/\d.length=l.length/\d.length+q=c/\i=aC aD (d.length:Int)/\Aside (gR w0 g (X++(l++(j++(Z++(d++(f++Y)))))) wr));case atStart=>exact⟨[],A,[],B,rfl,rfl,rfl,by simp,rfl,S0⟩
 case round=>
  clear S0
  obtain⟨d,j,l,f,rfl,rfl,K,hq,rfl,S1⟩:=hrel
  rw[zAc]at m s h
  rw[zAc]at h
  cases j with
  |nil=>obtain rfl:f=[]:=zBi (by rw[zAl]at h;omega);rw[zAl]at m;have hi:¬((d.length:Int)<(c:Int)):=by{omega};go_wp2;go_end0;exact⟨rfl,by simpa using S1.out⟩
  |cons x j=>
   obtain⟨y,f,rfl⟩:∃y E,f=y::E:=by
    cases f with
    |nil=>rw[zAf,zAl]at h;omega
    |cons y f=>exact⟨y,f,rfl⟩
   rw[zAf]at m s h;rw[zAf]at h;have L:Aside (gR w0 g ((X++l)++x::((j++(Z++d))++y::(f++Y))) wr):=by{simpa only[zBp,zBz]using S1};clear S1;obtain⟨p,v⟩:∃p,p=(X++l).length:=⟨_,rfl⟩;obtain⟨r,o⟩:∃r,r=(X++l).length+1+(j++(Z++d)).length:=⟨_,rfl⟩;have u:p=a+d.length:=by{rw[v,zAc];omega};have t:r=b+d.length:=by{rw[o];simp only[zAc];omega};have V:r<n:=by{rw[<-hlen,o];simp only[zAc,zAf];omega};obtain⟨⟨k,cx,W,zE,lx,ly,T,Q,P,O,S3⟩,_⟩:=L.out.ks HR.out (by rw[<-I];simp only[zAc,zAf];omega) v o;have aE:=(λw=>(Qz.isAgg w 53).trans (isAgg53 w));clear L;have H1:Hid (d.length=l.length):=K;have k1:(a:Int)+(d.length:Int)=(p:Int):=by{omega};have k2:(b:Int)+(d.length:Int)=(r:Int):=by{omega};have k3:(p:Int)<(n:Int):=by{omega};have k4:(r:Int)<(n:Int):=by{omega};have k5:(0:Int)<=(p:Int):=by{omega};have k6:(0:Int)<=(r:Int):=by{omega};have k7:(d.length:Int)<(c:Int):=by{omega};have k8:IntKind.i64.wrap (p:Int)=(p:Int):=by{rw[zGq];omega};have k9:IntKind.i64.wrap (r:Int)=(r:Int):=by{rw[zGq];omega};have M:Hid (c=d.length+(j.length+1)):=m;clear v o u t m s h K J;go_wp2_with fail;go_big_region_o;clear T Q P O;generalize(wr.drew.setCells g (p*k) W).setCells g (r*k) cx=w2 at*;go_wp2;go_roundg (j.length);case measure=>have:=M.out;omega
   case rel=>exact⟨d++[x],j,l++[y],f,by simp,by simp,by simp[H1.out],by have:=M.out;simp;omega,by simp,(show gR _ _ _ _ by have:=S3.out;simpa using this)⟩
end
section
variable {w0 w:zW}{g n cap:Nat}{fv:zY}
def XQ (X A B Y:List bK)(R:uF w0 g n)(hn:(X++(A++(B++Y))).length=n)(hA:A≠[])(hB:B≠[])(FY:n<=1000)(S:gR w0 g (X++(A++(B++Y))) w){xa xm xb:Int}(Tk:xa=(X.length:Int))(Ti:xm=((X.length+A.length:Nat):Int))(Tj:xb=((X.length+A.length+B.length:Nat):Int)):
  Calls zq 119 #[aK (aA ⟨g,0,aB⟩) n cap,aC aD xa,aC aD xm,aC aD xb,fv] w λe w'=>e=aM (.tuple #[])/\gR w0 g (X++(B++(A++Y))) w':=by
 have hlen:X.length+A.length+B.length+Y.length=n:=by rw[<-hn];simp only[zAc];omega
 have S0:Aside (gR w0 g (X++(A++(B++Y))) w):=S;have HR:Hid (uF w0 g n):=R;have J:0<A.length:=zCv.2 hA;have k:0<B.length:=zCv.2 hB;clear S R hn hA hB;obtain⟨p,u⟩:∃p,p=A.length:=⟨_,rfl⟩;obtain⟨o,t⟩:∃o,o=B.length:=⟨_,rfl⟩;obtain⟨m,F⟩:∃m,m=X.length+A.length:=⟨_,rfl⟩;have M:xa=(m:Int)-(p:Int):=by omega
 have L:xb=(m:Int)+(o:Int):=by omega
 have K:xm=(m:Int):=by omega
 have b1:(m:Int)-((m:Int)-(p:Int))=(p:Int):=by omega
 have b2:(m:Int)+(o:Int)-(m:Int)=(o:Int):=by omega
 have HM:Hid (m=X.length+A.length/\p=A.length/\o=B.length):=⟨F,u,t⟩;subst M L K;clear Tk Ti Tj F;rw[<-u]at J hlen;rw[<-t]at k hlen;clear u t;go_enter (Qz.fn func119),ntmps119;go_wp2;go_loopg [10,11] (p+o) (λq x y wr=>∃(i j:Nat)(P a d Q:List bK),P++(d++(a++Q))=B++A/\X.length+P.length+a.length=m/\i=a.length/\j=d.length/\0<i/\0<j/\i+j<=q/\i+j+X.length+P.length+Q.length+Y.length=n/\x=aC aD (i:Int)/\y=aC aD (j:Int)/\Aside (gR w0 g (X++(P++(a++(d++(Q++Y))))) wr));case atStart=>exact⟨p,o,[],A,B,[],by simp,by have:=HM.out;simp only[zAl];omega,HM.out.2.1,HM.out.2.2,J,k,zAb _,by simp only[zAl];omega,rfl,rfl,(show gR _ _ _ _ by simpa using S0.out)⟩
 case round=>
  clear S0
  obtain⟨i,j,P,a,d,Q,G,F,hi,hj,Mm,Un,hq,hl,rfl,rfl,S1⟩:=hrel
  have D:Hid (∀(b Z c:List bK)(W:zW)(V U T:Int),(b++(Z++c)).length=i+j->b.length=c.length->gR w0 g ((X++P)++(b++(Z++(c++(Q++Y))))) W->V=((X.length+P.length:Nat):Int)->U=((X.length+P.length+b.length+Z.length:Nat):Int)->T=(b.length:Int)->Calls zq 129 #[aK (aA ⟨g,0,aB⟩) n cap,aC aD V,aC aD U,aC aD T,fv] W λe w'=>e=aM (.tuple #[])/\gR w0 g ((X++P)++(c++(Z++(b++(Q++Y))))) w'):=λb Z c W V U T O h2 h3 e1 e2 e3=>
   IW (X++P) b Z c (Q++Y) HR.out (by simp only[zAc]at O⊢;omega) h2 FY h3 (by rw[zAc];exact e1) (by rw[zAc];exact e2) e3
  have z:Hid (P++(d++(a++Q))=B++A):=G
  have H:Hid (i=a.length/\j=d.length/\X.length+P.length+a.length=m):=⟨hi,hj,F⟩
  have k1:(m:Int)-(i:Int)=((X.length+P.length:Nat):Int):=by omega
  have c1:(m:Int)<=1000:=by omega
  have c2:(i:Int)<=(m:Int):=by omega
  have c3:(j:Int)<=1000:=by omega
  have c4:0<(i:Int):=by omega
  have c5:0<(j:Int):=by omega
  clear G F hi hj
  obtain v|v|v:=Nat.lt_trichotomy i j
  .obtain⟨c,E,rfl,rn⟩:∃c E,d=c++E/\E.length=i:=⟨d.take (j-i),d.drop (j-i),(zBy _ _).symm,by rw[zCn];have:=H.out;omega⟩;have k:c.length=j-i:=by{have:=H.out.2.1;rw[zAc]at this;omega};have O:¬((i:Int)=(j:Int)):=by{omega};have h2:¬((j:Int)<(i:Int)):=by{omega};have f:=D.out a c E wr _ _ _ (by simp only[zAc];have:=H.out;omega) (by have:=H.out;omega) (by have:=S1.out;simpa only[zBp]using this) rfl rfl rfl;have k2:(m:Int)+(j:Int)-(i:Int)=((X.length+P.length+a.length+c.length:Nat):Int):=by{have:=H.out;omega};have r:(a.length:Int)=(i:Int):=by{have:=H.out;omega};rw[r,<-k2,<-k1]at f;clear k1 k2 r S1 D;go_wp2_with fail;refine f.mono ?_;clear f;rintro e w2 ⟨rfl,h⟩;have N:Aside (gR w0 g (X++(P++(E++(c++((a++Q)++Y))))) w2):=by{show gR _ _ _ _;have s:=h;simp only[zBp]at s⊢;exact s};clear h;go_wp2;go_roundg (i+(j-i));case measure=>omega
   case rel=>
    refine⟨i,j-i,P,E,c,a++Q,?_,?_,rn.symm,k.symm,Mm,by omega,zAb _,?_,rfl,?_,N⟩
    .rw[<-z.out];simp only[zBp]
    .have:=H.out;omega
    .rw[zAc];have:=H.out;omega
    .congr 1;omega
  .subst v;have O:((i:Int)=(i:Int)):=rfl;have f:=D.out a [] d wr _ _ _ (by simp only[zAc,zAl];have:=H.out;omega) (by have:=H.out;omega) (by have:=S1.out;simpa only[zBp,zCk]using this) rfl rfl rfl;have k2:(m:Int)=((X.length+P.length+a.length+([]:List bK).length:Nat):Int):=by{have:=H.out;simp only[zAl];omega};have r:(a.length:Int)=(i:Int):=by have:=H.out;omega
   rw[r,<-k2,<-k1]at f;clear k1 k2 r S1 D;go_wp2_with fail;refine f.mono ?_;clear f;rintro e w2 ⟨rfl,h⟩;have N:Aside (gR w0 g (X++(B++(A++Y))) w2):=by show gR _ _ _ _;have s:=h;have e:=congrArg (λl=>X++(l++Y)) z.out;simp only[zBp,zCk]at s e;rw[<-e];exact s
   clear h;go_wp2;go_end0;exact⟨rfl,N.out⟩
  .obtain⟨b,C,rfl,I⟩:∃b C,a=b++C/\b.length=j:=⟨a.take j,a.drop j,(zBy _ _).symm,by rw[zBe];have:=H.out;omega⟩;have fe:C.length=i-j:=by{have:=H.out.1;rw[zAc]at this;omega};have O:¬((i:Int)=(j:Int)):=by{omega};have h2:(j:Int)<(i:Int):=by{omega};have f:=D.out b C d wr _ _ _ (by simp only[zAc];have:=H.out;omega) (by have:=H.out;omega) (by have:=S1.out;simpa only[zBp]using this) rfl rfl rfl;have k2:(m:Int)=((X.length+P.length+b.length+C.length:Nat):Int):=by{have:=H.out.2.2;rw[zAc]at this;omega};have r:(b.length:Int)=(j:Int):=by{omega};rw[r,<-k2,<-k1]at f;clear k1 k2 r S1 D;go_wp2_with fail;refine f.mono ?_;clear f;rintro e w2 ⟨rfl,h⟩;have N:Aside (gR w0 g (X++((P++d)++(C++(b++(Q++Y))))) w2):=by{show gR _ _ _ _;have s:=h;simp only[zBp]at s⊢;exact s};clear h;go_wp2;go_roundg (i-j+j);case measure=>omega
   case rel=>
    refine⟨i-j,j,P++d,C,b,Q,?_,?_,fe.symm,I.symm,by omega,Un,zAb _,?_,?_,rfl,N⟩
    .rw[<-z.out];simp only[zBp]
    .rw[zAc];have:=H.out;rw[zAc]at this;omega
    .rw[zAc];have:=H.out;rw[zAc]at this;omega
    .congr 1;omega
end
def OY {x y:bK}:uD x y<0↔pS x y:=by have:=lL x y;unfold ltOf at this;rw[zBr]at this;exact this
structure Ask (w0:zW)(g:Nat)(l:List bK)(i j:Nat)(w:zW)(c:Int)(k:Nat)(ci cj:zV):Prop where
 zE:∀w,(Go.sizeOf 53).run zq w= .ok k w
 ld:∀(p:Nat) os,Sem.run zq (loadCellsFrom ⟨g,i*k,aB⟩ 0 k #[]) (grow (w.drewN p) os)= .ok ci.toArray (grow (w.drewN p) os)
 ld':∀(p:Nat) os,Sem.run zq (loadCellsFrom ⟨g,j*k,aB⟩ 0 k #[]) (grow (w.drewN p) os)= .ok cj.toArray (grow (w.drewN p) os)
 cmp:∀(p:Nat) os,Calls zq 62 #[.agg ci.toArray,.agg cj.toArray] (grow (w.drewN p) os) λe w'=>e=aM (aC aD c)/\∃q Qb,w'=grow ((grow (w.drewN p) os).drewN q) Qb
 sw:Aside (∀(p:Nat) os,gR w0 g l (grow (w.drewN p) os))
def gR.ask {w0 w:zW}{g n:Nat}{l:List bK}(h:gR w0 g l w)(R:uF w0 g n)(a:l.length=n){i j:Nat}{x y:bK}(hi:l[i]? =aA x)(b:l[j]? =aA y):∃k ci d,Ask w0 g l i j w (uD x y) k ci d:=by
 obtain⟨d0,c,R⟩:=R;have ld:∀(i:Nat) x,l[i]? =aA x->∀(p:Nat) os,Sem.run zq (loadCellsFrom ⟨g,i*3,aB⟩ 0 3 #[]) (grow (w.drewN p) os)= .ok x.cells.toArray (grow (w.drewN p) os):=λi x hi p os=>by
  have hl:=(zAx.1 hi).1;have e:l.toArray[i]! =x:=by rw[zEf l.toArray i (by simpa using hl)];simpa using(zAx.1 hi).2
  have:=SWK.ld h R (by rw[zAn,a,c]) zq i (by simpa using hl) p os;rw[e,zAz]at this;exact this
 exact⟨3,x.cells,y.cells,(λw=>(Qz.sizeOf w 53).trans (sizeOf53 w)),ld i x hi,ld j y b,λp os=>SWK.cmp h (UY g 0 n w0) (by simpa using a) x y p os,λp os=>SWK.grown h p os⟩
section
variable {w0 w:zW}{g n cap:Nat}
def wC {L:List bK}{X B Y:List bK}{i m:Nat}(a:L=X++(B++Y))(h:m=X.length)(c:m<=i)(b:i<m+B.length):L[i]? =B[i-m]? :=by rw[a,zBh (by omega),zCh (by omega),h]
def LP {B:List bK}{i:Nat}(a:0<i)(h:i<=B.length):(B.take i).getLast? =B[i-1]? :=by rw[zGf,zBe,zCr,zAv (by omega),Nat.min_eq_left h]
def head_drop {B:List bK}{i:Nat}:(B.drop i).head? =B[i]? :=by rw[List.head?_eq_getElem?,zEh,aFu]
def WT (X:List bK)(x:bK)(B Y:List bK)(R:uF w0 g n)(hn:(X++(x::(B++Y))).length=n)(hB:kA B)(FY:n<=1000)(S:gR w0 g (X++(x::(B++Y))) w){xa xm xb:Int}(Tk:xa=(X.length:Int))(Ti:xm=((X.length+1:Nat):Int))(Tj:xb=((X.length+1+B.length:Nat):Int)):
  Calls zq 102 #[aK (aA ⟨g,0,aB⟩) n cap,aC aD xa,aC aD xm,aC aD xb,.func (.func 62) #[] #[]] w λe w'=>e=aM (.tuple #[])/\∃C,eM (x::B) C/\kA C/\gR w0 g (X++(C++Y)) w':=by
 have mixed:zq.follows .mixedOrders=aF:=by kernel_rfl
 obtain⟨a,ha⟩:∃a,a=X.length:=⟨_,rfl⟩;obtain⟨m,hm⟩:∃m,m=a+1:=⟨_,rfl⟩;obtain⟨b,hb⟩:∃b,b=m+B.length:=⟨_,rfl⟩;obtain⟨L,N⟩:∃L,L=X++(x::(B++Y)):=⟨_,rfl⟩;have Z:L.length=n:=by rw[N];exact hn
 have xo:b<=n:=by rw[<-hn];simp only[zAc,zAf];omega
 have W:L[a]? =aA x:=by rw[N,ha,zBh (zAb _),zFq];rfl
 have K:Hid (∀i,m<=i->i<b->L[i]? =B[i-m]?):=λi o G=>wC (X:=X++[x]) (Y:=Y) (by rw[N];simp) (by simp;omega) o (by omega);have S0:Aside (gR w0 g L w):=by rw[N];exact S
 have HR:Hid (uF w0 g n):=R;have zi:Hid (kA B):=hB;have HL:Hid (L=X++(x::(B++Y))/\a=X.length/\b=m+B.length):=⟨N,ha,hb⟩;have F:Hid (L.length=n):=Z;have za:Hid (L[a]? =aA x):=W;have Nh:xa=(a:Int):=by omega
 have Nd:xm=(m:Int):=by omega
 have Ng:xb=(b:Int):=by omega
 have e1:(m:Int)-(a:Int)=1:=by omega
 subst Nh Nd Ng;have U:m<=b:=by omega
 have ham:a<m:=by omega
 have HM:Hid (m=a+1):=hm;clear S R hB N ha hb hn Z W Tk Ti Tj hm;go_enter (Qz.fn func102),ntmps102;go_wp2_with fail;go_loopg [10,11] (b-m) (λq u v wr=>∃i j:Nat,m<=i/\i<=j/\j<=b/\j-i=q/\u=aC aD (i:Int)/\v=aC aD (j:Int)/\(i=m\/∃y,L[i-1]? =aA y/\pS y x)/\(j=b\/∃y,L[j]? =aA y/\¬pS y x)/\Aside (gR w0 g L wr));case atStart=>exact⟨m,b,zAb _,U,zAb _,rfl,rfl,rfl,aH rfl,aH rfl,S0⟩
 case round=>
  clear S0
  obtain⟨i,j,T,pk,V,hq,rfl,rfl,o,G,S1⟩:=hrel
  have H:Hid ((i=m\/∃y,L[i-1]? =aA y/\pS y x)/\(j=b\/∃y,L[j]? =aA y/\¬pS y x)):=⟨o,G⟩
  clear o G
  by_cases bT:i<j
  .have pc:0<=(i:Int)+(j:Int):=by{omega};have np:(i:Int)+(j:Int)<=2000000:=by{omega};have Xh:(i:Int)<(j:Int):=by{omega};go_upto_region 5 with(fail)
   obtain⟨h,hh⟩:∃h:Nat,h=(i+j)/2:=⟨_,rfl⟩;have he:((i:Int)+(j:Int))/2=(h:Int):=by{omega};rw[he];have pq:i<=h:=by{omega};have px:h<j:=by{omega};clear pc np he hh;obtain⟨y,l⟩:∃y,L[h]? =aA y:=⟨_,zAh (by have:=F.out;omega)⟩;obtain⟨k,ci,cj,zE,la,lb,D,HG⟩:=S1.out.ask HR.out F.out l za.out;have aE:=(λw=>(Qz.isAgg w 53).trans (isAgg53 w));have HY:Hid (L[h]? =aA y):=l;have Pe:Hid (uD y x<0↔pS y x):=OY;have qc:(0:Int)<=(h:Int):=by{omega};have qb:(h:Int)<(n:Int):=by{omega};have qx:(0:Int)<=(a:Int):=by{omega};have Tb:(a:Int)<(n:Int):=by{omega};generalize uD y x=cv at*;clear l S1;by_cases Qe:cv<0
   .go_quiet_grown (first|(refine aFt (D _ _)));clear la lb D zE aE;go_wp2;go_roundg (j-(h+1));case measure=>omega
    case rel=>exact⟨h+1,j,by omega,by omega,V,rfl,by go_num,rfl,aI ⟨y,by rw[zGb];exact HY.out,Pe.out.1 Qe⟩,H.out.2,HG.out _ _⟩
   .go_quiet_grown (first|(refine aFt (D _ _)));clear la lb D zE aE;go_wp2;go_roundg (h-i);case measure=>omega
    case rel=>exact⟨i,h,T,by omega,by omega,rfl,rfl,rfl,H.out.1,aI ⟨y,HY.out,λh'=>by have:=Pe.out.2 h';omega⟩,HG.out _ _⟩
  .obtain rfl:i=j:=by{omega};have ou:¬((i:Int)<(i:Int)):=by omega
   obtain⟨d,s,f,J⟩:∃d s,B=d++s/\d.length=i-m:=⟨B.take (i-m),B.drop (i-m),(zBy _ _).symm,by rw[zBe];have:=HL.out;omega⟩;have HF:Hid (eM (x::B) (d++x::s)/\kA (d++x::s)):=by
    have hS:=zi.out;rw[f]at hS⊢;refine Fq hS (λy l=> ?_) λy l=> ?_
    .obtain e|⟨z,O,t⟩:=H.out.1
     .obtain rfl:d=[]:=zBi (by omega);cases l
     .have I:d≠[]:=λe=>by{rw[e]at l;cases l};have h0:=zCv.2 I;rw[K.out (i-1) (by omega) (by omega),f,zCh (by omega)]at O;rw[zGf,J,show i-m-1=i-1-m by omega,O]at l;cases l;exact t
    .have I:s≠[]:=λe=>by{rw[e]at l;cases l};have h0:=zCv.2 I;have hBl:B.length=d.length+s.length:=by{rw[f,zAc]};have hb:=HL.out.2.2;obtain e|⟨z,O,t⟩:=H.out.2;{omega};{rw[K.out i (by omega) (by omega),f,zBh (by omega),J,zFq]at O;rw[List.head?_eq_getElem?,O]at l;cases l;exact t}
   have M:Hid (X++(x::(d++(s++Y)))=L/\a=X.length/\a+1+d.length+s.length+Y.length=n/\i=a+1+d.length):=by have o:=HL.out;have G:=F.out;refine⟨by rw[o.1,f];simp,o.2.1,?_,by have:=HM.out;omega⟩;rw[<-G,o.1,f];simp only[zAc,zAf];omega
   have S2:Aside (gR w0 g (X++(x::(d++(s++Y)))) wr):=by{rw[M.out.1];exact S1};have c1:(1:Int)<=(i:Int):=by{omega};have c2:(i:Int)<=1000:=by{omega};clear S1 zi K HL F za H f J T pk V hq bT U ham HM;go_wp2_with fail;go_loopg [13] d.length (λq u wr=>∃(k:Nat)(E A:List bK),d=E++A/\k=a+E.length/\A.length=q/\u=aC aD (k:Int)/\Aside (gR w0 g (X++(E++(x::(A++(s++Y))))) wr));case atStart=>exact⟨a,[],d,rfl,rfl,rfl,rfl,S2⟩
   case round=>
    clear S2
    obtain⟨k,E,A,hP,hk,hq,rfl,S3⟩:=hrel
    have HP:Hid (d=E++A/\k=a+E.length/\d.length=E.length+A.length):=⟨hP,hk,by rw[hP,zAc]⟩
    clear hP hk
    cases A with
    |nil=>
     have hki:¬((k:Int)<(i:Int)-1):=by have o:=HP.out;have G:=M.out;simp only[zAl]at o;omega
     have S4:Aside (gR w0 g (X++((d++x::s)++Y)) wr):=by show gR _ _ _ _;have:=S3.out;rw[HP.out.1];simpa using this
     clear S3;go_wp2;(try simp only[Exit.inBlock,Exit.then]);refine zGz (Go.results_none rfl _ _ _) rfl ?_;exact⟨rfl,_,HF.out.1,HF.out.2,S4.out⟩
    |cons y A=>
     have o:=HP.out;have G:=M.out;rw[zAf]at o;obtain⟨⟨c,cx,cy,zE,lx,ly,la,lb,sa,sb,S4⟩,_⟩:=gR.ks (P:=X++E) (Q:=[]) (R':=A++(s++Y)) (x:=x) (y:=y) (by have:=S3.out;simpa using this) HR.out (by simp only[zAc,zAf,zAl];omega) (p:=k) (r:=k+1) (by rw[zAc];omega) (by rw[zAc,zAl];omega);have aE:=(λw=>(Qz.isAgg w 53).trans (isAgg53 w));have k1:(k:Int)<(i:Int)-1:=by{omega};have k2:(0:Int)<=(k:Int):=by{omega};have k3:(k:Int)<(n:Int):=by{omega};have k4:(0:Int)<=(k:Int)+1:=by{omega};have k5:(k:Int)+1<(n:Int):=by{omega};have k6:IntKind.i64.wrap ((k:Int)+1)=(k:Int)+1:=by{rw[zGq];omega};have k7:((k:Int)+1).toNat=k+1:=by{omega};clear o G S3;go_wp2_with fail;go_big_region_o;clear la lb sa sb zE aE lx ly;generalize(wr.drew.setCells g (k*c) cy).setCells g ((k+1)*c) cx=w2 at*;go_wp2;go_roundg A.length;case measure=>rw[<-hq,zAf];omega
     case rel=>exact⟨k+1,E++[y],A,by rw[HP.out.1];simp,by have:=HP.out;rw[zAc,zDs];omega,rfl,by go_num,(show gR _ _ _ _ by have:=S4.out;simpa using this)⟩
end
section
variable {w0 w:zW}{g n cap:Nat}
def QN (X A:List bK)(y:bK)(Y:List bK)(R:uF w0 g n)(hn:(X++(A++(y::Y))).length=n)(hA:kA A)(fe:A.length≠1)(FY:n<=1000)(S:gR w0 g (X++(A++(y::Y))) w){xa xm xb:Int}(Tk:xa=(X.length:Int))(Ti:xm=((X.length+A.length:Nat):Int))(Tj:xb=((X.length+A.length+1:Nat):Int)):
  Calls zq 102 #[aK (aA ⟨g,0,aB⟩) n cap,aC aD xa,aC aD xm,aC aD xb,.func (.func 62) #[] #[]] w λe w'=>e=aM (.tuple #[])/\∃C,eM (A++[y]) C/\kA C/\gR w0 g (X++(C++Y)) w':=by
 have mixed:zq.follows .mixedOrders=aF:=by kernel_rfl
 obtain⟨a,ha⟩:∃a,a=X.length:=⟨_,rfl⟩;obtain⟨m,hm⟩:∃m,m=a+A.length:=⟨_,rfl⟩;obtain⟨b,hb⟩:∃b,b=m+1:=⟨_,rfl⟩;obtain⟨L,N⟩:∃L,L=X++(A++(y::Y)):=⟨_,rfl⟩;have Z:L.length=n:=by rw[N];exact hn
 have xo:b<=n:=by rw[<-hn];simp only[zAc,zAf];omega
 have W:L[m]? =aA y:=by rw[N,hm,ha,zBh (by omega),zBh (by omega)];simp
 have K:Hid (∀i,a<=i->i<m->L[i]? =A[i-a]?):=λi t I=>wC N ha t (by omega);have S0:Aside (gR w0 g L w):=by rw[N];exact S
 have HR:Hid (uF w0 g n):=R;have zl:Hid (kA A):=hA;have HL:Hid (L=X++(A++(y::Y))/\a=X.length/\m=a+A.length):=⟨N,ha,hm⟩;have E:Hid (L.length=n):=Z;have yz:Hid (L[m]? =aA y):=W;have Nh:xa=(a:Int):=by omega
 have Nd:xm=(m:Int):=by omega
 have Ng:xb=(b:Int):=by omega
 have e1:((m:Int)-(a:Int)==1)=aG:=zDd.2 (by omega);have e2:(b:Int)-(m:Int)=1:=by omega
 subst Nh Nd Ng;have U:a<=m:=by omega
 have hmb:m<b:=by omega
 clear S R hA N ha hb hn Z W Tk Ti Tj hm fe;go_enter (Qz.fn func102),ntmps102;go_wp2_with fail;go_loopg [14,15] (m-a) (λq u v wr=>∃i j:Nat,a<=i/\i<=j/\j<=m/\j-i=q/\u=aC aD (i:Int)/\v=aC aD (j:Int)/\(i=a\/∃x,L[i-1]? =aA x/\¬pS y x)/\(j=m\/∃x,L[j]? =aA x/\pS y x)/\Aside (gR w0 g L wr));case atStart=>exact⟨a,m,zAb _,U,zAb _,rfl,rfl,rfl,aH rfl,aH rfl,S0⟩
 case round=>
  clear S0
  obtain⟨i,j,V,pk,T,hq,rfl,rfl,t,I,S1⟩:=hrel
  have H:Hid ((i=a\/∃x,L[i-1]? =aA x/\¬pS y x)/\(j=m\/∃x,L[j]? =aA x/\pS y x)):=⟨t,I⟩
  clear t I
  by_cases bT:i<j
  .have pc:0<=(i:Int)+(j:Int):=by{omega};have np:(i:Int)+(j:Int)<=2000000:=by{omega};have Xh:(i:Int)<(j:Int):=by{omega};go_upto_region 17 with(fail)
   obtain⟨h,hh⟩:∃h:Nat,h=(i+j)/2:=⟨_,rfl⟩;have he:((i:Int)+(j:Int))/2=(h:Int):=by{omega};rw[he];have pq:i<=h:=by{omega};have px:h<j:=by{omega};clear pc np he hh;obtain⟨x,s⟩:∃x,L[h]? =aA x:=⟨_,zAh (by have:=E.out;omega)⟩;obtain⟨k,ci,cj,zE,la,lb,D,HG⟩:=S1.out.ask HR.out E.out yz.out s;have aE:=(λw=>(Qz.isAgg w 53).trans (isAgg53 w));have HX:Hid (L[h]? =aA x):=s;have Pe:Hid (uD y x<0↔pS y x):=OY;have qc:(0:Int)<=(h:Int):=by{omega};have qb:(h:Int)<(n:Int):=by{omega};have qx:(0:Int)<=(m:Int):=by{omega};have Tb:(m:Int)<(n:Int):=by{omega};generalize uD y x=cv at*;clear s S1;by_cases Qe:cv<0
   .go_quiet_grown (first|(refine aFt (D _ _)));clear la lb D zE aE;go_wp2;go_roundg (h-i);case measure=>omega
    case rel=>exact⟨i,h,V,by omega,by omega,rfl,rfl,rfl,H.out.1,aI ⟨x,HX.out,Pe.out.1 Qe⟩,HG.out _ _⟩
   .go_quiet_grown (first|(refine aFt (D _ _)));clear la lb D zE aE;go_wp2;go_roundg (j-(h+1));case measure=>omega
    case rel=>exact⟨h+1,j,by omega,by omega,T,rfl,by go_num,rfl,aI ⟨x,by rw[zGb];exact HX.out,λh'=>by have:=Pe.out.2 h';omega⟩,H.out.2,HG.out _ _⟩
  .obtain rfl:i=j:=by{omega};have ou:¬((i:Int)<(i:Int)):=by omega
   obtain⟨l,f,d,G⟩:∃l f,A=l++f/\l.length=i-a:=⟨A.take (i-a),A.drop (i-a),(zBy _ _).symm,by rw[zBe];have:=HL.out;omega⟩;have HF:Hid (eM (A++[y]) (l++y::f)/\kA (l++y::f)):=by
    have hS:=zl.out;have hAl:A.length=l.length+f.length:=by{rw[d,zAc]};have hml:=HL.out.2.2;rw[d]at hS⊢;refine YA hS (λx s=> ?_) λx s=> ?_
    .obtain e|⟨z,O,B⟩:=H.out.1
     .obtain rfl:l=[]:=zBi (by omega);cases s
     .have F:l≠[]:=λe=>by{rw[e]at s;cases s};have h0:=zCv.2 F;rw[K.out (i-1) (by omega) (by omega),d,zCh (by omega)]at O;rw[zGf,G,show i-a-1=i-1-a by omega,O]at s;cases s;exact B
    .have F:f≠[]:=λe=>by{rw[e]at s;cases s};have h0:=zCv.2 F;obtain e|⟨z,O,B⟩:=H.out.2;{omega};{rw[K.out i (by omega) (by omega),d,zBh (by omega),G,zFq]at O;rw[List.head?_eq_getElem?,O]at s;cases s;exact B}
   have M:Hid (X++(l++(f++(y::Y)))=L/\a=X.length/\a+l.length+f.length+1+Y.length=n/\i=a+l.length/\m=i+f.length):=by have t:=HL.out;have I:=E.out;have h3:A.length=l.length+f.length:=by{rw[d,zAc]};refine⟨by rw[t.1,d];simp,t.2.1,?_,by omega,by omega⟩;rw[<-I,t.1,d];simp only[zAc,zAf];omega
   have S2:Aside (gR w0 g (X++(l++(f++(y::Y)))) wr):=by{rw[M.out.1];exact S1};have c1:(0:Int)<=(i:Int):=by{omega};have c2:(m:Int)<=1000:=by{omega};clear S1 zl K HL E yz H d G V pk T hq bT hmb U;go_wp2_with fail;go_loopg [17] f.length (λq u wr=>∃(k:Nat)(o J:List bK),f=o++J/\k=i+o.length/\o.length=q/\u=aC aD (k:Int)/\Aside (gR w0 g (X++(l++(o++(y::(J++Y))))) wr));case atStart=>exact⟨m,f,[],by simp,M.out.2.2.2.2,rfl,rfl,(show gR _ _ _ _ by simpa using S2.out)⟩
   case round=>
    clear S2
    obtain⟨k,o,J,hP,hk,hq,rfl,S3⟩:=hrel
    have HP:Hid (f=o++J/\k=i+o.length/\f.length=o.length+J.length):=⟨hP,hk,by rw[hP,zAc]⟩
    clear hP hk
    obtain rfl|⟨o,z,rfl⟩:o=[]\/∃P z,o=P++[z]:=by obtain h|⟨P,z,h⟩:=List.eq_nil_or_concat o;{exact aH h};{exact aI ⟨P,z,by rw[h,List.concat_eq_append]⟩}
    .have hki:¬((i:Int)<(k:Int)):=by have t:=HP.out;simp only[zAl]at t;omega
     have S4:Aside (gR w0 g (X++((l++y::f)++Y)) wr):=by show gR _ _ _ _;have:=S3.out;rw[HP.out.1];simpa using this
     clear S3;go_wp2;(try simp only[Exit.inBlock,Exit.then]);refine zGz (Go.results_none rfl _ _ _) rfl ?_;exact⟨rfl,_,HF.out.1,HF.out.2,S4.out⟩
    .have t:=HP.out;have I:=M.out;rw[zAc,zDs]at t;obtain⟨j,hj⟩:∃j,k=j+1:=⟨k-1,by omega⟩;subst hj;obtain⟨_,c,cx,cy,zE,lx,ly,la,lb,sa,sb,S4⟩:=gR.ks (P:=X++(l++o)) (Q:=[]) (R':=J++Y) (x:=z) (y:=y) (by have:=S3.out;simpa using this) HR.out (by simp only[zAc,zAf,zAl];omega) (p:=j) (r:=j+1) (by simp only[zAc];omega) (by simp only[zAc,zAl];omega);have aE:=(λw=>(Qz.isAgg w 53).trans (isAgg53 w));have k1:(i:Int)<(j:Int)+1:=by{omega};have k2:(0:Int)<=(j:Int):=by{omega};have k3:(j:Int)<(n:Int):=by{omega};have k4:(0:Int)<=(j:Int)+1:=by{omega};have k5:(j:Int)+1<(n:Int):=by{omega};have k6:IntKind.i64.wrap (j:Int)=(j:Int):=by{rw[zGq];omega};have k7:((j:Int)+1).toNat=j+1:=by{omega};clear t I S3;go_wp2_with fail;go_big_region_o;clear la lb sa sb zE aE lx ly;generalize(wr.drew.setCells g ((j+1)*c) cy).setCells g (j*c) cx=w2 at*;go_wp2;go_roundg o.length;case measure=>rw[<-hq,zAc,zDs];omega
     case rel=>exact⟨j,o,z::J,by rw[HP.out.1];simp,by have:=HP.out;rw[zAc,zDs]at this;omega,rfl,by first|rfl|go_num,(show gR _ _ _ _ by have:=S4.out;simpa using this)⟩
end
section
variable {w0 w:zW}{g n cap:Nat}
def II (w0:zW)(g n cap N:Nat):Prop:=∀(X A B Y:List bK)(w:zW)(b x a:Int),A.length+B.length<=N->(X++(A++(B++Y))).length=n->A≠[]->B≠[]->kA A->kA B->gR w0 g (X++(A++(B++Y))) w->b=(X.length:Int)->x=((X.length+A.length:Nat):Int)->a=((X.length+A.length+B.length:Nat):Int)->
  Calls zq 102 #[aK (aA ⟨g,0,aB⟩) n cap,aC aD b,aC aD x,aC aD a,.func (.func 62) #[] #[]] w λe c=>e=aM (.tuple #[])/\∃C,eM (A++B) C/\kA C/\gR w0 g (X++(C++Y)) c
structure Yp (A B A1 A2 B1 B2:List bK):Prop where
 a:A=A1++A2
 b:B=B1++B2
 lt:∀x∈A2,∀y∈B1,pS y x
 le:∀x∈A1,∀y∈B2,tI x y
def Yp.done {A B A1 A2 B1 B2 C1 C2:List bK}(h:Yp A B A1 A2 B1 B2)(e:kA A)(d:kA B)(c:eM (A1++B1) C1)(b:eM (A2++B2) C2)(s1:kA C1)(s2:kA C2):eM (A++B) (C1++C2)/\kA (C1++C2):=by obtain⟨rfl,rfl,a,f⟩:=h;exact⟨vM c b a,yN c b s1 s2 e d a f⟩
def Tq {A B L X Y:List bK}{a m b s e:Nat}(z:L=X++(A++(B++Y)))(I:a=X.length)(Q:m=a+A.length)(S:b=m+B.length)(K:kA A)(J:kA B)(hs:a<=s)(G:s<=m)(R:m<=e)(H:e<=b)
  (N:a<s->e<b->∃x y,L[s-1]? =aA x/\L[e]? =aA y/\tI x y) (M:s<m->m<e->∃x y,L[s]? =aA x/\L[e-1]? =aA y/\pS y x):
  ∃D P C O,Yp A B D P C O/\D.length=s-a/\C.length=e-m:=by
 have f:∀i,a<=i->i<m->L[i]? =A[i-a]? :=λi k1 k2=>wC z I k1 (by omega);have d:∀i,m<=i->i<b->L[i]? =B[i-m]? :=λi k1 k2=>wC (X:=X++A) (Y:=Y) (by rw[z];simp) (by rw[zAc];omega) k1 (by omega);have v:=K;have u:=J;rw[<-zBy (s-a) A]at v;rw[<-zBy (e-m) B]at u;obtain⟨q,p,_⟩:=zCg.1 v;obtain⟨o,l,_⟩:=zCg.1 u;refine⟨A.take (s-a),A.drop (s-a),B.take (e-m),B.drop (e-m),⟨(zBy _ _).symm,(zBy _ _).symm,YO p o λx y c h=> ?_,YV q l λx y c h=> ?_⟩,by rw[zBe];omega,by rw[zBe];omega⟩
 .rw[head_drop]at c;have k1:=(zAx.1 c).1;have k2:m<e:=zFu λr=>by{rw[show e-m=0 by omega]at h;cases h};rw[LP (by omega) (by omega)]at h;obtain⟨F,E,k,j,t⟩:=M (by omega) k2;rw[f s hs (by omega),c]at k;rw[d (e-1) (by omega) (by omega),show e-1-m=e-m-1 by omega,h]at j;cases k;cases j;exact t
 .rw[head_drop]at h;have k1:=(zAx.1 h).1;have k2:a<s:=zFu λr=>by{rw[show s-a=0 by omega]at c;cases c};rw[LP (by omega) (by omega)]at c;obtain⟨F,E,k,j,t⟩:=N k2 (by omega);rw[f (s-1) (by omega) (by omega),show s-1-a=s-a-1 by omega,c]at k;rw[d e (by omega) (by omega),h]at j;cases k;cases j;exact t
def Aside.Si {a b c d e:Prop}(k:a)(j:b)(i:c)(f:d)(h:e):Aside (a/\b/\c/\d/\e):=⟨k,j,i,f,h⟩
structure Tail (w0:zW)(g n cap:Nat)(L:List bK)(a m b fW s e:Nat)(F:Nat->zW->Prop)(D:zW->Prop):Prop where
 one:∀W,gR w0 g L W->(s<m->m<e->Calls zq 119 #[aK (aA ⟨g,0,aB⟩) n cap,aC aD (s:Int),aC aD (m:Int),aC aD (e:Int),.func (.func 62) #[] #[]] W λe w'=>e=aM (.tuple #[])/\F 1 w')/\(¬(s<m/\m<e)->F 1 W)
 two:∀W,F 1 W->(a<s->s<fW->Calls zq 102 #[aK (aA ⟨g,0,aB⟩) n cap,aC aD (a:Int),aC aD (s:Int),aC aD (fW:Int),.func (.func 62) #[] #[]] W λe w'=>e=aM (.tuple #[])/\F 2 w')/\(¬(a<s/\s<fW)->F 2 W)
 three:∀W,F 2 W->(fW<e->e<b->Calls zq 102 #[aK (aA ⟨g,0,aB⟩) n cap,aC aD (fW:Int),aC aD (e:Int),aC aD (b:Int),.func (.func 62) #[] #[]] W λe w'=>e=aM (.tuple #[])/\D w')/\(¬(fW<e/\e<b)->D W)
def Qs {N:Nat}{X A B Y L:List bK}{a m b fW s e:Nat}(R:uF w0 g n)(I:n<=1000)(V:II w0 g n cap N)(hN:A.length+B.length<=N+1)(hL:L=X++(A++(B++Y)))(hn:L.length=n)(ha:a=X.length)(hm:m=a+A.length)(hb:b=m+B.length)(H:kA A)(G:kA B)(Z:a<fW)(K:fW<b)(hs:a<=s)(J:s<=m)(he:m<=e)(M:e<=b)(hse:s+e=fW+m)
  (t:a<s->e<b->∃x y,L[s-1]? =aA x/\L[e]? =aA y/\tI x y) (r:s<m->m<e->∃x y,L[s]? =aA x/\L[e-1]? =aA y/\pS y x):
  ∃F,Tail w0 g n cap L a m b fW s e F λE=>∃C,eM (A++B) C/\kA C/\gR w0 g (X++(C++Y)) E:=by
 obtain⟨l,d,j,f,o,l1,U⟩:=Tq hL ha hm hb H G hs J he M t r;have eA:A.length=l.length+d.length:=by rw[o.a,zAc]
 have eB:B.length=j.length+f.length:=by rw[o.b,zAc]
 have T:=H;have S:=G;rw[o.a]at T;rw[o.b]at S;obtain⟨D,z,_⟩:=zCg.1 T;obtain⟨v,u,_⟩:=zCg.1 S;have q:L=X++(l++(d++(j++(f++Y)))):=by rw[hL,o.a,o.b];simp
 have hlen:X.length+l.length+d.length+j.length+f.length+Y.length=n:=by rw[<-hn,q];simp only[zAc];omega
 refine⟨λi W=>if i=1 then gR w0 g (X++(l++(j++(d++(f++Y))))) W else∃p,eM (l++j) p/\kA p/\gR w0 g (X++(p++(d++(f++Y)))) W,λW c=>⟨λk1 k2=> ?_,λk=> ?_⟩,λW c=>⟨λk1 k2=> ?_,λk=> ?_⟩,λW c=>⟨λk1 k2=> ?_,λk=> ?_⟩⟩
 .rw[q]at c;refine(XQ (X++l) d j (f++Y) R (by simp only[zAc];omega) (λh=>by rw[h,zAl]at eA;omega) (λh=>by rw[h,zAl]at U;omega) I (by simpa using c) (by rw[zAc];omega) (by rw[zAc];omega) (by rw[zAc];omega)).mono ?_;rintro e E ⟨t,r⟩;exact⟨t,by rw[zAv rfl];simpa using r⟩
 .rw[zAv rfl];rw[q]at c;by_cases h:s<m
  .obtain rfl:j=[]:=zBi (by omega);simpa using c
  .obtain rfl:d=[]:=zBi (by omega);simpa using c
 .rw[zAv rfl]at c;refine(V X l j (d++(f++Y)) W _ _ _ (by omega) (by simp only[zAc];omega) (λh=>by rw[h,zAl]at l1;omega) (λh=>by rw[h,zAl]at U;omega) D v c (by omega) (by omega) (by omega)).mono ?_;rintro e E ⟨t,C,r,P,O⟩;exact⟨t,by rw[zAt (by decide)];exact⟨C,r,P,O⟩⟩
 .rw[zAv rfl]at c;rw[zAt (by decide)];refine⟨l++j,.refl _,?_,by simpa using c⟩;by_cases h:a<s
  .obtain rfl:j=[]:=zBi (by omega);rw[zAq];exact D
  .obtain rfl:l=[]:=zBi (by omega);exact v
 .rw[zAt (by decide)]at c;obtain⟨p,c1,c2,c3⟩:=c;have cl:=c1.len;rw[zAc]at cl;refine(V (X++p) d f Y W _ _ _ (by omega) (by simp only[zAc];omega) (λh=>by rw[h,zAl]at eA;omega) (λh=>by rw[h,zAl]at eB;omega) z u (by simpa using c3) (by rw[zAc];omega) (by rw[zAc];omega) (by rw[zAc];omega)).mono ?_;rintro e E ⟨t,C2,r,P,O⟩;obtain⟨d1,Q⟩:=o.done H G c1 r c2 P;exact⟨t,p++C2,d1,Q,by simpa using O⟩
 .rw[zAt (by decide)]at c;obtain⟨p,c1,c2,c3⟩:=c;have s2:kA (d++f):=by
   by_cases h:fW<e;{obtain rfl:f=[]:=zBi (by omega);rw[zAq];exact z};{obtain rfl:d=[]:=zBi (by omega);exact u}
  obtain⟨d1,Q⟩:=o.done H G c1 (.refl _) c2 s2;exact⟨p++(d++f),d1,Q,by simpa using c3⟩
end
section
variable {w0 w:zW}{g n cap:Nat}
def IV {N:Nat}(R:uF w0 g n)(FY:n<=1000)(ih:II w0 g n cap N):II w0 g n cap (N+1):=by
 intro X A B Y w xa xm xb hN hn yk rq hA hB S Tk Ti Tj;have hA1:=zCv.2 yk;have hB1:=zCv.2 rq;by_cases rr:A.length=1
 .obtain⟨x,rfl⟩:=List.length_eq_one_iff.1 rr;exact WT X x B Y R (by simpa using hn) hB FY (by simpa using S) Tk (by simpa using Ti) (by simpa using Tj)
 by_cases yj:B.length=1
 .obtain⟨y,rfl⟩:=List.length_eq_one_iff.1 yj;exact QN X A y Y R (by simpa using hn) hA rr FY (by simpa using S) Tk Ti (by simpa using Tj)
 have mixed:zq.follows .mixedOrders=aF:=by kernel_rfl
 obtain⟨a,ha⟩:∃a,a=X.length:=⟨_,rfl⟩;obtain⟨m,hm⟩:∃m,m=a+A.length:=⟨_,rfl⟩;obtain⟨b,hb⟩:∃b,b=m+B.length:=⟨_,rfl⟩;obtain⟨fW,oz⟩:∃fW,fW=(a+b)/2:=⟨_,rfl⟩;obtain⟨L,hL⟩:∃L,L=X++(A++(B++Y)):=⟨_,rfl⟩;have rf:L.length=n:=by rw[hL];exact hn
 have xo:b<=n:=by rw[<-hn];simp only[zAc];omega
 have S0:Aside (gR w0 g L w):=by rw[hL];exact S
 have HR:Hid (uF w0 g n):=R;have U:Hid (L.length=n):=rf;have e1:((m:Int)-(a:Int)==1)=aG:=zDd.2 (by omega);have e2:((b:Int)-(m:Int)==1)=aG:=zDd.2 (by omega);obtain⟨f1,f2,f3,f4⟩:a+2<=m/\m+2<=b/\a<fW/\fW<b:=by omega
 have f5:fW+fW<=a+b/\a+b<=fW+fW+1:=by omega
 have HT:Hid (∀s e,a<=s->s<=m->m<=e->e<=b->s+e=fW+m->(a<s->e<b->∃x y,L[s-1]? =aA x/\L[e]? =aA y/\tI x y)->(s<m->m<e->∃x y,L[s]? =aA x/\L[e-1]? =aA y/\pS y x)->∃F,Tail w0 g n cap L a m b fW s e F λw'=>∃C,eM (A++B) C/\kA C/\gR w0 g (X++(C++Y)) w'):=λs e l G P h4 h5 h6 h7=>Qs R FY ih hN hL rf ha hm hb hA hB f3 f4 l G P h4 h5 h6 h7;obtain⟨D,hD⟩:∃D:zW->Prop,D=λw'=>∃C,eM (A++B) C/\kA C/\gR w0 g (X++(C++Y)) w':=⟨_,rfl⟩;rw[<-hD]at HT;have Nh:xa=(a:Int):=by omega
 have Nd:xm=(m:Int):=by omega
 have Ng:xb=(b:Int):=by omega
 subst Nh Nd Ng;have hg:∀(e:Ending)(w':zW),(e=aM (.tuple #[])/\∃C,eM (A++B) C/\kA C/\gR w0 g (X++(C++Y)) w')=(e=aM (.tuple #[])/\D w'):=λe w'=>by rw[hD]
 simp only[hg];have Z:0<=(a:Int)+(b:Int):=by omega
 have V:(a:Int)+(b:Int)<=2000000:=by omega
 clear S R hA hB hL ha hb hn rf Tk Ti Tj hm yk rq rr yj hA1 hB1 hN ih hD hg;go_enter (Qz.fn func102),ntmps102;go_upto_region 25 with(fail)
 have M:((a:Int)+(b:Int))/2=(fW:Int):=by omega
 rw[M];clear Z V M oz;have g1:(b:Int)<=1000:=by omega
 have g2:(m:Int)<(b:Int):=by omega
 have g3:(a:Int)<(m:Int):=by omega
 have g4:(fW:Int)<(b:Int):=by omega
 have g5:(a:Int)<(fW:Int):=by omega
 by_cases hmm:fW<m
 .have oy:((fW:Int)<(m:Int)):=by{omega};obtain⟨s0,iy⟩:∃s0,s0=fW+m-b:=⟨_,rfl⟩;have q3:(fW:Int)+(m:Int)-(b:Int)=(s0:Int):=by{omega};have yq:Hid (s0=fW+m-b):=iy;have g6:(0:Int)<=(s0:Int):=by{omega};have hsr:s0<=fW/\a<=s0:=by{omega};clear iy;go_upto_region 33 with(fail)
  go_loopg [20,21] (fW-s0) (λq u v wr=>∃s t:Nat,s0<=s/\s<=t/\t<=fW/\t-s=q/\u=aC aD (s:Int)/\v=aC aD (t:Int)/\(s=s0\/∃x y,L[s-1]? =aA x/\L[fW+m-s]? =aA y/\tI x y)/\(t=fW\/∃x y,L[t]? =aA x/\L[fW+m-t-1]? =aA y/\pS y x)/\Aside (gR w0 g L wr));case atStart=>exact⟨s0,fW,zAb _,by omega,zAb _,rfl,rfl,rfl,aH rfl,aH rfl,S0⟩
  case round=>
   clear S0
   obtain⟨s,t,hs,Ch,W,hq,rfl,rfl,l,G,S1⟩:=hrel
   have p:Hid ((s=s0\/∃x y,L[s-1]? =aA x/\L[fW+m-s]? =aA y/\tI x y)/\(t=fW\/∃x y,L[t]? =aA x/\L[fW+m-t-1]? =aA y/\pS y x)):=⟨l,G⟩
   clear l G
   by_cases bT:s<t
   .have Z:0<=(s:Int)+(t:Int):=by{omega};have V:(s:Int)+(t:Int)<=2000000:=by{omega};have Xh:(s:Int)<(t:Int):=by{omega};go_upto_region 35 with(fail)
    obtain⟨h,hh⟩:∃h:Nat,h=(s+t)/2:=⟨_,rfl⟩;have M:((s:Int)+(t:Int))/2=(h:Int):=by{omega};rw[M];have pq:s<=h:=by{omega};have px:h<t:=by{omega};clear Z V M hh;obtain⟨r,hr⟩:∃r,r=fW+m-h-1:=⟨_,rfl⟩;have iz:r<n:=by{have:=yq.out;omega};have O:(fW:Int)+(m:Int)-1-(h:Int)=(r:Int):=by{omega};obtain⟨x,hx⟩:∃x,L[h]? =aA x:=⟨_,zAh (by have:=U.out;omega)⟩;obtain⟨y,hy⟩:∃y,L[r]? =aA y:=⟨_,zAh (by have:=U.out;omega)⟩;obtain⟨k,ci,cj,zE,la,lb,E,HG⟩:=S1.out.ask HR.out U.out hy hx;have aE:=(λw=>(Qz.isAgg w 53).trans (isAgg53 w));have I:Hid (L[h]? =aA x/\L[fW+m-h-1]? =aA y):=⟨hx,by rw[<-hr];exact hy⟩;have Pe:Hid (uD y x<0↔pS y x):=OY;have qc:(0:Int)<=(h:Int):=by{omega};have qb:(h:Int)<(n:Int):=by{omega};have qx:(0:Int)<=(r:Int):=by{omega};have Tb:(r:Int)<(n:Int):=by{omega};have hw:IntKind.i64.wrap (r:Int)=(r:Int):=by{rw[zGq];omega};generalize uD y x=cv at*;clear hx hy S1 hr;by_cases Qe:cv<0
    .go_quiet_grown (first|(refine aFt (E _ _)));clear la lb E zE aE O hw;go_wp2;go_roundg (h-s);case measure=>omega
     case rel=>exact⟨s,h,hs,by omega,by omega,rfl,rfl,rfl,p.out.1,aI ⟨x,y,I.out.1,I.out.2,Pe.out.1 Qe⟩,HG.out _ _⟩
    .go_quiet_grown (first|(refine aFt (E _ _)));clear la lb E zE aE O hw;go_wp2;go_roundg (t-(h+1));case measure=>omega
     case rel=>exact⟨h+1,t,by omega,by omega,W,rfl,by go_num,rfl,aI ⟨x,y,by rw[zGb];exact I.out.1,by rw[show fW+m-(h+1)=fW+m-h-1 by omega];exact I.out.2,λh'=>by have:=Pe.out.2 h';omega⟩,p.out.2,HG.out _ _⟩
   .obtain rfl:s=t:=by{omega};have ou:¬((s:Int)<(s:Int)):=by omega
    obtain⟨e,M⟩:∃e,e=fW+m-s:=⟨_,rfl⟩;have iy:=yq.out;obtain⟨F,H⟩:=HT.out s e (by omega) (by omega) (by omega) (by omega) (by omega) (λk1 k2=>by
     obtain h|⟨x,y,z1,z2,z3⟩:=p.out.1;{omega}
     .exact⟨x,y,z1,by rw[M];exact z2,z3⟩) (λk1 k2=>by
     obtain h|⟨x,y,z1,z2,z3⟩:=p.out.2;{omega}
     .exact⟨x,y,z1,by rw[M];exact z2,z3⟩)
    have H:Hid (Tail w0 g n cap L a m b fW s e F D):=H;have O:(fW:Int)+(m:Int)-(s:Int)=(e:Int):=by{omega};have k1:a<=s:=by{omega};have k2:s<=m:=by{omega};have k3:m<=e:=by{omega};have k4:e<=b:=by{omega};have i:s+e=fW+m:=by{omega};have g8:(e:Int)<=1000:=by{omega};have g9:(s:Int)<=1000:=by{omega};clear iy M p hs Ch W hq bT HT;obtain⟨f,d,c,j⟩|⟨f,d,c,j⟩|⟨f,d,c,j⟩|⟨f,d,c,j⟩|⟨f,d,c,j⟩|⟨f,d,c,j⟩|⟨f,d,c,j⟩:=(show(a<s/\s<m/\m<e/\e<b)\/(s=a/\s<m/\m<e/\e<b)\/(a<s/\s=m/\m<e/\e<b)\/(a<s/\s<m/\e=m/\e<b)\/(a<s/\s<m/\m<e/\e=b)\/(s=a/\s<m/\m<e/\e=b)\/(a<s/\s=m/\e=m/\e<b) by omega);{have i1:((s:Int)<(m:Int)):=by{omega};have i2:((m:Int)<(e:Int)):=by{omega};have i3:((a:Int)<(s:Int)):=by{omega};have i4:((s:Int)<(fW:Int)):=by{omega};have i5:((fW:Int)<(e:Int)):=by{omega};have i6:((e:Int)<(b:Int)):=by{omega};have T:=(H.out.one _ S1.out).1 (by omega) (by omega);have J:=Aside.Si f d c j i;clear f d c j k1 k2 k3 k4 i S1;go_wp2_with fail;refine T.mono ?_;clear T;rintro Q w1 ⟨rfl,l⟩;have z:Aside (F 1 w1):=l;clear l;have T2:=(H.out.two _ z.out).1 (by obtain⟨f,d,c,j,i⟩:=J.out;omega) (by obtain⟨f,d,c,j,i⟩:=J.out;omega);clear z;go_wp2_with fail;refine T2.mono ?_;clear T2;rintro Q w2 ⟨rfl,G⟩;have o:Aside (F 2 w2):=G;clear G;have T3:=(H.out.three _ o.out).1 (by obtain⟨f,d,c,j,i⟩:=J.out;omega) (by obtain⟨f,d,c,j,i⟩:=J.out;omega);clear o;go_wp2_with fail;refine T3.mono ?_;clear T3;rintro Q w3 ⟨rfl,P⟩;have K:Aside (D w3):=P;clear P;go_wp2;go_end0;exact⟨rfl,K.out⟩};{exfalso;omega};{exfalso;omega};{have i1:((s:Int)<(m:Int)):=by{omega};have i2:¬((m:Int)<(e:Int)):=by{omega};have i3:((a:Int)<(s:Int)):=by{omega};have i4:¬((s:Int)<(fW:Int)):=by{omega};have i5:((fW:Int)<(e:Int)):=by{omega};have i6:((e:Int)<(b:Int)):=by{omega};have z:Aside (F 1 wr):=(H.out.one _ S1.out).2 (by omega);have o:Aside (F 2 wr):=(H.out.two _ z.out).2 (by omega);have T3:=(H.out.three _ o.out).1 (by omega) (by omega);have J:=Aside.Si f d c j i;clear f d c j k1 k2 k3 k4 i S1;go_wp2_with fail;refine T3.mono ?_;clear T3;rintro Q w3 ⟨rfl,P⟩;have K:Aside (D w3):=P;clear P;go_wp2;go_end0;exact⟨rfl,K.out⟩};{have i1:((s:Int)<(m:Int)):=by{omega};have i2:((m:Int)<(e:Int)):=by{omega};have i3:((a:Int)<(s:Int)):=by{omega};have i4:((s:Int)<(fW:Int)):=by{omega};have i5:((fW:Int)<(e:Int)):=by{omega};have i6:¬((e:Int)<(b:Int)):=by{omega};have T:=(H.out.one _ S1.out).1 (by omega) (by omega);have J:=Aside.Si f d c j i;clear f d c j k1 k2 k3 k4 i S1;go_wp2_with fail;refine T.mono ?_;clear T;rintro Q w1 ⟨rfl,l⟩;have z:Aside (F 1 w1):=l;clear l;have T2:=(H.out.two _ z.out).1 (by obtain⟨f,d,c,j,i⟩:=J.out;omega) (by obtain⟨f,d,c,j,i⟩:=J.out;omega);clear z;go_wp2_with fail;refine T2.mono ?_;clear T2;rintro Q w2 ⟨rfl,G⟩;have o:Aside (F 2 w2):=G;clear G;have K:Aside (D w2):=(H.out.three _ o.out).2 (by obtain⟨f,d,c,j,i⟩:=J.out;omega);clear o;go_wp2;go_end0;exact⟨rfl,K.out⟩};{have i1:((s:Int)<(m:Int)):=by{omega};have i2:((m:Int)<(e:Int)):=by{omega};have i3:¬((a:Int)<(s:Int)):=by{omega};have i4:((s:Int)<(fW:Int)):=by{omega};have i5:((fW:Int)<(e:Int)):=by{omega};have i6:¬((e:Int)<(b:Int)):=by{omega};have T:=(H.out.one _ S1.out).1 (by omega) (by omega);have J:=Aside.Si f d c j i;clear f d c j k1 k2 k3 k4 i S1;go_wp2_with fail;refine T.mono ?_;clear T;rintro Q w1 ⟨rfl,l⟩;have z:Aside (F 1 w1):=l;clear l;have o:Aside (F 2 w1):=(H.out.two _ z.out).2 (by obtain⟨f,d,c,j,i⟩:=J.out;omega);clear z;have K:Aside (D w1):=(H.out.three _ o.out).2 (by obtain⟨f,d,c,j,i⟩:=J.out;omega);clear o;go_wp2;go_end0;exact⟨rfl,K.out⟩};{exfalso;omega}
 .have oy:¬((fW:Int)<(m:Int)):=by{omega};go_upto_region 33 with(fail)
  go_loopg [20,21] (m-a) (λq u v wr=>∃s t:Nat,a<=s/\s<=t/\t<=m/\t-s=q/\u=aC aD (s:Int)/\v=aC aD (t:Int)/\(s=a\/∃x y,L[s-1]? =aA x/\L[fW+m-s]? =aA y/\tI x y)/\(t=m\/∃x y,L[t]? =aA x/\L[fW+m-t-1]? =aA y/\pS y x)/\Aside (gR w0 g L wr));case atStart=>exact⟨a,m,zAb _,by omega,zAb _,rfl,rfl,rfl,aH rfl,aH rfl,S0⟩
  case round=>
   clear S0
   obtain⟨s,t,hs,Ch,W,hq,rfl,rfl,l,G,S1⟩:=hrel
   have p:Hid ((s=a\/∃x y,L[s-1]? =aA x/\L[fW+m-s]? =aA y/\tI x y)/\(t=m\/∃x y,L[t]? =aA x/\L[fW+m-t-1]? =aA y/\pS y x)):=⟨l,G⟩
   clear l G
   by_cases bT:s<t
   .have Z:0<=(s:Int)+(t:Int):=by{omega};have V:(s:Int)+(t:Int)<=2000000:=by{omega};have Xh:(s:Int)<(t:Int):=by{omega};go_upto_region 35 with(fail)
    obtain⟨h,hh⟩:∃h:Nat,h=(s+t)/2:=⟨_,rfl⟩;have M:((s:Int)+(t:Int))/2=(h:Int):=by{omega};rw[M];have pq:s<=h:=by{omega};have px:h<t:=by{omega};clear Z V M hh;obtain⟨r,hr⟩:∃r,r=fW+m-h-1:=⟨_,rfl⟩;have iz:r<n:=by{omega};have O:(fW:Int)+(m:Int)-1-(h:Int)=(r:Int):=by{omega};obtain⟨x,hx⟩:∃x,L[h]? =aA x:=⟨_,zAh (by have:=U.out;omega)⟩;obtain⟨y,hy⟩:∃y,L[r]? =aA y:=⟨_,zAh (by have:=U.out;omega)⟩;obtain⟨k,ci,cj,zE,la,lb,E,HG⟩:=S1.out.ask HR.out U.out hy hx;have aE:=(λw=>(Qz.isAgg w 53).trans (isAgg53 w));have I:Hid (L[h]? =aA x/\L[fW+m-h-1]? =aA y):=⟨hx,by rw[<-hr];exact hy⟩;have Pe:Hid (uD y x<0↔pS y x):=OY;have qc:(0:Int)<=(h:Int):=by{omega};have qb:(h:Int)<(n:Int):=by{omega};have qx:(0:Int)<=(r:Int):=by{omega};have Tb:(r:Int)<(n:Int):=by{omega};have hw:IntKind.i64.wrap (r:Int)=(r:Int):=by{rw[zGq];omega};generalize uD y x=cv at*;clear hx hy S1 hr;by_cases Qe:cv<0
    .go_quiet_grown (first|(refine aFt (E _ _)));clear la lb E zE aE O hw;go_wp2;go_roundg (h-s);case measure=>omega
     case rel=>exact⟨s,h,hs,by omega,by omega,rfl,rfl,rfl,p.out.1,aI ⟨x,y,I.out.1,I.out.2,Pe.out.1 Qe⟩,HG.out _ _⟩
    .go_quiet_grown (first|(refine aFt (E _ _)));clear la lb E zE aE O hw;go_wp2;go_roundg (t-(h+1));case measure=>omega
     case rel=>exact⟨h+1,t,by omega,by omega,W,rfl,by go_num,rfl,aI ⟨x,y,by rw[zGb];exact I.out.1,by rw[show fW+m-(h+1)=fW+m-h-1 by omega];exact I.out.2,λh'=>by have:=Pe.out.2 h';omega⟩,p.out.2,HG.out _ _⟩
   .obtain rfl:s=t:=by{omega};have ou:¬((s:Int)<(s:Int)):=by omega
    obtain⟨e,M⟩:∃e,e=fW+m-s:=⟨_,rfl⟩;obtain⟨F,H⟩:=HT.out s e (by omega) (by omega) (by omega) (by omega) (by omega) (λk1 k2=>by
     obtain h|⟨x,y,z1,z2,z3⟩:=p.out.1;{omega}
     .exact⟨x,y,z1,by rw[M];exact z2,z3⟩) (λk1 k2=>by
     obtain h|⟨x,y,z1,z2,z3⟩:=p.out.2;{omega}
     .exact⟨x,y,z1,by rw[M];exact z2,z3⟩)
    have H:Hid (Tail w0 g n cap L a m b fW s e F D):=H;have O:(fW:Int)+(m:Int)-(s:Int)=(e:Int):=by{omega};have k1:a<=s:=by{omega};have k2:s<=m:=by{omega};have k3:m<=e:=by{omega};have k4:e<=b:=by{omega};have i:s+e=fW+m:=by{omega};have g8:(e:Int)<=1000:=by{omega};have g9:(s:Int)<=1000:=by{omega};clear M p hs Ch W hq bT HT;obtain⟨f,d,c,j⟩|⟨f,d,c,j⟩|⟨f,d,c,j⟩|⟨f,d,c,j⟩|⟨f,d,c,j⟩|⟨f,d,c,j⟩|⟨f,d,c,j⟩:=(show(a<s/\s<m/\m<e/\e<b)\/(s=a/\s<m/\m<e/\e<b)\/(a<s/\s=m/\m<e/\e<b)\/(a<s/\s<m/\e=m/\e<b)\/(a<s/\s<m/\m<e/\e=b)\/(s=a/\s<m/\m<e/\e=b)\/(a<s/\s=m/\e=m/\e<b) by omega);{have i1:((s:Int)<(m:Int)):=by{omega};have i2:((m:Int)<(e:Int)):=by{omega};have i3:((a:Int)<(s:Int)):=by{omega};have i4:((s:Int)<(fW:Int)):=by{omega};have i5:((fW:Int)<(e:Int)):=by{omega};have i6:((e:Int)<(b:Int)):=by{omega};have T:=(H.out.one _ S1.out).1 (by omega) (by omega);have J:=Aside.Si f d c j i;clear f d c j k1 k2 k3 k4 i S1;go_wp2_with fail;refine T.mono ?_;clear T;rintro Q w1 ⟨rfl,l⟩;have z:Aside (F 1 w1):=l;clear l;have T2:=(H.out.two _ z.out).1 (by obtain⟨f,d,c,j,i⟩:=J.out;omega) (by obtain⟨f,d,c,j,i⟩:=J.out;omega);clear z;go_wp2_with fail;refine T2.mono ?_;clear T2;rintro Q w2 ⟨rfl,G⟩;have o:Aside (F 2 w2):=G;clear G;have T3:=(H.out.three _ o.out).1 (by obtain⟨f,d,c,j,i⟩:=J.out;omega) (by obtain⟨f,d,c,j,i⟩:=J.out;omega);clear o;go_wp2_with fail;refine T3.mono ?_;clear T3;rintro Q w3 ⟨rfl,P⟩;have K:Aside (D w3):=P;clear P;go_wp2;go_end0;exact⟨rfl,K.out⟩};{have i1:((s:Int)<(m:Int)):=by{omega};have i2:((m:Int)<(e:Int)):=by{omega};have i3:¬((a:Int)<(s:Int)):=by{omega};have i4:((s:Int)<(fW:Int)):=by{omega};have i5:((fW:Int)<(e:Int)):=by{omega};have i6:((e:Int)<(b:Int)):=by{omega};have T:=(H.out.one _ S1.out).1 (by omega) (by omega);have J:=Aside.Si f d c j i;clear f d c j k1 k2 k3 k4 i S1;go_wp2_with fail;refine T.mono ?_;clear T;rintro Q w1 ⟨rfl,l⟩;have z:Aside (F 1 w1):=l;clear l;have o:Aside (F 2 w1):=(H.out.two _ z.out).2 (by obtain⟨f,d,c,j,i⟩:=J.out;omega);clear z;have T3:=(H.out.three _ o.out).1 (by obtain⟨f,d,c,j,i⟩:=J.out;omega) (by obtain⟨f,d,c,j,i⟩:=J.out;omega);clear o;go_wp2_with fail;refine T3.mono ?_;clear T3;rintro Q w3 ⟨rfl,P⟩;have K:Aside (D w3):=P;clear P;go_wp2;go_end0;exact⟨rfl,K.out⟩};{have i1:¬((s:Int)<(m:Int)):=by{omega};have i2:((m:Int)<(e:Int)):=by{omega};have i3:((a:Int)<(s:Int)):=by{omega};have i4:((s:Int)<(fW:Int)):=by{omega};have i5:¬((fW:Int)<(e:Int)):=by{omega};have i6:((e:Int)<(b:Int)):=by{omega};have z:Aside (F 1 wr):=(H.out.one _ S1.out).2 (by omega);have T2:=(H.out.two _ z.out).1 (by omega) (by omega);have J:=Aside.Si f d c j i;clear f d c j k1 k2 k3 k4 i S1;go_wp2_with fail;refine T2.mono ?_;clear T2;rintro Q w2 ⟨rfl,G⟩;have o:Aside (F 2 w2):=G;clear G;have K:Aside (D w2):=(H.out.three _ o.out).2 (by obtain⟨f,d,c,j,i⟩:=J.out;omega);clear o;go_wp2;go_end0;exact⟨rfl,K.out⟩};{exfalso;omega};{exfalso;omega};{have i1:((s:Int)<(m:Int)):=by{omega};have i2:((m:Int)<(e:Int)):=by{omega};have i3:¬((a:Int)<(s:Int)):=by{omega};have i4:((s:Int)<(fW:Int)):=by{omega};have i5:((fW:Int)<(e:Int)):=by{omega};have i6:¬((e:Int)<(b:Int)):=by{omega};have T:=(H.out.one _ S1.out).1 (by omega) (by omega);have J:=Aside.Si f d c j i;clear f d c j k1 k2 k3 k4 i S1;go_wp2_with fail;refine T.mono ?_;clear T;rintro Q w1 ⟨rfl,l⟩;have z:Aside (F 1 w1):=l;clear l;have o:Aside (F 2 w1):=(H.out.two _ z.out).2 (by obtain⟨f,d,c,j,i⟩:=J.out;omega);clear z;have K:Aside (D w1):=(H.out.three _ o.out).2 (by obtain⟨f,d,c,j,i⟩:=J.out;omega);clear o;go_wp2;go_end0;exact⟨rfl,K.out⟩};{have i1:¬((s:Int)<(m:Int)):=by{omega};have i2:¬((m:Int)<(e:Int)):=by{omega};have i3:((a:Int)<(s:Int)):=by{omega};have i4:¬((s:Int)<(fW:Int)):=by{omega};have i5:¬((fW:Int)<(e:Int)):=by{omega};have i6:((e:Int)<(b:Int)):=by{omega};have z:Aside (F 1 wr):=(H.out.one _ S1.out).2 (by omega);have o:Aside (F 2 wr):=(H.out.two _ z.out).2 (by omega);have K:Aside (D wr):=(H.out.three _ o.out).2 (by omega);have J:=Aside.Si f d c j i;clear f d c j k1 k2 k3 k4 i S1;go_wp2;go_end0;exact⟨rfl,K.out⟩}
def vX (R:uF w0 g n)(h:n<=1000):∀N,II w0 g n cap N
 |0=>λX A B Y w c x b e d a=>absurd (zCv.2 a) (by omega)
 |N+1=>IV R h (vX R h N)
end
def Sv (X A Y:List bK):∃C,(insertionSort (ltOf uD) (X++(A++Y)).toArray X.length (X.length+A.length)).toList=X++(C++Y)/\eM A C/\kA C:=by
 obtain⟨d,e⟩:∃d,d=(X++(A++Y)).toArray:=⟨_,rfl⟩;have r:d.size=X.length+A.length+Y.length:=by rw[e,zAn];simp only[zAc];omega
 have c:d.toList=X++(A++Y):=by rw[e]
 obtain⟨⟨u,p2,_⟩,p4⟩:=Go.Sort.insertionSort_holds (lt:=ltOf uD) Wd d X.length (X.length+A.length) (by omega) (by omega);have p:∀I,dA I (insertionSort (ltOf uD) d X.length (X.length+A.length)).toList=dA I d.toList:=λI=>(xA I X.length (X.length+A.length) _ (X.length+1) d rfl (by omega)).1;rw[<-e];generalize insertionSort (ltOf uD) d X.length (X.length+A.length)=a at*;have m:a.toList.length=X.length+A.length+Y.length:=by rw[zCx];omega
 have b:∀i,i<d.size->i<X.length\/X.length+A.length<=i->a.toList[i]? =d.toList[i]? :=λi hi h=>by have:=p2 i h;rw[zEf a i (by omega),zEf d i hi]at this;rw[zBt,zBt,zAj (by omega),zAj hi,this]
 have t:a.toList.take X.length=X:=by apply List.ext_getElem?;intro i;rw[zCr];by_cases h:i<X.length;{rw[zAv h,b i (by omega) (aH h),c,zCh h]};{rw[zAt h,zFs (by omega)]}
 have s:a.toList.drop (X.length+A.length)=Y:=by apply List.ext_getElem?;intro i;rw[zEh];by_cases h:i<Y.length;{rw[b _ (by omega) (aI (by omega)),c,zBh (by omega),zBh (by omega),show X.length+A.length+i-X.length-A.length=i by omega]};{rw[zFs (by omega),zFs (by omega)]}
 have l:a.toList=X++((a.toList.drop X.length).take A.length++Y):=by conv=>lhs;rw[<-zBy X.length a.toList,t,<-zBy A.length (a.toList.drop X.length),List.drop_drop,s]
 refine⟨_,l,⟨by rw[zBe,zCn];omega,λI=> ?_⟩,?_⟩
 .have:=p I;rw[l,c]at this;simp only[OC]at this;exact zDc (List.append_cancel_left this)
 .refine List.pairwise_iff_getElem.2 ?_;intro i j hi o q f;rw[zBe,zCn]at hi o;have:=p4 (X.length+i) (X.length+j) (by omega) (by omega) (by omega);rw[zEf a _ (by omega),zEf a _ (by omega)]at this;simp only[List.getElem_take,List.getElem_drop,aFm]at f;have k:=(lL _ _).2 f;rw[this]at k;cases k
section
variable {w0 w:zW}{g n cap:Nat}
def ZC (X A Y:List bK)(R:uF w0 g n)(l:(X++(A++Y)).length=n)(k:n<=1000)(S:gR w0 g (X++(A++Y)) w){d x:Int}(c:d=(X.length:Int))(b:x=((X.length+A.length:Nat):Int)):
  Calls zq 101 #[aK (aA ⟨g,0,aB⟩) n cap,aC aD d,aC aD x,.func (.func 62) #[] #[]] w λe f=>e=aM (.tuple #[])/\∃C,eM A C/\kA C/\gR w0 g (X++(C++Y)) f:=by
 subst c b;obtain⟨d0,a,R⟩:=R;have i:(X++(A++Y)).toArray.size=n:=by rw[zAn,l]
 have h:=Sw g cap X.length (X.length+A.length) (X++(A++Y)).toArray w (SWK.holds S R.hblk R.hH (by rw[i,a])) (SWK.lt S R.hblk) (by omega) (by rw[zAn];simp only[zAc];omega) (by omega);rw[i]at h;refine h.mono ?_;rintro e f ⟨rfl,m,os,rfl⟩;obtain⟨C,p,j,o⟩:=Sv X A Y;refine⟨rfl,C,j,o,?_⟩;have e:insertionSort (ltOf uD) (X++(A++Y)).toArray X.length (X.length+A.length)=(X++(C++Y)).toArray:=by rw[<-p]
 rw[e];exact SWK.on S R.hblk m _ os (by rw[zAn,zAn];have:=j.len;simp only[zAc];omega)
structure uG (us:List bK)(s n a:Nat)(D r:List bK):Prop where
 at':a=D.length
 on:∀r',fD s r'->fD s (D++r')
 fQ:eM us (D++r)
 len:a+r.length=n
def uG.next {us D r A C Y:List bK}{s n a:Nat}(h:uG us s n a D r)(c:r=A++Y)(d:eM A C)(i:kA C)(hl:A.length=s):uG us s n (a+s) (D++C) Y:=by
 have j:=h.len;have k:=h.at';have f:=d.len;refine⟨by rw[zAc];omega,λe b=> ?_,?_,?_⟩
 .rw[zBp];exact h.on _ (.cons C e i (by omega) b)
 .have:=h.fQ;rw[c]at this;refine this.trans ?_;have:=d.fW D Y;simpa using this
 .rw[c,zAc]at j;omega
def uG.done {us D r C:List bK}{s n a:Nat}(h:uG us s n a D r)(b:eM r C)(d:kA C)(hl:r.length<=s):fD s (D++C)/\eM us (D++C):=by have c:=b.len;refine⟨h.on _ (.last C d (by omega)),h.fQ.trans ?_⟩;have:=b.fW D [];simpa using this
def uG.start (us:List bK)(s:Nat){L:List bK}(h:eM us L):uG us s us.length 0 [] L:=⟨rfl,λr h=>h,h,by have:=h.len;omega⟩
def QV (us:List bK)(R:uF w g us.length)(S:gR w g us w)(F:us.length<=1000):
  Calls zq 88 #[aK (aA ⟨g,0,aB⟩) us.length cap,aC aD (us.length:Int),.func (.func 62) #[] #[]] w λe Z=>e=aM (.tuple #[])/\gR w g (dP us) Z:=by
 have HI:Hid (∀(X A Y:List bK)(W:zW)(V U:Int),(X++(A++Y)).length=us.length->gR w g (X++(A++Y)) W->V=(X.length:Int)->U=((X.length+A.length:Nat):Int)->Calls zq 101 #[aK (aA ⟨g,0,aB⟩) us.length cap,aC aD V,aC aD U,.func (.func 62) #[] #[]] W λe Z=>e=aM (.tuple #[])/\∃C,eM A C/\kA C/\gR w g (X++(C++Y)) Z):=λX A Y W V U c b f h4=>ZC X A Y R c F b f h4;have HM:Hid (∀N,II w g us.length cap N):=vX R F;have P:Hid (∀s L,us.length<=s->fD s L->eM us L->L=dP us):=λs L c b f=>by have hs:kA L:=b.small (by have:=f.len;omega);exact LL (l:=dP us) ⟨by rw[f.len,jR],λI=>by rw[f.of,vF]⟩ (pD us) hs
 have S0:Aside (gR w g us w):=S;have HH:Hid (∀s L,eM us L->uG us s us.length 0 [] L):=λs L h=>uG.start us s h;generalize dP us=T at*;clear S R;have m:Hid (∀L,eM us L->L.length=us.length):=λL h=>h.len;generalize us.length=n at*;go_enter (Qz.fn func88),ntmps88;go_wp2_with fail;go_loopg [7,8] n (λq x y wr=>∃(a:Nat)(D r:List bK),n-a<=q/\a<=n/\x=aC aD (a:Int)/\y=aC aD ((a:Int)+20)/\Aside (uG us 20 n a D r/\gR w g (D++r) wr));case atStart=>exact⟨0,[],us,zAb _,zBs _,rfl,rfl,HH.out 20 us (.refl _),S0.out⟩
 case round=>
  clear S0
  obtain⟨a,D,r,hq,O,rfl,rfl,H⟩:=hrel
  by_cases t:a+20<=n
  .have j:(a:Int)+20<=(n:Int):=by{omega};obtain⟨A,Y,i,hA⟩:∃A Y,r=A++Y/\A.length=20:=⟨r.take 20,r.drop 20,(zBy _ _).symm,by rw[zBe];have:=H.out.1.len;omega⟩;have d:=H.out.1.at';have p:=HI.out D A Y wr (a:Int) ((a:Int)+20) (by rw[<-i];exact m.out _ H.out.1.fQ) (by rw[<-i];exact H.out.2) (by omega) (by omega);have k:Hid (∀C,eM A C->kA C->uG us 20 n (a+20) (D++C) Y):=λC c b=>H.out.1.next i c b hA;clear i hA d H;go_wp2_with fail;refine p.mono ?_;clear p;rintro e w1 ⟨rfl,C,c,b,f⟩;have B:Aside (uG us 20 n (a+20) (D++C) Y/\gR w g ((D++C)++Y) w1):=⟨k.out C c b,by simpa using f⟩;clear c b f k;go_wp2;go_roundg (n-(a+20));case measure=>omega
   case rel=>exact⟨a+20,D++C,Y,zAb _,t,by go_num,by first|rfl|go_num|(congr 1;omega),B⟩
  .have j:¬((a:Int)+20<=(n:Int)):=by{omega};have d:=H.out.1.at';have u:=H.out.1.len;have p:=HI.out D r [] wr (a:Int) (n:Int) (by rw[zAq];exact m.out _ H.out.1.fQ) (by rw[zAq];exact H.out.2) (by omega) (by omega);have k:Hid (∀C,eM r C->kA C->fD 20 (D++C)/\eM us (D++C)):=λC c b=>H.out.1.done c b (by omega);clear d u H;go_wp2_with fail;refine p.mono ?_;clear p;rintro e w1 ⟨rfl,C,c,b,f⟩;have o:Aside (fD 20 (D++C)/\eM us (D++C)/\gR w g (D++C) w1):=⟨(k.out C c b).1,(k.out C c b).2,by simpa using f⟩;generalize D++C=L0 at o;clear c b f k j hq O t;go_wp2_with fail;go_loopg [6] n (λq x wr=>∃(s:Nat)(L:List bK),n-s<=q/\20<=s/\s<=2000/\x=aC aD (s:Int)/\Aside (fD s L/\eM us L/\gR w g L wr));case atStart=>exact⟨20,L0,by omega,by omega,by omega,rfl,o⟩
   case round=>
    clear o
    obtain⟨s,L,hq,aAN,og,rfl,o⟩:=hrel
    generalize wr=wq at*
    by_cases bT:s<n
    .have M:(s:Int)<(n:Int):=by{omega};have Q:Aside (uG us (2*s) n 0 [] L/\fD s L/\gR w g L wq):=⟨HH.out _ _ o.out.2.1,o.out.1,o.out.2.2⟩;clear o;go_wp2_with fail;go_loopg [7,8] n (λq x y wr=>∃(a:Nat)(D r:List bK),n-a<=q/\a<=n/\x=aC aD (a:Int)/\y=aC aD ((a:Int)+2*(s:Int))/\Aside (uG us (2*s) n a D r/\fD s r/\gR w g (D++r) wr));case atStart=>exact⟨0,[],L,zAb _,zBs _,rfl,by first|rfl|go_num|(congr 1;omega),Q⟩
     case round=>
      clear Q
      obtain⟨a,D,r,vx,O,rfl,rfl,H⟩:=hrel
      by_cases t:a+2*s<=n
      .have j:(a:Int)+2*(s:Int)<=(n:Int):=by{omega};obtain⟨l,l',v,i,s1,E,s2,n2,K⟩:=H.out.2.1.two (by omega) (by have:=H.out.1.len;omega);have d:=H.out.1.at';have p:=HM.out _ D l l' v wr (a:Int) ((a:Int)+(s:Int)) ((a:Int)+2*(s:Int)) (zAb _) (by rw[<-i];exact m.out _ H.out.1.fQ) (λh=>by rw[h,zAl]at E;omega) (λh=>by rw[h,zAl]at n2;omega) s1 s2 (by rw[<-i];exact H.out.2.2) (by omega) (by omega) (by omega);have k:Hid (∀C,eM (l++l') C->kA C->uG us (2*s) n (a+2*s) (D++C) v/\fD s v):=λC c b=>⟨H.out.1.next (A:=l++l') (by rw[i,zBp]) c b (by rw[zAc];omega),K⟩;clear i s1 E s2 n2 K d H;go_wp2_with fail;refine p.mono ?_;clear p;rintro e w2 ⟨rfl,C,c,b,f⟩;have B:Aside (uG us (2*s) n (a+2*s) (D++C) v/\fD s v/\gR w g ((D++C)++v) w2):=⟨(k.out C c b).1,(k.out C c b).2,by simpa using f⟩;clear c b f k;go_wp2;go_roundg (n-(a+2*s));case measure=>omega
       case rel=>exact⟨a+2*s,D++C,v,zAb _,t,by first|go_num|(congr 1;omega),by first|rfl|go_num|(congr 1;omega),B⟩
      .have j:¬((a:Int)+2*(s:Int)<=(n:Int)):=by{omega};have u:=H.out.1.len;have d:=H.out.1.at';by_cases hm:a+s<n
       .have jg:(a:Int)+(s:Int)<(n:Int):=by{omega};obtain⟨l,r1,i,s1,E,J⟩:=H.out.2.1.first (by omega);have G:r.length=l.length+r1.length:=by{rw[i,zAc]};have p:=HM.out _ D l r1 [] wr (a:Int) ((a:Int)+(s:Int)) (n:Int) (zAb _) (by rw[zAq,<-i];exact m.out _ H.out.1.fQ) (λh=>by rw[h,zAl]at E;omega) (λh=>by rw[h,zAl]at G;omega) s1 (J.small (by omega)) (by rw[zAq,<-i];exact H.out.2.2) (by omega) (by omega) (by omega);have k:Hid (∀C,eM (l++r1) C->kA C->fD (2*s) (D++C)/\eM us (D++C)):=λC c b=>H.out.1.done (by rw[i];exact c) b (by omega);clear i s1 E J G u d H;go_wp2_with fail;refine p.mono ?_;clear p;rintro e w2 ⟨rfl,C,c,b,f⟩;have z:Aside (fD (2*s) (D++C)/\eM us (D++C)/\gR w g (D++C) w2):=⟨(k.out C c b).1,(k.out C c b).2,by simpa using f⟩;clear c b f k;go_wp2;go_roundg (n-2*s);case measure=>omega
        case rel=>exact⟨2*s,D++C,zAb _,by omega,by omega,by first|go_num|(congr 1;omega),z⟩
       .have jg:¬((a:Int)+(s:Int)<(n:Int)):=by omega
        have z:Aside (fD (2*s) (D++r)/\eM us (D++r)/\gR w g (D++r) wr):=by obtain⟨c,b⟩:=H.out.1.done (.refl _) (H.out.2.1.small (by omega)) (by omega);exact⟨c,b,H.out.2.2⟩
        clear u d H;go_wp2;go_roundg (n-2*s);case measure=>omega
        case rel=>exact⟨2*s,D++r,zAb _,by omega,by omega,by first|go_num|(congr 1;omega),z⟩
    .have M:¬((s:Int)<(n:Int)):=by omega
     have HF:Aside (gR w g T wq):=by have:=P.out s L (by omega) o.out.1 o.out.2.1;rw[<-this];exact o.out.2.2
     clear o;go_wp2;go_end0;exact⟨rfl,HF.out⟩
end
def Gq {w base g cap us}(h:cI w base (aK (aA ⟨g,0,aB⟩) us.length cap) us):HoldsK bK.cells 3 w g 0 us.toArray:=by
 intro t d;rw[size_flatK,zAn]at d;have hi:t/3<us.length:=by omega
 have a:=zAh hi;have c:=(LX us (t/3) _ a (t%3) (zGh _ (by omega))).1;have b:=h.cellAt (t/3) _ a (t%3) (zGh _ (by omega));rw[show t/3*3+t%3=t by omega]at c b;refine⟨?_,World.ownsRow.frozenAt h _⟩;rw[zAz,b,c];have:t%3<(us[t/3]).cells.length:=zGh _ (by omega);rw[zAh this];rfl
def WW (base g cap:Nat)(us:List bK)(w:zW)(a:cI w base (aK (aA ⟨g,0,aB⟩) us.length cap) us)(i:base<=g)(f:g<w.heap.size)(d:us.length<=1000):
  Calls zq 88 #[aK (aA ⟨g,0,aB⟩) us.length cap,aC aD us.length,.func (.func 62) #[] #[]] w λe b=>
   e=aM (.tuple #[])/\HoldsK bK.cells 3 b g 0 (dP us).toArray/\Below base w b:=by
 have c:=Gq a;refine(QV us ⟨us.toArray,by simp,λ_=>rfl,vU,c,f⟩ (SWK.start c) d).mono ?_;rintro e b ⟨rfl,h⟩;refine⟨rfl,SWK.holds h f c (by simp[jR]),?_⟩;obtain⟨m,os,rfl⟩:=h;exact JP (zGm _ _) i (by omega)
def DY (base g cap:Nat)(us:List bK)(w:zW)(h:cI w base (aK (aA ⟨g,0,aB⟩) us.length cap) us)(f:base<=g)(c:g<w.heap.size)(a:us.length<=1000):
  Calls zq 61 #[aK (aA ⟨g,0,aB⟩) us.length cap,.func (.func 62) #[] #[]] w λe b=>
   e=aM (.tuple #[])/\HoldsK bK.cells 3 b g 0 (dP us).toArray/\Below base w b:=by
 have d:=WW base g cap us w h f c a;clear h;generalize us.length=n at*;generalize(dP us).toArray=D at*;go_enter (Qz.fn func61),ntmps61;go_wp2_with fail;refine d.mono ?_;rintro e w1 ⟨rfl,h1,i⟩;go_wp2_with fail;go_end0;exact⟨rfl,h1,i⟩
def Ox (w:zW)(v:zY)(us:List bK):Prop:=(us=[]/\∃a c,v=aK a 0 c)\/∃g o c,v=aK (aA ⟨g,o,aB⟩) us.length c/\g<w.heap.size/\∀j u,(cE us)[j]? =aA u->w.cell? ⟨g,o+j,aB⟩=aA u
def GW (g o c)(us)(w)(hl:us.length<=1000)(l:∀j u,(cE us)[j]? =aA u->w.cell? ⟨g,o+j,aB⟩=aA u):
  Calls zq 60 #[aK (aA ⟨g,o,aB⟩) us.length c] w λe b=>∃v,e=aM v/\cI b w.heap.size v us/\v≠aK aB 0 0/\zb w b:=by
 obtain⟨i,hi,d,h,a⟩:=DM;exact AnyE.slices_Clone Qz.Oa i _ 3 40 hi d h a rfl (by omega) (λw=>(Qz.sizeOf w 53).trans (sizeOf53 w)) g o us.length c (cE us) w (mC us) (by simp only[maxLen];omega) (by omega) l (λu k=>by obtain⟨x,_,f⟩:=List.mem_flatMap.1 k;exact vU x u f)
def emit (S:List bK)(i:Nat):Option bK:=
 match S[i]?,S[i+1]? with
 |some u,aB=>aA u
 |some u,aA v=>if v.idx=u.idx then aB else aA u
 |none,_=>aB
def uU:∀S:List bK,fR S=(List.range S.length).filterMap (emit S)
 |[]=>rfl
 |[u]=>rfl
 |u::v::r=>by
  have i:=uU (v::r);have e:(List.range (u::v::r).length).filterMap (emit (u::v::r))=([0].filterMap (emit (u::v::r)))++(List.range (v::r).length).filterMap (emit (v::r)):=by rw[zAf,List.range_succ_eq_map,show(0::(List.range (v::r).length).map aFv)=[0]++(List.range (v::r).length).map aFv from rfl,zEj,List.filterMap_map];rfl
  rw[e,fR,i];have a:emit (u::v::r) 0=if v.idx=u.idx then aB else aA u:=rfl
  rw[zEc,List.filterMap_nil,a];by_cases h:v.idx=u.idx;{rw[zAv h,zAv h];rfl};{rw[zAt h,zAt h];rfl}
def kS (S:List bK)(t:Nat):List bK:=(List.range t).filterMap (emit S)
def XY (S)(t):kS S (t+1)=kS S t++(emit S t).toList:=by unfold kS;rw[List.range_succ,zEj,zEc,List.filterMap_nil];cases emit S t<;>rfl
def KX (S)(t):(kS S t).length<=t:=by have:=zGi (emit S) (List.range t);rw[List.length_range]at this;exact this
def Mi (v fv)(w):Calls zq 101 #[v,aC aD 0,aC aD 0,fv] w λe a=>e=aM (.tuple #[])/\a=w:=by
 go_enter (Qz.fn func101),ntmps101;go_wp2_with fail;go_loopg [8] 0 (λq i wr=>i=aC aD 1/\wr=w);case atStart=>exact⟨rfl,rfl⟩
 case round=>
  obtain⟨rfl,rfl⟩:=hrel
  go_wp2_with fail
  go_end0
  exact⟨rfl,rfl⟩
def QU (v fv)(w):Calls zq 88 #[v,aC aD 0,fv] w λe c=>e=aM (.tuple #[])/\c=w:=by
 go_enter (Qz.fn func88),ntmps88;go_wp2_with fail;go_loopg [7,8] 0 (λq a b wr=>a=aC aD 0/\b=aC aD 20/\wr=w);case atStart=>exact⟨rfl,rfl,rfl⟩
 case round=>
  obtain⟨rfl,rfl,rfl⟩:=hrel
  go_wp2_with fail
  refine(Mi v fv wr).mono ?_
  rintro e w1 ⟨rfl,rfl⟩
  go_wp2_with fail
  go_loopg [6] 0 (λq d w3=>d=aC aD 20/\w3=w1)
  case atStart=>exact⟨rfl,rfl⟩
  case round=>
   obtain⟨rfl,rfl⟩:=hrel
   go_wp2_with fail
   go_end0
   exact⟨rfl,rfl⟩
def BY (a)(c)(fv)(w):Calls zq 61 #[aK a 0 c,fv] w λe b=>e=aM (.tuple #[])/\b=w:=by go_enter (Qz.fn func61),ntmps61;go_wp2_with fail;refine(QU _ fv w).mono ?_;rintro e w1 ⟨rfl,rfl⟩;go_wp2_with fail;go_end0;exact⟨rfl,rfl⟩
def wR (a)(c)(w)(n:∀x,a=aA x->∃g o,x=⟨g,o,aB⟩):
  Calls zq 39 #[aK a 0 c] w λe b=>∃f,e=aM f/\cI b w.heap.size f []/\zb w b:=by
 have m:Calls zq 60 #[aK a 0 c] w λe b=>∃d v,e=aM (aK d 0 v)/\zb w b:=by
  cases a with
  |none=>exact(AnyE.slices_Clone_nil Qz.Oa 0 c w).mono λe b ⟨h1,l⟩=>⟨aB,0,h1,by rw[l];exact zGm _ _⟩
  |some x=>
   obtain⟨g,o,rfl⟩:=n x rfl;exact(GW g o c [] w (by simp) (λj u h=>by cases h)).mono λe b ⟨f,h1,l,_,p⟩=>by obtain⟨d,v,rfl,_⟩:=l.len;exact⟨d,v,h1,p⟩
 go_enter (Qz.fn func39),ntmps39;go_wp2_with fail;refine m.mono ?_;rintro e w1 ⟨d,v,rfl,hb⟩;have B:=hid hb;go_wp2_with fail;refine(BY d v _ w1).mono ?_;rintro e w2 ⟨rfl,k⟩;obtain rfl:w1=w2:=k.symm;go_wp2_with fail;go_loopg [4,13] 0 (λq out i wr=>out=aK aB 0 0/\i=aC aD 0/\wr=w1);case atStart=>exact⟨rfl,rfl,rfl⟩
 case round=>
  obtain⟨rfl,rfl,rfl⟩:=hrel
  go_wp2_with fail
  go_ret
  exact⟨_,rfl,cI.nil _ _,B.out⟩
def NK (g0 o c:Nat)(us:List bK)(w:zW)(hn:0<us.length)(ju:us.length<=1000)(s:∀j u,(cE us)[j]? =aA u->w.cell? ⟨g0,o+j,aB⟩=aA u):
  Calls zq 39 #[aK (aA ⟨g0,o,aB⟩) us.length c] w λe l=>∃n,e=aM n/\cI l w.heap.size n (cF us)/\zb w l:=by
 have hc:=GW g0 o c us w (by omega) s;clear s;have HC:Hid (Calls zq 60 #[aK (aA ⟨g0,o,aB⟩) us.length c] w λe l=>∃n,e=aM n/\cI l w.heap.size n us/\n≠aK aB 0 0/\zb w l):=hc;have HS:Hid (∀g cap w1,cI w1 w.heap.size (aK (aA ⟨g,0,aB⟩) us.length cap) us->w.heap.size<=g->g<w1.heap.size->Calls zq 61 #[aK (aA ⟨g,0,aB⟩) us.length cap,.func (.func 62) #[] #[]] w1 λe l=>e=aM (.tuple #[])/\HoldsK bK.cells 3 l g 0 (dP us).toArray/\Below w.heap.size w1 l):=λg cap w1 L C h3=>DY w.heap.size g cap us w1 L C h3 ju;have HF:Hid (cF us=kS (dP us) us.length):=by show fR (dP us)=_;rw[uU,jR];rfl
 have hSl:(dP us).length=us.length:=jR us;rw[HF.out];clear hc HF;generalize dP us=S at*;have HL:Hid (∀n l,cI l w.heap.size n us->∃g cap,n=aK (aA ⟨g,0,aB⟩) us.length cap/\w.heap.size<=g/\g<l.heap.size):=λn l h=>by obtain⟨va,cc,e,C⟩:=h.len;obtain⟨g,rfl,h3,h4⟩:=C hn;exact⟨g,cc,e,h3,h4⟩
 go_enter (Qz.fn func39),ntmps39;go_wp2_with fail;refine HC.out.mono ?_;rintro e w1 ⟨n,rfl,a,_,hb⟩;obtain⟨g,cap,rfl,jq,J⟩:=HL.out n w1 a;have B1:Hid (zb w w1):=hb;have O1:Hid (cI w1 w.heap.size (aK (aA ⟨g,0,aB⟩) us.length cap) us):=a;clear hb a HC HL;go_wp2_with fail;refine(HS.out g cap w1 O1.out jq J).mono ?_;rintro e w2 ⟨rfl,hh,z⟩;have G:Hid (zb w w2):=B1.out.trans z;have K2:Hid (HoldsK bK.cells 3 w2 g 0 S.toArray):=hh;have hg3:g<w2.heap.size:=zAd J z.size;clear z hh HS B1 O1;generalize hN:us.length=N at*;have HN0:Hid (us.length=N):=hN;clear hN;go_wp2_with fail;go_loopg [4,13] N (λq out i wr=>∃t:Nat,t+q=N/\i=aC aD (t:Int)/\zb w wr/\zb w2 wr/\cI wr w2.heap.size out (kS S t));case atStart=>exact⟨0,by omega,rfl,G.out,zGm _ _,cI.nil _ _⟩
 case round=>
  obtain⟨t,ht,rfl,b1,b2,b3⟩:=hrel
  have U:Hid (zb w wr):=b1
  have P:Hid (zb w2 wr):=b2
  have C3:Hid (cI wr w2.heap.size u4 (kS S t)):=b3
  clear b1 b2 b3
  by_cases bT:t<N
  .have hSt:t<S.length:=by omega
   have K3:Hid (∀W,zb w2 W->∀i u,S[i]? =aA u->∀j,j<3->W.cell? ⟨g,i*3+j,aB⟩=u.cells[j]?):=λW hW i u Q j Z=>by rw[hW.cell (p:=⟨_,_,aB⟩) hg3];exact ZZ K2.out i u Q j Z
   have Q:S[t]? =aA S[t]:=zAh hSt;have E:Hid (kS S (t+1)=kS S t++(emit S t).toList):=XY S t;have R:Hid (S[t]? =aA S[t]):=Q;clear Q;have r0:wr.rangeAt g (t*3) S[t].cells:=λj v hv=>by have Z:j<3:=(zAx.1 hv).1;rw[K3.out wr P.out t _ R.out j Z];exact hv
   generalize S[t]=u at*;obtain⟨b,d,f⟩:=u;have Yz:(t:Int)<(N:Int):=by{omega};have ht0:(0:Int)<=(t:Int):=by{omega};have r1:wr.rangeAt g (t*3) [aL ⟨b.toArray⟩,aL ⟨d.toArray⟩,.bool f]:=r0;clear r0;go_upto_region 7 with(refine wpList_load_mid rfl 53 _ rfl g (t*3) rfl _ _ r1 ((Qz.eZ 53).trans underlying53) rfl (by kernel_rfl) ?_)
   have Ka:Hid (cB (wr.alloc (aJ #[aL ⟨b.toArray⟩,aL ⟨d.toArray⟩,.bool f] 53)) wr.heap.size 53 #[aL ⟨b.toArray⟩,aL ⟨d.toArray⟩,.bool f]):=cB.new _ _ _;have Ca:Hid (zb w (wr.alloc (aJ #[aL ⟨b.toArray⟩,aL ⟨d.toArray⟩,.bool f] 53))):=U.out.alloc U.out.size _;have Cb:Hid (zb w2 (wr.alloc (aJ #[aL ⟨b.toArray⟩,aL ⟨d.toArray⟩,.bool f] 53))):=P.out.alloc P.out.size _;have Cc:Hid (cI (wr.alloc (aJ #[aL ⟨b.toArray⟩,aL ⟨d.toArray⟩,.bool f] 53)) w2.heap.size u4 (kS S t)):=C3.out.alloc _;have HN:Hid (w2.heap.size<=wr.heap.size):=P.out.size;generalize wr.alloc (aJ #[aL ⟨b.toArray⟩,aL ⟨d.toArray⟩,.bool f] 53)=m at*;clear U P C3 r1;generalize wr.heap.size=B at*;have p0:m.cell? ⟨B,0,aB⟩=aA (aL ⟨b.toArray⟩):=by{rw[Ka.out.cell];rfl};by_cases Y:t+1=N
   .have hq:(t:Int)+1=(N:Int):=by omega
    have H:Hid ((emit S t).toList=[⟨b,d,f⟩]):=by show(emit S t).toList=_;have L:S[t+1]? =aB:=zFs (by omega);unfold emit;rw[R.out,L];rfl
    go_quiet (fail);have Dk:Hid (cB (m.drewN nq) B 53 #[aL ⟨b.toArray⟩,aL ⟨d.toArray⟩,.bool f]):=Ka.out.drewN nq;have T:Hid (zb w (m.drewN nq)):=below_drewN Ca.out nq;have F:Hid (zb w2 (m.drewN nq)):=below_drewN Cb.out nq;have D:Hid (cI (m.drewN nq) w2.heap.size u4 (kS S t)):=Cc.out.kept λ_ _=>rfl;generalize m.drewN nq=V at*;have y:(kS S t).length<=1000000:=by{have:=KX S t;omega};have k:w2.heap.size<=V.heap.size:=F.out.size;go_wp2_with (first|(refine zGs rfl 53 _ rfl B rfl 53 _ (0,0) _ Dk.out ((Qz.eZ 53).trans underlying53) rfl (by kernel_rfl) ?_)|(at_builtin;refine jP rfl _ _ rfl w2.heap.size _ _ rfl D.out ⟨b,d,f⟩ 1 rfl y k ?_;intro g' M l a r));go_roundg (N-(t+1));case measure=>omega
    case rel=>
     go_light
     refine⟨t+1,by omega,by go_num,eL T.out D.out r G.out.size (zBc G.out.size k),eL F.out D.out r (zAb _) k,?_⟩
     rw[E.out,H.out]
     have hl:(kS S t++[(⟨b,d,f⟩:bK)]).length=(kS S t).length+1:=by simp
     exact a
   .have hq:¬(t:Int)+1=(N:Int):=by{omega};have K:t+1<S.length:=by{omega};have aAJ:(t:Int)+1<(N:Int):=by{omega};have hw1:IntKind.i64.wrap ((t:Int)+1)=(t:Int)+1:=by{rw[zGq];omega};have ht1:(0:Int)<=(t:Int)+1:=by{omega};have vk:((t:Int)+1).toNat=t+1:=by omega
    have p1:m.cell? ⟨g,(t+1)*3,aB⟩=aA (aL ⟨S[t+1].idx.toArray⟩):=by have:=K3.out m Cb.out (t+1) _ (zAh K) 0 (by omega);rw[aFu]at this;exact this
    have O:Hid (S[t+1]? =aA S[t+1]):=zAh K;generalize S[t+1]=v at*;obtain⟨X,vV,vG⟩:=v;dsimp only at p1;go_quiet (fail);have Dk:Hid (cB (m.drewN nq) B 53 #[aL ⟨b.toArray⟩,aL ⟨d.toArray⟩,.bool f]):=Ka.out.drewN nq;have T:Hid (zb w (m.drewN nq)):=below_drewN Ca.out nq;have F:Hid (zb w2 (m.drewN nq)):=below_drewN Cb.out nq;have D:Hid (cI (m.drewN nq) w2.heap.size u4 (kS S t)):=Cc.out.kept λ_ _=>rfl;generalize m.drewN nq=V at*;have I:((t:Int)+1==(N:Int))=aG:=by{rw[zDd];exact hq};by_cases x:X=b
    .have A:(((t:Int)+1==(N:Int))|| !(X==b))=aG:=by rw[I,x];simp
     have H:Hid ((emit S t).toList=[]):=by show(emit S t).toList=_;unfold emit;rw[R.out,O.out];dsimp only;rw[zAv x];rfl
     rw[A];go_wp2_with fail;go_roundg (N-(t+1));case measure=>omega
     case rel=>
      go_light
      refine⟨t+1,by omega,by go_num,T.out,F.out,?_⟩
      rw[E.out,H.out,zAq]
      exact D.out
    .have A:(((t:Int)+1==(N:Int))|| !(X==b))=aF:=by
      rw[I,zFz,aFo,zDd];exact x
     have H:Hid ((emit S t).toList=[⟨b,d,f⟩]):=by show(emit S t).toList=_;unfold emit;rw[R.out,O.out];dsimp only;rw[zAt x];rfl
     rw[A];have y:(kS S t).length<=1000000:=by{have:=KX S t;omega};have k:w2.heap.size<=V.heap.size:=F.out.size;go_wp2_with (first|(refine zGs rfl 53 _ rfl B rfl 53 _ (0,0) _ Dk.out ((Qz.eZ 53).trans underlying53) rfl (by kernel_rfl) ?_)|(at_builtin;refine jP rfl _ _ rfl w2.heap.size _ _ rfl D.out ⟨b,d,f⟩ 1 rfl y k ?_;intro g' M l a r));go_roundg (N-(t+1));case measure=>omega
     case rel=>
      go_light
      refine⟨t+1,by omega,by go_num,eL T.out D.out r G.out.size (zBc G.out.size k),eL F.out D.out r (zAb _) k,?_⟩
      rw[E.out,H.out]
      have hl:(kS S t++[(⟨b,d,f⟩:bK)]).length=(kS S t).length+1:=by simp
      exact a
  .obtain rfl:t=N:=by{omega};go_wp2_with fail;go_ret;refine⟨_,rfl,?_,U.out⟩;rw[HN0.out];obtain⟨L,C⟩:=C3.out;refine⟨L,?_⟩;obtain C|⟨gg,cp,cur,e1,e2,e3⟩:=C;{exact aH C};{exact aI ⟨gg,cp,cur,e1,zBc G.out.size e2,e3⟩}
open Go.RowKit Sha
def CC (u:bK):Bool:=decide (u.idx.length=32)&&(decide (u.val.length<=100)&&(!u.gone||decide (u.val=[])))
def TP (v)(us)(w)(hl:us.length<=1000)(M:Ox w v us)(hs:∀u∈us,u.idx.length<=1000000/\u.val.length<=1000000):
  Calls zq 38 #[v] w λe N=>e=aM (.bool (us.all CC))/\zb w N:=by
 have HV:=hid M;obtain⟨z,J,rfl,A⟩:∃z J,v=aK z us.length J/\(0<us.length->∃g o,z=aA ⟨g,o,aB⟩/\g<w.heap.size/\∀j u,(cE us)[j]? =aA u->w.cell? ⟨g,o+j,aB⟩=aA u):=by obtain⟨rfl,a,c,rfl⟩|⟨g,o,c,rfl,m,l⟩:=M;{exact⟨a,c,rfl,λh=>by simp at h⟩};{exact⟨_,c,rfl,λ_=>⟨g,o,rfl,m,l⟩⟩}
 have X:Hid (∀t,t<=us.length->(∀i u,i<t->us[i]? =aA u->CC u=aF)->t=us.length->us.all CC=aF):=λt _ h e=>by rw[zCa];intro u k;obtain⟨i,hi⟩:=List.getElem?_of_mem k;exact h i u (by rw[e];exact(zAx.1 hi).1) hi
 have G:Hid (∀t u,us[t]? =aA u->CC u=aG->us.all CC=aG):=λt u p m=>by rw[List.all_eq_false];exact⟨u,zDe p,by rw[m];decide⟩
 generalize us.all CC=Y at*;go_enter (Qz.fn func38),ntmps38;go_wp2_with fail;go_loopg [7] us.length (λq i wr=>∃t:Nat,t+q=us.length/\i=aC aD (t:Int)/\zb w wr/\∀i u,i<t->us[i]? =aA u->CC u=aF);case atStart=>exact⟨0,by omega,rfl,zGm _ _,λi u h=>by omega⟩
 case round=>
  obtain⟨t,ht,rfl,V,U⟩:=hrel
  have s:=hid V
  have I:=hid U
  by_cases bT:t<us.length
  .obtain⟨g,o,rfl,Q,R⟩:=A (by omega);have n:=hid (zAh bT);have E:=hs us[t] (zDh _);have r0:wr.rangeAt g (o+t*3) us[t].cells:=λj x L=>by
    have P:=(zAx.1 L).1;rw[s.out.cell Q,zCl];exact R _ _ (by rw[qG us t _ n.out j P];exact L)
   generalize us[t]=u at*;obtain⟨d,b,f⟩:=u;have r1:wr.rangeAt g (o+t*3) [aL ⟨d.toArray⟩,aL ⟨b.toArray⟩,.bool f]:=r0;have D:(t:Int)<(us.length:Int):=by{omega};have O:(0:Int)<=(t:Int):=by{omega};go_upto_region 4 with(refine wpList_load_mid rfl 53 _ rfl g (o+t*3) rfl _ _ r1 ((Qz.eZ 53).trans underlying53) rfl (by kernel_rfl) ?_)
   have K:Hid (cB (wr.alloc (aJ #[aL ⟨d.toArray⟩,aL ⟨b.toArray⟩,.bool f] 53)) wr.heap.size 53 #[aL ⟨d.toArray⟩,aL ⟨b.toArray⟩,.bool f]):=cB.new _ _ _;have C:Hid (zb w (wr.alloc (aJ #[aL ⟨d.toArray⟩,aL ⟨b.toArray⟩,.bool f] 53))):=s.out.alloc s.out.size _;generalize wr.alloc (aJ #[aL ⟨d.toArray⟩,aL ⟨b.toArray⟩,.bool f] 53)=y at*;clear s r1;generalize wr.heap.size=B at*;have p0:y.cell? ⟨B,0,aB⟩=aA (aL ⟨d.toArray⟩):=by{rw[K.out.cell];rfl};have Z:y.cell? ⟨B,1,aB⟩=aA (aL ⟨b.toArray⟩):=by{rw[K.out.cell];rfl};have p2:y.cell? ⟨B,2,aB⟩=aA (.bool f):=by{rw[K.out.cell];rfl};dsimp only at E;have s0:(⟨d.toArray⟩:ByteArray).size=d.length:=by{simp[ByteArray.size]};have s1:(⟨b.toArray⟩:ByteArray).size=b.length:=by{simp[ByteArray.size]};by_cases p:d.length=32
   .by_cases m:b.length<=100
    .have F:¬(100:Int)<(b.length:Int):=by{omega};cases f with
     |false=>
      have H:CC ⟨d,b,aG⟩=aF:=by{simp[CC,p,m]};go_wp2_with fail;go_roundg (us.length-(t+1));case measure=>omega
      case rel=>
       go_light
       refine⟨t+1,by omega,by go_num,C.out,λi u hi k=> ?_⟩
       by_cases e:i=t
       .subst e;rw[n.out]at k;rw[<-zAk k];exact H
       .exact I.out i u (by omega) k
     |true=>
      by_cases l:b=[]
      .have H:CC ⟨d,b,aF⟩=aF:=by{simp[CC,p,l]};subst l;go_wp2_with fail;go_roundg (us.length-(t+1));case measure=>omega
       case rel=>
        go_light
        refine⟨t+1,by omega,by go_num,C.out,λi u hi k=> ?_⟩
        by_cases e:i=t
        .subst e;rw[n.out]at k;rw[<-zAk k];exact H
        .exact I.out i u (by omega) k
      .have H:CC ⟨d,b,aF⟩=aG:=by{simp[CC,l]};have S:b.isEmpty=aG:=by{simpa using l};have r:=hid (G.out t _ n.out H);go_wp2_with fail;go_ret;exact⟨by rw[r.out];rfl,C.out⟩
    .have F:(100:Int)<(b.length:Int):=by{omega};have H:CC ⟨d,b,f⟩=aG:=by{simp[CC,m]};have r:=hid (G.out t _ n.out H);go_wp2_with fail;go_ret;exact⟨by rw[r.out];rfl,C.out⟩
   .have T:¬(d.length:Int)=32:=by{omega};have H:CC ⟨d,b,f⟩=aG:=by{simp[CC,p]};have r:=hid (G.out t _ n.out H);go_wp2_with fail;go_ret;exact⟨by rw[r.out];rfl,C.out⟩
  .have W:=hid (X.out t (by omega) I.out (by omega));have D:¬(t:Int)<(us.length:Int):=by{omega};go_wp2_with fail;go_ret;exact⟨by rw[W.out];rfl,s.out⟩
open Go Go.RowKit Sha Go.Ga Go.Ren
def wS:cF []=[]:=List.eq_nil_iff_forall_not_mem.2 λu h=>by simpa using mL h
def xM:∀l:List bK,(fR l).length<=l.length
 |[]=>zAb _
 |[_]=>zAb _
 |a::b::r=>by have:=xM (b::r);rw[fR];split;{simp only[zAf]at*;omega};{simp only[zAf]at*;omega}
def NM (us):(cF us).length<=us.length:=by have:=xM (dP us);rw[jR]at this;exact this
def NL {w:zW}{base:Nat}{v:zY}{us:List bK}(h:cI w base v us)(c:us.length<=1000):
  Calls zq 39 #[v] w λe d=>∃f,e=aM f/\cI d w.heap.size f (cF us)/\zb w d:=by
 obtain⟨rfl,m⟩|⟨g,cap,cur,rfl,hb,k,h1,o,n,l⟩:=h.2
 .have e:us=[]:=zBi m;subst e;rw[wS];exact wR aB 0 w (λx a=>by cases a)
 .by_cases i:us.length=0
  .have e:us=[]:=zBi i;subst e;rw[wS];exact wR (aA ⟨g,0,aB⟩) cap w (λx a=>by injection a with a;exact⟨g,0,a.symm⟩)
  .refine NK g 0 cap us w (by omega) c λj u b=> ?_;rw[zAz,zHb w g j cur 53 (0,0) k];rw[<-l,zCr]at b;split at b
   .rw[<-zBt];exact b
   .cases b
def cI.lg {w base v us}(h:cI w base v us):Ox w v us:=by
 obtain⟨rfl,d⟩|⟨g,cap,cur,rfl,hb,b,h1,f,e,c⟩:=h.2
 .exact aH ⟨zBi d,aB,0,rfl⟩
 .refine aI ⟨g,0,cap,rfl,(zAa.1 b).1,λj u a=> ?_⟩;rw[zAz,zHb w g j cur 53 (0,0) b];rw[<-c,zCr]at a;split at a
  .rw[<-zBt];exact a
  .cases a
def We:∃i,zq.info? 9=aA i/\i.zero=aA (aL ⟨#[]⟩)/\i.size=1/\i.bytes=16:=OJ (by kernel_rfl)
def ZF {w hb b n H}(l:dZ PL w hb 9 1 (aK (aA ⟨hb,0,aB⟩) n b) n (fX H))(I:n<=1000)(x){vb}(p:w.heap[vb]? =aA (aJ #[aL ⟨x.toArray⟩] 9 (0,0)))(bT:hb<=w.heap.size):
  ∃a h W,(∀ty,(Builtin.append_ #[82,82] ty #[aK (aA ⟨hb,0,aB⟩) n b,aK (aA ⟨vb,0,aB⟩) 1 1]).run zq w= .ok (aK (aA ⟨a,0,aB⟩) (n+1) h) W)/\w.grownBy W (aA hb)/\(a=hb\/a=w.heap.size)/\dZ PL W a 9 1 (aK (aA ⟨a,0,aB⟩) (n+1) h) (n+1) (fX (H++[x])):=by
 obtain⟨it,ti,o,t,f⟩:=We;have G:=λty=>sJ w PL hb 82 ty 9 it _ 1 16 ((Qz.eZ 82).trans underlying82) ti o t f rfl (by omega) (λx k=>by simp[Value.cells]at k;exact⟨_,k⟩) _ n _ l.1 l.2 ⟨vb,0,aB⟩ 1 1 [aL ⟨x.toArray⟩] rfl (λj u q=>by rw[addr_add,zAz,zHb w vb j _ 9 (0,0) p];simpa using q) (λu g=>by rw[zAs.1 g];rfl) (λu g=>by rw[zAs.1 g];exact⟨_,rfl⟩) (Nat.succ_pos _) (by simp only[maxLen];omega) (by omega) bT
 obtain⟨m,c,W,z,y,v,s,r⟩:=G 0;have i:dZ PL W hb 9 1 (aK (aA ⟨m,0,aB⟩) (n+1) c) (n+1) (fX H++[aL ⟨x.toArray⟩]):=⟨y,r⟩;obtain⟨d,F,J,E,D,C,B,A⟩:=i.row;refine⟨m,c,W,λty=>z,v,?_,dZ.of d F (zAb _) E D C (by rw[B];simp[fX]) A⟩;obtain e|e:=s
 .exact aH (zAk e).symm
 .exact aI e
end Go.Proofs.Zq
namespace Go.Proofs.Zq.AnyX
open Go
section
variable {P:zZ}{ops:zQ}{Q:zX}{md:Region.Mode}{S:zW->Prop}{late:Nat->Bool}
def early (ops:zQ)(late:Nat->Bool)(listed:Array Bool):Bool:=(List.range ops.size).all λs=> !(late s)|| !(listed.getD s aG)
def AF {listed i}(h:early ops late listed=aF)(hi:late i=aG):early ops late (listed.setIfInBounds i aF)=aF:=by
 refine zCa.2 λs a=> ?_;have:=zCa.1 h s a;by_cases e:i=s
 .subst e;rw[hi];rfl
 .rw[getD_set_ne aG e];exact this
def iU (P:zZ)(md:Region.Mode)(ops:zQ)(Q:zX)(S:zW->Prop)(late:Nat->Bool):Nat->Array Bool->Act->zW->Prop
 |0,listed,a,w=>Region.ready md ops listed=[]/\Q .normal a w
 |fuel+1,listed,a,w=>
  (Region.ready md ops listed=[]->Q .normal a w)/\
  ∀i∈Region.ready md ops listed,wpOp P ops Q i (λc b=>(early ops late (listed.setIfInBounds i aF)=aF->S b)/\iU P md ops Q S late fuel (listed.setIfInBounds i aF) c b) a w
def DI:∀(fuel:Nat)(listed:Array Bool)(a:Act)(w:zW),iU P md ops Q S late fuel listed a w->wpAny P md ops Q fuel listed a w
 |0,_,_,_,h=>h
 |fuel+1,_,_,_,h=>⟨h.1,λi hi=>wpOp_mono (λd b c=>DI fuel _ d b c.2) (h.2 i hi)⟩
structure Yq (md:Region.Mode)(ops:zQ)(listed:Array Bool):Prop where
 size:listed.size=ops.size
 closed:∀j oj,ops[j]? =aA oj->listed.getD j aG=aF->∀e∈oj.after,Region.binds md e=aF->listed.getD e.on aG=aF
def Ts (md:Region.Mode)(ops:zQ)(listed:Array Bool):Bool:=
 decide (listed.size=ops.size)&&((List.range ops.size).all λj=>(!(listed.getD j aG))||match ops[j]? with
   |some o=>o.after.all λe=> !(Region.binds md e)||listed.getD e.on aG
   |none=>aF)
def Hn {listed}(h:Ts md ops listed=aF):Yq md ops listed:=by unfold Ts at h;simp only[zBd,zBr]at h;obtain⟨g,f⟩:=h;refine⟨g,λj o b hl e c d=> ?_⟩;have a:=(zAa.1 b).1;have:=zCa.1 f j (zCb.2 a);rw[b,hl]at this;simp only[Bool.not_true,zFz]at this;have:=zFn.1 this e c;rw[d]at this;simpa using this
def Yq.set {i listed}(inv:Yq md ops listed)(hi:i∈Region.ready md ops listed):Yq md ops (listed.setIfInBounds i aF):=by
 obtain⟨_,g,b,a⟩:=mem_ready.1 hi;refine⟨by simp[inv.size],λj o c hl e d f=> ?_⟩;by_cases h:i=j
 .subst h;have:o=g:=zAk (c.symm.trans b);subst this;exact getD_set_true (a e d f)
 .rw[getD_set_ne aG h]at hl;exact getD_set_true (inv.closed j o c hl e d f)
def waits (md:Region.Mode)(ops:zQ):Nat->Nat->Nat->Bool
 |0,_,_=>aG
 |f+1,s,i=>match ops[s]? with
  |some o=>o.after.any λe=>Region.binds md e&&(e.on==i||waits md ops f e.on i)
  |none=>aG
def DK {listed:Array Bool}(inv:Yq md ops listed){i:Nat}:∀(f s:Nat)(o:Oper),ops[s]? =aA o->(∀e∈o.after,Region.binds md e=aF->listed.getD e.on aG=aF)->waits md ops f s i=aF->listed.getD i aG=aF
 |0,_,_,_,_,h=>by cases h
 |f+1,s,o,k,b,h=>by
  unfold waits at h;rw[k]at h;obtain⟨e,l,d⟩:=Array.any_eq_true'.1 h;simp only[zBd,zDu,zDn]at d;have j:=b e l d.1;obtain a|a:=d.2;{rw[<-a];exact j}
  .cases c:ops[e.on]? with
   |none=>
    cases f with
    |zero=>cases a
    |succ f=>unfold waits at a;rw[c]at a;cases a
   |some g=>exact DK inv f e.on g c (inv.closed e.on g c j) a
def Bz (md:Region.Mode)(ops:zQ)(late:Nat->Bool)(i:Nat):Bool:=(List.range ops.size).all λs=> !(late s)||waits md ops ops.size s i
def YW {listed i}(inv:Yq md ops listed)(h:Bz md ops late i=aF)(d:listed.getD i aF=aG):early ops late listed=aF/\∀j,j∈Region.ready md ops listed->late j=aG:=by
 have k:∀s os,ops[s]? =aA os->late s=aF->(∀e∈os.after,Region.binds md e=aF->listed.getD e.on aG=aF)->False:=λs os c hl a=>by have:=zCa.1 h s (zCb.2 (zAa.1 c).1);rw[hl]at this;have:=DK inv _ s os c a (by simpa using this);rw[getD_both d]at this;cases this
 refine⟨zCa.2 λs c=> ?_,λj l=> ?_⟩
 .cases hl:late s with
  |false=>rfl
  |true=>
   cases g:listed.getD s aG with
   |false=>rfl
   |true=>have b:=zCb.1 c;exact(k s _ (zAj b) hl (inv.closed s _ (zAj b) g)).elim
 .obtain⟨_,o,f,a⟩:=mem_ready.1 l;cases hl:late j with
  |false=>rfl
  |true=>exact(k j o f hl a).elim
def MR {i t v}(hi:ops[i]? =aA t)(p:∀(j:Nat)(o) cs b,ops[j]? =aA o->o.op≠.select cs b)
  (bT:Bz md ops late i=aF) (O:∀c a w,Q (.panic c) (a.put t.dst v) w->Q (.panic c) a w):
  ∀(fuel)(listed)(a)(w),Yq md ops listed->
   (∀j s,ops[j]? =aA s->j≠i->listed.getD j aF=aG->(∀e∈s.after,Region.binds md e=aF->e.on≠i)->t.apart ops s=aF)->
   i∈Region.ready md ops listed->YieldsIf P ops S t v a->S w->
   iU P md ops Q S late fuel (listed.setIfInBounds i aF) (a.put t.dst v) w->iU P md ops Q S late (fuel+1) listed a w:=by
 intro fuel;induction fuel with
 |zero=>intro listed a w _ _ q C B H;refine⟨λh=>(by rw[h]at q;cases q),λj x=> ?_⟩;by_cases d:j=i;{subst d;exact C.wpOp hi B ⟨λ_=>B,H⟩};{have:=ready_mono x d;rw[H.1]at this;cases this}
 |succ fuel K=>
  intro listed a w inv g q C B H;have f:=(mem_ready.1 q).1;obtain⟨I,m⟩:=YW inv bT f;refine⟨λh=>(by rw[h]at q;cases q),λj x=> ?_⟩;by_cases d:j=i;{subst d;exact C.wpOp hi B ⟨λ_=>B,H⟩}
  .have E:=H.2 j (ready_mono x d);obtain⟨r,s,u,A⟩:=mem_ready.1 x;have y:∀e∈s.after,Region.binds md e=aF->e.on≠i:=λe M N G=>by
    have E:=A e M N;rw[G,getD_both f]at E;cases E
   have R:=wpOp_putIf u (g j s u d r y) (λcs b=>p i t cs b hi) (λcs b=>p j s cs b u) O C E;have n:∀k ok,ops[k]? =aA ok->k≠i->(listed.setIfInBounds j aF).getD k aF=aG->
     (∀e∈ok.after,Region.binds md e=aF->e.on≠i)->t.apart ops ok=aF:=λk ok L F f m=>by
    refine g k ok L F ?_ m
    by_cases z:j=k
    .subst z;exact r
    .rw[getD_set_ne aF z]at f;exact f
   have l:=AF (AF I (m i q)) (m j x);refine wpOp_mono (λT J D=>⟨λ_=>D.2.1 l,K (listed.setIfInBounds j aF) T J (inv.set x) n (ready_mono q (zDi d)) D.1 (D.2.1 l) ?_⟩) R;rw[zEq _ _ d];exact D.2.2
def MQ {i q v}(hi:ops[i]? =aA q)(m:∀(j:Nat)(o) cs b,ops[j]? =aA o->o.op≠.select cs b)
  (bT:late i=aG) (N:∀c a w,Q (.panic c) (a.put q.dst v) w->Q (.panic c) a w):
  ∀(fuel)(listed)(a)(w),
   (∀j p,ops[j]? =aA p->j≠i->listed.getD j aF=aG->(∀e∈p.after,Region.binds md e=aF->e.on≠i)->q.apart ops p=aF)->
   i∈Region.ready md ops listed->Yields P ops q v a->(early ops late (listed.setIfInBounds i aF)=aF->S w)->
   iU P md ops Q S late fuel (listed.setIfInBounds i aF) (a.put q.dst v) w->iU P md ops Q S late (fuel+1) listed a w:=by
 intro fuel;induction fuel with
 |zero=>intro listed a w _ r y G H;refine⟨λh=>(by rw[h]at r;cases r),λj z=> ?_⟩;by_cases d:j=i;{subst d;exact y.wpOp hi ⟨G,H⟩};{have:=ready_mono z d;rw[H.1]at this;cases this}
 |succ fuel J=>
  intro listed a w f r y G H;have g:=(mem_ready.1 r).1;refine⟨λh=>(by rw[h]at r;cases r),λj z=> ?_⟩;by_cases d:j=i;{subst d;exact y.wpOp hi ⟨G,H⟩}
  .have B:=H.2 j (ready_mono z d);obtain⟨n,p,s,x⟩:=mem_ready.1 z;have t:∀e∈p.after,Region.binds md e=aF->e.on≠i:=λe L M E=>by
    have B:=x e L M;rw[E,getD_both g]at B;cases B
   have O:=wpOp_put s (f j p s d n t) (λcs b=>m i q cs b hi) (λcs b=>m j p cs b s) N y B;have l:∀k ok,ops[k]? =aA ok->k≠i->(listed.setIfInBounds j aF).getD k aF=aG->
     (∀e∈ok.after,Region.binds md e=aF->e.on≠i)->q.apart ops ok=aF:=λk ok K D g C=>by
    refine f k ok K D ?_ C
    by_cases u:j=k
    .subst u;exact n
    .rw[getD_set_ne aF u]at g;exact g
   refine wpOp_mono (λR I A=>⟨λF=>A.2.1 (by rw[<-zEq _ _ d];exact AF F bT),J (listed.setIfInBounds j aF) R I l (ready_mono r (zDi d)) A.1 (λF=>A.2.1 (by rw[<-zEq _ _ d];exact F)) ?_⟩) O;rw[zEq _ _ d];exact A.2.2
def rW {i o v fuel listed a w}(hi:ops[i]? =aA o)
  (d:(Region.noSelect ops&&Bz md ops late i&&Ts md ops listed&&Region.free md ops listed i&&(Region.ready md ops listed).contains i)=aF)
  (k:∀c a w,Q (.panic c) (a.put o.dst v) w->Q (.panic c) a w) (e:YieldsIf P ops S o v a) (j:S w)
  (h:iU P md ops Q S late fuel (listed.setIfInBounds i aF) (a.put o.dst v) w):iU P md ops Q S late (fuel+1) listed a w:=by
 simp only[zBd]at d;obtain⟨⟨⟨⟨b,hl⟩,g⟩,d⟩,f⟩:=d;exact MR hi (Region.noSelect_spec b) hl k fuel listed a w (Hn g) (Region.free_spec hi d) (by simpa using f) e j h
def AU {i o v fuel listed a w}(hi:ops[i]? =aA o)
  (d:(Region.noSelect ops&& !(late i)&&Region.free md ops listed i&&(Region.ready md ops listed).contains i)=aF)
  (j:∀c a w,Q (.panic c) (a.put o.dst v) w->Q (.panic c) a w) (e:Yields P ops o v a) (g:S w)
  (h:iU P md ops Q S late fuel (listed.setIfInBounds i aF) (a.put o.dst v) w):iU P md ops Q S late (fuel+1) listed a w:=by
 simp only[zBd,aFo]at d;obtain⟨⟨⟨b,hl⟩,d⟩,f⟩:=d;exact MQ hi (Region.noSelect_spec b) hl j fuel listed a w (Region.free_spec hi d) (by simpa using f) e (λ_=>g) h
def cA {i:Nat}{o:Oper}{fuel:Nat}{listed:Array Bool}{a:Act}{w:zW}(b:Region.ready md ops listed=[i])(d:ops[i]? =aA o)
  (h:∀K:Act->zW->Prop,Shut (∀a w,(early ops late (listed.setIfInBounds i aF)=aF->S w)->iU P md ops Q S late fuel (listed.setIfInBounds i aF) a w->K a w)->if Region.wanted o (yielded ops a.tmps)=aF then Oper.wp P o a w K Q else K (a.put o.dst undef) w):
  iU P md ops Q S late (fuel+1) listed a w:=
 ⟨λk=>absurd (b.symm.trans k) (List.cons_ne_nil _ _),λj c=>by rw[b]at c;obtain rfl:=zAs.1 c;exact wpOp_step d (λK g=>h K (λa w f e=>g a w ⟨f,e⟩))⟩
def iA {b}{p:Prop}(h:b=aF)(a:b=aG):p:=by rw[h]at a;cases a
def lO {listed:Array Bool}{a:Act}{w:zW}(b:Region.ready md ops listed=[])(h:Q .normal a w):∀fuel,iU P md ops Q S late fuel listed a w
 |0=>⟨b,h⟩
 |_+1=>⟨λ_=>h,by rw[b];simp⟩
def tk (i)(v){o fuel listed a w}(g:S w)(h:iU P md ops Q S late fuel (listed.setIfInBounds i aF) (a.put o.dst v) w)(hi:ops[i]? =aA o:=by rfl)
  (f:(Region.noSelect ops&&Bz md ops late i&&Ts md ops listed&&Region.free md ops listed i&&(Region.ready md ops listed).contains i)=aF:=by kernel_rfl)
  (j:∀c a w,Q (.panic c) (a.put o.dst v) w->Q (.panic c) a w:=by exactλ_ _ _ h=>h) (e:YieldsIf P ops S o v a:=by exact aH ⟨by rfl,λW b=>by first|(obtain⟨d,q,l,k⟩:=b;go_simp;done)|(obtain⟨d,q⟩:=b;go_simp;done)|go_simp⟩):iU P md ops Q S late (fuel+1) listed a w:=rW hi f j e g h
def lM {id:Nat}{a:Act}{w:zW}(S:zW->Prop)(late:Nat->Bool)(b:P.follows .mixedOrders=aF)
  (h:iU P .any ops Q S late ops.size (Array.replicate ops.size aG) a w.drew):(Code.region id ops aF).wp P Q a w:=
 wp_region_any b (DI _ _ _ _ h)
end
end Go.Proofs.Zq.AnyX
namespace Go.Proofs.Zq
open Go Go.RowKit Sha Go.Ga Go.Ren
section
variable {w:zW}{k d:Nat}{p:Option Nat}{S:zP}{us:List bK}
structure rE (k:Nat)(w:zW)(us:List bK)(d:Nat)(z o:Option Nat):Prop where
 z:eO k w z (bM d 0 us) (d+1)
 o:eO k w o (bM d 1 us) (d+1)
def MI {u}(h:eN u.idx d=0):bM d 0 [u]=[u]/\bM d 1 [u]=[]:=by unfold bM;rw[zAy (by rw[h];rfl),zAp (by rw[h];decide)];exact⟨rfl,rfl⟩
def MH {u}(h:eN u.idx d=1):bM d 0 [u]=[]/\bM d 1 [u]=[u]:=by unfold bM;rw[zAp (by rw[h];decide),zAy (by rw[h];rfl)];exact⟨rfl,rfl⟩
def SG (h:eO k w p us d)(G:d<256)(hi:∀u∈us,u.idx.length=32)(y:CS w S)(q:∀b,p=aA b->S b):
  Calls zq 230 #[ptr p,aC aD d] w λe a=>∃z o,e=aM (.tuple #[ptr z,ptr o])/\(a=w\/a=w.drew)/\rE k w us d z o/\(∀b,z=aA b->S b)/\∀b,o=aA b->S b:=by
 have m:=hid ((cR.done h (zAb 0)).ends);cases h with
 |nil=>have x:rE k w [] d aB aB:=⟨.nil _,.nil _⟩;have E:=hid m.out;have H:Hid (rE k w [] d aB aB/\(∀b,aB=aA b->S b)/\∀b,aB=aA b->S b):=⟨x,λb e=>by(cases e),λb e=>by(cases e)⟩;go_enter (Qz.fn func230),ntmps230;go_wp2_with fail;refine E.out.mono ?_;rintro e a ⟨rfl,rfl⟩;go_wp2;go_ret2;exact⟨aB,aB,rfl,aH rfl,H.out.1,λb e=>by(cases e),λb e=>by(cases e)⟩
 | @leaf b u _ t f=>have E:=hid m.out;have Qg:=hi u (by simp);have l:Hid (Calls zq 82 #[aL ⟨u.idx.toArray⟩,aC aD d] w λe a=>e=aM (.bool (decide (eN u.idx d=1)))/\a=w):=(FE ⟨u.idx.toArray⟩ d w (by show d/8<u.idx.length;omega) (by show u.idx.length<=_;omega) (by omega)).mono λe a h=>by{simpa using h};have k2:=f.c2;have i:=q b rfl;have hl:eO k w (aA b) [u] (d+1):= .leaf (by rw[GS k (d+1) d];exact f);obtain g|g:=tZ u.idx d;{have H:Hid (rE k w [u] d (aA b) aB/\S b):=⟨⟨by rw[(MI g).1];exact hl,by rw[(MI g).2];exact .nil _⟩,i⟩;rw[zCc (by omega)]at l;go_enter (Qz.fn func230),ntmps230;go_wp2_with fail;refine E.out.mono ?_;rintro e a ⟨rfl,rfl⟩;go_wp2_with fail;refine l.out.mono ?_;rintro e a ⟨rfl,rfl⟩;go_wp2;go_ret2;exact⟨aA b,aB,rfl,aH rfl,H.out.1,λb e=>by(cases e;exact H.out.2),λb e=>by(cases e)⟩};{have H:Hid (rE k w [u] d aB (aA b)/\S b):=⟨⟨by rw[(MH g).1];exact .nil _,by rw[(MH g).2];exact hl⟩,i⟩;rw[zDm g]at l;go_enter (Qz.fn func230),ntmps230;go_wp2_with fail;refine E.out.mono ?_;rintro e a ⟨rfl,rfl⟩;go_wp2_with fail;refine l.out.mono ?_;rintro e a ⟨rfl,rfl⟩;go_wp2;go_ret2;exact⟨aB,aA b,rfl,aH rfl,H.out.1,λb e=>by(cases e),λb e=>by(cases e;exact H.out.2)⟩}
 | @node b _ _ z o t I _ f r v=>
  rw[zCc (by omega)]at m;have D:=f.c0;have k1:=f.c1;have H:Hid (rE k w us d z o/\(∀b,z=aA b->S b)/\∀b,o=aA b->S b):=by obtain⟨A,C,F,B,J,s,n,_,j⟩:=y b (q b rfl);obtain⟨rfl,rfl,_⟩:=fC f n;exact⟨⟨r,v⟩,λc e=>j c (aH e),λc e=>j c (aI e)⟩
  go_enter (Qz.fn func230),ntmps230;go_wp2_with fail;refine m.out.mono ?_;rintro e a ⟨rfl,rfl⟩;go_upto_region 2 with(fail)
  go_region;all_goals go_wp2
  all_goals go_ret2
  all_goals exact⟨z,o,rfl,aI rfl,H.out⟩
end
section
variable {w:zW}{k:Nat}{p:Option Nat}{us:List bK}{I:zB}
def Au (w:zW)(us:List bK)(I:zB)(e:Ending):Prop:=
 (∃u b g h,u∈us/\u.idx=I/\e=aM (ptr (aA b))/\aY w b aB aB u.idx u.val g h)\/(e=aM (ptr aB)/\∀u∈us,u.idx≠I)
def He (h:eO k w p us 0)(R:I.length=32):Calls zq 228 #[ptr p,aL ⟨I.toArray⟩] w λe f=>f=w/\Au w us I e:=by
 have N:=hid h;have P:Hid (∀d:Nat,d<256->Calls zq 82 #[aL ⟨I.toArray⟩,aC aD d] w λe f=>e=aM (.bool (decide (eN I d=1)))/\f=w):=λd J=>(FE ⟨I.toArray⟩ d w (by show d/8<I.length;omega) (by show I.length<=_;omega) (by omega)).mono λe f h=>by simpa using h
 go_enter (Qz.fn func228),ntmps228;go_wp2;go_loopg [0,5] 257 (λq c i wr=>∃(d:Nat)(y:Option Nat)(g:List bK),d+q=257/\i=aC aD (d:Int)/\c=ptr y/\wr=w/\eO k w y g d/\(∀u∈g,u∈us)/\∀u∈us,u.idx=I->u∈g);case atStart=>exact⟨0,p,us,rfl,rfl,rfl,rfl,N.out,λ_ h=>h,λ_ h _=>h⟩
 case round=>
  obtain⟨d,y,g,J,rfl,rfl,rfl,r1,r2,r3⟩:=hrel
  cases r1 with
  |nil=>have E:=hid (LZ wr);have t:Hid (∀u∈us,u.idx≠I):=λu j e=>by{have:=r3 u j e;simp at this};go_wp2_with fail;refine E.out.mono ?_;rintro e f ⟨rfl,rfl⟩;go_wp2;go_ret;exact⟨rfl,aI ⟨rfl,t.out⟩⟩
  | @leaf b u _ F l=>
   have E:=hid (xX l);have k2:=l.c2;by_cases j:u.idx=I;{have t:Hid (Au wr us I (aM (ptr (aA b)))):=aH ⟨u,b,_,_,r2 u (by simp),j,rfl,l⟩;rw[j]at k2;go_wp2_with fail;refine E.out.mono ?_;rintro e f ⟨rfl,rfl⟩;go_wp2;go_ret;exact⟨rfl,t.out⟩}
   .have t:Hid (∀u∈us,u.idx≠I):=λx D e=>by
     have:=r3 x D e;rw[zAs]at this;subst this;exact j e
    have G:(u.idx==I)=aG:=by rw[zDd];exact j
    go_wp2_with fail;refine E.out.mono ?_;rintro e f ⟨rfl,rfl⟩;go_wp2;go_ret;exact⟨rfl,aI ⟨rfl,t.out⟩⟩
  | @node b _ _ z o F L s l A B=>
   have E:Hid (Calls zq 225 #[ptr (aA b)] wr λe f=>e=aM (.bool aG)/\f=wr):=(cR.done (eO.node L s l A B) (zAb 0)).ends.mono λe f h=>⟨by rw[h.1,zCc (by omega)],h.2⟩;have Q:=l.c0;have k1:=l.c1;have hi:(d:Int)<256:=by{omega};have H:=P.out d s;have C:Hid (∀a:Nat,eN I d=a->(∀u∈bM d a g,u∈us)/\∀u∈us,u.idx=I->u∈bM d a g):=λa K=>⟨λu j=>r2 u (zBb.1 j).1,λu j e=>zBb.2 ⟨r3 u j e,by rw[e,K];exact beq_self_eq_true _⟩⟩;have M:=hid A;have O:=hid B;obtain v|v:=tZ I d
   .have n:=C.out 0 v;have m:=hid n;rw[zCc (by omega)]at H;have r:=hid H;go_wp2_with fail;refine E.out.mono ?_;rintro e f ⟨rfl,rfl⟩;go_wp2_with fail;refine r.out.mono ?_;rintro e f ⟨rfl,rfl⟩;go_wp2;go_roundg (257-(d+1));case measure=>omega
    case rel=>
     go_light
     exact⟨d+1,z,_,by omega,by go_num,rfl,rfl,M.out,m.out⟩
   .have n:=C.out 1 v;have m:=hid n;rw[zDm v]at H;have r:=hid H;go_wp2_with fail;refine E.out.mono ?_;rintro e f ⟨rfl,rfl⟩;go_wp2_with fail;refine r.out.mono ?_;rintro e f ⟨rfl,rfl⟩;go_wp2;go_roundg (257-(d+1));case measure=>omega
    case rel=>
     go_light
     exact⟨d+1,o,_,by omega,by go_num,rfl,rfl,O.out,m.out⟩
end
open Go Go.RowKit Sha
section
variable {l cs:List bK}{u:bK}{d b:Nat}{I:zB}
def xB (h:mF l)(u):mF (iK l u):=by have a:gM (wX (bH l) u):=vL (zDj.2 h);rw[<-wW]at a;exact zDj.1 a
def FG:∀(cs:List bK){l:List bK},mF l->mF (bI l cs)
 |[],_,h=>h
 |u::cs,_,h=>FG cs (xB h u)
def Ky (c:mF l):bM d b (iK l u)=if eN u.idx d=b then iK (bM d b l) u else bM d b l:=by
 have k:bM d b (sT u.idx l)=sT u.idx (bM d b l):=by unfold bM sT;rw[zEi,zEi];congr 1;funext x;exact aFp ..
 have j:bM d b (lW u.idx l)=lW u.idx (bM d b l):=by unfold bM lW;rw[zEi,zEi];congr 1;funext x;exact aFp ..
 have i:bM d b (iK l u)=sT u.idx (bM d b l)++(bM d b (if u.gone then []else [TM u])++lW u.idx (bM d b l)):=by rw[<-k,<-j];unfold iK bM;rw[zDb,zDb]
 rw[i];by_cases h:eN u.idx d=b
 .rw[zAv h];congr 2;cases u.gone with
  |true=>rfl
  |false=>exact zAy (show(eN u.idx d==b)=aF by rw[h];exact beq_self_eq_true _)
 .rw[zAt h];have g:bM d b (if u.gone then []else [TM u])=[]:=by
   cases u.gone with
   |true=>rfl
   |false=>exact zAp (show¬(eN u.idx d==b)=aF by rw[zDn];exact h)
  rw[g,zCk];obtain⟨x,a,e⟩|⟨e,_⟩:=yO u.idx (bM d b l) (c.filter _);{exfalso;have f:x∈bM d b l:=by{rw[e];simp};have:=(zBb.1 f).2;rw[a]at this;exact h (zDn.1 this)};{exact e.symm}
def jT:∀(cs:List bK){l:List bK},mF l->bM d b (bI l cs)=bI (bM d b l) (bM d b cs)
 |[],_,_=>rfl
 |u::cs,l,a=>by show bM d b (bI (iK l u) cs)=_;rw[jT cs (xB a u),Ky a];by_cases h:eN u.idx d=b;{rw[zAv h,show bM d b (u::cs)=u::bM d b cs from zAy (show(eN u.idx d==b)=aF by rw[h];exact beq_self_eq_true _)];rfl};{rw[zAt h,show bM d b (u::cs)=bM d b cs from zAp (show¬(eN u.idx d==b)=aF by rw[zDn];exact h)]}
def pN (l:List bK)(u:bK):Bool:=match eT (bH l) u.idx with|none=> !u.gone|some v=>u.gone||v !=u.val
def iR (l:List bK)(u:bK):Int:=match eT (bH l) u.idx with|none=>if u.gone then 0 else 1|some _=>if u.gone then-1 else 0
def jZ (l cs:List bK):List bK:=cs.filter (pN l)
def fG (l cs:List bK):Int:=(cs.map (iR l)).sum
def xR (l)(u)(I):eT (bH (iK l u)) I=if u.idx=I then(if u.gone then aB else aA u.val)else eT (bH l) I:=by rw[wW,get_put]
def uW:∀(cs:List bK)(l:List bK),(∀x∈cs,x.idx≠I)->eT (bH (bI l cs)) I=eT (bH l) I
 |[],_,_=>rfl
 |u::cs,l,h=>by show eT (bH (bI (iK l u) cs)) I=_;rw[uW cs _ λx a=>h x (zBm _ a),xR,zAt (h u (zBl ..))]
def FH {u cs}(h:mF (u::cs)):∀x∈cs,u.idx≠x.idx:=λx a e=>by have:=(zBw.1 h).1 x a;rw[e,dC]at this;cases this
def sY:∀(cs:List bK)(l:List bK),mF cs->∀u∈cs,eT (bH (bI l cs)) u.idx=if u.gone then aB else aA u.val
 |[],_,_,u,hu=>by simp at hu
 |c::cs,l,h,u,hu=>by show eT (bH (bI (iK l c) cs)) u.idx=_;obtain rfl|hu:=zAg.1 hu;{rw[uW cs _ λx a e=>FH h x a e.symm,xR,zAv rfl]};{exact sY cs _ (zBw.1 h).2 u hu}
def Ns (g:mF cs):Diff (jZ l cs) (bH (bI l cs)) (bH l):=λu f=>by
 obtain⟨i,a⟩:=zBb.1 f;rw[sY cs l g u i];unfold pN at a;cases c:eT (bH l) u.idx with
 |none=>
  rw[c]at a;cases h:u.gone with
  |true=>rw[h]at a;cases a
  |false=>simp
 |some v=>
  rw[c]at a;cases h:u.gone with
  |true=>simp
  |false=>rw[h]at a;simp at a⊢;exactλe=>a e.symm
def Cs (c)(h:c.idx≠u.idx):pN (iK l c) u=pN l u/\iR (iK l c) u=iR l u:=by unfold pN iR;rw[xR,zAt h];exact⟨rfl,rfl⟩
def Kx (hl:mF l)(hh:∀x∈l,x.gone=aG)(h:pN l u=aG):iK l u=l:=by
 have k:bH (iK l u)=bH l:=by
  refine tM (zDj.2 (xB hl u)) (zDj.2 hl) λI=> ?_;rw[xR];by_cases e:u.idx=I
  .rw[zAv e];unfold pN at h;rw[<-e];cases f:eT (bH l) u.idx with
   |none=>
    rw[f]at h;cases c:u.gone with
    |true=>rfl
    |false=>rw[c]at h;cases h
   |some v=>
    rw[f]at h;cases c:u.gone with
    |true=>rw[c]at h;cases h
    |false=>rw[c]at h;simp at h;rw[h];rfl
  .rw[zAt e]
 have g:∀{x:List bK},(∀u∈x,u.gone=aG)->x=(bH x).map λe=>⟨e.1,e.2,aG⟩:=λ{x} a=>by
  unfold bH;rw[zEg];conv=>lhs;rw[<-List.map_id x]
  apply zEb;intro u i;have:=a u i;cases u;simp only at this;subst this;rfl
 have j:∀x∈iK l u,x.gone=aG:=λx a=>by
  obtain a|a:=zAi.1 a;{exact hh x (zBb.1 a).1}
  .obtain a|a:=zAi.1 a
   .cases f:u.gone with
    |true=>rw[f]at a;simp at a
    |false=>rw[f]at a;simp at a;rw[a];rfl
   .exact hh x (zBb.1 a).1
 exact(g j).trans ((congrArg _ k).trans (g hh).symm)
def Mo (hh:∀x∈l,x.gone=aG)(u):∀x∈iK l u,x.gone=aG:=λx h=>by
 obtain h|h:=zAi.1 h
 .exact hh x (zBb.1 h).1
 .obtain h|h:=zAi.1 h
  .cases a:u.gone with
   |true=>rw[a]at h;simp at h
   |false=>rw[a]at h;simp at h;rw[h];rfl
  .exact hh x (zBb.1 h).1
def Ct:∀(cs:List bK){l:List bK},mF l->(∀x∈l,x.gone=aG)->mF cs->bI l (jZ l cs)=bI l cs
 |[],_,_,_,_=>rfl
 |u::cs,l,hl,c,e=>by
  have a:=FH e;have i:=Ct cs (xB hl u) (Mo c u) (zBw.1 e).2;have g:jZ (iK l u) cs=jZ l cs:=List.filter_congr λx f=>(Cs u (a x f)).1;rw[g]at i;show _=bI (iK l u) cs;rw[<-i];cases h:pN l u with
  |true=>rw[show jZ l (u::cs)=u::jZ l cs from zAy h];rfl
  |false=>rw[show jZ l (u::cs)=jZ l cs from zAp (by rw[h];exact aFq),Kx hl c h]
def Ru (hl:mF l)(u):((iK l u).length:Int)=l.length+iR l u:=by
 unfold iR;obtain⟨x,h,e⟩|⟨e,g⟩:=yO u.idx l hl
 .have a:eT (bH l) u.idx=aA x.val:=xS (zDj.2 hl) (by rw[<-h];exact zCi.2 ⟨x,by rw[e];simp,rfl⟩);rw[a];have c:=congrArg List.length e;rw[zAc,zAf]at c;unfold iK;rw[zAc,zAc];cases u.gone<;>simp<;>omega
 .have a:eT (bH l) u.idx=aB:=fN λx h=>by
   obtain⟨y,f,rfl⟩:=zCi.1 h;exact g y f
  rw[a];have c:=congrArg List.length e;rw[zAc]at c;unfold iK;rw[zAc,zAc];cases u.gone<;>simp<;>omega
def SY:∀(cs:List bK){l:List bK},mF l->mF cs->((bI l cs).length:Int)=l.length+fG l cs
 |[],l,_,_=>by simp[fG,bI]
 |u::cs,l,hl,a=>by
  have h:=FH a;have i:=SY cs (xB hl u) (zBw.1 a).2;have e:fG (iK l u) cs=fG l cs:=by unfold fG;congr 1;exact zEb λx c=>(Cs u (h x c)).2
  show((bI (iK l u) cs).length:Int)=_;rw[i,e,Ru hl u];show _=(l.length:Int)+(iR l u+fG l cs);omega
end
section
variable {w:zW}{d bx:Nat}{cs:List bK}
def Ia (u)(hi:u.idx.length=32)(m:d<256)(k:w.cell? ⟨bx,0,aB⟩=aA (aC aD d))(hl:bx<w.heap.size):
  Calls zq 238 #[Qn u,aO (aA ⟨bx,0,aB⟩)] w λe b=>e=aM (.bool (decide (eN u.idx d=1)))/\zb w b:=by
 obtain⟨a,f,g⟩:=u;dsimp only at*;have c:Hid (zb w (w.alloc (aJ #[aL ⟨a.toArray⟩,aL ⟨f.toArray⟩,.bool g] 53))):=(zGm _ w).alloc (zAb _) _;have j:(w.alloc (aJ #[aL ⟨a.toArray⟩,aL ⟨f.toArray⟩,.bool g] 53)).cell? ⟨bx,0,aB⟩=aA (aC aD d):=by rw[c.out.cell hl];exact k
 have l:(w.alloc (aJ #[aL ⟨a.toArray⟩,aL ⟨f.toArray⟩,.bool g] 53)).cell? ⟨w.heap.size,0,aB⟩=aA (aL ⟨a.toArray⟩):=(bC (zGv w _) 0).trans rfl;have H:Hid (∀W,Calls zq 82 #[aL ⟨a.toArray⟩,aC aD d] W λe b=>e=aM (.bool (decide (eN a d=1)))/\b=W):=λW=>(FE ⟨a.toArray⟩ d W (by show d/8<a.length;omega) (by show a.length<=_;omega) (by omega)).mono λe b h=>by simpa using h
 go_enter (Qz.fn func238),ntmps238;go_upto_region 1 with(fail)
 generalize(w.alloc (aJ #[aL ⟨a.toArray⟩,aL ⟨f.toArray⟩,.bool g] 53))=i at*;go_wp2_with fail;refine(H.out i).mono ?_;rintro e b ⟨rfl,rfl⟩;go_wp2;go_ret;exact⟨rfl,c.out⟩
def JG {y cap m}(D:eV w y cs)(hl:cs.length<=1000000)(hi:∀u∈cs,u.idx.length=32)(K:d<256)(z:w.cell? ⟨bx,0,aB⟩=aA (aC aD d))(C:bx<w.heap.size)(s:Cut cs d m):
  Calls zq 237 #[aK y cs.length cap,.func (.func 238) #[] #[aO (aA ⟨bx,0,aB⟩)]] w λe f=>e=aM (aC aD (if m<cs.length then(m)else-1))/\zb w f:=by
 have M:=hid D;have p:=hid s;have v:Hid (∀(t:Nat) u,cs[t]? =aA u->∀W,zb w W->Calls zq 238 #[Qn u,aO (aA ⟨bx,0,aB⟩)] W λe f=>e=aM (.bool (decide (eN u.idx d=1)))/\zb w f):=λt u c W j=>(Ia u (hi u (zDe c)) K (by rw[j.cell C];exact z) (zAd C j.size)).mono λe f h=>⟨h.1,j.trans (h.2.mono j.size)⟩;obtain⟨n,r⟩:∃n,n=cs.length:=⟨_,rfl⟩;have L:=hid r;have G:=s.le;rw[<-r]at hl G⊢;clear D s hi z r;go_enter (Qz.fn func237),ntmps237;go_wp2;go_loopg [8] n (λq i wr=>∃t:Nat,t+q=n/\i=aC aD (t:Int)/\t<=m/\zb w wr);case atStart=>exact⟨0,by omega,rfl,by omega,zGm _ _⟩
 case round=>
  obtain⟨t,Q,rfl,E,k⟩:=hrel
  have x:=hid k
  by_cases bT:t<n
  .have c:=zAh (l:=cs) (i:=t) (by have:=L.out;omega);have H:=hid (v.out t _ c wr x.out);have H0:Hid (t<m->eN cs[t].idx d=0):=λh=>p.out.zero t _ h c;have H1:Hid (m<=t->eN cs[t].idx d=1):=λh=>p.out.one t _ h c;obtain⟨g,o,rfl,R,c0,c1,c2⟩:=(M.out.below x.out (zAb _)).idx t _ c;generalize cs[t]=u at*;obtain⟨O,N,P⟩:=u;dsimp only at*;have J:¬((t:Int)<0):=by{omega};have I:(t:Int)<(n:Int):=by{omega};by_cases A:m<=t;{obtain rfl:t=m:=by{omega};have b:=H1.out (zAb _);rw[zDm b]at H;clear b k v H0 H1 c p;go_wp2_with fail;refine H.out.mono ?_;rintro e w2 ⟨rfl,a⟩;have B:=hid a;clear a;go_wp2;go_ret;exact⟨rfl,B.out⟩}
   .have b:=H0.out (by omega);rw[zCc (by omega)]at H;clear b k v H0 H1 c p;go_wp2_with fail;refine H.out.mono ?_;rintro e w2 ⟨rfl,a⟩;have B:=hid a;clear a;go_wp2;go_roundg (n-(t+1));case measure=>omega
    case rel=>
     go_light
     exact⟨t+1,by omega,by go_num,by omega,B.out⟩
  .have F:¬(t:Int)<(n:Int):=by{omega};clear k;go_wp2;go_ret;exact⟨rfl,x.out⟩
def SF {v cap m}(i:eV w v cs)(hl:cs.length<=1000000)(hi:∀u∈cs,u.idx.length=32)(g:d<256)(f:Cut cs d m):
  Calls zq 231 #[aK v cs.length cap,aC aD d] w λe c=>e=aM (aC aD (m))/\zb w c:=by
 have b:zb w (w.alloc (aJ #[aC aD d] 3)):=(zGm _ w).alloc (zAb _) _;have H:Hid (Calls zq 237 #[aK v cs.length cap,.func (.func 238) #[] #[aO (aA ⟨w.heap.size,0,aB⟩)]] (w.alloc (aJ #[aC aD d] 3)) λe c=>e=aM (aC aD (if m<cs.length then(m:Int)else-1))/\zb w c):=by refine(JG (i.below b (zAb _)) hl hi g ((bC (zGv w _) 0).trans rfl) (by rw[size_alloc];omega) f).mono λe c h=>⟨h.1,b.trans (h.2.mono b.size)⟩
 have j:=f.le;by_cases bT:m<cs.length
 .rw[zAv bT]at H;have k:¬(m:Int)<0:=by{omega};go_enter (Qz.fn func231),ntmps231;go_wp2_with fail;refine H.out.mono ?_;rintro e w2 ⟨rfl,a⟩;have B:=hid a;go_wp2;go_ret;exact⟨rfl,B.out⟩
 .rw[zAt bT]at H;obtain rfl:m=cs.length:=by{omega};go_enter (Qz.fn func231),ntmps231;go_wp2_with fail;refine H.out.mono ?_;rintro e w2 ⟨rfl,a⟩;have B:=hid a;go_wp2;go_ret;exact⟨rfl,B.out⟩
end
section
variable {w w1 w':zW}{t k d:Nat}{x0 x1 x2 x3 x4:zY}{c:Int}{p:Option Nat}{S:zP}{us cs:List bK}
def eV.hl {m}(h:eV w m cs)(s:Hl t w w')(A:∀a,m=aA a->a.block≠t):eV w' m cs:=λx=>by
 obtain⟨g,o,e,r,D⟩:=h x;obtain⟨u,y⟩:∃u,cs[0]? =aA u:=⟨_,zAh x⟩;obtain⟨f,n,l,_,_,_,k2⟩:=h.idx 0 u y;have F:f=g/\n=o:=by rw[e]at l;injection l with l;injection l with G a2 _;exact⟨G.symm,a2.symm⟩
 obtain⟨rfl,rfl⟩:=F;have E:w'.heap[f]? =w.heap[f]? :=s.block f r (A _ e) λz o i v g B b=>by obtain⟨fr,b⟩:=b.at';rw[bC b]at k2;have q:Value.bool u.gone∈(lY z o i v g B).toList:=by{rw[zDo];exact zBg k2};simp only[lY,zAg,zAo,zCe]at q;obtain h|h|h|h|h|h:=q;{cases z<;>cases h};{cases o<;>cases h};all_goals cases h
 refine⟨f,n,e,zAd r s.size,λj u C=> ?_⟩;rw[World.cell?_of_block (a:=⟨f,n+j,aB⟩) E];exact D j u C
def Grown (k t:Nat)(S:zP)(us cs:List bK)(d:Nat)(x0 x1 x2 x3 x4:zY)(c:Int)(W:zW)(e:Ending)(w':zW):Prop:=
 ∃a rows f,e=aM (ptr a)/\cR k w' a (bI us cs) d W.heap.size w'.heap.size rows/\Grow t S f W w'/\(∀b,a=aA b->f b)/\cW w' t x0 x1 x2 x3 x4 (c+rows.length)/\rows.length<=kY (bH (bI us cs)) (bH us) d
structure jY (k t:Nat)(S:zP)(p:Option Nat)(us cs:List bK)(d:Nat)(x0 x1 x2 x3 x4:zY)(c:Int)(W:zW):Prop where
 k1:1<=k
 k2:k<=32
 rep:eO k W p us d
 NY:mF us
 Wu:mF cs
 here:∀u∈us,u.gone=aG
 CC:∀u∈us,u.idx.length=32
 Wx:∀u∈cs,u.idx.length=32/\u.val.length<=100
 bits:∀a∈us++cs,∀b∈us++cs,∀i,i<d->eN a.idx i=eN b.idx i
 diff:Diff cs (bH (bI us cs)) (bH us)
 cells:CS W S
 vd:∀b,p=aA b->S b
 at':cW W t x0 x1 x2 x3 x4 c
 lo: -4611686018427387904<=c
 hi:c+kY (bH (bI us cs)) (bH us) d<=4611686018427387904
def Grow.below {B}(h:CS w S)(a:Below B w w')(b:w.heap.size<=B):Grow t S S w w':=⟨Hl.below a b,h.hl (t:=t) (Hl.below a b),λ_ h=>h,λ_ h=>aH h⟩
def ZI (h:jY k t S p us [] d x0 x1 x2 x3 x4 c w):Grown k t S us [] d x0 x1 x2 x3 x4 c w (aM (ptr p)) w:=
 ⟨p,[],S,rfl,.done h.rep (zAb _),.refl h.cells,h.vd,by simpa using h.at',zBs _⟩
def Bs {u}(h:us=[]\/∃x,us=[x]/\x.idx=u.idx):bI us [u]=if u.gone then []else [TM u]:=by
 show iK us u=_;obtain rfl|⟨x,rfl,a⟩:=h
 .unfold iK sT lW;simp
 .have e:sT u.idx [x]=[]:=zAp (by rw[a,dC];decide);have b:lW u.idx [x]=[]:=zAp (by rw[a,dC];decide);unfold iK;rw[e,b];simp
def ZG {u}(h:jY k t S p us [u] d x0 x1 x2 x3 x4 c w)(f:us=[]\/∃x,us=[x]/\x.idx=u.idx)(g:u.gone=aF)(a:zb w w'):Grown k t S us [u] d x0 x1 x2 x3 x4 c w (aM (ptr aB)) w':=by refine⟨aB,[],S,rfl,?_,.below h.cells a (zAb _),λb e=>(by cases e),by simpa using h.at'.below a (zAb _),zBs _⟩;rw[Bs f,zAv g];exact .done (.nil d) a.size
def ZH {u b}(h:jY k t S p us [u] d x0 x1 x2 x3 x4 c w)(n:us=[]\/∃x,us=[x]/\x.idx=u.idx)(o:u.gone=aG)(m:zb w w1)(i:IG w1 w' b aB aB u.idx u.val)(s:Hl t w1 w')(r:cW w' t x0 x1 x2 x3 x4 (c+1))(j:b<w'.heap.size):Grown k t S us [u] d x0 x1 x2 x3 x4 c w (aM (ptr (aA b))) w':=by obtain⟨v,q⟩:=i.cell;have a:=zBc m.size i.lo;have f:=(Hl.below m (zAb _)).trans s;have e:=Bs n;rw[o]at e;have e:=e;refine⟨aA b,_,λx=>S x\/x=b,rfl,by rw[e];exact .leaf a j q,⟨f,(h.cells.hl f).add i (λc e=>by cases e) (λc e=>by cases e),λx g=>aH g,λx g=>g.imp id λe=>by subst e;exact a⟩,λx e=>by cases e;exact aI rfl,by simpa using r,?_⟩;rw[e];have l:=h.diff;rw[e]at l;exact Gf (zDj.2 h.NY) l (zAs.2 rfl) rfl
def jY.deep (h:jY k t S p us cs d x0 x1 x2 x3 x4 c w)(o:d<=256)(l:0<cs.length)(j:∀u,cs=[u]->us≠[]/\∀x,us=[x]->x.idx≠u.idx):d<256:=by
 have two:∀a∈us++cs,∀b∈us++cs,a.idx≠b.idx->d<256:=λa f b e g=>by
  obtain x|x:=zDf d 256;{exact x}
  .refine absurd (Df ?_ ?_ λi hi=>h.bits a f b e i (by omega)) g
   .obtain f|f:=zAi.1 f
    .exact h.CC a f
    .exact(h.Wx a f).1
   .obtain e|e:=zAi.1 e
    .exact h.CC b e
    .exact(h.Wx b e).1
 match cs,l with
 |[u],_=>
  obtain⟨n,m⟩:=j u rfl;match us,n with
  |[x],_=>exact two x (by simp) u (by simp) (m x rfl)
  |x::y::us,_=>exact two x (by simp) y (by simp) (FH h.NY y (by simp))
 |u::v::cs,_=>exact two u (by simp) v (by simp) (FH h.Wu v (by simp))
def SW (us)(a)(d)(hl:us.length<=1)(e:d<256):kY (bH (bM d 0 us)) (dB a d 0) (d+1)+kY (bH (bM d 1 us)) (dB a d 1) (d+1)<=kY (bH us) a d:=by
 have h:=nZ us d;have b:fH (256-(d+1)) (bH (bM d 0 us)) (dB a d 0) (d+1)=0:=by have:=sP (256-(d+1)) (bH (bM d 0 us)) (dB a d 0) (d+1);rw[gJ,show(bM d 0 us).length-1=0 by omega]at this;omega
 have n:fH (256-(d+1)) (bH (bM d 1 us)) (dB a d 1) (d+1)=0:=by have:=sP (256-(d+1)) (bH (bM d 1 us)) (dB a d 1) (d+1);rw[gJ,show(bM d 1 us).length-1=0 by omega]at this;omega
 unfold kY;rw[b,n,fM,fM];have:=sQ (bH us) a d;omega
def yY (h:jY k t S p us cs d x0 x1 x2 x3 x4 c w)(e:0<cs.length)(b:d<256):(if 2<=(bI us cs).length then 1 else 0)+(kY (bH (bI (bM d 0 us) (bM d 0 cs))) (bH (bM d 0 us)) (d+1)+kY (bH (bI (bM d 1 us) (bM d 1 cs))) (bH (bM d 1 us)) (d+1))<=kY (bH (bI us cs)) (bH us) d:=by
 rw[<-jT cs h.NY,<-jT cs h.NY,fM us d 0,fM us d 1];by_cases a:2<=(bI us cs).length
 .rw[zAv a,<-Gb h.diff a e b];exact zAb _
 .rw[zAt a,zAz];exact SW _ _ d (by omega) b
def jY.half (h:jY k t S p us cs d x0 x1 x2 x3 x4 c w)(b){j S1 c1}(m:eO k w1 j (bM d b us) (d+1))(q:CS w1 S1)(n:∀b,j=aA b->S1 b)(o:cW w1 t x0 x1 x2 x3 x4 c1)(s: -4611686018427387904<=c1)(r:c1+kY (bH (bI (bM d b us) (bM d b cs))) (bH (bM d b us)) (d+1)<=4611686018427387904):jY k t S1 j (bM d b us) (bM d b cs) (d+1) x0 x1 x2 x3 x4 c1 w1:=by
 refine⟨h.k1,h.k2,m,h.NY.filter _,h.Wu.filter _,λu g=>h.here u (zBb.1 g).1,λu g=>h.CC u (zBb.1 g).1,λu g=>h.Wx u (zBb.1 g).1,λx a y l i hi=> ?_,?_,q,n,o,s,r⟩
 .have f:∀x∈bM d b us++bM d b cs,x∈us++cs/\eN x.idx d=b:=λx a=>by
   obtain a|a:=zAi.1 a;{exact⟨zAi.2 (aH (zBb.1 a).1),zDn.1 (zBb.1 a).2⟩};{exact⟨zAi.2 (aI (zBb.1 a).1),zDn.1 (zBb.1 a).2⟩}
  by_cases e:i=d;{subst e;exact(f x a).2.trans (f y l).2.symm};{exact h.bits x (f x a).1 y (f y l).1 i (by omega)}
 .have:=h.diff.half d b;rw[<-fM,<-fM,jT cs h.NY]at this;exact this
end
def ta (k t:Nat)(S:zP)(us cs:List bK)(d:Nat)(x0 x1 x2 x3 x4:zY)(c:Int)(w:zW)(p0:Option Nat)(w0:zW):Prop:=
 ∃m r0 S0,w.heap.size<=m/\cR k w0 p0 (bI (bM d 0 us) (bM d 0 cs)) (d+1) m w0.heap.size r0/\Grow t S S0 w w0/\(∀b,p0=aA b->S0 b)/\cW w0 t x0 x1 x2 x3 x4 (c+r0.length)/\r0.length<=kY (bH (bI (bM d 0 us) (bM d 0 cs))) (bH (bM d 0 us)) (d+1)
def Yo (k t:Nat)(S:zP)(us cs:List bK)(d:Nat)(x0 x1 x2 x3 x4:zY)(c:Int)(w:zW)(p0 p1:Option Nat)(w1:zW):Prop:=
 ∃m m1 r0 r1 S1,w.heap.size<=m/\m1<=w1.heap.size/\cR k w1 p0 (bI (bM d 0 us) (bM d 0 cs)) (d+1) m m1 r0/\cR k w1 p1 (bI (bM d 1 us) (bM d 1 cs)) (d+1) m1 w1.heap.size r1/\Grow t S S1 w w1/\(∀b,p0=aA b->S1 b)/\(∀b,p1=aA b->S1 b)/\cW w1 t x0 x1 x2 x3 x4 (c+(r0.length+r1.length:Nat))/\r0.length<=kY (bH (bI (bM d 0 us) (bM d 0 cs))) (bH (bM d 0 us)) (d+1)/\r1.length<=kY (bH (bI (bM d 1 us) (bM d 1 cs))) (bH (bM d 1 us)) (d+1)
section
variable {w wa w0 w1 w':zW}{t k d:Nat}{x0 x1 x2 x3 x4:zY}{c:Int}{p p0 p1 z o:Option Nat}{S:zP}{us cs:List bK}{e:Ending}
def Xa (h:jY k t S p us cs d x0 x1 x2 x3 x4 c w)(a:zb w wa)(g:Grown k t S (bM d 0 us) (bM d 0 cs) (d+1) x0 x1 x2 x3 x4 c wa e w0):∃p0,e=aM (ptr p0)/\ta k t S us cs d x0 x1 x2 x3 x4 c w p0 w0:=by obtain⟨p0,r0,S0,m,l,j,i,f,b⟩:=g;exact⟨p0,m,wa.heap.size,r0,S0,a.size,l,(Grow.below h.cells a (zAb _)).trans j,i,f,b⟩
def Ap (h:jY k t S p us cs d x0 x1 x2 x3 x4 c w)(l:0<cs.length)(j:d<256)(a:zb w wa)(i:rE k w us d z o)(g:∀b,z=aA b->S b):jY k t S z (bM d 0 us) (bM d 0 cs) (d+1) x0 x1 x2 x3 x4 c wa:=by have m:=yY h l j;have hi:=h.hi;have f:Hl t w wa:=Hl.below a (zAb _);exact h.half 0 (i.z.hl h.k1 h.k2 f) (h.cells.hl f) g (h.at'.below a (zAb _)) h.lo (by omega)
def Ie (h:jY k t S p us cs d x0 x1 x2 x3 x4 c w)(r:0<cs.length)(q:d<256)(j:rE k w us d z o)(i:∀b,o=aA b->S b)(l:ta k t S us cs d x0 x1 x2 x3 x4 c w p0 w0):
  ∃S0 c0,jY k t S0 o (bM d 1 us) (bM d 1 cs) (d+1) x0 x1 x2 x3 x4 c0 w0/\∀e w1,Grown k t S0 (bM d 1 us) (bM d 1 cs) (d+1) x0 x1 x2 x3 x4 c0 w0 e w1->∃p1,e=aM (ptr p1)/\Yo k t S us cs d x0 x1 x2 x3 x4 c w p0 p1 w1:=by
 obtain⟨m,r0,S0,y,x,a,v,u,s⟩:=l;have D:=yY h r q;have hi:=h.hi;have n:=h.lo;refine⟨S0,c+r0.length,h.half 1 (j.o.hl h.k1 h.k2 a.hl) a.cs (λb e=>a.old b (i b e)) u (by omega) (by omega),λe w1 g=> ?_⟩;obtain⟨p1,r1,S1,C,B,f,A,g4,g5⟩:=g;exact⟨p1,C,m,w0.heap.size,r0,r1,S1,y,f.hl.size,x.hl h.k1 h.k2 f.hl,B,a.trans f,λb e=>f.old b (v b e),A,by rw[show c+((r0.length+r1.length:Nat):Int)=c+r0.length+r1.length by omega];exact g4,s,g5⟩
def YZ (h:jY k t S p us cs d x0 x1 x2 x3 x4 c w)(M:0<cs.length)(L:d<256)(I:Yo k t S us cs d x0 x1 x2 x3 x4 c w p0 p1 w1):
  Calls zq 232 #[aO (aA ⟨t,0,aB⟩),ptr p0,ptr p1] w1 λe w'=>∃j,e=aM (ptr j)/\Grown k t S us cs d x0 x1 x2 x3 x4 c w (aM (ptr j)) w':=by
 obtain⟨m,m1,r0,r1,S1,X,h2,V,U,v,T,R,Q,h9,W⟩:=I;have hn:=yY h M L;have hi:=h.hi;have J:=h.lo;have P:Sub (bI us cs) d:=by
  have g:∀x∈bI us cs,∃y∈us++cs,x.idx=y.idx:=by
   have:∀(cs l:List bK),∀x∈bI l cs,∃y∈l++cs,x.idx=y.idx:=by
    intro cs;induction cs with
    |nil=>intro l x q;exact⟨x,zAi.2 (aH q),rfl⟩
    |cons u cs G=>
     intro l x q;obtain⟨y,f,e⟩:=G (iK l u) x q;obtain f|f:=zAi.1 f
     .obtain f|f:=zAi.1 f
      .exact⟨y,zAi.2 (aH (zBb.1 f).1),e⟩
      .obtain f|f:=zAi.1 f
       .refine⟨u,by simp,e.trans ?_⟩;cases s:u.gone with
        |true=>rw[s]at f;simp at f
        |false=>rw[s]at f;simp at f;rw[f];rfl
       .exact⟨y,zAi.2 (aH (zBb.1 f).1),e⟩
     .exact⟨y,zAi.2 (aI (zBm _ f)),e⟩
   exact this cs us
  refine⟨FG cs h.NY,λu H=> ?_,λa O b N i hi=> ?_⟩
  .obtain⟨y,f,e⟩:=g u H;rw[e];obtain f|f:=zAi.1 f
   .exact h.CC y f
   .exact(h.Wx y f).1
  .obtain⟨y,f,e⟩:=g a O;obtain⟨A,n,r⟩:=g b N;rw[e,r];exact h.bits y f A n i hi
 have q0:=jT (d:=d) (b:=0) cs h.NY;have B:=jT (d:=d) (b:=1) cs h.NY;refine(Gn h.k1 h.k2 (by rw[q0];exact V) (by rw[B];exact U) P v.cs T R Q (by omega) (by omega)).mono λe w' K=> ?_;obtain⟨j,rows,Y,r,F,E,D,C,Z⟩:=K;refine⟨j,r,j,rows,Y,rfl,F.wide X (zAb _),v.trans E,D,?_,by omega⟩;rw[show c+(rows.length:Int)=c+((r0.length+r1.length:Nat):Int)+((rows.length:Int)-(r0.length+r1.length:Nat)) by omega];exact C
end
section
variable {w:zW}{t k d cap:Nat}{x0 x1 x2 x3 x4:zY}{c:Int}{p:Option Nat}{S:zP}{us cs:List bK}{va:zO}
def TU (h:jY k t S p us [] d x0 x1 x2 x3 x4 c w):Calls zq 223 #[aO (aA ⟨t,0,aB⟩),ptr p,aC aD d,aK va 0 cap] w (Grown k t S us [] d x0 x1 x2 x3 x4 c w):=by have H:=hid (ZI h);generalize Grown k t S us [] d x0 x1 x2 x3 x4 c w=J at*;go_enter (Qz.fn func223),ntmps223;go_wp2;exact H.out
def UK {u cs}(a:eV w va (u::cs)):∃g o,va=aA ⟨g,o,aB⟩/\g<w.heap.size/\w.cell? ⟨g,o,aB⟩=aA (aL ⟨u.idx.toArray⟩)/\w.cell? ⟨g,o+1,aB⟩=aA (aL ⟨u.val.toArray⟩)/\w.cell? ⟨g,o+2,aB⟩=aA (.bool u.gone):=by obtain⟨g,o,e,h,c0,c1,c2⟩:=a.idx 0 u rfl;rw[zFj,aFu]at c0 c1 c2;exact⟨g,o,e,h,c0,c1,c2⟩
def TT {u}(h:jY k t S p us [u] d x0 x1 x2 x3 x4 c w)(A:us=[]\/∃x,us=[x]/\x.idx=u.idx)(Q:eV w va [u]):Calls zq 223 #[aO (aA ⟨t,0,aB⟩),ptr p,aC aD d,aK va 1 cap] w (Grown k t S us [u] d x0 x1 x2 x3 x4 c w):=by
 obtain⟨g,o,rfl,y,c0,c1,c2⟩:=UK Q;have N:=h.Wx u (zAs.2 rfl);have I:Hid (u.gone=aF->∀W,zb w W->Grown k t S us [u] d x0 x1 x2 x3 x4 c w (aM (ptr aB)) W):=λy W q=>ZG h A y q;have K:Hid (u.gone=aG->∀W,zb w W->Calls zq 229 #[aO (aA ⟨t,0,aB⟩),Qn u] W λe l=>∃b,e=aM (ptr (aA b))/\Grown k t S us [u] d x0 x1 x2 x3 x4 c w (aM (ptr (aA b))) l):=λy W q=>by have O:=h.lo;have hi:=h.hi;refine(Gl u (by omega) (by omega) (h.at'.below q (zAb _)) h.lo (by omega)).mono λe l V=> ?_;obtain⟨b,F,U,D,T,R⟩:=V;exact⟨b,F,ZH h A y q U D T R⟩
 have M:p=aB\/∃b g B,p=aA b/\aY w b aB aB u.idx ((us.headD ⟨[],[],aG⟩).val) g B:=by
  obtain rfl|⟨x,rfl,L⟩:=A;{exact aH (h.rep.iB.2 rfl)}
  .cases h.rep with
   |leaf v=>exact aI ⟨_,_,_,rfl,by rw[<-L];exact v⟩
   |node D=>simp at D
 have H:Hid (zb w (w.alloc (aJ #[aL ⟨u.idx.toArray⟩,aL ⟨u.val.toArray⟩,.bool u.gone] 53))):=(zGm _ w).alloc (zAb _) _;have i:(w.alloc (aJ #[aL ⟨u.idx.toArray⟩,aL ⟨u.val.toArray⟩,.bool u.gone] 53)).heap[w.heap.size]? =aA (aJ #[aL ⟨u.idx.toArray⟩,aL ⟨u.val.toArray⟩,.bool u.gone] 53 (0,0)):=zGv w _;generalize Grown k t S us [u] d x0 x1 x2 x3 x4 c w=J at*;have a:Hid (∀W n,zb w W->zb w (W.drewN n)):=λW n h=>⟨h.os,h.tape,h.output,h.size,h.block⟩;obtain rfl|⟨b,X,B,rfl,v⟩:=M
 .obtain⟨s,r,z⟩:=u;dsimp only at*;cases z with
  |true=>
   go_enter (Qz.fn func223),ntmps223;go_upto_region 4 with(fail)
   have E:=(bC i 2).trans rfl;generalize(w.alloc (aJ #[aL ⟨s.toArray⟩,aL ⟨r.toArray⟩,.bool aF] 53))=f at*;go_quiet (fail);go_wp2;exact I.out (by first|trivial|rfl) _ (a.out _ _ H.out)
  |false=>
   go_enter (Qz.fn func223),ntmps223;go_upto_region 4 with(fail)
   have G:=(bC i 0).trans rfl;have F:=(bC i 1).trans rfl;have E:=(bC i 2).trans rfl;generalize(w.alloc (aJ #[aL ⟨s.toArray⟩,aL ⟨r.toArray⟩,.bool aG] 53))=f at*;go_quiet (fail);go_wp2_with fail;refine(K.out (by first|trivial|rfl) _ (a.out _ _ H.out)).mono ?_;rintro e l ⟨b,rfl,C⟩;go_wp2;exact C
 .have j:Hid (∀W,zb w W->aY W b aB aB u.idx ((us.headD ⟨[],[],aG⟩).val) X B):=λW q=>⟨by rw[q.block b v.lt];exact v.at'⟩;generalize(us.headD ⟨[],[],aG⟩).val=Y at*;have P:=v.lt;obtain⟨s,r,z⟩:=u;dsimp only at*;cases z with
  |true=>
   go_enter (Qz.fn func223),ntmps223;go_upto_region 4 with(fail)
   have G:=(bC i 0).trans rfl;have E:=(bC i 2).trans rfl;generalize(w.alloc (aJ #[aL ⟨s.toArray⟩,aL ⟨r.toArray⟩,.bool aF] 53))=f at*;have k2:=(j.out f H.out).c2;have m:Hid (∀n,Calls zq 227 #[ptr (aA b)] (f.drewN n) λe l=>e=aM (.bool aF)/\l=f.drewN n):=λn=>kZ (j.out _ (a.out _ n H.out));go_quiet ((go_at_call 227;exact zGx (m.out _)));go_wp2;exact I.out (by first|trivial|rfl) _ (a.out _ _ H.out)
  |false=>
   go_enter (Qz.fn func223),ntmps223;go_upto_region 4 with(fail)
   have G:=(bC i 0).trans rfl;have F:=(bC i 1).trans rfl;have E:=(bC i 2).trans rfl;generalize(w.alloc (aJ #[aL ⟨s.toArray⟩,aL ⟨r.toArray⟩,.bool aG] 53))=f at*;have k2:=(j.out f H.out).c2;have m:Hid (∀n,Calls zq 227 #[ptr (aA b)] (f.drewN n) λe l=>e=aM (.bool aF)/\l=f.drewN n):=λn=>kZ (j.out _ (a.out _ n H.out));go_quiet ((go_at_call 227;exact zGx (m.out _)));go_wp2_with fail;refine(K.out (by first|trivial|rfl) _ (a.out _ _ H.out)).mono ?_;rintro e l ⟨b,rfl,C⟩;go_wp2;exact C
end
section
variable {w W:zW}{t k d cap n m g o:Nat}{p z:Option Nat}{S:zP}{us:List bK}{J:Ending->zW->Prop}
def SA (A:CS w S)(y:zb w W)(h:eO k W z us d)(D:∀b,z=aA b->S b):eO k w z us d:=by
 refine h.stay (λb z o i v g x l j c e=> ?_) (λb z o i v g x l j=> ?_) D
 .obtain⟨q,s,u,r,C,a,f,_,B⟩:=A b l;have E:aY W b q s u r C a:=⟨by rw[y.block b f.lt];exact f.at'⟩;obtain⟨rfl,rfl,_⟩:=fC j E;exact B c e
 .obtain⟨q,s,u,r,C,a,f,_,B⟩:=A b l;exact⟨x,⟨by rw[<-y.block b f.lt];exact j.at'⟩⟩
def Dl (w:zW)(p:Option Nat)(n:Nat)(I:zB):Prop:=
 2<=n\/(n=1/\∃b z o i v g h,p=aA b/\aY w b z o i v g h/\((z.isNone&&o.isNone)=aG\/(z=aB/\o=aB/\i≠I)))
def Gv {Ha:zY->zY->Prop}{M1:zR}{M2:zY->zR}{x D:zB}{E}
  {vb Y cb} (G:(cap=m/\Y=0/\cb=0/\vb=aA ⟨g,o,aB⟩)\/(cap≠m/\Y=n-m/\cb=cap-m/\vb=aA ⟨g,o+m*3,aB⟩)) (hd:d<256) (hn:n<=1000000) (hm:m<=n) (dG:n<=cap) (hN:Dl w p n x) (hg:g<w.heap.size) (c0:w.cell? ⟨g,o,aB⟩=aA (aL ⟨x.toArray⟩)) (c1:w.cell? ⟨g,o+1,aB⟩=aA (aL ⟨D.toArray⟩)) (c2:w.cell? ⟨g,o+2,aB⟩=aA (.bool E))
  (hP:∀W,zb w W->Calls zq 230 #[ptr p,aC aD d] W λe w'=>∃z o,e=aM (.tuple #[z,o])/\zb w w'/\Ha z o)
  (hQ:∀W,zb w W->Calls zq 231 #[aK (aA ⟨g,o,aB⟩) n cap,aC aD d] W λe w'=>e=aM (aC aD (m))/\zb w w')
  (hZ:∀z R,Ha z R->∀W,zb w W->Calls zq 223 #[aO (aA ⟨t,0,aB⟩),z,aC aD ((d)+1),aK (aA ⟨g,o,aB⟩) m cap] W λe w'=>∃p0,e=aM p0/\M1 p0 w')
  (hO:∀z R,Ha z R->∀p0 W,M1 p0 W->Calls zq 223 #[aO (aA ⟨t,0,aB⟩),R,aC aD ((d)+1),aK vb Y cb] W λe w'=>∃A,e=aM A/\M2 p0 A w')
  (hJ:∀p0 A W,M2 p0 A W->Calls zq 232 #[aO (aA ⟨t,0,aB⟩),p0,A] W λe w'=>∃p',e=aM p'/\J (aM p') w'):
  Calls zq 223 #[aO (aA ⟨t,0,aB⟩),ptr p,aC aD d,aK (aA ⟨g,o,aB⟩) n cap] w J:=by
 have U:=hid hP;have T:=hid hQ;have HZ:=hid hZ;have HO:=hid hO;have HJ:=hid hJ;have H:Hid (zb w (w.alloc (aJ #[aL ⟨x.toArray⟩,aL ⟨D.toArray⟩,.bool E] 53))):=(zGm _ w).alloc (zAb _) _;have Z:(w.alloc (aJ #[aL ⟨x.toArray⟩,aL ⟨D.toArray⟩,.bool E] 53)).heap[w.heap.size]? =aA (aJ #[aL ⟨x.toArray⟩,aL ⟨D.toArray⟩,.bool E] 53 (0,0)):=zGv w _;have j:Hid (∀W n,zb w W->zb w (W.drewN n)):=λW n h=>⟨h.os,h.tape,h.output,h.size,h.block⟩;have s:Hid (∀W,zb w W->zb w W.drew):=λW h=>h.drew;have vf:IntKind.i64.wrap ((d:Int)+1)=(d:Int)+1:=by rw[zGq];omega
 have df:¬((m:Int)<0):=by omega
 have wu:(m:Int)<=(n:Int):=by omega
 have jh:(m:Int)<=(cap:Int):=by omega
 have wj:(0:Int)<(n:Int):=by obtain h|⟨h,_⟩:=hN<;>omega
 have H3:∃(B:Prop),(2<=n/\B=True)\/(n=1/\∃b i v,∃q:Bool,p=aA b/\(∀W,zb w W->Calls zq 227 #[ptr p] W λe w'=>e=aM (.bool q)/\w'=W)/\(∀W,zb w W->W.cell? ⟨b,2,aB⟩=aA (aL ⟨(i:zB).toArray⟩))/\(q=aG\/(q=aF/\(i==x)=aG))/\v=b):=by
  refine⟨True,?_⟩;obtain h|⟨h,b,z,o1,i,v,gg,hs,rfl,hc,F⟩:=hN;{exact aH ⟨h,rfl⟩}
  .have hC:∀W,zb w W->aY W b z o1 i v gg hs:=λW N=>⟨by rw[N.block b hc.lt];exact hc.at'⟩;refine aI ⟨h,b,i,b,z.isNone&&o1.isNone,rfl,λW N=>kZ (hC W N),λW N=>(hC W N).c2,?_,rfl⟩;obtain F|⟨rfl,rfl,F⟩:=F
   .exact aH F
   .exact aI ⟨rfl,zDd.2 F⟩
 obtain⟨B,H3⟩:=H3;obtain⟨h,-⟩|⟨rfl,b,i,v,q,rfl,K,L,hq,-⟩:=H3
 .have ox:=zCc (by omega);have aA5:decide (n=1)=aG:=zCc (by omega);have aA4:((n:Int)==1)=aG:=zDd.2 (by omega);have aA3:(n==1)=aG:=zDd.2 (by omega);obtain⟨rfl,rfl,rfl,rfl⟩|⟨hcm,rfl,rfl,rfl⟩:=G;all_goals
   go_enter (Qz.fn func223),ntmps223
   go_upto_region 4 with(fail)
   clear Z c0 c1 c2
   generalize(w.alloc (aJ #[aL ⟨x.toArray⟩,aL ⟨D.toArray⟩,.bool E] 53))=u at*
   go_quiet (fail)
   have f:=j.out u nq H.out
   generalize u.drewN nq=V at*
   have l:=hid f
   clear f H j
   go_wp2_with fail
   refine(U.out V l.out).mono ?_
   rintro e w2 ⟨z,X,rfl,c,M⟩
   have Q:=hid M
   have r:=hid c
   clear c M U l
   go_wp2_with fail
   refine(T.out w2 r.out).mono ?_
   rintro e w3 ⟨rfl,a⟩
   have C:Hid (zb w w3.drew):=s.out _ a
   clear a T r s
   go_upto_region 10 with(fail)
   go_region_with (first
    |(go_at_call_of 223 z;refine(HZ.out _ _ Q.out _ C.out).mono ?_;rintro e w4 ⟨p0,rfl,m1⟩;dsimp only)
    |(go_at_call_of 223 X;refine(HO.out _ _ Q.out _ _ m1).mono ?_;rintro e w5 ⟨A,rfl,m2⟩;dsimp only)
    |(go_at_call 232;refine(HJ.out _ _ _ m2).mono ?_;rintro e w6 ⟨p2,rfl,I⟩;dsimp only))
   all_goals go_wp2
   all_goals first|exact I|(go_ret;exact I)
 .have O:=hid K;have P:=hid L;clear K L;obtain rfl|⟨rfl,hi⟩:=hq;all_goals obtain⟨rfl,rfl,rfl,rfl⟩|⟨hcm,rfl,rfl,rfl⟩:=G
  all_goals
   go_enter (Qz.fn func223),ntmps223
   go_upto_region 4 with(fail)
   have e0:=(bC Z 0).trans rfl
   clear Z c0 c1 c2
   generalize(w.alloc (aJ #[aL ⟨x.toArray⟩,aL ⟨D.toArray⟩,.bool E] 53))=u at*
   have k2:=P.out u H.out
   have y:Hid (∀n,Calls zq 227 #[ptr (aA b)] (u.drewN n) λe w'=>e=aM (.bool _)/\w'=u.drewN n):=λn=>O.out _ (j.out _ n H.out)
   clear O P
   go_quiet ((go_at_call 227;exact zGx (y.out _)))
   clear y k2 e0
   have f:=j.out u nq H.out
   generalize u.drewN nq=V at*
   have l:=hid f
   clear f H j
   go_wp2_with fail
   refine(U.out V l.out).mono ?_
   rintro e w2 ⟨z,X,rfl,c,M⟩
   have Q:=hid M
   have r:=hid c
   clear c M U l
   go_wp2_with fail
   refine(T.out w2 r.out).mono ?_
   rintro e w3 ⟨rfl,a⟩
   have C:Hid (zb w w3.drew):=s.out _ a
   clear a T r s
   go_upto_region 10 with(fail)
   go_region_with (first
    |(go_at_call_of 223 z;refine(HZ.out _ _ Q.out _ C.out).mono ?_;rintro e w4 ⟨p0,rfl,m1⟩;dsimp only)
    |(go_at_call_of 223 X;refine(HO.out _ _ Q.out _ _ m1).mono ?_;rintro e w5 ⟨A,rfl,m2⟩;dsimp only)
    |(go_at_call 232;refine(HJ.out _ _ _ m2).mono ?_;rintro e w6 ⟨p2,rfl,I⟩;dsimp only))
   all_goals go_wp2
   all_goals first|exact I|(go_ret;exact I)
end
section
variable {k t:Nat}{x0 x1 x2 x3 x4:zY}
def Ln {S p us cs u d c w}(h:jY k t S p us (u::cs) d x0 x1 x2 x3 x4 c w)(i:∀v,u::cs=[v]->us≠[]/\∀x,us=[x]->x.idx≠v.idx):Dl w p (u::cs).length u.idx:=by
 cases cs with
 |cons v cs=>exact aH (by simp)
 |nil=>
  obtain⟨l,j⟩:=i u rfl;refine aI ⟨rfl,?_⟩;cases h.rep with
  |nil=>exact absurd rfl l
  |leaf a=>exact⟨_,_,_,_,_,_,_,rfl,a,aI ⟨rfl,rfl,j _ rfl⟩⟩
  | @node b _ _ z o m g2 _ a f g=>
   refine⟨_,_,_,_,_,_,_,rfl,a,aH ?_⟩;have hl:=nZ us d;have e:=f.iB;have n:=g.iB;cases z with
   |some _=>rfl
   |none=>
    cases o with
    |some _=>rfl
    |none=>rw[e.1 rfl,n.1 rfl]at hl;simp at hl;omega
def Mr:∀(f){d cap us cs p S c w I},256-d=f->d<=256->jY k t S p us cs d x0 x1 x2 x3 x4 c w->eV w I cs->(∀a,I=aA a->a.block≠t)->cs.length<=1000000->cs.length<=cap->
  Calls zq 223 #[aO (aA ⟨t,0,aB⟩),ptr p,aC aD d,aK I cs.length cap] w (Grown k t S us cs d x0 x1 x2 x3 x4 c w):=by
 intro f;induction f with
 |zero=>
  intro d cap us cs p S c w I hf hd h y T hl l;match cs,h,y,hl,l with
  |[],h,_,_,_=>exact TU h
  |u::cs,h,y,_,_=>
   by_cases j:cs=[]/\(us=[]\/∃x,us=[x]/\x.idx=u.idx);{obtain⟨rfl,hu⟩:=j;exact TT h hu y}
   .exfalso;have:=h.deep hd (by simp) λv e=>by
     injection e with H O;subst H;exact⟨λe=>j ⟨O,aH e⟩,λx ex C=>j ⟨O,aI ⟨x,ex,C⟩⟩⟩
    omega
 |succ f ih=>
  intro d cap us cs p S c w I hf hd h y T hl l;match cs,h,y,hl,l with
  |[],h,_,_,_=>exact TU h
  |u::cs,h,y,hl,l=>
   by_cases j:cs=[]/\(us=[]\/∃x,us=[x]/\x.idx=u.idx);{obtain⟨rfl,hu⟩:=j;exact TT h hu y}
   .have B:∀v,u::cs=[v]->us≠[]/\∀x,us=[x]->x.idx≠v.idx:=λv e=>by
     injection e with H O;subst H;exact⟨λe=>j ⟨O,aH e⟩,λx ex C=>j ⟨O,aI ⟨x,ex,C⟩⟩⟩
    have U:0<(u::cs).length:=by{simp};have n:=h.deep hd U B;have hN:=Ln h B;obtain⟨g,o,rfl,hg,c0,c1,c2⟩:=UK y;have xe:=T _ rfl;have hSC:Sub (u::cs) d:=⟨h.Wu,λx C=>(h.Wx x C).1,λa ha b hb i hi=>h.bits a (zAi.2 (aI ha)) b (zAi.2 (aI hb)) i hi⟩;obtain⟨m,hcut,e0,H⟩:=hSC.cut;have hmn:=hcut.le;have l0:(bM d 0 (u::cs)).length=m:=by{rw[<-e0,zBe];omega};have l1:(bM d 1 (u::cs)).length=(u::cs).length-m:=by{rw[<-H,zCn]};have s:(((d+1:Nat)):Int)=(d:Int)+1:=by omega
    obtain⟨Q,R,V,r⟩:∃Q R V,(cap=m/\R=0/\V=0/\Q=aA (⟨g,o,aB⟩:Addr))\/(cap≠m/\R=(u::cs).length-m/\V=cap-m/\Q=aA (⟨g,o+m*3,aB⟩:Addr)):=by by_cases e:cap=m;{exact⟨_,_,_,aH ⟨e,rfl,rfl,rfl⟩⟩};{exact⟨_,_,_,aI ⟨e,rfl,rfl,rfl⟩⟩}
    refine Gv (Ha:=λX Y=>∃z o,X=ptr z/\Y=ptr o/\rE k w us d z o/\(∀b,z=aA b->S b)/\∀b,o=aA b->S b) (M1:=λv W=>∃p0,v=ptr p0/\ta k t S us (u::cs) d x0 x1 x2 x3 x4 c w p0 W) (M2:=λv v' W=>∃p0 L,v=ptr p0/\v'=ptr L/\Yo k t S us (u::cs) d x0 x1 x2 x3 x4 c w p0 L W) r n hl hmn l hN hg c0 c1 c2 (λW q=> ?_) (λW q=> ?_) (λX Y F W q=> ?_) (λX Y F v0 W hM=> ?_) (λv0 v1 W hM=> ?_)
    .have F:Hl t w W:=Hl.below q (zAb _);refine(SG (h.rep.hl h.k1 h.k2 F) n h.CC (h.cells.hl F) h.vd).mono λe P A=> ?_;obtain⟨z,Z,D,hw,G,J,K⟩:=A;refine⟨_,_,D,?_,z,Z,rfl,rfl,⟨SA h.cells q G.z J,SA h.cells q G.o K⟩,J,K⟩;obtain rfl|rfl:=hw
     .exact q
     .exact q.drew
    .exact(SF (y.below q (zAb _)) hl (λx C=>(h.Wx x C).1) n hcut).mono λe P A=>⟨A.1,q.trans (A.2.mono q.size)⟩
    .obtain⟨z,Z,rfl,rfl,G,J,K⟩:=F;have hE0:eV W (aA ⟨g,o,aB⟩) (bM d 0 (u::cs)):=by{rw[<-e0];exact(y.below q (zAb _)).part m};have:=ih (cap:=cap) (by omega) (by omega) (Ap h U n q G J) hE0 T (by omega) (by omega);rw[l0,s]at this;refine this.mono λe P A=> ?_;obtain⟨p0,D,E⟩:=Xa h q A;exact⟨_,D,p0,rfl,E⟩
    .obtain⟨z,Z,rfl,rfl,G,J,K⟩:=F;obtain⟨p0,rfl,E⟩:=hM;obtain⟨S0,c0',N,M⟩:=Ie h U n G K E;have wz:Hl t w W:=by obtain⟨_,_,_,_,_,hG,_⟩:=E;exact hG.hl
     have rk:eV W Q (bM d 1 (u::cs)):=by rw[<-H];refine(y.hl wz T).rest m λbT=> ?_;obtain⟨hv,_,_,_⟩|⟨_,_,_,rfl⟩:=r;{omega};{rw[zBf,addr_add]}
     have:=ih (cap:=V) (by omega) (by omega) N rk (λa ha=>by
      obtain⟨_,_,_,rfl⟩|⟨_,_,_,rfl⟩:=r<;>(cases ha;exact xe)) (by omega) (by
      obtain⟨hv,_,rfl,_⟩|⟨_,_,rfl,_⟩:=r<;>omega)
     have hlb:(u::cs).length-m=R:=by obtain⟨hv,rfl,_,_⟩|⟨_,rfl,_,_⟩:=r<;>omega
     rw[l1,hlb,s]at this;refine this.mono λe P A=> ?_;obtain⟨L,D,jh⟩:=M _ _ A;exact⟨_,D,p0,L,rfl,rfl,jh⟩
    .obtain⟨p0,L,rfl,rfl,E⟩:=hM;refine(YZ h U n E).mono λe P A=> ?_;obtain⟨p',D,hG⟩:=A;exact⟨_,D,hG⟩
end
def cI.Xx {w base v l}(h:cI w base v l):∃d c,v=aK d l.length c/\l.length<=c/\eV w d l:=by
 obtain⟨rfl,i⟩|⟨g,cap,cur,rfl,hb,e,h1,o,m,f⟩:=h.2
 .exact⟨aB,0,by rw[i],by omega,λh=>by omega⟩
 .refine⟨aA ⟨g,0,aB⟩,cap,rfl,h1,λ_=>⟨g,0,rfl,(zAa.1 e).1,λj u a=> ?_⟩⟩;rw[zAz,zHb w g j cur 53 (0,0) e];rw[<-f,zCr]at a;split at a
  .rw[<-zBt];exact a
  .cases a
structure Gw (k t b cap n:Nat)(C:zP)(cur:zA)(R x4 c:Int)(NX:List bK)(S:List (List bK))(rows:List (Nat×ByteArray))(lo hi:Nat)(p:Option Nat)(w W:zW):Prop where
 mem:kC k t b cap n C cur R x4 c W
 rep:cR k W p NX 0 lo hi rows
 Cg:∀b,p=aA b->C b
 hl:Hl t w W
 Vw:QC k W cur S
structure Gd (k t b cap n:Nat)(C:zP)(cur:zA)(R x4 c:Int)(NX:List bK)(S:List (List bK))(p:Option Nat)(b0:Nat)(w W:zW):Prop where
 mem:kC k t b cap n C cur R x4 c W
 rep:eO k W p NX 0
 Cg:∀b,p=aA b->C b
 save:dI (iX w t b0) w W
 Vw:QC k W cur S
section
variable {k t b cap n lo hi room:Nat}{C C':zP}{cur:zA}{R x4 c c':Int}{NX last cs:List bK}{S:List (List bK)}{rows:List (Nat×ByteArray)}{p q:Option Nat}{w W W':zW}
def Gw.next (e:1<=k)(d:k<=32)(f:zq.globals.size<t)(h:Gw k t b cap n C cur R x4 c NX S rows lo hi p w W)(a:Hl t W W')(g:cW W' t (aC aD k) (aC aD R) (aL ⟨(dg k [0]).toArray⟩) (aK (aA ⟨b,0,aB⟩) n cap) (aC aD x4) c'):Gw k t b cap n C cur R x4 c' NX S rows lo hi p w W':=
 ⟨h.mem.hl a f g (h.mem.cs.hl a),h.rep.hl e d a,h.Cg,h.hl.trans a,h.Vw.hl e d a⟩
def Gw.below (f:1<=k)(e:k<=32)(d:zq.globals.size<t)(h:Gw k t b cap n C cur R x4 c NX S rows lo hi p w W)(a:zb W W'):Gw k t b cap n C cur R x4 c NX S rows lo hi p w W':=
 h.next f e d (.below a (zAb _)) (h.mem.tr.below a (zAb _))
def Gd.next {d:Nat}(f:1<=k)(e:k<=32)(g:zq.globals.size<t)(h:Gd k t b cap n C cur R x4 c NX S p d w W)(a:Hl t W W')(i:cW W' t (aC aD k) (aC aD R) (aL ⟨(dg k [0]).toArray⟩) (aK (aA ⟨b,0,aB⟩) n cap) (aC aD x4) c'):Gd k t b cap n C cur R x4 c' NX S p d w W':=
 ⟨h.mem.hl a g i (h.mem.cs.hl a),h.rep.hl f e a,h.Cg,h.save.step (b':=d) (.hl a) (aH rfl),h.Vw.hl f e a⟩
def Gd.below {d:Nat}(g:1<=k)(f:k<=32)(e:zq.globals.size<t)(h:Gd k t b cap n C cur R x4 c NX S p d w W)(a:zb W W'):Gd k t b cap n C cur R x4 c NX S p d w W':=
 h.next g f e (.below a (zAb _)) (h.mem.tr.below a (zAb _))
def fg (m:1<=k)(l:k<=32)(H:zq.globals.size<t)(J:kC k t b cap n C cur R x4 c w)(D:QC k w cur S)(L:eO k w q last 0)(M:∀b,q=aA b->C b)(h:CY last)(z:∀u∈cs,u.idx.length=32/\u.val.length<=100)(s:mF cs)(hl:cs.length<=1000)(B: -4611686018427387904<=c)(A:c+kY (bH (bI last cs)) (bH last) 0<=4611686018427387904)
  (I:zb w W) {v} (G:cI W w.heap.size v (jZ last cs)):
  Calls zq 223 #[aO (aA ⟨t,0,aB⟩),ptr q,aC aD 0,v] W λe W'=>∃F p rows C' hi,e=aM F/\F=ptr p/\Gw k t b cap n C' cur R x4 (c+rows.length) (bI last cs) S rows W.heap.size hi p w W'/\rows.length<=kY (bH (bI last cs)) (bH last) 0/\∀x,C x->C' x:=by
 obtain⟨K,P,rfl,y,O⟩:=G.Xx;have f:=J.below I (zAb _) H;have E:Hl t w W:= .below I (zAb _);have d:=Ct cs h.sub.order h.here s;have g:∀u∈jZ last cs,u∈cs:=λu r=>(zBb.1 r).1;have j:jY k t C q last (jZ last cs) 0 (aC aD k) (aC aD R) (aL ⟨(dg k [0]).toArray⟩) (aK (aA ⟨b,0,aB⟩) n cap) (aC aD x4) c W:=
  ⟨m,l,L.hl m l E,h.sub.order,s.filter _,h.here,h.sub.idx,λu r=>z u (g u r),λa _ b _ i hi=>absurd hi (Nat.not_lt_zero _),by rw[d];exact Ns s,f.cs,M,f.tr,B,by rw[d];exact A⟩
 have o:∀a,K=aA a->a.block≠t:=λa N e=>by subst N;have:=G.lt a.block rfl;have:=J.tr.lt;omega
 have hlen:(jZ last cs).length<=cs.length:=zFr ..;refine(Mr 256 rfl (zBs _) j O o (by omega) y).mono ?_;rintro e W' ⟨p,rows,C',rfl,g1,g2,g3,g4,g5⟩;rw[d]at g1 g5;refine⟨_,p,rows,C',W'.heap.size,rfl,rfl,⟨f.hl g2.hl H g4 g2.cs,g1,g3,E.trans g2.hl,(D.hl m l E).hl m l g2.hl⟩,g5,g2.old⟩
def Gw.hold (f:1<=k)(d:k<=32)(a:zq.globals.size<t)(h:Gw k t b cap n C cur R x4 c NX S rows lo hi p w W):Calls zq 222 #[ptr p] W λe W'=>e=aM (ptr p)/\Gw k t b cap n C cur R x4 c NX S rows lo hi p w W':=
 (xO (h.mem.cs.cells h.Cg) h.mem.tr).mono λ_ _ ⟨e,g1,g2,_⟩=>⟨e,h.next f d a g1 g2⟩
def Gd.hold {a:Nat}(g:1<=k)(f:k<=32)(d:zq.globals.size<t)(h:Gd k t b cap n C cur R x4 c NX S p a w W):Calls zq 222 #[ptr p] W λe W'=>e=aM (ptr p)/\Gd k t b cap n C cur R x4 c NX S p a w W':=
 (xO (h.mem.cs.cells h.Cg) h.mem.tr).mono λ_ _ ⟨e,g1,g2,_⟩=>⟨e,h.next g f d g1 g2⟩
def Gw.work (E:1<=k)(D:k<=32)(A:zq.globals.size<t)(l:zq.globals.size<b)(s:CS w C')(j:∀x,C' x->C x)(f:∀x∈cur.toList,oH C' x)(I:w.heap.size<=lo)(G:∀u∈NX,u.idx.length=32/\u.val.length<=100)(m:rows.length<=1000000)(h:Gw k t b cap n C cur R x4 c NX S rows lo hi p w W):
  Calls zq 224 #[aO (aA ⟨t,0,aB⟩),ptr p] W λe W'=>(e=aM (.tuple #[])/\Gd k t b cap n C cur R x4 c NX S p b w W')\/∃ch,e= .panicked ch/\rP k t (Hh t b C) NX ch W'/\Gw k t b cap n C cur R x4 c NX S rows lo hi p w W':=by
 have g:∀x∈cur.toList,oH C x:=λx d=>by obtain⟨p,e,H⟩:=f x d;exact⟨p,e,λb l=>j b (H b l)⟩
 have K:=h.mem.ym E D A l g;refine(QG K h.rep (λb l=>aI (aI (aI (h.Cg b l)))) G m).mono ?_;rintro e W' (⟨rfl,g1,g2⟩|⟨ch,rfl,g1,g2⟩)
 .left;have a:∀x∈rows,∃z o i v B,aY W x.1 z o i v [] B:=λx d=>(h.rep.each.1 x d).2.2;have r:CS W C':=s.hl h.hl;refine⟨rfl,h.mem.Tp g2 A (λx d=>by obtain⟨z,o,i,v,B,J⟩:=a x d;exact⟨z,o,i,v,[],B,J⟩),g1,h.Cg,(dI.hl h.hl).step (b':=b) (.Tp g2 a) (aH rfl),h.Vw.kept r f λx d=>g2.block x (r.cell d).lt λy F e=> ?_⟩;have M:=(h.rep.each.1 y F).1;have L:=(s.cell d).lt;omega
 .exact aI ⟨ch,rfl,g1,h.below E D A g2⟩
def Gw.told {u}(s:1<=k)(r:k<=32)(l:zq.globals.size<t)(B:zq.globals.size<b)(a:∀x∈cur.toList,oH C x)(v:∀u∈NX,u.idx.length=32/\u.val.length<=100)(hl:NX.length<=400)(A: -4611686018427387904<=c-102800)(f:c<=4611686018427387904){ch}(D:rP k t (Hh t b C) NX ch W)(h:Gw k t b cap n C cur R x4 c NX S rows lo hi p w W):
  CallsD zq 219 #[aO (aA ⟨t,0,aB⟩),ptr p] u W λe j W'=>j=u/\e=aM (.tuple #[])/\kU ch W':=by
 obtain⟨m,z,d⟩:=h.rep.TX h.mem.cs h.Cg (zBs _);have y:257*NX.length<=102800:=by omega
 have o:=d;refine(FP z u W _ _ _ _ _ c .refl h.mem.tr (by omega) f).mono ?_;rintro e j W' ⟨rfl,rfl,hH,c',g,_,_⟩;have i:=h.mem.hl hH l g (h.mem.cs.hl hH);exact⟨rfl,rfl,(D.hl s r hH h.mem.tr).ft (i.ym s r l B a) v⟩
def Gd.leave {R:Nat}{s cap u}(r:1<=k)(o:k<=32)(j:zq.globals.size<t)(z:zq.globals.size<b)(a:∀x∈cur.toList,oH C x)(hl:NX.length<=400)(F:S.length<1000)(G:S.length+1<=cap)(B:cap<=maxLen)(A:cur.size=cap)(H:c+room<=R)(d3:R<=1000000)(d4: -(1000000*((R)-room))+102800<=c)(st:∀us∈S++[NX],CY us/\us.length<=400)(h:Gd k t b cap (S.length+1) C cur R NX.length c NX (S++[NX]) p s w W):
  CallsD zq 219 #[aO (aA ⟨t,0,aB⟩),ptr p] u W λe i W'=>i=u/\e=aM (.tuple #[])/\cS W' t k room b cap (S++[NX])/\dI (iX w t s) w W':=by
 obtain⟨m,y,d⟩:=h.rep.TX h.mem.cs h.Cg (zBs _);have v:257*NX.length<=102800:=by omega
 have l:=d;refine(FP y u W _ _ _ _ _ c .refl h.mem.tr (by omega) (by omega)).mono ?_;rintro e i W' ⟨rfl,rfl,hH,c',f,E,D⟩;have g:=h.next r o j hH f;have hlen:(S++[NX]).length=S.length+1:=by rw[zAc];rfl
 refine⟨rfl,rfl,kC.uX (c:=c') ?_ a g.Vw (by omega) B A (by omega) d3 (by omega) r o j z st (by omega) (by omega),g.save⟩;rw[FT,hlen];exact g.mem
end
section
variable {w:zW}{k:Nat}{p:Option Nat}{us cs:List bK}
def Nr (us cs:List bK)(t)(h:t<cs.length):jZ us (cs.take (t+1))=jZ us (cs.take t)++(if pN us cs[t]then [cs[t]]else []):=by
 unfold jZ;rw[zDp h,zDb];congr 1;cases e:pN us cs[t]with
 |true=>rw[zAy e];rfl
 |false=>rw[zAp (by rw[e];exact aFq)];rfl
def Gg (us cs:List bK)(t)(h:t<cs.length):fG us (cs.take (t+1))=fG us (cs.take t)+iR us cs[t]:=by unfold fG;rw[zDp h,zEo,List.sum_append];simp
def Lq (us)(u): -1<=iR us u/\iR us u<=1:=by unfold iR;cases eT (bH us) u.idx<;>cases u.gone<;>simp
def SZ (us:List bK):∀cs:List bK,-(cs.length:Int)<=fG us cs/\fG us cs<=cs.length
 |[]=>by simp[fG]
 |u::cs=>by have a:=SZ us cs;have h:=Lq us u;have e:fG us (u::cs)=iR us u+fG us cs:=rfl;rw[e,zAf];omega
def Hb (n:mF us){I e}(h:Au w us I e):(e=aM (ptr aB)/\eT (bH us) I=aB)\/∃b i v g a,e=aM (ptr (aA b))/\aY w b aB aB i v g a/\eT (bH us) I=aA v:=by
 obtain⟨u,b,g,a,j,hi,c,m⟩|⟨c,l⟩:=h
 .exact aI ⟨b,_,_,g,a,c,m,xS (zDj.2 n) (by rw[<-hi];exact zCi.2 ⟨u,j,rfl⟩)⟩
 .refine aH ⟨c,fN λx f=> ?_⟩;obtain⟨y,d,rfl⟩:=zCi.1 f;exact l y d
end
section
variable {w:zW}{k:Nat}{p:Option Nat}{us cs:List bK}
def JK {Z cap}(h:eO k w p us 0)(X:1<=k)(V:k<=32)(hU:mF us)(hE:eV w Z cs)(hi:∀u∈cs,u.idx.length=32)(hl:cs.length<=1000):
  Calls zq 221 #[ptr p,aK Z cs.length cap] w λe B=>∃v,e=aM (.tuple #[v,aC aD (fG us cs)])/\cI B w.heap.size v (jZ us cs)/\zb w B:=by
 have HE:=hid hE;have HF:Hid (∀u∈cs,∀W,zb w W->Calls zq 228 #[ptr p,aL ⟨u.idx.toArray⟩] W λe B=>B=W/\((e=aM (ptr aB)/\eT (bH us) u.idx=aB)\/∃b v,e=aM (ptr (aA b))/\W.cell? ⟨b,3,aB⟩=aA (aL ⟨v.toArray⟩)/\eT (bH us) u.idx=aA v)):=λu N W hW=>by refine(He (h.keep X V λb z o i v g hs _ hc=>⟨hs,⟨by rw[hW.block b hc.lt];exact hc.at'⟩⟩) (hi u N)).mono λe B h'=>⟨h'.1,?_⟩;obtain⟨Q,C⟩|⟨b,i,v,g,hs,Q,C,h3⟩:=Hb hU h'.2;{exact aH ⟨Q,C⟩};{exact aI ⟨b,v,Q,C.c3,h3⟩}
 have HL:Hid (∀t,-(1000:Int)<=fG us (cs.take t)/\fG us (cs.take t)<=1000):=λt=>by have:=SZ us (cs.take t);have C:(cs.take t).length<=cs.length:=by{rw[zBe];omega};omega
 obtain⟨n,U⟩:∃n,n=cs.length:=⟨_,rfl⟩;have S:=hid U;have HT:Hid (fG us (cs.take cs.length)=fG us cs/\jZ us (cs.take cs.length)=jZ us cs):=by rw[List.take_length];exact⟨rfl,rfl⟩
 rw[<-U]at hl⊢;clear U hE hi h hU;go_enter (Qz.fn func221),ntmps221;go_wp2;go_loopg [6,7,13] n (λq x y i wr=>∃t:Nat,t+q=n/\i=aC aD (t:Int)/\y=aC aD (fG us (cs.take t))/\zb w wr/\cI wr w.heap.size x (jZ us (cs.take t)));case atStart=>exact⟨0,by omega,rfl,rfl,zGm _ _,cI.nil _ _⟩
 case round=>
  obtain⟨t,ht,rfl,rfl,b2,o2⟩:=hrel
  have K:=hid b2
  have R:=hid o2
  by_cases bT:t<n
  .have r:t<cs.length:=by have:=S.out;omega
   have N:=zAh r;have c:=hid (Nr us cs t r);have H:=hid (Gg us cs t r);have J:=HF.out cs[t] (zDh _);have E:(jZ us (cs.take t)).length<=1000000:=by have Q:=zFr (pN us) (cs.take t);have C:(cs.take t).length<=cs.length:=by{rw[zBe];omega};have h3:=S.out;show(List.filter _ _).length<=_;omega
   have HM0:=HL.out t;generalize cs[t]=u at*;obtain⟨d,f,I⟩:=u;dsimp only at*;generalize fG us (cs.take t)=M at*;generalize jZ us (cs.take t)=L at*;have Y:=hid J;obtain⟨g,o,rfl,hg,c0,c1,c2⟩:=(HE.out.below K.out (zAb _)).idx t _ N;have Mm:¬((t:Int)<0):=by{omega};have Ze:(t:Int)<(n:Int):=by{omega};clear J HF N HL;have hw1:wrap64 (M+1)=M+1:=by{unfold wrap64;omega};have hw2:wrap64 (M-1)=M-1:=by{unfold wrap64;omega};go_upto_region 6 with(fail)
   have P:=zGv wr (aJ #[aL ⟨d.toArray⟩,aL ⟨f.toArray⟩,.bool I] 53);have G:Hid (zb w (wr.alloc (aJ #[aL ⟨d.toArray⟩,aL ⟨f.toArray⟩,.bool I] 53))):=K.out.alloc K.out.size _;have O:Hid (cI (wr.alloc (aJ #[aL ⟨d.toArray⟩,aL ⟨f.toArray⟩,.bool I] 53)) w.heap.size u6 L):=R.out.alloc _;have e0:=(bC P 0).trans rfl;have e1:=(bC P 1).trans rfl;have e2:=(bC P 2).trans rfl;clear P K R c0 c1 c2;generalize(wr.alloc (aJ #[aL ⟨d.toArray⟩,aL ⟨f.toArray⟩,.bool I] 53))=wa at*;have m:=G.out.size;have F:Hid (∀W n,zb w W->zb w (W.drewN n)):=λW n h=>⟨h.os,h.tape,h.output,h.size,h.block⟩;go_wp2_with fail;refine(Y.out wa G.out).mono ?_;rintro e w2 ⟨rfl,⟨rfl,a⟩|⟨b,v,rfl,k3,a⟩⟩
   .cases I with
    |true=>
     have A:Hid (fG us (cs.take (t+1))=M):=by{have:=H.out;rw[show iR us ⟨d,f,aF⟩=0 by unfold iR;dsimp only;rw[a];rfl]at this;exact this.trans (by omega)};have j:Hid (jZ us (cs.take (t+1))=L):=by{have:=c.out;rw[show pN us ⟨d,f,aF⟩=aG by unfold pN;dsimp only;rw[a];rfl]at this;exact this.trans (by simp)};clear c H a;go_upto_region 11 with(fail)
     go_quiet (fail);go_wp2;go_roundg (n-(t+1));case measure=>omega
     case rel=>
      go_light
      exact⟨t+1,by omega,by go_num,by rw[A.out],F.out _ _ G.out,by rw[j.out];exact cI.kept O.out λ_ _=>rfl⟩
    |false=>
     have A:Hid (fG us (cs.take (t+1))=M+1):=by{have:=H.out;rw[show iR us ⟨d,f,aG⟩=1 by unfold iR;dsimp only;rw[a];rfl]at this;exact this};have j:Hid (jZ us (cs.take (t+1))=L++[⟨d,f,aG⟩]):=by{have:=c.out;rw[show pN us ⟨d,f,aG⟩=aF by unfold pN;dsimp only;rw[a];rfl]at this;exact this};clear c H a;go_wp2_with (first|(at_builtin;refine jP rfl _ _ rfl w.heap.size _ _ rfl O.out ⟨d,f,aG⟩ 1 rfl E m ?_;intro g' D B l s));go_roundg (n-(t+1));case measure=>omega
     case rel=>
      go_light
      exact⟨t+1,by omega,by go_num,by rw[A.out],eL G.out O.out s (zAb _) m,by rw[j.out];exact l⟩
   .cases I with
    |true=>
     have A:Hid (fG us (cs.take (t+1))=M-1):=by{have:=H.out;rw[show iR us ⟨d,f,aF⟩= -1 by unfold iR;dsimp only;rw[a];rfl]at this;exact this.trans (by omega)};have j:Hid (jZ us (cs.take (t+1))=L++[⟨d,f,aF⟩]):=by{have:=c.out;rw[show pN us ⟨d,f,aF⟩=aF by unfold pN;dsimp only;rw[a];rfl]at this;exact this.trans (by simp)};clear c H a;go_wp2_with (first|(at_builtin;refine jP rfl _ _ rfl w.heap.size _ _ rfl O.out ⟨d,f,aF⟩ 1 rfl E m ?_;intro g' D B l s));go_roundg (n-(t+1));case measure=>omega
     case rel=>
      go_light
      exact⟨t+1,by omega,by go_num,by rw[A.out],eL G.out O.out s (zAb _) m,by rw[j.out];exact l⟩
    |false=>
     by_cases T:v=f
     .subst T;have A:Hid (fG us (cs.take (t+1))=M):=by{have:=H.out;rw[show iR us ⟨d,v,aG⟩=0 by unfold iR;dsimp only;rw[a];rfl]at this;exact this.trans (by omega)};have j:Hid (jZ us (cs.take (t+1))=L):=by{have:=c.out;rw[show pN us ⟨d,v,aG⟩=aG by unfold pN;dsimp only;rw[a];simp]at this;exact this.trans (by simp)};clear c H a;go_upto_region 11 with(fail)
      go_quiet (fail);go_wp2;go_roundg (n-(t+1));case measure=>omega
      case rel=>
       go_light
       exact⟨t+1,by omega,by go_num,by rw[A.out],F.out _ _ G.out,by rw[j.out];exact cI.kept O.out λ_ _=>rfl⟩
     .have Za:=zDd.2 T;have A:Hid (fG us (cs.take (t+1))=M):=by{have:=H.out;rw[show iR us ⟨d,f,aG⟩=0 by unfold iR;dsimp only;rw[a];rfl]at this;exact this.trans (by omega)};have j:Hid (jZ us (cs.take (t+1))=L++[⟨d,f,aG⟩]):=by{have:=c.out;rw[show pN us ⟨d,f,aG⟩=aF by unfold pN;dsimp only;rw[a];simpa using T]at this;exact this.trans (by simp)};clear c H a;go_upto_region 11 with(fail)
      go_quiet (fail);go_wp2_with (first|(at_builtin;refine jP rfl _ _ rfl w.heap.size _ _ rfl (cI.kept O.out λ_ _=>rfl) ⟨d,f,aG⟩ 1 rfl E m ?_;intro g' D B l s));go_roundg (n-(t+1));case measure=>omega
      case rel=>
       go_light
       exact⟨t+1,by omega,by go_num,by rw[A.out],eL (F.out _ _ G.out) (cI.kept O.out λ_ _=>rfl) s (zAb _) m,by rw[j.out];exact l⟩
  .have Yz:¬(t:Int)<(n:Int):=by{omega};obtain rfl:t=n:=by{omega};have e1:fG us (cs.take t)=fG us cs:=by{have:=HT.out.1;rw[<-S.out]at this;exact this};have O3:Hid (cI wr w.heap.size u6 (jZ us cs)):=by{have:=HT.out.2;rw[<-S.out]at this;have C:=R.out;rw[this]at C;exact C};rw[e1];clear R;go_wp2;go_ret2;exact⟨_,rfl,O3.out,K.out⟩
end
def cI.lower {w base a v l}(h:cI w base v l)(d:a<=base):cI w a v l:=by
 refine⟨h.1,?_⟩;obtain h|⟨g,c,cur,e,h1,r⟩:=h.2
 .exact aH h
 .exact aI ⟨g,c,cur,e,zBc d h1,r⟩
section
variable {w:zW}{t k room nw b cap:Nat}
def Lo (last cs)(vc)(cc)(S0)(h:cS w t k (room+nw+1) b cap (S0++[last]))(hl:(S0++[last]).length<1000)(hE:eV w vc cs)(m:∀u∈cs,u.idx.length=32/\u.val.length<=100)(ho:mF cs)(xc:cs.length<=1000)(h4:(bI last cs).length<=400)(hnw:kY (bH (bI last cs)) (bH last) 0<=nw):
  Calls zq 215 #[aO (aA ⟨t,0,aB⟩),aK vc cs.length cc] w (RF λx X=>x=aC aD 0/\∃D a,cS X t k room D a (S0++[last]++[bI last cs])/\(D=b\/w.heap.size<=D)/\dI (iX w t b) w X):=by
 obtain⟨C,j,R,c,hM,P,Z,g1,g2,g3,g4,g5,g6⟩:=h.mem;have L:(S0++[last])[S0.length]? =aA last:=by rw[zBh (zAb _),zFq];rfl
 have z:=h.st last (by simp);obtain⟨p,om,hr⟩:=Z S0.length last L;have hp:=NV P om;have Q:=h.k1;have O:=h.k2;have J:=h.vW;have hb:=h.IA;have hn:(S0++[last]).length=S0.length+1:=by rw[zAc];rfl
 have wv:oT (S0++[last])=last:=FT _ _;rw[wv]at hM;have Xn:=z.1.cP m;have r:=SY cs z.1.sub.order ho;have td:Hid (∀us∈S0++[last]++[bI last cs],CY us/\us.length<=400):=λus V=>by obtain V|V:=zAi.1 V;{exact h.st us V};{rw[zAs.1 V];exact⟨Xn,h4⟩}
 have tc:Hid (∀u∈bI last cs,u.idx.length=32/\u.val.length<=100):=λu V=>⟨Xn.sub.idx u V,Xn.val u V⟩;have hrR:(R:Int)<=1000000:=by omega
 have HF:Hid (∀W,zb w W->Calls zq 221 #[ptr p,aK vc cs.length cc] W λe X=>∃v,e=aM (.tuple #[v,aC aD (fG last cs)])/\cI X w.heap.size v (jZ last cs)/\zb w X):=λW hW=>
  (JK (hr.hl Q O (.below (t:=t) hW (zAb _))) Q O z.1.sub.order (hE.below hW (zAb _)) (λu V=>(m u V).1) xc).mono λe X ⟨v,e1,e2,e3⟩=>⟨v,e1,e2.lower hW.size,hW.trans (e3.mono hW.size)⟩
 have HG:Hid (∀W v,zb w W->cI W w.heap.size v (jZ last cs)->Calls zq 223 #[aO (aA ⟨t,0,aB⟩),ptr p,aC aD 0,v] W λe W'=>∃v' y rows B hi,e=aM v'/\v'=ptr y/\Gw k t b cap (S0++[last]).length B j R last.length (c+rows.length) (bI last cs) (S0++[last]) rows W.heap.size hi y w W'/\rows.length<=kY (bH (bI last cs)) (bH last) 0/\∀x,C x->B x):=λW v hW hv=>
  fg Q O J hM Z hr hp z.1 m ho xc (by omega) (by omega) hW hv
 have HM:=hid hM;have U:=hid P;have c3:w.cell? ⟨t,3,aB⟩=aA (aK (aA ⟨b,0,aB⟩) (S0.length+1) cap):=by rw[<-hn];exact(bC hM.tr 3).trans rfl
 have d1:w.cell? ⟨b,S0.length,aB⟩=aA (ptr p):=by rw[bC hM.rZ];exact om
 have ny:=hM.tr.lt;have ee:=h.blt;obtain⟨N,ez⟩:∃N,N=bI last cs:=⟨_,rfl⟩;obtain⟨S,xu⟩:∃S,S=S0++[last]:=⟨_,rfl⟩;rw[<-ez]at h4 r td tc HG hnw⊢;rw[<-xu]at HM HG Z hn hl td g1⊢;obtain⟨vp,nk⟩:∃vp,vp=ptr p:=⟨_,rfl⟩;rw[<-nk]at HF HG d1;have ji:=z.2;generalize hMU:fG last cs=M at HF r;generalize hEF:jZ last cs=EF at HF HG;clear hE m ho Xn z hM P Z hr hp om L wv h ez xu nk hMU hEF;have wj:S0.length+1<1000:=by omega
 generalize S0.length=E at*;generalize aA8:last.length=F at*;generalize cs.length=nc at*;have Mm:¬((E:Int)<0):=by omega
 have Ze:(E:Int)<(E:Int)+1:=by omega
 have yc:IntKind.i64.wrap ((F:Int)+M)=(N.length:Int):=by rw[zGq];omega
 have hM2:wrap64 ((F:Int)+M)=(N.length:Int):=by unfold wrap64;omega
 have hM3:¬((2000:Int)<(N.length:Int)):=by omega
 go_enter_defers (Qz.fn func215),ntmps215;go_upto_region 1 with(fail)
 have q0:=dU c3 ny;have q1:=dU d1 ee;refine zHe (by kernel_rfl) (by kernel_rfl) ?_;repeat (any_goals(first|go_big_quiet_step (fail)|quiet_step (fail)))
 refine wpQuiet_nil ?_;intro w1 ni;obtain⟨q,hq⟩:=ni;have B1:Hid (zb w w1):=by rw[hq];exact zGt w q.d q.os
 clear hq q0 q1 c3 d1;go_wp2_with fail;refine(HF.out w1 B1.out).mono ?_;rintro e w2 ⟨v2,rfl,xx,Qf⟩;have O2:=hid xx;have B2:=hid Qf;clear xx Qf HF B1;have c4:w2.cell? ⟨t,4,aB⟩=aA (aC aD F):=by rw[B2.out.cell ny];exact(bC HM.out.tr 4).trans rfl
 go_wp2_with fail;refine(HG.out w2 v2 B2.out O2.out).mono ?_;rintro e w3 ⟨v3,y,rows,B,hi,rfl,vh,jm,vt,Ml⟩;have zn:=hid jm;have gq:=hid Ml;have H:=hid vh;have HH:Calls zq 222 #[v3] w3 λe W'=>e=aM v3/\Gw k t b cap S.length B j R F (c+rows.length) N S rows w2.heap.size hi y w W':=by rw[H.out];exact zn.out.hold Q O J
 have nh:=B2.out.size;clear jm Ml vh c4 HG O2 B2;go_wp2_with fail;refine HH.mono ?_;clear HH zn;rintro e w4 ⟨rfl,dk⟩;have A:=hid dk;clear dk;go_upto_region 7 with(fail)
 have hle:¬((R:Int)<c+(rows.length:Int)):=by omega
 have q5:=dU A.out.mem.tr.c5 A.out.mem.tr.lt;have q6:=dU ((bC A.out.mem.tr 1).trans (rfl:_=aA (Value.int aD R))) A.out.mem.tr.lt;refine zHe (by kernel_rfl) (by kernel_rfl) ?_;repeat (any_goals(first|go_big_quiet_step (fail)|quiet_step (fail)))
 refine wpQuiet_nil ?_;intro w5 ni;obtain⟨q,hq⟩:=ni;have zm:Hid (Gw k t b cap S.length B j R F (c+rows.length) N S rows w2.heap.size hi y w w5):=A.out.below Q O J (by rw[hq];exact zGt w4 q.d q.os);clear hq q5 q6 A;have HW:Calls zq 224 #[aO (aA ⟨t,0,aB⟩),v3] w5 λe W'=>(e=aM (.tuple #[])/\Gd k t b cap S.length B j R F (c+rows.length) N S y b w W')\/∃ch,e= .panicked ch/\rP k t (Hh t b B) N ch W'/\Gw k t b cap S.length B j R F (c+rows.length) N S rows w2.heap.size hi y w W':=by rw[H.out];exact zm.out.work Q O J hb HM.out.cs gq.out U.out nh tc.out (by omega)
 have s:Hid (∀x∈j.toList,oH B x):=λx Y=>by obtain⟨p,e,hp⟩:=U.out x Y;exact⟨p,e,λb hb=>gq.out b (hp b hb)⟩
 clear zm U HM;go_wp2_with fail;refine HW.mono ?_;clear HW;rintro e w6 (⟨rfl,xg⟩|⟨ch,rfl,I,qd⟩);rotate_left
 .refine leaves_cons (f:=219) (args:= #[aO (aA ⟨t,0,aB⟩),v3]) (by simp) (by simp[go_sem]) ?_;rw[H.out];refine(qd.told Q O J hb s.out tc.out h4 (by omega) (by omega) I).mono ?_;rintro e u' w7 ⟨rfl,rfl,he⟩;show Leaves _ _ _ _ [] (settle (.panicking ch)) w7;rw[I.settle];exact .told he
 have tq:=hid xg;clear xg;have zc:Hid (Calls zq 222 #[v3] w6.drew λe W'=>e=aM v3/\Gd k t b cap S.length B j R F (c+rows.length) N S y b w W'):=by rw[H.out];exact(tq.out.below Q O J (lG (zGm _ w6))).hold Q O J
 have p3:w6.cell? ⟨t,3,aB⟩=aA (aK (aA ⟨b,0,aB⟩) (E+1) cap):=by rw[<-hn];exact(bC tq.out.mem.tr 3).trans rfl
 clear tq;go_upto_region 10 with(fail)
 have HS:=p3;refine wp_region_noPanic ?_;refine AnyX.lM (λX=>X.cell? ⟨t,3,aB⟩=aA (aK (aA ⟨b,0,aB⟩) (E+1) cap)) (λi=>i==8) (by kernel_rfl) ?_;refine AnyX.AU (i:=0) (v:=aO (aA ⟨t,0,aB⟩)) rfl (by kernel_rfl) (λ_ _ _ h=>h) (aH ⟨by rfl,λW=>by go_simp⟩) HS ?_;simp only[Act.put];refine AnyX.tk 1 (aO (aA ⟨t,0,aB⟩)) HS ?_;simp only[Act.put];refine AnyX.tk 2 (aO (aA ⟨t,0,aB⟩)) HS ?_;simp only[Act.put];refine AnyX.tk 3 (aO (aA ⟨t,3,aB⟩)) HS ?_;simp only[Act.put];refine AnyX.tk 4 (aK (aA ⟨b,0,aB⟩) (E+1) cap) HS ?_;simp only[Act.put];refine AnyX.tk 5 (v3) HS ?_;simp only[Act.put];refine AnyX.cA (i:=6) (by kernel_rfl) rfl (λK o=> ?_);go_simp;refine zc.out.mono ?_;rintro e w7 ⟨rfl,dp⟩;have ki:=hid dp;have p7:w7.cell? ⟨t,3,aB⟩=aA (aK (aA ⟨b,0,aB⟩) (E+1) cap):=by rw[<-hn];exact(bC ki.out.mem.tr 3).trans rfl
 have nu:=ki.out.mem.tr.lt;clear dp;refine o.out _ _ (λ_=>p7) ?_;clear o K HS zc;obtain⟨vq,hvq⟩:∃vq,v3= .pointer vq:=by
  rw[H.out];cases y with
  |none=>exact⟨_,rfl⟩
  |some x=>exact⟨_,rfl⟩
 subst hvq;refine AnyX.cA (i:=7) (by kernel_rfl) rfl (λK o=> ?_);go_simp;refine o.out _ _ (λ_=>by rw[World.cell?_alloc_lt _ _ _ nu];exact p7) ?_;clear o K;have G:Hid (Gd k t b cap S.length B j R F (c+rows.length) N S y b w (w7.alloc (aJ #[.pointer vq] 264))):=ki.out.below Q O J ((zGm _ _).alloc (zAb _) _);obtain⟨D,a,W8,fw,vu,qe,qm,t1,t2,t3,t4,t5,t6⟩:=Dv (n:=E+1) (p:=y) G.out.mem.rZ (by rw[<-hn];exact g1) g2 g3 s.out (by omega) G.out.Cg (vb:=w7.heap.size) (by rw[<-H.out];exact zGv w7 _);refine AnyX.cA (i:=8) (by kernel_rfl) rfl (λK o=> ?_);refine jE rfl _ _ 166 166 rfl _ _ rfl rfl (vu _) ?_;refine o.out _ _ (λh=>AnyX.iA h (by kernel_rfl)) ?_;clear o K;have qy:=(qe.block t G.out.mem.tr.lt (λe=>by have e':=zAk e;have h2:=G.out.mem.tr;have h3:=G.out.mem.rZ;unfold cW at h2;rw[<-e',h2]at h3;injection h3 with h3;injection h3 with _ h4;revert h4;decide)).trans G.out.mem.tr
 have a3:W8.cell? ⟨t,3,aB⟩=aA (aK (aA ⟨b,0,aB⟩) S.length cap):=(bC qy 3).trans rfl;have z3:W8.frozen? ⟨t,3,aB⟩=aG:=cT qy 3;clear qy;refine AnyX.cA (i:=9) (by kernel_rfl) rfl (λK o=> ?_);simp only[Act.put,zBo,zDa,zCq];go_simp;refine o.out _ _ (λh=>AnyX.iA h (by kernel_rfl)) ?_;clear o K;refine AnyX.cA (i:=10) (by kernel_rfl) rfl (λK o=> ?_);go_simp;refine o.out _ _ (λh=>AnyX.iA h (by kernel_rfl)) ?_;clear o K;refine AnyX.cA (i:=11) (by kernel_rfl) rfl (λK o=> ?_);go_simp;refine o.out _ _ (λh=>AnyX.iA h (by kernel_rfl)) ?_;clear o K;refine AnyX.lO (by kernel_rfl) ?_ _;simp only[NoPanic];have zk:Hid (D=b\/w.heap.size<=D):=qm.imp id λe=>by rw[e];exact G.out.save.size
 have qj:zq.globals.size<D:=by obtain e|e:=qm;{rw[e];exact hb};{rw[e];have:=G.out.mem.tr.lt;omega}
 obtain⟨yb,l,cq⟩:=G.out.mem.vC (cap':=a) (n':=E+1+1) J hb qe t1;have g:Hid (Gd k t D a (S.length+1) B fw R F (c+rows.length) N (S++[N]) y b w (W8.setCell ⟨t,3,aB⟩ (aK (aA ⟨D,0,aB⟩) (E+1+1) a))):=by have cw:=G.out.rep.kept G.out.mem.cs G.out.Cg λx Y=>l x (G.out.mem.cs.cell Y);refine⟨by rw[hn];exact yb,cw,G.out.Cg,G.out.save.step cq (aH rfl),Jm (p:=y) (cur:=j) (G.out.Vw.kept G.out.mem.cs s.out λx Y=>l x (G.out.mem.cs.cell Y)) (by omega) (by rw[hn];exact t6) cw⟩
 generalize W8.setCell ⟨t,3,aB⟩ (aK (aA ⟨D,0,aB⟩) (E+1+1) a)=w9 at*;have T:=hid t5;clear vu qe qm t1 t5 t6 yb l cq a3 z3 G ki p7 p3;have c4:w9.cell? ⟨t,4,aB⟩=aA (aC aD F):=(bC g.out.mem.tr 4).trans rfl;have f4:w9.frozen? ⟨t,4,aB⟩=aG:=cT g.out.mem.tr 4;have aAI:=g.out.mem.tr.lt;obtain⟨ya,m,vl⟩:=g.out.mem.sized J (N.length:Int);have GDE:Hid (Gd k t D a (S.length+1) B fw R N.length (c+rows.length) N (S++[N]) y b w (w9.setCell ⟨t,4,aB⟩ (aC aD (N.length:Int)))):=⟨ya,g.out.rep.kept g.out.mem.cs g.out.Cg λx Y=>m x (g.out.mem.cs.cell Y),g.out.Cg,g.out.save.step vl zk.out,g.out.Vw.kept g.out.mem.cs T.out λx Y=>m x (g.out.mem.cs.cell Y)⟩;clear ya m vl g;go_wp2;refine leaves_cons (f:=219) (args:= #[aO (aA ⟨t,0,aB⟩),.pointer vq]) (by simp) (by simp[go_sem]) ?_;rw[H.out,<-r];refine(GDE.out.leave (room:=room) Q O J qj T.out h4 (by omega) (by omega) t3 t4 (by omega) (by omega) (by omega) td.out).mono ?_;rintro e u' X ⟨rfl,rfl,hE,hSv⟩;exact⟨_,results_tmp rfl _ _ _,.of ⟨rfl,D,a,hE,zk.out,hSv⟩⟩
end
def IF (k first n:Nat)(N:List bK)(H:zLL)(a:zB):Prop:=∃h,H[n-1]? =aA h/\a=dg k (3::(h++eight (first+n)++kQ k (bH N) 0))
section
variable {w:zW}{d k win first hb dG t room b cap:Nat}{S:List (List bK)}{H:zLL}
def ML (S0:List (List bK))(last us:List bK)(v:zY)(base:Nat){nw:Nat}(h:cH w d k win first hb dG t (room+1+nw+1) b cap (S0++[last]) H)(hU:cI w base v us)(ju:us.length<=200)(Q:∀u∈us,u.idx.length=32/\u.val.length<=100/\(u.gone=aF->u.val=[]))
  (hl:(S0++[last]).length<1000) (h4:(bI last (cF us)).length<=400) (J:kY (bH (bI last (cF us))) (bH last) 0<=nw) (hfi:first+2<=1000000) (cm:1<=win) (aAw:win<=1000):
  Calls zq 19 #[aO (aA ⟨d,0,aB⟩),v] w (RF λx r=>x= .tuple #[aC aD ((first:Int)+((S0++[last]).length:Int)),aC aD 0]/\∃j f C q A,IF k first (S0++[last]).length (bI last (cF us)) H A/\cH r d k win (if win<(S0++[last]).length+1 then first+1 else first) j f t room C q (if win<(S0++[last]).length+1 then(S0++[last]++[bI last (cF us)]).drop 1 else S0++[last]++[bI last (cF us)]) (if win<(S0++[last]).length+1 then(H++[A]).drop 1 else H++[A])/\(j=hb\/w.heap.size<=j)/\(C=b\/w.heap.size<=C)/\dI (kM w d hb t b) w r):=by
 have Z:us.all CC=aF:=zCa.2 λu hu=>by obtain⟨h1,h2,h3⟩:=Q u hu;unfold CC;cases hg:u.gone;{simp[h1,h2]};{simp[h1,h2,h3 hg]}
 obtain⟨n1,n2,n3,n4,n5⟩:=h.ne;have tg:=TP v us w (by omega) hU.lg (λu hu=>by have:=Q u hu;omega);rw[Z]at tg;have yp:Hid (∀W,zb w W->Calls zq 39 #[v] W λe r=>∃v',e=aM v'/\cI r W.heap.size v' (cF us)/\zb W r):=λW hW=>NL (hU.below hW (zAb _)) (by omega);have vm:∀u∈cF us,u.idx.length=32/\u.val.length<=100:=λu hu=>by have:=Q u (mL hu);exact⟨this.1,this.2.1⟩
 have hsl:(cF us).length<=1000:=by have:=NM us;omega
 have HE:Hid (cH w d k win first hb dG t (room+1+nw+1) b cap (S0++[last]) H):=h;have tf:Hid (mF (cF us)):=EN us;have HSM:Hid (∀u∈cF us,u.idx.length=32/\u.val.length<=100):=vm;have gr:Hid (kY (bH (bI last (cF us))) (bH last) 0<=nw):=J;have mN:∀W,(method (zq.types.size+100) 146 (aO (aA ⟨t,0,aB⟩)) "Next").run zq W= .ok (215,aO (aA ⟨t,0,aB⟩)) W:=λW=>reaches (by kernel_rfl) _ W;have mR:∀W,(method (zq.types.size+100) 146 (aO (aA ⟨t,0,aB⟩)) "Root").run zq W= .ok (217,aO (aA ⟨t,0,aB⟩)) W:=λW=>reaches (by kernel_rfl) _ W;obtain⟨va,vc,rfl,hvl,_⟩:=hU.Xx;clear h Q Z J vm hU;generalize cF us=ST at*;generalize Xn:bI last ST=N at*;have O:Hid (bI last ST=N):=Xn;clear Xn;obtain⟨S,U⟩:∃S,S=S0++[last]:=⟨_,rfl⟩;have P:Hid (S=S0++[last]):=U;obtain⟨n,hn⟩:∃n,n=S.length:=⟨_,rfl⟩;have HN:Hid (n=S.length):=hn;rw[<-U,<-hn]at hl⊢;have ox:1<=n:=by rw[hn,U];simp
 clear U hn;obtain⟨F',rj⟩:∃F',F'=if win<n+1 then first+1 else first:=⟨_,rfl⟩
 obtain⟨S',qz⟩:∃S',S'=if win<n+1 then(S++[N]).drop 1 else S++[N]:=⟨_,rfl⟩
 have zg:Hid (F'=if win<n+1 then first+1 else first):=rj;have yr:Hid (S'=if win<n+1 then(S++[N]).drop 1 else S++[N]):=qz;rw[<-rj,<-qz];clear rj qz;go_enter (Qz.fn func19),ntmps19;go_wp2_with fail;refine tg.mono ?_;clear tg;rintro e w1 ⟨rfl,Xk⟩;have B1:Hid (zb w w1):=Xk;have D1:Hid (cH w1 d k win first hb dG t (room+1+nw+1) b cap (S0++[last]) H):=HE.out.below Xk (zAb _);clear Xk;dsimp only;have wx:¬((200:Int)<(us.length:Int)):=by omega
 go_upto_region 5 with(fail)
 have q4:w1.cell? ⟨d,4,aB⟩=aA (.iface 146 (aO (aA ⟨t,0,aB⟩))):=D1.out.cell 4;have l:(λr:zW=>r.cell? ⟨d,4,aB⟩=aA (.iface 146 (aO (aA ⟨t,0,aB⟩)))) w1.drew:=q4;refine AnyX.lM (λr=>r.cell? ⟨d,4,aB⟩=aA (.iface 146 (aO (aA ⟨t,0,aB⟩)))) (λ_=>aG) (by kernel_rfl) ?_;refine AnyX.tk 0 (aO (aA ⟨d,0,aB⟩)) l ?_;simp only[Act.put];refine AnyX.tk 1 (aO (aA ⟨d,0,aB⟩)) l ?_;simp only[Act.put];refine AnyX.tk 2 (aO (aA ⟨d,4,aB⟩)) l ?_;simp only[Act.put];refine AnyX.tk 3 (.iface 146 (aO (aA ⟨t,0,aB⟩))) l ?_;simp only[Act.put];refine AnyX.tk 4 (aK va us.length vc) l ?_;simp only[Act.put];refine AnyX.tk 6 (.iface 146 (aO (aA ⟨t,0,aB⟩))) l ?_;simp only[Act.put];refine AnyX.tk 7 (.iface 146 (aO (aA ⟨t,0,aB⟩))) l ?_;simp only[Act.put];refine AnyX.cA (i:=5) (by kernel_rfl) rfl (λK o=> ?_);go_simp;refine(yp.out _ (lG B1.out)).mono ?_;rintro e w2 ⟨v2,rfl,we,Qf⟩;have y:Hid (zb w1 w2):=yL Qf;have qq:w2.cell? ⟨d,4,aB⟩=aA (.iface 146 (aO (aA ⟨t,0,aB⟩))):=(D1.out.below y.out (zAb _)).cell 4;obtain⟨vs,cs,vg,hcs,jr⟩:=we.Xx;subst vg;dsimp only;refine o.out _ _ (λ_=>qq) ?_;clear o K l;refine AnyX.cA (i:=8) (by kernel_rfl) rfl (λK o=> ?_);go_simp;refine(Lo last ST vs cs S0 (D1.out.below y.out (zAb _)).uX (by rw[<-P.out,<-HN.out];exact hl) jr HSM.out tf.out hsl (by rw[O.out];exact h4) (by rw[O.out];exact gr.out)).mono ?_;rintro e w3 (⟨_,rfl,rfl,C,q,yg,xr,M⟩|⟨c,rfl,he⟩);rotate_left
 .exact⟨rfl,.told he⟩
 have mf:w3.cell? ⟨d,4,aB⟩=aA (.iface 146 (aO (aA ⟨t,0,aB⟩))):=by rw[World.cell?_of_block (a:=⟨d,4,aB⟩) (M.block d (D1.out.below y.out (zAb _)).lt (D1.out.below y.out (zAb _)).two.1)];exact qq
 dsimp only;refine o.out _ _ (λ_=>mf) ?_;clear o K;refine AnyX.cA (i:=9) (by kernel_rfl) rfl (λK o=> ?_);go_simp;refine o.out _ _ (λ_=>mf) ?_;clear o K;refine AnyX.lO (by kernel_rfl) ?_ _;have E3:Hid (cS w3 t k (room+1) C q (S++[N])):=by have:=yg;rw[O.out,<-P.out]at this;exact this
 have D:=D1.out.below y.out (zAb _);have K3:Hid (cB w3 d 86 #[aC aD k,aC aD win,aC aD first,aK (aA ⟨hb,0,aB⟩) n dG,.iface 146 (aO (aA ⟨t,0,aB⟩))]):=(M.block d D.lt D.two.1).trans (by have:=D.at';rw[<-P.out,<-HN.out]at this;exact this);have hH1:=D.hlen;have yf:=D.Qg;have ri:=D.eQ;have O3:Hid (dZ PL w3 hb 9 1 (aK (aA ⟨hb,0,aB⟩) n dG) n (fX H)):=by
  rw[<-P.out,<-HN.out]at ri;exact ri.kept λg hg=>by have e:hb=g:=zAk hg;subst e;exact M.block hb D.bT D.two.2
 have hHn:H.length=n:=by rw[hH1,<-P.out,<-HN.out]
 have V3:Hid (dI (kM w d hb t b) w w3):=((dI.of B1.out (zAb _)).trans (dI.of y.out (zAb _))).four (M.mono λx hx=>aI (aI hx)) (aH rfl) (aH rfl);have tn:Hid (C=b\/w.heap.size<=C):=xr.imp id λh=>by have h1:=B1.out.size;have h2:=y.out.size;omega
 have pw:hb<w3.heap.size:=(dZ.lt O3.out hb rfl).2;have s:=K3.out.lt;have z:Hid (zq.globals.size<d/\zq.globals.size<hb):=⟨D1.out.UQ,D1.out.nU⟩;have jk:=D1.out.uX.k1;have Zb:=D1.out.uX.k2;clear yg ri M xr q4 D D1 B1 y Qf we jr yp HE mf qq;have p0:w3.cell? ⟨d,0,aB⟩=aA (aC aD k):=(K3.out.cell 0).trans rfl;have p2:w3.cell? ⟨d,2,aB⟩=aA (aC aD first):=(K3.out.cell 2).trans rfl;have p3:w3.cell? ⟨d,3,aB⟩=aA (aK (aA ⟨hb,0,aB⟩) n dG):=(K3.out.cell 3).trans rfl;have p4:w3.cell? ⟨d,4,aB⟩=aA (.iface 146 (aO (aA ⟨t,0,aB⟩))):=(K3.out.cell 4).trans rfl;go_upto_region 10 with(fail)
 obtain⟨m,hm⟩:∃m,n=m+1:=⟨n-1,by omega⟩;have jg:(n:Int)-1=(m:Int):=by omega
 have wu:(m:Int)<(n:Int):=by omega
 have df:¬((m:Int)<0):=by omega
 have jh:(0:Int)<=(m:Int):=by omega
 have Yx:IntKind.i64.wrap (m:Int)=(m:Int):=by rw[zGq];omega
 have G:IntKind.i64.wrap ((n:Int)-1)=(m:Int):=by rw[jg];exact Yx
 have rh:H[m]? =aA (H[m]'(by omega)):=zAh _;have ye:=yf (H[m]'(by omega)) (zDh _);generalize H[m]'(by omega)=F at rh ye;have p5:w3.cell? ⟨hb,m,aB⟩=aA (aL ⟨F.toArray⟩):=by
  obtain⟨cur,c1,c2,c3,c4,c5,c6,c7⟩:=dZ.row O3.out;rw[zHb w3 hb m cur _ (0,0) c1,<-zBt];have:(fX H)[m]? =aA (aL ⟨F.toArray⟩):=by unfold fX;rw[zDq,rh];rfl
  rw[<-c6,zCr,zAv (by omega)]at this;exact this
 have HIN:Hid ((S++[N])[n]? =aA N):=by show _=_;rw[zBh (by rw[<-HN.out];exact zAb _),<-HN.out,zFq];rfl
 have HMm:Hid (n=m+1):=hm;clear hm;have zo:Hid (cS w3.drew t k (room+1) C q (S++[N])):=E3.out.kept (zAb _) λ_ _=>rfl;have l:(λr:zW=>r.cell? ⟨d,0,aB⟩=aA (aC aD k)/\r.cell? ⟨d,3,aB⟩=aA (aK (aA ⟨hb,0,aB⟩) n dG)/\r.cell? ⟨d,4,aB⟩=aA (.iface 146 (aO (aA ⟨t,0,aB⟩)))/\r.cell? ⟨hb,m,aB⟩=aA (aL ⟨F.toArray⟩)) w3.drew:=⟨p0,p3,p4,p5⟩;refine AnyX.lM (λr=>r.cell? ⟨d,0,aB⟩=aA (aC aD k)/\r.cell? ⟨d,3,aB⟩=aA (aK (aA ⟨hb,0,aB⟩) n dG)/\r.cell? ⟨d,4,aB⟩=aA (.iface 146 (aO (aA ⟨t,0,aB⟩)))/\r.cell? ⟨hb,m,aB⟩=aA (aL ⟨F.toArray⟩)) (λi=>i==26) (by kernel_rfl) ?_;refine AnyX.AU (i:=0) (v:=aO (aA ⟨d,0,aB⟩)) rfl (by kernel_rfl) (λ_ _ _ h=>h) (aH ⟨by rfl,λW=>by go_simp⟩) l ?_;simp only[Act.put];refine AnyX.tk 1 (aO (aA ⟨d,0,aB⟩)) l ?_;simp only[Act.put];refine AnyX.tk 2 (aO (aA ⟨d,0,aB⟩)) l ?_;simp only[Act.put];refine AnyX.tk 3 (aO (aA ⟨d,3,aB⟩)) l ?_;simp only[Act.put];refine AnyX.tk 4 (aK (aA ⟨hb,0,aB⟩) n dG) l ?_;simp only[Act.put];refine AnyX.tk 5 (aO (aA ⟨d,0,aB⟩)) l ?_;simp only[Act.put];refine AnyX.tk 6 (aO (aA ⟨d,0,aB⟩)) l ?_;simp only[Act.put];refine AnyX.tk 7 (aO (aA ⟨d,0,aB⟩)) l ?_;simp only[Act.put];refine AnyX.tk 8 (aC aD k) l ?_;simp only[Act.put];refine AnyX.tk 9 (aO (aA ⟨d,0,aB⟩)) l ?_;simp only[Act.put];refine AnyX.tk 10 (aO (aA ⟨d,0,aB⟩)) l ?_;simp only[Act.put];refine AnyX.tk 11 (aO (aA ⟨d,3,aB⟩)) l ?_;simp only[Act.put];refine AnyX.tk 12 (aK (aA ⟨hb,0,aB⟩) n dG) l ?_;simp only[Act.put];refine AnyX.tk 13 (aC aD n) l ?_;simp only[Act.put];refine AnyX.tk 14 (aC aD m) l ?_;simp only[Act.put];refine AnyX.tk 15 (aO (aA ⟨hb,m,aB⟩)) l ?_;simp only[Act.put];refine AnyX.tk 16 (aL ⟨F.toArray⟩) l ?_;simp only[Act.put];refine AnyX.tk 17 (aC aD ((first:Int)+(n:Int))) l ?_;simp only[Act.put];refine AnyX.tk 18 (aO (aA ⟨d,0,aB⟩)) l ?_;simp only[Act.put];refine AnyX.tk 19 (aO (aA ⟨d,0,aB⟩)) l ?_;simp only[Act.put];refine AnyX.tk 20 (aO (aA ⟨d,4,aB⟩)) l ?_;simp only[Act.put];refine AnyX.tk 21 (.iface 146 (aO (aA ⟨t,0,aB⟩))) l ?_;simp only[Act.put];refine AnyX.tk 22 (aC aD n) l ?_;simp only[Act.put];refine AnyX.cA (i:=23) (by kernel_rfl) rfl (λK o=> ?_);go_simp;refine(RZ zo.out HIN.out).mono ?_;rintro e w4 (⟨_,rfl,rfl,xq⟩|⟨c,rfl,he⟩);rotate_left
 .exact⟨rfl,.told he⟩
 have b4:Hid (zb w3 w4):=yL xq;have r0:w4.cell? ⟨d,0,aB⟩=aA (aC aD k):=by rw[b4.out.cell (p:=⟨d,0,aB⟩) s];exact p0
 have r3:w4.cell? ⟨d,3,aB⟩=aA (aK (aA ⟨hb,0,aB⟩) n dG):=by rw[b4.out.cell (p:=⟨d,3,aB⟩) s];exact p3
 have r4:w4.cell? ⟨d,4,aB⟩=aA (.iface 146 (aO (aA ⟨t,0,aB⟩))):=by rw[b4.out.cell (p:=⟨d,4,aB⟩) s];exact p4
 have r5:w4.cell? ⟨hb,m,aB⟩=aA (aL ⟨F.toArray⟩):=by rw[b4.out.cell (p:=⟨hb,m,aB⟩) pw];exact p5
 dsimp only;refine o.out _ _ (λ_=>⟨r0,r3,r4,r5⟩) ?_;clear o K xq l;refine AnyX.cA (i:=24) (by kernel_rfl) rfl (λK o=> ?_);go_simp;refine(Mp k _ F _ w4 (E3.out.gW.below b4.out (zAb _)) jk Zb ye (by have:=qH k 0 (bH N) Zb;omega) (by omega)).mono ?_;rintro e w5 ⟨rfl,xp⟩;have hHX:(dg k (3::(F++eight (first+n)++kQ k (bH N) 0))).length<=32:=by rw[nE k _ Zb];omega
 have yx:Hid (IF k first n N H (dg k (3::(F++eight (first+n)++kQ k (bH N) 0)))):=⟨F,by rw[HMm.out];exact rh,rfl⟩;generalize dg k (3::(F++eight (first+n)++kQ k (bH N) 0))=A at*;have b5:Hid (zb w3 w5):=bL b4.out xp b4.out.size;have L:d<w5.heap.size:=zAd s b5.out.size;have py:hb<w5.heap.size:=zAd pw b5.out.size;have s0:w5.cell? ⟨d,0,aB⟩=aA (aC aD k):=by rw[b5.out.cell (p:=⟨d,0,aB⟩) s];exact p0
 have s3:w5.cell? ⟨d,3,aB⟩=aA (aK (aA ⟨hb,0,aB⟩) n dG):=by rw[b5.out.cell (p:=⟨d,3,aB⟩) s];exact p3
 have s4:w5.cell? ⟨d,4,aB⟩=aA (.iface 146 (aO (aA ⟨t,0,aB⟩))):=by rw[b5.out.cell (p:=⟨d,4,aB⟩) s];exact p4
 have s5:w5.cell? ⟨hb,m,aB⟩=aA (aL ⟨F.toArray⟩):=by rw[b5.out.cell (p:=⟨hb,m,aB⟩) pw];exact p5
 dsimp only;refine o.out _ _ (λ_=>⟨s0,s3,s4,s5⟩) ?_;clear o K xp r0 r3 r4 r5;refine AnyX.cA (i:=25) (by kernel_rfl) rfl (λK o=> ?_);go_simp;refine o.out _ _ (λ_=>⟨by rw[World.cell?_alloc_lt _ _ _ L];exact s0,by rw[World.cell?_alloc_lt _ _ _ L];exact s3,by rw[World.cell?_alloc_lt _ _ _ L];exact s4,by rw[World.cell?_alloc_lt _ _ _ py];exact s5⟩) ?_;clear o K s0 s3 s4 s5;obtain⟨j,f,X,vv,T,Zh,V⟩:=ZF (O3.out.below b5.out (zAb _)|>.alloc (aJ #[aL ⟨A.toArray⟩] 9)) (by omega) A (vb:=w5.heap.size) (zGv w5 _) (by have:=b5.out.size;rw[size_alloc];omega);refine AnyX.cA (i:=26) (by kernel_rfl) rfl (λK o=> ?_);refine jE rfl _ _ 82 82 rfl _ _ rfl rfl (vv _) ?_;refine o.out _ _ (λh=>AnyX.iA h (by kernel_rfl)) ?_;clear o K;have hd5:d<(w5.alloc (aJ #[aL ⟨A.toArray⟩] 9)).heap.size:=by have:=b5.out.size;rw[size_alloc];omega
 have KA:=((K3.out.below b5.out s).alloc (aJ #[aL ⟨A.toArray⟩] 9)).grown T (λe=>by injection e with e;exact n1 e);have a3:X.cell? ⟨d,3,aB⟩=aA (aK (aA ⟨hb,0,aB⟩) n dG):=(KA.cell 3).trans rfl;have z3:=KA.frozen 3;have E:Hid (cB X d 86 #[aC aD k,aC aD win,aC aD first,aK (aA ⟨hb,0,aB⟩) n dG,.iface 146 (aO (aA ⟨t,0,aB⟩))]):=KA;clear KA;refine AnyX.cA (i:=27) (by kernel_rfl) rfl (λK o=> ?_);simp only[Act.put,zBo,zDa,zCq];go_simp;refine o.out _ _ (λh=>AnyX.iA h (by kernel_rfl)) ?_;clear o K;refine AnyX.cA (i:=28) (by kernel_rfl) rfl (λK o=> ?_);go_simp;refine o.out _ _ (λh=>AnyX.iA h (by kernel_rfl)) ?_;clear o K;refine AnyX.cA (i:=29) (by kernel_rfl) rfl (λK o=> ?_);go_simp;refine o.out _ _ (λh=>AnyX.iA h (by kernel_rfl)) ?_;clear o K;refine AnyX.lO (by kernel_rfl) ?_ _;have R:=iD X d (#[aC aD k,aC aD win,aC aD first,aK (aA ⟨j,0,aB⟩) (n+1) f,.iface 146 (aO (aA ⟨t,0,aB⟩))]:zA);have I:X.setCell ⟨d,3,aB⟩ (aK (aA ⟨j,0,aB⟩) (n+1) f)=X.setRow d (#[aC aD k,aC aD win,aC aD first,aK (aA ⟨j,0,aB⟩) (n+1) f,.iface 146 (aO (aA ⟨t,0,aB⟩))]:zA):=by rw[setCell_eq_setRow X d 3 _ _ (0,0) _ E.out];rfl
 have Y:=E.out.eG (#[aC aD k,aC aD win,aC aD first,aK (aA ⟨j,0,aB⟩) (n+1) f,.iface 146 (aO (aA ⟨t,0,aB⟩))]:zA);have bA:zb w3 (w5.alloc (aJ #[aL ⟨A.toArray⟩] 9)):=b5.out.alloc b5.out.size _;obtain⟨aCB,sk,_⟩:=dZ.row (O3.out.below bA (zAb _));have D7:Hid (cH (X.setCell ⟨d,3,aB⟩ (aK (aA ⟨j,0,aB⟩) (n+1) f)) d k win first j f t (room+1) C q (S++[N]) (H++[A])):=by
  rw[I];have B:(S++[N]).length=n+1:=by rw[zAc,<-HN.out];rfl
  have hhb:j≠d:=λe=>by obtain⟨c6,e6,_⟩:=dZ.row V;rw[e,E.out]at e6;injection e6 with e6;injection e6 with _ e7;revert e7;decide
  refine⟨((E3.out.below bA (zAb _)).other T sk (by decide) z.out.2).other R E.out (by decide) z.out.1,z.out.1,?_,by rw[B];exact Y,by rw[zAc,B,hHn];rfl,λx hx=> ?_,?_,by omega⟩
  .obtain e|e:=Zh
   .rw[e];exact z.out.2
   .rw[e];have:=z.out.1;omega
  .obtain hx|hx:=zAi.1 hx
   .exact yf x hx
   .rw[zAs.1 hx];exact hHX
  .rw[B];exact V.kept λg hg=>by have e:j=g:=zAk hg;subst e;exact R.block j (dZ.lt V j rfl).2 (λe=>by injection e with e;exact hhb e)
 have V7:Hid (dI (kM w d hb t b) w (X.setCell ⟨d,3,aB⟩ (aK (aA ⟨j,0,aB⟩) (n+1) f))):=by rw[I];exact((V3.out.trans (dI.of bA (zAb _))).trans (dI.grown T (aI (aH rfl)) λhc=>hc.ne sk (by decide) rfl)).trans (dI.grown R (aH rfl) λhc=>hc.ne E.out (by decide) rfl)
 have tl:Hid (j=hb\/w.heap.size<=j):=Zh.imp id λe=>by have h1:=bA.size;have h2:=V3.out.size;rw[e];omega
 generalize X.setCell ⟨d,3,aB⟩ (aK (aA ⟨j,0,aB⟩) (n+1) f)=w7 at*;clear I Y R sk bA T Zh V E a3 z3 vv K3 O3 E3 zo V3;go_wp2_with fail;have y3:=dU ((D7.out.cell 3).trans (rfl:_=aA (Value.slice (aA ⟨j,0,aB⟩) (S++[N]).length f))) D7.out.lt;have y1:=dU ((D7.out.cell 1).trans (rfl:_=aA (Value.int aD win))) D7.out.lt;have B:(S++[N]).length=n+1:=by rw[zAc,<-HN.out];rfl
 rw[B]at y3;refine zHe (by kernel_rfl) (by kernel_rfl) ?_;repeat (any_goals(first|go_big_quiet_step (fail)|quiet_step (fail)))
 refine wpQuiet_nil ?_;intro w8 hw8;obtain⟨q8,vw⟩:=hw8;have b8:Hid (zb w7 w8):=by rw[vw];exact zGt w7 q8.d q8.os
 have D8:Hid (cH w8 d k win first j f t (room+1) C q (S++[N]) (H++[A])):=D7.out.below b8.out (zAb _);have V8:Hid (dI (kM w d hb t b) w w8):=V7.out.trans (dI.of b8.out (zAb _));clear vw y1 y3 D7 V7 b8;by_cases G:win<n+1
 .have hwi:(win:Int)<(n:Int)+1:=by{omega};have ze:=JL D8.out (by rw[B];omega);go_wp2_with fail;refine ze.mono ?_;clear ze;rintro e w9 ⟨rfl,yh,xt⟩;have D9:Hid (cH w9 d k win (first+1) j f t room C q ((S++[N]).drop 1) ((H++[A]).drop 1)):=yh (by omega);have V9:Hid (dI (kM w d hb t b) w w9):=V8.out.four xt tl.out tn.out;clear yh xt;dsimp only;go_wp2;go_ret2;exact .of ⟨rfl,j,f,C,q,A,yx.out,by rw[zg.out,yr.out,zAv G,zAv G,<-List.drop_one];exact D9.out,tl.out,tn.out,V9.out⟩
 .have hwi:¬((win:Int)<(n:Int)+1):=by{omega};go_wp2;go_ret2;exact .of ⟨rfl,j,f,C,q,A,yx.out,by rw[zg.out,yr.out,zAt G,zAt G];exact D8.out.less (Nat.le_succ _),tl.out,tn.out,V8.out⟩
end
def fV (s:St):List bK:=(cO s).map Yb
def nG (s):bH (fV s)=cO s:=by
 unfold fV bH;rw[zEg];conv=>rhs;rw[<-List.map_id (cO s)]
 apply zEb;intro e _;rfl
def Ba (s):(fV s).length<=64:=by unfold fV;rw[zDg,<-Kv];exact Rs s 64
def MO (s:St):Prop:=∀k v,s k=aA v->v.length<=100
def MU {s}(h:MO s):CY (fV s):=by
 have d:mF (fV s):=by have a:=DX s;rw[<-nG]at a;exact zDj.1 a
 refine⟨Sub.zero d λu b=> ?_,λu b=> ?_,λu b=> ?_⟩
 .obtain⟨e,c,rfl⟩:=zCi.1 b;obtain⟨k,_,a,_⟩:=sE c;show e.1.length=32;rw[a];exact tR k
 .obtain⟨e,c,rfl⟩:=zCi.1 b;obtain⟨k,_,_,a⟩:=sE c;exact h k e.2 a
 .obtain⟨e,c,rfl⟩:=zCi.1 b;rfl
def EM {s}(h:MO s)(l):MO (s.with l):=Jc h l
def XT (r:Int×Int):(dQ r).idx.length=32/\(dQ r).val.length<=100/\((dQ r).gone=aF->(dQ r).val=[]):=by
 unfold dQ;split
 .exact⟨kK _,zBs _,λ_=>rfl⟩
 .refine⟨kK _,?_,λh=>by cases h⟩;show(valOf r.2).length<=100;have:=vT r.2;omega
def Jg {s}(h:MO s)(l):bI (fV s) (cF ((l.take 20).map dQ))=fV (s.with l):=by
 refine CY.same ((MU h).cP λu a=> ?_) (MU (EM h l)) ?_
 .have b:=mL a;obtain⟨r,_,rfl⟩:=zCi.1 b;exact⟨(XT r).1,(XT r).2.1⟩
 .rw[sL,nG,nG,wQ (DX s),Dq]
def rT (rs:Nat->zII)(f:Nat):Nat->List (List bK)
 |0=>[]
 |n+1=>fV (cU rs f)::rT rs (f+1) n
def xV (rs:Nat->zII):∀n f,(rT rs f n).length=n
 |0,_=>rfl
 |n+1,f=>by rw[rT,zAf,xV rs n]
def GI (rs:Nat->zII):∀n f i,i<n->(rT rs f n)[i]? =aA (fV (cU rs (f+i)))
 |n+1,f,0,_=>rfl
 |n+1,f,i+1,h=>by rw[rT,List.getElem?_cons_succ,GI rs n (f+1) i (by omega),show f+1+i=f+(i+1) by omega]
def AD (rs:Nat->zII):∀n f,rT rs f (n+1)=rT rs f n++[fV (cU rs (f+n))]
 |0,f=>rfl
 |n+1,f=>by rw[rT,AD rs n (f+1),rT,zBz,show f+1+n=f+(n+1) by omega]
def yF (rs:Nat->zII):∀j,MO (cU rs j)
 |0=>λ_ _ h=>by cases h
 |j+1=>EM (yF rs j) (rs j)
def KO (j:Nat):Nat:=if j=0 then 100000 else 97437-5073*(j-1)
def Nl (rs:Nat->zII)(j)(h:j<20):∃n,KO j=KO (j+1)+1+n+1/\kY (bH (fV (cU rs (j+1)))) (bH (fV (cU rs j))) 0<=n:=by
 rw[nG,nG];by_cases a:j=0
 .subst a;refine⟨2561,rfl,?_⟩;have b:cO (λ_=>aB)=[]:=by{decide+kernel};have c:=YJ (rs 0);show BN (cO (St.with (λ_=>aB) (rs 0))) (cO (λ_=>aB))<=2561;rw[b];exact c
 .refine⟨5071,?_,Gh (cU rs j) (rs j)⟩;unfold KO;rw[zAt a,zAt (by omega)];omega
open Go Go.RowKit
section
variable {P:zZ}
def run_loadVar_mid (w:zW)(g o:Nat)(t ty:zD)(cur cs:zA)(fr:Nat×Nat)(d:TypeDesc)(k:w.heap[g]? =aA (aJ cur t fr))(l:∀j v,cs.toList[j]? =aA v->cur[o+j]? =aA v)
  (e:P.underlying ty=aA d) (m:(match d with| .struct _| .array _ _=>aF|_=>aG)=aF) (hi:(P.info? ty).map (·.size)=aA cs.size):
  (loadVar ty ⟨g,o,aB⟩).run P w= .ok (.agg cs) w:=by
 have hl:(loadCells ⟨g,o,aB⟩ cs.toList.length).run P w= .ok cs.toList.toArray w:=
  run_loadCells_list w ⟨g,o,aB⟩ cs.toList (λj v c=>by rw[Addr.add_lit,zHb w g _ cur t fr k];exact l j v c)
 cases b:P.info? ty with
 |none=>simp[b]at hi
 |some i=>
  have f:i.size=cs.size:=by simpa [b]using hi
  have h:(isAgg ty).run P w= .ok aF w:=by unfold isAgg;rw[Sem.run_bind,run_underlying e w];cases d<;>simp_all
  simp only[zCx,aFn]at hl;simp[loadVar,Sem.run_bind,h,sizeOf,typeInfo,b,f,hl]
def run_storeVar_mid (w)(g o)(t ty)(cur cells)(d:w.heap[g]? =aA (aJ cur t (0,0)))(hi:(P.info? ty).map (·.size)=aA cells.size)
  (c:o+cells.size<=cur.size) (e:∀v∈cells.toList,v.oneCell'=aF):
  (storeVar ty ⟨g,o,aB⟩ (.agg cells)).run P w= .ok () (w.setRow g (over cur.toList o cells.toList).toArray):=by
 have:=run_storeCells_at P g o t cells.toList 0 cur w d (by simpa using c) e;simp only[aFu]at this;cases h:P.info? ty with
 |none=>simp[h]at hi
 |some i=>have b:cells.size=i.size:=by{simp[h]at hi;omega};simp[storeVar,sizeOf,typeInfo,h,Value.cells,b,this,over]
variable {ops:zQ}{rest:List Oper}{o:Oper}{a:Act}{w:zW}{K:Act->zW->Prop}{Q:zX}{E:Prop}
def wp_store_mid (ty)(x y)(e:o.op= .store ty x y)(g p)(cells)(d:a.eval x=aO (aA ⟨g,p,aB⟩))(c:a.eval y= .agg cells)
  (t) (cur) (f:w.heap[g]? =aA (aJ cur t (0,0))) (hi:(P.info? ty).map (·.size)=aA cells.size) (b:p+cells.size<=cur.size) (i:∀v∈cells.toList,v.oneCell'=aF)
  (h:K (a.put o.dst undef) (w.setRow g (over cur.toList p cells.toList).toArray)):o.wp P a w K Q:=by
 unfold Oper.wp execOp;simp only[e,d,c,Instr.storeAt,Instr.sureAddr,Sem.run_bind,Sem.run_pure,Result.andThen_ok,run_storeVar_mid w g p t ty cur cells f hi b i];exact h
def wpList_store_mid (c:o.guard=aB)(ty:zD)(x y:Operand)(f:o.op= .store ty x y)(g p:Nat)(cells:zA)(e:a.eval x=aO (aA ⟨g,p,aB⟩))(d:a.eval y= .agg cells)
  (t:zD) (cur:zA) (i:w.heap[g]? =aA (aJ cur t (0,0))) (hi:(P.info? ty).map (·.size)=aA cells.size) (b:p+cells.size<=cur.size) (k:∀v∈cells.toList,v.oneCell'=aF)
  (h:wpList P ops Q rest (a.put o.dst undef) (w.setRow g (over cur.toList p cells.toList).toArray)):wpList P ops Q (o::rest) a w:=
 wpList_plain c λ_ j=>wp_store_mid ty x y f g p cells e d t cur i hi b k (j _ _ h)
def DV (c:o.guard=aB)(ty)(x y)(i:o.op= .store ty x y)(g p)(cells)(e:a.eval x=aO (aA ⟨g,p,aB⟩))(d:a.eval y= .agg cells)
  (t) (cur) (j:w.heap[g]? =aA (aJ cur t (0,0))) (hi:(P.info? ty).map (·.size)=aA cells.size) (b:p+cells.size<=cur.size) (k:∀v∈cells.toList,v.oneCell'=aF)
  (h:K (a.put o.dst undef) (w.setRow g (over cur.toList p cells.toList).toArray)):if Region.wanted o (yielded ops a.tmps)=aF then Oper.wp P o a w K Q else E:=by
 have f:Region.wanted o (yielded ops a.tmps)=aF:=by simp[Region.wanted,c]
 rw[zAv f];exact wp_store_mid ty x y i g p cells e d t cur j hi b k h
end
def kV (s):(dR s).size=128:=iI _ _
def KH (s):∀v∈(dR s).toList,v.oneCell'=aF:=RX _ _
def PG {B w w1 w2 x}(h:Below B w w1)(a:w1.grownBy w2 (aA x))(g:B<=x)(f:B<=w1.heap.size):Below B w w2:=⟨a.os.trans h.os,a.tape.trans h.tape,a.output.trans h.output,zBc h.size a.size,λk c=>(a.block k (zAd c f) (λe=>by injection e with e;omega)).trans (h.block k c)⟩
def Ai {B w w1 w2 F}(h:Below B w w1)(hs:dI F w1 w2)(hF:∀x,F x->B<=x)(c:B<=w1.heap.size):Below B w w2:=⟨hs.os.trans h.os,hs.tape.trans h.tape,hs.output.trans h.output,zBc h.size hs.size,λk a=>(hs.block k (zAd a c) (λe=>by have:=hF k e;omega)).trans (h.block k a)⟩
section
variable {w w':zW}{d k win first hb dG t room b cap:Nat}{S:List (List bK)}{H:zLL}
def cH.other {x:Nat}{cs:zA}{ty:zD}{fr:Nat×Nat}(h:cH w d k win first hb dG t room b cap S H)(i:w.grownBy w' (aA x))(c:w.heap[x]? =aA (aJ cs ty fr))(a:ty≠272/\ty≠168/\ty≠264/\ty≠86/\ty≠9)(hl:zq.globals.size<x):cH w' d k win first hb dG t room b cap S H:=by
 obtain⟨j,ch,_⟩:=dZ.row h.eQ;refine⟨h.uX.other i c ⟨a.1,a.2.1,a.2.2.1⟩ hl,h.UQ,h.nU,?_,h.hlen,h.Qg,h.eQ.kept λg f=> ?_,h.f1⟩
 .rw[i.block d h.lt (λe=>by injection e with e;exact fB c h.at' a.2.2.2.1 e.symm)];exact h.at'
 .have e:hb=g:=zAk f;subst e;exact i.block hb h.bT (λe=>by injection e with e;exact fB c ch a.2.2.2.2 e.symm)
end
def RF.mono {R R' e w}(h:RF R e w)(f:∀x,R x w->R' x w):RF R' e w:=h.imp (λ⟨x,c,a⟩=>⟨x,c,f x a⟩) id
def Ii {H:zLL}{w:zW}{d k win f m j hb dG t b cap base:Nat}{v:zY}(rs:Nat->zII)(D:cH w d k win f hb dG t (KO j) b cap (rT rs f m) H)(N:cI w base v (((rs j).take 20).map dQ))(L:f+m=j+1)(Q:1<=m)(J:m<=win)(P:win<=20)(K:j<20):
  Calls zq 19 #[aO (aA ⟨d,0,aB⟩),v] w (RF λx w'=>x= .tuple #[aC aD ((j:Int)+1),aC aD 0]/\∃o s p a h n c,IF k f m (fV (cU rs (j+1))) H o/\cH w' d k win s a h t (KO (j+1)) n c (rT rs s p) (if win<m+1 then(H++[o]).drop 1 else H++[o])/\s=(if win<m+1 then f+1 else f)/\s+p=j+2/\1<=p/\p<=win/\(a=hb\/w.heap.size<=a)/\(n=b\/w.heap.size<=n)/\dI (kM w d hb t b) w w'):=by
 obtain⟨m0,rfl⟩:∃m0,m=m0+1:=⟨m-1,by omega⟩;have z:f+m0=j:=by omega
 have l:bI (fV (cU rs j)) (cF (((rs j).take 20).map dQ))=fV (cU rs (j+1)):=Jg (yF rs j) (rs j);have B:rT rs f (m0+1)=rT rs f m0++[fV (cU rs j)]:=by rw[AD,z]
 have hlen:(rT rs f m0++[fV (cU rs j)]).length=m0+1:=by rw[<-B,xV]
 have A:rT rs f m0++[fV (cU rs j)]++[fV (cU rs (j+1))]=rT rs f (m0+2):=by rw[<-B,AD rs (m0+1),show f+(m0+1)=j+1 by omega]
 rw[B]at D;obtain⟨O,y,i⟩:=Nl rs j K;rw[y]at D;have H:=ML (rT rs f m0) (fV (cU rs j)) (((rs j).take 20).map dQ) v base D N (by rw[zDg,zBe];omega) (λu I=>by obtain⟨r,_,rfl⟩:=zCi.1 I;exact XT r) (by rw[hlen];omega) (by rw[l];have:=Ba (cU rs (j+1));omega) (by rw[l];exact i) (by omega) (by omega) (by omega);rw[l,hlen,A]at H;refine H.mono λe w' M=>RF.mono M λx=> ?_;rintro⟨rfl,a,h,n,c,o,C,q,G,F,E⟩;refine⟨by rw[show((f:Int)+((m0+1:Nat):Int))=(j:Int)+1 by omega],?_⟩;by_cases g:win<m0+1+1
 .rw[zAv g,zAv g,zAv g]at q;simp only[zAv g];exact⟨o,f+1,m0+1,a,h,n,c,C,q,rfl,by omega,by omega,by omega,G,F,E⟩
 .rw[zAt g,zAt g,zAt g]at q;simp only[zAt g];exact⟨o,f,m0+2,a,h,n,c,C,q,rfl,by omega,by omega,by omega,G,F,E⟩
section
variable {w w':zW}{d k win first hb dG t room b cap:Nat}{S:List (List bK)}{H:zLL}{F:zP}
def cS.beside (h:cS w t k room b cap S)(hs:dI F w w')(hF:∀x,x<=zq.globals.size\/x=t\/x=b->¬F x):cS w' t k room b cap S:=by
 obtain⟨C,n,c1,c2,c3,c4,c5,c6,I⟩:=h.row;obtain⟨R,c,d1,G,d3,d4⟩:=h.at';have m:∀x,x<=zq.globals.size\/x=t\/x=b->w'.heap[x]? =w.heap[x]? :=λx a=>hs.block x (by
  obtain a|rfl|rfl:=a;{have:=h.vW;have:=h.Wa;omega};{exact h.Wa}
  .exact h.blt) (hF x a)
 refine⟨h.k1,h.k2,h.gI.kept λx a=>m x (aH a),h.gW.kept hs.size λx a=>m x (aH a),h.vW,h.IA,⟨R,c,(m t (aI (aH rfl))).trans d1,G,d3,d4⟩,⟨C,n,by rw[m b (aI (aI rfl))];exact c1,c2,c3,c4,λx a=> ?_,c6,λi us hi=> ?_⟩,h.st,h.len,h.one⟩
 .obtain⟨z,o,i,v,g,l,B,A,y⟩:=c5 x a;obtain⟨⟨q,j,f,_⟩,r⟩:=hs.kp x z o i v g l B;exact⟨z,o,i,v,q,j,f,r A,y⟩
 .obtain⟨p,E,D⟩:=I i us hi;exact⟨p,E,D.keep h.k1 h.k2 λb z o i v g l s u=>by obtain⟨⟨q,j,f,e⟩,_⟩:=hs.kp b z o i v g l u;rw[e s]at f;exact⟨j,f⟩⟩
def cH.beside (h:cH w d k win first hb dG t room b cap S H)(hs:dI F w w')(hF:∀x,x<=zq.globals.size\/x=t\/x=b\/x=d\/x=hb->¬F x):cH w' d k win first hb dG t room b cap S H:=
 ⟨h.uX.beside hs λx a=>hF x (by obtain h|h|h:=a<;>simp[h]),h.UQ,h.nU,by rw[hs.block d h.lt (hF d (by simp))];exact h.at',h.hlen,h.Qg,h.eQ.kept λg c=>by have e:hb=g:=zAk c;subst e;exact hs.block hb h.bT (hF hb (by simp)),h.f1⟩
def cH.apart {o k' m f e i q r b' cap':Nat}{G:List (List bK)}{I:zLL}(h:cH w d k win first hb dG t room b cap S H)(c:cH w o k' m f e i q r b' cap' G I)(y:d≠o)(v:hb≠e)(n3:t≠q)(u:b≠b')(x:Nat)(s:x<=zq.globals.size\/x=t\/x=b\/x=d\/x=hb):¬kM w o e q b' x:=by
 obtain⟨J,p⟩:=h.uX.Yg;obtain⟨ct,t1⟩:=h.uX.Wc;obtain⟨ch,n,_⟩:=dZ.row h.eQ;obtain⟨E,l⟩:=c.uX.Yg;obtain⟨C,g⟩:=c.uX.Wc;obtain⟨D,j,_⟩:=dZ.row c.eQ;have hl:zq.globals.size<o:=c.UQ;have B:zq.globals.size<e:=c.nU;have A:=c.uX.vW;have z:=c.uX.IA;intro a;obtain s|rfl|rfl|rfl|rfl:=s
 .obtain a|a|a|a|a:=a
  .omega
  .omega
  .omega
  .omega
  .exact h.uX.gI.noCell s a
 .obtain a|a|a|a|a:=a
  .exact fB t1 c.at' (by decide) a
  .exact fB t1 j (by decide) a
  .exact n3 a
  .exact fB t1 l (by decide) a
  .exact a.ne t1 (by decide) rfl
 .obtain a|a|a|a|a:=a
  .exact fB p c.at' (by decide) a
  .exact fB p j (by decide) a
  .exact fB p g (by decide) a
  .exact u a
  .exact a.ne p (by decide) rfl
 .obtain a|a|a|a|a:=a
  .exact y a
  .exact fB h.at' j (by decide) a
  .exact fB h.at' g (by decide) a
  .exact fB h.at' l (by decide) a
  .exact a.ne h.at' (by decide) rfl
 .obtain a|a|a|a|a:=a
  .exact fB n c.at' (by decide) a
  .exact v a
  .exact fB n g (by decide) a
  .exact fB n l (by decide) a
  .exact a.ne n (by decide) rfl
end
def uV (i wo:Int)(k b:Nat)(w:zW)(h:Base w)(P: -9223372036854775808<=i)(O:i<=9223372036854775807)(N: -9223372036854775808<=wo)(M:wo<=9223372036854775807)(A:(k:Int)=1+dV i 32)(v:(b:Int)=1+dV wo 20):
  Calls zq 14 #[aC aD 0,aC aD i,aC aD wo] w λe j=>∃d f t g,e=aM (aO (aA ⟨d,0,aB⟩))/\cH j d k b 0 f 1 t 100000 g 1 [[]] [dg k [3]]/\w.heap.size<=d/\w.heap.size<=f/\w.heap.size<=t/\w.heap.size<=g/\zb w j:=by
 obtain⟨a,E,K⟩:=iL i 32 (by omega);obtain⟨c,D,J⟩:=iL wo 20 (by omega);have p:dV i 32=(a:Int):=E;have n:dV wo 20=(c:Int):=D;have q:=λW=>pW i 32 W P O (by omega) (by omega);have H:=λW=>pW wo 20 W N M (by omega) (by omega);rw[p]at q A;rw[n]at H v;have z:k=a+1:=by omega
 have u:b=c+1:=by omega
 have y:1<=k:=by omega
 have x:k<=32:=by omega
 have s:1<=b:=by omega
 have r:b<=50:=by omega
 have T:Hid (Base w):=h;have C:(1:Int)+(a:Int)=(k:Int):=A.symm;have B:(1:Int)+(c:Int)=(b:Int):=v.symm;have I:Hid ((1:Int)+(a:Int)=(k:Int)):=C;have G:Hid ((1:Int)+(c:Int)=(b:Int)):=B;clear h E D p n A v z u C B;have S:Hid (∀W,W=w->Calls zq 35 #[.agg #[aC aD 0,aC aD k,aC aD b,aC aD 100000]] W λe j=>∃d f t g,e=aM (.tuple #[aO (aA ⟨d,0,aB⟩),aC aD 0])/\cH j d k b 0 f 1 t 100000 g 1 [[]] [dg k [3]]/\W.heap.size<=d/\W.heap.size<=f/\W.heap.size<=t/\W.heap.size<=g/\zb W j):=λW L=>by subst L;exact ZQ k b 100000 W T.out y x s r (by omega) (by omega)
 go_enter (Qz.fn func14),ntmps14;go_wp2_with fail;refine(q _).mono ?_;rintro e w1 ⟨rfl,m⟩;subst m;dsimp only;go_wp2_with fail;refine(H _).mono ?_;rintro e w2 ⟨rfl,l⟩;subst l;dsimp only;have Q:IntKind.i64.wrap ((1:Int)+(a:Int))=(k:Int):=by rw[zGq,I.out];omega
 have R:IntKind.i64.wrap ((1:Int)+(c:Int))=(b:Int):=by rw[zGq,G.out];omega
 have C:=I.out;have B:=G.out;go_wp2_with fail;refine(S.out _ rfl).mono ?_;rintro e w3 ⟨d,f,t,g,rfl,F,g1,g2,g3,g4,o⟩;have U:Hid (zb w2 w3):=o;have D3:Hid (cH w3 d k b 0 f 1 t 100000 g 1 [[]] [dg k [3]]):=F;clear o F;dsimp only;go_wp2;go_ret;exact⟨d,f,t,g,rfl,D3.out,g1,g2,g3,g4,U.out⟩
section
variable {w:zW}{d k win first hb dG t room b cap:Nat}{S:List (List bK)}{H:zLL}
def UR (h:cH w d k win first hb dG t room b cap S H){i:Nat}{x:zB}(hi:H[i]? =aA x):
  Calls zq 16 #[aO (aA ⟨d,0,aB⟩),aC aD ((first:Int)+(i:Int))] w λe o=>e=aM (.tuple #[aL ⟨x.toArray⟩,aC aD 0])/\zb w o:=by
 have f:i<S.length:=h.hlen▸(zAx.1 hi).1;have m:=LR h f;have n:Hid (cH w d k win first hb dG t room b cap S H):=h;have F:=h.f1;have hl:=h.uX.len;have C:Hid (H[i]? =aA x):=hi;have v:IntKind.i64.wrap (i:Int)=(i:Int):=by rw[zGq];omega
 have j:(first:Int)+(i:Int)-(first:Int)=(i:Int):=by omega
 have z:(i:Int)<(S.length:Int):=by omega
 have A:¬((i:Int)<0):=by omega
 have y:(0:Int)<=(i:Int):=by omega
 clear h hi;go_enter (Qz.fn func16),ntmps16;go_wp2_with fail;refine m.mono ?_;clear m;rintro e w2 ⟨rfl,a⟩;have B:Hid (zb w w2):=a;have E:=n.out.below a (zAb _);have u:=dU ((E.cell 2).trans (rfl:_=aA (Value.int aD first))) E.lt;have s:=dU ((E.cell 3).trans (rfl:_=aA (Value.slice (aA ⟨hb,0,aB⟩) S.length dG))) E.lt;have p:w2.cell? ⟨hb,i,aB⟩=aA (aL ⟨x.toArray⟩):=by
  obtain⟨g,c1,c2,c3,c4,c5,c6,G⟩:=dZ.row E.eQ;rw[zHb w2 hb i g _ (0,0) c1,<-zBt];have:(fX H)[i]? =aA (aL ⟨x.toArray⟩):=by unfold fX;rw[zDq,C.out];rfl
  rw[<-c6,zCr,zAv (by omega)]at this;exact this
 have r:=dU p (dZ.lt E.eQ hb rfl).2;clear a n E p;dsimp only;go_wp2_with fail;refine zHe (by kernel_rfl) (by kernel_rfl) ?_;repeat (any_goals(first|go_big_quiet_step (fail)|quiet_step (fail)))
 refine wpQuiet_nil ?_;intro W c;obtain⟨q,l⟩:=c;have D:Hid (zb w W):=bL B.out (by rw[l];exact zGt w2 q.d q.os) B.out.size;clear l u s r;go_wp2;go_ret2;exact⟨rfl,D.out⟩
end
open Go.RowKit Sha
def nO:zA:= #[aC aD 2,aC aD 0,aK aB 0 0,aL ⟨#[]⟩,aL ⟨#[]⟩,aL ⟨#[]⟩]
def Nq (idx:ByteArray)(w:zW):Calls zq 117 #[.agg nO,aL idx] w λe a=>e=aM (aL ⟨#[0]⟩)/\zb w a:=by
 have b:Hid (zb w (w.alloc (aJ nO 112))):=(zGm _ _).alloc (zAb _) _;have c:(w.alloc (aJ nO 112)).cell? ⟨w.heap.size,1,aB⟩=aA (aC aD 0):=((cB.new w _ nO).cell 1).trans rfl;go_enter (Qz.fn func117),ntmps117;go_upto_region 1 with(fail)
 generalize w.alloc (aJ nO 112)=w0 at*;go_wp2_with fail;refine(vA w0).mono ?_;rintro e w2 ⟨rfl,h⟩;obtain rfl:w0=w2:=h.symm;clear h;go_wp2;go_ret;exact⟨rfl,b.out⟩
def WS (idx:ByteArray)(w:zW):Calls zq 99 #[.agg nO,aL idx] w λe d=>zb w d/\∃g,e=aM (aK (aA ⟨g,0,aB⟩) 1 1)/\d.cell? ⟨g,0,aB⟩=aA (aL ⟨#[0]⟩):=by
 have c:Hid (zb w (w.alloc (aJ nO 112))):=(zGm _ _).alloc (zAb _) _;have k:Hid (cB (w.alloc (aJ nO 112)) w.heap.size 112 nO):=cB.new _ _ _;have a:∀W:zW,(Instr.makeSlice 82 (aC aD 1) (aC aD 1)).run zq W= .ok (aK (aA ⟨W.heap.size,0,aB⟩) 1 1) (W.alloc (aJ #[aL ⟨#[]⟩] 9)):=λW=>by obtain⟨i,p,o,n,m⟩:=Jv;have:=run_make (P:=zq) W 82 9 i (aL ⟨#[]⟩) ((Qz.eZ 82).trans underlying82) p o aD aD 1 1 (by omega) (Int.le_refl _) (by rw[m];omega) (by omega);rw[this,n];show Result.ok _ (W.alloc (aJ (madeCells #[aL ⟨#[]⟩] 1) 9))=_;rw[show madeCells #[Value.string ⟨#[]⟩] 1= #[aL ⟨#[]⟩]from zDx.1 (by rw[toList_madeCells_one];rfl)];rfl
 go_enter (Qz.fn func99),ntmps99;go_upto_region 1 with(fail)
 generalize w.alloc (aJ nO 112)=w0 at*;have f:=k.out.lt;have r:w0.cell? ⟨w.heap.size,2,aB⟩=aA (aK aB 0 0):=by rw[k.out.cell];rfl
 go_upto_region 3 with(fail)
 have b:Hid (zb w (w0.alloc (aJ #[aL ⟨#[]⟩] 9))):=c.out.alloc c.out.size _;have k1:Hid (cB (w0.alloc (aJ #[aL ⟨#[]⟩] 9)) w.heap.size 112 nO):=k.out.alloc _;have t1:Hid (cB (w0.alloc (aJ #[aL ⟨#[]⟩] 9)) w0.heap.size 9 #[aL ⟨#[]⟩]):=cB.new _ _ _;have l:w.heap.size<w0.heap.size:=f;generalize w0.alloc (aJ #[aL ⟨#[]⟩] 9)=w1 at*;generalize w0.heap.size=g at*;clear a r k c f;go_wp2_with (first
  |refine zGs rfl 112 _ rfl w.heap.size rfl _ _ _ _ k1.out ((Qz.eZ 112).trans underlying112) rfl (by kernel_rfl) ?_
  |fail)
 refine(Nq idx w1).mono ?_;rintro e w2 ⟨rfl,h⟩;have j:=bL b.out h b.out.size;have k2:Hid (cB w2 w.heap.size 112 nO):=k1.out.below h k1.out.lt;have t2:Hid (cB w2 g 9 #[aL ⟨#[]⟩]):=t1.out.below h t1.out.lt;clear h b k1 t1;have s:w2.cell? ⟨g,0,aB⟩=aA (aL ⟨#[]⟩):=by rw[t2.out.cell];rfl
 have f1:w2.frozen? ⟨g,0,aB⟩=aG:=t2.out.frozen _;go_upto_region 4 with(fail)
 have b3:Hid (zb w (w2.setCell ⟨g,0,aB⟩ (aL ⟨#[0]⟩))):=j.out.setCell (by simp only;omega) _;have t3:Hid (cB (w2.setCell ⟨g,0,aB⟩ (aL ⟨#[0]⟩)) g 9 #[aL ⟨#[0]⟩]):=t2.out.dT 0 _;clear s f1 j k2 t2;generalize w2.setCell ⟨g,0,aB⟩ (aL ⟨#[0]⟩)=w3 at*;go_wp2;go_loopg [7] 0 (λq x wr=>x=aC aD (-1)/\wr=w3);case atStart=>exact⟨rfl,rfl⟩
 case round=>
  obtain⟨rfl,rfl⟩:=hrel
  go_wp2
  go_ret
  exact⟨b3.out,g,rfl,by rw[t3.out.cell];rfl⟩
def Fe (idx:ByteArray)(w:zW)(d:fF w):Calls zq 84 #[.agg nO,aL idx] w λe f=>e=aM (aL ⟨(dg 2 [0]).toArray⟩)/\zb w f:=by
 have H:Hid (fF w):=d;clear d;have k:Hid (cB (w.alloc (aJ nO 112)) w.heap.size 112 nO):=cB.new _ _ _;have j:Hid (zb w (w.alloc (aJ nO 112))):=(zGm _ _).alloc (zAb _) _;go_enter (Qz.fn func84),ntmps84;go_upto_region 1 with(fail)
 generalize w.alloc (aJ nO 112)=w0 at*;have r:w0.cell? ⟨w.heap.size,0,aB⟩=aA (aC aD 2):=by rw[k.out.cell];rfl
 have q:w0.cell? ⟨w.heap.size,1,aB⟩=aA (aC aD 0):=by rw[k.out.cell];rfl
 have p:w0.cell? ⟨w.heap.size,2,aB⟩=aA (aK aB 0 0):=by rw[k.out.cell];rfl
 have o:w0.cell? ⟨w.heap.size,3,aB⟩=aA (aL ⟨#[]⟩):=by rw[k.out.cell];rfl
 have n:w0.cell? ⟨w.heap.size,4,aB⟩=aA (aL ⟨#[]⟩):=by rw[k.out.cell];rfl
 have m:w0.cell? ⟨w.heap.size,5,aB⟩=aA (aL ⟨#[]⟩):=by rw[k.out.cell];rfl
 have b:Hid (zb w w0.drew):=j.out.drew;have a:Hid (cB w0.drew w.heap.size 112 nO):=k.out;have bT:=k.out.lt;go_region_with (first
   |(go_at_call 99;refine(WS idx w0.drew).mono ?_;rintro e w1 ⟨hb,g,rfl,l⟩;
     have k1:Hid (cB w1 w.heap.size 112 nO):=a.out.below hb bT;
     have c:Hid (zb w w1):=b.out.trans (hb.mono b.out.size);
     have T:Hid (fF w1):=H.out.below c.out (zAb _);
     clear hb;
     have q0:w1.cell? ⟨w.heap.size,0,aB⟩=aA (aC aD 2):=(k1.out.cell 0).trans rfl)
   |(go_at_call 53;refine(tH 2 ⟨#[0]⟩ _ (by decide) (by decide) (by decide) T.out).mono ?_;rintro e w2 ⟨rfl,h⟩;
     have i:Hid (zb w w2):=c.out.trans (h.mono c.out.size);
     clear h))
 all_goals
  go_wp2
  go_ret
  exact⟨rfl,i.out⟩
def TD (w:zW):Calls zq 81 #[aL ⟨#[]⟩,aC aD 0] w λe a=>e=aM (.bool aG)/\a=w:=by
 go_enter (Qz.fn func81),ntmps81;go_wp2_with fail;go_loopg [5] 0 (λq i wr=>i=aC aD 0/\wr=w);case atStart=>exact⟨rfl,rfl⟩
 case round=>
  obtain⟨rfl,rfl⟩:=hrel
  go_wp2
  go_ret
  exact⟨rfl,rfl⟩
def GV:dg 2 [0]=[110,52]:=by decide+kernel
def Fg (idx:ByteArray)(w:zW)(B:fF w):Calls zq 55 #[aL ⟨#[110,52]⟩,aL idx,aL ⟨#[0,0,0]⟩] w λe m=>e=aM (.tuple #[.agg nO,aC aD 0])/\zb w m:=by
 have E:Hid (fF w):=B;clear B;go_enter (Qz.fn func55),ntmps55;go_upto_region 1 with(fail)
 refine wp_scope_jumps 0 (λ_ _=>False) (λ_ _=>0) rfl ?_ (λ_ _ h=>h.elim);go_upto_region 2 with(fail)
 have l:Hid (zb w ((w.alloc (aJ gX 112)).alloc (aJ nO 112))):=((zGm _ _).alloc (zAb _) _).alloc (by simp) _;have y:Hid (cB ((w.alloc (aJ gX 112)).alloc (aJ nO 112)) w.heap.size 112 gX):=(cB.new _ _ _).alloc _;have b3:Hid (cB ((w.alloc (aJ gX 112)).alloc (aJ nO 112)) (w.heap.size+1) 112 nO):=by have:=cB.new (w.alloc (aJ gX 112)) 112 nO;rw[size_alloc]at this;exact this
 rw[show((w.alloc (aJ #[aC aD 0,aC aD 0,aK aB 0 0,aL ⟨#[]⟩,aL ⟨#[]⟩,aL ⟨#[]⟩] 112)).alloc (aJ #[aC aD 2,aC aD 0,aK aB 0 0,aL ⟨#[]⟩,aL ⟨#[]⟩,aL ⟨#[]⟩] 112))=((w.alloc (aJ gX 112)).alloc (aJ nO 112))from rfl];generalize(w.alloc (aJ gX 112)).alloc (aJ nO 112)=w0 at*;have u:w0.cell? ⟨w.heap.size+1,0,aB⟩=aA (aC aD 2):=by rw[b3.out.cell];rfl
 go_wp2_with fail;refine(MP 2 w0 (by decide) (by decide) (E.out.below l.out (zAb _))).mono ?_;rintro e w1 ⟨rfl,b⟩;have c1:=bL l.out b l.out.size;have c2:Hid (cB w1 w.heap.size 112 gX):=y.out.below b y.out.lt;have c3:Hid (cB w1 (w.heap.size+1) 112 nO):=b3.out.below b b3.out.lt;clear l y b3 u b;rw[GV];have p:∀W,(Instr.index 9 (aL ⟨#[0,0,0]⟩) (aC aD 0)).run zq W= .ok (aC aQ 0) W:=FW ⟨#[0,0,0]⟩ 0 (by decide);have o:∀W,(Instr.index 9 (aL ⟨#[0,0,0]⟩) (aC aD 1)).run zq W= .ok (aC aQ 0) W:=FW ⟨#[0,0,0]⟩ 1 (by decide);have n:∀W,(Instr.index 9 (aL ⟨#[0,0,0]⟩) (aC aD 2)).run zq W= .ok (aC aQ 0) W:=FW ⟨#[0,0,0]⟩ 2 (by decide);have s:bits .or aD 0 0=0:=by decide
 have r:IntKind.i64.wrap 0=0:=by decide
 have d:(⟨#[0,0,0]⟩:ByteArray).extract 3 3=⟨#[]⟩:=by decide
 have k:w1.cell? ⟨w.heap.size+1,1,aB⟩=aA (aC aD 0):=by rw[c3.out.cell];rfl
 have f1:w1.frozen? ⟨w.heap.size+1,1,aB⟩=aG:=c3.out.frozen 1;have u:w1.cell? ⟨w.heap.size+1,0,aB⟩=aA (aC aD 2):=by rw[c3.out.cell];rfl
 go_wp2;refine wp_region_any (by kernel_rfl) ?_;change wpAny _ _ _ _ _ _ _ (World.drew _);refine zHd (i:=0) (v:=aL ⟨#[0,0,0]⟩) rfl (by kernel_rfl) (by kernel_rfl) (by kernel_rfl) (λ_ _ _ h=>h) (aH ⟨by rfl,λW=>by go_simp⟩) ?_;simp only[Act.put];refine zHd (i:=1) (v:=aC aQ 0) rfl (by kernel_rfl) (by kernel_rfl) (by kernel_rfl) (λ_ _ _ h=>h) (aH ⟨by rfl,λW=>by go_simp⟩) ?_;simp only[Act.put];refine zHd (i:=2) (v:=aC aD 0) rfl (by kernel_rfl) (by kernel_rfl) (by kernel_rfl) (λ_ _ _ h=>h) (aH ⟨by rfl,λW=>by go_simp⟩) ?_;simp only[Act.put];refine zHd (i:=3) (v:=aL ⟨#[0,0,0]⟩) rfl (by kernel_rfl) (by kernel_rfl) (by kernel_rfl) (λ_ _ _ h=>h) (aH ⟨by rfl,λW=>by go_simp⟩) ?_;simp only[Act.put];refine zHd (i:=4) (v:=aC aQ 0) rfl (by kernel_rfl) (by kernel_rfl) (by kernel_rfl) (λ_ _ _ h=>h) (aH ⟨by rfl,λW=>by go_simp⟩) ?_;simp only[Act.put];refine zHd (i:=5) (v:=aC aD 0) rfl (by kernel_rfl) (by kernel_rfl) (by kernel_rfl) (λ_ _ _ h=>h) (aH ⟨by rfl,λW=>by go_simp⟩) ?_;simp only[Act.put];refine zHd (i:=6) (v:=aC aD 0) rfl (by kernel_rfl) (by kernel_rfl) (by kernel_rfl) (λ_ _ _ h=>h) (aH ⟨by rfl,λW=>by go_simp⟩) ?_;simp only[Act.put];refine zHd (i:=7) (v:=aL ⟨#[0,0,0]⟩) rfl (by kernel_rfl) (by kernel_rfl) (by kernel_rfl) (λ_ _ _ h=>h) (aH ⟨by rfl,λW=>by go_simp⟩) ?_;simp only[Act.put];refine zHd (i:=8) (v:=aC aQ 0) rfl (by kernel_rfl) (by kernel_rfl) (by kernel_rfl) (λ_ _ _ h=>h) (aH ⟨by rfl,λW=>by go_simp⟩) ?_;simp only[Act.put];refine zHd (i:=9) (v:=aC aD 0) rfl (by kernel_rfl) (by kernel_rfl) (by kernel_rfl) (λ_ _ _ h=>h) (aH ⟨by rfl,λW=>by go_simp⟩) ?_;simp only[Act.put];refine zHd (i:=10) (v:=aC aD 0) rfl (by kernel_rfl) (by kernel_rfl) (by kernel_rfl) (λ_ _ _ h=>h) (aH ⟨by rfl,λW=>by go_simp⟩) ?_;simp only[Act.put];refine zHd (i:=11) (v:=aL ⟨#[0,0,0]⟩) rfl (by kernel_rfl) (by kernel_rfl) (by kernel_rfl) (λ_ _ _ h=>h) (aH ⟨by rfl,λW=>by go_simp⟩) ?_;simp only[Act.put];refine zHd (i:=12) (v:=aL ⟨#[]⟩) rfl (by kernel_rfl) (by kernel_rfl) (by kernel_rfl) (λ_ _ _ h=>h) (aH ⟨by rfl,λW=>by go_simp;rfl⟩) ?_;simp only[Act.put];refine zHd (i:=13) (v:=aO (aA ⟨w.heap.size+1,1,aB⟩)) rfl (by kernel_rfl) (by kernel_rfl) (by kernel_rfl) (λ_ _ _ h=>h) (aH ⟨by rfl,λW=>by go_simp⟩) ?_;simp only[Act.put];refine wpAny_ready (rs:=[14]) (by kernel_rfl) (by simp) ?_;refine aFr rfl (λK c=> ?_) aFs;go_simp;refine c _ _ ?_;clear c K;refine wpAny_ready (rs:=[15]) (by kernel_rfl) (by simp) ?_;refine aFr rfl (λK c=> ?_) aFs;go_simp;refine c _ _ ?_;clear c K;refine wpAny_ready (rs:=[16]) (by kernel_rfl) (by simp) ?_;refine aFr rfl (λK c=> ?_) aFs;go_simp;refine c _ _ ?_;clear c K;refine wpAny_done (by kernel_rfl) ?_ _;have d1:Hid (zb w (w1.setCell ⟨w.heap.size+1,1,aB⟩ (aC aD 0)).drew):=(c1.out.setCell (by simp) _).drew;have D:Hid (cB (w1.setCell ⟨w.heap.size+1,1,aB⟩ (aC aD 0)).drew w.heap.size 112 gX):=c2.out.bS _ _ (by simp);have d3:Hid (cB (w1.setCell ⟨w.heap.size+1,1,aB⟩ (aC aD 0)).drew (w.heap.size+1) 112 nO):=c3.out.dT 1 _;clear c1 c2 c3 k f1 u p o n s d r;generalize(w1.setCell ⟨w.heap.size+1,1,aB⟩ (aC aD 0)).drew=w2 at*;have k:w2.cell? ⟨w.heap.size+1,1,aB⟩=aA (aC aD 0):=by rw[d3.out.cell];rfl
 have z:Hid (∀W:zW,Calls zq 80 #[aC aD 0] W λe m=>e=aM (aC aD 0)/\m=W):=λW=>VG 0 W (by decide);go_wp2_with fail;refine(z.out w2).mono ?_;rintro e w3 ⟨rfl,g⟩;obtain rfl:w2=w3:=g.symm;clear g;have d:(⟨#[]⟩:ByteArray).extract 0 0=⟨#[]⟩:=by decide
 go_wp2;go_quiet ((exact zGx (z.out _)));have t:Hid (zb w (w2.drewN nq)):=below_drewN d1.out nq;have C:Hid (cB (w2.drewN nq) w.heap.size 112 gX):=D.out.drewN nq;have j:Hid (cB (w2.drewN nq) (w.heap.size+1) 112 nO):=d3.out.drewN nq;clear d1 D d3 k z d;generalize w2.drewN nq=w3 at*;go_wp2_with fail;refine(TD w3).mono ?_;rintro e w4 ⟨rfl,f⟩;obtain rfl:w3=w4:=f.symm;clear f;go_wp2;go_loopg [2,64] 0 (λq x i wr=>x=aL ⟨#[]⟩/\i=aC aD 0/\wr=w3);case atStart=>exact⟨rfl,rfl,rfl⟩
 case round=>
  obtain⟨rfl,rfl,rfl⟩:=hrel
  have k:wr.cell? ⟨w.heap.size+1,1,aB⟩=aA (aC aD 0):=by rw[j.out.cell];rfl
  have H:Hid (fF wr):=E.out.below t.out (zAb _)
  go_wp2_with (first
   |refine zGs rfl 112 _ rfl (w.heap.size+1) rfl _ _ _ _ j.out ((Qz.eZ 112).trans underlying112) rfl (by kernel_rfl) ?_)
  refine(Fe idx wr H.out).mono ?_
  rintro e A ⟨rfl,a⟩
  have I:=bL t.out a t.out.size
  have F:Hid (cB A w.heap.size 112 gX):=C.out.below a C.out.lt
  have G:Hid (cB A (w.heap.size+1) 112 nO):=j.out.below a j.out.lt
  clear a
  rw[GV]
  go_wp2_with (first
   |refine zGs rfl 112 _ rfl (w.heap.size+1) rfl _ _ _ _ G.out ((Qz.eZ 112).trans underlying112) rfl (by kernel_rfl) ?_
   |refine zGu rfl 112 _ _ rfl w.heap.size nO rfl rfl _ _ F.out (by kernel_rfl) rfl (by kernel_rfl) ?_)
  simp only[Exit.jump]
  exact zGz (rL results55 _ _ w.heap.size _ _ _ _ rfl (F.out.eG _) ((Qz.eZ 112).trans underlying112) rfl (by kernel_rfl) (aC aD 0) rfl) rfl ⟨rfl,cZ I.out (zAb _) _⟩
def Fa (w:zW):Calls zq 56 #[.agg nO] w λe a=>e=aM (.agg (kD 2 []))/\zb w a:=by
 go_enter (Qz.fn func56),ntmps56;go_upto_region 1 with(fail)
 have k:Hid (cB ((w.alloc (aJ nO 112)).alloc (aJ dF 76)) w.heap.size 112 nO):=(cB.new _ _ _).alloc _;have z0:Hid (cB ((w.alloc (aJ nO 112)).alloc (aJ dF 76)) (w.heap.size+1) 76 dF):=by have:=cB.new (w.alloc (aJ nO 112)) 76 dF;rw[size_alloc]at this;exact this
 have b:Hid (zb w ((w.alloc (aJ nO 112)).alloc (aJ dF 76))):=((zGm _ _).alloc (zAb _) _).alloc (by simp) _;rw[show((w.alloc (aJ nO 112)).alloc (aJ #[aC aD 0,aL ⟨#[]⟩] 76))=((w.alloc (aJ nO 112)).alloc (aJ dF 76))from rfl];generalize(w.alloc (aJ nO 112)).alloc (aJ dF 76)=W at*;have c:W.cell? ⟨w.heap.size,1,aB⟩=aA (aC aD 0):=by rw[k.out.cell];rfl
 go_wp2_with (refine zGu rfl 76 _ _ rfl (w.heap.size+1) _ rfl rfl _ _ z0.out (by kernel_rfl) rfl (by kernel_rfl) ?_);exact zGz (results_cell_row results56 _ _ (w.heap.size+1) _ _ _ _ rfl (z0.out.eG _) ((Qz.eZ 76).trans underlying76) rfl (by kernel_rfl)) rfl ⟨rfl,cZ b.out (by omega) _⟩
def QJ (idx:ByteArray)(w:zW)(hi:idx.size=32)(d:fF w):Calls zq 34 #[aL ⟨#[110,52]⟩,aL idx,aL ⟨#[0,0,0]⟩] w λe i=>zb w i/\e=aM (.tuple #[.agg (kD 2 []),aC aD 0]):=by
 have H:Hid (fF w):=d;clear d;have z0:Hid (cB (w.alloc (aJ dF 76)) w.heap.size 76 dF):=cB.new _ _ _;have b:Hid (zb w (w.alloc (aJ dF 76))):=(zGm _ _).alloc (zAb _) _;go_enter (Qz.fn func34),ntmps34;go_wp2_with fail;refine(YK ⟨#[110,52]⟩ idx _ (by decide) (by decide) hi).mono ?_;rintro e w2 ⟨rfl,a⟩;obtain rfl:=a.symm;clear a;go_wp2_with fail;refine(Fg idx (w.alloc (aJ dF 76)) (H.out.below b.out (zAb _))).mono ?_;rintro e w1 ⟨rfl,hb⟩;have c:Hid (zb w w1):=b.out.trans (hb.mono (by rw[size_alloc];omega));have g:Hid (cB w1 w.heap.size 76 dF):=z0.out.below hb z0.out.lt;have j:w.heap.size<w1.heap.size:=g.out.lt;have y:Hid (cB (w1.alloc (aJ gX 112)) w1.heap.size 112 gX):=cB.new _ _ _;have K:Hid (cB ((w1.alloc (aJ gX 112)).setRow w1.heap.size nO) w1.heap.size 112 nO):=y.out.eG _;have Z:Hid (cB ((w1.alloc (aJ gX 112)).setRow w1.heap.size nO) w.heap.size 76 dF):=(g.out.alloc _).KN _ (by omega);have B:Hid (zb w ((w1.alloc (aJ gX 112)).setRow w1.heap.size nO)):=cZ (c.out.alloc c.out.size _) c.out.size _;clear hb b z0;go_wp2_with (first
  |refine zGu rfl 112 _ _ rfl w1.heap.size nO rfl rfl _ _ y.out (by kernel_rfl) rfl (by kernel_rfl) ?_
  |refine zGs rfl 112 _ rfl w1.heap.size rfl _ _ _ _ K.out ((Qz.eZ 112).trans underlying112) rfl (by kernel_rfl) ?_)
 refine(Fa ((w1.alloc (aJ gX 112)).setRow w1.heap.size nO)).mono ?_;rintro e w2 ⟨rfl,h⟩;have k:=bL B.out h B.out.size;have f:Hid (cB w2 w.heap.size 76 dF):=Z.out.below h Z.out.lt;clear h B Z K;go_wp2_with (refine zGu rfl 76 _ _ rfl w.heap.size (kD _ _) rfl rfl _ _ f.out (by kernel_rfl) rfl (by simp[kD,Value.oneCell']) ?_);exact zGz (rL results34 _ _ w.heap.size _ _ _ _ rfl (f.out.eG _) ((Qz.eZ 76).trans underlying76) rfl (by kernel_rfl) _ rfl) rfl ⟨cZ k.out (zAb _) _,rfl⟩
def YY (w:zW)(f:fF w):Calls zq 13 #[] w λe i=>e=aM (.bool aF)/\zb w i:=by have H:Hid (fF w):=f;clear f;go_enter (Qz.fn func13),ntmps13;go_wp2_with fail;refine(GQ 2 ⟨#[97,98,99]⟩ w (by omega) (by omega) (by decide) H.out).mono ?_;rintro e w1 ⟨rfl,b⟩;have d:Hid (zb w w1):=b;clear b;rw[show Zj 2 (⟨#[97,98,99]⟩:ByteArray).data.toList=Zj 2 [97,98,99]from rfl,Nu];go_wp2_with fail;refine(sW 0 w1 (by omega) (by omega)).mono ?_;rintro e w2 ⟨rfl,a⟩;have B:=bL d.out a d.out.size;clear a d;have c:=kK 0;generalize idxOf 0=I at*;go_wp2_with fail;refine(QJ ⟨I.toArray⟩ w2 (by show I.toArray.size=32;simpa using c) (H.out.below B.out (zAb _))).mono ?_;rintro e w3 ⟨h,rfl⟩;have g:=bL B.out h B.out.size;clear h B;simp only[kD];go_wp2;go_ret;exact⟨rfl,g.out.alloc g.out.size _⟩
def iS (s:St):Nat->List bK
 |0=>[]
 |n+1=>iS s n++((s (63-n)).map λv=>(⟨ix (63-n),v,aG⟩:bK)).toList
def qA (s:St)(u:bK):∀n,n<=64->(u∈iS s n↔∃m v,m<64/\64<=m+n/\s m=aA v/\u=⟨ix m,v,aG⟩)
 |0,_=>⟨λh=>(zAo h).elim,λ⟨m,v,a,e,_⟩=>by omega⟩
 |n+1,h=>by
  rw[iS,zAi,qA s u n (by omega),Option.mem_toList,zBn];constructor
  .rintro(⟨m,v,a,e,c,b⟩|⟨v,a,e⟩)
   .exact⟨m,v,a,by omega,c,b⟩
   .exact⟨63-n,v,by omega,by omega,a,e.symm⟩
  .rintro⟨m,v,a,e,c,b⟩;by_cases f:m=63-n
   .subst f;exact aI ⟨v,c,b.symm⟩
   .exact aH ⟨m,v,a,by omega,c,b⟩
def AH (s:St):∀n,(iS s n).length<=n
 |0=>zAb _
 |n+1=>by rw[iS,zAc];have:=AH s n;cases s (63-n)<;>simp<;>omega
def Hj {s:St}(h:MO s):bI [] (cF (iS s 64))=fV s:=by
 have b:∀u∈cF (iS s 64),u.idx.length=32/\u.val.length<=100:=λu i=>by obtain⟨m,v,f,_,c,rfl⟩:=(qA s u 64 (zAb _)).1 (mL i);exact⟨tR m,h m v c⟩
 refine CY.same (CY.cP (l:=[]) ?_ b) (MU h) ?_
 .have:=MU (s:=λ_=>aB) (λ_ _ h=>by cases h);have e:fV (λ_=>aB)=[]:=by{decide+kernel};rw[e]at this;exact this
 .rw[sL,nG];show cP [] (cF (iS s 64))=_;rw[wQ List.Pairwise.nil];refine tM (qL List.Pairwise.nil) (DX s) λI=> ?_;rw[qT];cases hl:(dA I (iS s 64)).getLast? with
  |some u=>have a:u∈dA I (iS s 64):=List.mem_of_getLast? hl;unfold dA at a;rw[zBb]at a;obtain⟨m,v,f,_,c,rfl⟩:=(qA s u 64 (zAb _)).1 a.1;have e:ix m=I:=by{simpa using a.2};rw[<-e,Wi h m f,c];rfl
  |none=>
   have n:=zGe.1 hl;symm;refine fN λe p q=> ?_;obtain⟨k,k1,k2,g⟩:=sE p;have:(⟨ix k,e.2,aG⟩:bK)∈dA I (iS s 64):=by unfold dA;rw[zBb];exact⟨(qA s _ 64 (zAb _)).2 ⟨k,e.2,k1,by omega,g,rfl⟩,by simp[<-q,k2]⟩
   rw[n]at this;cases this
def uQ (k:Nat)(rs:Nat->zII)(j:Nat):zB:=kQ k (bH (fV (cU rs j))) 0
def mA (w:zW)(N:Nat)(s:St):Prop:=w.heap[N]? =aA (aJ (dR s) 43 (0,0))
structure yH (w0:zW)(rs:Nat->zII)(d k win tt o ho ot bo j:Nat)(hd:zB)(w:zW):Prop where
 nd:d≠o
 nt:tt≠ot
 dw:w0.heap.size<=d
 tw:w0.heap.size<=tt
 ow:w0.heap.size<=o/\w0.heap.size<=ho/\w0.heap.size<=ot/\w0.heap.size<=bo
 dir:∃f m hb dG b cap H,cH w d k win f hb dG tt (KO j) b cap (rT rs f m) H/\f+m=j+1/\1<=m/\m<=win/\w0.heap.size<=hb/\w0.heap.size<=b/\hb≠ho/\b≠bo/\H[m-1]? =aA hd
 Qa:cH w o k 1 0 ho 1 ot 100000 bo 1 [[]] [dg k [3]]
 base:zb w0 w
section
variable {w0 w w':zW}{rs:Nat->zII}{d k win tt o ho ot bo j:Nat}{hd:zB}
def UG {d c t b:Nat}(a:∀x,¬eC w0 x)(B:zb w0 w)(hs:dI (kM w d c t b) w w')(i:w0.heap.size<=c)(g:w0.heap.size<=b)(f:w0.heap.size<=d)(e:w0.heap.size<=t):zb w0 w':=Ai B hs (λx h=>by
 obtain rfl|rfl|rfl|rfl|h:=h
 .exact f
 .exact i
 .exact e
 .exact g
 .exact Nat.le_of_not_lt λbT=>a x (h.same (B.block x bT).symm)) B.size
def yH.below (h:yH w0 rs d k win tt o ho ot bo j hd w)(e:zb w w'):yH w0 rs d k win tt o ho ot bo j hd w':=by obtain⟨f,m,c,a,b,cap,H,D,r⟩:=h.dir;exact⟨h.nd,h.nt,h.dw,h.tw,h.ow,⟨f,m,c,a,b,cap,H,D.below e (zAb _),r⟩,h.Qa.below e (zAb _),bL h.base e h.base.size⟩
def yH.vC {N:Nat}{s:St}{cs:zA}(h:yH w0 rs d k win tt o ho ot bo j hd w)(l:mA w N s)(i:w0.heap.size<=N)(a:zq.globals.size<N):yH w0 rs d k win tt o ho ot bo j hd (w.setRow N cs):=by obtain⟨f,m,g,c,b,cap,H,D,r⟩:=h.dir;have e:=iD w N cs;exact⟨h.nd,h.nt,h.dw,h.tw,h.ow,⟨f,m,g,c,b,cap,H,D.other e l (by decide) a,r⟩,h.Qa.other e l (by decide) a,PG h.base e i h.base.size⟩
def Ll {N:Nat}{s:St}{k win first e c t room b cap:Nat}{S:List (List bK)}{H:zLL}(D:cH w d k win first e c t room b cap S H)(a:mA w N s)(hs:dI (kM w d e t b) w w'):mA w' N s:=by
 obtain⟨ch,f,_⟩:=dZ.row D.eQ;obtain⟨i,g⟩:=D.uX.Yg;obtain⟨ct,t1⟩:=D.uX.Wc;refine(hs.block N (zAa.1 a).1 λh=> ?_).trans a;obtain h|h|h|h|h:=h
 .exact fB a D.at' (by decide) h
 .exact fB a f (by decide) h
 .exact fB a t1 (by decide) h
 .exact fB a g (by decide) h
 .exact h.ne a (by decide) rfl
def yH.apply {base:Nat}{v:zY}(z:∀x,¬eC w0 x)(h:yH w0 rs d k win tt o ho ot bo j hd w)(V:cI w base v (((rs j).take 20).map dQ))(R:win<=20)(T:j<20):
  Calls zq 19 #[aO (aA ⟨d,0,aB⟩),v] w (RF λx w'=>x= .tuple #[aC aD ((j:Int)+1),aC aD 0]/\yH w0 rs d k win tt o ho ot bo (j+1) (dg k (3::(hd++eight (j+1)++uQ k rs (j+1)))) w'/\∀N s,mA w N s->mA w' N s):=by
 obtain⟨f,m,hb,P,b,cap,H,D,q,C,B,I,G,F,E,Y⟩:=h.dir;refine(Ii rs D V q C B R T).mono λe w' U=>RF.mono U λx=> ?_;rintro⟨rfl,HX,f',u,J,a,b',t,⟨r,A,i⟩,Z,O,p,n,l,g,c,y⟩;have X:H.length=m:=by rw[D.hlen,xV]
 have e:r=hd:=zAk (A.symm.trans Y);subst e;rw[q]at i;have L:HX=dg k (3::(r++eight (j+1)++uQ k rs (j+1))):=i;have hz:=h.base.size;have K:=h.Qa.apart D (zDi h.nd) (zDi F) (zDi h.nt) (zDi E);have S:ho<w.heap.size:=h.Qa.bT;have M:bo<w.heap.size:=h.Qa.uX.blt;refine⟨rfl,⟨h.nd,h.nt,h.dw,h.tw,h.ow,⟨f',u,J,a,b',t,_,Z,p,n,l,by obtain h|h:=g<;>omega,by obtain h|h:=c<;>omega,by obtain h|h:=g<;>omega,by obtain h|h:=c<;>omega,?_⟩,h.Qa.beside y K,UG z h.base y I G h.dw h.tw⟩,λN s W=>Ll D W y⟩;rw[<-L];by_cases Q:win<m+1
 .rw[zAv Q]at O⊢;rw[zEh,zBh (by omega),show 1+(u-1)-H.length=0 by omega];rfl
 .rw[zAt Q]at O⊢;rw[zBh (by omega),show u-1-H.length=0 by omega];rfl
def yH.root (h:yH w0 rs d k win tt o ho ot bo j hd w):Calls zq 21 #[aO (aA ⟨d,0,aB⟩),aC aD (j:Int)] w (RF λx w'=>x= .tuple #[aL ⟨(uQ k rs j).toArray⟩,aC aD 0]/\zb w w'):=by obtain⟨f,m,g,a,b,cap,H,D,e,c,_⟩:=h.dir;have:=tA D (i:=m-1) (us:=fV (cU rs j)) (by rw[GI rs _ _ _ (by omega),show f+(m-1)=j by omega]);rw[show(f:Int)+((m-1:Nat):Int)=(j:Int) by omega]at this;exact this
def yH.head (h:yH w0 rs d k win tt o ho ot bo j hd w):Calls zq 16 #[aO (aA ⟨d,0,aB⟩),aC aD (j:Int)] w λe w'=>e=aM (.tuple #[aL ⟨hd.toArray⟩,aC aD 0])/\zb w w':=by obtain⟨f,m,l,a,b,cap,H,D,g,c,_,_,_,_,_,i⟩:=h.dir;have:=UR D i;rw[show(f:Int)+((m-1:Nat):Int)=(j:Int) by omega]at this;exact this
structure Uy (d o j:Nat)(r:zB)(w:zW):Prop where
 kept:∀W,zb w W->Calls zq 23 #[aO (aA ⟨d,0,aB⟩)] W λe w'=>∃f:Nat,e=aM (.tuple #[aC aD (f:Int),aC aD (j:Int)])/\zb W w'
 one:∀W,zb w W->Calls zq 21 #[aO (aA ⟨d,0,aB⟩),aC aD (j:Int)] W (RF λv w'=>v= .tuple #[aL ⟨r.toArray⟩,aC aD 0]/\zb W w')
 two:∀W,zb w W->Calls zq 21 #[aO (aA ⟨o,0,aB⟩),aC aD 1] W (RF λv w'=>v= .tuple #[aL ⟨r.toArray⟩,aC aD 0]/\zb W w')
def yH.other {base:Nat}{v:zY}(p:∀x,¬eC w0 x)(h:yH w0 rs d k win tt o ho ot bo j hd w)(N:cI w base v (iS (cU rs j) 64))(T:j<=20):
  Calls zq 19 #[aO (aA ⟨o,0,aB⟩),v] w (RF λx w'=>x= .tuple #[aC aD 1,aC aD 0]/\Uy d o j (uQ k rs j) w'/\zb w0 w'):=by
 have a:bI [] (cF (iS (cU rs j) 64))=fV (cU rs j):=Hj (yF rs j);have hlen:=AH (cU rs j) 64;have g:=ML (room:=91871) (nw:=8127) (S0:=[]) (last:=[]) (iS (cU rs j) 64) v base h.Qa N (by omega) (λu F=>by
  obtain⟨m,v,A,_,P,rfl⟩:=(qA _ u 64 (zAb _)).1 F;exact⟨tR m,yF rs j m v P,λh=>by cases h⟩) (by decide) (by rw[a];have:=Ba (cU rs j);omega) (by
  rw[a,Ge,nG];exact Lp _) (by omega) (by omega) (by omega)
 rw[a]at g;refine g.mono λe w' K=>RF.mono K λx=> ?_;rintro⟨rfl,s,c,R,n,X,_,O,E,C,y⟩;obtain⟨f,m,U,z,b,cap,H,D,J,I,G,M,L,r,q,V⟩:=h.dir;have B:=D.beside y (D.apart h.Qa h.nd r h.nt q);have t:cH w' o k 1 1 s c ot 91871 R n [fV (cU rs j)] _:=O;refine⟨rfl,⟨λW l=> ?_,λW l=> ?_,λW l=> ?_⟩,UG p h.base y h.ow.2.1 h.ow.2.2.2 h.ow.1 h.ow.2.2.1⟩
 .refine(TL (B.below l (zAb _))).mono λe w2 ⟨A,Q⟩=>⟨f,?_,Q⟩;rw[A,xV,show(f:Int)+(m:Int)-1=(j:Int) by omega]
 .have:=tA (B.below l (zAb _)) (i:=m-1) (us:=fV (cU rs j)) (by rw[GI rs _ _ _ (by omega),show f+(m-1)=j by omega]);rw[show(f:Int)+((m-1:Nat):Int)=(j:Int) by omega]at this;exact this
 .exact tA (t.below l (zAb _)) (i:=0) rfl
end
structure IN (w:zW)(va:zO)(E:List (zII)):Prop where
 OF:∀i l,E[i]? =aA l->∃g o ev,va=aA ⟨g,o,aB⟩/\g<w.heap.size/\w.cell? ⟨g,o+i,aB⟩=aA ev/\tF w ev l/\l.length<=4611686018427387904
section
variable {P:zZ}{o:Oper}{ev:Operand->zY}{w:zW}
def JI (ty:zD)(x:Operand)(b:o.op= .load ty x)(g p:Nat)(h:ev x=aO (aA ⟨g,p,aB⟩))(t:zD)(cur cs:zA)(fr:Nat×Nat)(d:TypeDesc)(c:w.heap[g]? =aA (aJ cur t fr))(f:∀j v,cs.toList[j]? =aA v->cur[p+j]? =aA v)
  (a:P.underlying ty=aA d) (e:(match d with| .struct _| .array _ _=>aF|_=>aG)=aF) (hi:(P.info? ty).map (·.size)=aA cs.size):(execOp ev o).run P w= .ok (.value (.agg cs)) w:=by
 unfold execOp;simp only[b,h,Instr.loadAt,Instr.sureAddr,Sem.run_bind,Sem.run_pure,Result.andThen_ok,run_loadVar_mid w g p t ty cur cs fr d c f a e hi]
end
def ND (s):(zq.info? 43).map (·.size)=aA (dR s).size:=by rw[kV];kernel_rfl
def FF (l a:zV)(h:l.length=a.length):over l 0 a=a:=by unfold over;rw[zFd,zCk,zAz,List.drop_of_length_le (by omega),zAq]
def UO {n:Nat}(h:n<=20):eight n=[0,0,0,0,0,0,0,aEX n]:=by
 have:∀n,n<21->eight n=[0,0,0,0,0,0,0,aEX n]:=by decide
 exact this n (by omega)
def VB (va:zO)(vc:Nat)(E:List (zII))(X wo:Int)(w:zW)(hB:Base w)(jd:∀x,¬eC w x)(hE:IN w va E)(hEl:E.length<=4611686018427387904)(h1: -9223372036854775808<=X)(h2:X<=9223372036854775807)(h3: -9223372036854775808<=wo)(h4:wo<=9223372036854775807):
  Calls zq 5 #[aK va E.length vc,aC aD X,aC aD wo] w (RF λx s=>x= .bool aF/\zb w s):=by
 obtain⟨a,ha,_⟩:=iL X 32 (by omega);obtain⟨c,hc,_⟩:=iL wo 20 (by omega);have Tc:dV X 32=(a:Int):=ha;have qh:dV wo 20=(c:Int):=hc;obtain⟨k,hka⟩:∃k,k=a+1:=⟨_,rfl⟩;obtain⟨b,hwc⟩:∃b,b=c+1:=⟨_,rfl⟩;have hk:(k:Int)=1+dV X 32:=by omega
 have hw:(b:Int)=1+dV wo 20:=by omega
 have cm:1<=b:=by omega
 have cg:b<=20:=by omega
 have jk:1<=k:=by omega
 have n:k<=32:=by omega
 have Sz:((1:Nat):Int)=1+dV 0 20:=by decide
 have HP:Hid (∀W,Calls zq 15 #[aC aD X,aC aD 32] W λe s=>e=aM (aC aD (a:Int))/\s=W):=λW=>by have:=pW X 32 W h1 h2 (by omega) (by omega);rw[Tc]at this;exact this
 have js:(1:Int)+(a:Int)=(k:Int):=by omega
 have HAK:Hid ((1:Int)+(a:Int)=(k:Int)):=js;have hgl:zq.globals.size<w.heap.size:=hB.low;have HB:Hid (Base w):=hB;have yw:Hid (∀x,¬eC w x):=jd;have HE:Hid (IN w va E):=hE;clear hB hE jd ha hc Tc qh hka hwc js;obtain⟨I,ov⟩:∃I,I=E.length:=⟨_,rfl⟩;have yy:Hid (I=E.length):=ov;rw[<-ov]at hEl⊢;clear ov;go_enter (Qz.fn func5),ntmps5;go_wp2_with fail;refine(YY w HB.out.gW).mono ?_;rintro e w1 ⟨rfl,Xk⟩;have B1:Hid (zb w w1):=Xk;have H1:Hid (Base w1):=HB.out.below Xk (zAb _);clear Xk;dsimp only;go_wp2_with fail;refine(uV X wo k b w1 H1.out h1 h2 h3 h4 hk hw).mono ?_;rintro e w2 ⟨d,hb,u,bb,rfl,hD,g1,g2,g3,g4,Q⟩;have B2:Hid (zb w w2):=bL B1.out Q B1.out.size;have H2:Hid (Base w2):=HB.out.below B2.out (zAb _);have D2:Hid (cH w2 d k b 0 hb 1 u 100000 bb 1 [[]] [dg k [3]]):=hD;have hz:=B1.out.size;clear Q hD H1;dsimp only;go_wp2_with fail;refine(uV X 0 k 1 w2 H2.out h1 h2 (by omega) (by omega) hk Sz).mono ?_;rintro e w3 ⟨o,A,z,D,rfl,yi,q1,q2,q3,q4,Z⟩;obtain⟨rs,vo⟩:∃rs:Nat->zII,rs=λj=>E.getD j []:=⟨_,rfl⟩;have HRS:Hid (∀i l,E[i]? =aA l->rs i=l):=λi l h=>by rw[vo];show E.getD i []=l;rw[zCt,h];rfl
 have hz2:=B2.out.size;have C3:Hid (yH w rs d k b u o A z D 0 (dg k [3]) w3):=by have e1:=D2.out.lt;have e2:=D2.out.uX.Wa;have e3:=D2.out.bT;have e4:=D2.out.uX.blt;exact⟨by omega,by omega,by omega,by omega,⟨by omega,by omega,by omega,by omega⟩,⟨0,1,hb,1,bb,1,_,D2.out.below Z (zAb _),rfl,zAb _,cm,by omega,by omega,by omega,by omega,rfl⟩,yi,bL B2.out Z B2.out.size⟩
 clear vo Z yi D2 B1 B2 H2 g1 g2 g3 g4 q1 q2 q3 q4 hz hz2 hk hw Sz;dsimp only;go_wp2_with fail;refine(HP.out _).mono ?_;rintro e w4 ⟨rfl,hw4⟩;subst hw4;dsimp only;have js:=HAK.out;have HH:=C3.out.head;go_wp2_with fail;refine HH.mono ?_;clear HH;rintro e w5 ⟨rfl,O⟩;have C5:Hid (yH w rs d k b u o A z D 0 (dg k [3]) w5):=C3.out.below O;clear O C3;dsimp only;go_wp2_with fail;refine(EP k ⟨#[3]⟩ w5 jk n (by decide) C5.out.Qa.uX.gW).mono ?_;rintro e w6 ⟨rfl,Zh⟩;have C6:Hid (yH w rs d k b u o A z D 0 (dg k [3]) w6):=C5.out.below Zh;clear Zh C5;have e3:(⟨#[3]⟩:ByteArray).data.toList=[3]:=rfl;rw[e3];have H0:Hid ((dg k [3]).length<=32):=by show(dg k [3]).length<=32;rw[nE k [3] n];exact n
 generalize dg k [3]=dv at*;clear e3 js;dsimp only;have f:zeroCells43=dR (cU rs 0):=by have e:zeroCells43=dR (λ_=>aB):=by{kernel_rfl};exact e
 have K7:Hid (cB (w6.alloc (aJ zeroCells43 43)) w6.heap.size 43 (dR (cU rs 0))):=by rw[<-f];exact cB.new _ _ _
 have C7:Hid (yH w rs d k b u o A z D 0 dv (w6.alloc (aJ zeroCells43 43))):=C6.out.below ((zGm _ _).alloc (zAb _) _);have xy:w.heap.size<=w6.heap.size:=C6.out.base.size;go_upto_region 11 with(refine wpList_store_mid rfl 43 _ _ rfl w6.heap.size 0 zeroCells43 rfl rfl 43 _ K7.out (by rw[f];exact ND _) (by rw[f,kV];exact zAb _) (by rw[f];exact KH _) ?_)
 rw[f]at*;rw[FF _ _ rfl,aFn];have N8:Hid (mA ((w6.alloc (aJ (dR (cU rs 0)) 43)).setRow w6.heap.size (dR (cU rs 0))) w6.heap.size (cU rs 0)):=cB.eG K7.out _;have C8:Hid (yH w rs d k b u o A z D 0 dv ((w6.alloc (aJ (dR (cU rs 0)) 43)).setRow w6.heap.size (dR (cU rs 0)))):=C7.out.vC K7.out xy (by omega);generalize(w6.alloc (aJ (dR (cU rs 0)) 43)).setRow w6.heap.size (dR (cU rs 0))=w7 at*;clear K7 C6 f;generalize w6.heap.size=N at*;go_wp2_with fail;go_loopg [11,14] 20 (λq hv i wr=>∃(j:Nat)(F:zB),j+q=20/\j<=I/\hv=aL ⟨F.toArray⟩/\i=aC aD (j:Int)/\F.length<=32/\yH w rs d k b u o A z D j F wr/\mA wr N (cU rs j));case atStart=>exact⟨0,dv,by omega,by omega,rfl,rfl,H0.out,C8.out,N8.out⟩
 case round=>
  obtain⟨j,F,hj,hjn,rfl,rfl,xj,hC,hN⟩:=hrel
  have CA:Hid (yH w rs d k b u o A z D j F wr):=hC
  have NA:Hid (mA wr N (cU rs j)):=hN
  clear hC hN C8 N8 H0
  obtain⟨bT,dh⟩|⟨bT,dh⟩|bT:=(show(j<I/\j<20)\/(j<I/\¬j<20)\/¬j<I by omega)
  .have hu:=zAh (l:=E) (i:=j) (by have:=yy.out;omega);generalize E[j]'(by have:=yy.out;omega)=l at hu;obtain⟨g,G,ev,rfl,hg,y,cz,hlen⟩:=HE.out.OF j l hu;have yv:Hid (rs j=l):=HRS.out j l hu;have HR:Hid (tF w ev l):=cz;have yo:Hid (∀W,zb w W->Calls zq 18 #[.agg (dR (cU rs j)),ev] W λe s=>e=aM (.agg (dR (cU rs (j+1))))/\zb W s):=λW hW=>by
    have:=Jd (cU rs j) ev l W (HR.out.below hW (zAb _)) hlen;rw[<-yv.out]at this;exact this
   have HCE:Hid (w.cell? ⟨g,G+j,aB⟩=aA ev):=y;have Mq:wr.cell? ⟨g,G+j,aB⟩=aA ev:=by{rw[CA.out.base.cell (p:=⟨g,G+j,aB⟩) hg];exact y};have jl:(j:Int)<(I:Int):=by{omega};have hj2:(j:Int)<20:=by{omega};have Un:¬((j:Int)<0):=by{omega};have hj3:(0:Int)<=(j:Int):=by{omega};clear hu cz y;go_upto_region 14 with(fail)
   have H:(λs:zW=>s.heap[N]? =aA (aJ (dR (cU rs j)) 43 (0,0))/\s.cell? ⟨g,G+j,aB⟩=aA ev) wr.drew:=⟨NA.out,Mq⟩;refine AnyX.lM (λs=>s.heap[N]? =aA (aJ (dR (cU rs j)) 43 (0,0))/\s.cell? ⟨g,G+j,aB⟩=aA ev) (λi=>i==6) (by kernel_rfl) ?_;refine AnyX.rW (i:=0) (v:= .agg (dR (cU rs j))) rfl (by kernel_rfl) (λ_ _ _ h=>h) (aH ⟨by rfl,λW hW=>by obtain⟨q1,q2⟩:=hW;exact JI 43 _ rfl N 0 rfl _ _ _ _ _ q1 (λp v hv=>by rw[zAz,<-zBt];exact hv) ((Qz.eZ 43).trans underlying43) rfl (ND _)⟩) H ?_;simp only[Act.put];refine AnyX.tk 1 (aK (aA ⟨g,G,aB⟩) I vc) H ?_;simp only[Act.put];refine AnyX.tk 2 (aC aD (j:Int)) H ?_;simp only[Act.put];refine AnyX.tk 3 (aO (aA ⟨g,G+j,aB⟩)) H ?_;simp only[Act.put];refine AnyX.tk 4 (ev) H ?_;simp only[Act.put];refine AnyX.cA (i:=5) (by kernel_rfl) rfl (λK r=> ?_);go_simp;refine(yo.out _ (lG CA.out.base)).mono ?_;rintro e w5 ⟨rfl,O⟩;have b5:Hid (zb wr w5):=yL O;have N5:Hid (mA w5 N (cU rs j)):=(b5.out.block N (zAa.1 NA.out).1).trans NA.out;have c5:w5.cell? ⟨g,G+j,aB⟩=aA ev:=by{rw[b5.out.cell (p:=⟨g,G+j,aB⟩) (by show g<_;have:=CA.out.base.size;omega)];exact Mq};clear O;dsimp only;refine r.out _ _ (λ_=>⟨N5.out,c5⟩) ?_;clear r K H;refine AnyX.cA (i:=6) (by kernel_rfl) rfl (λK r=> ?_);refine DV rfl 43 _ _ rfl N 0 (dR (cU rs (j+1))) rfl rfl 43 (dR (cU rs j)) N5.out (ND _) (by rw[kV,kV];omega) (KH _) ?_;refine r.out _ _ (λh=>AnyX.iA h (by kernel_rfl)) ?_;clear r K;refine AnyX.lO (by kernel_rfl) ?_ _;rw[FF _ _ (by rw[zCx,zCx,kV,kV]),aFn];have C6:Hid (yH w rs d k b u o A z D j F (w5.setRow N (dR (cU rs (j+1))))):=(CA.out.below b5.out).vC N5.out xy (by omega);have N6:Hid (mA (w5.setRow N (dR (cU rs (j+1)))) N (cU rs (j+1))):=cB.eG N5.out _;generalize w5.setRow N (dR (cU rs (j+1)))=w6 at*;have c6:w6.cell? ⟨g,G+j,aB⟩=aA ev:=by{rw[C6.out.base.cell (p:=⟨g,G+j,aB⟩) hg];exact HCE.out};clear c5 Mq b5 N5 CA NA yo;simp only[Act.put,zBo,zDa,zCq];go_wp2_with fail;refine(Ic ev l w6 (HR.out.below C6.out.base (zAb _)) hlen).mono ?_;rintro e w7 ⟨v7,rfl,xw,qn⟩;have O7:Hid (cI w7 w6.heap.size v7 (((rs j).take 20).map dQ)):=by{rw[yv.out];exact xw};have C7:Hid (yH w rs d k b u o A z D j F w7):=C6.out.below qn;have N7:Hid (mA w7 N (cU rs (j+1))):=(qn.block N (zAa.1 N6.out).1).trans N6.out;clear xw qn c6 C6 N6;dsimp only;have U:=C7.out.apply yw.out O7.out cg (by omega);go_wp2_with fail;refine U.mono ?_;clear U;rintro e w8 (⟨_,rfl,rfl,rl,xz⟩|⟨c,rfl,he⟩);rotate_left;{exact⟨rfl,.told he⟩};obtain⟨J,ps⟩:∃J,J=dg k (3::(F++eight (j+1)++uQ k rs (j+1))):=⟨_,rfl⟩;rw[<-ps]at rl;have th:Hid (dg k (3::(F++eight (j+1)++uQ k rs (j+1)))=J):=ps.symm;have C8:Hid (yH w rs d k b u o A z D (j+1) J w8):=rl;have N8:Hid (mA w8 N (cU rs (j+1))):=xz _ _ N7.out;clear rl xz N7 C7 O7 ps;dsimp only;have M:((j+1:Nat):Int)=(j:Int)+1:=by{omega};have te:=C8.out.root;rw[M]at te;go_wp2_with fail;refine te.mono ?_;clear te;rintro e w9 (⟨_,rfl,rfl,ql⟩|⟨c,rfl,he⟩);rotate_left;{exact⟨rfl,.told he⟩};have C9:Hid (yH w rs d k b u o A z D (j+1) J w9):=C8.out.below ql;have N9:Hid (mA w9 N (cU rs (j+1))):=(ql.block N (zAa.1 N8.out).1).trans N8.out;have gu:Hid ((uQ k rs (j+1)).length<=32):=by{show(kQ _ _ _).length<=32;rw[qH k 0 _ n];exact n};generalize uQ k rs (j+1)=rt at*;clear ql C8 N8 M;dsimp only;have zh:Hid (eight (j+1)=[0,0,0,0,0,0,0,aEX (j+1)]):=UO (by omega);have ve:((aEX (j+1)).toNat:Int)=(j:Int)+1:=by rw[zEt];omega
   have Ch:(convert 50 9 (aK (aA ⟨w9.heap.size,0,aB⟩) 8 8)).run zq (w9.alloc (aJ #[aC aQ 0,aC aQ 0,aC aQ 0,aC aQ 0,aC aQ 0,aC aQ 0,aC aQ 0,aC aQ ((j:Int)+1)] 5))= .ok (aL ⟨#[0,0,0,0,0,0,0,aEX (j+1)]⟩) (w9.alloc (aJ #[aC aQ 0,aC aQ 0,aC aQ 0,aC aQ 0,aC aQ 0,aC aQ 0,aC aQ 0,aC aQ ((j:Int)+1)] 5)):=by have e:rH [0,0,0,0,0,0,0,aEX (j+1)]= #[aC aQ 0,aC aQ 0,aC aQ 0,aC aQ 0,aC aQ 0,aC aQ 0,aC aQ 0,aC aQ ((j:Int)+1)]:=by{rw[<-ve];rfl};rw[<-e];exact NC (l:=[0,0,0,0,0,0,0,aEX (j+1)]) (cB.new _ _ _) 8
   generalize aEX (j+1)=x8 at*;clear ve;have sm:Hid (zb w9 (w9.alloc (aJ #[aC aQ 0,aC aQ 0,aC aQ 0,aC aQ 0,aC aQ 0,aC aQ 0,aC aQ 0,aC aQ ((j:Int)+1)] 5))):=(zGm _ _).alloc (zAb _) _;have vt:rt.length<=32:=gu.out;go_wp2_with fail;clear Ch;generalize w9.alloc (aJ #[aC aQ 0,aC aQ 0,aC aQ 0,aC aQ 0,aC aQ 0,aC aQ 0,aC aQ 0,aC aQ ((j:Int)+1)] 5)=kv at*;have tz:Hid (yH w rs d k b u o A z D (j+1) J kv):=C9.out.below sm.out;have sy:Hid (mA kv N (cU rs (j+1))):=(sm.out.block N (zAa.1 N9.out).1).trans N9.out;clear C9 N9 sm;refine(EP k _ kv jk n (by simp only[zFt];show 1+F.toArray.size+8+rt.toArray.size<=_;simp only[zAn];omega) tz.out.Qa.uX.gW).mono ?_;rintro e ui ⟨rfl,S⟩;have C:((⟨#[3]⟩:ByteArray)++⟨F.toArray⟩++⟨#[0,0,0,0,0,0,0,x8]⟩++⟨rt.toArray⟩).data.toList=3::(F++eight (j+1)++rt):=by rw[zh.out];simp[zDt]
   rw[C,th.out];have tx:Hid (yH w rs d k b u o A z D (j+1) J ui):=tz.out.below S;have sx:Hid (mA ui N (cU rs (j+1))):=(S.block N (zAa.1 sy.out).1).trans sy.out;have HXL:Hid (J.length<=32):=by{show J.length<=32;rw[<-th.out,nE k _ n];exact n};clear S tz sy C th zh gu vt xj;dsimp only;have M:((j+1:Nat):Int)=(j:Int)+1:=by{omega};have tj:=tx.out.head;rw[M]at tj;go_wp2_with fail;refine tj.mono ?_;clear tj;rintro e uh ⟨rfl,R⟩;have C12:Hid (yH w rs d k b u o A z D (j+1) J uh):=tx.out.below R;have N12:Hid (mA uh N (cU rs (j+1))):=(R.block N (zAa.1 sx.out).1).trans sx.out;clear R tx sx M;dsimp only;go_wp2;go_roundg (20-(j+1));case measure=>go_light;omega
   case rel=>go_light;exact⟨j+1,J,by omega,by omega,rfl,by go_num,HXL.out,C12.out,N12.out⟩
  all_goals
   first|(have jl:¬((j:Int)<(I:Int)):=by omega)|(have jl:(j:Int)<(I:Int):=by omega)
   try(have hj2:¬((j:Int)<20):=by omega)
   generalize wr=V at*
   go_wp2_with fail
   go_loopg [21,22] 64 (λq lv x wr=>∃t:Nat,t+q=64/\x=aC aD (63-(t:Int))/\zb V wr/\cI wr V.heap.size lv (iS (cU rs j) t))
   case atStart=>exact⟨0,by omega,rfl,zGm _ _,cI.nil _ _⟩
   case round=>
    obtain⟨t,ht,rfl,b1,b2⟩:=hrel
    have BA:Hid (zb V wr):=b1
    have OA:Hid (cI wr V.heap.size u21 (iS (cU rs j) t)):=b2
    clear b1 b2
    by_cases bT:t<64
    .obtain⟨m,hm⟩:∃m:Nat,m=63-t:=⟨_,rfl⟩;have L:(63:Int)-(t:Int)=(m:Int):=by{omega};rw[L];have df:(0:Int)<=(m:Int):=by{omega};have wu:(m:Int)<64:=by{omega};have kh:Hid (mA wr N (cU rs j)):=(BA.out.block N (zAa.1 NA.out).1).trans NA.out;have ci:wr.cell? ⟨N,m,aB⟩=aA (.bool (cU rs j m).isSome):=(zHb wr N m _ _ (0,0) kh.out).trans (oO _ _ m (by omega));have cv:wr.cell? ⟨N,64+m,aB⟩=aA (aL ⟨((cU rs j m).getD []).toArray⟩):=(zHb wr N (64+m) _ _ (0,0) kh.out).trans (oN _ _ m (by omega));have T:Hid (iS (cU rs j) (t+1)=iS (cU rs j) t++((cU rs j m).map λv=>(⟨ix m,v,aG⟩:bK)).toList):=by{rw[hm];rfl};have iz:(m:Int)-1=63-((t+1:Nat):Int):=by{omega};have yu:Hid ((m:Int)-1=63-((t+1:Nat):Int)):=iz;have ji:(iS (cU rs j) t).length<=1000000:=by{have:=AH (cU rs j) t;omega};have HM:Hid (m=63-t):=hm;clear L iz hm;cases hs:cU rs j m with
     |none=>
      rw[hs]at ci T;clear cv hs;go_wp2;go_roundg (64-(t+1));case measure=>go_light;omega
      case rel=>go_light;exact⟨t+1,by omega,by rw[yu.out],BA.out,by rw[T.out];simpa using OA.out⟩
     |some v=>
      rw[hs]at ci cv T;have si:wr.cell? ⟨N,64+m,aB⟩=aA (aL ⟨v.toArray⟩):=cv;have ci':wr.cell? ⟨N,m,aB⟩=aA (.bool aF):=ci;clear hs cv ci;go_upto_region 26 with(fail)
      have hbq:V.heap.size<=wr.heap.size:=BA.out.size;have H:(λs:zW=>s.cell? ⟨N,64+m,aB⟩=aA (aL ⟨v.toArray⟩)) wr.drew:=si;refine AnyX.lM (λs=>s.cell? ⟨N,64+m,aB⟩=aA (aL ⟨v.toArray⟩)) (λi=>i==9) (by kernel_rfl) ?_;refine AnyX.tk 0 (u21) H ?_;simp only[Act.put];refine AnyX.tk 1 (aC aD (m:Int)) H ?_;simp only[Act.put];refine AnyX.tk 3 (aC aD (m:Int)) H ?_;simp only[Act.put];refine AnyX.tk 4 (aO (aA ⟨N,64,aB⟩)) H ?_;simp only[Act.put];refine AnyX.tk 5 (aO (aA ⟨N,64+m,aB⟩)) H ?_;simp only[Act.put];refine AnyX.tk 6 (aL ⟨v.toArray⟩) H ?_;simp only[Act.put];refine AnyX.cA (i:=2) (by kernel_rfl) rfl (λK r=> ?_);go_simp;refine(sW (m:Int) _ (by omega) (by omega)).mono ?_;rintro e w2 ⟨rfl,Q⟩;have b2:Hid (zb wr w2):=yL Q;have Z:wr.heap.size<=w2.heap.size:=b2.out.size;have c2:w2.cell? ⟨N,64+m,aB⟩=aA (aL ⟨v.toArray⟩):=by rw[b2.out.cell (p:=⟨N,64+m,aB⟩) (zAa.1 kh.out).1];exact si
      have O2:Hid (cI w2 V.heap.size u21 (iS (cU rs j) t)):=OA.out.below b2.out (zAb _);clear Q;dsimp only;refine r.out _ _ (λ_=>c2) ?_;clear r K H;have xd:idxOf (m:Int)=ix m:=rfl;rw[xd];clear xd;generalize ix m=im at*;refine AnyX.rW (i:=7) (v:= .agg #[aL ⟨im.toArray⟩,aL ⟨v.toArray⟩,.bool aG]) rfl (by kernel_rfl) (λ_ _ _ h=>h) (aH ⟨by rfl,λW hW=>by go_simp⟩) c2 ?_;simp only[Act.put];refine AnyX.cA (i:=8) (by kernel_rfl) rfl (λK r=> ?_);go_simp;refine r.out _ _ (λ_=>by rw[World.cell?_alloc_lt _ _ _ (by show N<_;have:=(zAa.1 kh.out).1;omega)];exact c2) ?_;clear r K;refine AnyX.cA (i:=9) (by kernel_rfl) rfl (λK r=> ?_);refine BX rfl _ _ rfl V.heap.size _ _ (by simp[Act.eval,Act.put]) O2.out ⟨im,v,aG⟩ 1 (by simp[Act.eval,Act.put]) ji (by omega) ?_;intro g' cap' w3 Sy jo;refine r.out _ _ (λh=>AnyX.iA h (by kernel_rfl)) ?_;clear r K;refine AnyX.cA (i:=10) (by kernel_rfl) rfl (λK r=> ?_);go_simp;refine r.out _ _ (λh=>AnyX.iA h (by kernel_rfl)) ?_;clear r K;refine AnyX.lO (by kernel_rfl) ?_ _;have B3:Hid (zb V w3):=eL (B:=V.heap.size) (bL BA.out b2.out BA.out.size) O2.out jo (zAb _) (by omega);have O3:Hid (cI w3 V.heap.size (aK (aA ⟨g',0,aB⟩) ((iS (cU rs j) t).length+1) cap') (iS (cU rs j) (t+1))):=by rw[T.out];exact Sy
      clear Sy jo c2 si ci' b2 O2 T;go_wp2;go_roundg (64-(t+1));case measure=>go_light;omega
      case rel=>go_light;exact⟨t+1,by omega,by rw[yu.out],B3.out,O3.out⟩
    .obtain rfl:t=64:=by{omega};have L:(63:Int)-((64:Nat):Int)= -1:=by{decide};rw[L];have CB:=CA.out.below BA.out;have U:=CB.other yw.out OA.out (by omega);clear CB CA NA BA OA L;go_wp2_with fail;refine U.mono ?_;clear U;rintro e Y (⟨_,rfl,rfl,fb,ep⟩|⟨c,rfl,he⟩);rotate_left;{exact⟨rfl,.told he⟩};have kj:Hid (Uy d o j (uQ k rs j) Y):=fb;have ub:Hid (zb w Y):=ep;generalize uQ k rs j=rt at*;clear fb ep;dsimp only;go_wp2_with fail;refine(kj.out.kept _ (zGm _ _)).mono ?_;rintro e zx ⟨ff,rfl,ej⟩;have kn:Hid (zb Y zx):=ej;clear ej;dsimp only;go_wp2_with fail;refine(kj.out.one _ kn.out).mono ?_;rintro e zw (⟨_,rfl,rfl,eh⟩|⟨c,rfl,he⟩);rotate_left;{exact⟨rfl,.told he⟩};have km:Hid (zb Y zw):=bL kn.out eh kn.out.size;clear eh kn;dsimp only;go_wp2_with fail;refine(kj.out.two _ km.out).mono ?_;rintro e zv (⟨_,rfl,rfl,ef⟩|⟨c,rfl,he⟩);rotate_left;{exact⟨rfl,.told he⟩};have B23:Hid (zb w zv):=bL ub.out (bL km.out ef km.out.size) ub.out.size;clear ef km ub kj;dsimp only;go_wp2;go_ret;exact .of ⟨rfl,B23.out⟩
end Go.Proofs.Zq
