import Derived.Shelf.SlSortCmp.InsertionK
import Derived.Sort.LotA
import Derived.Shelf.SlicesE.Clone
import Derived.Shelf.Small.Strs
import Derived.Lib.OwnBridge
import Derived.Shelf.SlSortCmp.KitK
import Derived.Sort.WalkB2
import Derived.Sort.WalkB12
import Derived.Deep.RegionHeld2
import Derived.OrdersHeld
import Derived.Deep.RegionHeld
import Derived.Laws.Rows
import Derived.Test.YtghpcgagijhlaaaGreatDoorL07
set_option linter.all false
set_option maxRecDepth 100000
set_option maxHeartbeats 16000000
open Option renaming some->aA,none->aB
open Bool renaming true->aF,false->aG
open Or renaming inl->aH,inr->aI
open Go.Ending renaming returned->aM
open Go.Obj renaming cells->aJ
open Go.IntKind renaming i64->aD,u8->aQ
open Go.Value renaming slice->aK,string->aL,pointer->aO,int->aC
open Bool renaming not_eq_true'->aFg,and_comm->aFh,false_ne_true->aFi
open Go.AllReady renaming cons->aFj,nil->aFk
open Go.Calls renaming grown_of->aFl
open Go.Lib renaming compareBytes->aE7
open Nat renaming add_zero->aE9,succ->aFm
open Go.Proofs.Tryz
namespace Go.Proofs.Zq
open Go.RowKit Sha
instance:Inhabited bJ:=⟨⟨[],[],aG⟩⟩
def tW (x y:bJ):Int:=aE7 x.idx y.idx
def lI (x y):ltOf tW x y=aF↔aE7 x.idx y.idx= -1:=by unfold ltOf tW;rw[zCm];obtain h|h|h:=gQ x.idx y.idx<;>omega
def Wv:Go.Sort.SWO (ltOf tW):=by
 refine⟨λx=> ?_,λx y z d c=> ?_,λx y z d c=> ?_⟩
 .rw[zEz,Ne,lI,cZ];decide
 .rw[lI]at*;exact nC d c
 .rw[zEz,Ne,lI]at*;intro h;have i:=fS x.idx y.idx;have g:=fS y.idx z.idx;obtain a|a|a:=gQ x.idx y.idx
  .exact d a
  .rw[jA a]at h;exact c h
  .obtain b|b|b:=gQ y.idx z.idx
   .exact c b
   .rw[<-jA b]at h;exact d h
   .have e:aE7 y.idx x.idx= -1:=by{omega};have f:=nC e h;omega
def cN (I:zB)(l:List bJ):List bJ:=l.filter λu=>u.idx==I
def Kb {α:Type}(A B)(x y:α):((A++x::y::B).set (A.length+1) x).set A.length y=A++y::x::B:=by
 induction A with
 |nil=>rfl
 |cons a A i=>simp only[zBx,zAf,zCy,i]
def Dl {α} [Inhabited α] (d:Array α)(j)(h:j+1<d.size):
  ∃A B,d.toList=A++d[j]! ::d[j+1]! ::B/\(Go.Sort.swp d (j+1) j).toList=A++d[j+1]! ::d[j]! ::B:=by
 have b:j<d.toList.length:=by simpa using Nat.lt_of_succ_lt h
 have a:j+1<d.toList.length:=by simpa using h
 have f:d[j]! =d.toList[j]:=by rw[zEd d j (by simpa using b)];simp
 have e:d[j+1]! =d.toList[j+1]:=by rw[zEd d (j+1) h];simp
 have c:d.toList=d.toList.take j++d.toList[j]::d.toList[j+1]::d.toList.drop (j+2):=by rw[<-zGh a,<-zGh b,zCa]
 have hl:(d.toList.take j).length=j:=by rw[zBf];omega
 refine⟨d.toList.take j,d.toList.drop (j+2),by rw[f,e];exact c,?_⟩;unfold Go.Sort.swp;rw[zGb,zGb,f,e];have:=Kb (d.toList.take j) (d.toList.drop (j+2)) d.toList[j] d.toList[j+1];rw[<-c,hl]at this;exact this
def Rb (I)(d)(j)(h:j+1<d.size)(hl:ltOf tW d[j+1]! d[j]! =aF):cN I (Go.Sort.swp d (j+1) j).toList=cN I d.toList:=by
 obtain⟨A,B,g,f⟩:=Dl d j h;rw[lI]at hl;have c:(d[j+1]!).idx≠(d[j]!).idx:=λe=>by rw[e,cZ]at hl;cases hl
 rw[g,f];unfold cN;rw[zDl,zDl];congr 1;by_cases b:(d[j]!).idx=I
 .have a:(d[j+1]!).idx≠I:=λe=>c (e.trans b.symm);rw[zAn (by simpa using a),zAt (by simpa using b),zAt (by simpa using b),zAn (by simpa using a)]
 .by_cases a:(d[j+1]!).idx=I
  .rw[zAt (by simpa using a),zAn (by simpa using b),zAn (by simpa using b),zAt (by simpa using a)]
  .rw[zAn (by simpa using a),zAn (by simpa using b),zAn (by simpa using b),zAn (by simpa using a)]
def size_swp {α} [Inhabited α] (d:Array α)(i j):(Go.Sort.swp d i j).size=d.size:=by unfold Go.Sort.swp;simp
def TL (I:zB)(a:Nat):∀(j:Nat)(d:Array bJ),j<d.size->cN I (Go.Sort.insInner (ltOf tW) a j d).toList=cN I d.toList/\(Go.Sort.insInner (ltOf tW) a j d).size=d.size
 |0,_,_=>⟨rfl,rfl⟩
 |j+1,d,h=>by rw[Go.Sort.insInner];split;{rename_i b;rw[zBh]at b;obtain⟨e,c⟩:=TL I a j (Go.Sort.swp d (j+1) j) (by rw[size_swp];omega);exact⟨e.trans (Rb I d j h b.2),c.trans (size_swp _ _ _)⟩};{exact⟨rfl,rfl⟩}
def wT (I:zB)(a b:Nat):∀(m i:Nat)(d:Array bJ),b-i=m->b<=d.size->cN I (Go.Sort.insOuter (ltOf tW) a b i d).toList=cN I d.toList/\(Go.Sort.insOuter (ltOf tW) a b i d).size=d.size
 |0,i,d,hm,_=>by rw[Go.Sort.insOuter,zAv (by omega)];exact⟨rfl,rfl⟩
 |m+1,i,d,hm,hb=>by rw[Go.Sort.insOuter,zAz (by omega)];obtain⟨f,e⟩:=TL I a i d (by omega);obtain⟨c,h⟩:=wT I a b m (i+1) (Go.Sort.insInner (ltOf tW) a i d) (by omega) (by omega);exact⟨c.trans f,h.trans e⟩
def dP (us:List bJ):List bJ:=(Go.Sort.insertionSort (ltOf tW) us.toArray 0 us.length).toList
def uU (I)(us):cN I (dP us)=cN I us:=by have:=(wT I 0 us.length _ 1 us.toArray rfl (by simp)).1;simpa [dP,Go.Sort.insertionSort]using this
def jM (us):(dP us).length=us.length:=by have:=(wT [] 0 us.length _ 1 us.toArray rfl (by simp)).2;simpa [dP,Go.Sort.insertionSort]using this
def QS (us)(u):u∈dP us↔u∈us:=by
 have h:∀l:List bJ,u∈l↔u∈cN u.idx l:=λl=>by unfold cN;rw[zAx];simp
 rw[h,h us,uU]
def oY (us):(dP us).Pairwise λx y=>aE7 y.idx x.idx≠-1:=by
 have c:=(Go.Sort.insertionSort_holds Wv us.toArray 0 us.length (zBu _) (by simp)).2;have hl:=jM us;rw[List.pairwise_iff_getElem];intro i j hi e a;have h:=c i j (zBu _) a (by omega);have b:(Go.Sort.insertionSort (ltOf tW) us.toArray 0 us.length).size=us.length:=by simpa [dP]using hl
 rw[zEd _ j (by omega),zEd _ i (by omega)]at h;intro d;have:ltOf tW (dP us)[j] (dP us)[i]=aF:=(lI _ _).2 d;simp only[dP,Array.getElem_toList]at this;rw[this]at h;cases h
def fR:List bJ->List bJ
 |[]=>[]
 |[u]=>[u]
 |u::v::r=>if v.idx=u.idx then fR (v::r)else u::fR (v::r)
def bW (us:List bJ):List bJ:=fR (dP us)
def mK:∀{l:List bJ}{u:bJ},u∈fR l->u∈l
 |[],_,h=>h
 |[_],_,h=>h
 |a::b::r,u,h=>by
  rw[fR]at h;split at h;{exact zBc _ (mK h)}
  .obtain h|h:=zAg.1 h
   .rw[h];exact zAy ..
   .exact zBc _ (mK h)
def qJ {us u}(h:u∈bW us):u∈us:=(QS us u).1 (mK h)
def sP:∀{l:List bJ},(l.Pairwise λx y=>aE7 y.idx x.idx≠-1)->(fR l).Pairwise λx y=>aE7 x.idx y.idx= -1
 |[],_=>List.Pairwise.nil
 |[u],_=>zEt _ _
 |a::b::r,h=>by
  rw[zBy]at h;have j:=sP h.2;rw[fR];split;{exact j}
  .rename_i f;rw[zBy];refine⟨λu k=> ?_,j⟩;have d:=mK k;have n:=h.1 u d;have g:=h.1 b (zAy ..);have e:=fS u.idx a.idx;obtain c|c|c:=gQ u.idx a.idx
   .exact absurd c n
   .exfalso;obtain i|i:=zAg.1 d
    .rw[i]at c;exact f (jA c)
    .have m:=(zBy.1 h.2).1 u i;rw[jA c]at m;obtain q|q|q:=gQ b.idx a.idx
     .exact g q
     .exact f (jA q)
     .have:=fS b.idx a.idx;omega
   .omega
def EE (us):(bW us).Pairwise λx y=>aE7 x.idx y.idx= -1:=sP (oY us)
def BH (I:zB):∀{l:List bJ},(l.Pairwise λx y=>aE7 y.idx x.idx≠-1)->(cN I (fR l)).getLast? =(cN I l).getLast?
 |[],_=>rfl
 |[u],_=>rfl
 |a::b::r,h=>by
  have i:=BH I (zBy.1 h).2;rw[fR];split
  .rename_i d;rw[i];unfold cN;by_cases c:a.idx=I
   .have e:=d.trans c;rw[zAt (a:=a) (by simpa using c),zAt (a:=b) (by simpa using e),List.getLast?_cons_cons]
   .rw[zAn (a:=a) (by simpa using c)]
  .unfold cN at*;by_cases c:a.idx=I
   .rw[zAt (a:=a) (by simpa using c),zAt (a:=a) (by simpa using c),List.getLast?_cons,List.getLast?_cons,i]
   .rw[zAn (a:=a) (by simpa using c),zAn (a:=a) (by simpa using c),i]
def RL (I)(us):(cN I (bW us)).getLast? =(cN I us).getLast? :=by rw[bW,BH I (oY us),uU]
def nU (I:zB):∀(us:List bJ)(l:List oW),eK (cT l us) I=match(cN I us).getLast? with|some u=>(if u.gone then aB else aA u.val)|none=>eK l I
 |[],_=>rfl
 |u::us,l=>by show eK (cT (wP l u) us) I=_;rw[nU I us (wP l u),get_put];unfold cN;by_cases h:u.idx=I;{rw[zAt (by simpa using h),List.getLast?_cons,zAz h];cases(us.filter λu=>u.idx==I).getLast? <;>rfl};{rw[zAn (by simpa using h),zAv h]}
def qH {l:List oW}(hl:eJ l)(us:List bJ):cT l (bW us)=cT l us:=
 mX (kG hl) (kG hl) λI=>by rw[nU,nU,RL]
def tD (x y:bJ):Prop:=aE7 y.idx x.idx≠-1
def pO (x y:bJ):Prop:=aE7 x.idx y.idx= -1
abbrev jX (l:List bJ):Prop:=l.Pairwise tD
structure eI (l l':List bJ):Prop where
 len:l'.length=l.length
 of:∀I,cN I l'=cN I l
def tD.trans {x y z:bJ}(b:tD x y)(a:tD y z):tD x z:=λh=>by have:=Wv.3 z y x;rw[zEz,Ne,lI,zEz,Ne,lI,zEz,Ne,lI]at this;exact this a b h
def pO.le {x y:bJ}(h:pO x y):tD x y:=λa=>by have:=fS x.idx y.idx;unfold pO at h;omega
def pO.dv {x y z:bJ}(b:tD x y)(a:pO y z):pO x z:=zBm λh=>tD.trans (x:=z) (y:=x) (z:=y) h b a
def pO.dt {x y z:bJ}(b:pO x y)(a:tD y z):pO x z:=zBm λh=>tD.trans (x:=y) (y:=z) (z:=x) a h b
def tD.antisymm {x y:bJ}(b:tD x y)(a:tD y x):x.idx=y.idx:=by
 have:=fS x.idx y.idx;unfold tD at b a;obtain h|h|h:=gQ x.idx y.idx
 .exact absurd h a
 .exact jA h
 .omega
def eI.refl (l:List bJ):eI l l:=⟨rfl,λ_=>rfl⟩
def eI.trans {a b c:List bJ}(d:eI a b)(h:eI b c):eI a c:=⟨h.len.trans d.len,λI=>(h.of I).trans (d.of I)⟩
def LA {u:bJ}{l:List bJ}:u∈l↔u∈cN u.idx l:=by unfold cN;rw[zAx];simp
def eI.mem {l a:List bJ}(h:eI l a){u:bJ}:u∈a↔u∈l:=by rw[LA,h.of,<-LA]
def NN (I:zB)(a b:List bJ):cN I (a++b)=cN I a++cN I b:=zDl ..
def eI.fV {a b:List bJ}(h:eI a b)(X Y:List bJ):eI (X++a++Y) (X++b++Y):=⟨by simp[h.len],λI=>by simp only[NN,h.of]⟩
def LF:∀{l a:List bJ},eI l a->jX l->jX a->a=l
 |[],a,h,_,_=>zBg h.len
 |x::t,[],h,_,_=>by cases h.len
 |x::t,y::f,h,h1,d=>by
  have i:x∈y::f:=h.mem.2 (zAy ..);have g:y∈x::t:=h.mem.1 (zAy ..);have r:∀z:bJ,tD z z:=λz=>by unfold tD;rw[cZ];decide
  have k:tD x y:=by obtain e|e:=zAg.1 g;{rw[e];exact r _};{exact(zBy.1 h1).1 y e}
  have j:tD y x:=by obtain e|e:=zAg.1 i;{rw[e];exact r _};{exact(zBy.1 d).1 x e}
  have e:=k.antisymm j;have c:=h.of x.idx;unfold cN at c;rw[zAt (by simp[e]),zAt (by simp)]at c;obtain⟨rfl,_⟩:=zEi c;congr 1;refine LF ⟨by have:=h.len;simpa using this,λI=> ?_⟩ (zBy.1 h1).2 (zBy.1 d).2;have:=h.of I;unfold cN at this⊢;by_cases b:y.idx=I;{rw[zAt (by simpa using b),zAt (by simpa using b)]at this;exact(zEi this).2};{rwa [zAn (by simpa using b),zAn (by simpa using b)]at this}
def vA {A1 A2 B1 B2 C1 C2:List bJ}(d:eI (A1++B1) C1)(c:eI (A2++B2) C2)(h:∀x∈A2,∀y∈B1,pO y x):eI (A1++A2++(B1++B2)) (C1++C2):=by
 refine⟨by have:=d.len;have:=c.len;simp only[zAc]at*;omega,λI=> ?_⟩;have e:cN I A2++cN I B1=cN I B1++cN I A2:=by
  cases f:cN I A2 with
  |nil=>simp
  |cons x xs=>
   cases hb:cN I B1 with
   |nil=>simp
   |cons y i=>exfalso;have b:x∈cN I A2:=by{rw[f];exact zAy ..};have a:y∈cN I B1:=by{rw[hb];exact zAy ..};unfold cN at b a;rw[zAx]at b a;have:=h x b.1 y a.1;have ex:x.idx=I:=by{simpa using b.2};have g:y.idx=I:=by{simpa using a.2};unfold pO at this;rw[ex,g,cZ]at this;cases this
 have:=d.of I;have:=c.of I;simp only[NN]at*;rw[d.of,c.of];simp only[NN,zBo];rw[<-zBo (cN I A2),e,zBo]
def yF {A1 A2 B1 B2 C1 C2:List bJ}(f:eI (A1++B1) C1)(e:eI (A2++B2) C2)(s1:jX C1)(s2:jX C2)(d:jX (A1++A2))(c:jX (B1++B2))(h:∀x∈A2,∀y∈B1,pO y x)(g:∀x∈A1,∀y∈B2,tD x y):jX (C1++C2):=by
 refine zCf.2 ⟨s1,s2,λu b v a=> ?_⟩;obtain b|b:=zAh.1 (f.mem.1 b)<;>obtain a|a:=zAh.1 (e.mem.1 a)
 .exact(zCf.1 d).2.2 u b v a
 .exact g u b v a
 .exact(h v a u b).le
 .exact(zCf.1 c).2.2 u b v a
def le_last {l:List bJ}(h:jX l){x y:bJ}(a:x∈l)(b:l.getLast? =aA y):tD x y:=by
 obtain⟨i,rfl⟩:=List.getLast?_eq_some_iff.1 b;obtain a|a:=zAh.1 a
 .exact(zCf.1 h).2.2 x a y (zAm.2 rfl)
 .rw[zAm.1 a];unfold tD;rw[cZ];decide
def Bo {l:List bJ}(h:jX l){x y:bJ}(a:x∈l)(b:l.head? =aA y):tD y x:=by
 cases l with
 |nil=>cases a
 |cons z l=>cases b;obtain e|e:=zAg.1 a;{rw[e];unfold tD;rw[cZ];decide};{exact(zBy.1 h).1 x e}
def YB {A B:List bJ}(g:jX A)(f:jX B)(h:∀x y,A.head? =aA x->B.getLast? =aA y->pO y x):∀x∈A,∀y∈B,pO y x:=λx d y c=>by
 obtain⟨a,e⟩:∃a,A.head? =aA a:=by cases A with|nil=>cases d|cons a A=>exact⟨a,rfl⟩
 obtain⟨b,hb⟩:∃b,B.getLast? =aA b:=by
  cases hb:B.getLast? with
  |none=>rw[zGf.1 hb]at c;cases c
  |some b=>exact⟨b,rfl⟩
 exact pO.dv (le_last f c hb) (pO.dt (h a b e hb) (Bo g d e))
def YI {A B:List bJ}(i:jX A)(g:jX B)(h:∀x y,A.getLast? =aA x->B.head? =aA y->tD x y):∀x∈A,∀y∈B,tD x y:=λx d y e=>by
 obtain⟨b,f⟩:∃b,B.head? =aA b:=by cases B with|nil=>cases e|cons a A=>exact⟨a,rfl⟩
 obtain⟨a,c⟩:∃a,A.getLast? =aA a:=by
  cases c:A.getLast? with
  |none=>rw[zGf.1 c]at d;cases d
  |some a=>exact⟨a,rfl⟩
 exact(le_last i d c).trans ((h a b c f).trans (Bo g e f))
def Ex {x:bJ}{B1 B2:List bJ}(c:jX (B1++B2))(e:∀y,B1.getLast? =aA y->pO y x)(d:∀y,B2.head? =aA y->¬pO y x):eI (x::(B1++B2)) (B1++x::B2)/\jX (B1++x::B2):=by
 obtain⟨s1,s2,_⟩:=zCf.1 c;have a:jX [x]:=zEt _ _;have k1:∀z∈[x],∀y∈B1,pO y z:=YB a s1 λz y h b=>by cases h;exact e y b
 have k2:∀z∈[x],∀y∈B2,tD z y:=YI a s2 λz y h b=>by cases h;exact d y b
 exact⟨vA (A1:=[]) (A2:=[x]) (C1:=B1) (C2:=x::B2) (.refl _) (.refl _) k1,yF (A1:=[]) (A2:=[x]) (C1:=B1) (C2:=x::B2) (.refl _) (.refl _) s1 (zCf.2 ⟨a,s2,k2⟩) a c k1 λz h=>by cases h⟩
def XR {y:bJ}{A1 A2:List bJ}(b:jX (A1++A2))(d:∀x,A1.getLast? =aA x->¬pO y x)(c:∀x,A2.head? =aA x->pO y x):eI (A1++A2++[y]) (A1++y::A2)/\jX (A1++y::A2):=by
 obtain⟨s1,s2,_⟩:=zCf.1 b;have h:jX [y]:=zEt _ _;have k1:∀x∈A2,∀z∈[y],pO z x:=YB s2 h λx z h a=>by cases a;exact c x h
 have k2:∀x∈A1,∀z∈[y],tD x z:=YI s1 h λx z h a=>by cases a;exact d x h
 have e:A1++y::A2=A1++[y]++A2:=by simp
 rw[e];have l:eI (A2++[]) A2:=by rw[zAq];exact .refl _
 exact⟨vA (B1:=[y]) (B2:=[]) (.refl _) l k1,yF (B1:=[y]) (B2:=[]) (.refl _) l (zCf.2 ⟨s1,h,k2⟩) s2 b h k1 λx _ z a=>by cases a⟩
inductive fB (s:Nat):List bJ->Prop
 |last (l:List bJ):jX l->l.length<=s->fB s l
 |cons (l r:List bJ):jX l->l.length=s->fB s r->fB s (l++r)
def fB.small {s:Nat}{r:List bJ}(h:fB s r)(hl:r.length<=s):jX r:=by
 cases h with
 |last _ h _=>exact h
 |cons l r h1 b a=>obtain rfl:r=[]:=zBg (by rw[zAc]at hl;omega);rw[zAq];exact h1
def fB.first {s:Nat}{r:List bJ}(h:fB s r)(hl:s<r.length):∃l a,r=l++a/\jX l/\l.length=s/\fB s a:=by
 cases h with
 |last _ h d=>omega
 |cons l r h1 c b=>exact⟨l,r,rfl,h1,c,b⟩
def fB.two {s:Nat}{r:List bJ}(h:fB s r)(hs:0<s)(hl:2*s<=r.length):∃l a b,r=l++(a++b)/\jX l/\l.length=s/\jX a/\a.length=s/\fB s b:=by
 obtain⟨l,r1,rfl,f,e,i⟩:=h.first (by omega);rw[zAc]at hl;cases i with
 |last _ c d=>exact⟨l,r1,[],by rw[zAq],f,e,c,by omega,.last _ .nil (zBu _)⟩
 |cons a b c d g=>exact⟨l,a,b,rfl,f,e,c,d,g⟩
end Go.Proofs.Zq
namespace Go.Proofs
open Go.Shelf
def Qz.ZJ:Go.Shelf.Ren:=⟨λ|41=>60|n=>n,λ|22=>48|23=>53|4=>4|n=>n,λ|n=>n⟩
def Qz.Od:Go.Proofs.SlLaysE0.n41 zq Qz.ZJ:={
 mixed:=by kernel_rfl
 f41:=⟨Tryz.f60.name,by decide,(Qz.fn func60).trans (congrArg aA (by kernel_rfl))⟩
 t4:=((Qz.fH 4).trans Tryz.underlying4)
 a4:=(λw=>(Qz.isAgg w 4).trans (Tryz.isAgg4 w))
 z4:=(λw=>(Qz.sizeOf w 4).trans (Tryz.sizeOf4 w))
 v4:=(λw=>(Qz.zeroValue w 4).trans (Tryz.zeroValue4 w))
 t22:=((Qz.fH 48).trans Tryz.underlying48)
 a22:=(λw=>(Qz.isAgg w 48).trans (Tryz.isAgg48 w))
 z22:=(λw=>(Qz.sizeOf w 48).trans (Tryz.sizeOf48 w))
 v22:=(λw=>(Qz.zeroValue w 48).trans (Tryz.zeroValue48 w))}
def Qz.Ml:Go.Shelf.Ren:=⟨λ|20=>101|n=>n,λ|24=>53|22=>48|3=>3|25=>120|4=>4|0=>0|n=>n,λ|n=>n⟩
def Qz.nu:Go.Proofs.SlLaysF0.n20 zq Qz.Ml:={
 mixed:=by kernel_rfl
 f20:=⟨Tryz.f101.name,by decide,(Qz.fn func101).trans (congrArg aA (by kernel_rfl))⟩
 t0:=((Qz.fH 0).trans Tryz.underlying0)
 a0:=(λw=>(Qz.isAgg w 0).trans (Tryz.isAgg0 w))
 z0:=(λw=>(Qz.sizeOf w 0).trans (Tryz.sizeOf0 w))
 v0:=(λw=>(Qz.zeroValue w 0).trans (Tryz.zeroValue0 w))
 t3:=((Qz.fH 3).trans Tryz.underlying3)
 a3:=(λw=>(Qz.isAgg w 3).trans (Tryz.isAgg3 w))
 z3:=(λw=>(Qz.sizeOf w 3).trans (Tryz.sizeOf3 w))
 v3:=(λw=>(Qz.zeroValue w 3).trans (Tryz.zeroValue3 w))
 t4:=((Qz.fH 4).trans Tryz.underlying4)
 a4:=(λw=>(Qz.isAgg w 4).trans (Tryz.isAgg4 w))
 z4:=(λw=>(Qz.sizeOf w 4).trans (Tryz.sizeOf4 w))
 v4:=(λw=>(Qz.zeroValue w 4).trans (Tryz.zeroValue4 w))
 t22:=((Qz.fH 48).trans Tryz.underlying48)
 a22:=(λw=>(Qz.isAgg w 48).trans (Tryz.isAgg48 w))
 z22:=(λw=>(Qz.sizeOf w 48).trans (Tryz.sizeOf48 w))
 v22:=(λw=>(Qz.zeroValue w 48).trans (Tryz.zeroValue48 w))
 t25:=((Qz.fH 120).trans Tryz.underlying120)
 a25:=(λw=>(Qz.isAgg w 120).trans (Tryz.isAgg120 w))
 z25:=(λw=>(Qz.sizeOf w 120).trans (Tryz.sizeOf120 w))
 v25:=(λw=>(Qz.zeroValue w 120).trans (Tryz.zeroValue120 w))}
def Qz.TF:Go.Shelf.Ren:=⟨λ|106=>63|213=>89|265=>103|n=>n,λ|9=>9|3=>3|n=>n,λ|n=>n⟩
def Qz.Tb:Go.Proofs.Lays.n106 zq Qz.TF:={
 mixed:=by kernel_rfl
 f106:=(Qz.fn func63).trans (congrArg aA (by kernel_rfl))
 f213:=(Qz.fn func89).trans (congrArg aA (by kernel_rfl))
 f265:=(Qz.fn func103).trans (congrArg aA (by kernel_rfl))
 t3:=((Qz.fH 3).trans Tryz.underlying3)
 a3:=(λw=>(Qz.isAgg w 3).trans (Tryz.isAgg3 w))
 z3:=(λw=>(Qz.sizeOf w 3).trans (Tryz.sizeOf3 w))
 v3:=(λw=>(Qz.zeroValue w 3).trans (Tryz.zeroValue3 w))
 t9:=((Qz.fH 9).trans Tryz.underlying9)
 a9:=(λw=>(Qz.isAgg w 9).trans (Tryz.isAgg9 w))
 z9:=(λw=>(Qz.sizeOf w 9).trans (Tryz.sizeOf9 w))
 v9:=(λw=>(Qz.zeroValue w 9).trans (Tryz.zeroValue9 w))}
open Go.RowKit in
def Qz.strings_Compare (a b:ByteArray)(w:zW):
  Calls zq 63 #[aL a,aL b] w λe c=>e=aM (aC aD (aE7 a.data.toList b.data.toList))/\c=w:=Any.strings_Compare Qz.Tb a b w
end Go.Proofs
namespace Go.Proofs.Zq
open Go.RowKit Sha Go.Shelf Go.Sort
def Oc (x y)(W):Calls zq 62 #[.agg x.cells.toArray,.agg y.cells.toArray] W λe w=>e=aM (aC aD (tW x y))/\∃q o,w=grow (W.drewN q) o:=by have h:=λb=>Qz.strings_Compare ⟨x.idx.toArray⟩ ⟨y.idx.toArray⟩ b;have a:aE7 (⟨x.idx.toArray⟩:ByteArray).data.toList (⟨y.idx.toArray⟩:ByteArray).data.toList=tW x y:=rfl;rw[a]at h;generalize tW x y=r at*;unfold bJ.cells;go_enter (Qz.fn func62),ntmps62;go_wp2_with (go_at_call 63;refine(h _).mono ?_;rintro e w ⟨rfl,rfl⟩);go_ret;exact⟨rfl,0,_,by rw[alloc_eq_grow,alloc_eq_grow,grow_grow];rfl⟩
def UO (blk off size)(w):CmpLays zq 62 #[] bJ.cells 3 tW blk off size w:=λ_ _ _ _ x y=>Oc x y _
def Yr:∀args w,(callFunc 62 args).run zq w= .ok (.enter 62 args) w:=enters_of (Qz.fn func62) (by kernel_rfl) rfl
def Tg (g cap a b:Nat)(d:Array bJ)(w:zW)(k:HoldsK bJ.cells 3 w g 0 d)(i:g<w.heap.size)(h:a<=b)(j:b<=d.size)(f:d.size<=1000):
  Calls zq 101 #[aK (aA ⟨g,0,aB⟩) d.size cap,aC aD a,aC aD b,.func (.func 62) #[] #[]] w λe c=>
   e=aM (.tuple #[])/\∃n os,c=sortWorldK bJ.cells 3 w g 0 n (insertionSort (ltOf tW) d a b) os:=
 AnyQ.insertionSortCmpFunc Qz.nu 3 (λw=>(Qz.isAgg w 53).trans (isAgg53 w)) (λw=>(Qz.sizeOf w 53).trans (sizeOf53 w)) bJ.cells (λ_=>rfl) BX tW 62 #[] g 0 cap a b d w Yr (UO g 0 d.size w) k i h j (by omega)
def LP (us:List bJ)(i)(u)(h:us[i]? =aA u)(j)(b:j<3):(flatK bJ.cells 3 us.toArray)[i*3+j]! =(u.cells[j]?).getD default/\i*3+j<(flatK bJ.cells 3 us.toArray).size:=by
 have hi:=(zBa.1 h).1;have a:i*3+j<us.toArray.size*3:=by simp only[zAp];omega
 refine⟨?_,by rw[size_flatK];exact a⟩;rw[get_flatK _ _ _ _ a,show(i*3+j)/3=i by omega,show(i*3+j)%3=j by omega];have e:us.toArray[i]! =u:=by rw[zEd us.toArray i (by simpa using hi)];simpa using(zBa.1 h).2
 rw[e,List.getElem!_eq_getElem?_getD]
def ZL {w g}{us:List bJ}(h:HoldsK bJ.cells 3 w g 0 us.toArray)(i)(u)(b:us[i]? =aA u)(j)(a:j<3):w.cell? ⟨g,i*3+j,aB⟩=u.cells[j]? :=by obtain⟨d,c⟩:=LP us i u b j a;have:=(h (i*3+j) c).1;rw[zBd,d]at this;rw[this];have:j<u.cells.length:=a;rw[zAi this];rfl
def JL {B w0 w g n d os}(h:Below B w0 w)(c:B<=g)(e:B<=w.heap.size):Below B w0 (sortWorldK bJ.cells 3 w g 0 n d os):=by
 have a:Below B w0 (putRow id (Go.Sort.ahead w n) g 0 (flatK bJ.cells 3 d)):=Lib.below_putRow h c;refine⟨a.os,a.tape,a.output,?_,λk b=> ?_⟩
 .show _<=(_++os).size;rw[zEp];exact zBb a.size (zDn _ _)
 .show(_++os)[k]? =_;rw[zCr (by show k<(putRow id (Go.Sort.ahead w n) g 0 (flatK bJ.cells 3 d)).heap.size;rw[size_putRow];show k<w.heap.size;omega)];exact a.block k b
def CI {α:Type} [Inhabited α] (P Q:List α)(x:α):(P++x::Q).toArray[P.length]! =x:=by simp
def BY {α:Type}(P Q:List α)(x y:α):(P++x::Q).set P.length y=P++y::Q:=by simp
def NY {α:Type} [Inhabited α] (P Q R:List α)(x y:α):(P++x::(Q++y::R)).toArray[P.length+1+Q.length]! =y:=by have:=CI (P++x::Q) R y;simp only[zBo,zBx,zAc,zAf]at this;rw[show P.length+1+Q.length=P.length+(Q.length+1) by omega,this]
def Ra {α:Type} [Inhabited α] (P Q R:List α)(x y:α):swp (P++x::(Q++y::R)).toArray P.length (P.length+1+Q.length)=(P++y::(Q++x::R)).toArray:=by unfold swp;rw[CI,NY,zBr,zBr,BY];have:=BY (P++y::Q) R y x;simp only[zBo,zBx,zAc,zAf]at this;rw[show P.length+1+Q.length=P.length+(Q.length+1) by omega,this]
abbrev gR (w0:zW)(g:Nat)(l:List bJ)(w:zW):Prop:=SWK bJ.cells 3 w0 g 0 l.toArray w
abbrev tY (w0:zW)(g:Nat)(n:Nat):Prop:=∃d0:Array bJ,d0.size=n/\RowK bJ.cells 3 w0 g 0 d0
section
variable {w0 w:zW}{g n cap:Nat}{fv:zY}
def Jq {α:Type} [Inhabited α] (P Q R:List α)(x y:α):swp (P++x::(Q++y::R)).toArray (P.length+1+Q.length) P.length=(P++y::(Q++x::R)).toArray:=by unfold swp;rw[CI,NY,zBr,zBr];have:=BY (P++x::Q) R y x;simp only[zBo,zBx,zAc,zAf]at this;rw[show P.length+1+Q.length=P.length+(Q.length+1) by omega,this,BY]
structure yi (w0:zW)(g:Nat)(l':List bJ)(p r:Nat)(w:zW)(k:Nat)(cx cy:zV):Prop where
 zE:∀w,(Go.sizeOf 53).run zq w= .ok k w
 lx:cx.length=k
 ly:cy.length=k
 ld:Sem.run zq (loadCellsFrom ⟨g,p*k,aB⟩ 0 k #[]) w.drew= .ok cx.toArray w.drew
 ld':Sem.run zq (loadCellsFrom ⟨g,r*k,aB⟩ 0 k #[]) w.drew= .ok cy.toArray w.drew
 st:Sem.run zq (storeCells ⟨g,p*k,aB⟩ cy 0) w.drew= .ok () (w.drew.setCells g (p*k) cy)
 Qd:Sem.run zq (storeCells ⟨g,r*k,aB⟩ cx 0) (w.drew.setCells g (p*k) cy)= .ok () ((w.drew.setCells g (p*k) cy).setCells g (r*k) cx)
 sw:Aside (gR w0 g l' ((w.drew.setCells g (p*k) cy).setCells g (r*k) cx))
def gR.lp {P Q R':List bJ}{x y:bJ}(h:gR w0 g (P++x::(Q++y::R')) w)(R:tY w0 g n)(q:(P++x::(Q++y::R')).length=n){p r:Nat}(e:p=P.length)(d:r=P.length+1+Q.length):
  (∃k j i,yi w0 g (P++y::(Q++x::R')) p r w k j i)/\∃k j i,yi w0 g (P++y::(Q++x::R')) r p w k j i:=by
 obtain⟨d0,f,R⟩:=R;have a:(P++x::(Q++y::R')).toArray.size=d0.size:=by rw[zAp,q,f]
 have hl:P.length+1+Q.length<(P++x::(Q++y::R')).toArray.size:=by rw[zAp];simp only[zAc,zAf];omega
 have ex:(P++x::(Q++y::R')).toArray[p]! =x:=by rw[e];exact CI ..
 have o:(P++x::(Q++y::R')).toArray[r]! =y:=by rw[d];exact NY ..
 have c:=h.ld1 R a zq p (by omega);have l:=h.ld1 R a zq r (by omega);have m:=h.st1 R a zq p (by omega) y;have s:=h.st2 R a zq p r (by omega) (by omega) y x;have t:=h.st1 R a zq r (by omega) x;have tb:=h.st2 R a zq r p (by omega) (by omega) x y;have b:=h.swapped R p r (by omega) (by omega);have S:=h.swapped R r p (by omega) (by omega);rw[ex]at c;rw[o]at l;rw[ex,o]at b S;rw[show swp (P++x::(Q++y::R')).toArray p r=(P++y::(Q++x::R')).toArray by rw[e,d];exact Ra ..]at b;rw[show swp (P++x::(Q++y::R')).toArray r p=(P++y::(Q++x::R')).toArray by rw[e,d];exact Jq ..]at S;rw[zBd]at c l m s t tb b S;rw[zBd]at s tb b S;exact⟨⟨3,x.cells,y.cells,(λw=>(Qz.sizeOf w 53).trans (sizeOf53 w)),rfl,rfl,c,l,m,s,b⟩,⟨3,y.cells,x.cells,(λw=>(Qz.sizeOf w 53).trans (sizeOf53 w)),rfl,rfl,l,c,t,tb,S⟩⟩
def IP (X A Z B Y:List bJ)(R:tY w0 g n)(I:(X++(A++(Z++(B++Y)))).length=n)(h:A.length=B.length)(U:n<=1000)(S:gR w0 g (X++(A++(Z++(B++Y)))) w){H G F:Int}(D:H=(X.length:Int))(C:G=((X.length+A.length+Z.length:Nat):Int))(z:F=(A.length:Int)):
  Calls zq 129 #[aK (aA ⟨g,0,aB⟩) n cap,aC aD H,aC aD G,aC aD F,fv] w λe N=>e=aM (.tuple #[])/\gR w0 g (X++(B++(Z++(A++Y)))) N:=by
 have HR:Hid (tY w0 g n):=R;clear R;have mixed:zq.follows .mixedOrders=aF:=by kernel_rfl
 have S0:Aside (gR w0 g (X++(A++(Z++(B++Y)))) w):=S;clear S;have hlen:X.length+A.length+Z.length+B.length+Y.length=n:=by rw[<-I];simp only[zAc];omega
 obtain⟨a,J⟩:∃a,a=X.length:=⟨_,rfl⟩;obtain⟨b,s⟩:∃b,b=X.length+A.length+Z.length:=⟨_,rfl⟩;obtain⟨c,m⟩:∃c,c=A.length:=⟨_,rfl⟩;subst D C z;rw[<-s,<-J,<-m];go_enter (Qz.fn func129),ntmps129;go_wp2;go_loopg [10] c (λq i wr=>∃d j l f:List bJ,A=d++j/\B=l++f/\d.length=l.length/\d.length+q=c/\i=aC aD (d.length:Int)/\Aside (gR w0 g (X++(l++(j++(Z++(d++(f++Y)))))) wr));case atStart=>exact⟨[],A,[],B,rfl,rfl,rfl,by simp,rfl,S0⟩
 case round=>
  clear S0
  obtain⟨d,j,l,f,rfl,rfl,K,hq,rfl,S1⟩:=hrel
  rw[zAc]at m s h
  rw[zAc]at h
  cases j with
  |nil=>obtain rfl:f=[]:=zBg (by rw[zAl]at h;omega);rw[zAl]at m;have hi:¬((d.length:Int)<(c:Int)):=by{omega};go_wp2;go_end0;exact⟨rfl,by simpa using S1.out⟩
  |cons x j=>
   obtain⟨y,f,rfl⟩:∃y E,f=y::E:=by
    cases f with
    |nil=>rw[zAf,zAl]at h;omega
    |cons y f=>exact⟨y,f,rfl⟩
   rw[zAf]at m s h;rw[zAf]at h;have L:Aside (gR w0 g ((X++l)++x::((j++(Z++d))++y::(f++Y))) wr):=by{simpa only[zBo,zBx]using S1};clear S1;obtain⟨p,v⟩:∃p,p=(X++l).length:=⟨_,rfl⟩;obtain⟨r,o⟩:∃r,r=(X++l).length+1+(j++(Z++d)).length:=⟨_,rfl⟩;have u:p=a+d.length:=by{rw[v,zAc];omega};have t:r=b+d.length:=by{rw[o];simp only[zAc];omega};have V:r<n:=by{rw[<-hlen,o];simp only[zAc,zAf];omega};obtain⟨⟨k,cx,W,zE,lx,ly,T,Q,P,O,S3⟩,_⟩:=L.out.lp HR.out (by rw[<-I];simp only[zAc,zAf];omega) v o;have aE:=(λw=>(Qz.isAgg w 53).trans (isAgg53 w));clear L;have H1:Hid (d.length=l.length):=K;have k1:(a:Int)+(d.length:Int)=(p:Int):=by{omega};have k2:(b:Int)+(d.length:Int)=(r:Int):=by{omega};have k3:(p:Int)<(n:Int):=by{omega};have k4:(r:Int)<(n:Int):=by{omega};have k5:(0:Int)<=(p:Int):=by{omega};have k6:(0:Int)<=(r:Int):=by{omega};have k7:(d.length:Int)<(c:Int):=by{omega};have k8:IntKind.i64.wrap (p:Int)=(p:Int):=by{rw[zGt];omega};have k9:IntKind.i64.wrap (r:Int)=(r:Int):=by{rw[zGt];omega};have M:Hid (c=d.length+(j.length+1)):=m;clear v o u t m s h K J;go_wp2_with fail;go_big_region_o;clear T Q P O;generalize(wr.drew.setCells g (p*k) W).setCells g (r*k) cx=w2 at*;go_wp2;go_roundg (j.length);case measure=>have:=M.out;omega
   case rel=>exact⟨d++[x],j,l++[y],f,by simp,by simp,by simp[H1.out],by have:=M.out;simp;omega,by simp,(show gR _ _ _ _ by have:=S3.out;simpa using this)⟩
end
section
variable {w0 w:zW}{g n cap:Nat}{fv:zY}
def XG (X A B Y:List bJ)(R:tY w0 g n)(hn:(X++(A++(B++Y))).length=n)(hA:A≠[])(hB:B≠[])(FQ:n<=1000)(S:gR w0 g (X++(A++(B++Y))) w){xa xm xb:Int}(Tv:xa=(X.length:Int))(Tt:xm=((X.length+A.length:Nat):Int))(Tu:xb=((X.length+A.length+B.length:Nat):Int)):
  Calls zq 119 #[aK (aA ⟨g,0,aB⟩) n cap,aC aD xa,aC aD xm,aC aD xb,fv] w λe w'=>e=aM (.tuple #[])/\gR w0 g (X++(B++(A++Y))) w':=by
 have hlen:X.length+A.length+B.length+Y.length=n:=by rw[<-hn];simp only[zAc];omega
 have S0:Aside (gR w0 g (X++(A++(B++Y))) w):=S;have HR:Hid (tY w0 g n):=R;have J:0<A.length:=zCt.2 hA;have k:0<B.length:=zCt.2 hB;clear S R hn hA hB;obtain⟨p,u⟩:∃p,p=A.length:=⟨_,rfl⟩;obtain⟨o,t⟩:∃o,o=B.length:=⟨_,rfl⟩;obtain⟨m,F⟩:∃m,m=X.length+A.length:=⟨_,rfl⟩;have M:xa=(m:Int)-(p:Int):=by omega
 have L:xb=(m:Int)+(o:Int):=by omega
 have K:xm=(m:Int):=by omega
 have b1:(m:Int)-((m:Int)-(p:Int))=(p:Int):=by omega
 have b2:(m:Int)+(o:Int)-(m:Int)=(o:Int):=by omega
 have HM:Hid (m=X.length+A.length/\p=A.length/\o=B.length):=⟨F,u,t⟩;subst M L K;clear Tv Tt Tu F;rw[<-u]at J hlen;rw[<-t]at k hlen;clear u t;go_enter (Qz.fn func119),ntmps119;go_wp2;go_loopg [10,11] (p+o) (λq x y wr=>∃(i j:Nat)(P a d Q:List bJ),P++(d++(a++Q))=B++A/\X.length+P.length+a.length=m/\i=a.length/\j=d.length/\0<i/\0<j/\i+j<=q/\i+j+X.length+P.length+Q.length+Y.length=n/\x=aC aD (i:Int)/\y=aC aD (j:Int)/\Aside (gR w0 g (X++(P++(a++(d++(Q++Y))))) wr));case atStart=>exact⟨p,o,[],A,B,[],by simp,by have:=HM.out;simp only[zAl];omega,HM.out.2.1,HM.out.2.2,J,k,zAb _,by simp only[zAl];omega,rfl,rfl,(show gR _ _ _ _ by simpa using S0.out)⟩
 case round=>
  clear S0
  obtain⟨i,j,P,a,d,Q,G,F,hi,hj,Mo,Vd,hq,hl,rfl,rfl,S1⟩:=hrel
  have D:Hid (∀(b Z c:List bJ)(W:zW)(V U T:Int),(b++(Z++c)).length=i+j->b.length=c.length->gR w0 g ((X++P)++(b++(Z++(c++(Q++Y))))) W->V=((X.length+P.length:Nat):Int)->U=((X.length+P.length+b.length+Z.length:Nat):Int)->T=(b.length:Int)->Calls zq 129 #[aK (aA ⟨g,0,aB⟩) n cap,aC aD V,aC aD U,aC aD T,fv] W λe w'=>e=aM (.tuple #[])/\gR w0 g ((X++P)++(c++(Z++(b++(Q++Y))))) w'):=λb Z c W V U T O h2 h3 e1 e2 e3=>
   IP (X++P) b Z c (Q++Y) HR.out (by simp only[zAc]at O⊢;omega) h2 FQ h3 (by rw[zAc];exact e1) (by rw[zAc];exact e2) e3
  have z:Hid (P++(d++(a++Q))=B++A):=G
  have H:Hid (i=a.length/\j=d.length/\X.length+P.length+a.length=m):=⟨hi,hj,F⟩
  have k1:(m:Int)-(i:Int)=((X.length+P.length:Nat):Int):=by omega
  have c1:(m:Int)<=1000:=by omega
  have c2:(i:Int)<=(m:Int):=by omega
  have c3:(j:Int)<=1000:=by omega
  have c4:0<(i:Int):=by omega
  have c5:0<(j:Int):=by omega
  clear G F hi hj
  obtain v|v|v:=Nat.lt_trichotomy i j
  .obtain⟨c,E,rfl,sj⟩:∃c E,d=c++E/\E.length=i:=⟨d.take (j-i),d.drop (j-i),(zCa _ _).symm,by rw[zCn];have:=H.out;omega⟩;have k:c.length=j-i:=by{have:=H.out.2.1;rw[zAc]at this;omega};have O:¬((i:Int)=(j:Int)):=by{omega};have h2:¬((j:Int)<(i:Int)):=by{omega};have f:=D.out a c E wr _ _ _ (by simp only[zAc];have:=H.out;omega) (by have:=H.out;omega) (by have:=S1.out;simpa only[zBo]using this) rfl rfl rfl;have k2:(m:Int)+(j:Int)-(i:Int)=((X.length+P.length+a.length+c.length:Nat):Int):=by{have:=H.out;omega};have r:(a.length:Int)=(i:Int):=by{have:=H.out;omega};rw[r,<-k2,<-k1]at f;clear k1 k2 r S1 D;go_wp2_with fail;refine f.mono ?_;clear f;rintro e w2 ⟨rfl,h⟩;have N:Aside (gR w0 g (X++(P++(E++(c++((a++Q)++Y))))) w2):=by{show gR _ _ _ _;have s:=h;simp only[zBo]at s⊢;exact s};clear h;go_wp2;go_roundg (i+(j-i));case measure=>omega
   case rel=>
    refine⟨i,j-i,P,E,c,a++Q,?_,?_,sj.symm,k.symm,Mo,by omega,zAb _,?_,rfl,?_,N⟩
    .rw[<-z.out];simp only[zBo]
    .have:=H.out;omega
    .rw[zAc];have:=H.out;omega
    .congr 1;omega
  .subst v;have O:((i:Int)=(i:Int)):=rfl;have f:=D.out a [] d wr _ _ _ (by simp only[zAc,zAl];have:=H.out;omega) (by have:=H.out;omega) (by have:=S1.out;simpa only[zBo,zCk]using this) rfl rfl rfl;have k2:(m:Int)=((X.length+P.length+a.length+([]:List bJ).length:Nat):Int):=by{have:=H.out;simp only[zAl];omega};have r:(a.length:Int)=(i:Int):=by have:=H.out;omega
   rw[r,<-k2,<-k1]at f;clear k1 k2 r S1 D;go_wp2_with fail;refine f.mono ?_;clear f;rintro e w2 ⟨rfl,h⟩;have N:Aside (gR w0 g (X++(B++(A++Y))) w2):=by show gR _ _ _ _;have s:=h;have e:=congrArg (λl=>X++(l++Y)) z.out;simp only[zBo,zCk]at s e;rw[<-e];exact s
   clear h;go_wp2;go_end0;exact⟨rfl,N.out⟩
  .obtain⟨b,C,rfl,I⟩:∃b C,a=b++C/\b.length=j:=⟨a.take j,a.drop j,(zCa _ _).symm,by rw[zBf];have:=H.out;omega⟩;have gd:C.length=i-j:=by{have:=H.out.1;rw[zAc]at this;omega};have O:¬((i:Int)=(j:Int)):=by{omega};have h2:(j:Int)<(i:Int):=by{omega};have f:=D.out b C d wr _ _ _ (by simp only[zAc];have:=H.out;omega) (by have:=H.out;omega) (by have:=S1.out;simpa only[zBo]using this) rfl rfl rfl;have k2:(m:Int)=((X.length+P.length+b.length+C.length:Nat):Int):=by{have:=H.out.2.2;rw[zAc]at this;omega};have r:(b.length:Int)=(j:Int):=by{omega};rw[r,<-k2,<-k1]at f;clear k1 k2 r S1 D;go_wp2_with fail;refine f.mono ?_;clear f;rintro e w2 ⟨rfl,h⟩;have N:Aside (gR w0 g (X++((P++d)++(C++(b++(Q++Y))))) w2):=by{show gR _ _ _ _;have s:=h;simp only[zBo]at s⊢;exact s};clear h;go_wp2;go_roundg (i-j+j);case measure=>omega
   case rel=>
    refine⟨i-j,j,P++d,C,b,Q,?_,?_,gd.symm,I.symm,by omega,Vd,zAb _,?_,?_,rfl,N⟩
    .rw[<-z.out];simp only[zBo]
    .rw[zAc];have:=H.out;rw[zAc]at this;omega
    .rw[zAc];have:=H.out;rw[zAc]at this;omega
    .congr 1;omega
end
def OL {x y:bJ}:tW x y<0↔pO x y:=by have:=lI x y;unfold ltOf at this;rw[zCm]at this;exact this
structure Ask (w0:zW)(g:Nat)(l:List bJ)(i j:Nat)(w:zW)(c:Int)(k:Nat)(ci cj:zV):Prop where
 zE:∀w,(Go.sizeOf 53).run zq w= .ok k w
 ld:∀(p:Nat) os,Sem.run zq (loadCellsFrom ⟨g,i*k,aB⟩ 0 k #[]) (grow (w.drewN p) os)= .ok ci.toArray (grow (w.drewN p) os)
 ld':∀(p:Nat) os,Sem.run zq (loadCellsFrom ⟨g,j*k,aB⟩ 0 k #[]) (grow (w.drewN p) os)= .ok cj.toArray (grow (w.drewN p) os)
 cmp:∀(p:Nat) os,Calls zq 62 #[.agg ci.toArray,.agg cj.toArray] (grow (w.drewN p) os) λe w'=>e=aM (aC aD c)/\∃q Qg,w'=grow ((grow (w.drewN p) os).drewN q) Qg
 sw:Aside (∀(p:Nat) os,gR w0 g l (grow (w.drewN p) os))
def gR.ask {w0 w:zW}{g n:Nat}{l:List bJ}(h:gR w0 g l w)(R:tY w0 g n)(a:l.length=n){i j:Nat}{x y:bJ}(hi:l[i]? =aA x)(b:l[j]? =aA y):∃k ci d,Ask w0 g l i j w (tW x y) k ci d:=by
 obtain⟨d0,c,R⟩:=R;have ld:∀(i:Nat) x,l[i]? =aA x->∀(p:Nat) os,Sem.run zq (loadCellsFrom ⟨g,i*3,aB⟩ 0 3 #[]) (grow (w.drewN p) os)= .ok x.cells.toArray (grow (w.drewN p) os):=λi x hi p os=>by
  have hl:=(zBa.1 hi).1;have e:l.toArray[i]! =x:=by rw[zEd l.toArray i (by simpa using hl)];simpa using(zBa.1 hi).2
  have:=SWK.ld h R (by rw[zAp,a,c]) zq i (by simpa using hl) p os;rw[e,zBd]at this;exact this
 exact⟨3,x.cells,y.cells,(λw=>(Qz.sizeOf w 53).trans (sizeOf53 w)),ld i x hi,ld j y b,λp os=>SWK.cmp h (UO g 0 n w0) (by simpa using a) x y p os,λp os=>SWK.grown h p os⟩
section
variable {w0 w:zW}{g n cap:Nat}
def vU {L:List bJ}{X B Y:List bJ}{i m:Nat}(a:L=X++(B++Y))(h:m=X.length)(c:m<=i)(b:i<m+B.length):L[i]? =B[i-m]? :=by rw[a,zBn (by omega),zCj (by omega),h]
def LI {B:List bJ}{i:Nat}(a:0<i)(h:i<=B.length):(B.take i).getLast? =B[i-1]? :=by rw[zGg,zBf,zCp,zAz (by omega),Nat.min_eq_left h]
def head_drop {B:List bJ}{i:Nat}:(B.drop i).head? =B[i]? :=by rw[List.head?_eq_getElem?,zEv,aE9]
def WH (X:List bJ)(x:bJ)(B Y:List bJ)(R:tY w0 g n)(hn:(X++(x::(B++Y))).length=n)(hB:jX B)(FQ:n<=1000)(S:gR w0 g (X++(x::(B++Y))) w){xa xm xb:Int}(Tv:xa=(X.length:Int))(Tt:xm=((X.length+1:Nat):Int))(Tu:xb=((X.length+1+B.length:Nat):Int)):
  Calls zq 102 #[aK (aA ⟨g,0,aB⟩) n cap,aC aD xa,aC aD xm,aC aD xb,.func (.func 62) #[] #[]] w λe w'=>e=aM (.tuple #[])/\∃C,eI (x::B) C/\jX C/\gR w0 g (X++(C++Y)) w':=by
 have mixed:zq.follows .mixedOrders=aF:=by kernel_rfl
 obtain⟨a,ha⟩:∃a,a=X.length:=⟨_,rfl⟩;obtain⟨m,hm⟩:∃m,m=a+1:=⟨_,rfl⟩;obtain⟨b,hb⟩:∃b,b=m+B.length:=⟨_,rfl⟩;obtain⟨L,N⟩:∃L,L=X++(x::(B++Y)):=⟨_,rfl⟩;have Z:L.length=n:=by rw[N];exact hn
 have xl:b<=n:=by rw[<-hn];simp only[zAc,zAf];omega
 have W:L[a]? =aA x:=by rw[N,ha,zBn (zAb _),zFn];rfl
 have K:Hid (∀i,m<=i->i<b->L[i]? =B[i-m]?):=λi o G=>vU (X:=X++[x]) (Y:=Y) (by rw[N];simp) (by simp;omega) o (by omega);have S0:Aside (gR w0 g L w):=by rw[N];exact S
 have HR:Hid (tY w0 g n):=R;have zi:Hid (jX B):=hB;have HL:Hid (L=X++(x::(B++Y))/\a=X.length/\b=m+B.length):=⟨N,ha,hb⟩;have F:Hid (L.length=n):=Z;have yr:Hid (L[a]? =aA x):=W;have Nj:xa=(a:Int):=by omega
 have Ng:xm=(m:Int):=by omega
 have Ni:xb=(b:Int):=by omega
 have e1:(m:Int)-(a:Int)=1:=by omega
 subst Nj Ng Ni;have U:m<=b:=by omega
 have ham:a<m:=by omega
 have HM:Hid (m=a+1):=hm;clear S R hB N ha hb hn Z W Tv Tt Tu hm;go_enter (Qz.fn func102),ntmps102;go_wp2_with fail;go_loopg [10,11] (b-m) (λq u v wr=>∃i j:Nat,m<=i/\i<=j/\j<=b/\j-i=q/\u=aC aD (i:Int)/\v=aC aD (j:Int)/\(i=m\/∃y,L[i-1]? =aA y/\pO y x)/\(j=b\/∃y,L[j]? =aA y/\¬pO y x)/\Aside (gR w0 g L wr));case atStart=>exact⟨m,b,zAb _,U,zAb _,rfl,rfl,rfl,aH rfl,aH rfl,S0⟩
 case round=>
  clear S0
  obtain⟨i,j,T,qg,V,hq,rfl,rfl,o,G,S1⟩:=hrel
  have H:Hid ((i=m\/∃y,L[i-1]? =aA y/\pO y x)/\(j=b\/∃y,L[j]? =aA y/\¬pO y x)):=⟨o,G⟩
  clear o G
  by_cases bT:i<j
  .have px:0<=(i:Int)+(j:Int):=by{omega};have oh:(i:Int)+(j:Int)<=2000000:=by{omega};have Xz:(i:Int)<(j:Int):=by{omega};go_upto_region 5 with(fail)
   obtain⟨h,hh⟩:∃h:Nat,h=(i+j)/2:=⟨_,rfl⟩;have he:((i:Int)+(j:Int))/2=(h:Int):=by{omega};rw[he];have qh:i<=h:=by{omega};have qj:h<j:=by{omega};clear px oh he hh;obtain⟨y,l⟩:∃y,L[h]? =aA y:=⟨_,zAi (by have:=F.out;omega)⟩;obtain⟨k,ci,cj,zE,la,lb,D,HG⟩:=S1.out.ask HR.out F.out l yr.out;have aE:=(λw=>(Qz.isAgg w 53).trans (isAgg53 w));have HY:Hid (L[h]? =aA y):=l;have Pg:Hid (tW y x<0↔pO y x):=OL;have qm:(0:Int)<=(h:Int):=by{omega};have ql:(h:Int)<(n:Int):=by{omega};have rl:(0:Int)<=(a:Int):=by{omega};have Tm:(a:Int)<(n:Int):=by{omega};generalize tW y x=cv at*;clear l S1;by_cases Gi:cv<0
   .go_quiet_grown (first|(refine aFl (D _ _)));clear la lb D zE aE;go_wp2;go_roundg (j-(h+1));case measure=>omega
    case rel=>exact⟨h+1,j,by omega,by omega,V,rfl,by go_num,rfl,aI ⟨y,by rw[zGc];exact HY.out,Pg.out.1 Gi⟩,H.out.2,HG.out _ _⟩
   .go_quiet_grown (first|(refine aFl (D _ _)));clear la lb D zE aE;go_wp2;go_roundg (h-i);case measure=>omega
    case rel=>exact⟨i,h,T,by omega,by omega,rfl,rfl,rfl,H.out.1,aI ⟨y,HY.out,λh'=>by have:=Pg.out.2 h';omega⟩,HG.out _ _⟩
  .obtain rfl:i=j:=by{omega};have pe:¬((i:Int)<(i:Int)):=by omega
   obtain⟨d,s,f,J⟩:∃d s,B=d++s/\d.length=i-m:=⟨B.take (i-m),B.drop (i-m),(zCa _ _).symm,by rw[zBf];have:=HL.out;omega⟩;have HF:Hid (eI (x::B) (d++x::s)/\jX (d++x::s)):=by
    have hS:=zi.out;rw[f]at hS⊢;refine Ex hS (λy l=> ?_) λy l=> ?_
    .obtain e|⟨z,O,t⟩:=H.out.1
     .obtain rfl:d=[]:=zBg (by omega);cases l
     .have I:d≠[]:=λe=>by{rw[e]at l;cases l};have h0:=zCt.2 I;rw[K.out (i-1) (by omega) (by omega),f,zCj (by omega)]at O;rw[zGg,J,show i-m-1=i-1-m by omega,O]at l;cases l;exact t
    .have I:s≠[]:=λe=>by{rw[e]at l;cases l};have h0:=zCt.2 I;have hBl:B.length=d.length+s.length:=by{rw[f,zAc]};have hb:=HL.out.2.2;obtain e|⟨z,O,t⟩:=H.out.2;{omega};{rw[K.out i (by omega) (by omega),f,zBn (by omega),J,zFn]at O;rw[List.head?_eq_getElem?,O]at l;cases l;exact t}
   have M:Hid (X++(x::(d++(s++Y)))=L/\a=X.length/\a+1+d.length+s.length+Y.length=n/\i=a+1+d.length):=by have o:=HL.out;have G:=F.out;refine⟨by rw[o.1,f];simp,o.2.1,?_,by have:=HM.out;omega⟩;rw[<-G,o.1,f];simp only[zAc,zAf];omega
   have S2:Aside (gR w0 g (X++(x::(d++(s++Y)))) wr):=by{rw[M.out.1];exact S1};have c1:(1:Int)<=(i:Int):=by{omega};have c2:(i:Int)<=1000:=by{omega};clear S1 zi K HL F yr H f J T qg V hq bT U ham HM;go_wp2_with fail;go_loopg [13] d.length (λq u wr=>∃(k:Nat)(E A:List bJ),d=E++A/\k=a+E.length/\A.length=q/\u=aC aD (k:Int)/\Aside (gR w0 g (X++(E++(x::(A++(s++Y))))) wr));case atStart=>exact⟨a,[],d,rfl,rfl,rfl,rfl,S2⟩
   case round=>
    clear S2
    obtain⟨k,E,A,hP,hk,hq,rfl,S3⟩:=hrel
    have HP:Hid (d=E++A/\k=a+E.length/\d.length=E.length+A.length):=⟨hP,hk,by rw[hP,zAc]⟩
    clear hP hk
    cases A with
    |nil=>
     have hki:¬((k:Int)<(i:Int)-1):=by have o:=HP.out;have G:=M.out;simp only[zAl]at o;omega
     have S4:Aside (gR w0 g (X++((d++x::s)++Y)) wr):=by show gR _ _ _ _;have:=S3.out;rw[HP.out.1];simpa using this
     clear S3;go_wp2;(try simp only[Exit.inBlock,Exit.then]);refine zHe (Go.results_none rfl _ _ _) rfl ?_;exact⟨rfl,_,HF.out.1,HF.out.2,S4.out⟩
    |cons y A=>
     have o:=HP.out;have G:=M.out;rw[zAf]at o;obtain⟨⟨c,cx,cy,zE,lx,ly,la,lb,sa,sb,S4⟩,_⟩:=gR.lp (P:=X++E) (Q:=[]) (R':=A++(s++Y)) (x:=x) (y:=y) (by have:=S3.out;simpa using this) HR.out (by simp only[zAc,zAf,zAl];omega) (p:=k) (r:=k+1) (by rw[zAc];omega) (by rw[zAc,zAl];omega);have aE:=(λw=>(Qz.isAgg w 53).trans (isAgg53 w));have k1:(k:Int)<(i:Int)-1:=by{omega};have k2:(0:Int)<=(k:Int):=by{omega};have k3:(k:Int)<(n:Int):=by{omega};have k4:(0:Int)<=(k:Int)+1:=by{omega};have k5:(k:Int)+1<(n:Int):=by{omega};have k6:IntKind.i64.wrap ((k:Int)+1)=(k:Int)+1:=by{rw[zGt];omega};have k7:((k:Int)+1).toNat=k+1:=by{omega};clear o G S3;go_wp2_with fail;go_big_region_o;clear la lb sa sb zE aE lx ly;generalize(wr.drew.setCells g (k*c) cy).setCells g ((k+1)*c) cx=w2 at*;go_wp2;go_roundg A.length;case measure=>rw[<-hq,zAf];omega
     case rel=>exact⟨k+1,E++[y],A,by rw[HP.out.1];simp,by have:=HP.out;rw[zAc,zEg];omega,rfl,by go_num,(show gR _ _ _ _ by have:=S4.out;simpa using this)⟩
end
section
variable {w0 w:zW}{g n cap:Nat}
def QJ (X A:List bJ)(y:bJ)(Y:List bJ)(R:tY w0 g n)(hn:(X++(A++(y::Y))).length=n)(hA:jX A)(gd:A.length≠1)(FQ:n<=1000)(S:gR w0 g (X++(A++(y::Y))) w){xa xm xb:Int}(Tv:xa=(X.length:Int))(Tt:xm=((X.length+A.length:Nat):Int))(Tu:xb=((X.length+A.length+1:Nat):Int)):
  Calls zq 102 #[aK (aA ⟨g,0,aB⟩) n cap,aC aD xa,aC aD xm,aC aD xb,.func (.func 62) #[] #[]] w λe w'=>e=aM (.tuple #[])/\∃C,eI (A++[y]) C/\jX C/\gR w0 g (X++(C++Y)) w':=by
 have mixed:zq.follows .mixedOrders=aF:=by kernel_rfl
 obtain⟨a,ha⟩:∃a,a=X.length:=⟨_,rfl⟩;obtain⟨m,hm⟩:∃m,m=a+A.length:=⟨_,rfl⟩;obtain⟨b,hb⟩:∃b,b=m+1:=⟨_,rfl⟩;obtain⟨L,N⟩:∃L,L=X++(A++(y::Y)):=⟨_,rfl⟩;have Z:L.length=n:=by rw[N];exact hn
 have xl:b<=n:=by rw[<-hn];simp only[zAc,zAf];omega
 have W:L[m]? =aA y:=by rw[N,hm,ha,zBn (by omega),zBn (by omega)];simp
 have K:Hid (∀i,a<=i->i<m->L[i]? =A[i-a]?):=λi t I=>vU N ha t (by omega);have S0:Aside (gR w0 g L w):=by rw[N];exact S
 have HR:Hid (tY w0 g n):=R;have zl:Hid (jX A):=hA;have HL:Hid (L=X++(A++(y::Y))/\a=X.length/\m=a+A.length):=⟨N,ha,hm⟩;have E:Hid (L.length=n):=Z;have yq:Hid (L[m]? =aA y):=W;have Nj:xa=(a:Int):=by omega
 have Ng:xm=(m:Int):=by omega
 have Ni:xb=(b:Int):=by omega
 have e1:((m:Int)-(a:Int)==1)=aG:=zDb.2 (by omega);have e2:(b:Int)-(m:Int)=1:=by omega
 subst Nj Ng Ni;have U:a<=m:=by omega
 have hmb:m<b:=by omega
 clear S R hA N ha hb hn Z W Tv Tt Tu hm gd;go_enter (Qz.fn func102),ntmps102;go_wp2_with fail;go_loopg [14,15] (m-a) (λq u v wr=>∃i j:Nat,a<=i/\i<=j/\j<=m/\j-i=q/\u=aC aD (i:Int)/\v=aC aD (j:Int)/\(i=a\/∃x,L[i-1]? =aA x/\¬pO y x)/\(j=m\/∃x,L[j]? =aA x/\pO y x)/\Aside (gR w0 g L wr));case atStart=>exact⟨a,m,zAb _,U,zAb _,rfl,rfl,rfl,aH rfl,aH rfl,S0⟩
 case round=>
  clear S0
  obtain⟨i,j,V,qg,T,hq,rfl,rfl,t,I,S1⟩:=hrel
  have H:Hid ((i=a\/∃x,L[i-1]? =aA x/\¬pO y x)/\(j=m\/∃x,L[j]? =aA x/\pO y x)):=⟨t,I⟩
  clear t I
  by_cases bT:i<j
  .have px:0<=(i:Int)+(j:Int):=by{omega};have oh:(i:Int)+(j:Int)<=2000000:=by{omega};have Xz:(i:Int)<(j:Int):=by{omega};go_upto_region 17 with(fail)
   obtain⟨h,hh⟩:∃h:Nat,h=(i+j)/2:=⟨_,rfl⟩;have he:((i:Int)+(j:Int))/2=(h:Int):=by{omega};rw[he];have qh:i<=h:=by{omega};have qj:h<j:=by{omega};clear px oh he hh;obtain⟨x,s⟩:∃x,L[h]? =aA x:=⟨_,zAi (by have:=E.out;omega)⟩;obtain⟨k,ci,cj,zE,la,lb,D,HG⟩:=S1.out.ask HR.out E.out yq.out s;have aE:=(λw=>(Qz.isAgg w 53).trans (isAgg53 w));have HX:Hid (L[h]? =aA x):=s;have Pg:Hid (tW y x<0↔pO y x):=OL;have qm:(0:Int)<=(h:Int):=by{omega};have ql:(h:Int)<(n:Int):=by{omega};have rl:(0:Int)<=(m:Int):=by{omega};have Tm:(m:Int)<(n:Int):=by{omega};generalize tW y x=cv at*;clear s S1;by_cases Gi:cv<0
   .go_quiet_grown (first|(refine aFl (D _ _)));clear la lb D zE aE;go_wp2;go_roundg (h-i);case measure=>omega
    case rel=>exact⟨i,h,V,by omega,by omega,rfl,rfl,rfl,H.out.1,aI ⟨x,HX.out,Pg.out.1 Gi⟩,HG.out _ _⟩
   .go_quiet_grown (first|(refine aFl (D _ _)));clear la lb D zE aE;go_wp2;go_roundg (j-(h+1));case measure=>omega
    case rel=>exact⟨h+1,j,by omega,by omega,T,rfl,by go_num,rfl,aI ⟨x,by rw[zGc];exact HX.out,λh'=>by have:=Pg.out.2 h';omega⟩,H.out.2,HG.out _ _⟩
  .obtain rfl:i=j:=by{omega};have pe:¬((i:Int)<(i:Int)):=by omega
   obtain⟨l,f,d,G⟩:∃l f,A=l++f/\l.length=i-a:=⟨A.take (i-a),A.drop (i-a),(zCa _ _).symm,by rw[zBf];have:=HL.out;omega⟩;have HF:Hid (eI (A++[y]) (l++y::f)/\jX (l++y::f)):=by
    have hS:=zl.out;have hAl:A.length=l.length+f.length:=by{rw[d,zAc]};have hml:=HL.out.2.2;rw[d]at hS⊢;refine XR hS (λx s=> ?_) λx s=> ?_
    .obtain e|⟨z,O,B⟩:=H.out.1
     .obtain rfl:l=[]:=zBg (by omega);cases s
     .have F:l≠[]:=λe=>by{rw[e]at s;cases s};have h0:=zCt.2 F;rw[K.out (i-1) (by omega) (by omega),d,zCj (by omega)]at O;rw[zGg,G,show i-a-1=i-1-a by omega,O]at s;cases s;exact B
    .have F:f≠[]:=λe=>by{rw[e]at s;cases s};have h0:=zCt.2 F;obtain e|⟨z,O,B⟩:=H.out.2;{omega};{rw[K.out i (by omega) (by omega),d,zBn (by omega),G,zFn]at O;rw[List.head?_eq_getElem?,O]at s;cases s;exact B}
   have M:Hid (X++(l++(f++(y::Y)))=L/\a=X.length/\a+l.length+f.length+1+Y.length=n/\i=a+l.length/\m=i+f.length):=by have t:=HL.out;have I:=E.out;have h3:A.length=l.length+f.length:=by{rw[d,zAc]};refine⟨by rw[t.1,d];simp,t.2.1,?_,by omega,by omega⟩;rw[<-I,t.1,d];simp only[zAc,zAf];omega
   have S2:Aside (gR w0 g (X++(l++(f++(y::Y)))) wr):=by{rw[M.out.1];exact S1};have c1:(0:Int)<=(i:Int):=by{omega};have c2:(m:Int)<=1000:=by{omega};clear S1 zl K HL E yq H d G V qg T hq bT hmb U;go_wp2_with fail;go_loopg [17] f.length (λq u wr=>∃(k:Nat)(o J:List bJ),f=o++J/\k=i+o.length/\o.length=q/\u=aC aD (k:Int)/\Aside (gR w0 g (X++(l++(o++(y::(J++Y))))) wr));case atStart=>exact⟨m,f,[],by simp,M.out.2.2.2.2,rfl,rfl,(show gR _ _ _ _ by simpa using S2.out)⟩
   case round=>
    clear S2
    obtain⟨k,o,J,hP,hk,hq,rfl,S3⟩:=hrel
    have HP:Hid (f=o++J/\k=i+o.length/\f.length=o.length+J.length):=⟨hP,hk,by rw[hP,zAc]⟩
    clear hP hk
    obtain rfl|⟨o,z,rfl⟩:o=[]\/∃P z,o=P++[z]:=by obtain h|⟨P,z,h⟩:=List.eq_nil_or_concat o;{exact aH h};{exact aI ⟨P,z,by rw[h,List.concat_eq_append]⟩}
    .have hki:¬((i:Int)<(k:Int)):=by have t:=HP.out;simp only[zAl]at t;omega
     have S4:Aside (gR w0 g (X++((l++y::f)++Y)) wr):=by show gR _ _ _ _;have:=S3.out;rw[HP.out.1];simpa using this
     clear S3;go_wp2;(try simp only[Exit.inBlock,Exit.then]);refine zHe (Go.results_none rfl _ _ _) rfl ?_;exact⟨rfl,_,HF.out.1,HF.out.2,S4.out⟩
    .have t:=HP.out;have I:=M.out;rw[zAc,zEg]at t;obtain⟨j,hj⟩:∃j,k=j+1:=⟨k-1,by omega⟩;subst hj;obtain⟨_,c,cx,cy,zE,lx,ly,la,lb,sa,sb,S4⟩:=gR.lp (P:=X++(l++o)) (Q:=[]) (R':=J++Y) (x:=z) (y:=y) (by have:=S3.out;simpa using this) HR.out (by simp only[zAc,zAf,zAl];omega) (p:=j) (r:=j+1) (by simp only[zAc];omega) (by simp only[zAc,zAl];omega);have aE:=(λw=>(Qz.isAgg w 53).trans (isAgg53 w));have k1:(i:Int)<(j:Int)+1:=by{omega};have k2:(0:Int)<=(j:Int):=by{omega};have k3:(j:Int)<(n:Int):=by{omega};have k4:(0:Int)<=(j:Int)+1:=by{omega};have k5:(j:Int)+1<(n:Int):=by{omega};have k6:IntKind.i64.wrap (j:Int)=(j:Int):=by{rw[zGt];omega};have k7:((j:Int)+1).toNat=j+1:=by{omega};clear t I S3;go_wp2_with fail;go_big_region_o;clear la lb sa sb zE aE lx ly;generalize(wr.drew.setCells g ((j+1)*c) cy).setCells g (j*c) cx=w2 at*;go_wp2;go_roundg o.length;case measure=>rw[<-hq,zAc,zEg];omega
     case rel=>exact⟨j,o,z::J,by rw[HP.out.1];simp,by have:=HP.out;rw[zAc,zEg]at this;omega,rfl,by first|rfl|go_num,(show gR _ _ _ _ by have:=S4.out;simpa using this)⟩
end
section
variable {w0 w:zW}{g n cap:Nat}
def IA (w0:zW)(g n cap N:Nat):Prop:=∀(X A B Y:List bJ)(w:zW)(b x a:Int),A.length+B.length<=N->(X++(A++(B++Y))).length=n->A≠[]->B≠[]->jX A->jX B->gR w0 g (X++(A++(B++Y))) w->b=(X.length:Int)->x=((X.length+A.length:Nat):Int)->a=((X.length+A.length+B.length:Nat):Int)->
  Calls zq 102 #[aK (aA ⟨g,0,aB⟩) n cap,aC aD b,aC aD x,aC aD a,.func (.func 62) #[] #[]] w λe c=>e=aM (.tuple #[])/\∃C,eI (A++B) C/\jX C/\gR w0 g (X++(C++Y)) c
structure Zj (A B A1 A2 B1 B2:List bJ):Prop where
 a:A=A1++A2
 b:B=B1++B2
 lt:∀x∈A2,∀y∈B1,pO y x
 le:∀x∈A1,∀y∈B2,tD x y
def Zj.done {A B A1 A2 B1 B2 C1 C2:List bJ}(h:Zj A B A1 A2 B1 B2)(e:jX A)(d:jX B)(c:eI (A1++B1) C1)(b:eI (A2++B2) C2)(s1:jX C1)(s2:jX C2):eI (A++B) (C1++C2)/\jX (C1++C2):=by obtain⟨rfl,rfl,a,f⟩:=h;exact⟨vA c b a,yF c b s1 s2 e d a f⟩
def Uc {A B L X Y:List bJ}{a m b s e:Nat}(z:L=X++(A++(B++Y)))(I:a=X.length)(Q:m=a+A.length)(S:b=m+B.length)(K:jX A)(J:jX B)(hs:a<=s)(G:s<=m)(R:m<=e)(H:e<=b)
  (N:a<s->e<b->∃x y,L[s-1]? =aA x/\L[e]? =aA y/\tD x y) (M:s<m->m<e->∃x y,L[s]? =aA x/\L[e-1]? =aA y/\pO y x):
  ∃D P C O,Zj A B D P C O/\D.length=s-a/\C.length=e-m:=by
 have f:∀i,a<=i->i<m->L[i]? =A[i-a]? :=λi k1 k2=>vU z I k1 (by omega);have d:∀i,m<=i->i<b->L[i]? =B[i-m]? :=λi k1 k2=>vU (X:=X++A) (Y:=Y) (by rw[z];simp) (by rw[zAc];omega) k1 (by omega);have v:=K;have u:=J;rw[<-zCa (s-a) A]at v;rw[<-zCa (e-m) B]at u;obtain⟨q,p,_⟩:=zCf.1 v;obtain⟨o,l,_⟩:=zCf.1 u;refine⟨A.take (s-a),A.drop (s-a),B.take (e-m),B.drop (e-m),⟨(zCa _ _).symm,(zCa _ _).symm,YB p o λx y c h=> ?_,YI q l λx y c h=> ?_⟩,by rw[zBf];omega,by rw[zBf];omega⟩
 .rw[head_drop]at c;have k1:=(zBa.1 c).1;have k2:m<e:=zFr λr=>by{rw[show e-m=0 by omega]at h;cases h};rw[LI (by omega) (by omega)]at h;obtain⟨F,E,k,j,t⟩:=M (by omega) k2;rw[f s hs (by omega),c]at k;rw[d (e-1) (by omega) (by omega),show e-1-m=e-m-1 by omega,h]at j;cases k;cases j;exact t
 .rw[head_drop]at h;have k1:=(zBa.1 h).1;have k2:a<s:=zFr λr=>by{rw[show s-a=0 by omega]at c;cases c};rw[LI (by omega) (by omega)]at c;obtain⟨F,E,k,j,t⟩:=N k2 (by omega);rw[f (s-1) (by omega) (by omega),show s-1-a=s-a-1 by omega,c]at k;rw[d e (by omega) (by omega),h]at j;cases k;cases j;exact t
def Aside.Su {a b c d e:Prop}(k:a)(j:b)(i:c)(f:d)(h:e):Aside (a/\b/\c/\d/\e):=⟨k,j,i,f,h⟩
structure Tail (w0:zW)(g n cap:Nat)(L:List bJ)(a m b fV s e:Nat)(F:Nat->zW->Prop)(D:zW->Prop):Prop where
 one:∀W,gR w0 g L W->(s<m->m<e->Calls zq 119 #[aK (aA ⟨g,0,aB⟩) n cap,aC aD (s:Int),aC aD (m:Int),aC aD (e:Int),.func (.func 62) #[] #[]] W λe w'=>e=aM (.tuple #[])/\F 1 w')/\(¬(s<m/\m<e)->F 1 W)
 two:∀W,F 1 W->(a<s->s<fV->Calls zq 102 #[aK (aA ⟨g,0,aB⟩) n cap,aC aD (a:Int),aC aD (s:Int),aC aD (fV:Int),.func (.func 62) #[] #[]] W λe w'=>e=aM (.tuple #[])/\F 2 w')/\(¬(a<s/\s<fV)->F 2 W)
 three:∀W,F 2 W->(fV<e->e<b->Calls zq 102 #[aK (aA ⟨g,0,aB⟩) n cap,aC aD (fV:Int),aC aD (e:Int),aC aD (b:Int),.func (.func 62) #[] #[]] W λe w'=>e=aM (.tuple #[])/\D w')/\(¬(fV<e/\e<b)->D W)
def Qx {N:Nat}{X A B Y L:List bJ}{a m b fV s e:Nat}(R:tY w0 g n)(I:n<=1000)(V:IA w0 g n cap N)(hN:A.length+B.length<=N+1)(hL:L=X++(A++(B++Y)))(hn:L.length=n)(ha:a=X.length)(hm:m=a+A.length)(hb:b=m+B.length)(H:jX A)(G:jX B)(Z:a<fV)(K:fV<b)(hs:a<=s)(J:s<=m)(he:m<=e)(M:e<=b)(hse:s+e=fV+m)
  (t:a<s->e<b->∃x y,L[s-1]? =aA x/\L[e]? =aA y/\tD x y) (r:s<m->m<e->∃x y,L[s]? =aA x/\L[e-1]? =aA y/\pO y x):
  ∃F,Tail w0 g n cap L a m b fV s e F λE=>∃C,eI (A++B) C/\jX C/\gR w0 g (X++(C++Y)) E:=by
 obtain⟨l,d,j,f,o,l1,U⟩:=Uc hL ha hm hb H G hs J he M t r;have eA:A.length=l.length+d.length:=by rw[o.a,zAc]
 have eB:B.length=j.length+f.length:=by rw[o.b,zAc]
 have T:=H;have S:=G;rw[o.a]at T;rw[o.b]at S;obtain⟨D,z,_⟩:=zCf.1 T;obtain⟨v,u,_⟩:=zCf.1 S;have q:L=X++(l++(d++(j++(f++Y)))):=by rw[hL,o.a,o.b];simp
 have hlen:X.length+l.length+d.length+j.length+f.length+Y.length=n:=by rw[<-hn,q];simp only[zAc];omega
 refine⟨λi W=>if i=1 then gR w0 g (X++(l++(j++(d++(f++Y))))) W else∃p,eI (l++j) p/\jX p/\gR w0 g (X++(p++(d++(f++Y)))) W,λW c=>⟨λk1 k2=> ?_,λk=> ?_⟩,λW c=>⟨λk1 k2=> ?_,λk=> ?_⟩,λW c=>⟨λk1 k2=> ?_,λk=> ?_⟩⟩
 .rw[q]at c;refine(XG (X++l) d j (f++Y) R (by simp only[zAc];omega) (λh=>by rw[h,zAl]at eA;omega) (λh=>by rw[h,zAl]at U;omega) I (by simpa using c) (by rw[zAc];omega) (by rw[zAc];omega) (by rw[zAc];omega)).mono ?_;rintro e E ⟨t,r⟩;exact⟨t,by rw[zAz rfl];simpa using r⟩
 .rw[zAz rfl];rw[q]at c;by_cases h:s<m
  .obtain rfl:j=[]:=zBg (by omega);simpa using c
  .obtain rfl:d=[]:=zBg (by omega);simpa using c
 .rw[zAz rfl]at c;refine(V X l j (d++(f++Y)) W _ _ _ (by omega) (by simp only[zAc];omega) (λh=>by rw[h,zAl]at l1;omega) (λh=>by rw[h,zAl]at U;omega) D v c (by omega) (by omega) (by omega)).mono ?_;rintro e E ⟨t,C,r,P,O⟩;exact⟨t,by rw[zAv (by decide)];exact⟨C,r,P,O⟩⟩
 .rw[zAz rfl]at c;rw[zAv (by decide)];refine⟨l++j,.refl _,?_,by simpa using c⟩;by_cases h:a<s
  .obtain rfl:j=[]:=zBg (by omega);rw[zAq];exact D
  .obtain rfl:l=[]:=zBg (by omega);exact v
 .rw[zAv (by decide)]at c;obtain⟨p,c1,c2,c3⟩:=c;have cl:=c1.len;rw[zAc]at cl;refine(V (X++p) d f Y W _ _ _ (by omega) (by simp only[zAc];omega) (λh=>by rw[h,zAl]at eA;omega) (λh=>by rw[h,zAl]at eB;omega) z u (by simpa using c3) (by rw[zAc];omega) (by rw[zAc];omega) (by rw[zAc];omega)).mono ?_;rintro e E ⟨t,C2,r,P,O⟩;obtain⟨d1,Q⟩:=o.done H G c1 r c2 P;exact⟨t,p++C2,d1,Q,by simpa using O⟩
 .rw[zAv (by decide)]at c;obtain⟨p,c1,c2,c3⟩:=c;have s2:jX (d++f):=by
   by_cases h:fV<e;{obtain rfl:f=[]:=zBg (by omega);rw[zAq];exact z};{obtain rfl:d=[]:=zBg (by omega);exact u}
  obtain⟨d1,Q⟩:=o.done H G c1 (.refl _) c2 s2;exact⟨p++(d++f),d1,Q,by simpa using c3⟩
end
section
variable {w0 w:zW}{g n cap:Nat}
def IN {N:Nat}(R:tY w0 g n)(FQ:n<=1000)(ih:IA w0 g n cap N):IA w0 g n cap (N+1):=by
 intro X A B Y w xa xm xb hN hn yf sk hA hB S Tv Tt Tu;have hA1:=zCt.2 yf;have hB1:=zCt.2 sk;by_cases sm:A.length=1
 .obtain⟨x,rfl⟩:=List.length_eq_one_iff.1 sm;exact WH X x B Y R (by simpa using hn) hB FQ (by simpa using S) Tv (by simpa using Tt) (by simpa using Tu)
 by_cases ye:B.length=1
 .obtain⟨y,rfl⟩:=List.length_eq_one_iff.1 ye;exact QJ X A y Y R (by simpa using hn) hA sm FQ (by simpa using S) Tv Tt (by simpa using Tu)
 have mixed:zq.follows .mixedOrders=aF:=by kernel_rfl
 obtain⟨a,ha⟩:∃a,a=X.length:=⟨_,rfl⟩;obtain⟨m,hm⟩:∃m,m=a+A.length:=⟨_,rfl⟩;obtain⟨b,hb⟩:∃b,b=m+B.length:=⟨_,rfl⟩;obtain⟨fV,pk⟩:∃fV,fV=(a+b)/2:=⟨_,rfl⟩;obtain⟨L,hL⟩:∃L,L=X++(A++(B++Y)):=⟨_,rfl⟩;have sc:L.length=n:=by rw[hL];exact hn
 have xl:b<=n:=by rw[<-hn];simp only[zAc];omega
 have S0:Aside (gR w0 g L w):=by rw[hL];exact S
 have HR:Hid (tY w0 g n):=R;have U:Hid (L.length=n):=sc;have e1:((m:Int)-(a:Int)==1)=aG:=zDb.2 (by omega);have e2:((b:Int)-(m:Int)==1)=aG:=zDb.2 (by omega);obtain⟨f1,f2,f3,f4⟩:a+2<=m/\m+2<=b/\a<fV/\fV<b:=by omega
 have f5:fV+fV<=a+b/\a+b<=fV+fV+1:=by omega
 have HT:Hid (∀s e,a<=s->s<=m->m<=e->e<=b->s+e=fV+m->(a<s->e<b->∃x y,L[s-1]? =aA x/\L[e]? =aA y/\tD x y)->(s<m->m<e->∃x y,L[s]? =aA x/\L[e-1]? =aA y/\pO y x)->∃F,Tail w0 g n cap L a m b fV s e F λw'=>∃C,eI (A++B) C/\jX C/\gR w0 g (X++(C++Y)) w'):=λs e l G P h4 h5 h6 h7=>Qx R FQ ih hN hL sc ha hm hb hA hB f3 f4 l G P h4 h5 h6 h7;obtain⟨D,hD⟩:∃D:zW->Prop,D=λw'=>∃C,eI (A++B) C/\jX C/\gR w0 g (X++(C++Y)) w':=⟨_,rfl⟩;rw[<-hD]at HT;have Nj:xa=(a:Int):=by omega
 have Ng:xm=(m:Int):=by omega
 have Ni:xb=(b:Int):=by omega
 subst Nj Ng Ni;have hg:∀(e:Ending)(w':zW),(e=aM (.tuple #[])/\∃C,eI (A++B) C/\jX C/\gR w0 g (X++(C++Y)) w')=(e=aM (.tuple #[])/\D w'):=λe w'=>by rw[hD]
 simp only[hg];have Z:0<=(a:Int)+(b:Int):=by omega
 have V:(a:Int)+(b:Int)<=2000000:=by omega
 clear S R hA hB hL ha hb hn sc Tv Tt Tu hm yf sk sm ye hA1 hB1 hN ih hD hg;go_enter (Qz.fn func102),ntmps102;go_upto_region 25 with(fail)
 have M:((a:Int)+(b:Int))/2=(fV:Int):=by omega
 rw[M];clear Z V M pk;have g1:(b:Int)<=1000:=by omega
 have g2:(m:Int)<(b:Int):=by omega
 have g3:(a:Int)<(m:Int):=by omega
 have g4:(fV:Int)<(b:Int):=by omega
 have g5:(a:Int)<(fV:Int):=by omega
 by_cases hmm:fV<m
 .have pj:((fV:Int)<(m:Int)):=by{omega};obtain⟨s0,jw⟩:∃s0,s0=fV+m-b:=⟨_,rfl⟩;have q3:(fV:Int)+(m:Int)-(b:Int)=(s0:Int):=by{omega};have ym:Hid (s0=fV+m-b):=jw;have g6:(0:Int)<=(s0:Int):=by{omega};have hsr:s0<=fV/\a<=s0:=by{omega};clear jw;go_upto_region 33 with(fail)
  go_loopg [20,21] (fV-s0) (λq u v wr=>∃s t:Nat,s0<=s/\s<=t/\t<=fV/\t-s=q/\u=aC aD (s:Int)/\v=aC aD (t:Int)/\(s=s0\/∃x y,L[s-1]? =aA x/\L[fV+m-s]? =aA y/\tD x y)/\(t=fV\/∃x y,L[t]? =aA x/\L[fV+m-t-1]? =aA y/\pO y x)/\Aside (gR w0 g L wr));case atStart=>exact⟨s0,fV,zAb _,by omega,zAb _,rfl,rfl,rfl,aH rfl,aH rfl,S0⟩
  case round=>
   clear S0
   obtain⟨s,t,hs,Ir,W,hq,rfl,rfl,l,G,S1⟩:=hrel
   have p:Hid ((s=s0\/∃x y,L[s-1]? =aA x/\L[fV+m-s]? =aA y/\tD x y)/\(t=fV\/∃x y,L[t]? =aA x/\L[fV+m-t-1]? =aA y/\pO y x)):=⟨l,G⟩
   clear l G
   by_cases bT:s<t
   .have Z:0<=(s:Int)+(t:Int):=by{omega};have V:(s:Int)+(t:Int)<=2000000:=by{omega};have Xz:(s:Int)<(t:Int):=by{omega};go_upto_region 35 with(fail)
    obtain⟨h,hh⟩:∃h:Nat,h=(s+t)/2:=⟨_,rfl⟩;have M:((s:Int)+(t:Int))/2=(h:Int):=by{omega};rw[M];have qh:s<=h:=by{omega};have qj:h<t:=by{omega};clear Z V M hh;obtain⟨r,hr⟩:∃r,r=fV+m-h-1:=⟨_,rfl⟩;have hrn:r<n:=by{have:=ym.out;omega};have O:(fV:Int)+(m:Int)-1-(h:Int)=(r:Int):=by{omega};obtain⟨x,hx⟩:∃x,L[h]? =aA x:=⟨_,zAi (by have:=U.out;omega)⟩;obtain⟨y,hy⟩:∃y,L[r]? =aA y:=⟨_,zAi (by have:=U.out;omega)⟩;obtain⟨k,ci,cj,zE,la,lb,E,HG⟩:=S1.out.ask HR.out U.out hy hx;have aE:=(λw=>(Qz.isAgg w 53).trans (isAgg53 w));have I:Hid (L[h]? =aA x/\L[fV+m-h-1]? =aA y):=⟨hx,by rw[<-hr];exact hy⟩;have Pg:Hid (tW y x<0↔pO y x):=OL;have qm:(0:Int)<=(h:Int):=by{omega};have ql:(h:Int)<(n:Int):=by{omega};have rl:(0:Int)<=(r:Int):=by{omega};have Tm:(r:Int)<(n:Int):=by{omega};have hw:IntKind.i64.wrap (r:Int)=(r:Int):=by{rw[zGt];omega};generalize tW y x=cv at*;clear hx hy S1 hr;by_cases Gi:cv<0
    .go_quiet_grown (first|(refine aFl (E _ _)));clear la lb E zE aE O hw;go_wp2;go_roundg (h-s);case measure=>omega
     case rel=>exact⟨s,h,hs,by omega,by omega,rfl,rfl,rfl,p.out.1,aI ⟨x,y,I.out.1,I.out.2,Pg.out.1 Gi⟩,HG.out _ _⟩
    .go_quiet_grown (first|(refine aFl (E _ _)));clear la lb E zE aE O hw;go_wp2;go_roundg (t-(h+1));case measure=>omega
     case rel=>exact⟨h+1,t,by omega,by omega,W,rfl,by go_num,rfl,aI ⟨x,y,by rw[zGc];exact I.out.1,by rw[show fV+m-(h+1)=fV+m-h-1 by omega];exact I.out.2,λh'=>by have:=Pg.out.2 h';omega⟩,p.out.2,HG.out _ _⟩
   .obtain rfl:s=t:=by{omega};have pe:¬((s:Int)<(s:Int)):=by omega
    obtain⟨e,M⟩:∃e,e=fV+m-s:=⟨_,rfl⟩;have jw:=ym.out;obtain⟨F,H⟩:=HT.out s e (by omega) (by omega) (by omega) (by omega) (by omega) (λk1 k2=>by
     obtain h|⟨x,y,z1,z2,z3⟩:=p.out.1;{omega}
     .exact⟨x,y,z1,by rw[M];exact z2,z3⟩) (λk1 k2=>by
     obtain h|⟨x,y,z1,z2,z3⟩:=p.out.2;{omega}
     .exact⟨x,y,z1,by rw[M];exact z2,z3⟩)
    have H:Hid (Tail w0 g n cap L a m b fV s e F D):=H;have O:(fV:Int)+(m:Int)-(s:Int)=(e:Int):=by{omega};have k1:a<=s:=by{omega};have k2:s<=m:=by{omega};have k3:m<=e:=by{omega};have k4:e<=b:=by{omega};have i:s+e=fV+m:=by{omega};have g8:(e:Int)<=1000:=by{omega};have g9:(s:Int)<=1000:=by{omega};clear jw M p hs Ir W hq bT HT;obtain⟨f,d,c,j⟩|⟨f,d,c,j⟩|⟨f,d,c,j⟩|⟨f,d,c,j⟩|⟨f,d,c,j⟩|⟨f,d,c,j⟩|⟨f,d,c,j⟩:=(show(a<s/\s<m/\m<e/\e<b)\/(s=a/\s<m/\m<e/\e<b)\/(a<s/\s=m/\m<e/\e<b)\/(a<s/\s<m/\e=m/\e<b)\/(a<s/\s<m/\m<e/\e=b)\/(s=a/\s<m/\m<e/\e=b)\/(a<s/\s=m/\e=m/\e<b) by omega);{have i1:((s:Int)<(m:Int)):=by{omega};have i2:((m:Int)<(e:Int)):=by{omega};have i3:((a:Int)<(s:Int)):=by{omega};have i4:((s:Int)<(fV:Int)):=by{omega};have i5:((fV:Int)<(e:Int)):=by{omega};have i6:((e:Int)<(b:Int)):=by{omega};have T:=(H.out.one _ S1.out).1 (by omega) (by omega);have J:=Aside.Su f d c j i;clear f d c j k1 k2 k3 k4 i S1;go_wp2_with fail;refine T.mono ?_;clear T;rintro Q w1 ⟨rfl,l⟩;have z:Aside (F 1 w1):=l;clear l;have T2:=(H.out.two _ z.out).1 (by obtain⟨f,d,c,j,i⟩:=J.out;omega) (by obtain⟨f,d,c,j,i⟩:=J.out;omega);clear z;go_wp2_with fail;refine T2.mono ?_;clear T2;rintro Q w2 ⟨rfl,G⟩;have o:Aside (F 2 w2):=G;clear G;have T3:=(H.out.three _ o.out).1 (by obtain⟨f,d,c,j,i⟩:=J.out;omega) (by obtain⟨f,d,c,j,i⟩:=J.out;omega);clear o;go_wp2_with fail;refine T3.mono ?_;clear T3;rintro Q w3 ⟨rfl,P⟩;have K:Aside (D w3):=P;clear P;go_wp2;go_end0;exact⟨rfl,K.out⟩};{exfalso;omega};{exfalso;omega};{have i1:((s:Int)<(m:Int)):=by{omega};have i2:¬((m:Int)<(e:Int)):=by{omega};have i3:((a:Int)<(s:Int)):=by{omega};have i4:¬((s:Int)<(fV:Int)):=by{omega};have i5:((fV:Int)<(e:Int)):=by{omega};have i6:((e:Int)<(b:Int)):=by{omega};have z:Aside (F 1 wr):=(H.out.one _ S1.out).2 (by omega);have o:Aside (F 2 wr):=(H.out.two _ z.out).2 (by omega);have T3:=(H.out.three _ o.out).1 (by omega) (by omega);have J:=Aside.Su f d c j i;clear f d c j k1 k2 k3 k4 i S1;go_wp2_with fail;refine T3.mono ?_;clear T3;rintro Q w3 ⟨rfl,P⟩;have K:Aside (D w3):=P;clear P;go_wp2;go_end0;exact⟨rfl,K.out⟩};{have i1:((s:Int)<(m:Int)):=by{omega};have i2:((m:Int)<(e:Int)):=by{omega};have i3:((a:Int)<(s:Int)):=by{omega};have i4:((s:Int)<(fV:Int)):=by{omega};have i5:((fV:Int)<(e:Int)):=by{omega};have i6:¬((e:Int)<(b:Int)):=by{omega};have T:=(H.out.one _ S1.out).1 (by omega) (by omega);have J:=Aside.Su f d c j i;clear f d c j k1 k2 k3 k4 i S1;go_wp2_with fail;refine T.mono ?_;clear T;rintro Q w1 ⟨rfl,l⟩;have z:Aside (F 1 w1):=l;clear l;have T2:=(H.out.two _ z.out).1 (by obtain⟨f,d,c,j,i⟩:=J.out;omega) (by obtain⟨f,d,c,j,i⟩:=J.out;omega);clear z;go_wp2_with fail;refine T2.mono ?_;clear T2;rintro Q w2 ⟨rfl,G⟩;have o:Aside (F 2 w2):=G;clear G;have K:Aside (D w2):=(H.out.three _ o.out).2 (by obtain⟨f,d,c,j,i⟩:=J.out;omega);clear o;go_wp2;go_end0;exact⟨rfl,K.out⟩};{have i1:((s:Int)<(m:Int)):=by{omega};have i2:((m:Int)<(e:Int)):=by{omega};have i3:¬((a:Int)<(s:Int)):=by{omega};have i4:((s:Int)<(fV:Int)):=by{omega};have i5:((fV:Int)<(e:Int)):=by{omega};have i6:¬((e:Int)<(b:Int)):=by{omega};have T:=(H.out.one _ S1.out).1 (by omega) (by omega);have J:=Aside.Su f d c j i;clear f d c j k1 k2 k3 k4 i S1;go_wp2_with fail;refine T.mono ?_;clear T;rintro Q w1 ⟨rfl,l⟩;have z:Aside (F 1 w1):=l;clear l;have o:Aside (F 2 w1):=(H.out.two _ z.out).2 (by obtain⟨f,d,c,j,i⟩:=J.out;omega);clear z;have K:Aside (D w1):=(H.out.three _ o.out).2 (by obtain⟨f,d,c,j,i⟩:=J.out;omega);clear o;go_wp2;go_end0;exact⟨rfl,K.out⟩};{exfalso;omega}
 .have pj:¬((fV:Int)<(m:Int)):=by{omega};go_upto_region 33 with(fail)
  go_loopg [20,21] (m-a) (λq u v wr=>∃s t:Nat,a<=s/\s<=t/\t<=m/\t-s=q/\u=aC aD (s:Int)/\v=aC aD (t:Int)/\(s=a\/∃x y,L[s-1]? =aA x/\L[fV+m-s]? =aA y/\tD x y)/\(t=m\/∃x y,L[t]? =aA x/\L[fV+m-t-1]? =aA y/\pO y x)/\Aside (gR w0 g L wr));case atStart=>exact⟨a,m,zAb _,by omega,zAb _,rfl,rfl,rfl,aH rfl,aH rfl,S0⟩
  case round=>
   clear S0
   obtain⟨s,t,hs,Ir,W,hq,rfl,rfl,l,G,S1⟩:=hrel
   have p:Hid ((s=a\/∃x y,L[s-1]? =aA x/\L[fV+m-s]? =aA y/\tD x y)/\(t=m\/∃x y,L[t]? =aA x/\L[fV+m-t-1]? =aA y/\pO y x)):=⟨l,G⟩
   clear l G
   by_cases bT:s<t
   .have Z:0<=(s:Int)+(t:Int):=by{omega};have V:(s:Int)+(t:Int)<=2000000:=by{omega};have Xz:(s:Int)<(t:Int):=by{omega};go_upto_region 35 with(fail)
    obtain⟨h,hh⟩:∃h:Nat,h=(s+t)/2:=⟨_,rfl⟩;have M:((s:Int)+(t:Int))/2=(h:Int):=by{omega};rw[M];have qh:s<=h:=by{omega};have qj:h<t:=by{omega};clear Z V M hh;obtain⟨r,hr⟩:∃r,r=fV+m-h-1:=⟨_,rfl⟩;have hrn:r<n:=by{omega};have O:(fV:Int)+(m:Int)-1-(h:Int)=(r:Int):=by{omega};obtain⟨x,hx⟩:∃x,L[h]? =aA x:=⟨_,zAi (by have:=U.out;omega)⟩;obtain⟨y,hy⟩:∃y,L[r]? =aA y:=⟨_,zAi (by have:=U.out;omega)⟩;obtain⟨k,ci,cj,zE,la,lb,E,HG⟩:=S1.out.ask HR.out U.out hy hx;have aE:=(λw=>(Qz.isAgg w 53).trans (isAgg53 w));have I:Hid (L[h]? =aA x/\L[fV+m-h-1]? =aA y):=⟨hx,by rw[<-hr];exact hy⟩;have Pg:Hid (tW y x<0↔pO y x):=OL;have qm:(0:Int)<=(h:Int):=by{omega};have ql:(h:Int)<(n:Int):=by{omega};have rl:(0:Int)<=(r:Int):=by{omega};have Tm:(r:Int)<(n:Int):=by{omega};have hw:IntKind.i64.wrap (r:Int)=(r:Int):=by{rw[zGt];omega};generalize tW y x=cv at*;clear hx hy S1 hr;by_cases Gi:cv<0
    .go_quiet_grown (first|(refine aFl (E _ _)));clear la lb E zE aE O hw;go_wp2;go_roundg (h-s);case measure=>omega
     case rel=>exact⟨s,h,hs,by omega,by omega,rfl,rfl,rfl,p.out.1,aI ⟨x,y,I.out.1,I.out.2,Pg.out.1 Gi⟩,HG.out _ _⟩
    .go_quiet_grown (first|(refine aFl (E _ _)));clear la lb E zE aE O hw;go_wp2;go_roundg (t-(h+1));case measure=>omega
     case rel=>exact⟨h+1,t,by omega,by omega,W,rfl,by go_num,rfl,aI ⟨x,y,by rw[zGc];exact I.out.1,by rw[show fV+m-(h+1)=fV+m-h-1 by omega];exact I.out.2,λh'=>by have:=Pg.out.2 h';omega⟩,p.out.2,HG.out _ _⟩
   .obtain rfl:s=t:=by{omega};have pe:¬((s:Int)<(s:Int)):=by omega
    obtain⟨e,M⟩:∃e,e=fV+m-s:=⟨_,rfl⟩;obtain⟨F,H⟩:=HT.out s e (by omega) (by omega) (by omega) (by omega) (by omega) (λk1 k2=>by
     obtain h|⟨x,y,z1,z2,z3⟩:=p.out.1;{omega}
     .exact⟨x,y,z1,by rw[M];exact z2,z3⟩) (λk1 k2=>by
     obtain h|⟨x,y,z1,z2,z3⟩:=p.out.2;{omega}
     .exact⟨x,y,z1,by rw[M];exact z2,z3⟩)
    have H:Hid (Tail w0 g n cap L a m b fV s e F D):=H;have O:(fV:Int)+(m:Int)-(s:Int)=(e:Int):=by{omega};have k1:a<=s:=by{omega};have k2:s<=m:=by{omega};have k3:m<=e:=by{omega};have k4:e<=b:=by{omega};have i:s+e=fV+m:=by{omega};have g8:(e:Int)<=1000:=by{omega};have g9:(s:Int)<=1000:=by{omega};clear M p hs Ir W hq bT HT;obtain⟨f,d,c,j⟩|⟨f,d,c,j⟩|⟨f,d,c,j⟩|⟨f,d,c,j⟩|⟨f,d,c,j⟩|⟨f,d,c,j⟩|⟨f,d,c,j⟩:=(show(a<s/\s<m/\m<e/\e<b)\/(s=a/\s<m/\m<e/\e<b)\/(a<s/\s=m/\m<e/\e<b)\/(a<s/\s<m/\e=m/\e<b)\/(a<s/\s<m/\m<e/\e=b)\/(s=a/\s<m/\m<e/\e=b)\/(a<s/\s=m/\e=m/\e<b) by omega);{have i1:((s:Int)<(m:Int)):=by{omega};have i2:((m:Int)<(e:Int)):=by{omega};have i3:((a:Int)<(s:Int)):=by{omega};have i4:((s:Int)<(fV:Int)):=by{omega};have i5:((fV:Int)<(e:Int)):=by{omega};have i6:((e:Int)<(b:Int)):=by{omega};have T:=(H.out.one _ S1.out).1 (by omega) (by omega);have J:=Aside.Su f d c j i;clear f d c j k1 k2 k3 k4 i S1;go_wp2_with fail;refine T.mono ?_;clear T;rintro Q w1 ⟨rfl,l⟩;have z:Aside (F 1 w1):=l;clear l;have T2:=(H.out.two _ z.out).1 (by obtain⟨f,d,c,j,i⟩:=J.out;omega) (by obtain⟨f,d,c,j,i⟩:=J.out;omega);clear z;go_wp2_with fail;refine T2.mono ?_;clear T2;rintro Q w2 ⟨rfl,G⟩;have o:Aside (F 2 w2):=G;clear G;have T3:=(H.out.three _ o.out).1 (by obtain⟨f,d,c,j,i⟩:=J.out;omega) (by obtain⟨f,d,c,j,i⟩:=J.out;omega);clear o;go_wp2_with fail;refine T3.mono ?_;clear T3;rintro Q w3 ⟨rfl,P⟩;have K:Aside (D w3):=P;clear P;go_wp2;go_end0;exact⟨rfl,K.out⟩};{have i1:((s:Int)<(m:Int)):=by{omega};have i2:((m:Int)<(e:Int)):=by{omega};have i3:¬((a:Int)<(s:Int)):=by{omega};have i4:((s:Int)<(fV:Int)):=by{omega};have i5:((fV:Int)<(e:Int)):=by{omega};have i6:((e:Int)<(b:Int)):=by{omega};have T:=(H.out.one _ S1.out).1 (by omega) (by omega);have J:=Aside.Su f d c j i;clear f d c j k1 k2 k3 k4 i S1;go_wp2_with fail;refine T.mono ?_;clear T;rintro Q w1 ⟨rfl,l⟩;have z:Aside (F 1 w1):=l;clear l;have o:Aside (F 2 w1):=(H.out.two _ z.out).2 (by obtain⟨f,d,c,j,i⟩:=J.out;omega);clear z;have T3:=(H.out.three _ o.out).1 (by obtain⟨f,d,c,j,i⟩:=J.out;omega) (by obtain⟨f,d,c,j,i⟩:=J.out;omega);clear o;go_wp2_with fail;refine T3.mono ?_;clear T3;rintro Q w3 ⟨rfl,P⟩;have K:Aside (D w3):=P;clear P;go_wp2;go_end0;exact⟨rfl,K.out⟩};{have i1:¬((s:Int)<(m:Int)):=by{omega};have i2:((m:Int)<(e:Int)):=by{omega};have i3:((a:Int)<(s:Int)):=by{omega};have i4:((s:Int)<(fV:Int)):=by{omega};have i5:¬((fV:Int)<(e:Int)):=by{omega};have i6:((e:Int)<(b:Int)):=by{omega};have z:Aside (F 1 wr):=(H.out.one _ S1.out).2 (by omega);have T2:=(H.out.two _ z.out).1 (by omega) (by omega);have J:=Aside.Su f d c j i;clear f d c j k1 k2 k3 k4 i S1;go_wp2_with fail;refine T2.mono ?_;clear T2;rintro Q w2 ⟨rfl,G⟩;have o:Aside (F 2 w2):=G;clear G;have K:Aside (D w2):=(H.out.three _ o.out).2 (by obtain⟨f,d,c,j,i⟩:=J.out;omega);clear o;go_wp2;go_end0;exact⟨rfl,K.out⟩};{exfalso;omega};{exfalso;omega};{have i1:((s:Int)<(m:Int)):=by{omega};have i2:((m:Int)<(e:Int)):=by{omega};have i3:¬((a:Int)<(s:Int)):=by{omega};have i4:((s:Int)<(fV:Int)):=by{omega};have i5:((fV:Int)<(e:Int)):=by{omega};have i6:¬((e:Int)<(b:Int)):=by{omega};have T:=(H.out.one _ S1.out).1 (by omega) (by omega);have J:=Aside.Su f d c j i;clear f d c j k1 k2 k3 k4 i S1;go_wp2_with fail;refine T.mono ?_;clear T;rintro Q w1 ⟨rfl,l⟩;have z:Aside (F 1 w1):=l;clear l;have o:Aside (F 2 w1):=(H.out.two _ z.out).2 (by obtain⟨f,d,c,j,i⟩:=J.out;omega);clear z;have K:Aside (D w1):=(H.out.three _ o.out).2 (by obtain⟨f,d,c,j,i⟩:=J.out;omega);clear o;go_wp2;go_end0;exact⟨rfl,K.out⟩};{have i1:¬((s:Int)<(m:Int)):=by{omega};have i2:¬((m:Int)<(e:Int)):=by{omega};have i3:((a:Int)<(s:Int)):=by{omega};have i4:¬((s:Int)<(fV:Int)):=by{omega};have i5:¬((fV:Int)<(e:Int)):=by{omega};have i6:((e:Int)<(b:Int)):=by{omega};have z:Aside (F 1 wr):=(H.out.one _ S1.out).2 (by omega);have o:Aside (F 2 wr):=(H.out.two _ z.out).2 (by omega);have K:Aside (D wr):=(H.out.three _ o.out).2 (by omega);have J:=Aside.Su f d c j i;clear f d c j k1 k2 k3 k4 i S1;go_wp2;go_end0;exact⟨rfl,K.out⟩}
def vO (R:tY w0 g n)(h:n<=1000):∀N,IA w0 g n cap N
 |0=>λX A B Y w c x b e d a=>absurd (zCt.2 a) (by omega)
 |N+1=>IN R h (vO R h N)
end
def Tf (X A Y:List bJ):∃C,(insertionSort (ltOf tW) (X++(A++Y)).toArray X.length (X.length+A.length)).toList=X++(C++Y)/\eI A C/\jX C:=by
 obtain⟨d,e⟩:∃d,d=(X++(A++Y)).toArray:=⟨_,rfl⟩;have r:d.size=X.length+A.length+Y.length:=by rw[e,zAp];simp only[zAc];omega
 have c:d.toList=X++(A++Y):=by rw[e]
 obtain⟨⟨u,p2,_⟩,p4⟩:=Go.Sort.insertionSort_holds (lt:=ltOf tW) Wv d X.length (X.length+A.length) (by omega) (by omega);have p:∀I,cN I (insertionSort (ltOf tW) d X.length (X.length+A.length)).toList=cN I d.toList:=λI=>(wT I X.length (X.length+A.length) _ (X.length+1) d rfl (by omega)).1;rw[<-e];generalize insertionSort (ltOf tW) d X.length (X.length+A.length)=a at*;have m:a.toList.length=X.length+A.length+Y.length:=by rw[zDh];omega
 have b:∀i,i<d.size->i<X.length\/X.length+A.length<=i->a.toList[i]? =d.toList[i]? :=λi hi h=>by have:=p2 i h;rw[zEd a i (by omega),zEd d i hi]at this;rw[zBs,zBs,zAj (by omega),zAj hi,this]
 have t:a.toList.take X.length=X:=by apply List.ext_getElem?;intro i;rw[zCp];by_cases h:i<X.length;{rw[zAz h,b i (by omega) (aH h),c,zCj h]};{rw[zAv h,zFp (by omega)]}
 have s:a.toList.drop (X.length+A.length)=Y:=by apply List.ext_getElem?;intro i;rw[zEv];by_cases h:i<Y.length;{rw[b _ (by omega) (aI (by omega)),c,zBn (by omega),zBn (by omega),show X.length+A.length+i-X.length-A.length=i by omega]};{rw[zFp (by omega),zFp (by omega)]}
 have l:a.toList=X++((a.toList.drop X.length).take A.length++Y):=by conv=>lhs;rw[<-zCa X.length a.toList,t,<-zCa A.length (a.toList.drop X.length),List.drop_drop,s]
 refine⟨_,l,⟨by rw[zBf,zCn];omega,λI=> ?_⟩,?_⟩
 .have:=p I;rw[l,c]at this;simp only[NN]at this;exact zCz (List.append_cancel_left this)
 .refine List.pairwise_iff_getElem.2 ?_;intro i j hi o q f;rw[zBf,zCn]at hi o;have:=p4 (X.length+i) (X.length+j) (by omega) (by omega) (by omega);rw[zEd a _ (by omega),zEd a _ (by omega)]at this;simp only[List.getElem_take,List.getElem_drop,Array.getElem_toList]at f;have k:=(lI _ _).2 f;rw[this]at k;cases k
section
variable {w0 w:zW}{g n cap:Nat}
def YP (X A Y:List bJ)(R:tY w0 g n)(l:(X++(A++Y)).length=n)(k:n<=1000)(S:gR w0 g (X++(A++Y)) w){d x:Int}(c:d=(X.length:Int))(b:x=((X.length+A.length:Nat):Int)):
  Calls zq 101 #[aK (aA ⟨g,0,aB⟩) n cap,aC aD d,aC aD x,.func (.func 62) #[] #[]] w λe f=>e=aM (.tuple #[])/\∃C,eI A C/\jX C/\gR w0 g (X++(C++Y)) f:=by
 subst c b;obtain⟨d0,a,R⟩:=R;have i:(X++(A++Y)).toArray.size=n:=by rw[zAp,l]
 have h:=Tg g cap X.length (X.length+A.length) (X++(A++Y)).toArray w (SWK.holds S R.hblk R.hH (by rw[i,a])) (SWK.lt S R.hblk) (by omega) (by rw[zAp];simp only[zAc];omega) (by omega);rw[i]at h;refine h.mono ?_;rintro e f ⟨rfl,m,os,rfl⟩;obtain⟨C,p,j,o⟩:=Tf X A Y;refine⟨rfl,C,j,o,?_⟩;have e:insertionSort (ltOf tW) (X++(A++Y)).toArray X.length (X.length+A.length)=(X++(C++Y)).toArray:=by rw[<-p]
 rw[e];exact SWK.on S R.hblk m _ os (by rw[zAp,zAp];have:=j.len;simp only[zAc];omega)
structure uA (us:List bJ)(s n a:Nat)(D r:List bJ):Prop where
 at':a=D.length
 on:∀r',fB s r'->fB s (D++r')
 fQ:eI us (D++r)
 len:a+r.length=n
def uA.next {us D r A C Y:List bJ}{s n a:Nat}(h:uA us s n a D r)(c:r=A++Y)(d:eI A C)(i:jX C)(hl:A.length=s):uA us s n (a+s) (D++C) Y:=by
 have j:=h.len;have k:=h.at';have f:=d.len;refine⟨by rw[zAc];omega,λe b=> ?_,?_,?_⟩
 .rw[zBo];exact h.on _ (.cons C e i (by omega) b)
 .have:=h.fQ;rw[c]at this;refine this.trans ?_;have:=d.fV D Y;simpa using this
 .rw[c,zAc]at j;omega
def uA.done {us D r C:List bJ}{s n a:Nat}(h:uA us s n a D r)(b:eI r C)(d:jX C)(hl:r.length<=s):fB s (D++C)/\eI us (D++C):=by have c:=b.len;refine⟨h.on _ (.last C d (by omega)),h.fQ.trans ?_⟩;have:=b.fV D [];simpa using this
def uA.start (us:List bJ)(s:Nat){L:List bJ}(h:eI us L):uA us s us.length 0 [] L:=⟨rfl,λr h=>h,h,by have:=h.len;omega⟩
def QR (us:List bJ)(R:tY w g us.length)(S:gR w g us w)(F:us.length<=1000):
  Calls zq 88 #[aK (aA ⟨g,0,aB⟩) us.length cap,aC aD (us.length:Int),.func (.func 62) #[] #[]] w λe Z=>e=aM (.tuple #[])/\gR w g (dP us) Z:=by
 have HI:Hid (∀(X A Y:List bJ)(W:zW)(V U:Int),(X++(A++Y)).length=us.length->gR w g (X++(A++Y)) W->V=(X.length:Int)->U=((X.length+A.length:Nat):Int)->Calls zq 101 #[aK (aA ⟨g,0,aB⟩) us.length cap,aC aD V,aC aD U,.func (.func 62) #[] #[]] W λe Z=>e=aM (.tuple #[])/\∃C,eI A C/\jX C/\gR w g (X++(C++Y)) Z):=λX A Y W V U c b f h4=>YP X A Y R c F b f h4;have HM:Hid (∀N,IA w g us.length cap N):=vO R F;have P:Hid (∀s L,us.length<=s->fB s L->eI us L->L=dP us):=λs L c b f=>by have hs:jX L:=b.small (by have:=f.len;omega);exact LF (l:=dP us) ⟨by rw[f.len,jM],λI=>by rw[f.of,uU]⟩ (oY us) hs
 have S0:Aside (gR w g us w):=S;have HH:Hid (∀s L,eI us L->uA us s us.length 0 [] L):=λs L h=>uA.start us s h;generalize dP us=T at*;clear S R;have m:Hid (∀L,eI us L->L.length=us.length):=λL h=>h.len;generalize us.length=n at*;go_enter (Qz.fn func88),ntmps88;go_wp2_with fail;go_loopg [7,8] n (λq x y wr=>∃(a:Nat)(D r:List bJ),n-a<=q/\a<=n/\x=aC aD (a:Int)/\y=aC aD ((a:Int)+20)/\Aside (uA us 20 n a D r/\gR w g (D++r) wr));case atStart=>exact⟨0,[],us,zAb _,zBu _,rfl,rfl,HH.out 20 us (.refl _),S0.out⟩
 case round=>
  clear S0
  obtain⟨a,D,r,hq,O,rfl,rfl,H⟩:=hrel
  by_cases t:a+20<=n
  .have j:(a:Int)+20<=(n:Int):=by{omega};obtain⟨A,Y,i,hA⟩:∃A Y,r=A++Y/\A.length=20:=⟨r.take 20,r.drop 20,(zCa _ _).symm,by rw[zBf];have:=H.out.1.len;omega⟩;have d:=H.out.1.at';have p:=HI.out D A Y wr (a:Int) ((a:Int)+20) (by rw[<-i];exact m.out _ H.out.1.fQ) (by rw[<-i];exact H.out.2) (by omega) (by omega);have k:Hid (∀C,eI A C->jX C->uA us 20 n (a+20) (D++C) Y):=λC c b=>H.out.1.next i c b hA;clear i hA d H;go_wp2_with fail;refine p.mono ?_;clear p;rintro e w1 ⟨rfl,C,c,b,f⟩;have B:Aside (uA us 20 n (a+20) (D++C) Y/\gR w g ((D++C)++Y) w1):=⟨k.out C c b,by simpa using f⟩;clear c b f k;go_wp2;go_roundg (n-(a+20));case measure=>omega
   case rel=>exact⟨a+20,D++C,Y,zAb _,t,by go_num,by first|rfl|go_num|(congr 1;omega),B⟩
  .have j:¬((a:Int)+20<=(n:Int)):=by{omega};have d:=H.out.1.at';have u:=H.out.1.len;have p:=HI.out D r [] wr (a:Int) (n:Int) (by rw[zAq];exact m.out _ H.out.1.fQ) (by rw[zAq];exact H.out.2) (by omega) (by omega);have k:Hid (∀C,eI r C->jX C->fB 20 (D++C)/\eI us (D++C)):=λC c b=>H.out.1.done c b (by omega);clear d u H;go_wp2_with fail;refine p.mono ?_;clear p;rintro e w1 ⟨rfl,C,c,b,f⟩;have o:Aside (fB 20 (D++C)/\eI us (D++C)/\gR w g (D++C) w1):=⟨(k.out C c b).1,(k.out C c b).2,by simpa using f⟩;generalize D++C=L0 at o;clear c b f k j hq O t;go_wp2_with fail;go_loopg [6] n (λq x wr=>∃(s:Nat)(L:List bJ),n-s<=q/\20<=s/\s<=2000/\x=aC aD (s:Int)/\Aside (fB s L/\eI us L/\gR w g L wr));case atStart=>exact⟨20,L0,by omega,by omega,by omega,rfl,o⟩
   case round=>
    clear o
    obtain⟨s,L,hq,aAM,ow,rfl,o⟩:=hrel
    generalize wr=wq at*
    by_cases bT:s<n
    .have M:(s:Int)<(n:Int):=by{omega};have Q:Aside (uA us (2*s) n 0 [] L/\fB s L/\gR w g L wq):=⟨HH.out _ _ o.out.2.1,o.out.1,o.out.2.2⟩;clear o;go_wp2_with fail;go_loopg [7,8] n (λq x y wr=>∃(a:Nat)(D r:List bJ),n-a<=q/\a<=n/\x=aC aD (a:Int)/\y=aC aD ((a:Int)+2*(s:Int))/\Aside (uA us (2*s) n a D r/\fB s r/\gR w g (D++r) wr));case atStart=>exact⟨0,[],L,zAb _,zBu _,rfl,by first|rfl|go_num|(congr 1;omega),Q⟩
     case round=>
      clear Q
      obtain⟨a,D,r,vx,O,rfl,rfl,H⟩:=hrel
      by_cases t:a+2*s<=n
      .have j:(a:Int)+2*(s:Int)<=(n:Int):=by{omega};obtain⟨l,l',v,i,s1,E,s2,n2,K⟩:=H.out.2.1.two (by omega) (by have:=H.out.1.len;omega);have d:=H.out.1.at';have p:=HM.out _ D l l' v wr (a:Int) ((a:Int)+(s:Int)) ((a:Int)+2*(s:Int)) (zAb _) (by rw[<-i];exact m.out _ H.out.1.fQ) (λh=>by rw[h,zAl]at E;omega) (λh=>by rw[h,zAl]at n2;omega) s1 s2 (by rw[<-i];exact H.out.2.2) (by omega) (by omega) (by omega);have k:Hid (∀C,eI (l++l') C->jX C->uA us (2*s) n (a+2*s) (D++C) v/\fB s v):=λC c b=>⟨H.out.1.next (A:=l++l') (by rw[i,zBo]) c b (by rw[zAc];omega),K⟩;clear i s1 E s2 n2 K d H;go_wp2_with fail;refine p.mono ?_;clear p;rintro e w2 ⟨rfl,C,c,b,f⟩;have B:Aside (uA us (2*s) n (a+2*s) (D++C) v/\fB s v/\gR w g ((D++C)++v) w2):=⟨(k.out C c b).1,(k.out C c b).2,by simpa using f⟩;clear c b f k;go_wp2;go_roundg (n-(a+2*s));case measure=>omega
       case rel=>exact⟨a+2*s,D++C,v,zAb _,t,by first|go_num|(congr 1;omega),by first|rfl|go_num|(congr 1;omega),B⟩
      .have j:¬((a:Int)+2*(s:Int)<=(n:Int)):=by{omega};have u:=H.out.1.len;have d:=H.out.1.at';by_cases hm:a+s<n
       .have pq:(a:Int)+(s:Int)<(n:Int):=by{omega};obtain⟨l,r1,i,s1,E,J⟩:=H.out.2.1.first (by omega);have G:r.length=l.length+r1.length:=by{rw[i,zAc]};have p:=HM.out _ D l r1 [] wr (a:Int) ((a:Int)+(s:Int)) (n:Int) (zAb _) (by rw[zAq,<-i];exact m.out _ H.out.1.fQ) (λh=>by rw[h,zAl]at E;omega) (λh=>by rw[h,zAl]at G;omega) s1 (J.small (by omega)) (by rw[zAq,<-i];exact H.out.2.2) (by omega) (by omega) (by omega);have k:Hid (∀C,eI (l++r1) C->jX C->fB (2*s) (D++C)/\eI us (D++C)):=λC c b=>H.out.1.done (by rw[i];exact c) b (by omega);clear i s1 E J G u d H;go_wp2_with fail;refine p.mono ?_;clear p;rintro e w2 ⟨rfl,C,c,b,f⟩;have z:Aside (fB (2*s) (D++C)/\eI us (D++C)/\gR w g (D++C) w2):=⟨(k.out C c b).1,(k.out C c b).2,by simpa using f⟩;clear c b f k;go_wp2;go_roundg (n-2*s);case measure=>omega
        case rel=>exact⟨2*s,D++C,zAb _,by omega,by omega,by first|go_num|(congr 1;omega),z⟩
       .have pq:¬((a:Int)+(s:Int)<(n:Int)):=by omega
        have z:Aside (fB (2*s) (D++r)/\eI us (D++r)/\gR w g (D++r) wr):=by obtain⟨c,b⟩:=H.out.1.done (.refl _) (H.out.2.1.small (by omega)) (by omega);exact⟨c,b,H.out.2.2⟩
        clear u d H;go_wp2;go_roundg (n-2*s);case measure=>omega
        case rel=>exact⟨2*s,D++r,zAb _,by omega,by omega,by first|go_num|(congr 1;omega),z⟩
    .have M:¬((s:Int)<(n:Int)):=by omega
     have HF:Aside (gR w g T wq):=by have:=P.out s L (by omega) o.out.1 o.out.2.1;rw[<-this];exact o.out.2.2
     clear o;go_wp2;go_end0;exact⟨rfl,HF.out⟩
end
def Gg {w base g cap us}(h:cH w base (aK (aA ⟨g,0,aB⟩) us.length cap) us):HoldsK bJ.cells 3 w g 0 us.toArray:=by
 intro t d;rw[size_flatK,zAp]at d;have hi:t/3<us.length:=by omega
 have a:=zAi hi;have c:=(LP us (t/3) _ a (t%3) (zGj _ (by omega))).1;have b:=h.cellAt (t/3) _ a (t%3) (zGj _ (by omega));rw[show t/3*3+t%3=t by omega]at c b;refine⟨?_,World.ownsRow.frozenAt h _⟩;rw[zBd,b,c];have:t%3<(us[t/3]).cells.length:=zGj _ (by omega);rw[zAi this];rfl
def WK (base g cap:Nat)(us:List bJ)(w:zW)(a:cH w base (aK (aA ⟨g,0,aB⟩) us.length cap) us)(i:base<=g)(f:g<w.heap.size)(d:us.length<=1000):
  Calls zq 88 #[aK (aA ⟨g,0,aB⟩) us.length cap,aC aD us.length,.func (.func 62) #[] #[]] w λe b=>
   e=aM (.tuple #[])/\HoldsK bJ.cells 3 b g 0 (dP us).toArray/\Below base w b:=by
 have c:=Gg a;refine(QR us ⟨us.toArray,by simp,λ_=>rfl,BX,c,f⟩ (SWK.start c) d).mono ?_;rintro e b ⟨rfl,h⟩;refine⟨rfl,SWK.holds h f c (by simp[jM]),?_⟩;obtain⟨m,os,rfl⟩:=h;exact JL (zGo _ _) i (by omega)
def DM (base g cap:Nat)(us:List bJ)(w:zW)(h:cH w base (aK (aA ⟨g,0,aB⟩) us.length cap) us)(f:base<=g)(c:g<w.heap.size)(a:us.length<=1000):
  Calls zq 61 #[aK (aA ⟨g,0,aB⟩) us.length cap,.func (.func 62) #[] #[]] w λe b=>
   e=aM (.tuple #[])/\HoldsK bJ.cells 3 b g 0 (dP us).toArray/\Below base w b:=by
 have d:=WK base g cap us w h f c a;clear h;generalize us.length=n at*;generalize(dP us).toArray=D at*;go_enter (Qz.fn func61),ntmps61;go_wp2_with fail;refine d.mono ?_;rintro e w1 ⟨rfl,h1,i⟩;go_wp2_with fail;go_end0;exact⟨rfl,h1,i⟩
def Pa (w:zW)(v:zY)(us:List bJ):Prop:=(us=[]/\∃a c,v=aK a 0 c)\/∃g o c,v=aK (aA ⟨g,o,aB⟩) us.length c/\g<w.heap.size/\∀j u,(cD us)[j]? =aA u->w.cell? ⟨g,o+j,aB⟩=aA u
def GL (g o c)(us)(w)(hl:us.length<=1000)(l:∀j u,(cD us)[j]? =aA u->w.cell? ⟨g,o+j,aB⟩=aA u):
  Calls zq 60 #[aK (aA ⟨g,o,aB⟩) us.length c] w λe b=>∃v,e=aM v/\cH b w.heap.size v us/\v≠aK aB 0 0/\zb w b:=by
 obtain⟨i,hi,d,h,a⟩:=QE;exact AnyE.slices_Clone Qz.Od i _ 3 40 hi d h a rfl (by omega) (λw=>(Qz.sizeOf w 53).trans (sizeOf53 w)) g o us.length c (cD us) w (lY us) (by simp only[maxLen];omega) (by omega) l (λu k=>by obtain⟨x,_,f⟩:=List.mem_flatMap.1 k;exact BX x u f)
def emit (S:List bJ)(i:Nat):Option bJ:=
 match S[i]?,S[i+1]? with
 |some u,aB=>aA u
 |some u,aA v=>if v.idx=u.idx then aB else aA u
 |none,_=>aB
def uM:∀S:List bJ,fR S=(List.range S.length).filterMap (emit S)
 |[]=>rfl
 |[u]=>rfl
 |u::v::r=>by
  have i:=uM (v::r);have e:(List.range (u::v::r).length).filterMap (emit (u::v::r))=([0].filterMap (emit (u::v::r)))++(List.range (v::r).length).filterMap (emit (v::r)):=by rw[zAf,List.range_succ_eq_map,show(0::(List.range (v::r).length).map aFm)=[0]++(List.range (v::r).length).map aFm from rfl,List.filterMap_append,List.filterMap_map];rfl
  rw[e,fR,i];have a:emit (u::v::r) 0=if v.idx=u.idx then aB else aA u:=rfl
  rw[zFg,List.filterMap_nil,a];by_cases h:v.idx=u.idx;{rw[zAz h,zAz h];rfl};{rw[zAv h,zAv h];rfl}
def kQ (S:List bJ)(t:Nat):List bJ:=(List.range t).filterMap (emit S)
def XP (S)(t):kQ S (t+1)=kQ S t++(emit S t).toList:=by unfold kQ;rw[List.range_succ,List.filterMap_append,zFg,List.filterMap_nil];cases emit S t<;>rfl
def KR (S)(t):(kQ S t).length<=t:=by have:=List.length_filterMap_le (emit S) (List.range t);rw[List.length_range]at this;exact this
def Mk (v fv)(w):Calls zq 101 #[v,aC aD 0,aC aD 0,fv] w λe a=>e=aM (.tuple #[])/\a=w:=by
 go_enter (Qz.fn func101),ntmps101;go_wp2_with fail;go_loopg [8] 0 (λq i wr=>i=aC aD 1/\wr=w);case atStart=>exact⟨rfl,rfl⟩
 case round=>
  obtain⟨rfl,rfl⟩:=hrel
  go_wp2_with fail
  go_end0
  exact⟨rfl,rfl⟩
def QQ (v fv)(w):Calls zq 88 #[v,aC aD 0,fv] w λe c=>e=aM (.tuple #[])/\c=w:=by
 go_enter (Qz.fn func88),ntmps88;go_wp2_with fail;go_loopg [7,8] 0 (λq a b wr=>a=aC aD 0/\b=aC aD 20/\wr=w);case atStart=>exact⟨rfl,rfl,rfl⟩
 case round=>
  obtain⟨rfl,rfl,rfl⟩:=hrel
  go_wp2_with fail
  refine(Mk v fv wr).mono ?_
  rintro e w1 ⟨rfl,rfl⟩
  go_wp2_with fail
  go_loopg [6] 0 (λq d w3=>d=aC aD 20/\w3=w1)
  case atStart=>exact⟨rfl,rfl⟩
  case round=>
   obtain⟨rfl,rfl⟩:=hrel
   go_wp2_with fail
   go_end0
   exact⟨rfl,rfl⟩
def BP (a)(c)(fv)(w):Calls zq 61 #[aK a 0 c,fv] w λe b=>e=aM (.tuple #[])/\b=w:=by go_enter (Qz.fn func61),ntmps61;go_wp2_with fail;refine(QQ _ fv w).mono ?_;rintro e w1 ⟨rfl,rfl⟩;go_wp2_with fail;go_end0;exact⟨rfl,rfl⟩
def wJ (a)(c)(w)(n:∀x,a=aA x->∃g o,x=⟨g,o,aB⟩):
  Calls zq 39 #[aK a 0 c] w λe b=>∃f,e=aM f/\cH b w.heap.size f []/\zb w b:=by
 have m:Calls zq 60 #[aK a 0 c] w λe b=>∃d v,e=aM (aK d 0 v)/\zb w b:=by
  cases a with
  |none=>exact(AnyE.slices_Clone_nil Qz.Od 0 c w).mono λe b ⟨h1,l⟩=>⟨aB,0,h1,by rw[l];exact zGo _ _⟩
  |some x=>
   obtain⟨g,o,rfl⟩:=n x rfl;exact(GL g o c [] w (by simp) (λj u h=>by cases h)).mono λe b ⟨f,h1,l,_,p⟩=>by obtain⟨d,v,rfl,_⟩:=l.len;exact⟨d,v,h1,p⟩
 go_enter (Qz.fn func39),ntmps39;go_wp2_with fail;refine m.mono ?_;rintro e w1 ⟨d,v,rfl,hb⟩;have B:=hid hb;go_wp2_with fail;refine(BP d v _ w1).mono ?_;rintro e w2 ⟨rfl,k⟩;obtain rfl:w1=w2:=k.symm;go_wp2_with fail;go_loopg [4,13] 0 (λq out i wr=>out=aK aB 0 0/\i=aC aD 0/\wr=w1);case atStart=>exact⟨rfl,rfl,rfl⟩
 case round=>
  obtain⟨rfl,rfl,rfl⟩:=hrel
  go_wp2_with fail
  go_ret
  exact⟨_,rfl,cH.nil _ _,B.out⟩
def NA (g0 o c:Nat)(us:List bJ)(w:zW)(hn:0<us.length)(sn:us.length<=1000)(s:∀j u,(cD us)[j]? =aA u->w.cell? ⟨g0,o+j,aB⟩=aA u):
  Calls zq 39 #[aK (aA ⟨g0,o,aB⟩) us.length c] w λe l=>∃n,e=aM n/\cH l w.heap.size n (bW us)/\zb w l:=by
 have hc:=GL g0 o c us w (by omega) s;clear s;have HC:Hid (Calls zq 60 #[aK (aA ⟨g0,o,aB⟩) us.length c] w λe l=>∃n,e=aM n/\cH l w.heap.size n us/\n≠aK aB 0 0/\zb w l):=hc;have HS:Hid (∀g cap w1,cH w1 w.heap.size (aK (aA ⟨g,0,aB⟩) us.length cap) us->w.heap.size<=g->g<w1.heap.size->Calls zq 61 #[aK (aA ⟨g,0,aB⟩) us.length cap,.func (.func 62) #[] #[]] w1 λe l=>e=aM (.tuple #[])/\HoldsK bJ.cells 3 l g 0 (dP us).toArray/\Below w.heap.size w1 l):=λg cap w1 L C h3=>DM w.heap.size g cap us w1 L C h3 sn;have HF:Hid (bW us=kQ (dP us) us.length):=by show fR (dP us)=_;rw[uM,jM];rfl
 have hSl:(dP us).length=us.length:=jM us;rw[HF.out];clear hc HF;generalize dP us=S at*;have HL:Hid (∀n l,cH l w.heap.size n us->∃g cap,n=aK (aA ⟨g,0,aB⟩) us.length cap/\w.heap.size<=g/\g<l.heap.size):=λn l h=>by obtain⟨va,cc,e,C⟩:=h.len;obtain⟨g,rfl,h3,h4⟩:=C hn;exact⟨g,cc,e,h3,h4⟩
 go_enter (Qz.fn func39),ntmps39;go_wp2_with fail;refine HC.out.mono ?_;rintro e w1 ⟨n,rfl,a,_,hb⟩;obtain⟨g,cap,rfl,ko,J⟩:=HL.out n w1 a;have B1:Hid (zb w w1):=hb;have O1:Hid (cH w1 w.heap.size (aK (aA ⟨g,0,aB⟩) us.length cap) us):=a;clear hb a HC HL;go_wp2_with fail;refine(HS.out g cap w1 O1.out ko J).mono ?_;rintro e w2 ⟨rfl,hh,z⟩;have G:Hid (zb w w2):=B1.out.trans z;have K2:Hid (HoldsK bJ.cells 3 w2 g 0 S.toArray):=hh;have hg3:g<w2.heap.size:=zAd J z.size;clear z hh HS B1 O1;generalize hN:us.length=N at*;have HN0:Hid (us.length=N):=hN;clear hN;go_wp2_with fail;go_loopg [4,13] N (λq out i wr=>∃t:Nat,t+q=N/\i=aC aD (t:Int)/\zb w wr/\zb w2 wr/\cH wr w2.heap.size out (kQ S t));case atStart=>exact⟨0,by omega,rfl,G.out,zGo _ _,cH.nil _ _⟩
 case round=>
  obtain⟨t,ht,rfl,b1,b2,b3⟩:=hrel
  have U:Hid (zb w wr):=b1
  have P:Hid (zb w2 wr):=b2
  have C3:Hid (cH wr w2.heap.size u4 (kQ S t)):=b3
  clear b1 b2 b3
  by_cases bT:t<N
  .have hSt:t<S.length:=by omega
   have K3:Hid (∀W,zb w2 W->∀i u,S[i]? =aA u->∀j,j<3->W.cell? ⟨g,i*3+j,aB⟩=u.cells[j]?):=λW hW i u Q j Z=>by rw[hW.cell (p:=⟨_,_,aB⟩) hg3];exact ZL K2.out i u Q j Z
   have Q:S[t]? =aA S[t]:=zAi hSt;have E:Hid (kQ S (t+1)=kQ S t++(emit S t).toList):=XP S t;have R:Hid (S[t]? =aA S[t]):=Q;clear Q;have r0:wr.rangeAt g (t*3) S[t].cells:=λj v hv=>by have Z:j<3:=(zBa.1 hv).1;rw[K3.out wr P.out t _ R.out j Z];exact hv
   generalize S[t]=u at*;obtain⟨b,d,f⟩:=u;have ee:(t:Int)<(N:Int):=by{omega};have ht0:(0:Int)<=(t:Int):=by{omega};have r1:wr.rangeAt g (t*3) [aL ⟨b.toArray⟩,aL ⟨d.toArray⟩,.bool f]:=r0;clear r0;go_upto_region 7 with(refine wpList_load_mid rfl 53 _ rfl g (t*3) rfl _ _ r1 ((Qz.fH 53).trans underlying53) rfl (by kernel_rfl) ?_)
   have Ka:Hid (cL (wr.alloc (aJ #[aL ⟨b.toArray⟩,aL ⟨d.toArray⟩,.bool f] 53)) wr.heap.size 53 #[aL ⟨b.toArray⟩,aL ⟨d.toArray⟩,.bool f]):=cL.new _ _ _;have Ca:Hid (zb w (wr.alloc (aJ #[aL ⟨b.toArray⟩,aL ⟨d.toArray⟩,.bool f] 53))):=U.out.alloc U.out.size _;have Cb:Hid (zb w2 (wr.alloc (aJ #[aL ⟨b.toArray⟩,aL ⟨d.toArray⟩,.bool f] 53))):=P.out.alloc P.out.size _;have Cc:Hid (cH (wr.alloc (aJ #[aL ⟨b.toArray⟩,aL ⟨d.toArray⟩,.bool f] 53)) w2.heap.size u4 (kQ S t)):=C3.out.alloc _;have HN:Hid (w2.heap.size<=wr.heap.size):=P.out.size;generalize wr.alloc (aJ #[aL ⟨b.toArray⟩,aL ⟨d.toArray⟩,.bool f] 53)=m at*;clear U P C3 r1;generalize wr.heap.size=B at*;have p0:m.cell? ⟨B,0,aB⟩=aA (aL ⟨b.toArray⟩):=by{rw[Ka.out.cell];rfl};by_cases Y:t+1=N
   .have hq:(t:Int)+1=(N:Int):=by omega
    have H:Hid ((emit S t).toList=[⟨b,d,f⟩]):=by show(emit S t).toList=_;have L:S[t+1]? =aB:=zFp (by omega);unfold emit;rw[R.out,L];rfl
    go_quiet (fail);have Dk:Hid (cL (m.drewN nq) B 53 #[aL ⟨b.toArray⟩,aL ⟨d.toArray⟩,.bool f]):=Ka.out.drewN nq;have T:Hid (zb w (m.drewN nq)):=below_drewN Ca.out nq;have F:Hid (zb w2 (m.drewN nq)):=below_drewN Cb.out nq;have D:Hid (cH (m.drewN nq) w2.heap.size u4 (kQ S t)):=Cc.out.kept λ_ _=>rfl;generalize m.drewN nq=V at*;have y:(kQ S t).length<=1000000:=by{have:=KR S t;omega};have k:w2.heap.size<=V.heap.size:=F.out.size;go_wp2_with (first|(refine zGw rfl 53 _ rfl B rfl 53 _ (0,0) _ Dk.out ((Qz.fH 53).trans underlying53) rfl (by kernel_rfl) ?_)|(at_builtin;refine gM rfl _ _ rfl w2.heap.size _ _ rfl D.out ⟨b,d,f⟩ 1 rfl y k ?_;intro g' M l a r));go_roundg (N-(t+1));case measure=>omega
    case rel=>
     go_light
     refine⟨t+1,by omega,by go_num,dT T.out D.out r G.out.size (zBb G.out.size k),dT F.out D.out r (zAb _) k,?_⟩
     rw[E.out,H.out]
     have hl:(kQ S t++[(⟨b,d,f⟩:bJ)]).length=(kQ S t).length+1:=by simp
     exact a
   .have hq:¬(t:Int)+1=(N:Int):=by{omega};have K:t+1<S.length:=by{omega};have aAG:(t:Int)+1<(N:Int):=by{omega};have hw1:IntKind.i64.wrap ((t:Int)+1)=(t:Int)+1:=by{rw[zGt];omega};have ht1:(0:Int)<=(t:Int)+1:=by{omega};have vl:((t:Int)+1).toNat=t+1:=by omega
    have p1:m.cell? ⟨g,(t+1)*3,aB⟩=aA (aL ⟨S[t+1].idx.toArray⟩):=by have:=K3.out m Cb.out (t+1) _ (zAi K) 0 (by omega);rw[aE9]at this;exact this
    have O:Hid (S[t+1]? =aA S[t+1]):=zAi K;generalize S[t+1]=v at*;obtain⟨X,vV,vG⟩:=v;dsimp only at p1;go_quiet (fail);have Dk:Hid (cL (m.drewN nq) B 53 #[aL ⟨b.toArray⟩,aL ⟨d.toArray⟩,.bool f]):=Ka.out.drewN nq;have T:Hid (zb w (m.drewN nq)):=below_drewN Ca.out nq;have F:Hid (zb w2 (m.drewN nq)):=below_drewN Cb.out nq;have D:Hid (cH (m.drewN nq) w2.heap.size u4 (kQ S t)):=Cc.out.kept λ_ _=>rfl;generalize m.drewN nq=V at*;have I:((t:Int)+1==(N:Int))=aG:=by{rw[zDb];exact hq};by_cases x:X=b
    .have A:(((t:Int)+1==(N:Int))|| !(X==b))=aG:=by rw[I,x];simp
     have H:Hid ((emit S t).toList=[]):=by show(emit S t).toList=_;unfold emit;rw[R.out,O.out];dsimp only;rw[zAz x];rfl
     rw[A];go_wp2_with fail;go_roundg (N-(t+1));case measure=>omega
     case rel=>
      go_light
      refine⟨t+1,by omega,by go_num,T.out,F.out,?_⟩
      rw[E.out,H.out,zAq]
      exact D.out
    .have A:(((t:Int)+1==(N:Int))|| !(X==b))=aF:=by
      rw[I,zFx,aFg,zDb];exact x
     have H:Hid ((emit S t).toList=[⟨b,d,f⟩]):=by show(emit S t).toList=_;unfold emit;rw[R.out,O.out];dsimp only;rw[zAv x];rfl
     rw[A];have y:(kQ S t).length<=1000000:=by{have:=KR S t;omega};have k:w2.heap.size<=V.heap.size:=F.out.size;go_wp2_with (first|(refine zGw rfl 53 _ rfl B rfl 53 _ (0,0) _ Dk.out ((Qz.fH 53).trans underlying53) rfl (by kernel_rfl) ?_)|(at_builtin;refine gM rfl _ _ rfl w2.heap.size _ _ rfl D.out ⟨b,d,f⟩ 1 rfl y k ?_;intro g' M l a r));go_roundg (N-(t+1));case measure=>omega
     case rel=>
      go_light
      refine⟨t+1,by omega,by go_num,dT T.out D.out r G.out.size (zBb G.out.size k),dT F.out D.out r (zAb _) k,?_⟩
      rw[E.out,H.out]
      have hl:(kQ S t++[(⟨b,d,f⟩:bJ)]).length=(kQ S t).length+1:=by simp
      exact a
  .obtain rfl:t=N:=by{omega};go_wp2_with fail;go_ret;refine⟨_,rfl,?_,U.out⟩;rw[HN0.out];obtain⟨L,C⟩:=C3.out;refine⟨L,?_⟩;obtain C|⟨gg,cp,cur,e1,e2,e3⟩:=C;{exact aH C};{exact aI ⟨gg,cp,cur,e1,zBb G.out.size e2,e3⟩}
open Go.RowKit Sha
def BS (u:bJ):Bool:=decide (u.idx.length=32)&&(decide (u.val.length<=100)&&(!u.gone||decide (u.val=[])))
def TK (v)(us)(w)(hl:us.length<=1000)(M:Pa w v us)(hs:∀u∈us,u.idx.length<=1000000/\u.val.length<=1000000):
  Calls zq 38 #[v] w λe N=>e=aM (.bool (us.all BS))/\zb w N:=by
 have HV:=hid M;obtain⟨z,J,rfl,A⟩:∃z J,v=aK z us.length J/\(0<us.length->∃g o,z=aA ⟨g,o,aB⟩/\g<w.heap.size/\∀j u,(cD us)[j]? =aA u->w.cell? ⟨g,o+j,aB⟩=aA u):=by obtain⟨rfl,a,c,rfl⟩|⟨g,o,c,rfl,m,l⟩:=M;{exact⟨a,c,rfl,λh=>by simp at h⟩};{exact⟨_,c,rfl,λ_=>⟨g,o,rfl,m,l⟩⟩}
 have X:Hid (∀t,t<=us.length->(∀i u,i<t->us[i]? =aA u->BS u=aF)->t=us.length->us.all BS=aF):=λt _ h e=>by rw[zCb];intro u k;obtain⟨i,hi⟩:=List.getElem?_of_mem k;exact h i u (by rw[e];exact(zBa.1 hi).1) hi
 have G:Hid (∀t u,us[t]? =aA u->BS u=aG->us.all BS=aG):=λt u p m=>by rw[List.all_eq_false];exact⟨u,zDf p,by rw[m];decide⟩
 generalize us.all BS=Y at*;go_enter (Qz.fn func38),ntmps38;go_wp2_with fail;go_loopg [7] us.length (λq i wr=>∃t:Nat,t+q=us.length/\i=aC aD (t:Int)/\zb w wr/\∀i u,i<t->us[i]? =aA u->BS u=aF);case atStart=>exact⟨0,by omega,rfl,zGo _ _,λi u h=>by omega⟩
 case round=>
  obtain⟨t,ht,rfl,V,U⟩:=hrel
  have s:=hid V
  have I:=hid U
  by_cases bT:t<us.length
  .obtain⟨g,o,rfl,Q,R⟩:=A (by omega);have n:=hid (zAi bT);have E:=hs us[t] (zDo _);have r0:wr.rangeAt g (o+t*3) us[t].cells:=λj x L=>by
    have P:=(zBa.1 L).1;rw[s.out.cell Q,zCh];exact R _ _ (by rw[qD us t _ n.out j P];exact L)
   generalize us[t]=u at*;obtain⟨d,b,f⟩:=u;have r1:wr.rangeAt g (o+t*3) [aL ⟨d.toArray⟩,aL ⟨b.toArray⟩,.bool f]:=r0;have D:(t:Int)<(us.length:Int):=by{omega};have O:(0:Int)<=(t:Int):=by{omega};go_upto_region 4 with(refine wpList_load_mid rfl 53 _ rfl g (o+t*3) rfl _ _ r1 ((Qz.fH 53).trans underlying53) rfl (by kernel_rfl) ?_)
   have K:Hid (cL (wr.alloc (aJ #[aL ⟨d.toArray⟩,aL ⟨b.toArray⟩,.bool f] 53)) wr.heap.size 53 #[aL ⟨d.toArray⟩,aL ⟨b.toArray⟩,.bool f]):=cL.new _ _ _;have C:Hid (zb w (wr.alloc (aJ #[aL ⟨d.toArray⟩,aL ⟨b.toArray⟩,.bool f] 53))):=s.out.alloc s.out.size _;generalize wr.alloc (aJ #[aL ⟨d.toArray⟩,aL ⟨b.toArray⟩,.bool f] 53)=y at*;clear s r1;generalize wr.heap.size=B at*;have p0:y.cell? ⟨B,0,aB⟩=aA (aL ⟨d.toArray⟩):=by{rw[K.out.cell];rfl};have Z:y.cell? ⟨B,1,aB⟩=aA (aL ⟨b.toArray⟩):=by{rw[K.out.cell];rfl};have p2:y.cell? ⟨B,2,aB⟩=aA (.bool f):=by{rw[K.out.cell];rfl};dsimp only at E;have s0:(⟨d.toArray⟩:ByteArray).size=d.length:=by{simp[ByteArray.size]};have s1:(⟨b.toArray⟩:ByteArray).size=b.length:=by{simp[ByteArray.size]};by_cases p:d.length=32
   .by_cases m:b.length<=100
    .have F:¬(100:Int)<(b.length:Int):=by{omega};cases f with
     |false=>
      have H:BS ⟨d,b,aG⟩=aF:=by{simp[BS,p,m]};go_wp2_with fail;go_roundg (us.length-(t+1));case measure=>omega
      case rel=>
       go_light
       refine⟨t+1,by omega,by go_num,C.out,λi u hi k=> ?_⟩
       by_cases e:i=t
       .subst e;rw[n.out]at k;rw[<-zAk k];exact H
       .exact I.out i u (by omega) k
     |true=>
      by_cases l:b=[]
      .have H:BS ⟨d,b,aF⟩=aF:=by{simp[BS,p,l]};subst l;go_wp2_with fail;go_roundg (us.length-(t+1));case measure=>omega
       case rel=>
        go_light
        refine⟨t+1,by omega,by go_num,C.out,λi u hi k=> ?_⟩
        by_cases e:i=t
        .subst e;rw[n.out]at k;rw[<-zAk k];exact H
        .exact I.out i u (by omega) k
      .have H:BS ⟨d,b,aF⟩=aG:=by{simp[BS,l]};have S:b.isEmpty=aG:=by{simpa using l};have r:=hid (G.out t _ n.out H);go_wp2_with fail;go_ret;exact⟨by rw[r.out];rfl,C.out⟩
    .have F:(100:Int)<(b.length:Int):=by{omega};have H:BS ⟨d,b,f⟩=aG:=by{simp[BS,m]};have r:=hid (G.out t _ n.out H);go_wp2_with fail;go_ret;exact⟨by rw[r.out];rfl,C.out⟩
   .have T:¬(d.length:Int)=32:=by{omega};have H:BS ⟨d,b,f⟩=aG:=by{simp[BS,p]};have r:=hid (G.out t _ n.out H);go_wp2_with fail;go_ret;exact⟨by rw[r.out];rfl,C.out⟩
  .have W:=hid (X.out t (by omega) I.out (by omega));have D:¬(t:Int)<(us.length:Int):=by{omega};go_wp2_with fail;go_ret;exact⟨by rw[W.out];rfl,s.out⟩
open Go Go.RowKit Sha Go.Ga Go.Ren
def qI:bW []=[]:=List.eq_nil_iff_forall_not_mem.2 λu h=>by simpa using qJ h
def xG:∀l:List bJ,(fR l).length<=l.length
 |[]=>zAb _
 |[_]=>zAb _
 |a::b::r=>by have:=xG (b::r);rw[fR];split;{simp only[zAf]at*;omega};{simp only[zAf]at*;omega}
def wK (us):(bW us).length<=us.length:=by have:=xG (dP us);rw[jM]at this;exact this
def NB {w:zW}{base:Nat}{v:zY}{us:List bJ}(h:cH w base v us)(c:us.length<=1000):
  Calls zq 39 #[v] w λe d=>∃f,e=aM f/\cH d w.heap.size f (bW us)/\zb w d:=by
 obtain⟨rfl,m⟩|⟨g,cap,cur,rfl,hb,k,h1,o,n,l⟩:=h.2
 .have e:us=[]:=zBg m;subst e;rw[qI];exact wJ aB 0 w (λx a=>by cases a)
 .by_cases i:us.length=0
  .have e:us=[]:=zBg i;subst e;rw[qI];exact wJ (aA ⟨g,0,aB⟩) cap w (λx a=>by injection a with a;exact⟨g,0,a.symm⟩)
  .refine NA g 0 cap us w (by omega) c λj u b=> ?_;rw[zBd,cell_of_row w g j cur 53 (0,0) k];rw[<-l,zCp]at b;split at b
   .rw[<-zBs];exact b
   .cases b
def cH.mc {w base v us}(h:cH w base v us):Pa w v us:=by
 obtain⟨rfl,d⟩|⟨g,cap,cur,rfl,hb,b,h1,f,e,c⟩:=h.2
 .exact aH ⟨zBg d,aB,0,rfl⟩
 .refine aI ⟨g,0,cap,rfl,(zAa.1 b).1,λj u a=> ?_⟩;rw[zBd,cell_of_row w g j cur 53 (0,0) b];rw[<-c,zCp]at a;split at a
  .rw[<-zBs];exact a
  .cases a
def Ww:∃i,zq.info? 9=aA i/\i.zero=aA (aL ⟨#[]⟩)/\i.size=1/\i.bytes=16:=NT (by kernel_rfl)
def YS {w hb b n H}(l:eQ OV w hb 9 1 (aK (aA ⟨hb,0,aB⟩) n b) n (gU H))(I:n<=1000)(x){vb}(p:w.heap[vb]? =aA (aJ #[aL ⟨x.toArray⟩] 9 (0,0)))(bT:hb<=w.heap.size):
  ∃a h W,(∀ty,(Builtin.append_ #[82,82] ty #[aK (aA ⟨hb,0,aB⟩) n b,aK (aA ⟨vb,0,aB⟩) 1 1]).run zq w= .ok (aK (aA ⟨a,0,aB⟩) (n+1) h) W)/\w.grownBy W (aA hb)/\(a=hb\/a=w.heap.size)/\eQ OV W a 9 1 (aK (aA ⟨a,0,aB⟩) (n+1) h) (n+1) (gU (H++[x])):=by
 obtain⟨it,ti,o,t,f⟩:=Ww;have G:=λty=>sF w OV hb 82 ty 9 it _ 1 16 ((Qz.fH 82).trans underlying82) ti o t f rfl (by omega) (λx k=>by simp[Value.cells]at k;exact⟨_,k⟩) _ n _ l.1 l.2 ⟨vb,0,aB⟩ 1 1 [aL ⟨x.toArray⟩] rfl (λj u q=>by rw[addr_add,zBd,cell_of_row w vb j _ 9 (0,0) p];simpa using q) (λu g=>by rw[zAm.1 g];rfl) (λu g=>by rw[zAm.1 g];exact⟨_,rfl⟩) (Nat.succ_pos _) (by simp only[maxLen];omega) (by omega) bT
 obtain⟨m,c,W,z,y,v,s,r⟩:=G 0;have i:eQ OV W hb 9 1 (aK (aA ⟨m,0,aB⟩) (n+1) c) (n+1) (gU H++[aL ⟨x.toArray⟩]):=⟨y,r⟩;obtain⟨d,F,J,E,D,C,B,A⟩:=i.row;refine⟨m,c,W,λty=>z,v,?_,eQ.of d F (zAb _) E D C (by rw[B];simp[gU]) A⟩;obtain e|e:=s
 .exact aH (zAk e).symm
 .exact aI e
end Go.Proofs.Zq
namespace Go.Proofs.Zq.AnyX
open Go
section
variable {P:zZ}{ops:zQ}{Q:zX}{md:Region.Mode}{S:zW->Prop}{late:Nat->Bool}
def early (ops:zQ)(late:Nat->Bool)(listed:Array Bool):Bool:=(List.range ops.size).all λs=> !(late s)|| !(listed.getD s aG)
def yY {listed i}(h:early ops late listed=aF)(hi:late i=aG):early ops late (listed.setIfInBounds i aF)=aF:=by
 refine zCb.2 λs a=> ?_;have:=zCb.1 h s a;by_cases e:i=s
 .subst e;rw[hi];rfl
 .rw[getD_set_ne aG e];exact this
def iR (P:zZ)(md:Region.Mode)(ops:zQ)(Q:zX)(S:zW->Prop)(late:Nat->Bool):Nat->Array Bool->Act->zW->Prop
 |0,listed,a,w=>Region.ready md ops listed=[]/\Q .normal a w
 |fuel+1,listed,a,w=>
  (Region.ready md ops listed=[]->Q .normal a w)/\
  ∀i∈Region.ready md ops listed,wpOp P ops Q i (λc b=>(early ops late (listed.setIfInBounds i aF)=aF->S b)/\iR P md ops Q S late fuel (listed.setIfInBounds i aF) c b) a w
def CY:∀(fuel:Nat)(listed:Array Bool)(a:Act)(w:zW),iR P md ops Q S late fuel listed a w->wpAny P md ops Q fuel listed a w
 |0,_,_,_,h=>h
 |fuel+1,_,_,_,h=>⟨h.1,λi hi=>wpOp_mono (λd b c=>CY fuel _ d b c.2) (h.2 i hi)⟩
structure Zk (md:Region.Mode)(ops:zQ)(listed:Array Bool):Prop where
 size:listed.size=ops.size
 closed:∀j oj,ops[j]? =aA oj->listed.getD j aG=aF->∀e∈oj.after,Region.binds md e=aF->listed.getD e.on aG=aF
def Ud (md:Region.Mode)(ops:zQ)(listed:Array Bool):Bool:=
 decide (listed.size=ops.size)&&((List.range ops.size).all λj=>(!(listed.getD j aG))||match ops[j]? with
   |some o=>o.after.all λe=> !(Region.binds md e)||listed.getD e.on aG
   |none=>aF)
def Hd {listed}(h:Ud md ops listed=aF):Zk md ops listed:=by unfold Ud at h;simp only[zBh,zCm]at h;obtain⟨g,f⟩:=h;refine⟨g,λj o b hl e c d=> ?_⟩;have a:=(zAa.1 b).1;have:=zCb.1 f j (zCi.2 a);rw[b,hl]at this;simp only[Bool.not_true,zFx]at this;have:=Array.all_eq_true_iff_forall_mem.1 this e c;rw[d]at this;simpa using this
def Zk.set {i listed}(inv:Zk md ops listed)(hi:i∈Region.ready md ops listed):Zk md ops (listed.setIfInBounds i aF):=by
 obtain⟨_,g,b,a⟩:=mem_ready.1 hi;refine⟨by simp[inv.size],λj o c hl e d f=> ?_⟩;by_cases h:i=j
 .subst h;have:o=g:=zAk (c.symm.trans b);subst this;exact getD_set_true (a e d f)
 .rw[getD_set_ne aG h]at hl;exact getD_set_true (inv.closed j o c hl e d f)
def waits (md:Region.Mode)(ops:zQ):Nat->Nat->Nat->Bool
 |0,_,_=>aG
 |f+1,s,i=>match ops[s]? with
  |some o=>o.after.any λe=>Region.binds md e&&(e.on==i||waits md ops f e.on i)
  |none=>aG
def DC {listed:Array Bool}(inv:Zk md ops listed){i:Nat}:∀(f s:Nat)(o:Oper),ops[s]? =aA o->(∀e∈o.after,Region.binds md e=aF->listed.getD e.on aG=aF)->waits md ops f s i=aF->listed.getD i aG=aF
 |0,_,_,_,_,h=>by cases h
 |f+1,s,o,k,b,h=>by
  unfold waits at h;rw[k]at h;obtain⟨e,l,d⟩:=Array.any_eq_true'.1 h;simp only[zBh,zDs,zDq]at d;have j:=b e l d.1;obtain a|a:=d.2;{rw[<-a];exact j}
  .cases c:ops[e.on]? with
   |none=>
    cases f with
    |zero=>cases a
    |succ f=>unfold waits at a;rw[c]at a;cases a
   |some g=>exact DC inv f e.on g c (inv.closed e.on g c j) a
def Bl (md:Region.Mode)(ops:zQ)(late:Nat->Bool)(i:Nat):Bool:=(List.range ops.size).all λs=> !(late s)||waits md ops ops.size s i
def YJ {listed i}(inv:Zk md ops listed)(h:Bl md ops late i=aF)(d:listed.getD i aF=aG):early ops late listed=aF/\∀j,j∈Region.ready md ops listed->late j=aG:=by
 have k:∀s os,ops[s]? =aA os->late s=aF->(∀e∈os.after,Region.binds md e=aF->listed.getD e.on aG=aF)->False:=λs os c hl a=>by have:=zCb.1 h s (zCi.2 (zAa.1 c).1);rw[hl]at this;have:=DC inv _ s os c a (by simpa using this);rw[getD_both d]at this;cases this
 refine⟨zCb.2 λs c=> ?_,λj l=> ?_⟩
 .cases hl:late s with
  |false=>rfl
  |true=>
   cases g:listed.getD s aG with
   |false=>rfl
   |true=>have b:=zCi.1 c;exact(k s _ (zAj b) hl (inv.closed s _ (zAj b) g)).elim
 .obtain⟨_,o,f,a⟩:=mem_ready.1 l;cases hl:late j with
  |false=>rfl
  |true=>exact(k j o f hl a).elim
def MN {i t v}(hi:ops[i]? =aA t)(p:∀(j:Nat)(o) cs b,ops[j]? =aA o->o.op≠.select cs b)
  (bT:Bl md ops late i=aF) (O:∀c a w,Q (.panic c) (a.put t.dst v) w->Q (.panic c) a w):
  ∀(fuel)(listed)(a)(w),Zk md ops listed->
   (∀j s,ops[j]? =aA s->j≠i->listed.getD j aF=aG->(∀e∈s.after,Region.binds md e=aF->e.on≠i)->t.apart ops s=aF)->
   i∈Region.ready md ops listed->YieldsIf P ops S t v a->S w->
   iR P md ops Q S late fuel (listed.setIfInBounds i aF) (a.put t.dst v) w->iR P md ops Q S late (fuel+1) listed a w:=by
 intro fuel;induction fuel with
 |zero=>intro listed a w _ _ q C B H;refine⟨λh=>(by rw[h]at q;cases q),λj x=> ?_⟩;by_cases d:j=i;{subst d;exact C.wpOp hi B ⟨λ_=>B,H⟩};{have:=ready_mono x d;rw[H.1]at this;cases this}
 |succ fuel K=>
  intro listed a w inv g q C B H;have f:=(mem_ready.1 q).1;obtain⟨I,m⟩:=YJ inv bT f;refine⟨λh=>(by rw[h]at q;cases q),λj x=> ?_⟩;by_cases d:j=i;{subst d;exact C.wpOp hi B ⟨λ_=>B,H⟩}
  .have E:=H.2 j (ready_mono x d);obtain⟨r,s,u,A⟩:=mem_ready.1 x;have y:∀e∈s.after,Region.binds md e=aF->e.on≠i:=λe M N G=>by
    have E:=A e M N;rw[G,getD_both f]at E;cases E
   have R:=wpOp_putIf u (g j s u d r y) (λcs b=>p i t cs b hi) (λcs b=>p j s cs b u) O C E;have n:∀k ok,ops[k]? =aA ok->k≠i->(listed.setIfInBounds j aF).getD k aF=aG->
     (∀e∈ok.after,Region.binds md e=aF->e.on≠i)->t.apart ops ok=aF:=λk ok L F f m=>by
    refine g k ok L F ?_ m
    by_cases z:j=k
    .subst z;exact r
    .rw[getD_set_ne aF z]at f;exact f
   have l:=yY (yY I (m i q)) (m j x);refine wpOp_mono (λT J D=>⟨λ_=>D.2.1 l,K (listed.setIfInBounds j aF) T J (inv.set x) n (ready_mono q (zDj d)) D.1 (D.2.1 l) ?_⟩) R;rw[zEq _ _ d];exact D.2.2
def MM {i q v}(hi:ops[i]? =aA q)(m:∀(j:Nat)(o) cs b,ops[j]? =aA o->o.op≠.select cs b)
  (bT:late i=aG) (N:∀c a w,Q (.panic c) (a.put q.dst v) w->Q (.panic c) a w):
  ∀(fuel)(listed)(a)(w),
   (∀j p,ops[j]? =aA p->j≠i->listed.getD j aF=aG->(∀e∈p.after,Region.binds md e=aF->e.on≠i)->q.apart ops p=aF)->
   i∈Region.ready md ops listed->Yields P ops q v a->(early ops late (listed.setIfInBounds i aF)=aF->S w)->
   iR P md ops Q S late fuel (listed.setIfInBounds i aF) (a.put q.dst v) w->iR P md ops Q S late (fuel+1) listed a w:=by
 intro fuel;induction fuel with
 |zero=>intro listed a w _ r y G H;refine⟨λh=>(by rw[h]at r;cases r),λj z=> ?_⟩;by_cases d:j=i;{subst d;exact y.wpOp hi ⟨G,H⟩};{have:=ready_mono z d;rw[H.1]at this;cases this}
 |succ fuel J=>
  intro listed a w f r y G H;have g:=(mem_ready.1 r).1;refine⟨λh=>(by rw[h]at r;cases r),λj z=> ?_⟩;by_cases d:j=i;{subst d;exact y.wpOp hi ⟨G,H⟩}
  .have B:=H.2 j (ready_mono z d);obtain⟨n,p,s,x⟩:=mem_ready.1 z;have t:∀e∈p.after,Region.binds md e=aF->e.on≠i:=λe L M E=>by
    have B:=x e L M;rw[E,getD_both g]at B;cases B
   have O:=wpOp_put s (f j p s d n t) (λcs b=>m i q cs b hi) (λcs b=>m j p cs b s) N y B;have l:∀k ok,ops[k]? =aA ok->k≠i->(listed.setIfInBounds j aF).getD k aF=aG->
     (∀e∈ok.after,Region.binds md e=aF->e.on≠i)->q.apart ops ok=aF:=λk ok K D g C=>by
    refine f k ok K D ?_ C
    by_cases u:j=k
    .subst u;exact n
    .rw[getD_set_ne aF u]at g;exact g
   refine wpOp_mono (λR I A=>⟨λF=>A.2.1 (by rw[<-zEq _ _ d];exact yY F bT),J (listed.setIfInBounds j aF) R I l (ready_mono r (zDj d)) A.1 (λF=>A.2.1 (by rw[<-zEq _ _ d];exact F)) ?_⟩) O;rw[zEq _ _ d];exact A.2.2
def PR {i o v fuel listed a w}(hi:ops[i]? =aA o)
  (d:(Region.noSelect ops&&Bl md ops late i&&Ud md ops listed&&Region.free md ops listed i&&(Region.ready md ops listed).contains i)=aF)
  (k:∀c a w,Q (.panic c) (a.put o.dst v) w->Q (.panic c) a w) (e:YieldsIf P ops S o v a) (j:S w)
  (h:iR P md ops Q S late fuel (listed.setIfInBounds i aF) (a.put o.dst v) w):iR P md ops Q S late (fuel+1) listed a w:=by
 simp only[zBh]at d;obtain⟨⟨⟨⟨b,hl⟩,g⟩,d⟩,f⟩:=d;exact MN hi (Region.noSelect_spec b) hl k fuel listed a w (Hd g) (Region.free_spec hi d) (by simpa using f) e j h
def AL {i o v fuel listed a w}(hi:ops[i]? =aA o)
  (d:(Region.noSelect ops&& !(late i)&&Region.free md ops listed i&&(Region.ready md ops listed).contains i)=aF)
  (j:∀c a w,Q (.panic c) (a.put o.dst v) w->Q (.panic c) a w) (e:Yields P ops o v a) (g:S w)
  (h:iR P md ops Q S late fuel (listed.setIfInBounds i aF) (a.put o.dst v) w):iR P md ops Q S late (fuel+1) listed a w:=by
 simp only[zBh,aFg]at d;obtain⟨⟨⟨b,hl⟩,d⟩,f⟩:=d;exact MM hi (Region.noSelect_spec b) hl j fuel listed a w (Region.free_spec hi d) (by simpa using f) e (λ_=>g) h
def dA {i:Nat}{o:Oper}{fuel:Nat}{listed:Array Bool}{a:Act}{w:zW}(b:Region.ready md ops listed=[i])(d:ops[i]? =aA o)
  (h:∀K:Act->zW->Prop,Shut (∀a w,(early ops late (listed.setIfInBounds i aF)=aF->S w)->iR P md ops Q S late fuel (listed.setIfInBounds i aF) a w->K a w)->if Region.wanted o (yielded ops a.tmps)=aF then Oper.wp P o a w K Q else K (a.put o.dst undef) w):
  iR P md ops Q S late (fuel+1) listed a w:=
 ⟨λk=>absurd (b.symm.trans k) (List.cons_ne_nil _ _),λj c=>by rw[b]at c;obtain rfl:=zAm.1 c;exact wpOp_step d (λK g=>h K (λa w f e=>g a w ⟨f,e⟩))⟩
def lR {b}{p:Prop}(h:b=aF)(a:b=aG):p:=by rw[h]at a;cases a
def rS {listed:Array Bool}{a:Act}{w:zW}(b:Region.ready md ops listed=[])(h:Q .normal a w):∀fuel,iR P md ops Q S late fuel listed a w
 |0=>⟨b,h⟩
 |_+1=>⟨λ_=>h,by rw[b];simp⟩
def tk (i)(v){o fuel listed a w}(g:S w)(h:iR P md ops Q S late fuel (listed.setIfInBounds i aF) (a.put o.dst v) w)(hi:ops[i]? =aA o:=by rfl)
  (f:(Region.noSelect ops&&Bl md ops late i&&Ud md ops listed&&Region.free md ops listed i&&(Region.ready md ops listed).contains i)=aF:=by kernel_rfl)
  (j:∀c a w,Q (.panic c) (a.put o.dst v) w->Q (.panic c) a w:=by exactλ_ _ _ h=>h) (e:YieldsIf P ops S o v a:=by exact aH ⟨by rfl,λW b=>by first|(obtain⟨d,q,l,k⟩:=b;go_simp;done)|(obtain⟨d,q⟩:=b;go_simp;done)|go_simp⟩):iR P md ops Q S late (fuel+1) listed a w:=PR hi f j e g h
def rR {id:Nat}{a:Act}{w:zW}(S:zW->Prop)(late:Nat->Bool)(b:P.follows .mixedOrders=aF)
  (h:iR P .any ops Q S late ops.size (Array.replicate ops.size aG) a w.drew):(Code.region id ops aF).wp P Q a w:=
 wp_region_any b (CY _ _ _ _ h)
end
end Go.Proofs.Zq.AnyX
namespace Go.Proofs.Zq
open Go Go.RowKit Sha Go.Ga Go.Ren
section
variable {w:zW}{k d:Nat}{p:Option Nat}{S:zP}{us:List bJ}
structure rD (k:Nat)(w:zW)(us:List bJ)(d:Nat)(z o:Option Nat):Prop where
 z:eL k w z (bL d 0 us) (d+1)
 o:eL k w o (bL d 1 us) (d+1)
def ME {u}(h:eD u.idx d=0):bL d 0 [u]=[u]/\bL d 1 [u]=[]:=by unfold bL;rw[zAt (by rw[h];rfl),zAn (by rw[h];decide)];exact⟨rfl,rfl⟩
def MD {u}(h:eD u.idx d=1):bL d 0 [u]=[]/\bL d 1 [u]=[u]:=by unfold bL;rw[zAn (by rw[h];decide),zAt (by rw[h];rfl)];exact⟨rfl,rfl⟩
def SB (h:eL k w p us d)(G:d<256)(hi:∀u∈us,u.idx.length=32)(y:CS w S)(q:∀b,p=aA b->S b):
  Calls zq 230 #[ptr p,aC aD d] w λe a=>∃z o,e=aM (.tuple #[ptr z,ptr o])/\(a=w\/a=w.drew)/\rD k w us d z o/\(∀b,z=aA b->S b)/\∀b,o=aA b->S b:=by
 have m:=hid ((cO.done h (zAb 0)).ends);cases h with
 |nil=>have x:rD k w [] d aB aB:=⟨.nil _,.nil _⟩;have E:=hid m.out;have H:Hid (rD k w [] d aB aB/\(∀b,aB=aA b->S b)/\∀b,aB=aA b->S b):=⟨x,λb e=>by(cases e),λb e=>by(cases e)⟩;go_enter (Qz.fn func230),ntmps230;go_wp2_with fail;refine E.out.mono ?_;rintro e a ⟨rfl,rfl⟩;go_wp2;go_ret2;exact⟨aB,aB,rfl,aH rfl,H.out.1,λb e=>by(cases e),λb e=>by(cases e)⟩
 | @leaf b u _ t f=>have E:=hid m.out;have Vf:=hi u (by simp);have l:Hid (Calls zq 82 #[aL ⟨u.idx.toArray⟩,aC aD d] w λe a=>e=aM (.bool (decide (eD u.idx d=1)))/\a=w):=(EW ⟨u.idx.toArray⟩ d w (by show d/8<u.idx.length;omega) (by show u.idx.length<=_;omega) (by omega)).mono λe a h=>by{simpa using h};have k2:=f.c2;have i:=q b rfl;have hl:eL k w (aA b) [u] (d+1):= .leaf (by rw[GI k (d+1) d];exact f);obtain g|g:=rA u.idx d;{have H:Hid (rD k w [u] d (aA b) aB/\S b):=⟨⟨by rw[(ME g).1];exact hl,by rw[(ME g).2];exact .nil _⟩,i⟩;rw[zBv (by omega)]at l;go_enter (Qz.fn func230),ntmps230;go_wp2_with fail;refine E.out.mono ?_;rintro e a ⟨rfl,rfl⟩;go_wp2_with fail;refine l.out.mono ?_;rintro e a ⟨rfl,rfl⟩;go_wp2;go_ret2;exact⟨aA b,aB,rfl,aH rfl,H.out.1,λb e=>by(cases e;exact H.out.2),λb e=>by(cases e)⟩};{have H:Hid (rD k w [u] d aB (aA b)/\S b):=⟨⟨by rw[(MD g).1];exact .nil _,by rw[(MD g).2];exact hl⟩,i⟩;rw[zDd g]at l;go_enter (Qz.fn func230),ntmps230;go_wp2_with fail;refine E.out.mono ?_;rintro e a ⟨rfl,rfl⟩;go_wp2_with fail;refine l.out.mono ?_;rintro e a ⟨rfl,rfl⟩;go_wp2;go_ret2;exact⟨aB,aA b,rfl,aH rfl,H.out.1,λb e=>by(cases e),λb e=>by(cases e;exact H.out.2)⟩}
 | @node b _ _ z o t I _ f r v=>
  rw[zBv (by omega)]at m;have D:=f.c0;have k1:=f.c1;have H:Hid (rD k w us d z o/\(∀b,z=aA b->S b)/\∀b,o=aA b->S b):=by obtain⟨A,C,F,B,J,s,n,_,j⟩:=y b (q b rfl);obtain⟨rfl,rfl,_⟩:=eC f n;exact⟨⟨r,v⟩,λc e=>j c (aH e),λc e=>j c (aI e)⟩
  go_enter (Qz.fn func230),ntmps230;go_wp2_with fail;refine m.out.mono ?_;rintro e a ⟨rfl,rfl⟩;go_upto_region 2 with(fail)
  go_region;all_goals go_wp2
  all_goals go_ret2
  all_goals exact⟨z,o,rfl,aI rfl,H.out⟩
end
section
variable {w:zW}{k:Nat}{p:Option Nat}{us:List bJ}{I:zB}
def Ac (w:zW)(us:List bJ)(I:zB)(e:Ending):Prop:=
 (∃u b g h,u∈us/\u.idx=I/\e=aM (ptr (aA b))/\aX w b aB aB u.idx u.val g h)\/(e=aM (ptr aB)/\∀u∈us,u.idx≠I)
def Gs (h:eL k w p us 0)(R:I.length=32):Calls zq 228 #[ptr p,aL ⟨I.toArray⟩] w λe f=>f=w/\Ac w us I e:=by
 have N:=hid h;have P:Hid (∀d:Nat,d<256->Calls zq 82 #[aL ⟨I.toArray⟩,aC aD d] w λe f=>e=aM (.bool (decide (eD I d=1)))/\f=w):=λd J=>(EW ⟨I.toArray⟩ d w (by show d/8<I.length;omega) (by show I.length<=_;omega) (by omega)).mono λe f h=>by simpa using h
 go_enter (Qz.fn func228),ntmps228;go_wp2;go_loopg [0,5] 257 (λq c i wr=>∃(d:Nat)(y:Option Nat)(g:List bJ),d+q=257/\i=aC aD (d:Int)/\c=ptr y/\wr=w/\eL k w y g d/\(∀u∈g,u∈us)/\∀u∈us,u.idx=I->u∈g);case atStart=>exact⟨0,p,us,rfl,rfl,rfl,rfl,N.out,λ_ h=>h,λ_ h _=>h⟩
 case round=>
  obtain⟨d,y,g,J,rfl,rfl,rfl,r1,r2,r3⟩:=hrel
  cases r1 with
  |nil=>have E:=hid (LS wr);have t:Hid (∀u∈us,u.idx≠I):=λu j e=>by{have:=r3 u j e;simp at this};go_wp2_with fail;refine E.out.mono ?_;rintro e f ⟨rfl,rfl⟩;go_wp2;go_ret;exact⟨rfl,aI ⟨rfl,t.out⟩⟩
  | @leaf b u _ F l=>
   have E:=hid (xQ l);have k2:=l.c2;by_cases j:u.idx=I;{have t:Hid (Ac wr us I (aM (ptr (aA b)))):=aH ⟨u,b,_,_,r2 u (by simp),j,rfl,l⟩;rw[j]at k2;go_wp2_with fail;refine E.out.mono ?_;rintro e f ⟨rfl,rfl⟩;go_wp2;go_ret;exact⟨rfl,t.out⟩}
   .have t:Hid (∀u∈us,u.idx≠I):=λx D e=>by
     have:=r3 x D e;rw[zAm]at this;subst this;exact j e
    have G:(u.idx==I)=aG:=by rw[zDb];exact j
    go_wp2_with fail;refine E.out.mono ?_;rintro e f ⟨rfl,rfl⟩;go_wp2;go_ret;exact⟨rfl,aI ⟨rfl,t.out⟩⟩
  | @node b _ _ z o F L s l A B=>
   have E:Hid (Calls zq 225 #[ptr (aA b)] wr λe f=>e=aM (.bool aG)/\f=wr):=(cO.done (eL.node L s l A B) (zAb 0)).ends.mono λe f h=>⟨by rw[h.1,zBv (by omega)],h.2⟩;have Q:=l.c0;have k1:=l.c1;have hi:(d:Int)<256:=by{omega};have H:=P.out d s;have C:Hid (∀a:Nat,eD I d=a->(∀u∈bL d a g,u∈us)/\∀u∈us,u.idx=I->u∈bL d a g):=λa K=>⟨λu j=>r2 u (zAx.1 j).1,λu j e=>zAx.2 ⟨r3 u j e,by rw[e,K];exact zFd _⟩⟩;have M:=hid A;have O:=hid B;obtain v|v:=rA I d
   .have n:=C.out 0 v;have m:=hid n;rw[zBv (by omega)]at H;have r:=hid H;go_wp2_with fail;refine E.out.mono ?_;rintro e f ⟨rfl,rfl⟩;go_wp2_with fail;refine r.out.mono ?_;rintro e f ⟨rfl,rfl⟩;go_wp2;go_roundg (257-(d+1));case measure=>omega
    case rel=>
     go_light
     exact⟨d+1,z,_,by omega,by go_num,rfl,rfl,M.out,m.out⟩
   .have n:=C.out 1 v;have m:=hid n;rw[zDd v]at H;have r:=hid H;go_wp2_with fail;refine E.out.mono ?_;rintro e f ⟨rfl,rfl⟩;go_wp2_with fail;refine r.out.mono ?_;rintro e f ⟨rfl,rfl⟩;go_wp2;go_roundg (257-(d+1));case measure=>omega
    case rel=>
     go_light
     exact⟨d+1,o,_,by omega,by go_num,rfl,rfl,O.out,m.out⟩
end
open Go Go.RowKit Sha
section
variable {l cs:List bJ}{u:bJ}{d b:Nat}{I:zB}
def wU (h:lD l)(u):lD (iL l u):=by have a:eJ (wP (bF l) u):=uZ (zCw.2 h);rw[<-wO]at a;exact zCw.1 a
def EX:∀(cs:List bJ){l:List bJ},lD l->lD (bE l cs)
 |[],_,h=>h
 |u::cs,_,h=>EX cs (wU h u)
def Kx (c:lD l):bL d b (iL l u)=if eD u.idx d=b then iL (bL d b l) u else bL d b l:=by
 have k:bL d b (sO u.idx l)=sO u.idx (bL d b l):=by unfold bL sO;rw[zDv,zDv];congr 1;funext x;exact aFh ..
 have j:bL d b (lU u.idx l)=lU u.idx (bL d b l):=by unfold bL lU;rw[zDv,zDv];congr 1;funext x;exact aFh ..
 have i:bL d b (iL l u)=sO u.idx (bL d b l)++(bL d b (if u.gone then []else [LK u])++lU u.idx (bL d b l)):=by rw[<-k,<-j];unfold iL bL;rw[zDl,zDl]
 rw[i];by_cases h:eD u.idx d=b
 .rw[zAz h];congr 2;cases u.gone with
  |true=>rfl
  |false=>exact zAt (show(eD u.idx d==b)=aF by rw[h];exact zFd _)
 .rw[zAv h];have g:bL d b (if u.gone then []else [LK u])=[]:=by
   cases u.gone with
   |true=>rfl
   |false=>exact zAn (show¬(eD u.idx d==b)=aF by rw[zDq];exact h)
  rw[g,zCk];obtain⟨x,a,e⟩|⟨e,_⟩:=yG u.idx (bL d b l) (c.filter _);{exfalso;have f:x∈bL d b l:=by{rw[e];simp};have:=(zAx.1 f).2;rw[a]at this;exact h (zDq.1 this)};{exact e.symm}
def jO:∀(cs:List bJ){l:List bJ},lD l->bL d b (bE l cs)=bE (bL d b l) (bL d b cs)
 |[],_,_=>rfl
 |u::cs,l,a=>by show bL d b (bE (iL l u) cs)=_;rw[jO cs (wU a u),Kx a];by_cases h:eD u.idx d=b;{rw[zAz h,show bL d b (u::cs)=u::bL d b cs from zAt (show(eD u.idx d==b)=aF by rw[h];exact zFd _)];rfl};{rw[zAv h,show bL d b (u::cs)=bL d b cs from zAn (show¬(eD u.idx d==b)=aF by rw[zDq];exact h)]}
def pJ (l:List bJ)(u:bJ):Bool:=match eK (bF l) u.idx with|none=> !u.gone|some v=>u.gone||v !=u.val
def iP (l:List bJ)(u:bJ):Int:=match eK (bF l) u.idx with|none=>if u.gone then 0 else 1|some _=>if u.gone then-1 else 0
def jW (l cs:List bJ):List bJ:=cs.filter (pJ l)
def fF (l cs:List bJ):Int:=(cs.map (iP l)).sum
def xL (l)(u)(I):eK (bF (iL l u)) I=if u.idx=I then(if u.gone then aB else aA u.val)else eK (bF l) I:=by rw[wO,get_put]
def pH:∀(cs:List bJ)(l:List bJ),(∀x∈cs,x.idx≠I)->eK (bF (bE l cs)) I=eK (bF l) I
 |[],_,_=>rfl
 |u::cs,l,h=>by show eK (bF (bE (iL l u) cs)) I=_;rw[pH cs _ λx a=>h x (zBc _ a),xL,zAv (h u (zAy ..))]
def EY {u cs}(h:lD (u::cs)):∀x∈cs,u.idx≠x.idx:=λx a e=>by have:=(zBy.1 h).1 x a;rw[e,cZ]at this;cases this
def sR:∀(cs:List bJ)(l:List bJ),lD cs->∀u∈cs,eK (bF (bE l cs)) u.idx=if u.gone then aB else aA u.val
 |[],_,_,u,hu=>by simp at hu
 |c::cs,l,h,u,hu=>by show eK (bF (bE (iL l c) cs)) u.idx=_;obtain rfl|hu:=zAg.1 hu;{rw[pH cs _ λx a e=>EY h x a e.symm,xL,zAz rfl]};{exact sR cs _ (zBy.1 h).2 u hu}
def Nu (g:lD cs):Diff (jW l cs) (bF (bE l cs)) (bF l):=λu f=>by
 obtain⟨i,a⟩:=zAx.1 f;rw[sR cs l g u i];unfold pJ at a;cases c:eK (bF l) u.idx with
 |none=>
  rw[c]at a;cases h:u.gone with
  |true=>rw[h]at a;cases a
  |false=>simp
 |some v=>
  rw[c]at a;cases h:u.gone with
  |true=>simp
  |false=>rw[h]at a;simp at a⊢;exactλe=>a e.symm
def Bx (c)(h:c.idx≠u.idx):pJ (iL l c) u=pJ l u/\iP (iL l c) u=iP l u:=by unfold pJ iP;rw[xL,zAv h];exact⟨rfl,rfl⟩
def Kw (hl:lD l)(hh:∀x∈l,x.gone=aG)(h:pJ l u=aG):iL l u=l:=by
 have k:bF (iL l u)=bF l:=by
  refine mX (zCw.2 (wU hl u)) (zCw.2 hl) λI=> ?_;rw[xL];by_cases e:u.idx=I
  .rw[zAz e];unfold pJ at h;rw[<-e];cases f:eK (bF l) u.idx with
   |none=>
    rw[f]at h;cases c:u.gone with
    |true=>rfl
    |false=>rw[c]at h;cases h
   |some v=>
    rw[f]at h;cases c:u.gone with
    |true=>rw[c]at h;cases h
    |false=>rw[c]at h;simp at h;rw[h];rfl
  .rw[zAv e]
 have g:∀{x:List bJ},(∀u∈x,u.gone=aG)->x=(bF x).map λe=>⟨e.1,e.2,aG⟩:=λ{x} a=>by
  unfold bF;rw[zEs];conv=>lhs;rw[<-List.map_id x]
  apply zFz;intro u i;have:=a u i;cases u;simp only at this;subst this;rfl
 have j:∀x∈iL l u,x.gone=aG:=λx a=>by
  obtain a|a:=zAh.1 a;{exact hh x (zAx.1 a).1}
  .obtain a|a:=zAh.1 a
   .cases f:u.gone with
    |true=>rw[f]at a;simp at a
    |false=>rw[f]at a;simp at a;rw[a];rfl
   .exact hh x (zAx.1 a).1
 exact(g j).trans ((congrArg _ k).trans (g hh).symm)
def Mq (hh:∀x∈l,x.gone=aG)(u):∀x∈iL l u,x.gone=aG:=λx h=>by
 obtain h|h:=zAh.1 h
 .exact hh x (zAx.1 h).1
 .obtain h|h:=zAh.1 h
  .cases a:u.gone with
   |true=>rw[a]at h;simp at h
   |false=>rw[a]at h;simp at h;rw[h];rfl
  .exact hh x (zAx.1 h).1
def By:∀(cs:List bJ){l:List bJ},lD l->(∀x∈l,x.gone=aG)->lD cs->bE l (jW l cs)=bE l cs
 |[],_,_,_,_=>rfl
 |u::cs,l,hl,c,e=>by
  have a:=EY e;have i:=By cs (wU hl u) (Mq c u) (zBy.1 e).2;have g:jW (iL l u) cs=jW l cs:=List.filter_congr λx f=>(Bx u (a x f)).1;rw[g]at i;show _=bE (iL l u) cs;rw[<-i];cases h:pJ l u with
  |true=>rw[show jW l (u::cs)=u::jW l cs from zAt h];rfl
  |false=>rw[show jW l (u::cs)=jW l cs from zAn (by rw[h];exact aFi),Kw hl c h]
def Sa (hl:lD l)(u):((iL l u).length:Int)=l.length+iP l u:=by
 unfold iP;obtain⟨x,h,e⟩|⟨e,g⟩:=yG u.idx l hl
 .have a:eK (bF l) u.idx=aA x.val:=xM (zCw.2 hl) (by rw[<-h];exact zBl.2 ⟨x,by rw[e];simp,rfl⟩);rw[a];have c:=congrArg List.length e;rw[zAc,zAf]at c;unfold iL;rw[zAc,zAc];cases u.gone<;>simp<;>omega
 .have a:eK (bF l) u.idx=aB:=eM λx h=>by
   obtain⟨y,f,rfl⟩:=zBl.1 h;exact g y f
  rw[a];have c:=congrArg List.length e;rw[zAc]at c;unfold iL;rw[zAc,zAc];cases u.gone<;>simp<;>omega
def SQ:∀(cs:List bJ){l:List bJ},lD l->lD cs->((bE l cs).length:Int)=l.length+fF l cs
 |[],l,_,_=>by simp[fF,bE]
 |u::cs,l,hl,a=>by
  have h:=EY a;have i:=SQ cs (wU hl u) (zBy.1 a).2;have e:fF (iL l u) cs=fF l cs:=by unfold fF;congr 1;exact zFz λx c=>(Bx u (h x c)).2
  show((bE (iL l u) cs).length:Int)=_;rw[i,e,Sa hl u];show _=(l.length:Int)+(iP l u+fF l cs);omega
end
section
variable {w:zW}{d bx:Nat}{cs:List bJ}
def Hp (u)(hi:u.idx.length=32)(m:d<256)(k:w.cell? ⟨bx,0,aB⟩=aA (aC aD d))(hl:bx<w.heap.size):
  Calls zq 238 #[Qq u,aO (aA ⟨bx,0,aB⟩)] w λe b=>e=aM (.bool (decide (eD u.idx d=1)))/\zb w b:=by
 obtain⟨a,f,g⟩:=u;dsimp only at*;have c:Hid (zb w (w.alloc (aJ #[aL ⟨a.toArray⟩,aL ⟨f.toArray⟩,.bool g] 53))):=(zGo _ w).alloc (zAb _) _;have j:(w.alloc (aJ #[aL ⟨a.toArray⟩,aL ⟨f.toArray⟩,.bool g] 53)).cell? ⟨bx,0,aB⟩=aA (aC aD d):=by rw[c.out.cell hl];exact k
 have l:(w.alloc (aJ #[aL ⟨a.toArray⟩,aL ⟨f.toArray⟩,.bool g] 53)).cell? ⟨w.heap.size,0,aB⟩=aA (aL ⟨a.toArray⟩):=(bC (zGu w _) 0).trans rfl;have H:Hid (∀W,Calls zq 82 #[aL ⟨a.toArray⟩,aC aD d] W λe b=>e=aM (.bool (decide (eD a d=1)))/\b=W):=λW=>(EW ⟨a.toArray⟩ d W (by show d/8<a.length;omega) (by show a.length<=_;omega) (by omega)).mono λe b h=>by simpa using h
 go_enter (Qz.fn func238),ntmps238;go_upto_region 1 with(fail)
 generalize(w.alloc (aJ #[aL ⟨a.toArray⟩,aL ⟨f.toArray⟩,.bool g] 53))=i at*;go_wp2_with fail;refine(H.out i).mono ?_;rintro e b ⟨rfl,rfl⟩;go_wp2;go_ret;exact⟨rfl,c.out⟩
def JE {y cap m}(D:eT w y cs)(hl:cs.length<=1000000)(hi:∀u∈cs,u.idx.length=32)(K:d<256)(z:w.cell? ⟨bx,0,aB⟩=aA (aC aD d))(C:bx<w.heap.size)(s:Cut cs d m):
  Calls zq 237 #[aK y cs.length cap,.func (.func 238) #[] #[aO (aA ⟨bx,0,aB⟩)]] w λe f=>e=aM (aC aD (if m<cs.length then(m)else-1))/\zb w f:=by
 have M:=hid D;have p:=hid s;have v:Hid (∀(t:Nat) u,cs[t]? =aA u->∀W,zb w W->Calls zq 238 #[Qq u,aO (aA ⟨bx,0,aB⟩)] W λe f=>e=aM (.bool (decide (eD u.idx d=1)))/\zb w f):=λt u c W j=>(Hp u (hi u (zDf c)) K (by rw[j.cell C];exact z) (zAd C j.size)).mono λe f h=>⟨h.1,j.trans (h.2.mono j.size)⟩;obtain⟨n,r⟩:∃n,n=cs.length:=⟨_,rfl⟩;have L:=hid r;have G:=s.le;rw[<-r]at hl G⊢;clear D s hi z r;go_enter (Qz.fn func237),ntmps237;go_wp2;go_loopg [8] n (λq i wr=>∃t:Nat,t+q=n/\i=aC aD (t:Int)/\t<=m/\zb w wr);case atStart=>exact⟨0,by omega,rfl,by omega,zGo _ _⟩
 case round=>
  obtain⟨t,Q,rfl,E,k⟩:=hrel
  have x:=hid k
  by_cases bT:t<n
  .have c:=zAi (l:=cs) (i:=t) (by have:=L.out;omega);have H:=hid (v.out t _ c wr x.out);have H0:Hid (t<m->eD cs[t].idx d=0):=λh=>p.out.zero t _ h c;have H1:Hid (m<=t->eD cs[t].idx d=1):=λh=>p.out.one t _ h c;obtain⟨g,o,rfl,R,c0,c1,c2⟩:=(M.out.below x.out (zAb _)).idx t _ c;generalize cs[t]=u at*;obtain⟨O,N,P⟩:=u;dsimp only at*;have J:¬((t:Int)<0):=by{omega};have I:(t:Int)<(n:Int):=by{omega};by_cases A:m<=t;{obtain rfl:t=m:=by{omega};have b:=H1.out (zAb _);rw[zDd b]at H;clear b k v H0 H1 c p;go_wp2_with fail;refine H.out.mono ?_;rintro e w2 ⟨rfl,a⟩;have B:=hid a;clear a;go_wp2;go_ret;exact⟨rfl,B.out⟩}
   .have b:=H0.out (by omega);rw[zBv (by omega)]at H;clear b k v H0 H1 c p;go_wp2_with fail;refine H.out.mono ?_;rintro e w2 ⟨rfl,a⟩;have B:=hid a;clear a;go_wp2;go_roundg (n-(t+1));case measure=>omega
    case rel=>
     go_light
     exact⟨t+1,by omega,by go_num,by omega,B.out⟩
  .have F:¬(t:Int)<(n:Int):=by{omega};clear k;go_wp2;go_ret;exact⟨rfl,x.out⟩
def SA {v cap m}(i:eT w v cs)(hl:cs.length<=1000000)(hi:∀u∈cs,u.idx.length=32)(g:d<256)(f:Cut cs d m):
  Calls zq 231 #[aK v cs.length cap,aC aD d] w λe c=>e=aM (aC aD (m))/\zb w c:=by
 have b:zb w (w.alloc (aJ #[aC aD d] 3)):=(zGo _ w).alloc (zAb _) _;have H:Hid (Calls zq 237 #[aK v cs.length cap,.func (.func 238) #[] #[aO (aA ⟨w.heap.size,0,aB⟩)]] (w.alloc (aJ #[aC aD d] 3)) λe c=>e=aM (aC aD (if m<cs.length then(m:Int)else-1))/\zb w c):=by refine(JE (i.below b (zAb _)) hl hi g ((bC (zGu w _) 0).trans rfl) (by rw[size_alloc];omega) f).mono λe c h=>⟨h.1,b.trans (h.2.mono b.size)⟩
 have j:=f.le;by_cases bT:m<cs.length
 .rw[zAz bT]at H;have k:¬(m:Int)<0:=by{omega};go_enter (Qz.fn func231),ntmps231;go_wp2_with fail;refine H.out.mono ?_;rintro e w2 ⟨rfl,a⟩;have B:=hid a;go_wp2;go_ret;exact⟨rfl,B.out⟩
 .rw[zAv bT]at H;obtain rfl:m=cs.length:=by{omega};go_enter (Qz.fn func231),ntmps231;go_wp2_with fail;refine H.out.mono ?_;rintro e w2 ⟨rfl,a⟩;have B:=hid a;go_wp2;go_ret;exact⟨rfl,B.out⟩
end
section
variable {w w1 w':zW}{t k d:Nat}{x0 x1 x2 x3 x4:zY}{c:Int}{p:Option Nat}{S:zP}{us cs:List bJ}
def eT.hl {m}(h:eT w m cs)(s:Hl t w w')(A:∀a,m=aA a->a.block≠t):eT w' m cs:=λx=>by
 obtain⟨g,o,e,r,D⟩:=h x;obtain⟨u,y⟩:∃u,cs[0]? =aA u:=⟨_,zAi x⟩;obtain⟨f,n,l,_,_,_,k2⟩:=h.idx 0 u y;have F:f=g/\n=o:=by rw[e]at l;injection l with l;injection l with G a2 _;exact⟨G.symm,a2.symm⟩
 obtain⟨rfl,rfl⟩:=F;have E:w'.heap[f]? =w.heap[f]? :=s.block f r (A _ e) λz o i v g B b=>by obtain⟨fr,b⟩:=b.at';rw[bC b]at k2;have q:Value.bool u.gone∈(jB z o i v g B).toList:=by{rw[zDm];exact zBj k2};simp only[jB,zAg,zAr,zCd]at q;obtain h|h|h|h|h|h:=q;{cases z<;>cases h};{cases o<;>cases h};all_goals cases h
 refine⟨f,n,e,zAd r s.size,λj u C=> ?_⟩;rw[World.cell?_of_block (a:=⟨f,n+j,aB⟩) E];exact D j u C
def Grown (k t:Nat)(S:zP)(us cs:List bJ)(d:Nat)(x0 x1 x2 x3 x4:zY)(c:Int)(W:zW)(e:Ending)(w':zW):Prop:=
 ∃a rows f,e=aM (ptr a)/\cO k w' a (bE us cs) d W.heap.size w'.heap.size rows/\Grow t S f W w'/\(∀b,a=aA b->f b)/\cG w' t x0 x1 x2 x3 x4 (c+rows.length)/\rows.length<=jJ (bF (bE us cs)) (bF us) d
structure jV (k t:Nat)(S:zP)(p:Option Nat)(us cs:List bJ)(d:Nat)(x0 x1 x2 x3 x4:zY)(c:Int)(W:zW):Prop where
 k1:1<=k
 k2:k<=32
 rep:eL k W p us d
 NK:lD us
 Xi:lD cs
 here:∀u∈us,u.gone=aG
 BS:∀u∈us,u.idx.length=32
 Xl:∀u∈cs,u.idx.length=32/\u.val.length<=100
 bits:∀a∈us++cs,∀b∈us++cs,∀i,i<d->eD a.idx i=eD b.idx i
 diff:Diff cs (bF (bE us cs)) (bF us)
 cells:CS W S
 ve:∀b,p=aA b->S b
 at':cG W t x0 x1 x2 x3 x4 c
 lo: -4611686018427387904<=c
 hi:c+jJ (bF (bE us cs)) (bF us) d<=1000000000
def Grow.below {B:Nat}(h:CS w S)(a:Below B w w')(b:w.heap.size<=B):Grow t S S w w':=⟨Hl.below a b,h.hl (t:=t) (Hl.below a b),λ_ h=>h,λ_ h=>aH h,λ_ _ h=>⟨[],h.below a b⟩⟩
def YV (h:jV k t S p us [] d x0 x1 x2 x3 x4 c w):Grown k t S us [] d x0 x1 x2 x3 x4 c w (aM (ptr p)) w:=
 ⟨p,[],S,rfl,.done h.rep (zAb _),.refl h.cells,h.ve,by simpa using h.at',zBu _⟩
def Bc {u}(h:us=[]\/∃x,us=[x]/\x.idx=u.idx):bE us [u]=if u.gone then []else [LK u]:=by
 show iL us u=_;obtain rfl|⟨x,rfl,a⟩:=h
 .unfold iL sO lU;simp
 .have e:sO u.idx [x]=[]:=zAn (by rw[a,cZ];decide);have b:lU u.idx [x]=[]:=zAn (by rw[a,cZ];decide);unfold iL;rw[e,b];simp
def YT {u}(h:jV k t S p us [u] d x0 x1 x2 x3 x4 c w)(f:us=[]\/∃x,us=[x]/\x.idx=u.idx)(g:u.gone=aF)(a:zb w w'):Grown k t S us [u] d x0 x1 x2 x3 x4 c w (aM (ptr aB)) w':=by refine⟨aB,[],S,rfl,?_,.below h.cells a (zAb _),λb e=>(by cases e),by simpa using h.at'.below a (zAb _),zBu _⟩;rw[Bc f,zAz g];exact .done (.nil d) a.size
def YU {u:bJ}{b:Nat}(h:jV k t S p us [u] d x0 x1 x2 x3 x4 c w)(q:us=[]\/∃x,us=[x]/\x.idx=u.idx)(r:u.gone=aG)(i:zb w w1)(l:HD w1 w' b aB aB u.idx u.val)(z:Hl t w1 w')(o:cG w' t x0 x1 x2 x3 x4 (c+1))(m:b<w'.heap.size)(y:∀L f,Inv t w1 L f->Inv t w' ((b,aB,aB)::L) f):Grown k t S us [u] d x0 x1 x2 x3 x4 c w (aM (ptr (aA b))) w':=by obtain⟨B,v⟩:=l.cell;have a:w.heap.size<=b:=zBb i.size l.lo;have g:Hl t w w':=(Hl.below i (zAb _)).trans z;have e:=Bc q;rw[r]at e;have e:bE us [u]=[LK u]:=e;refine⟨aA b,_,λx=>S x\/x=b,rfl,by rw[e];exact .leaf a m v,⟨g,(h.cells.hl g).add l (λc e=>by cases e) (λc e=>by cases e),λx j=>aH j,λx j=>j.imp id λe=>by subst e;exact a,λf L s=>(s.below i (zAb _)).push (h.at'.below i (zAb _)) (by have:=h.hi;omega) o λA _ _ _=>y L f A⟩,λx e=>by cases e;exact aI rfl,by simpa using o,?_⟩;rw[e];have n:=h.diff;rw[e]at n;exact Fi (zCw.2 h.NK) n (zAm.2 rfl) rfl
def jV.deep (h:jV k t S p us cs d x0 x1 x2 x3 x4 c w)(o:d<=256)(l:0<cs.length)(j:∀u,cs=[u]->us≠[]/\∀x,us=[x]->x.idx≠u.idx):d<256:=by
 have two:∀a∈us++cs,∀b∈us++cs,a.idx≠b.idx->d<256:=λa f b e g=>by
  obtain x|x:=zDc d 256;{exact x}
  .refine absurd (Cp ?_ ?_ λi hi=>h.bits a f b e i (by omega)) g
   .obtain f|f:=zAh.1 f
    .exact h.BS a f
    .exact(h.Xl a f).1
   .obtain e|e:=zAh.1 e
    .exact h.BS b e
    .exact(h.Xl b e).1
 match cs,l with
 |[u],_=>
  obtain⟨n,m⟩:=j u rfl;match us,n with
  |[x],_=>exact two x (by simp) u (by simp) (m x rfl)
  |x::y::us,_=>exact two x (by simp) y (by simp) (EY h.NK y (by simp))
 |u::v::cs,_=>exact two u (by simp) v (by simp) (EY h.Xi v (by simp))
def SO (us)(a)(d)(hl:us.length<=1)(e:d<256):jJ (bF (bL d 0 us)) (dG a d 0) (d+1)+jJ (bF (bL d 1 us)) (dG a d 1) (d+1)<=jJ (bF us) a d:=by
 have h:=sX us d;have b:nP (256-(d+1)) (bF (bL d 0 us)) (dG a d 0) (d+1)=0:=by have:=wZ (256-(d+1)) (bF (bL d 0 us)) (dG a d 0) (d+1);rw[eH,show(bL d 0 us).length-1=0 by omega]at this;omega
 have n:nP (256-(d+1)) (bF (bL d 1 us)) (dG a d 1) (d+1)=0:=by have:=wZ (256-(d+1)) (bF (bL d 1 us)) (dG a d 1) (d+1);rw[eH,show(bL d 1 us).length-1=0 by omega]at this;omega
 unfold jJ;rw[b,n,fL,fL];have:=sL (bF us) a d;omega
def yR (h:jV k t S p us cs d x0 x1 x2 x3 x4 c w)(e:0<cs.length)(b:d<256):(if 2<=(bE us cs).length then 1 else 0)+(jJ (bF (bE (bL d 0 us) (bL d 0 cs))) (bF (bL d 0 us)) (d+1)+jJ (bF (bE (bL d 1 us) (bL d 1 cs))) (bF (bL d 1 us)) (d+1))<=jJ (bF (bE us cs)) (bF us) d:=by
 rw[<-jO cs h.NK,<-jO cs h.NK,fL us d 0,fL us d 1];by_cases a:2<=(bE us cs).length
 .rw[zAz a,<-Fh h.diff a e b];exact zAb _
 .rw[zAv a,zBd];exact SO _ _ d (by omega) b
def jV.half (h:jV k t S p us cs d x0 x1 x2 x3 x4 c w)(b:Nat){j:Option Nat}{S1:zP}{c1:Int}(m:eL k w1 j (bL d b us) (d+1))(q:CS w1 S1)(n:∀b,j=aA b->S1 b)(o:cG w1 t x0 x1 x2 x3 x4 c1)(s: -4611686018427387904<=c1)(r:c1+jJ (bF (bE (bL d b us) (bL d b cs))) (bF (bL d b us)) (d+1)<=1000000000):jV k t S1 j (bL d b us) (bL d b cs) (d+1) x0 x1 x2 x3 x4 c1 w1:=by
 refine⟨h.k1,h.k2,m,h.NK.filter _,h.Xi.filter _,λu g=>h.here u (zAx.1 g).1,λu g=>h.BS u (zAx.1 g).1,λu g=>h.Xl u (zAx.1 g).1,λx a y l i hi=> ?_,?_,q,n,o,s,r⟩
 .have f:∀x∈bL d b us++bL d b cs,x∈us++cs/\eD x.idx d=b:=λx a=>by
   obtain a|a:=zAh.1 a;{exact⟨zAh.2 (aH (zAx.1 a).1),zDq.1 (zAx.1 a).2⟩};{exact⟨zAh.2 (aI (zAx.1 a).1),zDq.1 (zAx.1 a).2⟩}
  by_cases e:i=d;{subst e;exact(f x a).2.trans (f y l).2.symm};{exact h.bits x (f x a).1 y (f y l).1 i (by omega)}
 .have:=h.diff.half d b;rw[<-fL,<-fL,jO cs h.NK]at this;exact this
end
def tl (k t:Nat)(S:zP)(us cs:List bJ)(d:Nat)(x0 x1 x2 x3 x4:zY)(c:Int)(w:zW)(p0:Option Nat)(w0:zW):Prop:=
 ∃m r0 S0,w.heap.size<=m/\cO k w0 p0 (bE (bL d 0 us) (bL d 0 cs)) (d+1) m w0.heap.size r0/\Grow t S S0 w w0/\(∀b,p0=aA b->S0 b)/\cG w0 t x0 x1 x2 x3 x4 (c+r0.length)/\r0.length<=jJ (bF (bE (bL d 0 us) (bL d 0 cs))) (bF (bL d 0 us)) (d+1)
def Zf (k t:Nat)(S:zP)(us cs:List bJ)(d:Nat)(x0 x1 x2 x3 x4:zY)(c:Int)(w:zW)(p0 p1:Option Nat)(w1:zW):Prop:=
 ∃m m1 r0 r1 S1,w.heap.size<=m/\m1<=w1.heap.size/\cO k w1 p0 (bE (bL d 0 us) (bL d 0 cs)) (d+1) m m1 r0/\cO k w1 p1 (bE (bL d 1 us) (bL d 1 cs)) (d+1) m1 w1.heap.size r1/\Grow t S S1 w w1/\(∀b,p0=aA b->S1 b)/\(∀b,p1=aA b->S1 b)/\cG w1 t x0 x1 x2 x3 x4 (c+(r0.length+r1.length:Nat))/\r0.length<=jJ (bF (bE (bL d 0 us) (bL d 0 cs))) (bF (bL d 0 us)) (d+1)/\r1.length<=jJ (bF (bE (bL d 1 us) (bL d 1 cs))) (bF (bL d 1 us)) (d+1)
section
variable {w wa w0 w1 w':zW}{t k d:Nat}{x0 x1 x2 x3 x4:zY}{c:Int}{p p0 p1 z o:Option Nat}{S:zP}{us cs:List bJ}{e:Ending}
def Xo (h:jV k t S p us cs d x0 x1 x2 x3 x4 c w)(a:zb w wa)(g:Grown k t S (bL d 0 us) (bL d 0 cs) (d+1) x0 x1 x2 x3 x4 c wa e w0):∃p0,e=aM (ptr p0)/\tl k t S us cs d x0 x1 x2 x3 x4 c w p0 w0:=by obtain⟨p0,r0,S0,m,l,j,i,f,b⟩:=g;exact⟨p0,m,wa.heap.size,r0,S0,a.size,l,(Grow.below h.cells a (zAb _)).trans j,i,f,b⟩
def ZW (h:jV k t S p us cs d x0 x1 x2 x3 x4 c w)(l:0<cs.length)(j:d<256)(a:zb w wa)(i:rD k w us d z o)(g:∀b,z=aA b->S b):jV k t S z (bL d 0 us) (bL d 0 cs) (d+1) x0 x1 x2 x3 x4 c wa:=by have m:=yR h l j;have hi:=h.hi;have f:Hl t w wa:=Hl.below a (zAb _);exact h.half 0 (i.z.hl h.k1 h.k2 f) (h.cells.hl f) g (h.at'.below a (zAb _)) h.lo (by omega)
def Hu (h:jV k t S p us cs d x0 x1 x2 x3 x4 c w)(r:0<cs.length)(q:d<256)(j:rD k w us d z o)(i:∀b,o=aA b->S b)(l:tl k t S us cs d x0 x1 x2 x3 x4 c w p0 w0):
  ∃S0 c0,jV k t S0 o (bL d 1 us) (bL d 1 cs) (d+1) x0 x1 x2 x3 x4 c0 w0/\∀e w1,Grown k t S0 (bL d 1 us) (bL d 1 cs) (d+1) x0 x1 x2 x3 x4 c0 w0 e w1->∃p1,e=aM (ptr p1)/\Zf k t S us cs d x0 x1 x2 x3 x4 c w p0 p1 w1:=by
 obtain⟨m,r0,S0,y,x,a,v,u,s⟩:=l;have D:=yR h r q;have hi:=h.hi;have n:=h.lo;refine⟨S0,c+r0.length,h.half 1 (j.o.hl h.k1 h.k2 a.hl) a.cs (λb e=>a.old b (i b e)) u (by omega) (by omega),λe w1 g=> ?_⟩;obtain⟨p1,r1,S1,C,B,f,A,g4,g5⟩:=g;exact⟨p1,C,m,w0.heap.size,r0,r1,S1,y,f.hl.size,x.hl h.k1 h.k2 f.hl,B,a.trans f,λb e=>f.old b (v b e),A,by rw[show c+((r0.length+r1.length:Nat):Int)=c+r0.length+r1.length by omega];exact g4,s,g5⟩
def YM (h:jV k t S p us cs d x0 x1 x2 x3 x4 c w)(M:0<cs.length)(L:d<256)(I:Zf k t S us cs d x0 x1 x2 x3 x4 c w p0 p1 w1):
  Calls zq 232 #[aO (aA ⟨t,0,aB⟩),ptr p0,ptr p1] w1 λe w'=>∃j,e=aM (ptr j)/\Grown k t S us cs d x0 x1 x2 x3 x4 c w (aM (ptr j)) w':=by
 obtain⟨m,m1,r0,r1,S1,X,h2,V,U,v,T,R,Q,h9,W⟩:=I;have hn:=yR h M L;have hi:=h.hi;have J:=h.lo;have P:Sub (bE us cs) d:=by
  have g:∀x∈bE us cs,∃y∈us++cs,x.idx=y.idx:=by
   have:∀(cs l:List bJ),∀x∈bE l cs,∃y∈l++cs,x.idx=y.idx:=by
    intro cs;induction cs with
    |nil=>intro l x q;exact⟨x,zAh.2 (aH q),rfl⟩
    |cons u cs G=>
     intro l x q;obtain⟨y,f,e⟩:=G (iL l u) x q;obtain f|f:=zAh.1 f
     .obtain f|f:=zAh.1 f
      .exact⟨y,zAh.2 (aH (zAx.1 f).1),e⟩
      .obtain f|f:=zAh.1 f
       .refine⟨u,by simp,e.trans ?_⟩;cases s:u.gone with
        |true=>rw[s]at f;simp at f
        |false=>rw[s]at f;simp at f;rw[f];rfl
       .exact⟨y,zAh.2 (aH (zAx.1 f).1),e⟩
     .exact⟨y,zAh.2 (aI (zBc _ f)),e⟩
   exact this cs us
  refine⟨EX cs h.NK,λu H=> ?_,λa O b N i hi=> ?_⟩
  .obtain⟨y,f,e⟩:=g u H;rw[e];obtain f|f:=zAh.1 f
   .exact h.BS y f
   .exact(h.Xl y f).1
  .obtain⟨y,f,e⟩:=g a O;obtain⟨A,n,r⟩:=g b N;rw[e,r];exact h.bits y f A n i hi
 have q0:=jO (d:=d) (b:=0) cs h.NK;have B:=jO (d:=d) (b:=1) cs h.NK;refine(Ge h.k1 h.k2 (by rw[q0];exact V) (by rw[B];exact U) P v.cs T R Q (by omega) (by omega)).mono λe w' K=> ?_;obtain⟨j,rows,Y,r,F,E,D,C,Z⟩:=K;refine⟨j,r,j,rows,Y,rfl,F.wide X (zAb _),v.trans E,D,?_,by omega⟩;rw[show c+(rows.length:Int)=c+((r0.length+r1.length:Nat):Int)+((rows.length:Int)-(r0.length+r1.length:Nat)) by omega];exact C
end
section
variable {w:zW}{t k d cap:Nat}{x0 x1 x2 x3 x4:zY}{c:Int}{p:Option Nat}{S:zP}{us cs:List bJ}{va:zO}
def TQ (h:jV k t S p us [] d x0 x1 x2 x3 x4 c w):Calls zq 223 #[aO (aA ⟨t,0,aB⟩),ptr p,aC aD d,aK va 0 cap] w (Grown k t S us [] d x0 x1 x2 x3 x4 c w):=by have H:=hid (YV h);generalize Grown k t S us [] d x0 x1 x2 x3 x4 c w=J at*;go_enter (Qz.fn func223),ntmps223;go_wp2;exact H.out
def UE {u cs}(a:eT w va (u::cs)):∃g o,va=aA ⟨g,o,aB⟩/\g<w.heap.size/\w.cell? ⟨g,o,aB⟩=aA (aL ⟨u.idx.toArray⟩)/\w.cell? ⟨g,o+1,aB⟩=aA (aL ⟨u.val.toArray⟩)/\w.cell? ⟨g,o+2,aB⟩=aA (.bool u.gone):=by obtain⟨g,o,e,h,c0,c1,c2⟩:=a.idx 0 u rfl;rw[zFi,aE9]at c0 c1 c2;exact⟨g,o,e,h,c0,c1,c2⟩
def TP {u:bJ}(h:jV k t S p us [u] d x0 x1 x2 x3 x4 c w)(y:us=[]\/∃x,us=[x]/\x.idx=u.idx)(G:eT w va [u]):Calls zq 223 #[aO (aA ⟨t,0,aB⟩),ptr p,aC aD d,aK va 1 cap] w (Grown k t S us [u] d x0 x1 x2 x3 x4 c w):=by
 obtain⟨g,o,rfl,z,c0,c1,c2⟩:=UE G;have O:=h.Xl u (zAm.2 rfl);have K:Hid (u.gone=aF->∀W,zb w W->Grown k t S us [u] d x0 x1 x2 x3 x4 c w (aM (ptr aB)) W):=λz W r=>YT h y z r;have L:Hid (u.gone=aG->∀W,zb w W->Calls zq 229 #[aO (aA ⟨t,0,aB⟩),Qq u] W λe l=>∃b,e=aM (ptr (aA b))/\Grown k t S us [u] d x0 x1 x2 x3 x4 c w (aM (ptr (aA b))) l):=λz W r=>by have P:=h.lo;have hi:=h.hi;refine(Fw u (by omega) (by omega) (h.at'.below r (zAb _)) h.lo (by omega)).mono λe l X=> ?_;obtain⟨b,F,V,D,U,T,R⟩:=X;exact⟨b,F,YU h y z r V D U T R⟩
 have N:p=aB\/∃b g B,p=aA b/\aX w b aB aB u.idx ((us.headD ⟨[],[],aG⟩).val) g B:=by
  obtain rfl|⟨x,rfl,M⟩:=y;{exact aH (h.rep.iA.2 rfl)}
  .cases h.rep with
   |leaf q=>exact aI ⟨_,_,_,rfl,by rw[<-M];exact q⟩
   |node D=>simp at D
 have H:Hid (zb w (w.alloc (aJ #[aL ⟨u.idx.toArray⟩,aL ⟨u.val.toArray⟩,.bool u.gone] 53))):=(zGo _ w).alloc (zAb _) _;have a:(w.alloc (aJ #[aL ⟨u.idx.toArray⟩,aL ⟨u.val.toArray⟩,.bool u.gone] 53)).heap[w.heap.size]? =aA (aJ #[aL ⟨u.idx.toArray⟩,aL ⟨u.val.toArray⟩,.bool u.gone] 53 (0,0)):=zGu w _;generalize Grown k t S us [u] d x0 x1 x2 x3 x4 c w=J at*;clear h G y;have f:Hid (∀W n,zb w W->zb w (W.drewN n)):=λW n h=>⟨h.os,h.tape,h.output,h.size,h.block⟩;obtain rfl|⟨b,Y,B,rfl,q⟩:=N
 .obtain⟨v,s,A⟩:=u;dsimp only at*;cases A with
  |true=>
   go_enter (Qz.fn func223),ntmps223;go_upto_region 4 with(fail)
   have E:=(bC a 2).trans rfl;clear a;generalize(w.alloc (aJ #[aL ⟨v.toArray⟩,aL ⟨s.toArray⟩,.bool aF] 53))=i at*;go_quiet (fail);go_wp2;exact K.out (by first|trivial|rfl) _ (f.out _ _ H.out)
  |false=>
   go_enter (Qz.fn func223),ntmps223;go_upto_region 4 with(fail)
   have I:=(bC a 0).trans rfl;have F:=(bC a 1).trans rfl;have E:=(bC a 2).trans rfl;clear a;generalize(w.alloc (aJ #[aL ⟨v.toArray⟩,aL ⟨s.toArray⟩,.bool aG] 53))=i at*;go_quiet (fail);go_wp2_with fail;refine(L.out (by first|trivial|rfl) _ (f.out _ _ H.out)).mono ?_;rintro e l ⟨b,rfl,C⟩;go_wp2;exact C
 .have j:Hid (∀W,zb w W->aX W b aB aB u.idx ((us.headD ⟨[],[],aG⟩).val) Y B):=λW r=>⟨by rw[r.block b q.lt];exact q.at'⟩;generalize(us.headD ⟨[],[],aG⟩).val=Z at*;have Q:=q.lt;obtain⟨v,s,A⟩:=u;dsimp only at*;clear q;cases A with
  |true=>
   go_enter (Qz.fn func223),ntmps223;go_upto_region 4 with(fail)
   have I:=(bC a 0).trans rfl;have E:=(bC a 2).trans rfl;clear a;generalize(w.alloc (aJ #[aL ⟨v.toArray⟩,aL ⟨s.toArray⟩,.bool aF] 53))=i at*;have k2:=(j.out i H.out).c2;have m:Hid (∀n,Calls zq 227 #[ptr (aA b)] (i.drewN n) λe l=>e=aM (.bool aF)/\l=i.drewN n):=λn=>kW (j.out _ (f.out _ n H.out));go_quiet ((go_at_call 227;exact zGz (m.out _)));go_wp2;exact K.out (by first|trivial|rfl) _ (f.out _ _ H.out)
  |false=>
   go_enter (Qz.fn func223),ntmps223;go_upto_region 4 with(fail)
   have I:=(bC a 0).trans rfl;have F:=(bC a 1).trans rfl;have E:=(bC a 2).trans rfl;clear a;generalize(w.alloc (aJ #[aL ⟨v.toArray⟩,aL ⟨s.toArray⟩,.bool aG] 53))=i at*;have k2:=(j.out i H.out).c2;have m:Hid (∀n,Calls zq 227 #[ptr (aA b)] (i.drewN n) λe l=>e=aM (.bool aF)/\l=i.drewN n):=λn=>kW (j.out _ (f.out _ n H.out));go_quiet ((go_at_call 227;exact zGz (m.out _)));go_wp2_with fail;refine(L.out (by first|trivial|rfl) _ (f.out _ _ H.out)).mono ?_;rintro e l ⟨b,rfl,C⟩;go_wp2;exact C
end
section
variable {w W:zW}{t k d cap n m g o:Nat}{p z:Option Nat}{S:zP}{us:List bJ}{J:Ending->zW->Prop}
def RS (A:CS w S)(y:zb w W)(h:eL k W z us d)(D:∀b,z=aA b->S b):eL k w z us d:=by
 refine h.stay (λb z o i v g x l j c e=> ?_) (λb z o i v g x l j=> ?_) D
 .obtain⟨q,s,u,r,C,a,f,_,B⟩:=A b l;have E:aX W b q s u r C a:=⟨by rw[y.block b f.lt];exact f.at'⟩;obtain⟨rfl,rfl,_⟩:=eC j E;exact B c e
 .obtain⟨q,s,u,r,C,a,f,_,B⟩:=A b l;exact⟨x,⟨by rw[<-y.block b f.lt];exact j.at'⟩⟩
def Cv (w:zW)(p:Option Nat)(n:Nat)(I:zB):Prop:=
 2<=n\/(n=1/\∃b z o i v g h,p=aA b/\aX w b z o i v g h/\((z.isNone&&o.isNone)=aG\/(z=aB/\o=aB/\i≠I)))
def Gl {Ha:zY->zY->Prop}{M1:zR}{M2:zY->zR}{x D:zB}{E}
  {vb Y cb} (G:(cap=m/\Y=0/\cb=0/\vb=aA ⟨g,o,aB⟩)\/(cap≠m/\Y=n-m/\cb=cap-m/\vb=aA ⟨g,o+m*3,aB⟩)) (hd:d<256) (hn:n<=1000000) (hm:m<=n) (eF:n<=cap) (hN:Cv w p n x) (hg:g<w.heap.size) (c0:w.cell? ⟨g,o,aB⟩=aA (aL ⟨x.toArray⟩)) (c1:w.cell? ⟨g,o+1,aB⟩=aA (aL ⟨D.toArray⟩)) (c2:w.cell? ⟨g,o+2,aB⟩=aA (.bool E))
  (hP:∀W,zb w W->Calls zq 230 #[ptr p,aC aD d] W λe w'=>∃z o,e=aM (.tuple #[z,o])/\zb w w'/\Ha z o)
  (hQ:∀W,zb w W->Calls zq 231 #[aK (aA ⟨g,o,aB⟩) n cap,aC aD d] W λe w'=>e=aM (aC aD (m))/\zb w w')
  (hZ:∀z R,Ha z R->∀W,zb w W->Calls zq 223 #[aO (aA ⟨t,0,aB⟩),z,aC aD ((d)+1),aK (aA ⟨g,o,aB⟩) m cap] W λe w'=>∃p0,e=aM p0/\M1 p0 w')
  (hO:∀z R,Ha z R->∀p0 W,M1 p0 W->Calls zq 223 #[aO (aA ⟨t,0,aB⟩),R,aC aD ((d)+1),aK vb Y cb] W λe w'=>∃A,e=aM A/\M2 p0 A w')
  (hJ:∀p0 A W,M2 p0 A W->Calls zq 232 #[aO (aA ⟨t,0,aB⟩),p0,A] W λe w'=>∃p',e=aM p'/\J (aM p') w'):
  Calls zq 223 #[aO (aA ⟨t,0,aB⟩),ptr p,aC aD d,aK (aA ⟨g,o,aB⟩) n cap] w J:=by
 have U:=hid hP;have T:=hid hQ;have HZ:=hid hZ;have HO:=hid hO;have HJ:=hid hJ;have H:Hid (zb w (w.alloc (aJ #[aL ⟨x.toArray⟩,aL ⟨D.toArray⟩,.bool E] 53))):=(zGo _ w).alloc (zAb _) _;have Z:(w.alloc (aJ #[aL ⟨x.toArray⟩,aL ⟨D.toArray⟩,.bool E] 53)).heap[w.heap.size]? =aA (aJ #[aL ⟨x.toArray⟩,aL ⟨D.toArray⟩,.bool E] 53 (0,0)):=zGu w _;have j:Hid (∀W n,zb w W->zb w (W.drewN n)):=λW n h=>⟨h.os,h.tape,h.output,h.size,h.block⟩;have s:Hid (∀W,zb w W->zb w W.drew):=λW h=>h.drew;have vf:IntKind.i64.wrap ((d:Int)+1)=(d:Int)+1:=by rw[zGt];omega
 have kk:¬((m:Int)<0):=by omega
 have hm1:(m:Int)<=(n:Int):=by omega
 have ps:(m:Int)<=(cap:Int):=by omega
 have wh:(0:Int)<(n:Int):=by obtain h|⟨h,_⟩:=hN<;>omega
 have H3:∃(B:Prop),(2<=n/\B=True)\/(n=1/\∃b i v,∃q:Bool,p=aA b/\(∀W,zb w W->Calls zq 227 #[ptr p] W λe w'=>e=aM (.bool q)/\w'=W)/\(∀W,zb w W->W.cell? ⟨b,2,aB⟩=aA (aL ⟨(i:zB).toArray⟩))/\(q=aG\/(q=aF/\(i==x)=aG))/\v=b):=by
  refine⟨True,?_⟩;obtain h|⟨h,b,z,o1,i,v,gg,hs,rfl,hc,F⟩:=hN;{exact aH ⟨h,rfl⟩}
  .have hC:∀W,zb w W->aX W b z o1 i v gg hs:=λW N=>⟨by rw[N.block b hc.lt];exact hc.at'⟩;refine aI ⟨h,b,i,b,z.isNone&&o1.isNone,rfl,λW N=>kW (hC W N),λW N=>(hC W N).c2,?_,rfl⟩;obtain F|⟨rfl,rfl,F⟩:=F
   .exact aH F
   .exact aI ⟨rfl,zDb.2 F⟩
 obtain⟨B,H3⟩:=H3;obtain⟨h,-⟩|⟨rfl,b,i,v,q,rfl,K,L,hq,-⟩:=H3
 .have pf:=zBv (by omega);have aA5:decide (n=1)=aG:=zBv (by omega);have aA4:((n:Int)==1)=aG:=zDb.2 (by omega);have aA3:(n==1)=aG:=zDb.2 (by omega);obtain⟨rfl,rfl,rfl,rfl⟩|⟨hcm,rfl,rfl,rfl⟩:=G;all_goals
   go_enter (Qz.fn func223),ntmps223
   go_upto_region 4 with(fail)
   clear Z c0 c1 c2
   generalize(w.alloc (aJ #[aL ⟨x.toArray⟩,aL ⟨D.toArray⟩,.bool E] 53))=u at*
   go_quiet (fail)
   have f:=j.out u nq H.out
   generalize u.drewN nq=V at*
   have l:=hid f
   clear f H j
   go_wp2_with fail
   refine(U.out V l.out).mono ?_
   rintro e w2 ⟨z,X,rfl,c,M⟩
   have Q:=hid M
   have r:=hid c
   clear c M U l
   go_wp2_with fail
   refine(T.out w2 r.out).mono ?_
   rintro e w3 ⟨rfl,a⟩
   have C:Hid (zb w w3.drew):=s.out _ a
   clear a T r s
   go_upto_region 10 with(fail)
   go_region_with (first
    |(go_at_call_of 223 z;refine(HZ.out _ _ Q.out _ C.out).mono ?_;rintro e w4 ⟨p0,rfl,m1⟩;dsimp only)
    |(go_at_call_of 223 X;refine(HO.out _ _ Q.out _ _ m1).mono ?_;rintro e w5 ⟨A,rfl,m2⟩;dsimp only)
    |(go_at_call 232;refine(HJ.out _ _ _ m2).mono ?_;rintro e w6 ⟨p2,rfl,I⟩;dsimp only))
   all_goals go_wp2
   all_goals first|exact I|(go_ret;exact I)
 .have O:=hid K;have P:=hid L;clear K L;obtain rfl|⟨rfl,hi⟩:=hq;all_goals obtain⟨rfl,rfl,rfl,rfl⟩|⟨hcm,rfl,rfl,rfl⟩:=G
  all_goals
   go_enter (Qz.fn func223),ntmps223
   go_upto_region 4 with(fail)
   have e0:=(bC Z 0).trans rfl
   clear Z c0 c1 c2
   generalize(w.alloc (aJ #[aL ⟨x.toArray⟩,aL ⟨D.toArray⟩,.bool E] 53))=u at*
   have k2:=P.out u H.out
   have y:Hid (∀n,Calls zq 227 #[ptr (aA b)] (u.drewN n) λe w'=>e=aM (.bool _)/\w'=u.drewN n):=λn=>O.out _ (j.out _ n H.out)
   clear O P
   go_quiet ((go_at_call 227;exact zGz (y.out _)))
   clear y k2 e0
   have f:=j.out u nq H.out
   generalize u.drewN nq=V at*
   have l:=hid f
   clear f H j
   go_wp2_with fail
   refine(U.out V l.out).mono ?_
   rintro e w2 ⟨z,X,rfl,c,M⟩
   have Q:=hid M
   have r:=hid c
   clear c M U l
   go_wp2_with fail
   refine(T.out w2 r.out).mono ?_
   rintro e w3 ⟨rfl,a⟩
   have C:Hid (zb w w3.drew):=s.out _ a
   clear a T r s
   go_upto_region 10 with(fail)
   go_region_with (first
    |(go_at_call_of 223 z;refine(HZ.out _ _ Q.out _ C.out).mono ?_;rintro e w4 ⟨p0,rfl,m1⟩;dsimp only)
    |(go_at_call_of 223 X;refine(HO.out _ _ Q.out _ _ m1).mono ?_;rintro e w5 ⟨A,rfl,m2⟩;dsimp only)
    |(go_at_call 232;refine(HJ.out _ _ _ m2).mono ?_;rintro e w6 ⟨p2,rfl,I⟩;dsimp only))
   all_goals go_wp2
   all_goals first|exact I|(go_ret;exact I)
end
section
variable {k t:Nat}{x0 x1 x2 x3 x4:zY}
def Lm {S p us cs u d c w}(h:jV k t S p us (u::cs) d x0 x1 x2 x3 x4 c w)(i:∀v,u::cs=[v]->us≠[]/\∀x,us=[x]->x.idx≠v.idx):Cv w p (u::cs).length u.idx:=by
 cases cs with
 |cons v cs=>exact aH (by simp)
 |nil=>
  obtain⟨l,j⟩:=i u rfl;refine aI ⟨rfl,?_⟩;cases h.rep with
  |nil=>exact absurd rfl l
  |leaf a=>exact⟨_,_,_,_,_,_,_,rfl,a,aI ⟨rfl,rfl,j _ rfl⟩⟩
  | @node b _ _ z o m g2 _ a f g=>
   refine⟨_,_,_,_,_,_,_,rfl,a,aH ?_⟩;have hl:=sX us d;have e:=f.iA;have n:=g.iA;cases z with
   |some _=>rfl
   |none=>
    cases o with
    |some _=>rfl
    |none=>rw[e.1 rfl,n.1 rfl]at hl;simp at hl;omega
def Ms:∀(f){d cap us cs p S c w I},256-d=f->d<=256->jV k t S p us cs d x0 x1 x2 x3 x4 c w->eT w I cs->(∀a,I=aA a->a.block≠t)->cs.length<=1000000->cs.length<=cap->
  Calls zq 223 #[aO (aA ⟨t,0,aB⟩),ptr p,aC aD d,aK I cs.length cap] w (Grown k t S us cs d x0 x1 x2 x3 x4 c w):=by
 intro f;induction f with
 |zero=>
  intro d cap us cs p S c w I hf hd h y T hl l;match cs,h,y,hl,l with
  |[],h,_,_,_=>exact TQ h
  |u::cs,h,y,_,_=>
   by_cases j:cs=[]/\(us=[]\/∃x,us=[x]/\x.idx=u.idx);{obtain⟨rfl,hu⟩:=j;exact TP h hu y}
   .exfalso;have:=h.deep hd (by simp) λv e=>by
     injection e with H O;subst H;exact⟨λe=>j ⟨O,aH e⟩,λx ex C=>j ⟨O,aI ⟨x,ex,C⟩⟩⟩
    omega
 |succ f ih=>
  intro d cap us cs p S c w I hf hd h y T hl l;match cs,h,y,hl,l with
  |[],h,_,_,_=>exact TQ h
  |u::cs,h,y,hl,l=>
   by_cases j:cs=[]/\(us=[]\/∃x,us=[x]/\x.idx=u.idx);{obtain⟨rfl,hu⟩:=j;exact TP h hu y}
   .have B:∀v,u::cs=[v]->us≠[]/\∀x,us=[x]->x.idx≠v.idx:=λv e=>by
     injection e with H O;subst H;exact⟨λe=>j ⟨O,aH e⟩,λx ex C=>j ⟨O,aI ⟨x,ex,C⟩⟩⟩
    have U:0<(u::cs).length:=by{simp};have n:=h.deep hd U B;have hN:=Lm h B;obtain⟨g,o,rfl,hg,c0,c1,c2⟩:=UE y;have xc:=T _ rfl;have hSC:Sub (u::cs) d:=⟨h.Xi,λx C=>(h.Xl x C).1,λa ha b hb i hi=>h.bits a (zAh.2 (aI ha)) b (zAh.2 (aI hb)) i hi⟩;obtain⟨m,hcut,e0,H⟩:=hSC.cut;have hmn:=hcut.le;have l0:(bL d 0 (u::cs)).length=m:=by{rw[<-e0,zBf];omega};have l1:(bL d 1 (u::cs)).length=(u::cs).length-m:=by{rw[<-H,zCn]};have s:(((d+1:Nat)):Int)=(d:Int)+1:=by omega
    obtain⟨Q,R,V,r⟩:∃Q R V,(cap=m/\R=0/\V=0/\Q=aA (⟨g,o,aB⟩:Addr))\/(cap≠m/\R=(u::cs).length-m/\V=cap-m/\Q=aA (⟨g,o+m*3,aB⟩:Addr)):=by by_cases e:cap=m;{exact⟨_,_,_,aH ⟨e,rfl,rfl,rfl⟩⟩};{exact⟨_,_,_,aI ⟨e,rfl,rfl,rfl⟩⟩}
    refine Gl (Ha:=λX Y=>∃z o,X=ptr z/\Y=ptr o/\rD k w us d z o/\(∀b,z=aA b->S b)/\∀b,o=aA b->S b) (M1:=λv W=>∃p0,v=ptr p0/\tl k t S us (u::cs) d x0 x1 x2 x3 x4 c w p0 W) (M2:=λv v' W=>∃p0 L,v=ptr p0/\v'=ptr L/\Zf k t S us (u::cs) d x0 x1 x2 x3 x4 c w p0 L W) r n hl hmn l hN hg c0 c1 c2 (λW q=> ?_) (λW q=> ?_) (λX Y F W q=> ?_) (λX Y F v0 W hM=> ?_) (λv0 v1 W hM=> ?_)
    .have F:Hl t w W:=Hl.below q (zAb _);refine(SB (h.rep.hl h.k1 h.k2 F) n h.BS (h.cells.hl F) h.ve).mono λe P A=> ?_;obtain⟨z,Z,D,hw,G,J,K⟩:=A;refine⟨_,_,D,?_,z,Z,rfl,rfl,⟨RS h.cells q G.z J,RS h.cells q G.o K⟩,J,K⟩;obtain rfl|rfl:=hw
     .exact q
     .exact q.drew
    .exact(SA (y.below q (zAb _)) hl (λx C=>(h.Xl x C).1) n hcut).mono λe P A=>⟨A.1,q.trans (A.2.mono q.size)⟩
    .obtain⟨z,Z,rfl,rfl,G,J,K⟩:=F;have hE0:eT W (aA ⟨g,o,aB⟩) (bL d 0 (u::cs)):=by{rw[<-e0];exact(y.below q (zAb _)).part m};have:=ih (cap:=cap) (by omega) (by omega) (ZW h U n q G J) hE0 T (by omega) (by omega);rw[l0,s]at this;refine this.mono λe P A=> ?_;obtain⟨p0,D,E⟩:=Xo h q A;exact⟨_,D,p0,rfl,E⟩
    .obtain⟨z,Z,rfl,rfl,G,J,K⟩:=F;obtain⟨p0,rfl,E⟩:=hM;obtain⟨S0,c0',N,M⟩:=Hu h U n G K E;have wx:Hl t w W:=by obtain⟨_,_,_,_,_,hG,_⟩:=E;exact hG.hl
     have si:eT W Q (bL d 1 (u::cs)):=by rw[<-H];refine(y.hl wx T).rest m λbT=> ?_;obtain⟨hv,_,_,_⟩|⟨_,_,_,rfl⟩:=r;{omega};{rw[zBi,addr_add]}
     have:=ih (cap:=V) (by omega) (by omega) N si (λa ha=>by
      obtain⟨_,_,_,rfl⟩|⟨_,_,_,rfl⟩:=r<;>(cases ha;exact xc)) (by omega) (by
      obtain⟨hv,_,rfl,_⟩|⟨_,_,rfl,_⟩:=r<;>omega)
     have hlb:(u::cs).length-m=R:=by obtain⟨hv,rfl,_,_⟩|⟨_,rfl,_,_⟩:=r<;>omega
     rw[l1,hlb,s]at this;refine this.mono λe P A=> ?_;obtain⟨L,D,ps⟩:=M _ _ A;exact⟨_,D,p0,L,rfl,rfl,ps⟩
    .obtain⟨p0,L,rfl,rfl,E⟩:=hM;refine(YM h U n E).mono λe P A=> ?_;obtain⟨p',D,hG⟩:=A;exact⟨_,D,hG⟩
end
def cH.Tz {w base v l}(h:cH w base v l):∃d c,v=aK d l.length c/\l.length<=c/\eT w d l:=by
 obtain⟨rfl,i⟩|⟨g,cap,cur,rfl,hb,e,h1,o,m,f⟩:=h.2
 .exact⟨aB,0,by rw[i],by omega,λh=>by omega⟩
 .refine⟨aA ⟨g,0,aB⟩,cap,rfl,h1,λ_=>⟨g,0,rfl,(zAa.1 e).1,λj u a=> ?_⟩⟩;rw[zBd,cell_of_row w g j cur 53 (0,0) e];rw[<-f,zCp]at a;split at a
  .rw[<-zBs];exact a
  .cases a
structure Gw (k t b cap n:Nat)(C:zP)(cur:zA)(R x4 c:Int)(NX:List bJ)(S:List (List bJ))(rows:List (Nat×ByteArray))(lo hi:Nat)(p:Option Nat)(l:List (Option Nat))(q:Option Nat)(w W:zW):Prop where
 mem:iG k t b cap n C cur R x4 c W
 rep:cO k W p NX 0 lo hi rows
 Ip:∀b,p=aA b->C b
 hl:Hl t w W
 Wq:PQ k W cur S
 Qi:tT t W C l q
structure Gd (k t b cap n:Nat)(C:zP)(cur:zA)(R x4 c:Int)(NX:List bJ)(S:List (List bJ))(p:Option Nat)(l:List (Option Nat))(b0:Nat)(w W:zW):Prop where
 mem:iG k t b cap n C cur R x4 c W
 rep:eL k W p NX 0
 Ip:∀b,p=aA b->C b
 save:dJ (iW w t b0) w W
 Wq:PQ k W cur S
 Qi:tT t W C l aB
section
variable {k t b cap n lo hi room:Nat}{C C':zP}{cur:zA}{R x4 c c':Int}{NX last cs:List bJ}{S:List (List bJ)}{rows:List (Nat×ByteArray)}{p q q':Option Nat}{l l' tp:List (Option Nat)}{w W W':zW}
def Gw.next (e:1<=k)(d:k<=32)(g:zq.globals.size<t)(h:Gw k t b cap n C cur R x4 c NX S rows lo hi p l q w W)(a:Hl t W W')(i:cG W' t (aC aD k) (aC aD R) (aL ⟨(dg k [0]).toArray⟩) (aK (aA ⟨b,0,aB⟩) n cap) (aC aD x4) c')(f:tT t W' C l' q'):Gw k t b cap n C cur R x4 c' NX S rows lo hi p l' q' w W':=
 ⟨h.mem.hl a g i (h.mem.cs.hl a),h.rep.hl e d a,h.Ip,h.hl.trans a,h.Wq.hl e d a,f⟩
def Gw.below (f:1<=k)(e:k<=32)(d:zq.globals.size<t)(h:Gw k t b cap n C cur R x4 c NX S rows lo hi p l q w W)(a:zb W W'):Gw k t b cap n C cur R x4 c NX S rows lo hi p l q w W':=
 h.next f e d (.below a (zAb _)) (h.mem.tr.below a (zAb _)) (h.Qi.below a (zAb _))
def Gd.next {d:Nat}(f:1<=k)(e:k<=32)(i:zq.globals.size<t)(h:Gd k t b cap n C cur R x4 c NX S p l d w W)(a:Hl t W W')(j:cG W' t (aC aD k) (aC aD R) (aL ⟨(dg k [0]).toArray⟩) (aK (aA ⟨b,0,aB⟩) n cap) (aC aD x4) c')(g:tT t W' C l' aB):Gd k t b cap n C cur R x4 c' NX S p l' d w W':=
 ⟨h.mem.hl a i j (h.mem.cs.hl a),h.rep.hl f e a,h.Ip,h.save.step (b':=d) (.hl a) (aH rfl),h.Wq.hl f e a,g⟩
def Gd.below {d:Nat}(g:1<=k)(f:k<=32)(e:zq.globals.size<t)(h:Gd k t b cap n C cur R x4 c NX S p l d w W)(a:zb W W'):Gd k t b cap n C cur R x4 c NX S p l d w W':=
 h.next g f e (.below a (zAb _)) (h.mem.tr.below a (zAb _)) (h.Qi.below a (zAb _))
def CS.or {A B:zP}(r:CS w A)(m:CS w B):CS w λx=>A x\/B x:=λx h=>by
 obtain h|h:=h
 .obtain⟨z,o,i,v,g,a,j,f,d⟩:=r x h;exact⟨z,o,i,v,g,a,j,f,λc e=>aH (d c e)⟩
 .obtain⟨z,o,i,v,g,a,j,f,d⟩:=m x h;exact⟨z,o,i,v,g,a,j,f,λc e=>aI (d c e)⟩
def gf (y:1<=k)(m:k<=32)(O:zq.globals.size<t)(Q:iG k t b cap n C cur R x4 c w)(J:PQ k w cur S)(X:eL k w q last 0)(V:tT t w C tp aB)(Y:q∈tp)(d:GY last)(G:∀u∈cs,u.idx.length=32/\u.val.length<=100)(D:lD cs)(hl:cs.length<=1000)(H:c+jJ (bF (bE last cs)) (bF last) 0<=1000000000)
  (I:zb w W) {v:zY} (P:cH W w.heap.size v (jW last cs)):
  Calls zq 223 #[aO (aA ⟨t,0,aB⟩),ptr q,aC aD 0,v] W λe W'=>∃M p rows C' hi,e=aM M/\M=ptr p/\Gw k t b cap n C' cur R x4 (c+rows.length) (bE last cs) S rows W.heap.size hi p tp p w W'/\rows.length<=jJ (bF (bE last cs)) (bF last) 0/\∀x,C x->C' x:=by
 obtain⟨U,cv,rfl,F,hE⟩:=P.Tz;have g:=Q.below I (zAb _) O;have K:Hl t w W:= .below I (zAb _);have f:=By cs d.sub.order d.here D;have r:∀u∈jW last cs,u∈cs:=λu B=>(zAx.1 B).1;obtain⟨L,o,v2,v3,_⟩:=V.below I (zAb _);have Z:=o.len g.tr;have s:jV k t (λx=>x∈L.map (·.1)) q last (jW last cs) 0 (aC aD k) (aC aD R) (aL ⟨(dg k [0]).toArray⟩) (aK (aA ⟨b,0,aB⟩) n cap) (aC aD x4) c W:=
  ⟨y,m,X.hl y m K,d.sub.order,D.filter _,d.here,d.sub.idx,λu B=>G u (r u B),λa _ b _ i hi=>absurd hi (Nat.not_lt_zero _),by rw[f];exact Nu D,o.inv.cs,o.inv.Yy Y,g.tr,by omega,by rw[f];exact H⟩
 have A:∀a,U=aA a->a.block≠t:=λa ha e=>by subst ha;have:=P.lt a.block rfl;have:=Q.tr.lt;omega
 have hlen:(jW last cs).length<=cs.length:=zFo ..;refine(Ms 256 rfl (zBu _) s hE A (by omega) F).mono ?_;rintro e W' ⟨p,rows,C',rfl,g1,g2,g3,g4,g5⟩;rw[f]at g1 g5;obtain⟨N,j⟩:=g2.inv _ L o;have E:N.length=rows.length:=by have:=j.len g4;rw[zAc]at this;omega
 rw[gP]at v2;have hP:=Es j v2 g1 (λk m=>by obtain⟨_,_,_,hc,_⟩:=o.inv.cell k m;exact hc.lt) g2.cs g3 E;have T:rG p (N++L):=λb e=>j.mem b (g3 b e);exact⟨_,p,rows,λx=>C x\/x∈(N++L).map (·.1),W'.heap.size,rfl,rfl,⟨g.hl g2.hl O g4 ((g.cs.hl g2.hl).or j.inv.cs),g1,λb e=>aI (T b e),K.trans g2.hl,(J.hl y m K).hl y m g2.hl,N++L,⟨j.PN,j.inv,λ_ h=>h,j.num⟩,hP,λx z=>aI z,T⟩,g5,λx z=>aH z⟩
def Gw.hold (g:1<=k)(d:k<=32)(a:zq.globals.size<t)(hl:l.length<=1000000)(f:c<=1000000000)(h:Gw k t b cap n C cur R x4 c NX S rows lo hi p l p w W):Calls zq 222 #[ptr p] W λe W'=>e=aM (ptr p)/\Gw k t b cap n C cur R x4 c NX S rows lo hi p (p::l) aB w W':=
 (xI (h.mem.cs.cells h.Ip) h.mem.tr).mono λ_ _ ⟨e,g1,g2,_,g4⟩=>⟨e,h.next g d a g1 g2 (h.Qi.hold (aH rfl) hl h.mem.tr g2 f g4)⟩
def Gd.hold {a:Nat}(j:1<=k)(g:k<=32)(d:zq.globals.size<t)(hl:l.length<=1000000)(i:c<=1000000000)(f:p∈l)(h:Gd k t b cap n C cur R x4 c NX S p l a w W):Calls zq 222 #[ptr p] W λe W'=>e=aM (ptr p)/\Gd k t b cap n C cur R x4 c NX S p (p::l) a w W':=
 (xI (h.mem.cs.cells h.Ip) h.mem.tr).mono λ_ _ ⟨e,g1,g2,_,g4⟩=>⟨e,h.next j g d g1 g2 (h.Qi.hold (aI ⟨rfl,f⟩) hl h.mem.tr g2 i g4)⟩
def Gw.work (G:1<=k)(E:k<=32)(B:zq.globals.size<t)(m:zq.globals.size<b)(A:CS w C')(j:∀x,C' x->C x)(f:∀x∈cur.toList,mQ C' x)(K:w.heap.size<=lo)(I:∀u∈NX,u.idx.length=32/\u.val.length<=100)(r:rows.length<=1000000)(h:Gw k t b cap n C cur R x4 c NX S rows lo hi p l aB w W):
  Calls zq 224 #[aO (aA ⟨t,0,aB⟩),ptr p] W λe W'=>(e=aM (.tuple #[])/\Gd k t b cap n C cur R x4 c NX S p l b w W')\/∃ch,e= .panicked ch/\Fl W'/\qA k t (Gx t b C) NX ch (cS W')/\Gw k t b cap n C cur R x4 c NX S rows lo hi p l aB w (cS W'):=by
 have g:∀x∈cur.toList,mQ C x:=λx d=>by obtain⟨p,e,J⟩:=f x d;exact⟨p,e,λb m=>j b (J b m)⟩
 have M:=h.mem.yh G E B m g;refine(PV M h.mem.sound h.rep (λb m=>aI (aI (aI (h.Ip b m)))) I r).mono ?_;rintro e W' (⟨rfl,g1,g2⟩|⟨ch,rfl,g0,g1,g2⟩)
 .left;have a:∀x∈rows,∃z o i v D,aX W x.1 z o i v [] D:=λx d=>(h.rep.each.1 x d).2.2;have s:CS W C':=A.hl h.hl;have F:=h.mem.Hc g2 B (λx d=>by obtain⟨z,o,i,v,D,L⟩:=a x d;exact⟨z,o,i,v,[],D,L⟩);refine⟨rfl,F,g1,h.Ip,(dJ.hl h.hl).step (b':=b) (.Hc g2 a) (aH rfl),h.Wq.kept s f (λx d=>g2.block x (s.cell d).lt λy H e=> ?_),h.Qi.Hc g2 (F.tr.c5.trans h.mem.tr.c5.symm)⟩;have O:=(h.rep.each.1 y H).1;have N:=(A.cell d).lt;omega
 .exact aI ⟨ch,rfl,g0,g1,h.below G E B g2⟩
def Gw.told {u:FrameMode}(F:1<=k)(d:k<=32)(E:zq.globals.size<t)(I:zq.globals.size<b)(f:∀x∈cur.toList,mQ C x)(G:∀u∈NX,u.idx.length=32/\u.val.length<=100)(H:c<=1000000000){ch:List PanicEntry}(r:Fl W)(J:qA k t (Gx t b C) NX ch (cS W))(h:Gw k t b cap n C cur R x4 c NX S rows lo hi p (p::l) aB w (cS W)):
  CallsD zq 219 #[aO (aA ⟨t,0,aB⟩),ptr p] u W λe D W'=>D=u/\e=aM (.tuple #[])/\kS ch W':=by
 have a:t≠0:=by omega
 obtain⟨L,B,_⟩:=h.Qi;have s:=B.len h.mem.tr;have o:=B.inv;rw[pU]at o;have m:∀k∈L,W.heap[k.1]? =(cS W).heap[k.1]? :=λk d=>by obtain⟨_,_,_,j,_⟩:=o.cell k d;exact(gV W _ (Ao r j)).symm
 have A:Inv t W L (more (heldBy l) p):=o.same (λk d i v g j=>⟨g,⟨by rw[m k d];exact j.at'⟩⟩) (λk d ⟨c,j⟩=>⟨c,by rw[m k d];exact j⟩) o.out o.nR;subst s;refine((TD (n:=0) p W L (heldBy l) _ _ _ _ _ A ((cG.un a).1 h.mem.tr) ⟨a,r⟩ (by omega)).2 u).mono ?_;rintro e D W' ⟨rfl,rfl,hH,M,K,_,y,_⟩;replace hH:=hH.un r a;have z:=h.mem.hl hH E ((cG.un a).2 y) (h.mem.cs.hl hH);exact⟨rfl,rfl,(J.hl F d hH h.mem.tr).gq (z.yh F d E I f) G⟩
def Gd.leave {R:Nat}{s cap:Nat}{u:FrameMode}(r:1<=k)(o:k<=32)(g:zq.globals.size<t)(y:zq.globals.size<b)(a:∀x∈cur.toList,mQ C x)(F:S.length<1000)(G:S.length+1<=cap)(A:cap<=maxLen)(z:cur.size=cap)(B:c+room<=R)(d3:R<=1000000)(f:cur.toList.take (S.length+1)=tp.map ptr++[ptr p])(st:∀us∈S++[NX],GY us/\us.length<=400)(h:Gd k t b cap (S.length+1) C cur R NX.length c NX (S++[NX]) p (p::p::tp) s w W):
  CallsD zq 219 #[aO (aA ⟨t,0,aB⟩),ptr p] u W λe j W'=>j=u/\e=aM (.tuple #[])/\cQ W' t k room b cap (S++[NX])/\dJ (iW w t s) w W'/\W'.cell? ⟨t,5,aB⟩=aA (aC aD c):=by
 refine((h.Qi.let (h.mem.fg g) (by omega) h.mem.tr (by omega)).2 u).mono ?_;rintro e j W' ⟨rfl,rfl,hH,c',d,m,E,D,v⟩;obtain rfl:=v zAy;have i:=h.next r o g hH d m;have hlen:(S++[NX]).length=S.length+1:=by rw[zAc];rfl
 refine⟨rfl,rfl,iG.GC (R:=R) (C:=C) (cur:=cur) (tp:=tp++[p]) ?_ a i.Wq (by omega) A z B d3 (by rw[hlen,f,zDk];rfl) (m.held (by rw[pU,Gj])) r o g y st (by omega) (by omega),i.save,d.c5⟩;rw[FJ,hlen];exact i.mem
end
section
variable {w:zW}{k:Nat}{p:Option Nat}{us cs:List bJ}
def Nt (us cs:List bJ)(t)(h:t<cs.length):jW us (cs.take (t+1))=jW us (cs.take t)++(if pJ us cs[t]then [cs[t]]else []):=by
 unfold jW;rw[zEl h,zDl];congr 1;cases e:pJ us cs[t]with
 |true=>rw[zAt e];rfl
 |false=>rw[zAn (by rw[e];exact aFi)];rfl
def Fj (us cs:List bJ)(t)(h:t<cs.length):fF us (cs.take (t+1))=fF us (cs.take t)+iP us cs[t]:=by unfold fF;rw[zEl h,zDk,List.sum_append];simp
def Lo (us)(u): -1<=iP us u/\iP us u<=1:=by unfold iP;cases eK (bF us) u.idx<;>cases u.gone<;>simp
def SR (us:List bJ):∀cs:List bJ,-(cs.length:Int)<=fF us cs/\fF us cs<=cs.length
 |[]=>by simp[fF]
 |u::cs=>by have a:=SR us cs;have h:=Lo us u;have e:fF us (u::cs)=iP us u+fF us cs:=rfl;rw[e,zAf];omega
def Gp (n:lD us){I e}(h:Ac w us I e):(e=aM (ptr aB)/\eK (bF us) I=aB)\/∃b i v g a,e=aM (ptr (aA b))/\aX w b aB aB i v g a/\eK (bF us) I=aA v:=by
 obtain⟨u,b,g,a,j,hi,c,m⟩|⟨c,l⟩:=h
 .exact aI ⟨b,_,_,g,a,c,m,xM (zCw.2 n) (by rw[<-hi];exact zBl.2 ⟨u,j,rfl⟩)⟩
 .refine aH ⟨c,eM λx f=> ?_⟩;obtain⟨y,d,rfl⟩:=zBl.1 f;exact l y d
end
section
variable {w:zW}{k:Nat}{p:Option Nat}{us cs:List bJ}
def JH {Z cap}(h:eL k w p us 0)(X:1<=k)(V:k<=32)(hU:lD us)(hE:eT w Z cs)(hi:∀u∈cs,u.idx.length=32)(hl:cs.length<=1000):
  Calls zq 221 #[ptr p,aK Z cs.length cap] w λe B=>∃v,e=aM (.tuple #[v,aC aD (fF us cs)])/\cH B w.heap.size v (jW us cs)/\zb w B:=by
 have HE:=hid hE;have HF:Hid (∀u∈cs,∀W,zb w W->Calls zq 228 #[ptr p,aL ⟨u.idx.toArray⟩] W λe B=>B=W/\((e=aM (ptr aB)/\eK (bF us) u.idx=aB)\/∃b v,e=aM (ptr (aA b))/\W.cell? ⟨b,3,aB⟩=aA (aL ⟨v.toArray⟩)/\eK (bF us) u.idx=aA v)):=λu N W hW=>by refine(Gs (h.keep X V λb z o i v g hs _ hc=>⟨hs,⟨by rw[hW.block b hc.lt];exact hc.at'⟩⟩) (hi u N)).mono λe B h'=>⟨h'.1,?_⟩;obtain⟨Q,C⟩|⟨b,i,v,g,hs,Q,C,h3⟩:=Gp hU h'.2;{exact aH ⟨Q,C⟩};{exact aI ⟨b,v,Q,C.c3,h3⟩}
 have HL:Hid (∀t,-(1000:Int)<=fF us (cs.take t)/\fF us (cs.take t)<=1000):=λt=>by have:=SR us (cs.take t);have C:(cs.take t).length<=cs.length:=by{rw[zBf];omega};omega
 obtain⟨n,U⟩:∃n,n=cs.length:=⟨_,rfl⟩;have S:=hid U;have HT:Hid (fF us (cs.take cs.length)=fF us cs/\jW us (cs.take cs.length)=jW us cs):=by rw[List.take_length];exact⟨rfl,rfl⟩
 rw[<-U]at hl⊢;clear U hE hi h hU;go_enter (Qz.fn func221),ntmps221;go_wp2;go_loopg [6,7,13] n (λq x y i wr=>∃t:Nat,t+q=n/\i=aC aD (t:Int)/\y=aC aD (fF us (cs.take t))/\zb w wr/\cH wr w.heap.size x (jW us (cs.take t)));case atStart=>exact⟨0,by omega,rfl,rfl,zGo _ _,cH.nil _ _⟩
 case round=>
  obtain⟨t,ht,rfl,rfl,b2,o2⟩:=hrel
  have K:=hid b2
  have R:=hid o2
  by_cases bT:t<n
  .have r:t<cs.length:=by have:=S.out;omega
   have N:=zAi r;have c:=hid (Nt us cs t r);have H:=hid (Fj us cs t r);have J:=HF.out cs[t] (zDo _);have E:(jW us (cs.take t)).length<=1000000:=by have Q:=zFo (pJ us) (cs.take t);have C:(cs.take t).length<=cs.length:=by{rw[zBf];omega};have h3:=S.out;show(List.filter _ _).length<=_;omega
   have HM0:=HL.out t;generalize cs[t]=u at*;obtain⟨d,f,I⟩:=u;dsimp only at*;generalize fF us (cs.take t)=M at*;generalize jW us (cs.take t)=L at*;have Y:=hid J;obtain⟨g,o,rfl,hg,c0,c1,c2⟩:=(HE.out.below K.out (zAb _)).idx t _ N;have Mo:¬((t:Int)<0):=by{omega};have Ve:(t:Int)<(n:Int):=by{omega};clear J HF N HL;have hw1:wrap64 (M+1)=M+1:=by{unfold wrap64;omega};have hw2:wrap64 (M-1)=M-1:=by{unfold wrap64;omega};go_upto_region 6 with(fail)
   have P:=zGu wr (aJ #[aL ⟨d.toArray⟩,aL ⟨f.toArray⟩,.bool I] 53);have G:Hid (zb w (wr.alloc (aJ #[aL ⟨d.toArray⟩,aL ⟨f.toArray⟩,.bool I] 53))):=K.out.alloc K.out.size _;have O:Hid (cH (wr.alloc (aJ #[aL ⟨d.toArray⟩,aL ⟨f.toArray⟩,.bool I] 53)) w.heap.size u6 L):=R.out.alloc _;have e0:=(bC P 0).trans rfl;have e1:=(bC P 1).trans rfl;have e2:=(bC P 2).trans rfl;clear P K R c0 c1 c2;generalize(wr.alloc (aJ #[aL ⟨d.toArray⟩,aL ⟨f.toArray⟩,.bool I] 53))=wa at*;have m:=G.out.size;have F:Hid (∀W n,zb w W->zb w (W.drewN n)):=λW n h=>⟨h.os,h.tape,h.output,h.size,h.block⟩;go_wp2_with fail;refine(Y.out wa G.out).mono ?_;rintro e w2 ⟨rfl,⟨rfl,a⟩|⟨b,v,rfl,k3,a⟩⟩
   .cases I with
    |true=>
     have A:Hid (fF us (cs.take (t+1))=M):=by{have:=H.out;rw[show iP us ⟨d,f,aF⟩=0 by unfold iP;dsimp only;rw[a];rfl]at this;exact this.trans (by omega)};have j:Hid (jW us (cs.take (t+1))=L):=by{have:=c.out;rw[show pJ us ⟨d,f,aF⟩=aG by unfold pJ;dsimp only;rw[a];rfl]at this;exact this.trans (by simp)};clear c H a;go_upto_region 11 with(fail)
     go_quiet (fail);go_wp2;go_roundg (n-(t+1));case measure=>omega
     case rel=>
      go_light
      exact⟨t+1,by omega,by go_num,by rw[A.out],F.out _ _ G.out,by rw[j.out];exact cH.kept O.out λ_ _=>rfl⟩
    |false=>
     have A:Hid (fF us (cs.take (t+1))=M+1):=by{have:=H.out;rw[show iP us ⟨d,f,aG⟩=1 by unfold iP;dsimp only;rw[a];rfl]at this;exact this};have j:Hid (jW us (cs.take (t+1))=L++[⟨d,f,aG⟩]):=by{have:=c.out;rw[show pJ us ⟨d,f,aG⟩=aF by unfold pJ;dsimp only;rw[a];rfl]at this;exact this};clear c H a;go_wp2_with (first|(at_builtin;refine gM rfl _ _ rfl w.heap.size _ _ rfl O.out ⟨d,f,aG⟩ 1 rfl E m ?_;intro g' D B l s));go_roundg (n-(t+1));case measure=>omega
     case rel=>
      go_light
      exact⟨t+1,by omega,by go_num,by rw[A.out],dT G.out O.out s (zAb _) m,by rw[j.out];exact l⟩
   .cases I with
    |true=>
     have A:Hid (fF us (cs.take (t+1))=M-1):=by{have:=H.out;rw[show iP us ⟨d,f,aF⟩= -1 by unfold iP;dsimp only;rw[a];rfl]at this;exact this.trans (by omega)};have j:Hid (jW us (cs.take (t+1))=L++[⟨d,f,aF⟩]):=by{have:=c.out;rw[show pJ us ⟨d,f,aF⟩=aF by unfold pJ;dsimp only;rw[a];rfl]at this;exact this.trans (by simp)};clear c H a;go_wp2_with (first|(at_builtin;refine gM rfl _ _ rfl w.heap.size _ _ rfl O.out ⟨d,f,aF⟩ 1 rfl E m ?_;intro g' D B l s));go_roundg (n-(t+1));case measure=>omega
     case rel=>
      go_light
      exact⟨t+1,by omega,by go_num,by rw[A.out],dT G.out O.out s (zAb _) m,by rw[j.out];exact l⟩
    |false=>
     by_cases T:v=f
     .subst T;have A:Hid (fF us (cs.take (t+1))=M):=by{have:=H.out;rw[show iP us ⟨d,v,aG⟩=0 by unfold iP;dsimp only;rw[a];rfl]at this;exact this.trans (by omega)};have j:Hid (jW us (cs.take (t+1))=L):=by{have:=c.out;rw[show pJ us ⟨d,v,aG⟩=aG by unfold pJ;dsimp only;rw[a];simp]at this;exact this.trans (by simp)};clear c H a;go_upto_region 11 with(fail)
      go_quiet (fail);go_wp2;go_roundg (n-(t+1));case measure=>omega
      case rel=>
       go_light
       exact⟨t+1,by omega,by go_num,by rw[A.out],F.out _ _ G.out,by rw[j.out];exact cH.kept O.out λ_ _=>rfl⟩
     .have Xx:=zDb.2 T;have A:Hid (fF us (cs.take (t+1))=M):=by{have:=H.out;rw[show iP us ⟨d,f,aG⟩=0 by unfold iP;dsimp only;rw[a];rfl]at this;exact this.trans (by omega)};have j:Hid (jW us (cs.take (t+1))=L++[⟨d,f,aG⟩]):=by{have:=c.out;rw[show pJ us ⟨d,f,aG⟩=aF by unfold pJ;dsimp only;rw[a];simpa using T]at this;exact this.trans (by simp)};clear c H a;go_upto_region 11 with(fail)
      go_quiet (fail);go_wp2_with (first|(at_builtin;refine gM rfl _ _ rfl w.heap.size _ _ rfl (cH.kept O.out λ_ _=>rfl) ⟨d,f,aG⟩ 1 rfl E m ?_;intro g' D B l s));go_roundg (n-(t+1));case measure=>omega
      case rel=>
       go_light
       exact⟨t+1,by omega,by go_num,by rw[A.out],dT (F.out _ _ G.out) (cH.kept O.out λ_ _=>rfl) s (zAb _) m,by rw[j.out];exact l⟩
  .have ee:¬(t:Int)<(n:Int):=by{omega};obtain rfl:t=n:=by{omega};have e1:fF us (cs.take t)=fF us cs:=by{have:=HT.out.1;rw[<-S.out]at this;exact this};have O3:Hid (cH wr w.heap.size u6 (jW us cs)):=by{have:=HT.out.2;rw[<-S.out]at this;have C:=R.out;rw[this]at C;exact C};rw[e1];clear R;go_wp2;go_ret2;exact⟨_,rfl,O3.out,K.out⟩
end
def cH.lower {w base a v l}(h:cH w base v l)(d:a<=base):cH w a v l:=by
 refine⟨h.1,?_⟩;obtain h|⟨g,c,cur,e,h1,r⟩:=h.2
 .exact aH h
 .exact aI ⟨g,c,cur,e,zBb d h1,r⟩
def iw (t r:Nat)(w w':zW):Prop:=∀N:Int,w.cell? ⟨t,5,aB⟩=aA (aC aD N)->w'.cell? ⟨t,5,aB⟩=aA (aC aD (N+r))
section
variable {w:zW}{t k room nw b cap:Nat}
def Ln (last cs:List bJ)(vc:zO)(cc:Nat)(S0:List (List bJ))(h:cQ w t k (room+nw+1) b cap (S0++[last]))(hl:(S0++[last]).length<1000)(hE:eT w vc cs)(y:∀u∈cs,u.idx.length=32/\u.val.length<=100)(ho:lD cs)(wy:cs.length<=1000)(h4:(bE last cs).length<=400)(hnw:jJ (bF (bE last cs)) (bF last) 0<=nw):
  Calls zq 215 #[aO (aA ⟨t,0,aB⟩),aK vc cs.length cc] w (RF λx Q=>x=aC aD 0/\∃U l,cQ Q t k room U l (S0++[last]++[bE last cs])/\(U=b\/w.heap.size<=U)/\dJ (iW w t b) w Q/\∃r,r<=jJ (bF (bE last cs)) (bF last) 0/\iw t r w Q):=by
 obtain⟨C,g,R,c,hM,fq,kr,g1,g2,g3,g4,g5,g6,s,Zz,Gi⟩:=h.mem;have Y:(S0++[last])[S0.length]? =aA last:=by rw[zBn (zAb _),zFn];rfl
 have L:=h.st last (by simp);obtain⟨p,oy,hr⟩:=kr S0.length last Y;have ep:p∈s:=by
  have h0:(s.map ptr)[S0.length]? =aA (ptr p):=by rw[<-Zz,zCp,zAz (by simp),zBs];exact oy
  rw[zDi]at h0;cases E:s[S0.length]? with
  |none=>rw[E]at h0;cases h0
  |some a=>rw[E]at h0;rw[<-NJ (zAk h0)];exact zDf E
 have aAF:s.length<=1000:=by have:=congrArg List.length Zz;rw[zBf,zCl]at this;omega
 have E:=h.k1;have Z:=h.k2;have X:=h.DJ;have hb:=h.OQ;have hn:(S0++[last]).length=S0.length+1:=by rw[zAc];rfl
 have kl:oN (S0++[last])=last:=FJ _ _;rw[kl]at hM;have Ye:GY (bE last cs):=L.1.cT y;have D:=SQ cs L.1.sub.order ho;have tu:Hid (∀us∈S0++[last]++[bE last cs],GY us/\us.length<=400):=λus hu=>by obtain hu|hu:=zAh.1 hu;{exact h.st us hu};{rw[zAm.1 hu];exact⟨Ye,h4⟩}
 have tn:Hid (∀u∈bE last cs,u.idx.length=32/\u.val.length<=100):=λu hu=>⟨Ye.sub.idx u hu,Ye.val u hu⟩;have hrR:(R:Int)<=1000000:=by omega
 have HF:Hid (∀W,zb w W->Calls zq 221 #[ptr p,aK vc cs.length cc] W λe Q=>∃v,e=aM (.tuple #[v,aC aD (fF last cs)])/\cH Q w.heap.size v (jW last cs)/\zb w Q):=λW hW=>
  (JH (hr.hl E Z (.below (t:=t) hW (zAb _))) E Z L.1.sub.order (hE.below hW (zAb _)) (λu hu=>(y u hu).1) wy).mono λe Q ⟨v,e1,e2,e3⟩=>⟨v,e1,e2.lower hW.size,hW.trans (e3.mono hW.size)⟩
 have HG:Hid (∀W v,zb w W->cH W w.heap.size v (jW last cs)->Calls zq 223 #[aO (aA ⟨t,0,aB⟩),ptr p,aC aD 0,v] W λe W'=>∃v' a rows z hi,e=aM v'/\v'=ptr a/\Gw k t b cap (S0++[last]).length z g R last.length (c+rows.length) (bE last cs) (S0++[last]) rows W.heap.size hi a s a w W'/\rows.length<=jJ (bF (bE last cs)) (bF last) 0/\∀x,C x->z x):=λW v hW hv=>
  gf E Z X hM kr hr Gi ep L.1 y ho wy (by omega) hW hv
 have HM:Hid (iG k t b cap (S0++[last]).length C g R last.length c w):=hM;have Zi:Hid (∀x∈g.toList,mQ C x):=fq;have c3:w.cell? ⟨t,3,aB⟩=aA (aK (aA ⟨b,0,aB⟩) (S0.length+1) cap):=by rw[<-hn];exact(bC hM.tr 3).trans rfl
 have d1:w.cell? ⟨b,S0.length,aB⟩=aA (ptr p):=by rw[bC hM.rW];exact oy
 have om:=hM.tr.lt;have fy:=h.blt;obtain⟨o,gb⟩:∃o,o=bE last cs:=⟨_,rfl⟩;obtain⟨S,xr⟩:∃S,S=S0++[last]:=⟨_,rfl⟩;rw[<-gb]at h4 D tu tn HG hnw⊢;rw[<-xr]at HM HG kr hn hl tu g1⊢;obtain⟨vp,od⟩:∃vp,vp=ptr p:=⟨_,rfl⟩;rw[<-od]at HF HG d1;have wj:=L.2;generalize hMU:fF last cs=M at HF D;generalize hEF:jW last cs=EF at HF HG;have N0:Hid (w.cell? ⟨t,5,aB⟩=aA (aC aD c)):=hM.tr.c5;have HTP:Hid (g.toList.take (S0.length+1)=s.map ptr):=by have:=Zz;rw[zAc]at this;exact this
 clear hE y ho Ye L hM fq kr hr ep Gi Zz oy Y kl h gb xr od hMU hEF;have wh:S0.length+1<1000:=by omega
 generalize S0.length=T at*;generalize aBa:last.length=B at*;generalize cs.length=nc at*;have Mo:¬((T:Int)<0):=by omega
 have Ve:(T:Int)<(T:Int)+1:=by omega
 have xw:IntKind.i64.wrap ((B:Int)+M)=(o.length:Int):=by rw[zGt];omega
 have xv:wrap64 ((B:Int)+M)=(o.length:Int):=by unfold wrap64;omega
 have hM3:¬((2000:Int)<(o.length:Int)):=by omega
 go_enter_defers (Qz.fn func215),ntmps215;go_upto_region 1 with(fail)
 have q0:=eZ c3 om;have q1:=eZ d1 fy;refine wp_region_quiet_below (by kernel_rfl) (by kernel_rfl) ?_;repeat (any_goals(first|go_big_quiet_step (fail)|quiet_step (fail)))
 refine wpQuiet_nil ?_;intro w1 oc;obtain⟨q,hq⟩:=oc;have B1:Hid (zb w w1):=by rw[hq];exact zGv w q.d q.os
 clear hq q0 q1 c3 d1;go_wp2_with fail;refine(HF.out w1 B1.out).mono ?_;rintro e w2 ⟨v2,rfl,xu,Qk⟩;have O2:Hid (cH w2 w.heap.size v2 EF):=xu;have B2:Hid (zb w w2):=Qk;clear xu Qk HF B1;have c4:w2.cell? ⟨t,4,aB⟩=aA (aC aD B):=by rw[B2.out.cell (p:=⟨t,4,aB⟩) om];exact(bC HM.out.tr 4).trans rfl
 dsimp only;go_wp2_with fail;refine(HG.out w2 v2 B2.out O2.out).mono ?_;rintro e w3 ⟨v3,a,rows,z,hi,rfl,vh,kn,hrl,Mn⟩;have zo:Hid (Gw k t b cap S.length z g R B (c+rows.length) o S rows w2.heap.size hi a s a w w3):=kn;have ir:Hid (∀x,C x->z x):=Mn;have H:Hid (v3=ptr a):=vh;have HH:Calls zq 222 #[v3] w3 λe W'=>e=aM v3/\Gw k t b cap S.length z g R B (c+rows.length) o S rows w2.heap.size hi a (a::s) aB w W':=by rw[H.out];exact zo.out.hold E Z X (by omega) (by omega)
 have nz:=B2.out.size;clear kn Mn vh c4 HG O2 B2;dsimp only;go_wp2_with fail;refine HH.mono ?_;clear HH zo;rintro e w4 ⟨rfl,fe⟩;have P:Hid (Gw k t b cap S.length z g R B (c+rows.length) o S rows w2.heap.size hi a (a::s) aB w w4):=fe;clear fe;dsimp only;go_upto_region 7 with(fail)
 have hle:¬((R:Int)<c+(rows.length:Int)):=by omega
 have q5:=eZ P.out.mem.tr.c5 P.out.mem.tr.lt;have q6:=eZ ((bC P.out.mem.tr 1).trans (rfl:_=aA (Value.int aD R))) P.out.mem.tr.lt;refine wp_region_quiet_below (by kernel_rfl) (by kernel_rfl) ?_;repeat (any_goals(first|go_big_quiet_step (fail)|quiet_step (fail)))
 refine wpQuiet_nil ?_;intro w5 oc;obtain⟨q,hq⟩:=oc;have zn:Hid (Gw k t b cap S.length z g R B (c+rows.length) o S rows w2.heap.size hi a (a::s) aB w w5):=P.out.below E Z X (by rw[hq];exact zGv w4 q.d q.os);clear hq q5 q6 P;have HW:Calls zq 224 #[aO (aA ⟨t,0,aB⟩),v3] w5 λe W'=>(e=aM (.tuple #[])/\Gd k t b cap S.length z g R B (c+rows.length) o S a (a::s) b w W')\/∃ch,e= .panicked ch/\Fl W'/\qA k t (Gx t b z) o ch (cS W')/\Gw k t b cap S.length z g R B (c+rows.length) o S rows w2.heap.size hi a (a::s) aB w (cS W'):=by rw[H.out];exact zn.out.work E Z X hb HM.out.cs ir.out Zi.out nz tn.out (by omega)
 have F:Hid (∀x∈g.toList,mQ z x):=λx J=>by obtain⟨p,e,hp⟩:=Zi.out x J;exact⟨p,e,λb hb=>ir.out b (hp b hb)⟩
 clear zn Zi HM;go_wp2_with fail;refine HW.mono ?_;clear HW;rintro e w6 (⟨rfl,xe⟩|⟨ch,rfl,qp,V,qn⟩);rotate_left
 .refine leaves_cons (f:=219) (args:= #[aO (aA ⟨t,0,aB⟩),v3]) (by simp) (by simp[go_sem]) ?_;rw[H.out];refine(qn.told E Z X hb F.out tn.out (by omega) qp V).mono ?_;rintro e u' w7 ⟨rfl,rfl,he⟩;show Leaves _ _ _ _ [] (settle (.panicking ch)) w7;rw[V.settle];exact .told he
 have ub:Hid (Gd k t b cap S.length z g R B (c+rows.length) o S a (a::s) b w w6):=xe;clear xe;have yx:Hid (Calls zq 222 #[v3] w6.drew λe W'=>e=aM v3/\Gd k t b cap S.length z g R B (c+rows.length) o S a (a::a::s) b w W'):=by rw[H.out];exact(ub.out.below E Z X (rB (zGo _ w6))).hold E Z X (by simp only[zAf];omega) (by omega) zAy
 have p3:w6.cell? ⟨t,3,aB⟩=aA (aK (aA ⟨b,0,aB⟩) (T+1) cap):=by rw[<-hn];exact(bC ub.out.mem.tr 3).trans rfl
 clear ub;dsimp only;go_upto_region 10 with(fail)
 have HS:(λQ:zW=>Q.cell? ⟨t,3,aB⟩=aA (aK (aA ⟨b,0,aB⟩) (T+1) cap)) w6.drew:=p3;refine wp_region_noPanic ?_;refine AnyX.rR (λQ=>Q.cell? ⟨t,3,aB⟩=aA (aK (aA ⟨b,0,aB⟩) (T+1) cap)) (λi=>i==8) (by kernel_rfl) ?_;refine AnyX.AL (i:=0) (v:=aO (aA ⟨t,0,aB⟩)) rfl (by kernel_rfl) (λ_ _ _ h=>h) (aH ⟨by rfl,λW=>by go_simp⟩) HS ?_;simp only[Act.put];refine AnyX.tk 1 (aO (aA ⟨t,0,aB⟩)) HS ?_;simp only[Act.put];refine AnyX.tk 2 (aO (aA ⟨t,0,aB⟩)) HS ?_;simp only[Act.put];refine AnyX.tk 3 (aO (aA ⟨t,3,aB⟩)) HS ?_;simp only[Act.put];refine AnyX.tk 4 (aK (aA ⟨b,0,aB⟩) (T+1) cap) HS ?_;simp only[Act.put];refine AnyX.tk 5 (v3) HS ?_;simp only[Act.put];refine AnyX.dA (i:=6) (by kernel_rfl) rfl (λK A=> ?_);go_simp;refine yx.out.mono ?_;rintro e w7 ⟨rfl,fj⟩;have lg:Hid (Gd k t b cap S.length z g R B (c+rows.length) o S a (a::a::s) b w w7):=fj;have p7:w7.cell? ⟨t,3,aB⟩=aA (aK (aA ⟨b,0,aB⟩) (T+1) cap):=by rw[<-hn];exact(bC lg.out.mem.tr 3).trans rfl
 have oi:=lg.out.mem.tr.lt;clear fj;dsimp only;refine A.out _ _ (λ_=>p7) ?_;clear A K HS yx;obtain⟨vq,hvq⟩:∃vq,v3= .pointer vq:=by
  rw[H.out];cases a with
  |none=>exact⟨_,rfl⟩
  |some x=>exact⟨_,rfl⟩
 subst hvq;refine AnyX.dA (i:=7) (by kernel_rfl) rfl (λK A=> ?_);go_simp;refine A.out _ _ (λ_=>by rw[World.cell?_alloc_lt _ _ _ oi];exact p7) ?_;clear A K;have G:Hid (Gd k t b cap S.length z g R B (c+rows.length) o S a (a::a::s) b w (w7.alloc (aJ #[.pointer vq] 264))):=lg.out.below E Z X ((zGo _ _).alloc (zAb _) _);obtain⟨U,l,W8,I,vt,qo,qz,t1,t2,t3,t4,t5,t6⟩:=De (n:=T+1) (p:=a) G.out.mem.rW (by rw[<-hn];exact g1) g2 g3 F.out (by omega) G.out.Ip (vb:=w7.heap.size) (by rw[<-H.out];exact zGu w7 _);refine AnyX.dA (i:=8) (by kernel_rfl) rfl (λK A=> ?_);refine jC rfl _ _ 166 166 rfl _ _ rfl rfl (vt _) ?_;refine A.out _ _ (λh=>AnyX.lR h (by kernel_rfl)) ?_;clear A K;have rn:=(qo.block t G.out.mem.tr.lt (λe=>by have e':=zAk e;have h2:=G.out.mem.tr;have h3:=G.out.mem.rW;unfold cG at h2;rw[<-e',h2]at h3;injection h3 with h3;injection h3 with _ h4;revert h4;decide)).trans G.out.mem.tr
 have a3:W8.cell? ⟨t,3,aB⟩=aA (aK (aA ⟨b,0,aB⟩) S.length cap):=(bC rn 3).trans rfl;have z3:W8.frozen? ⟨t,3,aB⟩=aG:=cR rn 3;clear rn;refine AnyX.dA (i:=9) (by kernel_rfl) rfl (λK A=> ?_);simp only[Act.put,zBr,zDg,zCy];go_simp;refine A.out _ _ (λh=>AnyX.lR h (by kernel_rfl)) ?_;clear A K;refine AnyX.dA (i:=10) (by kernel_rfl) rfl (λK A=> ?_);go_simp;refine A.out _ _ (λh=>AnyX.lR h (by kernel_rfl)) ?_;clear A K;refine AnyX.dA (i:=11) (by kernel_rfl) rfl (λK A=> ?_);go_simp;refine A.out _ _ (λh=>AnyX.lR h (by kernel_rfl)) ?_;clear A K;refine AnyX.rS (by kernel_rfl) ?_ _;simp only[NoPanic];have zk:Hid (U=b\/w.heap.size<=U):=qz.imp id λe=>by rw[e];exact G.out.save.size
 have qx:zq.globals.size<U:=by obtain e|e:=qz;{rw[e];exact hb};{rw[e];have:=G.out.mem.tr.lt;omega}
 obtain⟨rv,m,ef⟩:=G.out.mem.BO (cap':=l) (n':=T+1+1) X hb qo t1;have j:Hid (Gd k t U l (S.length+1) z I R B (c+rows.length) o (S++[o]) a (a::a::s) b w (W8.setCell ⟨t,3,aB⟩ (aK (aA ⟨U,0,aB⟩) (T+1+1) l))):=by have ej:=G.out.rep.kept G.out.mem.cs G.out.Ip λx J=>m x (G.out.mem.cs.cell J);refine⟨by rw[hn];exact rv,ej,G.out.Ip,G.out.save.step ef (aH rfl),Jg (p:=a) (cur:=g) (G.out.Wq.kept G.out.mem.cs F.out λx J=>m x (G.out.mem.cs.cell J)) (by omega) (by rw[hn];exact t6) ej,G.out.Qi.kept (λx J=>m x (G.out.mem.cs.cell J)) (rv.tr.c5.trans G.out.mem.tr.c5.symm)⟩
 generalize W8.setCell ⟨t,3,aB⟩ (aK (aA ⟨U,0,aB⟩) (T+1+1) l)=w9 at*;have Vq:Hid (∀x∈I.toList,mQ z x):=t5;have tq:Hid (I.toList.take (S.length+1)=s.map ptr++[ptr a]):=by show _=_;rw[hn,t6,HTP.out]
 clear vt qo qz t1 t5 t6 rv m ef a3 z3 G lg p7 p3;have c4:w9.cell? ⟨t,4,aB⟩=aA (aC aD B):=(bC j.out.mem.tr 4).trans rfl;have f4:w9.frozen? ⟨t,4,aB⟩=aG:=cR j.out.mem.tr 4;have aAE:=j.out.mem.tr.lt;obtain⟨ru,y,vm⟩:=j.out.mem.sized X (o.length:Int);have GDE:Hid (Gd k t U l (S.length+1) z I R o.length (c+rows.length) o (S++[o]) a (a::a::s) b w (w9.setCell ⟨t,4,aB⟩ (aC aD (o.length:Int)))):=⟨ru,j.out.rep.kept j.out.mem.cs j.out.Ip λx J=>y x (j.out.mem.cs.cell J),j.out.Ip,j.out.save.step vm zk.out,j.out.Wq.kept j.out.mem.cs Vq.out (λx J=>y x (j.out.mem.cs.cell J)),j.out.Qi.kept (λx J=>y x (j.out.mem.cs.cell J)) (ru.tr.c5.trans j.out.mem.tr.c5.symm)⟩;clear ru y vm j;go_wp2;refine leaves_cons (f:=219) (args:= #[aO (aA ⟨t,0,aB⟩),.pointer vq]) (by simp) (by simp[go_sem]) ?_;rw[H.out,<-D];refine(GDE.out.leave (room:=room) E Z X qx Vq.out (by omega) (by omega) t3 t4 (by omega) (by omega) tq.out tu.out).mono ?_;rintro e u' Q ⟨rfl,rfl,hE,hSv,hN⟩;exact⟨_,results_tmp rfl _ _ _,.of ⟨rfl,U,l,hE,zk.out,hSv,rows.length,hrl,λN O=>by rw[N0.out]at O;injection O with O;injection O with _ O;subst O;exact hN⟩⟩
end
def VL (k first n:Nat)(N:List bJ)(H:zLL)(a:zB):Prop:=∃h,H[n-1]? =aA h/\a=dg k (3::(h++eight (first+n)++mE k (bF N) 0))
section
variable {w:zW}{d k win first hb eF t room b cap:Nat}{S:List (List bJ)}{H:zLL}
def Hy (S0:List (List bJ))(last us:List bJ)(v:zY)(base:Nat){nw:Nat}(h:dO w d k win first hb eF t (room+1+nw+1) b cap (S0++[last]) H)(hU:cH w base v us)(sn:us.length<=200)(Y:∀u∈us,u.idx.length=32/\u.val.length<=100/\(u.gone=aF->u.val=[]))
  (hl:(S0++[last]).length<1000) (h4:(bE last (bW us)).length<=400) (Q:jJ (bF (bE last (bW us))) (bF last) 0<=nw) (hfi:first+2<=1000000) (aAs:1<=win) (aAt:win<=1000):
  Calls zq 19 #[aO (aA ⟨d,0,aB⟩),v] w (RF λx y=>x= .tuple #[aC aD ((first:Int)+((S0++[last]).length:Int)),aC aD 0]/\∃j f J q F,VL k first (S0++[last]).length (bE last (bW us)) H F/\dO y d k win (if win<(S0++[last]).length+1 then first+1 else first) j f t room J q (if win<(S0++[last]).length+1 then(S0++[last]++[bE last (bW us)]).drop 1 else S0++[last]++[bE last (bW us)]) (if win<(S0++[last]).length+1 then(H++[F]).drop 1 else H++[F])/\(j=hb\/w.heap.size<=j)/\(J=b\/w.heap.size<=J)/\dJ (kJ w d hb t b) w y/\(¬win<(S0++[last]).length+1->∃r,r<=jJ (bF (bE last (bW us))) (bF last) 0/\iw t r w y)):=by
 have Tl:us.all BS=aF:=zCb.2 λu hu=>by obtain⟨h1,h2,h3⟩:=Y u hu;unfold BS;cases hg:u.gone;{simp[h1,h2]};{simp[h1,h2,h3 hg]}
 obtain⟨n1,n2,n3,n4,n5⟩:=h.ne;have tw:=TK v us w (by omega) hU.mc (λu hu=>by have:=Y u hu;omega);rw[Tl]at tw;have yl:Hid (∀W,zb w W->Calls zq 39 #[v] W λe y=>∃v',e=aM v'/\cH y W.heap.size v' (bW us)/\zb W y):=λW hW=>NB (hU.below hW (zAb _)) (by omega);have vn:∀u∈bW us,u.idx.length=32/\u.val.length<=100:=λu hu=>by have:=Y u (qJ hu);exact⟨this.1,this.2.1⟩
 have hsl:(bW us).length<=1000:=by have:=wK us;omega
 have HE:Hid (dO w d k win first hb eF t (room+1+nw+1) b cap (S0++[last]) H):=h;have tv:Hid (lD (bW us)):=EE us;have HSM:Hid (∀u∈bW us,u.idx.length=32/\u.val.length<=100):=vn;have iu:Hid (jJ (bF (bE last (bW us))) (bF last) 0<=nw):=Q;have mN:∀W,(method (zq.types.size+100) 146 (aO (aA ⟨t,0,aB⟩)) "Next").run zq W= .ok (215,aO (aA ⟨t,0,aB⟩)) W:=λW=>reaches (by kernel_rfl) _ W;have mR:∀W,(method (zq.types.size+100) 146 (aO (aA ⟨t,0,aB⟩)) "Root").run zq W= .ok (217,aO (aA ⟨t,0,aB⟩)) W:=λW=>reaches (by kernel_rfl) _ W;obtain⟨va,vc,rfl,hvl,_⟩:=hU.Tz;clear h Y Tl Q vn hU;generalize bW us=ST at*;generalize Ye:bE last ST=s at*;have E:Hid (bE last ST=s):=Ye;clear Ye;obtain⟨S,Z⟩:∃S,S=S0++[last]:=⟨_,rfl⟩;have V:Hid (S=S0++[last]):=Z;obtain⟨n,hn⟩:∃n,n=S.length:=⟨_,rfl⟩;have HN:Hid (n=S.length):=hn;rw[<-Z,<-hn]at hl⊢;have pf:1<=n:=by rw[hn,Z];simp
 clear Z hn;obtain⟨F',sg⟩:∃F',F'=if win<n+1 then first+1 else first:=⟨_,rfl⟩
 obtain⟨S',rq⟩:∃S',S'=if win<n+1 then(S++[s]).drop 1 else S++[s]:=⟨_,rfl⟩
 have zc:Hid (F'=if win<n+1 then first+1 else first):=sg;have yn:Hid (S'=if win<n+1 then(S++[s]).drop 1 else S++[s]):=rq;rw[<-sg,<-rq];clear sg rq;go_enter (Qz.fn func19),ntmps19;go_wp2_with fail;refine tw.mono ?_;clear tw;rintro e w1 ⟨rfl,rb⟩;have B1:Hid (zb w w1):=rb;have D1:Hid (dO w1 d k win first hb eF t (room+1+nw+1) b cap (S0++[last]) H):=HE.out.below rb (zAb _);clear rb;dsimp only;have wu:¬((200:Int)<(us.length:Int)):=by omega
 go_upto_region 5 with(fail)
 have q4:w1.cell? ⟨d,4,aB⟩=aA (.iface 146 (aO (aA ⟨t,0,aB⟩))):=D1.out.cell 4;have l:(λy:zW=>y.cell? ⟨d,4,aB⟩=aA (.iface 146 (aO (aA ⟨t,0,aB⟩)))) w1.drew:=q4;refine AnyX.rR (λy=>y.cell? ⟨d,4,aB⟩=aA (.iface 146 (aO (aA ⟨t,0,aB⟩)))) (λ_=>aG) (by kernel_rfl) ?_;refine AnyX.tk 0 (aO (aA ⟨d,0,aB⟩)) l ?_;simp only[Act.put];refine AnyX.tk 1 (aO (aA ⟨d,0,aB⟩)) l ?_;simp only[Act.put];refine AnyX.tk 2 (aO (aA ⟨d,4,aB⟩)) l ?_;simp only[Act.put];refine AnyX.tk 3 (.iface 146 (aO (aA ⟨t,0,aB⟩))) l ?_;simp only[Act.put];refine AnyX.tk 4 (aK va us.length vc) l ?_;simp only[Act.put];refine AnyX.tk 6 (.iface 146 (aO (aA ⟨t,0,aB⟩))) l ?_;simp only[Act.put];refine AnyX.tk 7 (.iface 146 (aO (aA ⟨t,0,aB⟩))) l ?_;simp only[Act.put];refine AnyX.dA (i:=5) (by kernel_rfl) rfl (λK o=> ?_);go_simp;refine(yl.out _ (rB B1.out)).mono ?_;rintro e w2 ⟨v2,rfl,wc,Qk⟩;have z:Hid (zb w1 w2):=MQ Qk;have qq:w2.cell? ⟨d,4,aB⟩=aA (.iface 146 (aO (aA ⟨t,0,aB⟩))):=(D1.out.below z.out (zAb _)).cell 4;obtain⟨vs,cs,vg,hcs,kq⟩:=wc.Tz;subst vg;dsimp only;refine o.out _ _ (λ_=>qq) ?_;clear o K l;refine AnyX.dA (i:=8) (by kernel_rfl) rfl (λK o=> ?_);go_simp;refine(Ln last ST vs cs S0 (D1.out.below z.out (zAb _)).GC (by rw[<-V.out,<-HN.out];exact hl) kq HSM.out tv.out hsl (by rw[E.out];exact h4) (by rw[E.out];exact iu.out)).mono ?_;rintro e w3 (⟨_,rfl,rfl,J,q,yc,xp,U,r,jx,vv⟩|⟨c,rfl,he⟩);rotate_left
 .exact⟨rfl,.told he⟩
 have mw:w3.cell? ⟨d,4,aB⟩=aA (.iface 146 (aO (aA ⟨t,0,aB⟩))):=by rw[World.cell?_of_block (a:=⟨d,4,aB⟩) (U.block d (D1.out.below z.out (zAb _)).lt (D1.out.below z.out (zAb _)).two.1)];exact qq
 dsimp only;refine o.out _ _ (λ_=>mw) ?_;clear o K;refine AnyX.dA (i:=9) (by kernel_rfl) rfl (λK o=> ?_);go_simp;refine o.out _ _ (λ_=>mw) ?_;clear o K;refine AnyX.rS (by kernel_rfl) ?_ _;have E3:Hid (cQ w3 t k (room+1) J q (S++[s])):=by have:=yc;rw[E.out,<-V.out]at this;exact this
 have D:=D1.out.below z.out (zAb _);have K3:Hid (cL w3 d 86 #[aC aD k,aC aD win,aC aD first,aK (aA ⟨hb,0,aB⟩) n eF,.iface 146 (aO (aA ⟨t,0,aB⟩))]):=(U.block d D.lt D.two.1).trans (by have:=D.at';rw[<-V.out,<-HN.out]at this;exact this);have HR1:Hid (r<=jJ (bF s) (bF last) 0):=by have:=jx;rw[E.out]at this;exact this
 have C3:Hid (iw t r w w3):=λN hN=>vv N (by rw[z.out.cell (p:=⟨t,5,aB⟩) (zAd HE.out.GC.Qv B1.out.size),B1.out.cell (p:=⟨t,5,aB⟩) HE.out.GC.Qv];exact hN);clear jx vv;have P:=E3.out.Qv;have hH1:=D.hlen;have yb:=D.Vf;have sf:=D.gD;have O3:Hid (eQ OV w3 hb 9 1 (aK (aA ⟨hb,0,aB⟩) n eF) n (gU H)):=by
  rw[<-V.out,<-HN.out]at sf;exact sf.kept λg hg=>by have e:hb=g:=zAk hg;subst e;exact U.block hb D.bT D.two.2
 have hHn:H.length=n:=by rw[hH1,<-V.out,<-HN.out]
 have V3:Hid (dJ (kJ w d hb t b) w w3):=((dJ.of B1.out (zAb _)).trans (dJ.of z.out (zAb _))).four (U.mono λx hx=>aI (aI hx)) (aH rfl) (aH rfl);have tz:Hid (J=b\/w.heap.size<=J):=xp.imp id λh=>by have h1:=B1.out.size;have h2:=z.out.size;omega
 have qi:hb<w3.heap.size:=(eQ.lt O3.out hb rfl).2;have A:=K3.out.lt;have B:Hid (zq.globals.size<d/\zq.globals.size<hb):=⟨D1.out.Nw,D1.out.pT⟩;have hk1:=D1.out.GC.k1;have aa:=D1.out.GC.k2;clear yc sf U xp q4 D D1 B1 z Qk wc kq yl HE mw qq;have p0:w3.cell? ⟨d,0,aB⟩=aA (aC aD k):=(K3.out.cell 0).trans rfl;have p2:w3.cell? ⟨d,2,aB⟩=aA (aC aD first):=(K3.out.cell 2).trans rfl;have p3:w3.cell? ⟨d,3,aB⟩=aA (aK (aA ⟨hb,0,aB⟩) n eF):=(K3.out.cell 3).trans rfl;have p4:w3.cell? ⟨d,4,aB⟩=aA (.iface 146 (aO (aA ⟨t,0,aB⟩))):=(K3.out.cell 4).trans rfl;go_upto_region 10 with(fail)
 obtain⟨m,hm⟩:∃m,n=m+1:=⟨n-1,by omega⟩;have pq:(n:Int)-1=(m:Int):=by omega
 have hm1:(m:Int)<(n:Int):=by omega
 have kk:¬((m:Int)<0):=by omega
 have ps:(0:Int)<=(m:Int):=by omega
 have Zx:IntKind.i64.wrap (m:Int)=(m:Int):=by rw[zGt];omega
 have O:IntKind.i64.wrap ((n:Int)-1)=(m:Int):=by rw[pq];exact Zx
 have se:H[m]? =aA (H[m]'(by omega)):=zAi _;have ya:=yb (H[m]'(by omega)) (zDo _);generalize H[m]'(by omega)=M at se ya;have p5:w3.cell? ⟨hb,m,aB⟩=aA (aL ⟨M.toArray⟩):=by
  obtain⟨cur,c1,c2,c3,c4,c5,c6,c7⟩:=eQ.row O3.out;rw[cell_of_row w3 hb m cur _ (0,0) c1,<-zBs];have:(gU H)[m]? =aA (aL ⟨M.toArray⟩):=by unfold gU;rw[zDi,se];rfl
  rw[<-c6,zCp,zAz (by omega)]at this;exact this
 have HIN:Hid ((S++[s])[n]? =aA s):=by show _=_;rw[zBn (by rw[<-HN.out];exact zAb _),<-HN.out,zFn];rfl
 have HMm:Hid (n=m+1):=hm;clear hm;have zp:Hid (cQ w3.drew t k (room+1) J q (S++[s])):=E3.out.kept (zAb _) λ_ _=>rfl;have l:(λy:zW=>y.cell? ⟨d,0,aB⟩=aA (aC aD k)/\y.cell? ⟨d,3,aB⟩=aA (aK (aA ⟨hb,0,aB⟩) n eF)/\y.cell? ⟨d,4,aB⟩=aA (.iface 146 (aO (aA ⟨t,0,aB⟩)))/\y.cell? ⟨hb,m,aB⟩=aA (aL ⟨M.toArray⟩)) w3.drew:=⟨p0,p3,p4,p5⟩;refine AnyX.rR (λy=>y.cell? ⟨d,0,aB⟩=aA (aC aD k)/\y.cell? ⟨d,3,aB⟩=aA (aK (aA ⟨hb,0,aB⟩) n eF)/\y.cell? ⟨d,4,aB⟩=aA (.iface 146 (aO (aA ⟨t,0,aB⟩)))/\y.cell? ⟨hb,m,aB⟩=aA (aL ⟨M.toArray⟩)) (λi=>i==26) (by kernel_rfl) ?_;refine AnyX.AL (i:=0) (v:=aO (aA ⟨d,0,aB⟩)) rfl (by kernel_rfl) (λ_ _ _ h=>h) (aH ⟨by rfl,λW=>by go_simp⟩) l ?_;simp only[Act.put];refine AnyX.tk 1 (aO (aA ⟨d,0,aB⟩)) l ?_;simp only[Act.put];refine AnyX.tk 2 (aO (aA ⟨d,0,aB⟩)) l ?_;simp only[Act.put];refine AnyX.tk 3 (aO (aA ⟨d,3,aB⟩)) l ?_;simp only[Act.put];refine AnyX.tk 4 (aK (aA ⟨hb,0,aB⟩) n eF) l ?_;simp only[Act.put];refine AnyX.tk 5 (aO (aA ⟨d,0,aB⟩)) l ?_;simp only[Act.put];refine AnyX.tk 6 (aO (aA ⟨d,0,aB⟩)) l ?_;simp only[Act.put];refine AnyX.tk 7 (aO (aA ⟨d,0,aB⟩)) l ?_;simp only[Act.put];refine AnyX.tk 8 (aC aD k) l ?_;simp only[Act.put];refine AnyX.tk 9 (aO (aA ⟨d,0,aB⟩)) l ?_;simp only[Act.put];refine AnyX.tk 10 (aO (aA ⟨d,0,aB⟩)) l ?_;simp only[Act.put];refine AnyX.tk 11 (aO (aA ⟨d,3,aB⟩)) l ?_;simp only[Act.put];refine AnyX.tk 12 (aK (aA ⟨hb,0,aB⟩) n eF) l ?_;simp only[Act.put];refine AnyX.tk 13 (aC aD n) l ?_;simp only[Act.put];refine AnyX.tk 14 (aC aD m) l ?_;simp only[Act.put];refine AnyX.tk 15 (aO (aA ⟨hb,m,aB⟩)) l ?_;simp only[Act.put];refine AnyX.tk 16 (aL ⟨M.toArray⟩) l ?_;simp only[Act.put];refine AnyX.tk 17 (aC aD ((first:Int)+(n:Int))) l ?_;simp only[Act.put];refine AnyX.tk 18 (aO (aA ⟨d,0,aB⟩)) l ?_;simp only[Act.put];refine AnyX.tk 19 (aO (aA ⟨d,0,aB⟩)) l ?_;simp only[Act.put];refine AnyX.tk 20 (aO (aA ⟨d,4,aB⟩)) l ?_;simp only[Act.put];refine AnyX.tk 21 (.iface 146 (aO (aA ⟨t,0,aB⟩))) l ?_;simp only[Act.put];refine AnyX.tk 22 (aC aD n) l ?_;simp only[Act.put];refine AnyX.dA (i:=23) (by kernel_rfl) rfl (λK o=> ?_);go_simp;refine(Ko zp.out HIN.out).mono ?_;rintro e w4 (⟨_,rfl,rfl,xo⟩|⟨c,rfl,he⟩);rotate_left
 .exact⟨rfl,.told he⟩
 have b4:Hid (zb w3 w4):=MQ xo;have r0:w4.cell? ⟨d,0,aB⟩=aA (aC aD k):=by rw[b4.out.cell (p:=⟨d,0,aB⟩) A];exact p0
 have r3:w4.cell? ⟨d,3,aB⟩=aA (aK (aA ⟨hb,0,aB⟩) n eF):=by rw[b4.out.cell (p:=⟨d,3,aB⟩) A];exact p3
 have r4:w4.cell? ⟨d,4,aB⟩=aA (.iface 146 (aO (aA ⟨t,0,aB⟩))):=by rw[b4.out.cell (p:=⟨d,4,aB⟩) A];exact p4
 have r5:w4.cell? ⟨hb,m,aB⟩=aA (aL ⟨M.toArray⟩):=by rw[b4.out.cell (p:=⟨hb,m,aB⟩) qi];exact p5
 dsimp only;refine o.out _ _ (λ_=>⟨r0,r3,r4,r5⟩) ?_;clear o K xo l;refine AnyX.dA (i:=24) (by kernel_rfl) rfl (λK o=> ?_);go_simp;refine(Mr k _ M _ w4 (E3.out.iH.below b4.out (zAb _)) hk1 aa ya (by have:=vM k 0 (bF s) aa;omega) (by omega)).mono ?_;rintro e w5 ⟨rfl,xn⟩;have hHX:(dg k (3::(M++eight (first+n)++mE k (bF s) 0))).length<=32:=by rw[tP k _ aa];omega
 have yo:Hid (VL k first n s H (dg k (3::(M++eight (first+n)++mE k (bF s) 0)))):=⟨M,by rw[HMm.out];exact se,rfl⟩;generalize dg k (3::(M++eight (first+n)++mE k (bF s) 0))=F at*;have b5:Hid (zb w3 w5):=bR b4.out xn b4.out.size;have T:d<w5.heap.size:=zAd A b5.out.size;have qk:hb<w5.heap.size:=zAd qi b5.out.size;have s0:w5.cell? ⟨d,0,aB⟩=aA (aC aD k):=by rw[b5.out.cell (p:=⟨d,0,aB⟩) A];exact p0
 have s3:w5.cell? ⟨d,3,aB⟩=aA (aK (aA ⟨hb,0,aB⟩) n eF):=by rw[b5.out.cell (p:=⟨d,3,aB⟩) A];exact p3
 have s4:w5.cell? ⟨d,4,aB⟩=aA (.iface 146 (aO (aA ⟨t,0,aB⟩))):=by rw[b5.out.cell (p:=⟨d,4,aB⟩) A];exact p4
 have s5:w5.cell? ⟨hb,m,aB⟩=aA (aL ⟨M.toArray⟩):=by rw[b5.out.cell (p:=⟨hb,m,aB⟩) qi];exact p5
 dsimp only;refine o.out _ _ (λ_=>⟨s0,s3,s4,s5⟩) ?_;clear o K xn r0 r3 r4 r5;refine AnyX.dA (i:=25) (by kernel_rfl) rfl (λK o=> ?_);go_simp;refine o.out _ _ (λ_=>⟨by rw[World.cell?_alloc_lt _ _ _ T];exact s0,by rw[World.cell?_alloc_lt _ _ _ T];exact s3,by rw[World.cell?_alloc_lt _ _ _ T];exact s4,by rw[World.cell?_alloc_lt _ _ _ qk];exact s5⟩) ?_;clear o K s0 s3 s4 s5;obtain⟨j,f,X,vu,I,ra,ks⟩:=YS (O3.out.below b5.out (zAb _)|>.alloc (aJ #[aL ⟨F.toArray⟩] 9)) (by omega) F (vb:=w5.heap.size) (zGu w5 _) (by have:=b5.out.size;rw[size_alloc];omega);refine AnyX.dA (i:=26) (by kernel_rfl) rfl (λK o=> ?_);refine jC rfl _ _ 82 82 rfl _ _ rfl rfl (vu _) ?_;refine o.out _ _ (λh=>AnyX.lR h (by kernel_rfl)) ?_;clear o K;have hd5:d<(w5.alloc (aJ #[aL ⟨F.toArray⟩] 9)).heap.size:=by have:=b5.out.size;rw[size_alloc];omega
 have KA:=((K3.out.below b5.out A).alloc (aJ #[aL ⟨F.toArray⟩] 9)).grown I (λe=>by injection e with e;exact n1 e);have a3:X.cell? ⟨d,3,aB⟩=aA (aK (aA ⟨hb,0,aB⟩) n eF):=(KA.cell 3).trans rfl;have z3:=KA.frozen 3;have L:Hid (cL X d 86 #[aC aD k,aC aD win,aC aD first,aK (aA ⟨hb,0,aB⟩) n eF,.iface 146 (aO (aA ⟨t,0,aB⟩))]):=KA;clear KA;refine AnyX.dA (i:=27) (by kernel_rfl) rfl (λK o=> ?_);simp only[Act.put,zBr,zDg,zCy];go_simp;refine o.out _ _ (λh=>AnyX.lR h (by kernel_rfl)) ?_;clear o K;refine AnyX.dA (i:=28) (by kernel_rfl) rfl (λK o=> ?_);go_simp;refine o.out _ _ (λh=>AnyX.lR h (by kernel_rfl)) ?_;clear o K;refine AnyX.dA (i:=29) (by kernel_rfl) rfl (λK o=> ?_);go_simp;refine o.out _ _ (λh=>AnyX.lR h (by kernel_rfl)) ?_;clear o K;refine AnyX.rS (by kernel_rfl) ?_ _;have R:=kI X d (#[aC aD k,aC aD win,aC aD first,aK (aA ⟨j,0,aB⟩) (n+1) f,.iface 146 (aO (aA ⟨t,0,aB⟩))]:zA);have C:X.setCell ⟨d,3,aB⟩ (aK (aA ⟨j,0,aB⟩) (n+1) f)=X.setRow d (#[aC aD k,aC aD win,aC aD first,aK (aA ⟨j,0,aB⟩) (n+1) f,.iface 146 (aO (aA ⟨t,0,aB⟩))]:zA):=by rw[setCell_eq_setRow X d 3 _ _ (0,0) _ L.out];rfl
 have Th:=L.out.fN (#[aC aD k,aC aD win,aC aD first,aK (aA ⟨j,0,aB⟩) (n+1) f,.iface 146 (aO (aA ⟨t,0,aB⟩))]:zA);have bA:zb w3 (w5.alloc (aJ #[aL ⟨F.toArray⟩] 9)):=b5.out.alloc b5.out.size _;obtain⟨aCJ,tc,_⟩:=eQ.row (O3.out.below bA (zAb _));have D7:Hid (dO (X.setCell ⟨d,3,aB⟩ (aK (aA ⟨j,0,aB⟩) (n+1) f)) d k win first j f t (room+1) J q (S++[s]) (H++[F])):=by
  rw[C];have G:(S++[s]).length=n+1:=by rw[zAc,<-HN.out];rfl
  have hhb:j≠d:=λe=>by obtain⟨c6,e6,_⟩:=eQ.row ks;rw[e,L.out]at e6;injection e6 with e6;injection e6 with _ e7;revert e7;decide
  refine⟨((E3.out.below bA (zAb _)).other I tc (by decide) B.out.2).other R L.out (by decide) B.out.1,B.out.1,?_,by rw[G];exact Th,by rw[zAc,G,hHn];rfl,λx hx=> ?_,?_,by omega⟩
  .obtain e|e:=ra
   .rw[e];exact B.out.2
   .rw[e];have:=B.out.1;omega
  .obtain hx|hx:=zAh.1 hx
   .exact yb x hx
   .rw[zAm.1 hx];exact hHX
  .rw[G];exact ks.kept λg hg=>by have e:j=g:=zAk hg;subst e;exact R.block j (eQ.lt ks j rfl).2 (λe=>by injection e with e;exact hhb e)
 have V7:Hid (dJ (kJ w d hb t b) w (X.setCell ⟨d,3,aB⟩ (aK (aA ⟨j,0,aB⟩) (n+1) f))):=by rw[C];exact((V3.out.trans (dJ.of bA (zAb _))).trans (dJ.grown I (aI (aH rfl)) λhc=>hc.ne tc (by decide) rfl)).trans (dJ.grown R (aH rfl) λhc=>hc.ne L.out (by decide) rfl)
 have C7:Hid (iw t r w (X.setCell ⟨d,3,aB⟩ (aK (aA ⟨j,0,aB⟩) (n+1) f))):=λN hN=>by rw[C,World.cell?_of_block (a:=⟨t,5,aB⟩) (R.block t (zAd (zAd P bA.size) I.size) (λe=>by injection e with e;exact n2 e.symm)),World.cell?_of_block (a:=⟨t,5,aB⟩) (I.block t (zAd P bA.size) (λe=>by injection e with e;exact n4 e.symm)),bA.cell (p:=⟨t,5,aB⟩) P];exact C3.out N hN
 have tx:Hid (j=hb\/w.heap.size<=j):=ra.imp id λe=>by have h1:=bA.size;have h2:=V3.out.size;rw[e];omega
 generalize X.setCell ⟨d,3,aB⟩ (aK (aA ⟨j,0,aB⟩) (n+1) f)=w7 at*;clear C Th R tc bA I ra ks L a3 z3 vu K3 O3 E3 zp V3 C3;go_wp2_with fail;have y3:=eZ ((D7.out.cell 3).trans (rfl:_=aA (Value.slice (aA ⟨j,0,aB⟩) (S++[s]).length f))) D7.out.lt;have y1:=eZ ((D7.out.cell 1).trans (rfl:_=aA (Value.int aD win))) D7.out.lt;have G:(S++[s]).length=n+1:=by rw[zAc,<-HN.out];rfl
 rw[G]at y3;refine wp_region_quiet_below (by kernel_rfl) (by kernel_rfl) ?_;repeat (any_goals(first|go_big_quiet_step (fail)|quiet_step (fail)))
 refine wpQuiet_nil ?_;intro w8 hw8;obtain⟨q8,vw⟩:=hw8;have b8:Hid (zb w7 w8):=by rw[vw];exact zGv w7 q8.d q8.os
 have D8:Hid (dO w8 d k win first j f t (room+1) J q (S++[s]) (H++[F])):=D7.out.below b8.out (zAb _);have V8:Hid (dJ (kJ w d hb t b) w w8):=V7.out.trans (dJ.of b8.out (zAb _));have C8:Hid (iw t r w w8):=λN hN=>by rw[b8.out.cell (p:=⟨t,5,aB⟩) D7.out.GC.Qv];exact C7.out N hN
 clear vw y1 y3 D7 V7 b8 C7;by_cases O:win<n+1
 .have hwi:(win:Int)<(n:Int)+1:=by{omega};have za:=uN D8.out (by rw[G];omega);go_wp2_with fail;refine za.mono ?_;clear za;rintro e w9 ⟨rfl,yd,xq⟩;have D9:Hid (dO w9 d k win (first+1) j f t room J q ((S++[s]).drop 1) ((H++[F]).drop 1)):=yd (by omega);have V9:Hid (dJ (kJ w d hb t b) w w9):=V8.out.four xq tx.out tz.out;clear yd xq;dsimp only;go_wp2;go_ret2;exact .of ⟨rfl,j,f,J,q,F,yo.out,by rw[zc.out,yn.out,zAz O,zAz O,<-List.drop_one];exact D9.out,tx.out,tz.out,V9.out⟩
 .have hwi:¬((win:Int)<(n:Int)+1):=by{omega};go_wp2;go_ret2;exact .of ⟨rfl,j,f,J,q,F,yo.out,by rw[zc.out,yn.out,zAv O,zAv O];exact D8.out.less (Nat.le_succ _),tx.out,tz.out,V8.out,r,HR1.out,C8.out⟩
end
section
variable {w:zW}{d k win first hb eF t room b cap:Nat}{S:List (List bJ)}{H:zLL}
def OD {c:Nat}(h:dO w d k win first hb eF t (room+c) b cap S H)(l:c<S.length)(g:first+c<=1000000):
  Calls zq 25 #[aO (aA ⟨d,0,aB⟩),aC aD ((first:Int)+(c:Int))] w λe i=>e=aM (aC aD 0)/\dO i d k win (first+c) hb eF t room b cap (S.drop c) (H.drop c)/\dJ (kJ w d hb t b) w i:=by
 have o:=Gb h l;have p:Hid (dO w d k win first hb eF t (room+c) b cap S H):=h;have hl:=h.GC.len;have r:IntKind.i64.wrap (c:Int)=(c:Int):=by rw[zGt];omega
 have j:(first:Int)+(c:Int)-(first:Int)=(c:Int):=by omega
 clear h;go_enter (Qz.fn func25),ntmps25;go_wp2_with fail;refine o.mono ?_;clear o;rintro e w2 ⟨rfl,a⟩;have s:Hid (dJ (kJ w d hb t b) w w2):=dJ.of a (zAb _);have E:Hid (dO w2 d k win first hb eF t (room+c) b cap S H):=p.out.below a (zAb _);clear a p;dsimp only;have q:w2.cell? ⟨d,2,aB⟩=aA (aC aD first):=E.out.cell 2;have f:=uN E.out l;go_wp2_with fail;refine f.mono ?_;clear f;rintro e w3 ⟨rfl,n,m⟩;have D3:Hid (dO w3 d k win (first+c) hb eF t room b cap (S.drop c) (H.drop c)):=n g;have V:Hid (dJ (kJ w d hb t b) w w3):=s.out.four m (aH rfl) (aH rfl);clear n m q;dsimp only;go_wp2;go_ret;exact⟨rfl,D3.out,V.out⟩
end
section
variable {w:zW}{d t:Nat}{c:Int}
def He (h:w.cell? ⟨t,5,aB⟩=aA (aC aD c)):Calls zq 212 #[aO (aA ⟨t,0,aB⟩)] w λe a=>e=aM (aC aD c)/\a=w:=by go_enter (Qz.fn func212),ntmps212;go_wp2;go_ret;exact⟨rfl,rfl⟩
def OE (b:w.cell? ⟨d,4,aB⟩=aA (.iface 146 (aO (aA ⟨t,0,aB⟩))))(h:w.cell? ⟨t,5,aB⟩=aA (aC aD c)):Calls zq 26 #[aO (aA ⟨d,0,aB⟩)] w λe a=>e=aM (aC aD c)/\a=w:=by have m:∀W,(method (zq.types.size+100) 146 (aO (aA ⟨t,0,aB⟩)) "Cells").run zq W= .ok (212,aO (aA ⟨t,0,aB⟩)) W:=λW=>reaches (by kernel_rfl) _ W;have H:Hid (Calls zq 212 #[aO (aA ⟨t,0,aB⟩)] w λe a=>e=aM (aC aD c)/\a=w):=He h;clear h;go_enter (Qz.fn func26),ntmps26;go_wp2_with fail;refine H.out.mono ?_;rintro e a ⟨rfl,rfl⟩;go_wp2;go_ret;exact⟨rfl,rfl⟩
end
open Go.RowKit Sha
def nK:zA:= #[aC aD 2,aC aD 0,aK aB 0 0,aL ⟨#[]⟩,aL ⟨#[]⟩,aL ⟨#[]⟩]
def Ns (idx:ByteArray)(w:zW):Calls zq 117 #[.agg nK,aL idx] w λe a=>e=aM (aL ⟨#[0]⟩)/\zb w a:=by
 have b:Hid (zb w (w.alloc (aJ nK 112))):=(zGo _ _).alloc (zAb _) _;have c:(w.alloc (aJ nK 112)).cell? ⟨w.heap.size,1,aB⟩=aA (aC aD 0):=((cL.new w _ nK).cell 1).trans rfl;go_enter (Qz.fn func117),ntmps117;go_upto_region 1 with(fail)
 generalize w.alloc (aJ nK 112)=w0 at*;go_wp2_with fail;refine(uR w0).mono ?_;rintro e w2 ⟨rfl,h⟩;obtain rfl:w0=w2:=h.symm;clear h;go_wp2;go_ret;exact⟨rfl,b.out⟩
def WG (idx:ByteArray)(w:zW):Calls zq 99 #[.agg nK,aL idx] w λe d=>zb w d/\∃g,e=aM (aK (aA ⟨g,0,aB⟩) 1 1)/\d.cell? ⟨g,0,aB⟩=aA (aL ⟨#[0]⟩):=by
 have c:Hid (zb w (w.alloc (aJ nK 112))):=(zGo _ _).alloc (zAb _) _;have k:Hid (cL (w.alloc (aJ nK 112)) w.heap.size 112 nK):=cL.new _ _ _;have a:∀W:zW,(Instr.makeSlice 82 (aC aD 1) (aC aD 1)).run zq W= .ok (aK (aA ⟨W.heap.size,0,aB⟩) 1 1) (W.alloc (aJ #[aL ⟨#[]⟩] 9)):=λW=>by obtain⟨i,p,o,n,m⟩:=Js;have:=run_make (P:=zq) W 82 9 i (aL ⟨#[]⟩) ((Qz.fH 82).trans underlying82) p o aD aD 1 1 (by omega) (Int.le_refl _) (by rw[m];omega) (by omega);rw[this,n];show Result.ok _ (W.alloc (aJ (madeCells #[aL ⟨#[]⟩] 1) 9))=_;rw[show madeCells #[Value.string ⟨#[]⟩] 1= #[aL ⟨#[]⟩]from zDx.1 (by rw[toList_madeCells_one];rfl)];rfl
 go_enter (Qz.fn func99),ntmps99;go_upto_region 1 with(fail)
 generalize w.alloc (aJ nK 112)=w0 at*;have f:=k.out.lt;have r:w0.cell? ⟨w.heap.size,2,aB⟩=aA (aK aB 0 0):=by rw[k.out.cell];rfl
 go_upto_region 3 with(fail)
 have b:Hid (zb w (w0.alloc (aJ #[aL ⟨#[]⟩] 9))):=c.out.alloc c.out.size _;have k1:Hid (cL (w0.alloc (aJ #[aL ⟨#[]⟩] 9)) w.heap.size 112 nK):=k.out.alloc _;have t1:Hid (cL (w0.alloc (aJ #[aL ⟨#[]⟩] 9)) w0.heap.size 9 #[aL ⟨#[]⟩]):=cL.new _ _ _;have l:w.heap.size<w0.heap.size:=f;generalize w0.alloc (aJ #[aL ⟨#[]⟩] 9)=w1 at*;generalize w0.heap.size=g at*;clear a r k c f;go_wp2_with (first
  |refine zGw rfl 112 _ rfl w.heap.size rfl _ _ _ _ k1.out ((Qz.fH 112).trans underlying112) rfl (by kernel_rfl) ?_
  |fail)
 refine(Ns idx w1).mono ?_;rintro e w2 ⟨rfl,h⟩;have j:=bR b.out h b.out.size;have k2:Hid (cL w2 w.heap.size 112 nK):=k1.out.below h k1.out.lt;have t2:Hid (cL w2 g 9 #[aL ⟨#[]⟩]):=t1.out.below h t1.out.lt;clear h b k1 t1;have s:w2.cell? ⟨g,0,aB⟩=aA (aL ⟨#[]⟩):=by rw[t2.out.cell];rfl
 have f1:w2.frozen? ⟨g,0,aB⟩=aG:=t2.out.frozen _;go_upto_region 4 with(fail)
 have b3:Hid (zb w (w2.setCell ⟨g,0,aB⟩ (aL ⟨#[0]⟩))):=j.out.setCell (by simp only;omega) _;have t3:Hid (cL (w2.setCell ⟨g,0,aB⟩ (aL ⟨#[0]⟩)) g 9 #[aL ⟨#[0]⟩]):=t2.out.fM 0 _;clear s f1 j k2 t2;generalize w2.setCell ⟨g,0,aB⟩ (aL ⟨#[0]⟩)=w3 at*;go_wp2;go_loopg [7] 0 (λq x wr=>x=aC aD (-1)/\wr=w3);case atStart=>exact⟨rfl,rfl⟩
 case round=>
  obtain⟨rfl,rfl⟩:=hrel
  go_wp2
  go_ret
  exact⟨b3.out,g,rfl,by rw[t3.out.cell];rfl⟩
def Em (idx:ByteArray)(w:zW)(d:fD w):Calls zq 84 #[.agg nK,aL idx] w λe f=>e=aM (aL ⟨(dg 2 [0]).toArray⟩)/\zb w f:=by
 have H:Hid (fD w):=d;clear d;have k:Hid (cL (w.alloc (aJ nK 112)) w.heap.size 112 nK):=cL.new _ _ _;have j:Hid (zb w (w.alloc (aJ nK 112))):=(zGo _ _).alloc (zAb _) _;go_enter (Qz.fn func84),ntmps84;go_upto_region 1 with(fail)
 generalize w.alloc (aJ nK 112)=w0 at*;have r:w0.cell? ⟨w.heap.size,0,aB⟩=aA (aC aD 2):=by rw[k.out.cell];rfl
 have q:w0.cell? ⟨w.heap.size,1,aB⟩=aA (aC aD 0):=by rw[k.out.cell];rfl
 have p:w0.cell? ⟨w.heap.size,2,aB⟩=aA (aK aB 0 0):=by rw[k.out.cell];rfl
 have o:w0.cell? ⟨w.heap.size,3,aB⟩=aA (aL ⟨#[]⟩):=by rw[k.out.cell];rfl
 have n:w0.cell? ⟨w.heap.size,4,aB⟩=aA (aL ⟨#[]⟩):=by rw[k.out.cell];rfl
 have m:w0.cell? ⟨w.heap.size,5,aB⟩=aA (aL ⟨#[]⟩):=by rw[k.out.cell];rfl
 have b:Hid (zb w w0.drew):=j.out.drew;have a:Hid (cL w0.drew w.heap.size 112 nK):=k.out;have bT:=k.out.lt;go_region_with (first
   |(go_at_call 99;refine(WG idx w0.drew).mono ?_;rintro e w1 ⟨hb,g,rfl,l⟩;
     have k1:Hid (cL w1 w.heap.size 112 nK):=a.out.below hb bT;
     have c:Hid (zb w w1):=b.out.trans (hb.mono b.out.size);
     have T:Hid (fD w1):=H.out.below c.out (zAb _);
     clear hb;
     have q0:w1.cell? ⟨w.heap.size,0,aB⟩=aA (aC aD 2):=(k1.out.cell 0).trans rfl)
   |(go_at_call 53;refine(tC 2 ⟨#[0]⟩ _ (by decide) (by decide) (by decide) T.out).mono ?_;rintro e w2 ⟨rfl,h⟩;
     have i:Hid (zb w w2):=c.out.trans (h.mono c.out.size);
     clear h))
 all_goals
  go_wp2
  go_ret
  exact⟨rfl,i.out⟩
def SW (w:zW):Calls zq 81 #[aL ⟨#[]⟩,aC aD 0] w λe a=>e=aM (.bool aG)/\a=w:=by
 go_enter (Qz.fn func81),ntmps81;go_wp2_with fail;go_loopg [5] 0 (λq i wr=>i=aC aD 0/\wr=w);case atStart=>exact⟨rfl,rfl⟩
 case round=>
  obtain⟨rfl,rfl⟩:=hrel
  go_wp2
  go_ret
  exact⟨rfl,rfl⟩
def GK:dg 2 [0]=[110,52]:=by decide+kernel
def Eo (idx:ByteArray)(w:zW)(B:fD w):Calls zq 55 #[aL ⟨#[110,52]⟩,aL idx,aL ⟨#[0,0,0]⟩] w λe m=>e=aM (.tuple #[.agg nK,aC aD 0])/\zb w m:=by
 have E:Hid (fD w):=B;clear B;go_enter (Qz.fn func55),ntmps55;go_upto_region 1 with(fail)
 refine wp_scope_jumps 0 (λ_ _=>False) (λ_ _=>0) rfl ?_ (λ_ _ h=>h.elim);go_upto_region 2 with(fail)
 have l:Hid (zb w ((w.alloc (aJ gX 112)).alloc (aJ nK 112))):=((zGo _ _).alloc (zAb _) _).alloc (by simp) _;have y:Hid (cL ((w.alloc (aJ gX 112)).alloc (aJ nK 112)) w.heap.size 112 gX):=(cL.new _ _ _).alloc _;have b3:Hid (cL ((w.alloc (aJ gX 112)).alloc (aJ nK 112)) (w.heap.size+1) 112 nK):=by have:=cL.new (w.alloc (aJ gX 112)) 112 nK;rw[size_alloc]at this;exact this
 rw[show((w.alloc (aJ #[aC aD 0,aC aD 0,aK aB 0 0,aL ⟨#[]⟩,aL ⟨#[]⟩,aL ⟨#[]⟩] 112)).alloc (aJ #[aC aD 2,aC aD 0,aK aB 0 0,aL ⟨#[]⟩,aL ⟨#[]⟩,aL ⟨#[]⟩] 112))=((w.alloc (aJ gX 112)).alloc (aJ nK 112))from rfl];generalize(w.alloc (aJ gX 112)).alloc (aJ nK 112)=w0 at*;have u:w0.cell? ⟨w.heap.size+1,0,aB⟩=aA (aC aD 2):=by rw[b3.out.cell];rfl
 go_wp2_with fail;refine(ML 2 w0 (by decide) (by decide) (E.out.below l.out (zAb _))).mono ?_;rintro e w1 ⟨rfl,b⟩;have c1:=bR l.out b l.out.size;have c2:Hid (cL w1 w.heap.size 112 gX):=y.out.below b y.out.lt;have c3:Hid (cL w1 (w.heap.size+1) 112 nK):=b3.out.below b b3.out.lt;clear l y b3 u b;rw[GK];have p:∀W,(Instr.index 9 (aL ⟨#[0,0,0]⟩) (aC aD 0)).run zq W= .ok (aC aQ 0) W:=FO ⟨#[0,0,0]⟩ 0 (by decide);have o:∀W,(Instr.index 9 (aL ⟨#[0,0,0]⟩) (aC aD 1)).run zq W= .ok (aC aQ 0) W:=FO ⟨#[0,0,0]⟩ 1 (by decide);have n:∀W,(Instr.index 9 (aL ⟨#[0,0,0]⟩) (aC aD 2)).run zq W= .ok (aC aQ 0) W:=FO ⟨#[0,0,0]⟩ 2 (by decide);have s:bits .or aD 0 0=0:=by decide
 have r:IntKind.i64.wrap 0=0:=by decide
 have d:(⟨#[0,0,0]⟩:ByteArray).extract 3 3=⟨#[]⟩:=by decide
 have k:w1.cell? ⟨w.heap.size+1,1,aB⟩=aA (aC aD 0):=by rw[c3.out.cell];rfl
 have f1:w1.frozen? ⟨w.heap.size+1,1,aB⟩=aG:=c3.out.frozen 1;have u:w1.cell? ⟨w.heap.size+1,0,aB⟩=aA (aC aD 2):=by rw[c3.out.cell];rfl
 go_wp2;refine wp_region_any (by kernel_rfl) ?_;change wpAny _ _ _ _ _ _ _ (World.drew _);refine zHd (i:=0) (v:=aL ⟨#[0,0,0]⟩) rfl (by kernel_rfl) (by kernel_rfl) (by kernel_rfl) (λ_ _ _ h=>h) (aH ⟨by rfl,λW=>by go_simp⟩) ?_;simp only[Act.put];refine zHd (i:=1) (v:=aC aQ 0) rfl (by kernel_rfl) (by kernel_rfl) (by kernel_rfl) (λ_ _ _ h=>h) (aH ⟨by rfl,λW=>by go_simp⟩) ?_;simp only[Act.put];refine zHd (i:=2) (v:=aC aD 0) rfl (by kernel_rfl) (by kernel_rfl) (by kernel_rfl) (λ_ _ _ h=>h) (aH ⟨by rfl,λW=>by go_simp⟩) ?_;simp only[Act.put];refine zHd (i:=3) (v:=aL ⟨#[0,0,0]⟩) rfl (by kernel_rfl) (by kernel_rfl) (by kernel_rfl) (λ_ _ _ h=>h) (aH ⟨by rfl,λW=>by go_simp⟩) ?_;simp only[Act.put];refine zHd (i:=4) (v:=aC aQ 0) rfl (by kernel_rfl) (by kernel_rfl) (by kernel_rfl) (λ_ _ _ h=>h) (aH ⟨by rfl,λW=>by go_simp⟩) ?_;simp only[Act.put];refine zHd (i:=5) (v:=aC aD 0) rfl (by kernel_rfl) (by kernel_rfl) (by kernel_rfl) (λ_ _ _ h=>h) (aH ⟨by rfl,λW=>by go_simp⟩) ?_;simp only[Act.put];refine zHd (i:=6) (v:=aC aD 0) rfl (by kernel_rfl) (by kernel_rfl) (by kernel_rfl) (λ_ _ _ h=>h) (aH ⟨by rfl,λW=>by go_simp⟩) ?_;simp only[Act.put];refine zHd (i:=7) (v:=aL ⟨#[0,0,0]⟩) rfl (by kernel_rfl) (by kernel_rfl) (by kernel_rfl) (λ_ _ _ h=>h) (aH ⟨by rfl,λW=>by go_simp⟩) ?_;simp only[Act.put];refine zHd (i:=8) (v:=aC aQ 0) rfl (by kernel_rfl) (by kernel_rfl) (by kernel_rfl) (λ_ _ _ h=>h) (aH ⟨by rfl,λW=>by go_simp⟩) ?_;simp only[Act.put];refine zHd (i:=9) (v:=aC aD 0) rfl (by kernel_rfl) (by kernel_rfl) (by kernel_rfl) (λ_ _ _ h=>h) (aH ⟨by rfl,λW=>by go_simp⟩) ?_;simp only[Act.put];refine zHd (i:=10) (v:=aC aD 0) rfl (by kernel_rfl) (by kernel_rfl) (by kernel_rfl) (λ_ _ _ h=>h) (aH ⟨by rfl,λW=>by go_simp⟩) ?_;simp only[Act.put];refine zHd (i:=11) (v:=aL ⟨#[0,0,0]⟩) rfl (by kernel_rfl) (by kernel_rfl) (by kernel_rfl) (λ_ _ _ h=>h) (aH ⟨by rfl,λW=>by go_simp⟩) ?_;simp only[Act.put];refine zHd (i:=12) (v:=aL ⟨#[]⟩) rfl (by kernel_rfl) (by kernel_rfl) (by kernel_rfl) (λ_ _ _ h=>h) (aH ⟨by rfl,λW=>by go_simp;rfl⟩) ?_;simp only[Act.put];refine zHd (i:=13) (v:=aO (aA ⟨w.heap.size+1,1,aB⟩)) rfl (by kernel_rfl) (by kernel_rfl) (by kernel_rfl) (λ_ _ _ h=>h) (aH ⟨by rfl,λW=>by go_simp⟩) ?_;simp only[Act.put];refine wpAny_ready (rs:=[14]) (by kernel_rfl) (by simp) ?_;refine aFj rfl (λK c=> ?_) aFk;go_simp;refine c _ _ ?_;clear c K;refine wpAny_ready (rs:=[15]) (by kernel_rfl) (by simp) ?_;refine aFj rfl (λK c=> ?_) aFk;go_simp;refine c _ _ ?_;clear c K;refine wpAny_ready (rs:=[16]) (by kernel_rfl) (by simp) ?_;refine aFj rfl (λK c=> ?_) aFk;go_simp;refine c _ _ ?_;clear c K;refine wpAny_done (by kernel_rfl) ?_ _;have d1:Hid (zb w (w1.setCell ⟨w.heap.size+1,1,aB⟩ (aC aD 0)).drew):=(c1.out.setCell (by simp) _).drew;have D:Hid (cL (w1.setCell ⟨w.heap.size+1,1,aB⟩ (aC aD 0)).drew w.heap.size 112 gX):=c2.out.cE _ _ (by simp);have d3:Hid (cL (w1.setCell ⟨w.heap.size+1,1,aB⟩ (aC aD 0)).drew (w.heap.size+1) 112 nK):=c3.out.fM 1 _;clear c1 c2 c3 k f1 u p o n s d r;generalize(w1.setCell ⟨w.heap.size+1,1,aB⟩ (aC aD 0)).drew=w2 at*;have k:w2.cell? ⟨w.heap.size+1,1,aB⟩=aA (aC aD 0):=by rw[d3.out.cell];rfl
 have z:Hid (∀W:zW,Calls zq 80 #[aC aD 0] W λe m=>e=aM (aC aD 0)/\m=W):=λW=>UU 0 W (by decide);go_wp2_with fail;refine(z.out w2).mono ?_;rintro e w3 ⟨rfl,g⟩;obtain rfl:w2=w3:=g.symm;clear g;have d:(⟨#[]⟩:ByteArray).extract 0 0=⟨#[]⟩:=by decide
 go_wp2;go_quiet ((exact zGz (z.out _)));have t:Hid (zb w (w2.drewN nq)):=below_drewN d1.out nq;have C:Hid (cL (w2.drewN nq) w.heap.size 112 gX):=D.out.drewN nq;have j:Hid (cL (w2.drewN nq) (w.heap.size+1) 112 nK):=d3.out.drewN nq;clear d1 D d3 k z d;generalize w2.drewN nq=w3 at*;go_wp2_with fail;refine(SW w3).mono ?_;rintro e w4 ⟨rfl,f⟩;obtain rfl:w3=w4:=f.symm;clear f;go_wp2;go_loopg [2,64] 0 (λq x i wr=>x=aL ⟨#[]⟩/\i=aC aD 0/\wr=w3);case atStart=>exact⟨rfl,rfl,rfl⟩
 case round=>
  obtain⟨rfl,rfl,rfl⟩:=hrel
  have k:wr.cell? ⟨w.heap.size+1,1,aB⟩=aA (aC aD 0):=by rw[j.out.cell];rfl
  have H:Hid (fD wr):=E.out.below t.out (zAb _)
  go_wp2_with (first
   |refine zGw rfl 112 _ rfl (w.heap.size+1) rfl _ _ _ _ j.out ((Qz.fH 112).trans underlying112) rfl (by kernel_rfl) ?_)
  refine(Em idx wr H.out).mono ?_
  rintro e A ⟨rfl,a⟩
  have I:=bR t.out a t.out.size
  have F:Hid (cL A w.heap.size 112 gX):=C.out.below a C.out.lt
  have G:Hid (cL A (w.heap.size+1) 112 nK):=j.out.below a j.out.lt
  clear a
  rw[GK]
  go_wp2_with (first
   |refine zGw rfl 112 _ rfl (w.heap.size+1) rfl _ _ _ _ G.out ((Qz.fH 112).trans underlying112) rfl (by kernel_rfl) ?_
   |refine zGx rfl 112 _ _ rfl w.heap.size nK rfl rfl _ _ F.out (by kernel_rfl) rfl (by kernel_rfl) ?_)
  simp only[Exit.jump]
  exact zHe (rK results55 _ _ w.heap.size _ _ _ _ rfl (F.out.fN _) ((Qz.fH 112).trans underlying112) rfl (by kernel_rfl) (aC aD 0) rfl) rfl ⟨rfl,dS I.out (zAb _) _⟩
def Ei (w:zW):Calls zq 56 #[.agg nK] w λe a=>e=aM (.agg (kA 2 []))/\zb w a:=by
 go_enter (Qz.fn func56),ntmps56;go_upto_region 1 with(fail)
 have k:Hid (cL ((w.alloc (aJ nK 112)).alloc (aJ dF 76)) w.heap.size 112 nK):=(cL.new _ _ _).alloc _;have z0:Hid (cL ((w.alloc (aJ nK 112)).alloc (aJ dF 76)) (w.heap.size+1) 76 dF):=by have:=cL.new (w.alloc (aJ nK 112)) 76 dF;rw[size_alloc]at this;exact this
 have b:Hid (zb w ((w.alloc (aJ nK 112)).alloc (aJ dF 76))):=((zGo _ _).alloc (zAb _) _).alloc (by simp) _;rw[show((w.alloc (aJ nK 112)).alloc (aJ #[aC aD 0,aL ⟨#[]⟩] 76))=((w.alloc (aJ nK 112)).alloc (aJ dF 76))from rfl];generalize(w.alloc (aJ nK 112)).alloc (aJ dF 76)=W at*;have c:W.cell? ⟨w.heap.size,1,aB⟩=aA (aC aD 0):=by rw[k.out.cell];rfl
 go_wp2_with (refine zGx rfl 76 _ _ rfl (w.heap.size+1) _ rfl rfl _ _ z0.out (by kernel_rfl) rfl (by kernel_rfl) ?_);exact zHe (results_cell_row results56 _ _ (w.heap.size+1) _ _ _ _ rfl (z0.out.fN _) ((Qz.fH 76).trans underlying76) rfl (by kernel_rfl)) rfl ⟨rfl,dS b.out (by omega) _⟩
def QC (idx:ByteArray)(w:zW)(hi:idx.size=32)(d:fD w):Calls zq 34 #[aL ⟨#[110,52]⟩,aL idx,aL ⟨#[0,0,0]⟩] w λe i=>zb w i/\e=aM (.tuple #[.agg (kA 2 []),aC aD 0]):=by
 have H:Hid (fD w):=d;clear d;have z0:Hid (cL (w.alloc (aJ dF 76)) w.heap.size 76 dF):=cL.new _ _ _;have b:Hid (zb w (w.alloc (aJ dF 76))):=(zGo _ _).alloc (zAb _) _;go_enter (Qz.fn func34),ntmps34;go_wp2_with fail;refine(XY ⟨#[110,52]⟩ idx _ (by decide) (by decide) hi).mono ?_;rintro e w2 ⟨rfl,a⟩;obtain rfl:=a.symm;clear a;go_wp2_with fail;refine(Eo idx (w.alloc (aJ dF 76)) (H.out.below b.out (zAb _))).mono ?_;rintro e w1 ⟨rfl,hb⟩;have c:Hid (zb w w1):=b.out.trans (hb.mono (by rw[size_alloc];omega));have g:Hid (cL w1 w.heap.size 76 dF):=z0.out.below hb z0.out.lt;have j:w.heap.size<w1.heap.size:=g.out.lt;have y:Hid (cL (w1.alloc (aJ gX 112)) w1.heap.size 112 gX):=cL.new _ _ _;have K:Hid (cL ((w1.alloc (aJ gX 112)).setRow w1.heap.size nK) w1.heap.size 112 nK):=y.out.fN _;have Z:Hid (cL ((w1.alloc (aJ gX 112)).setRow w1.heap.size nK) w.heap.size 76 dF):=(g.out.alloc _).KI _ (by omega);have B:Hid (zb w ((w1.alloc (aJ gX 112)).setRow w1.heap.size nK)):=dS (c.out.alloc c.out.size _) c.out.size _;clear hb b z0;go_wp2_with (first
  |refine zGx rfl 112 _ _ rfl w1.heap.size nK rfl rfl _ _ y.out (by kernel_rfl) rfl (by kernel_rfl) ?_
  |refine zGw rfl 112 _ rfl w1.heap.size rfl _ _ _ _ K.out ((Qz.fH 112).trans underlying112) rfl (by kernel_rfl) ?_)
 refine(Ei ((w1.alloc (aJ gX 112)).setRow w1.heap.size nK)).mono ?_;rintro e w2 ⟨rfl,h⟩;have k:=bR B.out h B.out.size;have f:Hid (cL w2 w.heap.size 76 dF):=Z.out.below h Z.out.lt;clear h B Z K;go_wp2_with (refine zGx rfl 76 _ _ rfl w.heap.size (kA _ _) rfl rfl _ _ f.out (by kernel_rfl) rfl (by simp[kA,Value.oneCell']) ?_);exact zHe (rK results34 _ _ w.heap.size _ _ _ _ rfl (f.out.fN _) ((Qz.fH 76).trans underlying76) rfl (by kernel_rfl) _ rfl) rfl ⟨dS k.out (zAb _) _,rfl⟩
def YL (w:zW)(f:fD w):Calls zq 13 #[] w λe i=>e=aM (.bool aF)/\zb w i:=by have H:Hid (fD w):=f;clear f;go_enter (Qz.fn func13),ntmps13;go_wp2_with fail;refine(ZE 2 ⟨#[97,98,99]⟩ w (by omega) (by omega) (by decide) H.out).mono ?_;rintro e w1 ⟨rfl,b⟩;have d:Hid (zb w w1):=b;clear b;rw[show gu 2 (⟨#[97,98,99]⟩:ByteArray).data.toList=gu 2 [97,98,99]from rfl,Nx];go_wp2_with fail;refine(oO 0 w1 (by omega) (by omega)).mono ?_;rintro e w2 ⟨rfl,a⟩;have B:=bR d.out a d.out.size;clear a d;have c:=gJ 0;generalize idxOf 0=I at*;go_wp2_with fail;refine(QC ⟨I.toArray⟩ w2 (by show I.toArray.size=32;simpa using c) (H.out.below B.out (zAb _))).mono ?_;rintro e w3 ⟨h,rfl⟩;have g:=bR B.out h B.out.size;clear h B;simp only[kA];go_wp2;go_ret;exact⟨rfl,g.out.alloc g.out.size _⟩
def nD (s:St):List bJ:=(lZ s).map Ys
def vL (s):bF (nD s)=lZ s:=by
 unfold nD bF;rw[zEs];conv=>rhs;rw[<-List.map_id (lZ s)]
 apply zFz;intro e _;rfl
def Ai (s):(nD s).length<=64:=by unfold nD;rw[zCl,<-Kt];exact Ry s 64
def MJ (s:St):Prop:=∀k v,s k=aA v->v.length<=100
def Ja {s}(h:MJ s):GY (nD s):=by
 have d:lD (nD s):=by have a:=vT s;rw[<-vL]at a;exact zCw.1 a
 refine⟨Sub.zero d λu b=> ?_,λu b=> ?_,λu b=> ?_⟩
 .obtain⟨e,c,rfl⟩:=zBl.1 b;obtain⟨k,_,a,_⟩:=WL c;show e.1.length=32;rw[a];exact LL k
 .obtain⟨e,c,rfl⟩:=zBl.1 b;obtain⟨k,_,_,a⟩:=WL c;exact h k e.2 a
 .obtain⟨e,c,rfl⟩:=zBl.1 b;rfl
def ED {s}(h:MJ s)(l):MJ (s.with l):=Ix h l
def XJ (r:Int×Int):(dH r).idx.length=32/\(dH r).val.length<=100/\((dH r).gone=aF->(dH r).val=[]):=by
 unfold dH;split
 .exact⟨gJ _,zBu _,λ_=>rfl⟩
 .refine⟨gJ _,?_,λh=>by cases h⟩;show(valOf r.2).length<=100;have:=vK r.2;omega
def Jb {s}(h:MJ s)(l):bE (nD s) (bW ((l.take 20).map dH))=nD (s.with l):=by
 refine GY.same ((Ja h).cT λu a=> ?_) (Ja (ED h l)) ?_
 .have b:=qJ a;obtain⟨r,_,rfl⟩:=zBl.1 b;exact⟨(XJ r).1,(XJ r).2.1⟩
 .rw[lN,vL,vL,qH (vT s),Cz]
def GU (rs:Nat->zII):∀j,MJ (IQ rs j)
 |0=>λ_ _ h=>by cases h
 |j+1=>ED (GU rs j) (rs j)
open Go Go.RowKit
def ZT {B w w1 w2 F}(h:Below B w w1)(hs:dJ F w1 w2)(hF:∀x,F x->B<=x)(c:B<=w1.heap.size):Below B w w2:=⟨hs.os.trans h.os,hs.tape.trans h.tape,hs.output.trans h.output,zBb h.size hs.size,λk a=>(hs.block k (zAd a c) (λe=>by have:=hF k e;omega)).trans (h.block k a)⟩
def RF.mono {R R' e w}(h:RF R e w)(f:∀x,R x w->R' x w):RF R' e w:=h.imp (λ⟨x,c,a⟩=>⟨x,c,f x a⟩) id
def Pk (cs:zLL)(l w:List oW):Prop:=(l.filter λe=> !cs.contains e.1)=w.filter λe=> !cs.contains e.1
def Pk.nil {l w:List oW}(h:Pk [] l w):l=w:=by have e:∀l:List oW,(l.filter λe=> !([]:zLL).contains e.1)=l:=λl=>zFf.2 λe _=>rfl;unfold Pk at h;rw[e,e]at h;exact h
def Pk.half {cs:zLL}{l w:List oW}(h:Pk cs l w)(d b:Nat):Pk (cs.filter λi=>eD i d==b) (dG l d b) (dG w d b):=by
 have k:∀l:List oW,((dG l d b).filter λe=> !(cs.filter λi=>eD i d==b).contains e.1)=dG (l.filter λe=> !cs.contains e.1) d b:=λl=>by
  unfold dG;rw[zDv,zDv];apply List.filter_congr;intro e _;cases hb:eD e.1 d==b with
  |false=>simp
  |true=>
   have:(cs.filter λi=>eD i d==b).contains e.1=cs.contains e.1:=by rw[Bool.eq_iff_iff];simp only[zFq,zAx];exact⟨λh=>h.1,λh=>⟨h,hb⟩⟩
   rw[this];simp
 unfold Pk at h⊢;rw[k,k,h]
def Oj (cs:zLL)(d:Nat):(cs.filter λi=>eD i d==0).length+(cs.filter λi=>eD i d==1).length=cs.length:=by
 induction cs with
 |nil=>rfl
 |cons a cs b=>obtain h|h:=rA a d;{rw[zAt (by rw[h];rfl),zAn (by rw[h];decide)];simp only[zAf];omega};{rw[zAn (by rw[h];decide),zAt (by rw[h];rfl)];simp only[zAf];omega}
def yQ:∀(f:Nat)(l w:List oW)(d:Nat)(cs:zLL),Pk cs l w->nP f l w d<=f*cs.length
 |0,_,_,_,_,_=>by simp[nP]
 |f+1,l,w,d,cs,h=>by
  rw[nP];split;{exact zBu _}
  .rename_i a;have g:=yQ f _ _ (d+1) _ (h.half d 0);have c:=yQ f _ _ (d+1) _ (h.half d 1);have hl:=Oj cs d;have b:0<cs.length:=by
    obtain e|e:=zEe cs.length;{rw[zDz.1 e]at h;exact absurd (aI h.nil) a};{exact e}
   exact (show ∀a b n x y:Nat,a+b=n->x<=f*a->y<=f*b->0<n->1+(x+y)<=(f+1)*n from λa b n x y h1 h2 h3 h4=>by subst h1;rw[Nat.succ_mul,Nat.mul_add];omega) _ _ _ _ _ hl g c b
def KV:∀{A M:zLL},A.Nodup->(∀x∈A,x∈M)->A.length<=M.length
 |[],_,_,_=>zBu _
 |a::A,M,f,b=>by obtain⟨i,g⟩:=zFy.1 f;have d:=b a zAy;have hlen:=zFj d;have c:=List.length_pos_of_mem d;have:=KV (M:=M.erase a) g λy h=>(zFa λe=>i (by rw[<-e];exact h)).2 (b y (zBc _ h));simp only[zAf];omega
def YE {l w:List oW}{cs:zLL}(h:Pk cs l w)(c:(l.map (·.1)).Nodup):jQ l w<=cs.length:=by unfold jQ;rw[<-zCl (f:=λe:oW=>e.1)];refine KV (c.sublist (List.Sublist.map _ List.filter_sublist)) λx b=> ?_;obtain⟨e,d,rfl⟩:=zBl.1 b;obtain⟨k,j⟩:=zAx.1 d;refine zBm λg=> ?_;have a:e∈l.filter λe=> !cs.contains e.1:=zAx.2 ⟨k,by simpa using g⟩;rw[show(l.filter λe=> !cs.contains e.1)=_ from h]at a;have i:=(zAx.1 a).1;simp[i]at j
def Yv {l w:List oW}{cs:zLL}(hl:eJ l)(g:eJ w)(h:∀I,I∉cs->eK l I=eK w I):Pk cs l w:=by
 refine mX (hl.filter _) (g.filter _) λI=> ?_;by_cases a:I∈cs
 .have k:∀l:List oW,eK (l.filter λe=> !cs.contains e.1) I=aB:=λl=>by
   unfold eK;cases c:(l.filter λe=> !cs.contains e.1).find? λe=>e.1==I with
   |none=>rfl
   |some e=>exfalso;have f:=(zAx.1 (List.mem_of_find?_eq_some c)).2;have d:=List.find?_some c;rw[zDq]at d;rw[d]at f;simp[a]at f
  rw[k,k]
 .rw[get_filter (λe b=>by rw[b];simpa using a),get_filter (λe b=>by rw[b];simpa using a)];exact h I a
def Sm {l w:List oW}{cs:zLL}(h:Pk cs l w)(a:(l.map (·.1)).Nodup):jJ l w 0<=257*cs.length:=by have c:=YE h a;have b:=yQ 256 l w 0 cs h;unfold jJ;rw[show 256-0=256 from rfl];omega
def SH {l:List oW}(h:eJ l):(l.map (·.1)).Nodup:=
 zCw.2 (h.imp λ{a b} h e=>by rw[e,cZ]at h;cases h)
def Sb {us:List bJ}(cs:List bJ)(c:lD us):jJ (bF (bE us cs)) (bF us) 0<=257*cs.length:=by
 have a:eJ (bF us):=zCw.2 c;have h:eJ (bF (bE us cs)):=by rw[lN];exact kG a
 have d:=Yv (cs:=cs.map (·.idx)) h a λI f=>pH cs us λx b e=>f (zBl.2 ⟨x,b,e⟩);have:=Sm d (SH h);rwa [zCl]at this
def QG {cur:zA}{tp:List (Option Nat)}{p:Option Nat}(h:cur.toList.take 1=tp.map ptr)(a:cur[0]? =aA (ptr p)):tp=[p]:=by
 rw[<-zBs]at a;generalize cur.toList=l at h a;cases l with
 |nil=>cases a
 |cons x l=>
  have e:x=ptr p:=zAk a;subst e;match tp,h with
  |[q],h=>rw[NJ (zEi h).1]
  |_::_::_,h=>cases(zEi h).2
section
variable {w:zW}{t k room b cap:Nat}{us:List bJ}
def cQ.zero (h:cQ w t k room b cap [us])(a:us=[]):w.cell? ⟨t,5,aB⟩=aA (aC aD 0):=by
 obtain⟨C,j,c1,c2,c3,c4,c5,c6,m,o,l,L,v,v2,_⟩:=h.row;subst a;obtain⟨p,i,g⟩:=m 0 [] rfl;obtain rfl:=QG l i;have c:p=aB:=by
  cases g with
  |nil=>rfl
  |node e=>simp at e
 subst c;rw[gP]at v2;have:=v.inv.bare v2 λx=>by simp[heldBy,cU]
 rw[v.num,this];rfl
def cQ.single (h:cQ w t k room b cap [us])(m:us.length=1):w.cell? ⟨t,5,aB⟩=aA (aC aD 1):=by
 obtain⟨C,u,c1,c2,c3,c4,c5,c6,A,D,y,L,a,v2,_⟩:=h.row;obtain⟨p,s,r⟩:=A 0 us rfl;obtain rfl:=QG y s;rw[gP]at v2;cases r with
 |nil=>simp at m
 |node E=>omega
 | @leaf b _ _ _ q=>obtain⟨⟨B,z,o⟩,j,e⟩:=zBl.1 (a.inv.Yy (p:=aA b) zAy b rfl);obtain rfl:B=b:=e;obtain⟨i,v,g,c,_⟩:=a.inv.cell _ j;obtain⟨rfl,rfl,_⟩:=eC c q;have:=a.inv.single v2 j λx l=>by{simp[heldBy,cU,zDj l]};rw[a.num,this];rfl
end
def Sf (w:zW)(u:bJ):cH (w.alloc (aJ #[aL ⟨u.idx.toArray⟩,aL ⟨u.val.toArray⟩,.bool u.gone] 53)) w.heap.size (aK (aA ⟨w.heap.size,0,aB⟩) 1 1) [u]:=
 ⟨rfl,aI ⟨w.heap.size,1,_,rfl,zAb _,zGu w _,zAb _,by simp only[maxLen];omega,rfl,rfl⟩⟩
def cP (n:Nat):List bJ:=(List.range n).map λk=>⟨ix k,[],aF⟩
def OT (n:Nat):cP (n+1)=cP n++[⟨ix n,[],aF⟩]:=by unfold cP;rw[List.range_succ,zDk];rfl
def sY (n:Nat):(cP n).length=n:=by simp[cP]
def BM {n:Nat}{u:bJ}(h:u∈cP n):∃k,k<n/\u=⟨ix k,[],aF⟩:=by obtain⟨k,a,rfl⟩:=zBl.1 h;exact⟨k,zCi.1 a,rfl⟩
def BR (x:Int):bJ:=⟨idxOf x,[111,110,101],aG⟩
def Me {s:St}(hs:MJ s)(x:Int):bF (bE (nD s) (bW (cP 64++[BR x])))=[(idxOf x,[111,110,101])]:=by
 rw[lN,vL,qH (vT s)];refine mX (kG (vT s)) (zEt ..) λI=> ?_;rw[nU];have g:cN I (cP 64++[BR x])=cN I (cP 64)++cN I [BR x]:=zDl ..;rw[g];by_cases h:idxOf x=I
 .have c:cN I [BR x]=[BR x]:=zAt (by show(idxOf x==I)=aF;rw[h];exact zFd _);rw[c,List.getLast?_concat];subst h;show aA _=eK _ _;unfold eK;simp;rfl
 .have c:cN I [BR x]=[]:=zAn (by show¬((idxOf x==I)=aF);simpa using h);rw[c,zAq,eM (l:=[(idxOf x,_)]) λe a=>by rw[zAm.1 a];exact h];cases hl:(cN I (cP 64)).getLast? with
  |some u=>have i:u∈cN I (cP 64):=List.mem_of_getLast? hl;obtain⟨k,_,rfl⟩:=BM (zAx.1 i).1;rfl
  |none=>refine eM λe a h=> ?_;obtain⟨k,k1,k2,_⟩:=WL a;have:(⟨ix k,[],aF⟩:bJ)∈cN I (cP 64):=zAx.2 ⟨zBl.2 ⟨k,zCi.2 k1,rfl⟩,by simp[<-h,k2]⟩;rw[zGf.1 hl]at this;cases this
def Fy {us:List bJ}{x:Int}(h:bF us=[(idxOf x,[111,110,101])]):bE us (bW [⟨idxOf x,[],aF⟩])=[]:=by
 have:bF (bE us (bW [⟨idxOf x,[],aF⟩]))=[]:=by have i:eJ [(idxOf x,[111,110,101])]:=zEt ..;rw[lN,h,qH i];refine mX (kG i) List.Pairwise.nil λI=> ?_;rw[nU];by_cases c:idxOf x=I;{have g:cN I [⟨idxOf x,[],aF⟩]=[⟨idxOf x,[],aF⟩]:=zAt (by show(idxOf x==I)=aF;rw[c];exact zFd _);rw[g];rfl};{have g:cN I [⟨idxOf x,[],aF⟩]=[]:=zAn (by show¬((idxOf x==I)=aF);simpa using c);rw[g,eM (l:=[]) λe a=>by cases a];exact eM λe a=>by rw[zAm.1 a];exact c}
 have hl:=congrArg List.length this;rw[eH]at hl;exact zBg hl
def oD (w0:zW)(d tt f n room:Nat)(us:List bJ)(N:Int)(w:zW):Prop:=∃a h b cap S0 H,dO w d 32 20 f a h tt room b cap (S0++[us]) H/\f+S0.length=n/\w.cell? ⟨tt,5,aB⟩=aA (aC aD N)/\w0.heap.size<=a/\w0.heap.size<=b/\w0.heap.size<=d/\w0.heap.size<=tt/\zb w0 w
section
variable {w0 w w':zW}{d tt f n room:Nat}{us:List bJ}{N:Int}
def UA {d c t b:Nat}(a:∀x,¬dD w0 x)(B:zb w0 w)(hs:dJ (kJ w d c t b) w w')(j:w0.heap.size<=c)(i:w0.heap.size<=b)(g:w0.heap.size<=d)(e:w0.heap.size<=t):zb w0 w':=ZT B hs (λx h=>by
 obtain rfl|rfl|rfl|rfl|h:=h
 .exact g
 .exact j
 .exact e
 .exact i
 .exact Nat.le_of_not_lt λbT=>a x (h.same (B.block x bT).symm)) B.size
def oD.below (h:oD w0 d tt f n room us N w)(e:zb w w'):oD w0 d tt f n room us N w':=by obtain⟨c,a,b,cap,S0,H,D,o,g,m,l,j,i,B⟩:=h;exact⟨c,a,b,cap,S0,H,D.below e (zAb _),o,by rw[e.cell (p:=⟨tt,5,aB⟩) D.GC.Qv];exact g,m,l,j,i,bR B e B.size⟩
def oD.base (h:oD w0 d tt f n room us N w):zb w0 w:=by obtain⟨_,_,_,_,_,_,_,_,_,_,_,_,_,B⟩:=h;exact B
def oD.less {room':Nat}(h:oD w0 d tt f n room us N w)(e:room'<=room):oD w0 d tt f n room' us N w:=by obtain⟨c,a,b,cap,S0,H,D,r⟩:=h;exact⟨c,a,b,cap,S0,H,D.less e,r⟩
def oD.cells (h:oD w0 d tt f n room us N w):Calls zq 26 #[aO (aA ⟨d,0,aB⟩)] w λe w'=>e=aM (aC aD N)/\w'=w:=by obtain⟨c,a,b,cap,S0,H,D,i,g,_⟩:=h;exact OE ((D.cell 4).trans rfl) g
def oD.apply {base:Nat}{v:zY}{cs:List bJ}(m:∀x,¬dD w0 x)(h:oD w0 d tt f n (room+1+257*cs.length+1) us N w)(J:cH w base v cs)(hl:cs.length<=200)(l:∀u∈cs,u.idx.length=32/\u.val.length<=100/\(u.gone=aF->u.val=[]))(M:(bE us (bW cs)).length<=400)(U:n+2<=20+f)(V:n<=1000):
  Calls zq 19 #[aO (aA ⟨d,0,aB⟩),v] w (RF λx w'=>∃r:Nat,r<=257*cs.length/\x= .tuple #[aC aD ((n:Int)+1),aC aD 0]/\oD w0 d tt f (n+1) room (bE us (bW cs)) (N+r) w'):=by
 obtain⟨I,s,b,cap,S0,H,D,W,L,P,O,A,z,B⟩:=h;have hlen:(S0++[us]).length=S0.length+1:=by rw[zAc];rfl
 have K:lD us:=(D.GC.st us (by simp)).1.sub.order;have q:=Sb (bW cs) K;have C:=wK cs;refine(Hy S0 us cs v base D J hl l (by rw[hlen];omega) M (by omega) (by omega) (by omega) (by omega)).mono λe w' F=>RF.mono F λx=> ?_;rintro⟨rfl,p,a,Q,c,R,_,y,j,i,E,G⟩;have g:¬20<(S0++[us]).length+1:=by rw[hlen];omega
 obtain⟨r,T,o⟩:=G g;rw[zAv g,zAv g,zAv g]at y;have S:=B.size;refine⟨r,by omega,by rw[hlen,show(f:Int)+((S0.length+1:Nat):Int)=(n:Int)+1 by omega],p,a,Q,c,S0++[us],H++[R],y,by rw[hlen];omega,o N L,by obtain h|h:=j<;>omega,by obtain h|h:=i<;>omega,A,z,UA m B E P O A z⟩
def oD.prune (j:∀x,¬dD w0 x)(h:oD w0 d tt f n (room+20) us N w)(A:n+1<=20+f)(C:n<=1000):
  Calls zq 25 #[aO (aA ⟨d,0,aB⟩),aC aD (n:Int)] w λe w'=>e=aM (aC aD 0)/\∃o,oD w0 d tt n n room us o w'/\(us=[]->o=0)/\(us.length=1->o=1):=by
 obtain⟨l,a,b,cap,S0,H,D,z,E,u,s,q,p,B⟩:=h;have v:=OD (c:=S0.length) (D.less (room':=room+S0.length) (by omega)) (by rw[zAc];simp) (by omega);rw[show((f:Nat):Int)+(S0.length:Int)=(n:Int) by omega]at v;refine v.mono ?_;rintro e w' ⟨rfl,g,y⟩;rw[List.drop_left,z]at g;obtain⟨R,c,m,_⟩:=g.GC.at';refine⟨rfl,c,⟨l,a,b,cap,[],_,g,rfl,m.c5,u,s,q,p,UA j B y u s q p⟩,λi=> ?_,λi=> ?_⟩
 .have:=g.GC.zero i;rw[m.c5]at this;injection this with this;injection this
 .have:=g.GC.single i;rw[m.c5]at this;injection this with this;injection this
end
structure IF (w:zW)(va:zO)(E:List (zII)):Prop where
 TA:∀i l,E[i]? =aA l->∃g o ev,va=aA ⟨g,o,aB⟩/\g<w.heap.size/\w.cell? ⟨g,o+i,aB⟩=aA ev/\uP w ev l/\l.length<=4611686018427387904
def m5 (j:Nat):Nat:=5144*j
def Be (j:Nat):m5 (j+1)=m5 j+5144:=Nat.mul_succ _ _
def Bf {j:Nat}(h:j<=8):m5 j<=41152:=Nat.mul_le_mul_left 5144 h
def Ma {N M n:Nat}(c:N<=M)(b:M<=N+257*n)(a:N<=100000)(h:n<=20):¬((M:Int)<(N:Int))/\wrap64 ((N:Int)+257*(n:Int))=(N:Int)+257*(n:Int)/\¬((N:Int)+257*(n:Int)<(M:Int))/\wrap64 (257*(n:Int))=257*(n:Int):=by unfold wrap64;omega
def rQ (w0:zW)(rs:Nat->zII)(d tt j N:Nat)(w:zW):Prop:=N<=m5 j/\∃r,100000<=r+m5 j/\oD w0 d tt 0 (2*j) r (nD (IQ rs j)) (N:Int) w
section
variable {w0 w w':zW}{rs:Nat->zII}{d tt j N:Nat}
def rQ.below (h:rQ w0 rs d tt j N w)(a:zb w w'):rQ w0 rs d tt j N w':=by obtain⟨e,r,c,b⟩:=h;exact⟨e,r,c,b.below a⟩
def rQ.base (h:rQ w0 rs d tt j N w):zb w0 w:=by obtain⟨c,r,b,a⟩:=h;exact a.base
def rQ.cells (h:rQ w0 rs d tt j N w):Calls zq 26 #[aO (aA ⟨d,0,aB⟩)] w λe w'=>e=aM (aC aD (N:Int))/\w'=w:=by obtain⟨c,r,b,a⟩:=h;exact a.cells
def Ie (w0:zW)(rs:Nat->zII)(d tt j N:Nat)(w:zW):Prop:=N<=m5 (j+1)/\∃r,100000<=r+m5 j+5142/\oD w0 d tt 0 (2*j+1) r (nD (IQ rs (j+1))) (N:Int) w
def Ie.cells (h:Ie w0 rs d tt j N w):Calls zq 26 #[aO (aA ⟨d,0,aB⟩)] w λe w'=>e=aM (aC aD (N:Int))/\w'=w:=by obtain⟨c,r,b,a⟩:=h;exact a.cells
def rQ.apply {base:Nat}{v:zY}(f:∀x,¬dD w0 x)(h:rQ w0 rs d tt j N w)(m:cH w base v (((rs j).take 20).map dH))(p:j<8):
  Calls zq 19 #[aO (aA ⟨d,0,aB⟩),v] w (RF λx w'=>∃M:Nat,N<=M/\M<=N+257*(((rs j).take 20).map dH).length/\x= .tuple #[aC aD (2*(j:Int)+1),aC aD 0]/\Ie w0 rs d tt j M w'):=by
 obtain⟨t,a,s,n⟩:=h;have q0:=Bf (j:=j) (by omega);have q:=Be j;have b:bE (nD (IQ rs j)) (bW (((rs j).take 20).map dH))=nD (IQ rs (j+1)):=Jb (GU rs j) (rs j);have hlen:(((rs j).take 20).map dH).length<=20:=by rw[zCl,zBf];omega
 have i:=Ai (IQ rs (j+1));have H:=(n.less (room':=a-5142+1+257*(((rs j).take 20).map dH).length+1) (by omega)).apply f m (by omega) (λu k=>by obtain⟨r,_,rfl⟩:=zBl.1 k;exact XJ r) (by rw[b];omega) (by omega) (by omega);refine H.mono λe w' l=>RF.mono l λx=> ?_;rintro⟨r,o,rfl,g⟩;rw[b]at g;exact⟨N+r,by omega,by omega,by rw[show((2*j:Nat):Int)+1=2*(j:Int)+1 by omega],by omega,a-5142,by omega,g⟩
def Ie.apply (c:∀x,¬dD w0 x)(h:Ie w0 rs d tt j N w)(p:j<8):
  Calls zq 19 #[aO (aA ⟨d,0,aB⟩),aK aB 0 0] w (RF λx w'=>x= .tuple #[aC aD (2*(j:Int)+1+1),aC aD 0]/\rQ w0 rs d tt (j+1) N w'):=by
 obtain⟨o,a,s,n⟩:=h;have q0:=Bf (j:=j) (by omega);have g:100000<=a-2+m5 (j+1):=by have:=Be j;omega
 have b:bE (nD (IQ rs (j+1))) (bW [])=nD (IQ rs (j+1)):=by rw[qI];rfl
 have i:=Ai (IQ rs (j+1));have H:=(show oD w0 d tt 0 (2*j+1) (a-2+1+257*([]:List bJ).length+1) _ _ _ from n.less (by rw[zAl];omega)).apply (cs:=[]) c (cH.nil w 0) (by simp) (λu k=>by cases k) (by rw[b];omega) (by omega) (by omega);refine H.mono λe w' m=>RF.mono m λx=> ?_;rintro⟨r,l,rfl,f⟩;obtain rfl:r=0:=by simpa using l
 have q:(N:Int)+((0:Nat):Int)=(N:Int):=by omega
 rw[b,q]at f;exact⟨by rw[show((2*j+1:Nat):Int)+1=2*(j:Int)+1+1 by omega],o,a-2,g,f⟩
def Zg (w0:zW)(d tt f n:Nat)(x:Int)(w:zW):Prop:=∃us N,bF us=[(idxOf x,[111,110,101])]/\(f=n->N=1)/\oD w0 d tt f n 10000 us N w
def rQ.last {base:Nat}{v:zY}{x:Int}(f:∀x,¬dD w0 x)(h:rQ w0 rs d tt j N w)(n:cH w base v (cP 64++[BR x]))(m:j<=8):
  Calls zq 19 #[aO (aA ⟨d,0,aB⟩),v] w (RF λy w'=>y= .tuple #[aC aD ((2*j+1:Nat):Int),aC aD 0]/\Zg w0 d tt 0 (2*j+1) x w'):=by
 obtain⟨t,i,s,p⟩:=h;have q0:=Bf m;have hlen:(cP 64++[BR x]).length=65:=by rw[zAc,sY];rfl
 have l:=Me (GU rs j) x;have b:=congrArg List.length l;rw[eH]at b;have H:=(p.less (room':=10000+1+257*(cP 64++[BR x]).length+1) (by rw[hlen];omega)).apply f n (by omega) (λu a=>by
  obtain a|a:=zAh.1 a;{obtain⟨k,_,rfl⟩:=BM a;exact⟨LL k,zBu _,λ_=>rfl⟩}
  .rw[zAm.1 a];exact⟨gJ x,by show 3<=100;omega,λh=>by cases h⟩) (by rw[b];show 1<=400;omega) (by omega) (by omega)
 refine H.mono λe w' g=>RF.mono g λy=> ?_;rintro⟨r,q,rfl,o⟩;exact⟨by rw[show((2*j:Nat):Int)+1=((2*j+1:Nat):Int) by omega],_,_,l,λh=>by omega,o⟩
def JN (w0:zW)(d tt n:Nat)(x:Int)(w:zW):Prop:=∃us,bF us=[(idxOf x,[111,110,101])]/\oD w0 d tt n n 9980 us 1 w
def Zg.prune {n:Nat}{x:Int}(a:∀x,¬dD w0 x)(h:Zg w0 d tt 0 n x w)(i:n<=19):
  Calls zq 25 #[aO (aA ⟨d,0,aB⟩),aC aD (n:Int)] w λe w'=>e=aM (aC aD 0)/\JN w0 d tt n x w':=by
 obtain⟨us,N,c,k,g⟩:=h;refine((g.less (room':=9980+20) (by omega)).prune a (by omega) (by omega)).mono ?_;rintro e w' ⟨rfl,l,b,_,f⟩;have hl:=congrArg List.length c;rw[eH]at hl;rw[f hl]at b;exact⟨rfl,us,c,b⟩
def JN.below {n:Nat}{x:Int}(h:JN w0 d tt n x w)(a:zb w w'):JN w0 d tt n x w':=by obtain⟨us,c,b⟩:=h;exact⟨us,c,b.below a⟩
def JN.cells {n:Nat}{x:Int}(h:JN w0 d tt n x w):Calls zq 26 #[aO (aA ⟨d,0,aB⟩)] w λe w'=>e=aM (aC aD 1)/\w'=w:=by obtain⟨us,b,a⟩:=h;exact a.cells
def JN.apply {base n:Nat}{v:zY}{x:Int}(c:∀x,¬dD w0 x)(h:JN w0 d tt n x w)(k:cH w base v [⟨idxOf x,[],aF⟩])(p:n<=19):
  Calls zq 19 #[aO (aA ⟨d,0,aB⟩),v] w (RF λy w'=>y= .tuple #[aC aD ((n+1:Nat):Int),aC aD 0]/\∃N,oD w0 d tt n (n+1) 9000 [] N w'):=by
 obtain⟨us,m,l⟩:=h;have a:=Fy m;have H:=(l.less (room':=9000+1+257*([⟨idxOf x,[],aF⟩]:List bJ).length+1) (by simp only[zEg];omega)).apply c k (by simp) (λu g=>by rw[zAm.1 g];exact⟨gJ x,zBu _,λ_=>rfl⟩) (by rw[a];exact zBu _) (by omega) (by omega)
 refine H.mono λe w' i=>RF.mono i λy=> ?_;rintro⟨r,o,rfl,f⟩;rw[a]at f;exact⟨by rw[show(n:Int)+1=((n+1:Nat):Int) by omega],_,f⟩
end
def SZ (va:zO)(vc:Nat)(E:List (zII))(r:Int)(w:zW)(hB:Base w)(kh:∀x,¬dD w x)(hE:IF w va E)(hEl:E.length<=4611686018427387904)(h1: -9223372036854775808<=r)(h2:r<=9223372036854775807):
  Calls zq 7 #[aK va E.length vc,aC aD r] w (RF λx w'=>x= .bool aF/\zb w w'):=by
 have HB:Hid (Base w):=hB;have n:Hid (∀x,¬dD w x):=kh;have HE:Hid (IF w va E):=hE;have Z:=λW=>oO r W h1 h2;obtain⟨I,hI⟩:∃I,I=idxOf r:=⟨_,rfl⟩;have yw:Hid (I=idxOf r):=hI;rw[<-hI]at Z;have HI:Hid (∀W,Calls zq 22 #[aC aD r] W λe w'=>e=aM (aL ⟨I.toArray⟩)/\zb W w'):=Z;clear hB hE kh Z hI;obtain⟨A,R⟩:∃A,A=E.length:=⟨_,rfl⟩;have yp:Hid (A=E.length):=R;rw[<-R]at hEl⊢;obtain⟨rs,vo⟩:∃rs:Nat->zII,rs=λj=>E.getD j []:=⟨_,rfl⟩;have HRS:Hid (∀i l,E[i]? =aA l->rs i=l):=λi l h=>by rw[vo];show E.getD i []=l;rw[zDp,h];rfl
 clear R vo;have qe:((32:Nat):Int)=1+fE 31 32:=by decide
 have oa:((20:Nat):Int)=1+fE 19 20:=by decide
 go_enter (Qz.fn func7),ntmps7;go_wp2_with fail;refine(YL w HB.out.iH).mono ?_;rintro e w1 ⟨rfl,U⟩;have B1:Hid (zb w w1):=U;have H1:Hid (Base w1):=HB.out.below U (zAb _);clear U;dsimp only;go_wp2_with fail;refine(JD 31 19 32 20 w1 H1.out (by omega) (by omega) (by omega) (by omega) qe oa).mono ?_;rintro e w2 ⟨d,hb,tt,bb,rfl,hD,g1,g2,g3,g4,b⟩;have J2:Hid (rQ w rs d tt 0 0 w2):=by have hz:=B1.out.size;exact⟨zBu _,100000,zDn _ _,hb,1,bb,1,[],_,hD,rfl,hD.GC.zero rfl,by omega,by omega,by omega,by omega,bR B1.out b B1.out.size⟩
 clear b hD B1 H1 g1 g2 g3 g4;dsimp only;have HC:=J2.out.cells;have c0:((0:Nat):Int)=0:=rfl;rw[c0]at HC;go_wp2_with fail;refine HC.mono ?_;clear HC;rintro e w3 ⟨rfl,hw3⟩;subst hw3;dsimp only;go_wp2_with fail;go_loopg [7] 8 (λq i wr=>∃(j N:Nat),j+q=8/\j<=A/\i=aC aD (j:Int)/\rQ w rs d tt j N wr);case atStart=>exact⟨0,0,by omega,by omega,rfl,J2.out⟩
 case round=>
  obtain⟨j,N,hj,hjn,rfl,hJ⟩:=hrel
  have hN:N<=100000:=zBb hJ.1 (zBb (Bf (j:=j) (by omega)) (by omega))
  have JA:Hid (rQ w rs d tt j N wr):=hJ
  clear hJ J2
  obtain⟨bT,u⟩|⟨bT,u⟩|bT:=(show(j<A/\j<8)\/(j<A/\¬j<8)\/¬j<A by omega)
  .have hu:=zAi (l:=E) (i:=j) (by have:=yp.out;omega);generalize E[j]'(by have:=yp.out;omega)=l at hu;obtain⟨g,o,ev,rfl,hg,v,J,hlen⟩:=HE.out.TA j l hu;have HRL:Hid (rs j=l):=HRS.out j l hu;have HR:Hid (uP w ev l):=J;have B4:Hid (zb w wr):=JA.out.base;have Tj:wr.cell? ⟨g,o+j,aB⟩=aA ev:=by{rw[B4.out.cell (p:=⟨g,o+j,aB⟩) hg];exact v};have km:(j:Int)<(A:Int):=by{omega};have hj2:(j:Int)<8:=by{omega};have Vd:¬((j:Int)<0):=by{omega};have hj3:(0:Int)<=(j:Int):=by{omega};have ze:=JA.out.cells;clear hu J v;go_wp2_with fail;refine ze.mono ?_;clear ze;rintro e w6 ⟨rfl,Q⟩;subst Q;dsimp only;go_wp2_with fail;refine(Ht ev l w6 (HR.out.below B4.out (zAb _)) hlen).mono ?_;rintro e F ⟨v7,rfl,D,y⟩;rw[<-HRL.out]at D;obtain⟨va7,vc7,hv7,_⟩:=D.Tz;subst hv7;have py:(((rs j).take 20).map dH).length<=20:=by{rw[zCl,zBf];omega};have J7:Hid (rQ w rs d tt j N F):=JA.out.below y;have f:=J7.out.apply n.out D u;clear y Tj JA B4 D;generalize(((rs j).take 20).map dH).length=n7 at*;dsimp only;go_wp2_with fail;refine f.mono ?_;clear f J7;rintro e w8 (⟨_,rfl,M,xw,xv,rfl,V⟩|⟨c,rfl,he⟩);rotate_left;{exact⟨rfl,.told he⟩};have J8:Hid (Ie w rs d tt j M w8):=V;have zg:=V.cells;clear V;dsimp only;go_wp2_with fail;refine zg.mono ?_;clear zg;rintro e w9 ⟨rfl,hw9⟩;subst hw9;dsimp only;have zm:=J8.out.apply n.out u;go_wp2_with fail;refine zm.mono ?_;clear zm J8;rintro e P (⟨_,rfl,rfl,a⟩|⟨c,rfl,he⟩);rotate_left;{exact⟨rfl,.told he⟩};have J10:Hid (rQ w rs d tt (j+1) M P):=a;have H:=a.cells;clear a;dsimp only;obtain⟨t1,t2,t3,t4⟩:=Ma xw xv hN py;go_wp2_with fail;refine H.mono ?_;clear H;rintro e zw ⟨rfl,s⟩;subst s;dsimp only;go_wp2;go_roundg (8-(j+1));case measure=>go_light;omega
   case rel=>go_light;exact⟨j+1,M,by omega,by omega,by go_num,J10.out⟩
  all_goals
   first|(have km:¬((j:Int)<(A:Int)):=by omega)|(have km:(j:Int)<(A:Int):=by omega)
   try(have hj2:¬((j:Int)<8):=by omega)
   generalize wr=m at*
   go_wp2_with fail
   go_loopg [15,16] 64 (λq lv x wr=>∃t:Nat,t+q=64/\x=aC aD (t:Int)/\zb m wr/\cH wr m.heap.size lv (cP t))
   case atStart=>exact⟨0,by omega,rfl,zGo _ _,cH.nil _ _⟩
   case round=>
    obtain⟨t,ht,rfl,b1,b2⟩:=hrel
    have BA:Hid (zb m wr):=b1
    have OA:Hid (cH wr m.heap.size u15 (cP t)):=b2
    clear b1 b2
    by_cases bT:t<64
    .have ht0:(t:Int)<64:=by{omega};have B:(cP t).length<=1000000:=by{rw[sY];omega};have HGS:Hid (cP (t+1)=cP t++[⟨ix t,[],aF⟩]):=OT t;go_wp2_with fail;refine(oO (t:Int) _ (by omega) (by omega)).mono ?_;rintro e w2 ⟨rfl,b⟩;have wz:idxOf (t:Int)=ix t:=rfl;rw[wz];clear wz;have O:Hid (zb m w2):=bR BA.out b BA.out.size;have Y:Hid (cH w2 m.heap.size u15 (cP t)):=OA.out.below b (zAb _);have T:m.heap.size<=w2.heap.size:=O.out.size;generalize ix t=im at*;generalize cP t=gt at*;clear b BA OA;dsimp only;go_wp2_with (at_builtin;refine gM rfl _ _ rfl m.heap.size _ _ rfl Y.out ⟨im,[],aF⟩ 1 rfl B T ?_;intro g' K w' k C);go_roundg (64-(t+1));case measure=>go_light;omega
     case rel=>go_light;exact⟨t+1,by omega,by go_num,dT O.out Y.out C (zAb _) O.out.size,by rw[HGS.out];exact k⟩
    .obtain rfl:t=64:=by{omega};have qv:((64:Nat):Int)=64:=rfl;rw[qv];have B:(cP 64).length<=1000000:=by rw[sY];omega
     have yy:Hid (cP 64++[⟨I,[111,110,101],aG⟩]=cP 64++[BR r]):=by unfold BR;show _=_;rw[yw.out]
     go_wp2_with fail;refine(HI.out _).mono ?_;rintro e w2 ⟨rfl,b⟩;have O:Hid (zb m w2):=bR BA.out b BA.out.size;have Y:Hid (cH w2 m.heap.size u15 (cP 64)):=OA.out.below b (zAb _);have T:m.heap.size<=w2.heap.size:=O.out.size;obtain⟨gl,S⟩:∃gl,gl=cP 64:=⟨_,rfl⟩;rw[<-S]at Y B yy;have yz:Hid (gl=cP 64):=S;clear b BA OA S;dsimp only;go_wp2_with (at_builtin;refine gM rfl _ _ rfl m.heap.size _ _ rfl Y.out ⟨I,[111,110,101],aG⟩ 1 rfl B T ?_;intro g' K w3 k C);have J3:rQ w rs d tt j N w3:=JA.out.below (dT O.out Y.out C (zAb _) O.out.size);have O3:cH w3 m.heap.size (aK (aA ⟨g',0,aB⟩) (gl.length+1) K) (cP 64++[BR r]):=by have:=k;rw[yy.out,yz.out]at this;rw[yz.out];exact this
     have f:=J3.last n.out O3 (by omega);clear k C J3 O3 JA O Y;refine f.mono ?_;clear f;rintro e w4 (⟨_,rfl,rfl,xz⟩|⟨c,rfl,he⟩);rotate_left;{exact⟨rfl,.told he⟩};have z:=xz.prune n.out (by omega);clear xz;have L:Hid (2*j+1<=19):=by show _<=_;omega
     generalize 2*j+1=n1 at*;dsimp only;go_wp2_with fail;refine z.mono ?_;clear z;rintro e w5 ⟨rfl,X⟩;have J5:Hid (JN w d tt n1 r w5):=X;have zh:=X.cells;clear X;dsimp only;go_wp2_with fail;refine zh.mono ?_;clear zh;rintro e w6 ⟨rfl,Q⟩;subst Q;dsimp only;go_wp2_with fail;refine(HI.out _).mono ?_;rintro e F ⟨rfl,y⟩;have J7:Hid (JN w d tt n1 r F):=J5.out.below y;clear y J5;dsimp only;go_wp2_with fail;have J8:=J7.out.below ((zGo _ F).alloc (zAb _) (aJ #[aL ⟨I.toArray⟩,aL ⟨#[]⟩,.bool aF] 53));have O8:cH (F.alloc (aJ #[aL ⟨I.toArray⟩,aL ⟨#[]⟩,.bool aF] 53)) F.heap.size (aK (aA ⟨F.heap.size,0,aB⟩) 1 1) [⟨idxOf r,[],aF⟩]:=by rw[<-yw.out];exact Sf F ⟨I,[],aF⟩
     have f:=J8.apply n.out O8 L.out;clear J8 O8 J7;refine f.mono ?_;clear f;rintro e w9 (⟨_,rfl,rfl,N9,xy⟩|⟨c,rfl,he⟩);rotate_left;{exact⟨rfl,.told he⟩};have z:=(xy.less (room':=8000+20) (by omega)).prune n.out (by omega) (by have:=L.out;omega);clear xy;generalize n1+1=n2 at*;dsimp only;go_wp2_with fail;refine z.mono ?_;clear z;rintro e P ⟨rfl,N10,a,G,_⟩;have hz:N10=0:=G (by first|rfl|trivial);subst hz;have B10:Hid (zb w P):=a.base;have H:=a.cells;clear a G;dsimp only;go_wp2_with fail;refine H.mono ?_;clear H;rintro e zw ⟨rfl,s⟩;subst s;dsimp only;go_wp2;go_ret;exact .of ⟨rfl,B10.out⟩
end Go.Proofs.Zq
