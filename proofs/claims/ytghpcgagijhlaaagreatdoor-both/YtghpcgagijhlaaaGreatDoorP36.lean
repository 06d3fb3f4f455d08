import Derived.Shelf.Small.Strs
import Derived.Shelf.SlSortCmp.InsertionK
import Derived.Sort.LotA
import Derived.Shelf.SlicesE.Clone
import Derived.Lib.OwnBridge
import Derived.Test.YtghpcgagijhlaaaGreatDoorP35
set_option linter.all false
set_option maxRecDepth 100000
set_option maxHeartbeats 16000000
open Option renaming some->aA,none->aB
open Bool renaming true->aE,false->aF
open Or renaming inl->aG,inr->aH
open Go.Ending renaming returned->aL
open Go.IntKind renaming i64->aD
open Go.Value renaming slice->aJ,string->aK,int->aC
open Go.Lib renaming compareBytes->aDw
namespace Go.Proofs.Zq
open Go.RowKit Sha
def Diff (cs:List bK)(l w:List gL):Prop:=∀u∈cs,fS l u.idx≠fS w u.idx
def MM (l:List gL)(d b:Nat)(I:zB):fS (cL l d b) I=if bQ I d=b then fS l I else aB:=by
 split
 .rename_i h;exact get_filter (λe g=>by rw[g,h];exact zEp _)
 .rename_i h;unfold fS;cases c:(cL l d b).find? λe=>e.1==I with
  |none=>rfl
  |some e=>exfalso;have i:=List.mem_of_find?_eq_some c;have f:=List.find?_some c;have a:=(zBz.1 i).2;rw[zCk]at f a;rw[f]at a;exact h a
def Diff.half {cs:List bK}{l w:List gL}(h:Diff cs l w)(d b:Nat):Diff (dW d b cs) (cL l d b) (cL w d b):=λu c=>by obtain⟨e,a⟩:=zBz.1 c;rw[MM,MM,zAk (zCk.1 a),zAk (zCk.1 a)];exact h u e
def Diff.ne {cs:List bK}{l w:List gL}(h:Diff cs l w)(a:0<cs.length):l≠w:=λe=>by
 subst e;match cs,a with
 |u::cs,_=>exact h u (zAz ..) rfl
def nR (l w:List gL):Nat:=(l.filter λe=> !w.contains e).length
def GY (l w:List gL)(d:Nat):nR (cL l d 0) (cL w d 0)+nR (cL l d 1) (cL w d 1)=nR l w:=by
 have h:∀b,(cL l d b).filter (λe=> !(cL w d b).contains e)=cL (l.filter λe=> !w.contains e) d b:=λb=>by
  unfold cL;rw[zGh,zGh];apply List.filter_congr;intro e _;cases hb:bQ e.1 d==b with
  |false=>simp
  |true=>
   have:(w.filter λe=>bQ e.1 d==b).contains e=w.contains e:=by rw[Bool.eq_iff_iff,List.contains_iff_mem,List.contains_iff_mem,zBz];exact⟨λh=>h.1,λh=>⟨h,hb⟩⟩
   rw[this]
   simp
 unfold nR
 rw[h 0,h 1]
 exact IH _ d
def yT:∀{l:List gL}{I v:zB},fJ l->(I,v)∈l->fS l I=aA v
 |[],_,_,_,h=>by cases h
 |a::l,I,v,b,h=>by
  obtain⟨d,c⟩:=zDh.1 b;rw[eL];obtain rfl|h:=zAg.1 h
  .rw[zAk rfl]
  .have:=d _ h;rw[zAh (λe=>by rw[e,eD]at this;cases this)];exact yT c h
def fJ.half {l:List gL}(h:fJ l)(d b:Nat):fJ (cL l d b):=h.filter _
def XU (l w:List gL)(d:Nat):Nat:=nR l w+gP (256-d) l w d
def MA {u:bK}{cs:List bK}{w:List gL}{d:Nat}(b:fJ w)(h:Diff cs (bF [u]) w){c:bK}(g:c∈cs)(f:c.idx=u.idx):1<=XU (bF [u]) w d:=by
 have a:=h c g;rw[f]at a;have j:fS (bF [u]) u.idx=aA u.val:=by
  show fS [(u.idx,u.val)] u.idx=_
  rw[eL,zAk rfl]
 rw[j]at a
 have i:w.contains (u.idx,u.val)=aF:=by rw[zFm];intro e;rw[List.contains_iff_mem]at e;exact a (yT b e).symm
 have k:nR (bF [u]) w=1:=by
  show([(u.idx,u.val)].filter _).length=1
  rw[zBj (by rw[i];rfl)]
  rfl
 unfold XU
 omega
def Ey {us cs:List bK}{w:List gL}{d:Nat}(h:Diff cs (bF us) w)(b:2<=us.length)(a:0<cs.length)(c:d<256):
  1+(XU (bF (dW d 0 us)) (cL w d 0) (d+1)+XU (bF (dW d 1 us)) (cL w d 1) (d+1))=XU (bF us) w d:=by
 rw[fX,fX]
 unfold XU
 rw[show 256-d=(256-(d+1))+1 by omega,gP,zAh (λe=>by
  obtain e|e:=e
  .rw[fY]at e;omega
  .exact h.ne a e),<-GY (bF us) w d]
 omega
def gK (u:bK):bK:=⟨u.idx,[],aE⟩
def cP:List bK->List bK->List bK
 |[],n=>n
 |a::b,[]=>(a::b).map gK
 |a::b,n::ns=>
  if aDw a.idx n.idx= -1 then gK a::cP b (n::ns)
  else if aDw a.idx n.idx=1 then n::cP (a::b) ns
  else if a.val≠n.val then n::cP b ns else cP b ns
termination_by a n=>a.length+n.length
def Gg (n:List bK):cP [] n=n:=by rw[cP]
def Gh (a:List bK):cP a []=a.map gK:=by
 cases a with
 |nil=>rw[cP];rfl
 |cons a b=>rw[cP]
def nW:∀(a n:List bK)(u:bK),u∈cP a n->(∃x∈a,u.idx=x.idx)\/∃x∈n,u.idx=x.idx
 |[],n,u,h=>by rw[cP]at h;exact aH ⟨u,h,rfl⟩
 |a::d,[],u,h=>by rw[cP]at h;obtain⟨x,f,rfl⟩:=zDb.1 h;exact aG ⟨x,f,rfl⟩
 |a::d,n::ns,u,h=>by
  rw[cP]at h;have c:(∃x∈d,u.idx=x.idx)->∃x∈a::d,u.idx=x.idx:=λ⟨x,f,e⟩=>⟨x,zBe _ f,e⟩;have b:(∃x∈ns,u.idx=x.idx)->∃x∈n::ns,u.idx=x.idx:=λ⟨x,f,e⟩=>⟨x,zBe _ f,e⟩;split at h
  .obtain rfl|h:=zAg.1 h
   .exact aG ⟨a,zAz ..,rfl⟩
   .exact(nW d (n::ns) u h).imp c id
  .split at h
   .obtain rfl|h:=zAg.1 h
    .exact aH ⟨_,zAz ..,rfl⟩
    .exact(nW (a::d) ns u h).imp id b
   .split at h
    .obtain rfl|h:=zAg.1 h
     .exact aH ⟨_,zAz ..,rfl⟩
     .exact(nW d ns u h).imp c b
    .exact(nW d ns u h).imp c b
termination_by a n=>a.length+n.length
def JM (l:List bK):Prop:=l.Pairwise λa b=>aDw a.idx b.idx= -1
def kJ {I:zB}{a n:List bK}(d:∀x∈a,aDw I x.idx= -1)(c:∀x∈n,aDw I x.idx= -1){u:bK}(h:u∈cP a n):aDw I u.idx= -1:=by
 obtain⟨x,b,e⟩|⟨x,b,e⟩:=nW a n u h
 .rw[e];exact d x b
 .rw[e];exact c x b
def MK {I:zB}{l:List bK}(h:∀x∈l,aDw I x.idx= -1):fS (bF l) I=aB:=by
 unfold fS;rw[List.find?_eq_none.2]
 .rfl
 .intro e c;obtain⟨x,b,rfl⟩:=zDb.1 c;have:=h x b;intro a;rw[zCk]at a;rw[show x.idx=I from a,eD]at this;cases this
def qI (a:bK)(l:List bK)(I:zB):fS (bF (a::l)) I=if a.idx=I then aA a.val else fS (bF l) I:=eL
def yS {a:bK}{l:List bK}{I:zB}(h:aDw a.idx I= -1):fS (bF (a::l)) I=fS (bF l) I:=by rw[qI,zAh (λe=>by rw[e,eD]at h;cases h)]
def qM:∀(a n:List bK),JM a->JM n->JM (cP a n)/\Diff (cP a n) (bF n) (bF a)
 |[],n,_,i=>by rw[cP];refine⟨i,λu b=> ?_⟩;rw[show fS (bF []) u.idx=aB from rfl];have:=yT (I:=u.idx) (v:=u.val) (l:=bF n) (zEz.2 i) (zDb.2 ⟨u,b,rfl⟩);rw[this];simp
 |a::d,[],j,_=>by rw[cP];refine⟨zEz.2 j,λu b=> ?_⟩;obtain⟨x,c,rfl⟩:=zDb.1 b;rw[show fS (bF []) (gK x).idx=aB from rfl];have:=yT (I:=x.idx) (v:=x.val) (l:=bF (a::d)) (zEz.2 j) (zDb.2 ⟨x,c,rfl⟩);rw[show(gK x).idx=x.idx from rfl,this];simp
 |a::d,n::ns,j,i=>by
  obtain⟨p,a2⟩:=zDh.1 j;obtain⟨g,q⟩:=zDh.1 i;rw[cP];by_cases k:aDw a.idx n.idx= -1
  .rw[zAk k];obtain⟨i1,i2⟩:=qM d (n::ns) a2 i;have up:∀x∈n::ns,aDw a.idx x.idx= -1:=λx c=>by
    obtain rfl|c:=zAg.1 c
    .exact k
    .exact kK k (g x c)
   refine⟨zDh.2 ⟨λu b=>kJ p up b,i1⟩,λu b=> ?_⟩;obtain rfl|b:=zAg.1 b
   .rw[show(gK a).idx=a.idx from rfl,MK up,qI,zAk rfl];simp
   .rw[yS (kJ p up b)];exact i2 u b
  .rw[zAh k];by_cases o:aDw a.idx n.idx=1
   .rw[zAk o];have f:aDw n.idx a.idx= -1:=by rw[iW a.idx n.idx,o]
    obtain⟨i1,i2⟩:=qM (a::d) ns j q;have up:∀x∈a::d,aDw n.idx x.idx= -1:=λx c=>by
     obtain rfl|c:=zAg.1 c
     .exact f
     .exact kK f (p x c)
    refine⟨zDh.2 ⟨λu b=>kJ up g b,i1⟩,λu b=> ?_⟩
    obtain rfl|b:=zAg.1 b
    .rw[MK up,qI,zAk rfl];simp
    .rw[yS (kJ up g b)];exact i2 u b
   .rw[zAh o];have e:a.idx=n.idx:=by
     obtain h|h|h:=iA a.idx n.idx
     .exact absurd h k
     .exact mU h
     .exact absurd h o
    obtain⟨i1,i2⟩:=qM d ns a2 q;have m:∀x∈d,aDw n.idx x.idx= -1:=λx c=>by rw[<-e];exact p x c
    have rest:∀u∈cP d ns,fS (bF (n::ns)) u.idx≠fS (bF (a::d)) u.idx:=λu b=>by have r:=kJ m g b;rw[yS r,yS (by rw[e];exact r)];exact i2 u b
    by_cases f:a.val≠n.val
    .rw[zAk f];refine⟨zDh.2 ⟨λu b=>kJ m g b,i1⟩,λu b=> ?_⟩;obtain rfl|b:=zAg.1 b
     .rw[qI,zAk rfl,qI,zAk e];intro h;injection h with h;exact f h.symm
     .exact rest u b
    .rw[zAh f];exact⟨i1,rest⟩
termination_by a n=>a.length+n.length
def Ge {a n:List bK}(c:Sub a 0)(b:Sub n 0):Sub (cP a n) 0:=
 Sub.zero (qM a n c.order b.order).1 λu d=>by
  obtain⟨x,h,e⟩|⟨x,h,e⟩:=nW a n u d
  .rw[e];exact c.idx x h
  .rw[e];exact b.idx x h
def uT:∀(a n:List bK),(cP a n).length<=a.length+n.length
 |[],n=>by rw[cP];simp
 |a::b,[]=>by rw[cP];simp
 |a::b,n::ns=>by
  have d:=uT b (n::ns);have c:=uT (a::b) ns;have h:=uT b ns;rw[cP];simp only[zAe]at*;split
  .simp only[zAe];omega
  .split
   .simp only[zAe];omega
   .split
    .simp only[zAe];omega
    .omega
termination_by a n=>a.length+n.length
def jH (I:zB)(l:List bK):List bK:=l.filter λu=>decide (aDw u.idx I= -1)
def iH (I:zB)(l:List bK):List bK:=l.filter λu=>decide (aDw u.idx I=1)
def VK {I:zB}{l:List bK}(h:∀x∈l,aDw x.idx I=1):jH I l=[]/\iH I l=l:=by
 constructor
 .unfold jH;rw[List.filter_eq_nil_iff];intro x a;rw[h x a];decide
 .unfold iH;rw[zGd];intro x a;rw[h x a];rfl
def UR {a b:zB}(h:aDw a b= -1):aDw b a=1:=by rw[iW a b,h];rfl
def AW (I:zB):∀l:List bK,JM l->(∃x,x.idx=I/\l=jH I l++x::iH I l)\/(l=jH I l++iH I l/\∀x∈l,x.idx≠I)
 |[],_=>aH ⟨rfl,λ_ h=>by cases h⟩
 |a::l,k=>by
  obtain⟨d,m⟩:=zDh.1 k;obtain h|h|h:=iA a.idx I
  .have i:jH I (a::l)=a::jH I l:=by unfold jH;rw[zBj (by rw[h];rfl)]
   have f:iH I (a::l)=iH I l:=by unfold iH;rw[zAu (by rw[h];decide)]
   rw[i,f]
   obtain⟨x,b,e⟩|⟨e,c⟩:=AW I l m
   .exact aG ⟨x,b,by rw[zCs,<-e]⟩
   .refine aH ⟨by rw[zCs,<-e],λx b=> ?_⟩;obtain rfl|b:=zAg.1 b
    .intro e;rw[e,eD]at h;cases h
    .exact c x b
  .have e:=mU h;obtain⟨g,g2⟩:=VK (I:=I) (l:=l) λx b=>by rw[<-e];exact UR (d x b)
   have i:jH I (a::l)=[]:=by unfold jH at g⊢;rw[zAu (by rw[h];decide)];exact g
   have f:iH I (a::l)=l:=by unfold iH at g2⊢;rw[zAu (by rw[h];decide)];exact g2
   rw[i,f]
   exact aG ⟨a,e,rfl⟩
  .have j:aDw I a.idx= -1:=by rw[iW a.idx I,h]
   obtain⟨g,g2⟩:=VK (I:=I) (l:=a::l) λx b=>by
    obtain rfl|b:=zAg.1 b
    .exact h
    .exact UR (kK j (d x b))
   rw[g,g2]
   refine aH ⟨rfl,λx b=> ?_⟩
   obtain rfl|b:=zAg.1 b
   .intro e;rw[e,eD]at h;cases h
   .intro e;have:=kK j (d x b);rw[e,eD]at this;cases this
def qF (u:bK):bK:=⟨u.idx,u.val,aF⟩
def sZ (l:List bK)(u:bK):List bK:=jH u.idx l++((if u.gone then []else [qF u])++iH u.idx l)
def SJ (l:List bK)(u:bK):bF (sZ l u)=BE (bF l) u:=by
 have h:∀q:gL->Bool,bF (l.filter λx=>q (x.idx,x.val))=(bF l).filter q:=λq=>by unfold bF;rw[List.filter_map];rfl
 unfold sZ BE
 rw[<-h,<-h]
 unfold bF jH iH
 rw[zFa,zFa]
 cases u.gone<;>rfl
structure uB (l:List bK):Prop where
 sub:Sub l 0
 val:∀u∈l,u.val.length<=100
 here:∀u∈l,u.gone=aF
def uB.nil:uB []:=⟨⟨List.Pairwise.nil,λ_ h=>(nomatch h),λ_ h=>(nomatch h)⟩,λ_ h=>(nomatch h),λ_ h=>(nomatch h)⟩
def uB.put {l:List bK}(h:uB l){u:bK}(g:u.idx.length=32)(e:u.val.length<=100):uB (sZ l u):=by
 have b:∀x∈sZ l u,x∈l\/(u.gone=aF/\x=qF u):=λx a=>by
  obtain a|a:=zCh.1 a
  .exact aG (zBz.1 a).1
  .obtain a|a:=zCh.1 a
   .cases c:u.gone with
    |true=>rw[c]at a;simp at a
    |false=>rw[c]at a;exact aH ⟨rfl,by simpa using a⟩
   .exact aG (zBz.1 a).1
 have f:JM (sZ l u):=by have d:fJ (BE (bF l) u):=GP (zEz.2 h.sub.order);rw[<-SJ]at d;exact zEz.1 d
 refine⟨Sub.zero f λx a=> ?_,λx a=> ?_,λx a=> ?_⟩
 .obtain a|⟨_,rfl⟩:=b x a
  .exact h.sub.idx x a
  .exact g
 .obtain a|⟨_,rfl⟩:=b x a
  .exact h.val x a
  .exact e
 .obtain a|⟨_,rfl⟩:=b x a
  .exact h.here x a
  .rfl
def bS (l us:List bK):List bK:=us.foldl sZ l
def CZ:∀(us l:List bK),bF (bS l us)=kX (bF l) us
 |[],_=>rfl
 |u::us,l=>by
  show bF (bS (sZ l u) us)=kX (BE (bF l) u) us
  rw[CZ us,SJ]
def uB.kX:∀{us l:List bK},uB l->(∀u∈us,u.idx.length=32/\u.val.length<=100)->uB (bS l us)
 |[],_,h,_=>h
 |u::us,l,h,hu=>by
  show uB (bS (sZ l u) us)
  exact uB.kX (h.put (hu u (zAz ..)).1 (hu u (zAz ..)).2) λx a=>hu x (zBe _ a)
def Jl (l:List bK)(u:bK):(sZ l u).length<=l.length+1:=by
 have b:(jH u.idx l).length+(iH u.idx l).length<=l.length:=by
  unfold jH iH;induction l with
  |nil=>simp
  |cons a l i=>
   obtain h|h|h:=iA a.idx u.idx
   .rw[zBj (by rw[h];rfl),zAu (by rw[h];decide)];simp only[zAe];omega
   .rw[zAu (by rw[h];decide),zAu (by rw[h];decide)];simp only[zAe];omega
   .rw[zAu (by rw[h];decide),zBj (by rw[h];rfl)];simp only[zAe];omega
 unfold sZ
 rw[zAj,zAj]
 split
 .simp only[zBm];omega
 .simp only[zAe,zBm];omega
def uB.same {l m:List bK}(h:uB l)(d:uB m)(e:bF l=bF m):l=m:=by
 have a:∀{x:List bK},uB x->x=(bF x).map λe=>⟨e.1,e.2,aF⟩:=λ{x} b=>by
  unfold bF;rw[zFc];conv=>lhs;rw[<-List.map_id x]
  apply zFs
  intro u c
  have:=b.here u c
  cases u
  simp only at this
  subst this
  rfl
 rw[a h,a d,e]
end Go.Proofs.Zq
namespace Go.Proofs
open Go.Shelf
def Qz.TM:Go.Shelf.Ren:=⟨λ|106=>63|213=>89|265=>103|n=>n,λ|9=>9|3=>3|n=>n,λ|n=>n⟩
def Qz.Qj:Go.Proofs.Lays.n106 zq Qz.TM:={
 mixed:=by kernel_rfl
 f106:=Qz.func63.trans (congrArg aA (by kernel_rfl))
 f213:=Qz.func89.trans (congrArg aA (by kernel_rfl))
 f265:=Qz.func103.trans (congrArg aA (by kernel_rfl))
 t3:=((Qz.cO 3).trans Tryz.underlying3)
 a3:=(λw=>(Qz.isAgg w 3).trans (Tryz.isAgg3 w))
 z3:=(λw=>(Qz.sizeOf w 3).trans (Tryz.sizeOf3 w))
 v3:=(λw=>(Qz.zeroValue w 3).trans (Tryz.zeroValue3 w))
 t9:=((Qz.cO 9).trans Tryz.underlying9)
 a9:=(λw=>(Qz.isAgg w 9).trans (Tryz.isAgg9 w))
 z9:=(λw=>(Qz.sizeOf w 9).trans (Tryz.sizeOf9 w))
 v9:=(λw=>(Qz.zeroValue w 9).trans (Tryz.zeroValue9 w))}
open Go.RowKit in
def Qz.strings_Compare (a b:ByteArray)(w:zW):
  Calls zq 63 #[aK a,aK b] w λe c=>e=aL (aC aD (aDw a.data.toList b.data.toList))/\c=w:=Any.strings_Compare Qz.Qj a b w
end Go.Proofs
namespace Go.Proofs.Zq
open Go.RowKit Sha
instance:Inhabited bK:=⟨⟨[],[],aF⟩⟩
def KS (x y:bK):Int:=aDw x.idx y.idx
def yK (x y:bK):ltOf KS x y=aE↔aDw x.idx y.idx= -1:=by unfold ltOf KS;rw[zBs];obtain h|h|h:=iA x.idx y.idx<;>omega
def dv:Go.Sort.SWO (ltOf KS):=by
 refine⟨λx=> ?_,λx y z d c=> ?_,λx y z d c=> ?_⟩
 .rw[zFm,Ne,yK,eD];decide
 .rw[yK]at*;exact kK d c
 .rw[zFm,Ne,yK]at*;intro h;have i:=iW x.idx y.idx;have g:=iW y.idx z.idx;obtain a|a|a:=iA x.idx y.idx
  .exact d a
  .rw[mU a]at h;exact c h
  .obtain b|b|b:=iA y.idx z.idx
   .exact c b
   .rw[<-mU b]at h;exact d h
   .have e:aDw y.idx x.idx= -1:=by omega
    have f:=kK e h;omega
def kZ (I:zB)(l:List bK):List bK:=l.filter λu=>u.idx==I
def Iv {α:Type}(A B:List α)(x y:α):((A++x::y::B).set (A.length+1) x).set A.length y=A++y::x::B:=by
 induction A with
 |nil=>rfl
 |cons a A i=>simp only[zCs,zAe,zDg,i]
def Dg {α:Type} [Inhabited α] (d:Array α)(j:Nat)(h:j+1<d.size):
  ∃A B,d.toList=A++d[j]! ::d[j+1]! ::B/\(Go.Sort.swp d (j+1) j).toList=A++d[j+1]! ::d[j]! ::B:=by
 have b:j<d.toList.length:=by simpa using Nat.lt_of_succ_lt h
 have a:j+1<d.toList.length:=by simpa using h
 have f:d[j]! =d.toList[j]:=by rw[zGe d j (by simpa using b)];simp
 have e:d[j+1]! =d.toList[j+1]:=by rw[zGe d (j+1) h];simp
 have c:d.toList=d.toList.take j++d.toList[j]::d.toList[j+1]::d.toList.drop (j+2):=by rw[<-zFo a,<-zFo b,zDr]
 have g:(d.toList.take j).length=j:=by rw[zAn];omega
 refine⟨d.toList.take j,d.toList.drop (j+2),by rw[f,e];exact c,?_⟩
 unfold Go.Sort.swp
 rw[zDy,zDy,f,e]
 have:=Iv (d.toList.take j) (d.toList.drop (j+2)) d.toList[j] d.toList[j+1]
 rw[<-c,g]at this
 exact this
def Ox (I:zB)(d:Array bK)(j:Nat)(h:j+1<d.size)(f:ltOf KS d[j+1]! d[j]! =aE):kZ I (Go.Sort.swp d (j+1) j).toList=kZ I d.toList:=by
 obtain⟨A,B,i,g⟩:=Dg d j h;rw[yK]at f;have c:(d[j+1]!).idx≠(d[j]!).idx:=λe=>by rw[e,eD]at f;cases f
 rw[i,g]
 unfold kZ
 rw[zEd,zEd]
 congr 1
 by_cases b:(d[j]!).idx=I
 .have a:(d[j+1]!).idx≠I:=λe=>c (e.trans b.symm);rw[zAu (by simpa using a),zBj (by simpa using b),zBj (by simpa using b),zAu (by simpa using a)]
 .by_cases a:(d[j+1]!).idx=I
  .rw[zBj (by simpa using a),zAu (by simpa using b),zAu (by simpa using b),zBj (by simpa using a)]
  .rw[zAu (by simpa using a),zAu (by simpa using b),zAu (by simpa using b),zAu (by simpa using a)]
def size_swp {α:Type} [Inhabited α] (d:Array α)(i j:Nat):(Go.Sort.swp d i j).size=d.size:=by unfold Go.Sort.swp;simp
def TR (I:zB)(a:Nat):∀(j:Nat)(d:Array bK),j<d.size->kZ I (Go.Sort.insInner (ltOf KS) a j d).toList=kZ I d.toList/\(Go.Sort.insInner (ltOf KS) a j d).size=d.size
 |0,_,_=>⟨rfl,rfl⟩
 |j+1,d,h=>by
  rw[Go.Sort.insInner];split
  .rename_i b;rw[zBd]at b;obtain⟨e,c⟩:=TR I a j (Go.Sort.swp d (j+1) j) (by rw[size_swp];omega);exact⟨e.trans (Ox I d j h b.2),c.trans (size_swp _ _ _)⟩
  .exact⟨rfl,rfl⟩
def GU (I:zB)(a b:Nat):∀(m i:Nat)(d:Array bK),b-i=m->b<=d.size->kZ I (Go.Sort.insOuter (ltOf KS) a b i d).toList=kZ I d.toList/\(Go.Sort.insOuter (ltOf KS) a b i d).size=d.size
 |0,i,d,hm,_=>by rw[Go.Sort.insOuter,zAh (by omega)];exact⟨rfl,rfl⟩
 |m+1,i,d,hm,hb=>by rw[Go.Sort.insOuter,zAk (by omega)];obtain⟨f,e⟩:=TR I a i d (by omega);obtain⟨c,h⟩:=GU I a b m (i+1) (Go.Sort.insInner (ltOf KS) a i d) (by omega) (by omega);exact⟨c.trans f,h.trans e⟩
def cE (us:List bK):List bK:=(Go.Sort.insertionSort (ltOf KS) us.toArray 0 us.length).toList
def FL (I:zB)(us:List bK):kZ I (cE us)=kZ I us:=by have:=(GU I 0 us.length _ 1 us.toArray rfl (by simp)).1;simpa [cE,Go.Sort.insertionSort]using this
def mI (us:List bK):(cE us).length=us.length:=by have:=(GU [] 0 us.length _ 1 us.toArray rfl (by simp)).2;simpa [cE,Go.Sort.insertionSort]using this
def RE (us:List bK)(u:bK):u∈cE us↔u∈us:=by
 have h:∀l:List bK,u∈l↔u∈kZ u.idx l:=λl=>by unfold kZ;rw[zBz];simp
 rw[h,h us,FL]
def JW (us:List bK):(cE us).Pairwise λx y=>aDw y.idx x.idx≠-1:=by
 have c:=(Go.Sort.insertionSort_holds (lt:=ltOf KS) dv us.toArray 0 us.length (zBp _) (by simp)).2;have d:=mI us;rw[List.pairwise_iff_getElem];intro i j g f a;have h:=c i j (zBp _) a (by omega);have b:(Go.Sort.insertionSort (ltOf KS) us.toArray 0 us.length).size=us.length:=by simpa [cE]using d
 rw[zGe _ j (by omega),zGe _ i (by omega)]at h
 intro e
 have:ltOf KS (cE us)[j] (cE us)[i]=aE:=(yK _ _).2 e
 simp only[cE,Array.getElem_toList]at this
 rw[this]at h
 cases h
def gZ:List bK->List bK
 |[]=>[]
 |[u]=>[u]
 |u::v::r=>if v.idx=u.idx then gZ (v::r)else u::gZ (v::r)
def dU (us:List bK):List bK:=gZ (cE us)
def rH:∀{l:List bK}{u:bK},u∈gZ l->u∈l
 |[],_,h=>h
 |[_],_,h=>h
 |a::b::r,u,h=>by
  rw[gZ]at h;split at h
  .exact zBe _ (rH h)
  .obtain h|h:=zAg.1 h
   .rw[h];exact zAz ..
   .exact zBe _ (rH h)
def qZ {us:List bK}{u:bK}(h:u∈dU us):u∈us:=(RE us u).1 (rH h)
def DM (I:zB):∀{l:List bK},(l.Pairwise λx y=>aDw y.idx x.idx≠-1)->(kZ I (gZ l)).getLast? =(kZ I l).getLast?
 |[],_=>rfl
 |[u],_=>rfl
 |a::b::r,h=>by
  have i:=DM I (zDh.1 h).2;rw[gZ];split
  .rename_i d;rw[i];unfold kZ;by_cases c:a.idx=I
   .have e:b.idx=I:=d.trans c;rw[zBj (a:=a) (by simpa using c),zBj (a:=b) (by simpa using e),List.getLast?_cons_cons]
   .rw[zAu (a:=a) (by simpa using c)]
  .unfold kZ at*;by_cases c:a.idx=I
   .rw[zBj (a:=a) (by simpa using c),zBj (a:=a) (by simpa using c),List.getLast?_cons,List.getLast?_cons,i]
   .rw[zAu (a:=a) (by simpa using c),zAu (a:=a) (by simpa using c),i]
def RZ (I:zB)(us:List bK):(kZ I (dU us)).getLast? =(kZ I us).getLast? :=by rw[dU,DM I (JW us),FL]
def wP (I:zB):∀(us:List bK)(l:List gL),fS (kX l us) I=match(kZ I us).getLast? with|some u=>(if u.gone then aB else aA u.val)|none=>fS l I
 |[],_=>rfl
 |u::us,l=>by
  show fS (kX (BE l u) us) I=_
  rw[wP I us (BE l u),get_put]
  unfold kZ
  by_cases h:u.idx=I
  .rw[zBj (by simpa using h),List.getLast?_cons,zAk h];cases(us.filter λu=>u.idx==I).getLast? <;>rfl
  .rw[zAu (by simpa using h),zAh h]
def OD {l:List gL}(h:fJ l)(us:List bK):kX l (dU us)=kX l us:=
 LU (xZ h) (xZ h) λI=>by rw[wP,wP,RZ]
end Go.Proofs.Zq
namespace Go.Proofs
open Go.Shelf
def Qz.ZF:Go.Shelf.Ren:=⟨λ|41=>60|n=>n,λ|22=>48|23=>53|4=>4|n=>n,λ|n=>n⟩
def Qz.Mf:Go.Proofs.SlLaysE0.n41 zq Qz.ZF:={
 mixed:=by kernel_rfl
 f41:=⟨Tryz.f60.name,by decide,Qz.func60.trans (congrArg aA (by kernel_rfl))⟩
 t4:=((Qz.cO 4).trans Tryz.underlying4)
 a4:=(λw=>(Qz.isAgg w 4).trans (Tryz.isAgg4 w))
 z4:=(λw=>(Qz.sizeOf w 4).trans (Tryz.sizeOf4 w))
 v4:=(λw=>(Qz.zeroValue w 4).trans (Tryz.zeroValue4 w))
 t22:=((Qz.cO 48).trans Tryz.underlying48)
 a22:=(λw=>(Qz.isAgg w 48).trans (Tryz.isAgg48 w))
 z22:=(λw=>(Qz.sizeOf w 48).trans (Tryz.sizeOf48 w))
 v22:=(λw=>(Qz.zeroValue w 48).trans (Tryz.zeroValue48 w))}
def Qz.Ko:Go.Shelf.Ren:=⟨λ|20=>101|n=>n,λ|24=>53|22=>48|3=>3|25=>120|4=>4|0=>0|n=>n,λ|n=>n⟩
def Qz.fq:Go.Proofs.SlLaysF0.n20 zq Qz.Ko:={
 mixed:=by kernel_rfl
 f20:=⟨Tryz.f101.name,by decide,Qz.func101.trans (congrArg aA (by kernel_rfl))⟩
 t0:=((Qz.cO 0).trans Tryz.underlying0)
 a0:=(λw=>(Qz.isAgg w 0).trans (Tryz.isAgg0 w))
 z0:=(λw=>(Qz.sizeOf w 0).trans (Tryz.sizeOf0 w))
 v0:=(λw=>(Qz.zeroValue w 0).trans (Tryz.zeroValue0 w))
 t3:=((Qz.cO 3).trans Tryz.underlying3)
 a3:=(λw=>(Qz.isAgg w 3).trans (Tryz.isAgg3 w))
 z3:=(λw=>(Qz.sizeOf w 3).trans (Tryz.sizeOf3 w))
 v3:=(λw=>(Qz.zeroValue w 3).trans (Tryz.zeroValue3 w))
 t4:=((Qz.cO 4).trans Tryz.underlying4)
 a4:=(λw=>(Qz.isAgg w 4).trans (Tryz.isAgg4 w))
 z4:=(λw=>(Qz.sizeOf w 4).trans (Tryz.sizeOf4 w))
 v4:=(λw=>(Qz.zeroValue w 4).trans (Tryz.zeroValue4 w))
 t22:=((Qz.cO 48).trans Tryz.underlying48)
 a22:=(λw=>(Qz.isAgg w 48).trans (Tryz.isAgg48 w))
 z22:=(λw=>(Qz.sizeOf w 48).trans (Tryz.sizeOf48 w))
 v22:=(λw=>(Qz.zeroValue w 48).trans (Tryz.zeroValue48 w))
 t25:=((Qz.cO 120).trans Tryz.underlying120)
 a25:=(λw=>(Qz.isAgg w 120).trans (Tryz.isAgg120 w))
 z25:=(λw=>(Qz.sizeOf w 120).trans (Tryz.sizeOf120 w))
 v25:=(λw=>(Qz.zeroValue w 120).trans (Tryz.zeroValue120 w))}
end Go.Proofs
namespace Go.Proofs.Zq
open Go.RowKit Sha Go.Shelf Go.Sort
def Md (x y:bK)(W:zW):Calls zq 62 #[.agg x.cells.toArray,.agg y.cells.toArray] W λe w=>e=aL (aC aD (KS x y))/\∃q o,w=grow (W.drewN q) o:=by have h:=λb=>Qz.strings_Compare ⟨x.idx.toArray⟩ ⟨y.idx.toArray⟩ b;have a:aDw (⟨x.idx.toArray⟩:ByteArray).data.toList (⟨y.idx.toArray⟩:ByteArray).data.toList=KS x y:=rfl;rw[a]at h;generalize KS x y=r at*;clear a;unfold bK.cells;go_enter Qz.func62,Tryz.ntmps62;go_wp2_with (go_at_call 63;refine(h _).mono ?_;rintro e w ⟨rfl,rfl⟩);go_ret;exact⟨rfl,0,_,by rw[alloc_eq_grow,alloc_eq_grow,grow_grow];rfl⟩
def Me (blk off size:Nat)(w:zW):CmpLays zq 62 #[] bK.cells 3 KS blk off size w:=λ_ _ _ _ x y=>Md x y _
def Vd:∀args w,(callFunc 62 args).run zq w= .ok (.enter 62 args) w:=enters_of Qz.func62 (by kernel_rfl) rfl
def OU (g cap a b:Nat)(d:Array bK)(w:zW)(k:HoldsK bK.cells 3 w g 0 d)(i:g<w.heap.size)(h:a<=b)(j:b<=d.size)(f:d.size<=1000):
  Calls zq 101 #[aJ (aA ⟨g,0,aB⟩) d.size cap,aC aD a,aC aD b,.func (.func 62) #[] #[]] w λe c=>
   e=aL (.tuple #[])/\∃n os,c=sortWorldK bK.cells 3 w g 0 n (insertionSort (ltOf KS) d a b) os:=
 AnyQ.insertionSortCmpFunc Qz.fq 3 (λw=>(Qz.isAgg w 53).trans (Tryz.isAgg53 w)) (λw=>(Qz.sizeOf w 53).trans (Tryz.sizeOf53 w)) bK.cells (λ_=>rfl) EH KS 62 #[] g 0 cap a b d w Vd (Me g 0 d.size w) k i h j (by omega)
def MP (us:List bK)(i:Nat)(u:bK)(h:us[i]? =aA u)(j:Nat)(c:j<3):(flatK bK.cells 3 us.toArray)[i*3+j]! =(u.cells[j]?).getD default/\i*3+j<(flatK bK.cells 3 us.toArray).size:=by
 have b:=(zAi.1 h).1;have a:i*3+j<us.toArray.size*3:=by simp only[zAl];omega
 refine⟨?_,by rw[size_flatK];exact a⟩
 rw[get_flatK _ _ _ _ a,show(i*3+j)/3=i by omega,show(i*3+j)%3=j by omega]
 have e:us.toArray[i]! =u:=by rw[zGe us.toArray i (by simpa using b)];simpa using(zAi.1 h).2
 rw[e,List.getElem!_eq_getElem?_getD]
def Fi {w:zW}{base g cap:Nat}{us:List bK}(h:cI w base (aJ (aA ⟨g,0,aB⟩) us.length cap) us):HoldsK bK.cells 3 w g 0 us.toArray:=by
 intro t d;rw[size_flatK,zAl]at d;have e:t/3<us.length:=by omega
 have a:us[t/3]? =aA us[t/3]:=zAf e
 have c:=(MP us (t/3) _ a (t%3) (zFu _ (by omega))).1
 have b:=h.cellAt (t/3) _ a (t%3) (zFu _ (by omega))
 rw[show t/3*3+t%3=t by omega]at c b
 refine⟨?_,World.ownsRow.frozenAt h _⟩
 rw[zAv,b,c]
 have:t%3<(us[t/3]).cells.length:=zFu _ (by omega)
 rw[zAf this];rfl
def ZI {w:zW}{g:Nat}{us:List bK}(h:HoldsK bK.cells 3 w g 0 us.toArray)(i:Nat)(u:bK)(b:us[i]? =aA u)(j:Nat)(a:j<3):w.cell? ⟨g,i*3+j,aB⟩=u.cells[j]? :=by obtain⟨d,c⟩:=MP us i u b j a;have:=(h (i*3+j) c).1;rw[zAv,d]at this;rw[this];have:j<u.cells.length:=a;rw[zAf this];rfl
def pU {B:Nat}{w0 w:zW}{g n:Nat}{d:Array bK}{os:zJ}(h:Below B w0 w)(c:B<=g)(e:B<=w.heap.size):Below B w0 (sortWorldK bK.cells 3 w g 0 n d os):=by
 have a:Below B w0 (putRow id (Go.Sort.ahead w n) g 0 (flatK bK.cells 3 d)):=Lib.below_putRow h c;refine⟨a.os,a.tape,a.output,?_,λk b=> ?_⟩
 .show _<=(_++os).size
  rw[zEb];exact zBl a.size (Nat.le_add_right _ _)
 .show(_++os)[k]? =_
  rw[zDk (by show k<(putRow id (Go.Sort.ahead w n) g 0 (flatK bK.cells 3 d)).heap.size;rw[size_putRow];show k<w.heap.size;omega)];exact a.block k b
def NY {w:zW}{g n:Nat}{d:Array bK}{os:zJ}:w.heap.size<=(sortWorldK bK.cells 3 w g 0 n d os).heap.size:=size_sortWorldK_c bK.cells 3 w g 0 n d os
def Kl (d:Array bK)(a b:Nat)(h:b<=a+1):insertionSort (ltOf KS) d a b=d:=by unfold insertionSort;exact insOuter_stop _ a b (a+1) d (by omega)
def WH (base g cap:Nat)(us:List bK)(w:zW)(i:cI w base (aJ (aA ⟨g,0,aB⟩) us.length cap) us)(v:base<=g)(p:g<w.heap.size)(L:us.length<=20):
  Calls zq 88 #[aJ (aA ⟨g,0,aB⟩) us.length cap,aC aD us.length,.func (.func 62) #[] #[]] w λe d=>
   e=aL (.tuple #[])/\HoldsK bK.cells 3 d g 0 (cE us).toArray/\Below base w d:=by
 have H0:Hid (HoldsK bK.cells 3 w g 0 us.toArray):=Fi i
 have u:Hid ((insertionSort (ltOf KS) us.toArray 0 us.length)=(cE us).toArray):=by show _=_;simp[cE]
 have k:=mI us
 have s:base<=w.heap.size:=by omega
 clear i
 by_cases E:us.length=20
 .have c:=OU g cap 0 us.length us.toArray w H0.out p (zBp _) (by simp) (by simp;omega);rw[u.out]at c;have r:∀w1,HoldsK bK.cells 3 w1 g 0 (cE us).toArray->g<w1.heap.size->Calls zq 101 #[aJ (aA ⟨g,0,aB⟩) us.length cap,aC aD us.length,aC aD us.length,.func (.func 62) #[] #[]] w1 λe d=>e=aL (.tuple #[])/\∃n os,d=sortWorldK bK.cells 3 w1 g 0 n (cE us).toArray os:=λw1 m l=>by
   have h:=OU g cap us.length us.length (cE us).toArray w1 m l (zAa _) (by simp;omega) (by simp;omega);rw[Kl _ _ _ (by omega)]at h;rw[show(cE us).toArray.size=us.length by simp[k]]at h;exact h
  have t:Hid (∀w1,HoldsK bK.cells 3 w1 g 0 (cE us).toArray->g<w1.heap.size->Calls zq 101 #[aJ (aA ⟨g,0,aB⟩) us.length cap,aC aD us.length,aC aD us.length,.func (.func 62) #[] #[]] w1 λe d=>e=aL (.tuple #[])/\∃n os,d=sortWorldK bK.cells 3 w1 g 0 n (cE us).toArray os):=r;rw[show us.toArray.size=us.length by simp]at c;have z:Hid (∀n os,HoldsK bK.cells 3 (sortWorldK bK.cells 3 w g 0 n (cE us).toArray os) g 0 (cE us).toArray):=λn os=>holdsK_sortWorldK_c bK.cells 3 w g 0 us.toArray _ n os H0.out p (by simp[k]);have y:Hid (∀w1,HoldsK bK.cells 3 w1 g 0 (cE us).toArray->g<w1.heap.size->∀n os,HoldsK bK.cells 3 (sortWorldK bK.cells 3 w1 g 0 n (cE us).toArray os) g 0 (cE us).toArray):=λw1 m l n os=>holdsK_sortWorldK_c bK.cells 3 w1 g 0 _ _ n os m l rfl;clear r u;generalize(cE us).toArray=D at*;rw[E]at*;have j:Calls zq 101 #[aJ (aA ⟨g,0,aB⟩) 20 cap,aC aD 0,aC aD 20,.func (.func 62) #[] #[]] w λe d=>e=aL (.tuple #[])/\∃n os,d=sortWorldK bK.cells 3 w g 0 n D os:=c;have A:Hid (∀w1,HoldsK bK.cells 3 w1 g 0 D->g<w1.heap.size->Calls zq 101 #[aJ (aA ⟨g,0,aB⟩) 20 cap,aC aD 20,aC aD 20,.func (.func 62) #[] #[]] w1 λe d=>e=aL (.tuple #[])/\∃n os,d=sortWorldK bK.cells 3 w1 g 0 n D os):=t.out;have H:Hid (Calls zq 101 #[aJ (aA ⟨g,0,aB⟩) 20 cap,aC aD 0,aC aD 20,.func (.func 62) #[] #[]] w λe d=>e=aL (.tuple #[])/\∃n os,d=sortWorldK bK.cells 3 w g 0 n D os):=j;clear c j t E;show Calls zq 88 #[aJ (aA ⟨g,0,aB⟩) 20 cap,aC aD 20,.func (.func 62) #[] #[]] w _
  go_enter Qz.func88,Tryz.ntmps88
  go_wp2_with fail
  go_loopg [7,8] 1 (λq a b wr=>(q=1/\a=aC aD 0/\b=aC aD 20/\wr=w)\/(q=0/\a=aC aD 20/\b=aC aD 40/\HoldsK bK.cells 3 wr g 0 D/\Below base w wr/\g<wr.heap.size))
  case atStart=>exact aG ⟨rfl,rfl,rfl,rfl⟩
  case round=>
   obtain⟨rfl,rfl,rfl,rfl⟩|⟨rfl,rfl,rfl,m,l,F⟩:=hrel
   .go_wp2_with fail;refine H.out.mono ?_;rintro e w1 ⟨rfl,f,o,rfl⟩;go_wp2_with fail;go_roundg 0;case measure=>omega
    case rel=>
     go_light
     exact aH ⟨rfl,rfl,rfl,z.out f o,pU (zGp _ _) v s,zAc p NY⟩
   .have H1:Hid (HoldsK bK.cells 3 wr g 0 D):=m;have I:Hid (Below base w wr):=l;have G:Hid (g<wr.heap.size):=F;clear m l F;go_wp2_with fail;refine(A.out wr H1.out G.out).mono ?_;rintro e w1 ⟨rfl,f,o,rfl⟩;have C:Hid (HoldsK bK.cells 3 (sortWorldK bK.cells 3 wr g 0 f D o) g 0 D):=y.out wr H1.out G.out f o;have B:Hid (Below base w (sortWorldK bK.cells 3 wr g 0 f D o)):=pU I.out v (zBl (by omega) I.out.size);generalize sortWorldK bK.cells 3 wr g 0 f D o=w2 at*;go_wp2_with fail;go_loopg [6] 0 (λq x w3=>x=aC aD 20/\w3=w2);case atStart=>exact⟨rfl,rfl⟩
    case round=>
     obtain⟨rfl,rfl⟩:=hrel
     go_wp2_with fail
     go_end0
     exact⟨rfl,C.out,B.out⟩
 .have c:=OU g cap 0 us.length us.toArray w H0.out p (zBp _) (by simp) (by simp;omega);rw[u.out]at c;rw[show us.toArray.size=us.length by simp]at c;have z:Hid (∀n os,HoldsK bK.cells 3 (sortWorldK bK.cells 3 w g 0 n (cE us).toArray os) g 0 (cE us).toArray):=λn os=>holdsK_sortWorldK_c bK.cells 3 w g 0 us.toArray _ n os H0.out p (by simp[k]);clear u;generalize(cE us).toArray=D at*;have H:Hid (Calls zq 101 #[aJ (aA ⟨g,0,aB⟩) us.length cap,aC aD 0,aC aD us.length,.func (.func 62) #[] #[]] w λe d=>e=aL (.tuple #[])/\∃n os,d=sortWorldK bK.cells 3 w g 0 n D os):=c;clear c H0;have K:¬((20:Int)<=(us.length:Int)):=by omega
  have J:¬((20:Int)<(us.length:Int)):=by omega
  generalize us.length=n at*
  go_enter Qz.func88,Tryz.ntmps88
  go_wp2_with fail
  go_loopg [7,8] 0 (λq a b wr=>a=aC aD 0/\b=aC aD 20/\wr=w)
  case atStart=>exact⟨rfl,rfl,rfl⟩
  case round=>
   obtain⟨rfl,rfl,rfl⟩:=hrel
   go_wp2_with fail
   refine H.out.mono ?_
   rintro e w1 ⟨rfl,f,o,rfl⟩
   have C:Hid (HoldsK bK.cells 3 (sortWorldK bK.cells 3 wr g 0 f D o) g 0 D):=z.out f o
   have B:Hid (Below base wr (sortWorldK bK.cells 3 wr g 0 f D o)):=pU (zGp _ _) v s
   generalize sortWorldK bK.cells 3 wr g 0 f D o=w2 at*
   go_wp2_with fail
   go_loopg [6] 0 (λq x w3=>x=aC aD 20/\w3=w2)
   case atStart=>exact⟨rfl,rfl⟩
   case round=>
    obtain⟨rfl,rfl⟩:=hrel
    go_wp2_with fail
    go_end0
    exact⟨rfl,C.out,B.out⟩
def FM (base g cap:Nat)(us:List bK)(w:zW)(h:cI w base (aJ (aA ⟨g,0,aB⟩) us.length cap) us)(f:base<=g)(c:g<w.heap.size)(a:us.length<=20):
  Calls zq 61 #[aJ (aA ⟨g,0,aB⟩) us.length cap,.func (.func 62) #[] #[]] w λe b=>
   e=aL (.tuple #[])/\HoldsK bK.cells 3 b g 0 (cE us).toArray/\Below base w b:=by
 have d:=WH base g cap us w h f c a
 clear h
 generalize us.length=n at*
 generalize(cE us).toArray=D at*
 go_enter Qz.func61,Tryz.ntmps61
 go_wp2_with fail
 refine d.mono ?_
 rintro e w1 ⟨rfl,j,i⟩
 go_wp2_with fail
 go_end0
 exact⟨rfl,j,i⟩
def ZX (w:zW)(v:zY)(us:List bK):Prop:=(us=[]/\∃a c,v=aJ a 0 c)\/∃g o c,v=aJ (aA ⟨g,o,aB⟩) us.length c/\g<w.heap.size/\∀j u,(bH us)[j]? =aA u->w.cell? ⟨g,o+j,aB⟩=aA u
def IZ (g o c:Nat)(us:List bK)(w:zW)(n:us.length<=1000)(m:∀j u,(bH us)[j]? =aA u->w.cell? ⟨g,o+j,aB⟩=aA u):
  Calls zq 60 #[aJ (aA ⟨g,o,aB⟩) us.length c] w λe b=>∃v,e=aL v/\cI b w.heap.size v us/\v≠aJ aB 0 0/\zb w b:=by
 obtain⟨i,l,d,h,a⟩:=FD
 exact AnyE.slices_Clone Qz.Mf i _ 3 40 l d h a rfl (by omega) (λw=>(Qz.sizeOf w 53).trans (Tryz.sizeOf53 w)) g o us.length c (bH us) w (cY us) (by simp only[maxLen];omega) (by omega) m (λu k=>by obtain⟨x,_,f⟩:=List.mem_flatMap.1 k;exact EH x u f)
end Go.Proofs.Zq
