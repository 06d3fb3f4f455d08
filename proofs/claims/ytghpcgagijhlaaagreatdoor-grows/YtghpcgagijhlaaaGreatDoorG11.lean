import Derived.Shelf.SlSortCmp.InsertionK
import Derived.Sort.LotA
import Derived.Shelf.SlicesE.Clone
import Derived.Shelf.Small.Strs
import Derived.Lib.OwnBridge
import Derived.Shelf.SlSortCmp.KitK
import Derived.Sort.WalkB2
import Derived.Sort.WalkB12
import Derived.Deep.RegionHeld2
import Derived.OrdersHeld
import Derived.Deep.RegionHeld
import Derived.Test.YtghpcgagijhlaaaGreatDoorG10
set_option linter.all false
set_option maxRecDepth 100000
set_option maxHeartbeats 16000000
open Option renaming some->aA,none->aB
open Bool renaming true->aF,false->aG
open Or renaming inl->aH,inr->aI
open Go.Ending renaming returned->aM
open Go.Obj renaming cells->aJ
open Go.IntKind renaming i64->aD
open Go.Value renaming slice->aK,string->aL,int->aC
open Array renaming getElem_toList->aNu,setIfInBounds_comm->aNv
open Bool renaming false_or->aNw,not_eq_true'->aNx
open Go.Calls renaming grown_of->Mp
open Go.Lib renaming compareBytes->Bc
open Go.Proofs.Tryz
open List renaming length->zAH,toArray->zAL
open Array renaming setIfInBounds->zAI,toList->zAM
open Go.World renaming setCell->zAJ,alloc->zAK
section
variable {P:Prop}
def A5(h:P:=by clear S3;go_wp2;(try simp only[Exit.inBlock,Exit.then]);refine Fx (Go.results_none rfl _ _ _) rfl ?_;exact⟨rfl,_,HF.out.1,HF.out.2,S4.out⟩):=h
def A7(h:P:=by unfold jT;dsimp only;rw[a];rfl):=h
def C8(h:P:=by rw[Dt];exact bm):=h
def J3(h:P:=by simpa using f):=h
def L1(h:P:=by have:=S3.out;simpa using this):=h
def L3(h:P:=by exact⟨t+1,bm,j9,by rw[A.out],cP G.out O.out s (je _) m,by rw[j.out];exact l⟩):=h
def M6(h:P:=by first|go_num|(congr 1;omega)):=h
def M7(h:P:=by show iT _ _ _ _;have s:=h;simp only[Df]at s⊢;exact s):=h
def N8(h:P:=by have:=lf.out.2 h';exact bm):=h
def P0(h:P:=by simp only[Df,Fo,At,Bf]at this;exact ji):=h
def R0(h:P:=by rw[At]at this;exact bm):=h
def U3(h:P:=by exact⟨t+1,bm,j9,by rw[A.out],F.out _ _ G.out,by rw[j.out];exact bO.kept O.out λ_ _=>rfl⟩):=h
def U9(h:P:=by first|rfl|go_num|(congr 1;omega)):=h
def V2(h:P:=by rw[Ka.out.cell];rfl):=h
def V4(h:P:=by unfold rX;dsimp only;rw[a];rfl):=h
def Y1(h:P:=by have:=S1.out;simpa only[Df]using this):=h
def Y7(h:P:=by rw[K.out.cell];rfl):=h
def s5(h:P:=by have:=H.out;exact bm):=h
def s6(h:P:=by have s:Hid (A=aG):=J.out t _ n.out H;go_wp2_with fail;go_ret;exact⟨by rw[s.out];rfl,C.out⟩):=h
end
namespace Go.Proofs.Zq
open Go.RowKit Sha
instance :Inhabited bE:=⟨⟨[],[],aG⟩⟩
def CG (x y:bE):Int:=Bc x.idx y.idx
theorem nA (x y):ltOf CG x y=aF↔Bc x.idx y.idx= -1:=by unfold ltOf CG;rw[Ev];grind[gE]
def nh:Go.Sort.SWO (ltOf CG):=by refine⟨λx=> ?_,λx y z a h=> ?_,λx y z a h=> ?_⟩;{rw[Lm,Ne,nA,dU];exact j2};{grind[oT,nA]};.rw[Lm,Ne,nA]at*;grind[gE,oT,jD,kD]
def eF (I:zB)(l:List bE):List bE:=l.filter λu=>u.idx==I
theorem Tp {α:Type}(A B)(x y:α):((A++x::y::B).set (zAH A+1) x).set (zAH A) y=A++y::x::B:=j1
def bj (I)(d)(j)(h:j+1<d.size)(hl:ltOf CG d[j+1]! d[j]! =aF):eF I (Go.Sort.swp d (j+1) j).toList=eF I d.toList:=by
 obtain⟨A,B,a,e⟩:∃A B,zAM d=A++d[j]! ::d[j+1]! ::B/\zAM (Go.Sort.swp d (j+1) j)=A++d[j+1]! ::d[j]! ::B:=by
   have f:j<zAH (zAM d):=ji;have c:j+1<zAH (zAM d):=j5;have a:d[j]! =d.toList[j]:=ji;have e:d[j+1]! =d.toList[j+1]:=by grind
   have g:zAM d=d.toList.take j++d.toList[j]::d.toList[j+1]::d.toList.drop (j+2):=by grind[List.take_append_drop,List.drop_eq_getElem_cons]
   have hl:zAH (d.toList.take j)=j:=ji;refine⟨d.toList.take j,d.toList.drop (j+2),ji,?_⟩;unfold Go.Sort.swp;grind[Array.toList_setIfInBounds,Tp]
 rw[nA]at hl;have b:(d[j+1]!).idx≠(d[j]!).idx:=by grind[dU]
 rw[a,e];unfold eF;exact ji
def size_swp {α} [Inhabited α] (d:Array α)(i j):(Go.Sort.swp d i j).size=d.size:=by unfold Go.Sort.swp;exact j0
def ZO (I:zB)(a:Nat):∀(j:Nat)(d:Array bE),j<d.size->eF I (Go.Sort.insInner (ltOf CG) a j d).toList=eF I d.toList/\(Go.Sort.insInner (ltOf CG) a j d).size=d.size
 |0,_,_=>⟨rfl,rfl⟩
 |j+1,d,h=>by rw[Go.Sort.insInner];split;{rename_i b;rw[De]at b;obtain⟨e,c⟩:=ZO I a j (Go.Sort.swp d (j+1) j) (by rw[size_swp];omega);exact⟨e.trans (bj I d j h b.2),c.trans (size_swp _ _ _)⟩};grind
def AW (I:zB)(a b:Nat):∀(m i:Nat)(d:Array bE),b-i=m->b<=d.size->eF I (Go.Sort.insOuter (ltOf CG) a b i d).toList=eF I d.toList/\(Go.Sort.insOuter (ltOf CG) a b i d).size=d.size
 |0,i,d,hm,_=>by rw[Go.Sort.insOuter,AF (by omega)];grind
 |m+1,i,d,hm,hb=>by rw[Go.Sort.insOuter,AE (by omega)];obtain⟨f,e⟩:=ZO I a i d (by omega);obtain⟨c,h⟩:=AW I a b m (i+1) (Go.Sort.insInner (ltOf CG) a i d) (by omega) (by omega);grind
def eM (us:List bE):List bE:=zAM (Go.Sort.insertionSort (ltOf CG) (zAL us) 0 (zAH us))
def xO (I)(us):eF I (eM us)=eF I us:=by have:=(AW I 0 (zAH us) _ 1 (zAL us) rfl j0).1;exact j5
def kW (us):zAH (eM us)=zAH us:=by have:=(AW [] 0 (zAH us) _ 1 (zAL us) rfl j0).2;exact j5
def WI (us)(u):u∈eM us↔u∈us:=by have h:∀l:List bE,u∈l↔u∈eF u.idx l:=λl=>by{unfold eF;grind};rw[h,h us,xO]
def qS (us):(eM us).Pairwise λx y=>Bc y.idx x.idx≠-1:=by have hl:=kW us;rw[Ns];intro i j hi d a;have h:=((Go.Sort.insertionSort_holds nh (zAL us) 0 (zAH us) (Cw _) j0).2) i j (Cw _) a bm;have b:(Go.Sort.insertionSort (ltOf CG) (zAL us) 0 (zAH us)).size=zAH us:=by{assumption};rw[getElem!_pos _ j bm,getElem!_pos _ i bm]at h;intro c;have:ltOf CG (eM us)[j] (eM us)[i]=aF:=(nA _ _).2 c;simp only[eM,aNu]at this;exact ji
def gL:List bE->List bE
 |[]=>[]|[u]=>[u]|u::v::r=>if v.idx=u.idx then gL (v::r)else u::gL (v::r)
def dS (us:List bE):List bE:=gL (eM us)
def oF:∀{l:List bE}{u:bE},u∈gL l->u∈l
 |[],_,h=>h|[_],_,h=>h|a::b::r,u,h=>by rw[gL]at h;split at h;{exact Ig _ (oF h)};.obtain h|h:=Bb.1 h;{exact ji};.exact Ig _ (oF h)
def sN {us u}(h:u∈dS us):u∈us:=(WI us u).1 (oF h)
def uR:∀{l:List bE},(l.Pairwise λx y=>Bc y.idx x.idx≠-1)->(gL l).Pairwise λx y=>Bc x.idx y.idx= -1
 |[],_=>List.Pairwise.nil|[u],_=>List.pairwise_singleton _ _|a::b::r,h=>by rw[Gg]at h;have i:=uR h.2;rw[gL];split;{exact i};.rename_i j;rw[Gg];refine⟨λu g=> ?_,i⟩;have d:=oF g;have n:=h.1 u d;have k:=h.1 b (EJ ..);have e:=jD u.idx a.idx;obtain c|c|c:=gE u.idx a.idx;{exact bm};{exfalso;obtain f|f:=Bb.1 d;{grind[kD]};.have m:=(Gg.1 h.2).1 u f;grind[kD,gE,jD]};.exact bm
def zCf (us):(dS us).Pairwise λx y=>Bc x.idx y.idx= -1:=uR (qS us)
def FY (I:zB):∀{l:List bE},(l.Pairwise λx y=>Bc y.idx x.idx≠-1)->(eF I (gL l)).getLast? =(eF I l).getLast?
 |[],_=>rfl|[u],_=>rfl|a::b::r,h=>by have i:=FY I (Gg.1 h).2;rw[gL];split;{rename_i c;rw[i];unfold eF;by_cases d:a.idx=I;all_goals grind};{unfold eF at*;grind}
theorem WZ (I)(us):(eF I (dS us)).getLast? =(eF I us).getLast? :=by rw[dS,FY I (qS us),xO]
theorem MB (I:zB):∀(us:List bE)(l:List qN),fV (dE l us) I=match(eF I us).getLast? with|some u=>(if u.gone then aB else aA u.val)|none=>fV l I
 |[],_=>rfl|u::us,l=>by show fV (dE (GP l u) us) I=_;rw[MB I us (GP l u),get_put];unfold eF;by_cases h:u.idx=I;{rw[Hp (by grind),List.getLast?_cons,AE h];grind};grind
theorem SN {l:List qN}(hl:fC l)(us:List bE):dE l (dS us)=dE l us:=by grind[AP,vQ,WZ,MB]
def xL (x y:bE):Prop:=Bc y.idx x.idx≠-1
def tO (x y:bE):Prop:=Bc x.idx y.idx= -1
abbrev mB (l:List bE):Prop:=l.Pairwise xL
structure eO (l l':List bE):Prop where
 len:l'.length=l.length
 of:∀I,eF I l'=eF I l
theorem xL.trans {x y z:bE}(b:xL x y)(a:xL y z):xL x z:=λh=>by have:=nh.3 z y x;rw[Lm,Ne,nA,Lm,Ne,nA,Lm,Ne,nA]at this;exact this a b h
def tO.le {x y:bE}(h:tO x y):xL x y:=λa=>by have:=jD x.idx y.idx;unfold tO at h;exact bm
theorem tO.xx {x y z:bE}(b:xL x y)(a:tO y z):tO x z:=Dv λh=>xL.trans (x:=z) (y:=x) (z:=y) h b a
theorem tO.xo {x y z:bE}(b:tO x y)(a:xL y z):tO x z:=Dv λh=>xL.trans (x:=y) (y:=z) (z:=x) a h b
def xL.antisymm {x y:bE}(a:xL x y)(h:xL y x):x.idx=y.idx:=by have:=jD x.idx y.idx;unfold xL at a h;grind[kD,gE]
def eO.refl (l:List bE):eO l l:=⟨rfl,λ_=>rfl⟩
theorem eO.trans {a b c:List bE}(d:eO a b)(h:eO b c):eO a c:=⟨h.len.trans d.len,λI=>(h.of I).trans (d.of I)⟩
def QE {u:bE}{l:List bE}:u∈l↔u∈eF u.idx l:=by unfold eF;exact ji
theorem eO.mem {l a:List bE}(h:eO l a){u:bE}:u∈a↔u∈l:=by rw[QE,h.of,<-QE]
theorem Fe (I:zB)(a b:List bE):eF I (a++b)=eF I a++eF I b:=Ht ..
theorem eO.nQ {a b:List bE}(h:eO a b)(X Y:List bE):eO (X++a++Y) (X++b++Y):=⟨by simp[h.len],λI=>by simp only[Fe,h.of]⟩
def QJ:∀{l a:List bE},eO l a->mB l->mB a->a=l
 |[],a,h,_,_=>Hr h.len|x::t,[],h,_,_=>by cases h.len|x::t,y::c,h,h1,j=>by have f:x∈y::c:=h.mem.2 ji;have d:y∈x::t:=h.mem.1 ji;have r:∀z:bE,xL z z:=λz=>by{unfold xL;rw[dU];decide};have i:xL x y:=by{obtain e|e:=Bb.1 d;all_goals simp_all};have g:xL y x:=by{obtain e|e:=Bb.1 f;all_goals simp_all};have e:=i.antisymm g;have b:=h.of x.idx;unfold eF at b;rw[Hp (by simp[e]),Hp j0]at b;obtain⟨rfl,_⟩:=Fj b;congr 1;refine QJ ⟨by have:=h.len;exact ji,λI=> ?_⟩ ji ji;have:=h.of I;unfold eF at this⊢;exact ji
def xU {A1 A2 B g f C:List bE}(d:eO (A1++B) f)(c:eO (A2++g) C)(h:∀x∈A2,∀y∈B,tO y x):eO (A1++A2++(B++g)) (f++C):=by refine⟨by have:=d.len;have:=c.len;exact ji,λI=> ?_⟩;have e:eF I A2++eF I B=eF I B++eF I A2:=by{cases j:eF I A2 with|nil=>simp|cons x xs=>cases hb:eF I B with|nil=>simp|cons y i=>exfalso;have b:x∈eF I A2:=ji;have a:y∈eF I B:=ji;unfold eF at b a;rw[Bi]at b a;have:=h x b.1 y a.1;have ex:x.idx=I:=ji;have k:y.idx=I:=ji;unfold tO at this;grind[dU]};have:=d.of I;have:=c.of I;grind[Fe]
def DD {A1 A2 d B c C:List bE}(f:eO (A1++d) c)(e:eO (A2++B) C)(s1:mB c)(s2:mB C)(i:mB (A1++A2))(g:mB (d++B))(h:∀x∈A2,∀y∈d,tO y x)(j:∀x∈A1,∀y∈B,xL x y):mB (c++C):=by refine Ib.2 ⟨s1,s2,λu b v a=> ?_⟩;obtain b|b:=Bl.1 (f.mem.1 b)<;>obtain a|a:=Bl.1 (e.mem.1 a);{exact ji};{exact ji};{exact(h v a u b).le};exact ji
theorem le_last {l:List bE}(h:mB l){x y:bE}(a:x∈l)(b:l.getLast? =aA y):xL x y:=by obtain⟨i,rfl⟩:=List.getLast?_eq_some_iff.1 b;obtain a|a:=Bl.1 a;{exact ji};.rw[Cy.1 a];unfold xL;rw[dU];exact j2
theorem Kb {l:List bE}(h:mB l){x y:bE}(a:x∈l)(b:l.head? =aA y):xL y x:=by cases l with|nil=>cases a|cons z l=>cases b;obtain e|e:=Bb.1 a;{rw[e];unfold xL;rw[dU];decide};exact j1
def Fv {A B:List bE}(f:mB A)(e:mB B)(h:∀x y,A.head? =aA x->B.getLast? =aA y->tO y x):∀x∈A,∀y∈B,tO y x:=λx c y b=>by obtain⟨a,d⟩:∃a,A.head? =aA a:=by{cases A<;>simp_all};grind[tO.xo,tO.xx,Kb,le_last]
def Ge {A B:List bE}(e:mB A)(d:mB B)(h:∀x y,A.getLast? =aA x->B.head? =aA y->xL x y):∀x∈A,∀y∈B,xL x y:=λx c y a=>by obtain⟨b,hb⟩:∃b,B.head? =aA b:=by{cases B<;>simp_all};grind[xL.trans,Kb,le_last]
def aM2 {x:bE}{a B:List bE}(b:mB (a++B))(f:∀y,a.getLast? =aA y->tO y x)(e:∀y,B.head? =aA y->¬tO y x):eO (x::(a++B)) (a++x::B)/\mB (a++x::B):=by let⟨s1,s2,_⟩:=Ib.1 b;have h:mB [x]:=by{grind};have k1:∀z∈[x],∀y∈a,tO y z:=Fv h s1 ji;have k2:∀z∈[x],∀y∈B,xL z y:=Ge h s2 λz y c d=>by{cases c;exact e y d};exact⟨xU (A1:=[]) (.refl _) (.refl _) k1,DD (A1:=[]) (.refl _) (.refl _) s1 j1 h b k1 ji⟩
def zBc {y:bE}{A1 A2:List bE}(a:mB (A1++A2))(c:∀x,A1.getLast? =aA x->¬tO y x)(d:∀x,A2.head? =aA x->tO y x):eO (A1++A2++[y]) (A1++y::A2)/\mB (A1++y::A2):=by let⟨s1,s2,_⟩:=Ib.1 a;have h:mB [y]:=by{grind};have k1:∀x∈A2,∀z∈[y],tO z x:=Fv s2 h ji;have k2:∀x∈A1,∀z∈[y],xL x z:=Ge s1 h λx z h b=>by{cases b;exact c x h};have e:A1++y::A2=A1++[y]++A2:=by{simp};rw[e];have l:eO (A2++[]) A2:=by{rw[Bj];exact .refl _};exact⟨xU (.refl _) l k1,DD (.refl _) l ji s2 a h k1 ji⟩
inductive fX (s:Nat):List bE->Prop
 |last (l:List bE):mB l->l.length<=s->fX s l
 |cons (l r:List bE):mB l->l.length=s->fX s r->fX s (l++r)
def fX.small {s:Nat}{r:List bE}(h:fX s r)(hl:zAH r<=s):mB r:=by cases h with|last _ h _=>exact h|cons l r h1 b a=>obtain rfl:r=[]:=Hr ji;exact ji
def fX.first {s:Nat}{r:List bE}(h:fX s r)(hl:s<zAH r):∃l a,r=l++a/\mB l/\zAH l=s/\fX s a:=L8
def fX.two {s:Nat}{r:List bE}(h:fX s r)(hs:0<s)(hl:2*s<=zAH r):∃l a b,r=l++(a++b)/\mB l/\zAH l=s/\mB a/\zAH a=s/\fX s b:=by obtain⟨l,r1,rfl,g,f,e⟩:=h.first bm;rw[At]at hl;cases e with|last _ c d=>exact⟨l,r1,[],ji,g,f,c,bm,.last _ .nil (Cw _)⟩|cons a b c d i=>exact ji
end Go.Proofs.Zq
namespace Go.Proofs
open Go.Shelf
def Qz.zEv:Go.Shelf.Ren:=⟨λ|41=>60|n=>n,λ|22=>48|23=>53|4=>4|n=>n,λ|n=>n⟩
def Qz.Yd:Go.Proofs.SlLaysE0.n41 zq Qz.zEv:={
 mixed:=by kernel_rfl
 f41:=⟨Tryz.f60.name,j2,(Qz.fn func60).trans (congrArg aA c9)⟩
 t4:=((Qz.eR 4).trans Tryz.underlying4)
 a4:=(λw=>(Qz.isAgg w 4).trans (Tryz.isAgg4 w))
 z4:=(λw=>(Qz.sizeOf w 4).trans (Tryz.sizeOf4 w))
 v4:=(λw=>(Qz.zeroValue w 4).trans j1)
 t22:=((Qz.eR 48).trans Tryz.underlying48)
 a22:=(λw=>(Qz.isAgg w 48).trans (Tryz.isAgg48 w))
 z22:=(λw=>(Qz.sizeOf w 48).trans j1)
 v22:=(λw=>(Qz.zeroValue w 48).trans (by simp_all))}
def Qz.Vw:Go.Shelf.Ren:=⟨λ|20=>101|n=>n,λ|24=>53|22=>48|3=>3|25=>120|4=>4|0=>0|n=>n,λ|n=>n⟩
def Qz.aCn:Go.Proofs.SlLaysF0.n20 zq Qz.Vw:={
 mixed:=by kernel_rfl
 f20:=⟨Tryz.f101.name,j2,(Qz.fn func101).trans (congrArg aA c9)⟩
 t0:=((Qz.eR 0).trans Tryz.underlying0)
 a0:=(λw=>(Qz.isAgg w 0).trans (Tryz.isAgg0 w))
 z0:=(λw=>(Qz.sizeOf w 0).trans (Tryz.sizeOf0 w))
 v0:=(λw=>(Qz.zeroValue w 0).trans j1)
 t3:=((Qz.eR 3).trans Tryz.underlying3)
 a3:=(λw=>(Qz.isAgg w 3).trans (Tryz.isAgg3 w))
 z3:=(λw=>(Qz.sizeOf w 3).trans (Tryz.sizeOf3 w))
 v3:=(λw=>(Qz.zeroValue w 3).trans j1)
 t4:=((Qz.eR 4).trans Tryz.underlying4)
 a4:=(λw=>(Qz.isAgg w 4).trans (Tryz.isAgg4 w))
 z4:=(λw=>(Qz.sizeOf w 4).trans (Tryz.sizeOf4 w))
 v4:=(λw=>(Qz.zeroValue w 4).trans j1)
 t22:=((Qz.eR 48).trans Tryz.underlying48)
 a22:=(λw=>(Qz.isAgg w 48).trans (Tryz.isAgg48 w))
 z22:=(λw=>(Qz.sizeOf w 48).trans j1)
 v22:=(λw=>(Qz.zeroValue w 48).trans j1)
 t25:=((Qz.eR 120).trans Tryz.underlying120)
 a25:=(λw=>(Qz.isAgg w 120).trans j1)
 z25:=(λw=>(Qz.sizeOf w 120).trans j1)
 v25:=(λw=>(Qz.zeroValue w 120).trans (by simp_all))}
def Qz.ZD:Go.Shelf.Ren:=⟨λ|106=>63|213=>89|265=>103|n=>n,λ|9=>9|3=>3|n=>n,λ|n=>n⟩
def Qz.fo:Go.Proofs.Lays.n106 zq Qz.ZD:={
 mixed:=by kernel_rfl
 f106:=(Qz.fn func63).trans (congrArg aA c9)
 f213:=(Qz.fn func89).trans (congrArg aA c9)
 f265:=(Qz.fn func103).trans (congrArg aA c9)
 t3:=((Qz.eR 3).trans Tryz.underlying3)
 a3:=(λw=>(Qz.isAgg w 3).trans (Tryz.isAgg3 w))
 z3:=(λw=>(Qz.sizeOf w 3).trans (Tryz.sizeOf3 w))
 v3:=(λw=>(Qz.zeroValue w 3).trans (Tryz.zeroValue3 w))
 t9:=((Qz.eR 9).trans Tryz.underlying9)
 a9:=(λw=>(Qz.isAgg w 9).trans (Tryz.isAgg9 w))
 z9:=(λw=>(Qz.sizeOf w 9).trans (Tryz.sizeOf9 w))
 v9:=(λw=>(Qz.zeroValue w 9).trans (Tryz.zeroValue9 w))}
open Go.RowKit in
def Qz.strings_Compare (a b:ByteArray)(w:zW): Calls zq 63 #[aL a,aL b] w λe c=>e=aM (aC aD (Bc (zAM a.data) (zAM b.data)))/\c=w:=Any.strings_Compare Qz.fo a b w
end Go.Proofs
namespace Go.Proofs.Zq
open Go.RowKit Sha Go.Shelf Go.Sort
def Bh (blk off size)(w):CmpLays zq 62 #[] bE.cells 3 CG blk off size w:=λ_ _ _ _ x y=>by have h:=λW=>Qz.strings_Compare ⟨zAL x.idx⟩ ⟨zAL y.idx⟩ W;have a:Bc (zAM (⟨zAL x.idx⟩:ByteArray).data) (zAM (⟨zAL y.idx⟩:ByteArray).data)=CG x y:=rfl;rw[a]at h;generalize CG x y=r at*;unfold bE.cells;go_enter (Qz.fn func62),ntmps62;go_wp2_with (go_at_call 63;refine(h _).mono ?_;rintro e b ⟨rfl,rfl⟩);go_ret;exact⟨rfl,0,_,by rw[alloc_eq_grow,alloc_eq_grow,grow_grow];rfl⟩
def ra:∀args w,(callFunc 62 args).run zq w= .ok (.enter 62 args) w:=j1
def fu (g cap a b:Nat)(d:Array bE)(w:zW)(k:HoldsK bE.cells 3 w g 0 d)(i:g<w.heap.size)(h:a<=b)(j:b<=d.size)(f:d.size<=1000):
  Calls zq 101 #[aK (aA ⟨g,0,aB⟩) d.size cap,aC aD a,aC aD b,.func (.func 62) #[] #[]] w λe c=>
   e=aM (.tuple #[])/\∃n os,c=sortWorldK bE.cells 3 w g 0 n (insertionSort (ltOf CG) d a b) os:=AnyQ.insertionSortCmpFunc Qz.aCn 3 (λw=>(Qz.isAgg w 53).trans (isAgg53 w)) (λw=>(Qz.sizeOf w 53).trans j1) bE.cells (λ_=>rfl) pW CG 62 #[] g 0 cap a b d w ra (Bh g 0 d.size w) k i h j bm
def QS (us:List bE)(i)(u)(h:us[i]? =aA u)(j)(b:j<3):(flatK bE.cells 3 us.toArray)[i*3+j]! =(u.cells[j]?).getD default/\i*3+j<(flatK bE.cells 3 us.toArray).size:=by have hi:=(Bx.1 h).1;have a:i*3+j<us.toArray.size*3:=by{grind};refine⟨?_,j1⟩;rw[get_flatK _ _ _ _ a,show(i*3+j)/3=i from bm,show(i*3+j)%3=j from bm];exact ji
def zDk {w g}{us:List bE}(h:HoldsK bE.cells 3 w g 0 us.toArray)(i)(u)(b:us[i]? =aA u)(j)(a:j<3):w.cell? ⟨g,i*3+j,aB⟩=u.cells[j]? :=by let⟨d,c⟩:=QS us i u b j a;have:=(h (i*3+j) c).1;rw[Ce,d]at this;rw[this];have:j<zAH u.cells:=a;exact ji
def TV {α:Type} [Inhabited α] (P Q:List α)(x:α):(P++x::Q).toArray[P.length]! =x:=j0
def SS {α:Type}(P Q:List α)(x y:α):(P++x::Q).set (zAH P) y=P++y::Q:=j0
def TU {α:Type} [Inhabited α] (P Q R:List α)(x y:α):(P++x::(Q++y::R)).toArray[P.length+1+Q.length]! =y:=by have:=TV (P++x::Q) R y;exact P0
def bh {α:Type} [Inhabited α] (P Q R:List α)(x y:α):swp (zAL (P++x::(Q++y::R))) (zAH P) (zAH P+1+zAH Q)=zAL (P++y::(Q++x::R)):=by unfold swp;rw[TV,TU,Ey,Ey,SS];have:=SS (P++y::Q) R y x;exact P0
abbrev iT (w0:zW)(g:Nat)(l:List bE)(w:zW):Prop:=SWK bE.cells 3 w0 g 0 l.toArray w
abbrev yC (w0:zW)(g:Nat)(n:Nat):Prop:=∃d0:Array bE,d0.size=n/\RowK bE.cells 3 w0 g 0 d0
section
variable {w0 w:zW}{g n cap:Nat}{fv:zY}
def Tf {α:Type} [Inhabited α] (P Q R:List α)(x y:α):swp (zAL (P++x::(Q++y::R))) (zAH P+1+zAH Q) (zAH P)=zAL (P++y::(Q++x::R)):=by unfold swp;rw[TV,TU,Ey,Ey];have:=SS (P++x::Q) R y x;exact P0
structure Xch (w0:zW)(g:Nat)(l':List bE)(p r:Nat)(w:zW)(k:Nat)(cx cy:zV):Prop where
 zE:∀w,(Go.sizeOf 53).run zq w= .ok k w
 lx:cx.length=k
 ly:cy.length=k
 ld:Sem.run zq (loadCellsFrom (g,p*k) 0 k #[]) w.drew= .ok cx.toArray w.drew
 ld':Sem.run zq (loadCellsFrom (g,r*k) 0 k #[]) w.drew= .ok cy.toArray w.drew
 st:Sem.run zq (storeCells (g,p*k) cy 0) w.drew= .ok () (w.drew.setCells g (p*k) cy)
 Zw:Sem.run zq (storeCells (g,r*k) cx 0) (w.drew.setCells g (p*k) cy)= .ok () ((w.drew.setCells g (p*k) cy).setCells g (r*k) cx)
 sw:Aside (iT w0 g l' ((w.drew.setCells g (p*k) cy).setCells g (r*k) cx))
def iT.xch {P Q R':List bE}{x y:bE}(h:iT w0 g (P++x::(Q++y::R')) w)(R:yC w0 g n)(q:zAH (P++x::(Q++y::R'))=n){p r:Nat}(j:p=zAH P)(d:r=zAH P+1+zAH Q):
  (∃k f e,Xch w0 g (P++y::(Q++x::R')) p r w k f e)/\∃k f e,Xch w0 g (P++y::(Q++x::R')) r p w k f e:=by
 let⟨d0,o,R⟩:=R;have a:(P++x::(Q++y::R')).toArray.size=d0.size:=by grind
 have hl:zAH P+1+zAH Q<(P++x::(Q++y::R')).toArray.size:=by grind
 have ex:(P++x::(Q++y::R')).toArray[p]! =x:=by grind
 have m:(P++x::(Q++y::R')).toArray[r]! =y:=by rw[d];exact TU ..
 have c:=h.ld1 R a zq p bm;have l:=h.ld1 R a zq r bm;have i:=h.st1 R a zq p bm y;have s:=h.st2 R a zq p r bm bm y x;have t:=h.st1 R a zq r bm x;have tb:=h.st2 R a zq r p bm bm x y;have b:=h.swapped R p r bm bm;have S:=h.swapped R r p bm bm;rw[ex]at c;rw[m]at l;rw[ex,m]at b S;rw[show swp (zAL (P++x::(Q++y::R'))) p r=zAL (P++y::(Q++x::R')) by rw[j,d];exact bh ..]at b;rw[show swp (zAL (P++x::(Q++y::R'))) r p=zAL (P++y::(Q++x::R')) by rw[j,d];exact Tf ..]at S;rw[Ce]at c l i s t tb b S;rw[Ce]at s tb b S;exact⟨⟨3,x.cells,y.cells,j1,rfl,rfl,c,l,i,s,b⟩,⟨3,y.cells,x.cells,j1,rfl,rfl,l,c,t,tb,S⟩⟩
def aMK (X A Z B Y:List bE)(R:yC w0 g n)(I:zAH (X++(A++(Z++(B++Y))))=n)(h:zAH A=zAH B)(U:n<=1000)(S:iT w0 g (X++(A++(Z++(B++Y)))) w){H G F:Int}(D:H=(zAH X:Int))(C:G=((zAH X+zAH A+zAH Z:Nat):Int))(z:F=(zAH A:Int)): Calls zq 129 #[aK g n cap,H,G,F,fv] w λe N=>e=aM (.tuple #[])/\iT w0 g (X++(B++(Z++(A++Y)))) N:=by have HR:Hid (yC w0 g n):=R;clear R;have mixed:zq.follows .mixedOrders=aF:=by{kernel_rfl};have S0:Aside (iT w0 g (X++(A++(Z++(B++Y)))) w):=S;clear S;have hlen:zAH X+zAH A+zAH Z+zAH B+zAH Y=n:=by{rw[<-I];simp only[At];omega};let⟨a,J⟩:=zzx (zAH X);let⟨b,s⟩:=zzx (zAH X+zAH A+zAH Z);let⟨c,m⟩:=zzx (zAH A);subst D C z;rw[<-s,<-J,<-m];go_enter (Qz.fn func129),ntmps129;go_wp2;go_loopg [10] c (λq i wr=>∃d j l f:List bE,A=d++j/\B=l++f/\zAH d=zAH l/\zAH d+q=c/\i=aC aD (zAH d)/\Aside (iT w0 g (X++(l++(j++(Z++(d++(f++Y)))))) wr));(case atStart=>exact⟨[],A,[],B,rfl,rfl,rfl,j0,rfl,S0⟩);case round=>clear S0;obtain⟨d,j,l,f,rfl,rfl,K,hq,rfl,S1⟩:=hrel;rw[At]at m s h;rw[At]at h;cases j with|nil=>obtain rfl:f=[]:=Hr (by rw[CH]at h;exact bm);rw[CH]at m;go_wp2;go_end0;exact⟨rfl,by simpa using S1.out⟩|cons x j=>obtain⟨y,f,rfl⟩:∃y E,f=y::E:=by{cases f with|nil=>rw[Bf,CH]at h;omega|cons y f=>exact⟨y,f,rfl⟩};rw[Bf]at m s h;rw[Bf]at h;have L:Aside (iT w0 g ((X++l)++x::((j++(Z++d))++y::(f++Y))) wr):=by{simpa only[Df,Fo]using S1};clear S1;let⟨p,v⟩:=zzx (zAH (X++l));let⟨r,o⟩:=zzx (zAH (X++l)+1+zAH (j++(Z++d)));have u:p=a+zAH d:=by{rw[v,At];exact bm};have t:r=b+zAH d:=by{rw[o];simp only[At];exact bm};have V:r<n:=by{rw[<-hlen,o];exact L5};let⟨⟨k,cx,W,zE,lx,ly,T,Q,P,O,S3⟩,_⟩:=L.xch HR (by rw[<-I];exact L5) v o;have aE:=(λw=>(Qz.isAgg w 53).trans (isAgg53 w));clear L;have H1:Hid (zAH d=zAH l):=K;have k1:(a:Int)+zAH d=(p:Int):=bm;have k2:(b:Int)+zAH d=(r:Int):=bm;have k3:(p:Int)<n:=bm;have k4:(r:Int)<n:=bm;have k5:(0:Int)<=p:=bm;have k6:(0:Int)<=r:=bm;have k7:(zAH d:Int)<c:=bm;have k8:IntKind.i64.wrap (p:Int)=p:=C8;have k9:IntKind.i64.wrap (r:Int)=r:=C8;have M:Hid (c=zAH d+(zAH j+1)):=m;clear v o u t m s h K J;go_wp2_with fail;go_big_region_o;clear T Q P O;generalize(wr.drew.setCells g (p*k) W).setCells g (r*k) cx=w2 at*;go_wp2;go_roundg (zAH j);(case measure=>have:=M.out;omega);case rel=>exact⟨d++[x],j,l++[y],f,j0,j0,by simp[H1.out],by have:=M.out;exact j3,j0,(show iT _ _ _ _ from L1)⟩
def zGi (X A B Y:List bE)(R:yC w0 g n)(hn:zAH (X++(A++(B++Y)))=n)(hA:A≠[])(hB:B≠[])(LR:n<=1000)(S:iT w0 g (X++(A++(B++Y))) w){xa xm xb:Int}(exa:xa=(zAH X:Int))(exm:xm=((zAH X+zAH A:Nat):Int))(exb:xb=((zAH X+zAH A+zAH B:Nat):Int)): Calls zq 119 #[aK g n cap,xa,xm,xb,fv] w λe w'=>e=aM (.tuple #[])/\iT w0 g (X++(B++(A++Y))) w':=by have hlen:zAH X+zAH A+zAH B+zAH Y=n:=by{rw[<-hn];simp only[At];omega};have S0:Aside (iT w0 g (X++(A++(B++Y))) w):=S;have HR:Hid (yC w0 g n):=R;have J:0<zAH A:=Hn.2 hA;have k:0<zAH B:=Hn.2 hB;clear S R hn hA hB;let⟨p,u⟩:=zzx (zAH A);let⟨o,t⟩:=zzx (zAH B);let⟨m,F⟩:=zzx (zAH X+zAH A);have M:xa=(m:Int)-p:=by{omega};have L:xb=(m:Int)+o:=by{omega};have K:xm=(m:Int):=by{omega};have b1:(m:Int)-((m:Int)-p)=(p:Int):=by{omega};have b2:(m:Int)+o-(m:Int)=o:=by{omega};have HM:Hid (m=zAH X+zAH A/\p=zAH A/\o=zAH B):=⟨F,u,t⟩;subst M L K;clear exa exm exb F;rw[<-u]at J hlen;rw[<-t]at k hlen;clear u t;go_enter (Qz.fn func119),ntmps119;go_wp2;go_loopg [10,11] (p+o) (λq x y wr=>∃(i j:Nat)(P a d Q:List bE),P++(d++(a++Q))=B++A/\zAH X+zAH P+zAH a=m/\i=zAH a/\j=zAH d/\0<i/\0<j/\i+j<=q/\i+j+zAH X+zAH P+zAH Q+zAH Y=n/\x=aC aD i/\y=aC aD j/\Aside (iT w0 g (X++(P++(a++(d++(Q++Y))))) wr));(case atStart=>exact⟨p,o,[],A,B,[],j0,by have:=HM.out;exact I0,HM.2.1,HM.2.2,J,k,je _,I0,rfl,rfl,(show iT _ _ _ _ by simpa using S0.out)⟩);case round=>clear S0;obtain⟨i,j,P,a,d,Q,G,F,hi,hj,jz,tz,hq,hl,rfl,rfl,S1⟩:=hrel;have D:Hid (∀(b Z c:List bE)(W:zW)(V U T:Int),zAH (b++(Z++c))=i+j->zAH b=zAH c->iT w0 g ((X++P)++(b++(Z++(c++(Q++Y))))) W->V=((zAH X+zAH P:Nat):Int)->U=((zAH X+zAH P+zAH b+zAH Z:Nat):Int)->T=(zAH b:Int)->Calls zq 129 #[aK g n cap,V,U,T,fv] W λe w'=>e=aM (.tuple #[])/\iT w0 g ((X++P)++(c++(Z++(b++(Q++Y))))) w'):=λb Z c W V U T O h2 h3 e1 e2 e3=>aMK (X++P) b Z c (Q++Y) HR (by simp only[At]at O⊢;exact bm) h2 LR h3 (by rw[At];exact e1) (by rw[At];exact e2) e3;have z:Hid (P++(d++(a++Q))=B++A):=G;have H:Hid (i=zAH a/\j=zAH d/\zAH X+zAH P+zAH a=m):=⟨hi,hj,F⟩;have k1:(m:Int)-i=((zAH X+zAH P:Nat):Int):=by{omega};have c1:(m:Int)<=1000:=by{omega};clear G F hi hj;obtain v|v|v:=Nat.lt_trichotomy i j;{obtain⟨c,E,rfl,hB2⟩:∃c E,d=c++E/\zAH E=i:=⟨d.take (j-i),d.drop (j-i),(GO _ _).symm,by rw[GL];exact s5⟩;have k:zAH c=j-i:=by{have:=H.2.1;exact R0};have O:¬((i:Int)=j):=bm;have h2:¬((j:Int)<i):=bm;have f:=D a c E wr _ _ _ (by simp only[At];exact s5) s5 Y1 rfl rfl rfl;have k2:(m:Int)+j-(i:Int)=((zAH X+zAH P+zAH a+zAH c:Nat):Int):=s5;have r:(zAH a:Int)=i:=s5;rw[r,<-k2,<-k1]at f;clear k1 k2 r S1 D;go_wp2_with fail;refine f.mono ?_;clear f;rintro e w2 ⟨rfl,h⟩;have N:Aside (iT w0 g (X++(P++(E++(c++((a++Q)++Y))))) w2):=M7;clear h;go_wp2;go_roundg (i+(j-i));(case measure=>omega);case rel=>refine⟨i,j-i,P,E,c,a++Q,?_,?_,hB2.symm,k.symm,jz,bm,je _,?_,rfl,?_,N⟩;{rw[<-z.out];simp only[Df]};{exact s5};{rw[At];exact s5};.congr 1;exact bm};{subst v;have O:((i:Int)=i):=rfl;have f:=D a [] d wr _ _ _ (by simp only[At,CH];exact s5) s5 (by have:=S1.out;simpa only[Df,Gs]using this) rfl rfl rfl;have k2:(m:Int)=((zAH X+zAH P+zAH a+zAH ([]:List bE):Nat):Int):=by{have:=H.out;exact I0};have r:(zAH a:Int)=i:=by{have:=H.out;omega};rw[r,<-k2,<-k1]at f;clear k1 k2 r S1 D;go_wp2_with fail;refine f.mono ?_;clear f;rintro e w2 ⟨rfl,h⟩;have N:Aside (iT w0 g (X++(B++(A++Y))) w2):=by{show iT _ _ _ _;have s:=h;have e:=congrArg (λl=>X++(l++Y)) z;simp only[Df,Gs]at s e;rw[<-e];exact s};clear h;go_wp2;go_end0;exact⟨rfl,N⟩};.obtain⟨b,C,rfl,I⟩:∃b C,a=b++C/\zAH b=j:=⟨a.take j,a.drop j,(GO _ _).symm,by rw[Ds];exact s5⟩;have zw:zAH C=i-j:=by{have:=H.1;exact R0};have O:¬((i:Int)=j):=bm;have h2:(j:Int)<i:=bm;have f:=D b C d wr _ _ _ (by simp only[At];exact s5) s5 Y1 rfl rfl rfl;have k2:(m:Int)=((zAH X+zAH P+zAH b+zAH C:Nat):Int):=by{have:=H.2.2;exact R0};have r:(zAH b:Int)=j:=bm;rw[r,<-k2,<-k1]at f;clear k1 k2 r S1 D;go_wp2_with fail;refine f.mono ?_;clear f;rintro e w2 ⟨rfl,h⟩;have N:Aside (iT w0 g (X++((P++d)++(C++(b++(Q++Y))))) w2):=M7;clear h;go_wp2;go_roundg (i-j+j);(case measure=>omega);case rel=>refine⟨i-j,j,P++d,C,b,Q,?_,?_,zw.symm,I.symm,bm,tz,je _,?_,?_,rfl,N⟩;{rw[<-z.out];simp only[Df]};{rw[At];have:=H.out;exact R0};{rw[At];have:=H.out;exact R0};.congr 1;exact bm
end
def Hw {x y:bE}:CG x y<0↔tO x y:=by have:=nA x y;unfold ltOf at this;rw[Ev]at this;exact this
structure Ask (w0:zW)(g:Nat)(l:List bE)(i j:Nat)(w:zW)(c:Int)(k:Nat)(ci cj:zV):Prop where
 zE:∀w,(Go.sizeOf 53).run zq w= .ok k w
 ld:∀(p:Nat) os,Sem.run zq (loadCellsFrom (g,i*k) 0 k #[]) (grow (w.drewN p) os)= .ok ci.toArray (grow (w.drewN p) os)
 ld':∀(p:Nat) os,Sem.run zq (loadCellsFrom (g,j*k) 0 k #[]) (grow (w.drewN p) os)= .ok cj.toArray (grow (w.drewN p) os)
 cmp:∀(p:Nat) os,Calls zq 62 #[.agg ci.toArray,.agg cj.toArray] (grow (w.drewN p) os) λe w'=>e=aM c/\∃q oq,w'=grow ((grow (w.drewN p) os).drewN q) oq
 sw:Aside (∀(p:Nat) os,iT w0 g l (grow (w.drewN p) os))
def iT.ask {w0 w:zW}{g n:Nat}{l:List bE}(h:iT w0 g l w)(R:yC w0 g n)(b:zAH l=n){i j:Nat}{x y:bE}(hi:l[i]? =aA x)(a:l[j]? =aA y):∃k ci c,Ask w0 g l i j w (CG x y) k ci c:=by
 let⟨d0,d,R⟩:=R;have ld:∀(i:Nat) x,l[i]? =aA x->∀(p:Nat) os,Sem.run zq (loadCellsFrom (g,i*3) 0 3 #[]) (grow (w.drewN p) os)= .ok (zAL x.cells) (grow (w.drewN p) os):=λi x hi p os=>by
  have hl:=(Bx.1 hi).1;have e:l.toArray[i]! =x:=by grind
  have:=SWK.ld h R ji zq i j5 p os;exact ji
 exact⟨3,x.cells,y.cells,j1,ld i x hi,ld j y a,λp os=>SWK.cmp h (Bh g 0 n w0) j5 x y p os,λp os=>SWK.grown h p os⟩
section
variable {w0 w:zW}{g n cap:Nat}
theorem yW {L:List bE}{X B Y:List bE}{i m:Nat}(a:L=X++(B++Y))(h:m=zAH X)(c:m<=i)(b:i<m+zAH B):L[i]? =B[i-m]? :=ji
def QM {B:List bE}{i:Nat}(a:0<i)(h:i<=zAH B):(B.take i).getLast? =B[i-1]? :=ji
def head_drop {B:List bE}{i:Nat}:(B.drop i).head? =B[i]? :=j1
def zAy (X:List bE)(x:bE)(B Y:List bE)(R:yC w0 g n)(hn:zAH (X++(x::(B++Y)))=n)(hB:mB B)(LR:n<=1000)(S:iT w0 g (X++(x::(B++Y))) w){xa xm xb:Int}(exa:xa=(zAH X:Int))(exm:xm=((zAH X+1:Nat):Int))(exb:xb=((zAH X+1+zAH B:Nat):Int)):
  Calls zq 102 #[aK g n cap,xa,xm,xb,.func (.func 62) #[] #[]] w λe w'=>e=aM (.tuple #[])/\∃C,eO (x::B) C/\mB C/\iT w0 g (X++(C++Y)) w':=by
 have mixed:zq.follows .mixedOrders=aF:=by kernel_rfl
 let⟨a,ha⟩:=zzx (zAH X);let⟨m,hm⟩:=zzx (a+1);let⟨b,hb⟩:=zzx (m+zAH B);let⟨L,N⟩:=zzx (X++(x::(B++Y)));have Z:zAH L=n:=by rw[N];exact hn
 have hbn:b<=n:=by rw[<-hn];simp only[At,Bf];omega
 have W:L[a]? =aA x:=by rw[N,ha,Ec (je _),Gj];rfl
 have K:Hid (∀i,m<=i->i<b->L[i]? =B[i-m]?):=λi o G=>yW (X:=X++[x]) (Y:=Y) (by rw[N];exact j0) j3 o bm;have S0:Aside (iT w0 g L w):=by rw[N];exact S
 have HR:Hid (yC w0 g n):=R;have HBS:Hid (mB B):=hB;have HL:Hid (L=X++(x::(B++Y))/\a=zAH X/\b=m+zAH B):=⟨N,ha,hb⟩;have F:Hid (zAH L=n):=Z;have HLx:Hid (L[a]? =aA x):=W;have Xj:xa=(a:Int):=by omega
 have Xg:xm=(m:Int):=by omega
 have Xi:xb=(b:Int):=by omega
 have e1:(m:Int)-a=1:=by omega
 subst Xj Xg Xi;have U:m<=b:=by omega
 have ham:a<m:=by omega
 have HM:Hid (m=a+1):=hm;clear S R hB N ha hb hn Z W exa exm exb hm;go_enter (Qz.fn func102),ntmps102;go_wp2_with fail;go_loopg [10,11] (b-m) (λq u v wr=>∃i j:Nat,m<=i/\i<=j/\j<=b/\j-i=q/\u=aC aD i/\v=aC aD j/\(i=m\/∃y,L[i-1]? =aA y/\tO y x)/\(j=b\/∃y,L[j]? =aA y/\¬tO y x)/\Aside (iT w0 g L wr));case atStart=>exact⟨m,b,je _,U,je _,rfl,rfl,rfl,aH rfl,aH rfl,S0⟩
 case round=>
  clear S0
  obtain⟨i,j,T,aa,V,hq,rfl,rfl,o,G,S1⟩:=hrel
  have H:Hid ((i=m\/∃y,L[i-1]? =aA y/\tO y x)/\(j=b\/∃y,L[j]? =aA y/\¬tO y x)):=⟨o,G⟩
  clear o G
  by_cases hlt:i<j
  .have hlo:0<=(i:Int)+j:=bm;have hup:(i:Int)+j<=2000000:=bm;have aCV:(i:Int)<j:=bm;go_upto_region 5 with(fail)
   obtain⟨h,hh⟩:∃h:Nat,h=(i+j)/2:=⟨_,rfl⟩;have he:((i:Int)+j)/2=(h:Int):=bm;rw[he];have hih:i<=h:=bm;have hhj:h<j:=bm;clear hlo hup he hh;obtain⟨y,l⟩:∃y,L[h]? =aA y:=⟨_,Be (by have:=F.out;exact bm)⟩;let⟨k,ci,cj,zE,la,lb,D,HG⟩:=S1.ask HR F l HLx;have aE:=(λw=>(Qz.isAgg w 53).trans (isAgg53 w));have HY:Hid (L[h]? =aA y):=l;have lf:Hid (CG y x<0↔tO y x):=Hw;have hh0:(0:Int)<=h:=bm;have hh1:(h:Int)<n:=bm;have ha0:(0:Int)<=a:=bm;have ud:(a:Int)<n:=bm;generalize CG y x=cv at*;clear l S1;by_cases Wd:cv<0
   .go_quiet_grown (first|(refine Mp (D _ _)));clear la lb D zE aE;go_wp2;go_roundg (j-(h+1));case measure=>omega
    case rel=>exact⟨h+1,j,bm,bm,V,rfl,j9,rfl,aI ⟨y,by rw[NU];exact HY,lf.1 Wd⟩,H.2,HG _ _⟩
   .go_quiet_grown (first|(refine Mp (D _ _)));clear la lb D zE aE;go_wp2;go_roundg (h-i);case measure=>omega
    case rel=>exact⟨i,h,T,bm,bm,rfl,rfl,rfl,H.1,aI ⟨y,HY,λh'=>N8⟩,HG _ _⟩
  .obtain rfl:i=j:=bm;have hni:¬((i:Int)<i):=by omega
   obtain⟨d,s,f,J⟩:∃d s,B=d++s/\zAH d=i-m:=⟨B.take (i-m),B.drop (i-m),(GO _ _).symm,by rw[Ds];have:=HL.out;exact bm⟩;have HF:Hid (eO (x::B) (d++x::s)/\mB (d++x::s)):=by
    have hS:=HBS.out;rw[f]at hS⊢;refine aM2 hS (λy l=> ?_) λy l=> ?_
    .obtain e|⟨z,O,t⟩:=H.1
     .obtain rfl:d=[]:=Hr bm;cases l
     .have I:d≠[]:=λe=>by{rw[e]at l;cases l};have h0:=Hn.2 I;rw[K.out (i-1) bm bm,f,GN bm]at O;rw[List.getLast?_eq_getElem?,J,show i-m-1=i-1-m from bm,O]at l;cases l;exact t
    .have I:s≠[]:=λe=>by{rw[e]at l;cases l};have h0:=Hn.2 I;have hBl:zAH B=zAH d+zAH s:=by{rw[f,At]};have hb:=HL.2.2;obtain e|⟨z,O,t⟩:=H.2;{omega};{rw[K.out i bm bm,f,Ec bm,J,Gj]at O;rw[List.head?_eq_getElem?,O]at l;cases l;exact t}
   have M:Hid (X++(x::(d++(s++Y)))=L/\a=zAH X/\a+1+zAH d+zAH s+zAH Y=n/\i=a+1+zAH d):=by have o:=HL.out;have G:=F.out;refine⟨by rw[o.1,f];exact j0,o.2.1,?_,by have:=HM.out;exact bm⟩;rw[<-G,o.1,f];simp only[At,Bf];omega
   have S2:Aside (iT w0 g (X++(x::(d++(s++Y)))) wr):=by{rw[M.out.1];exact S1};have c1:(1:Int)<=i:=bm;have c2:(i:Int)<=1000:=bm;clear S1 HBS K HL F HLx H f J T aa V hq hlt U ham HM;go_wp2_with fail;go_loopg [13] (zAH d) (λq u wr=>∃(k:Nat)(E A:List bE),d=E++A/\k=a+zAH E/\zAH A=q/\u=aC aD k/\Aside (iT w0 g (X++(E++(x::(A++(s++Y))))) wr));case atStart=>exact⟨a,[],d,rfl,rfl,rfl,rfl,S2⟩
   case round=>
    clear S2
    obtain⟨k,E,A,hP,hk,hq,rfl,S3⟩:=hrel
    have HP:Hid (d=E++A/\k=a+zAH E/\zAH d=zAH E+zAH A):=⟨hP,hk,by rw[hP,At]⟩
    clear hP hk
    cases A with
    |nil=>
     have hki:¬((k:Int)<i-1):=by have o:=HP.out;have G:=M.out;simp only[CH]at o;omega
     have S4:Aside (iT w0 g (X++((d++x::s)++Y)) wr):=by show iT _ _ _ _;have:=S3.out;rw[HP.out.1];simpa using this
     exact A5
    |cons y A=>
     have o:=HP.out;have G:=M.out;rw[Bf]at o;obtain⟨⟨c,cx,cy,zE,lx,ly,la,lb,sa,sb,S4⟩,_⟩:=iT.xch (P:=X++E) (Q:=[]) (R':=A++(s++Y)) (x:=x) (y:=y) L1 HR L9 (p:=k) (r:=k+1) I4 (by rw[At,CH];exact bm);have aE:=(λw=>(Qz.isAgg w 53).trans (isAgg53 w));have k1:(k:Int)<i-1:=bm;have k2:(0:Int)<=k:=bm;have k3:(k:Int)<n:=bm;have k4:(0:Int)<=k+1:=bm;have k5:(k:Int)+1<(n:Int):=bm;have k6:IntKind.i64.wrap ((k:Int)+1)=(k:Int)+1:=C8;have k7:((k:Int)+1).toNat=k+1:=bm;clear o G S3;go_wp2_with fail;go_big_region_o;clear la lb sa sb zE aE lx ly;generalize(wr.drew.setCells g (k*c) cy).setCells g ((k+1)*c) cx=w2 at*;go_wp2;go_roundg (zAH A);case measure=>rw[<-hq,Bf];omega
     case rel=>exact⟨k+1,E++[y],A,by rw[HP.out.1];exact j0,by have:=HP.out;rw[At,Ie];exact bm,rfl,j9,(show iT _ _ _ _ by have:=S4.out;simpa using this)⟩
def VU (X A:List bE)(y:bE)(Y:List bE)(R:yC w0 g n)(hn:zAH (X++(A++(y::Y)))=n)(hA:mB A)(zw:zAH A≠1)(LR:n<=1000)(S:iT w0 g (X++(A++(y::Y))) w){xa xm xb:Int}(exa:xa=(zAH X:Int))(exm:xm=((zAH X+zAH A:Nat):Int))(exb:xb=((zAH X+zAH A+1:Nat):Int)):
  Calls zq 102 #[aK g n cap,xa,xm,xb,.func (.func 62) #[] #[]] w λe w'=>e=aM (.tuple #[])/\∃C,eO (A++[y]) C/\mB C/\iT w0 g (X++(C++Y)) w':=by
 have mixed:zq.follows .mixedOrders=aF:=by kernel_rfl
 let⟨a,ha⟩:=zzx (zAH X);let⟨m,hm⟩:=zzx (a+zAH A);let⟨b,hb⟩:=zzx (m+1);let⟨L,N⟩:=zzx (X++(A++(y::Y)));have Z:zAH L=n:=by rw[N];exact hn
 have hbn:b<=n:=by rw[<-hn];simp only[At,Bf];omega
 have W:L[m]? =aA y:=by rw[N,hm,ha,Ec bm,Ec bm];simp
 have K:Hid (∀i,a<=i->i<m->L[i]? =A[i-a]?):=λi t I=>yW N ha t bm;have S0:Aside (iT w0 g L w):=by rw[N];exact S
 have HR:Hid (yC w0 g n):=R;have HAS:Hid (mB A):=hA;have HL:Hid (L=X++(A++(y::Y))/\a=zAH X/\m=a+zAH A):=⟨N,ha,hm⟩;have E:Hid (zAH L=n):=Z;have HLy:Hid (L[m]? =aA y):=W;have Xj:xa=(a:Int):=by omega
 have Xg:xm=(m:Int):=by omega
 have Xi:xb=(b:Int):=by omega
 have e1:((m:Int)-a==1)=aG:=GM.2 bm;have e2:(b:Int)-m=1:=by omega
 subst Xj Xg Xi;have U:a<=m:=by omega
 have hmb:m<b:=by omega
 clear S R hA N ha hb hn Z W exa exm exb hm zw;go_enter (Qz.fn func102),ntmps102;go_wp2_with fail;go_loopg [14,15] (m-a) (λq u v wr=>∃i j:Nat,a<=i/\i<=j/\j<=m/\j-i=q/\u=aC aD i/\v=aC aD j/\(i=a\/∃x,L[i-1]? =aA x/\¬tO y x)/\(j=m\/∃x,L[j]? =aA x/\tO y x)/\Aside (iT w0 g L wr));case atStart=>exact⟨a,m,je _,U,je _,rfl,rfl,rfl,aH rfl,aH rfl,S0⟩
 case round=>
  clear S0
  obtain⟨i,j,V,aa,T,hq,rfl,rfl,t,I,S1⟩:=hrel
  have H:Hid ((i=a\/∃x,L[i-1]? =aA x/\¬tO y x)/\(j=m\/∃x,L[j]? =aA x/\tO y x)):=⟨t,I⟩
  clear t I
  by_cases hlt:i<j
  .have hlo:0<=(i:Int)+j:=bm;have hup:(i:Int)+j<=2000000:=bm;go_upto_region 17 with(fail)
   obtain⟨h,hh⟩:∃h:Nat,h=(i+j)/2:=⟨_,rfl⟩;have he:((i:Int)+j)/2=(h:Int):=bm;rw[he];have hih:i<=h:=bm;have hhj:h<j:=bm;clear hlo hup he hh;obtain⟨x,s⟩:∃x,L[h]? =aA x:=⟨_,Be (by have:=E.out;exact bm)⟩;let⟨k,ci,cj,zE,la,lb,D,HG⟩:=S1.ask HR E HLy s;have aE:=(λw=>(Qz.isAgg w 53).trans (isAgg53 w));have HX:Hid (L[h]? =aA x):=s;have lf:Hid (CG y x<0↔tO y x):=Hw;have hh0:(0:Int)<=h:=bm;have hh1:(h:Int)<n:=bm;have ha0:(0:Int)<=m:=bm;have ud:(m:Int)<n:=bm;generalize CG y x=cv at*;clear s S1;by_cases Wd:cv<0
   .go_quiet_grown (first|(refine Mp (D _ _)));clear la lb D zE aE;go_wp2;go_roundg (h-i);case measure=>omega
    case rel=>exact⟨i,h,V,bm,bm,rfl,rfl,rfl,H.1,aI ⟨x,HX,lf.1 Wd⟩,HG _ _⟩
   .go_quiet_grown (first|(refine Mp (D _ _)));clear la lb D zE aE;go_wp2;go_roundg (j-(h+1));case measure=>omega
    case rel=>exact⟨h+1,j,bm,bm,T,rfl,j9,rfl,aI ⟨x,by rw[NU];exact HX,λh'=>N8⟩,H.2,HG _ _⟩
  .obtain rfl:i=j:=bm;have hni:¬((i:Int)<i):=by omega
   obtain⟨l,f,d,G⟩:∃l f,A=l++f/\zAH l=i-a:=⟨A.take (i-a),A.drop (i-a),(GO _ _).symm,by rw[Ds];have:=HL.out;exact bm⟩;have HF:Hid (eO (A++[y]) (l++y::f)/\mB (l++y::f)):=by
    have hS:=HAS.out;have hAl:zAH A=zAH l+zAH f:=by{rw[d,At]};have hml:=HL.2.2;rw[d]at hS⊢;refine zBc hS (λx s=> ?_) λx s=> ?_
    .obtain e|⟨z,O,B⟩:=H.1
     .obtain rfl:l=[]:=Hr bm;cases s
     .have F:l≠[]:=λe=>by{rw[e]at s;cases s};have h0:=Hn.2 F;rw[K.out (i-1) bm bm,d,GN bm]at O;rw[List.getLast?_eq_getElem?,G,show i-a-1=i-1-a from bm,O]at s;cases s;exact B
    .have F:f≠[]:=λe=>by{rw[e]at s;cases s};have h0:=Hn.2 F;obtain e|⟨z,O,B⟩:=H.2;{omega};{rw[K.out i bm bm,d,Ec bm,G,Gj]at O;rw[List.head?_eq_getElem?,O]at s;cases s;exact B}
   have M:Hid (X++(l++(f++(y::Y)))=L/\a=zAH X/\a+zAH l+zAH f+1+zAH Y=n/\i=a+zAH l/\m=i+zAH f):=by have t:=HL.out;have I:=E.out;have h3:zAH A=zAH l+zAH f:=by{rw[d,At]};refine⟨by rw[t.1,d];exact j0,t.2.1,?_,bm,bm⟩;rw[<-I,t.1,d];simp only[At,Bf];omega
   have S2:Aside (iT w0 g (X++(l++(f++(y::Y)))) wr):=by{rw[M.out.1];exact S1};have c1:(0:Int)<=i:=bm;have c2:(m:Int)<=1000:=bm;clear S1 HAS K HL E HLy H d G V aa T hq hlt hmb U;go_wp2_with fail;go_loopg [17] (zAH f) (λq u wr=>∃(k:Nat)(o J:List bE),f=o++J/\k=i+zAH o/\zAH o=q/\u=aC aD k/\Aside (iT w0 g (X++(l++(o++(y::(J++Y))))) wr));case atStart=>exact⟨m,f,[],j0,M.2.2.2.2,rfl,rfl,(show iT _ _ _ _ by simpa using S2.out)⟩
   case round=>
    clear S2
    obtain⟨k,o,J,hP,hk,hq,rfl,S3⟩:=hrel
    have HP:Hid (f=o++J/\k=i+zAH o/\zAH f=zAH o+zAH J):=⟨hP,hk,by rw[hP,At]⟩
    clear hP hk
    obtain rfl|⟨o,z,rfl⟩:o=[]\/∃P z,o=P++[z]:=by obtain h|⟨P,z,h⟩:=List.eq_nil_or_concat o;{exact aH h};{exact aI ⟨P,z,by rw[h,List.concat_eq_append]⟩}
    .have hki:¬((i:Int)<k):=by have t:=HP.out;simp only[CH]at t;omega
     have S4:Aside (iT w0 g (X++((l++y::f)++Y)) wr):=by show iT _ _ _ _;have:=S3.out;rw[HP.out.1];simpa using this
     exact A5
    .have t:=HP.out;have I:=M.out;rw[At,Ie]at t;obtain⟨j,hj⟩:∃j,k=j+1:=⟨k-1,bm⟩;subst hj;obtain⟨_,c,cx,cy,zE,lx,ly,la,lb,sa,sb,S4⟩:=iT.xch (P:=X++(l++o)) (Q:=[]) (R':=J++Y) (x:=z) (y:=y) L1 HR L9 (p:=j) (r:=j+1) (by simp only[At];exact bm) (by simp only[At,CH];exact bm);have aE:=(λw=>(Qz.isAgg w 53).trans (isAgg53 w));have k1:(i:Int)<j+1:=bm;have k2:(0:Int)<=j:=bm;have k3:(j:Int)<n:=bm;have k4:(0:Int)<=j+1:=bm;have k5:(j:Int)+1<(n:Int):=bm;have k6:IntKind.i64.wrap (j:Int)=j:=C8;have k7:((j:Int)+1).toNat=j+1:=bm;clear t I S3;go_wp2_with fail;go_big_region_o;clear la lb sa sb zE aE lx ly;generalize(wr.drew.setCells g ((j+1)*c) cy).setCells g (j*c) cx=w2 at*;go_wp2;go_roundg (zAH o);case measure=>rw[<-hq,At,Ie];omega
     case rel=>exact⟨j,o,z::J,by rw[HP.out.1];exact j0,by have:=HP.out;rw[At,Ie]at this;exact bm,rfl,by first|rfl|go_num,(show iT _ _ _ _ by have:=S4.out;simpa using this)⟩
def NB (w0:zW)(g n cap N:Nat):Prop:=∀(X A B Y:List bE)(w:zW)(b x a:Int),zAH A+zAH B<=N->zAH (X++(A++(B++Y)))=n->A≠[]->B≠[]->mB A->mB B->iT w0 g (X++(A++(B++Y))) w->b=(zAH X:Int)->x=((zAH X+zAH A:Nat):Int)->a=((zAH X+zAH A+zAH B:Nat):Int)->Calls zq 102 #[aK g n cap,b,x,a,.func (.func 62) #[] #[]] w λe c=>e=aM (.tuple #[])/\∃C,eO (A++B) C/\mB C/\iT w0 g (X++(C++Y)) c
structure sr (A B A1 A2 B1 B2:List bE):Prop where
 a:A=A1++A2
 b:B=B1++B2
 lt:∀x∈A2,∀y∈B1,tO y x
 le:∀x∈A1,∀y∈B2,xL x y
theorem sr.done {A B A1 A2 f e a C:List bE}(h:sr A B A1 A2 f e)(j:mB A)(i:mB B)(d:eO (A1++f) a)(c:eO (A2++e) C)(s1:mB a)(s2:mB C):eO (A++B) (a++C)/\mB (a++C):=by obtain⟨rfl,rfl,b,k⟩:=h;exact⟨xU d c b,DD d c s1 s2 j i b k⟩
structure Tail (w0:zW)(g n cap:Nat)(L:List bE)(a m b nQ s e:Nat)(F:Nat->zW->Prop)(D:zW->Prop):Prop where
 one:∀W,iT w0 g L W->(s<m->m<e->Calls zq 119 #[aK g n cap,s,m,e,.func (.func 62) #[] #[]] W λe w'=>e=aM (.tuple #[])/\F 1 w')/\(¬(s<m/\m<e)->F 1 W)
 two:∀W,F 1 W->(a<s->s<nQ->Calls zq 102 #[aK g n cap,a,s,nQ,.func (.func 62) #[] #[]] W λe w'=>e=aM (.tuple #[])/\F 2 w')/\(¬(a<s/\s<nQ)->F 2 W)
 three:∀W,F 2 W->(nQ<e->e<b->Calls zq 102 #[aK g n cap,nQ,e,b,.func (.func 62) #[] #[]] W λe w'=>e=aM (.tuple #[])/\D w')/\(¬(nQ<e/\e<b)->D W)
def bf {N:Nat}{X A B Y L:List bE}{a m b nQ s e:Nat}(R:yC w0 g n)(K:n<=1000)(U:NB w0 g n cap N)(hN:zAH A+zAH B<=N+1)(hL:L=X++(A++(B++Y)))(hn:zAH L=n)(ha:a=zAH X)(hm:m=a+zAH A)(hb:b=m+zAH B)(J:mB A)(I:mB B)(V:a<nQ)(M:nQ<b)(hs:a<=s)(yd:s<=m)(he:m<=e)(heb:e<=b)(hse:s+e=nQ+m) (Z:a<s->e<b->∃x y,L[s-1]? =aA x/\L[e]? =aA y/\xL x y) (P:s<m->m<e->∃x y,L[s]? =aA x/\L[e-1]? =aA y/\tO y x): ∃F,Tail w0 g n cap L a m b nQ s e F λT=>∃C,eO (A++B) C/\mB C/\iT w0 g (X++(C++Y)) T:=by obtain⟨l,d,c,j,hC,l1,l2⟩:∃l d c j,sr A B l d c j/\zAH l=s-a/\zAH c=e-m:=by{have H:∀i,a<=i->i<m->L[i]? =A[i-a]? :=by{grind[yW]};have G:∀i,m<=i->i<b->L[i]? =B[i-m]? :=by{grind[yW]};have D:=J;have z:=I;rw[<-GO (s-a) A]at D;rw[<-GO (e-m) B]at z;let⟨u,t,_⟩:=Ib.1 D;let⟨r,q,_⟩:=Ib.1 z;refine⟨A.take (s-a),A.drop (s-a),B.take (e-m),B.drop (e-m),⟨(GO _ _).symm,(GO _ _).symm,Fv t r λx y p o=> ?_,Ge u q λx y p o=> ?_⟩,E7,E7⟩;{rw[head_drop]at p;have k1:=(Bx.1 p).1;have k2:m<e:=NZ λO=>by{rw[show e-m=0 from bm]at o;cases o};rw[QM bm bm]at o;let⟨x',y',S,Q,e3⟩:=P bm k2;rw[H s hs bm,p]at S;rw[G (e-1) bm bm,show e-1-m=e-m-1 from bm,o]at Q;grind};{rw[head_drop]at o;have k1:=(Bx.1 o).1;have k2:a<s:=NZ λO=>by{rw[show s-a=0 from bm]at p;cases p};rw[QM bm bm]at p;let⟨x',y',S,Q,e3⟩:=Z k2 bm;rw[H (s-1) bm bm,show s-1-a=s-a-1 from bm,p]at S;rw[G e bm bm,o]at Q;grind}};have eA:zAH A=zAH l+zAH d:=by{rw[hC.a,At]};have eB:zAH B=zAH c+zAH j:=by{rw[hC.b,At]};have D:=J;have z:=I;rw[hC.a]at D;rw[hC.b]at z;let⟨u,t,_⟩:=Ib.1 D;let⟨r,q,_⟩:=Ib.1 z;have E:L=X++(l++(d++(c++(j++Y)))):=by{rw[hL,hC.a,hC.b];simp};have hlen:zAH X+zAH l+zAH d+zAH c+zAH j+zAH Y=n:=by{grind};refine⟨λi W=>if i=1 then iT w0 g (X++(l++(c++(d++(j++Y))))) W else∃v,eO (l++c) v/\mB v/\iT w0 g (X++(v++(d++(j++Y)))) W,λW f=>⟨λk1 k2=> ?_,λk=> ?_⟩,λW f=>⟨λk1 k2=> ?_,λk=> ?_⟩,λW f=>⟨λk1 k2=> ?_,λk=> ?_⟩⟩;{rw[E]at f;refine(zGi (X++l) d c (j++Y) R ji ji ji K ji ji ji ji).mono ?_;exact ji};{rw[AE rfl];rw[E]at f;by_cases h:s<m;{obtain rfl:c=[]:=Hr bm;exact j5};.obtain rfl:d=[]:=Hr bm;exact j5};{rw[AE rfl]at f;refine(U X l c (d++(j++Y)) W _ _ _ bm ji ji ji u r f bm bm bm).mono ?_;exact ji};{rw[AE rfl]at f;rw[AF j2];refine⟨l++c,.refl _,?_,ji⟩;by_cases h:a<s;all_goals grind};{rw[AF j2]at f;let⟨v,c1,c2,c3⟩:=f;have cl:=c1.len;rw[At]at cl;refine(U (X++v) d j Y W _ _ _ bm ji ji ji t q ji ji ji ji).mono ?_;rintro e T ⟨Z,C2,P,h3,h4⟩;let⟨d1,d2⟩:=hC.done J I c1 P c2 h3;exact ji};.rw[AF j2]at f;let⟨v,c1,c2,c3⟩:=f;have s2:mB (d++j):=by{by_cases h:nQ<e;all_goals grind};let⟨d1,d2⟩:=hC.done J I c1 (.refl _) c2 s2;exact ji
def aML {N:Nat}(R:yC w0 g n)(j:n<=1000)(ih:NB w0 g n cap N):NB w0 g n cap (N+1):=by
 intro X A B Y w xa xm xb hN O Z W hA hB S J G I;have hA1:=Hn.2 Z;have zv:=Hn.2 W;by_cases p:zAH A=1
 .obtain⟨x,rfl⟩:=List.length_eq_one_iff.1 p;exact zAy X x B Y R (by simpa using O) hB j (by simpa using S) J (by simpa using G) (by simpa using I)
 by_cases V:zAH B=1
 .obtain⟨y,rfl⟩:=List.length_eq_one_iff.1 V;exact VU X A y Y R (by simpa using O) hA p j (by simpa using S) J G (by simpa using I)
 have mixed:zq.follows .mixedOrders=aF:=by kernel_rfl
 let⟨a,ha⟩:=zzx (zAH X);let⟨m,hm⟩:=zzx (a+zAH A);let⟨b,hb⟩:=zzx (m+zAH B);let⟨nQ,Q⟩:=zzx ((a+b)/2);let⟨L,hL⟩:=zzx (X++(A++(B++Y)));have o:zAH L=n:=by rw[hL];exact O
 have hbn:b<=n:=by rw[<-O];simp only[At];omega
 have S0:Aside (iT w0 g L w):=by rw[hL];exact S
 have HR:=hid R;have K:=hid o;have e1:((m:Int)-a==1)=aG:=GM.2 bm;have e2:((b:Int)-m==1)=aG:=GM.2 bm;obtain⟨f1,f2,f3,f4⟩:a+2<=m/\m+2<=b/\a<nQ/\nQ<b:=by omega
 have f5:nQ+nQ<=a+b/\a+b<=nQ+nQ+1:=by omega
 have HT:Hid (∀s e,a<=s->s<=m->m<=e->e<=b->s+e=nQ+m->(a<s->e<b->∃x y,L[s-1]? =aA x/\L[e]? =aA y/\xL x y)->(s<m->m<e->∃x y,L[s]? =aA x/\L[e-1]? =aA y/\tO y x)->∃F,Tail w0 g n cap L a m b nQ s e F λf=>∃C,eO (A++B) C/\mB C/\iT w0 g (X++(C++Y)) f):=λs e E z h3 h4 h5 h6 h7=>bf R j ih hN hL o ha hm hb hA hB f3 f4 E z h3 h4 h5 h6 h7;obtain⟨D,hD⟩:∃D:zW->Prop,D=λf=>∃C,eO (A++B) C/\mB C/\iT w0 g (X++(C++Y)) f:=⟨_,rfl⟩;rw[<-hD]at HT;have Xj:xa=(a:Int):=by omega
 have Xg:xm=(m:Int):=by omega
 have Xi:xb=(b:Int):=by omega
 subst Xj Xg Xi;have hg:∀(e:Ending)(f:zW),(e=aM (.tuple #[])/\∃C,eO (A++B) C/\mB C/\iT w0 g (X++(C++Y)) f)=(e=aM (.tuple #[])/\D f):=λe f=>by rw[hD]
 simp only[hg];have l:0<=(a:Int)+b:=by omega
 have i:(a:Int)+b<=2000000:=by omega
 clear S R hA hB hL ha hb O o J G I hm Z W p V hA1 zv hN ih hD hg;go_enter (Qz.fn func102),ntmps102;go_upto_region 25 with(fail)
 have c:((a:Int)+b)/2=(nQ:Int):=by omega
 rw[c];clear l i c Q;have g1:(b:Int)<=1000:=by omega
 have g2:(m:Int)<b:=by omega
 have g3:(a:Int)<m:=by omega
 have g4:(nQ:Int)<b:=by omega
 have g5:(a:Int)<nQ:=by omega
 by_cases hmm:nQ<m;have P:(nQ:Int)<m:=by omega
 obtain⟨lo,hi,E1,E2,g6,q1,q2,q3,q4,q5⟩:∃lo hi:Nat,(nQ:Int)+m-(b:Int)=lo/\Hid ((nQ:Int)=hi)/\(0:Int)<=lo/\a<=lo/\lo<=hi/\hi<=m/\hi<=nQ/\nQ+m<=b+lo:=⟨nQ+m-b,nQ,bm,rfl,bm,bm,bm,bm,bm,bm⟩;rotate_left;have P:¬(nQ:Int)<m:=by omega
 obtain⟨lo,hi,E1,E2,q1,q2,q3,q4,q5⟩:∃lo hi:Nat,Hid ((a:Int)=lo)/\Hid ((m:Int)=hi)/\a<=lo/\lo<=hi/\hi<=m/\hi<=nQ/\nQ+m<=b+lo:=⟨a,m,rfl,rfl,bm,bm,bm,bm,bm⟩;all_goals
  go_upto_region 33 with(fail)
  go_loopg [20,21] (hi-lo) (λq u v wr=>∃s t:Nat,lo<=s/\s<=t/\t<=hi/\t-s=q/\u=aC aD s/\v=aC aD t/\(s=lo\/∃x y,L[s-1]? =aA x/\L[nQ+m-s]? =aA y/\xL x y)/\(t=hi\/∃x y,L[t]? =aA x/\L[nQ+m-t-1]? =aA y/\tO y x)/\Aside (iT w0 g L wr))
  case atStart=>exact⟨lo,hi,je _,q2,je _,rfl,by first|rfl|rw[E1.out],by rw[E2.out],aH rfl,aH rfl,S0⟩
  case round=>
   clear S0
   obtain⟨s,t,hs,GQ,M,hq,rfl,rfl,E,z,S1⟩:=hrel
   have H1:Hid _:=E
   have H2:Hid _:=z
   clear E z
   by_cases hlt:s<t
   .have l:0<=(s:Int)+t:=bm;have i:(s:Int)+t<=2000000:=bm;have aCV:(s:Int)<t:=bm;go_upto_region 35 with(fail)
    obtain⟨h,c,hih,hhj⟩:∃h:Nat,((s:Int)+t)/2=(h:Int)/\s<=h/\h<t:=⟨(s+t)/2,bm,bm,bm⟩;rw[c];clear l i c;obtain⟨r,hr,T,hrn⟩:∃r,Hid (r=nQ+m-h-1)/\(nQ:Int)+m-1-(h:Int)=r/\r<n:=⟨_,rfl,bm,bm⟩;obtain⟨x,hx⟩:∃x,L[h]? =aA x:=⟨_,Be J4⟩;obtain⟨y,hy⟩:∃y,L[r]? =aA y:=⟨_,Be J4⟩;let⟨k,ci,cj,zE,la,lb,U,HG⟩:=S1.ask HR K hy hx;have aE:=(λw=>(Qz.isAgg w 53).trans (isAgg53 w));have H:Hid (L[h]? =aA x/\L[nQ+m-h-1]? =aA y):=⟨hx,hr.out▸hy⟩;have lf:Hid (CG y x<0↔tO y x):=Hw;have hh0:(0:Int)<=h:=bm;have hh1:(h:Int)<n:=bm;have ha0:(0:Int)<=r:=bm;have ud:(r:Int)<n:=bm;have hw:IntKind.i64.wrap (r:Int)=r:=by rw[Dt];omega
    generalize CG y x=cv at*;clear hx hy S1;by_cases Wd:cv<0;all_goals
     go_quiet_grown (first|(refine Mp (U _ _)))
     clear la lb U zE aE T hw
     go_wp2
     first
     |go_roundg (h-s)
      case measure=>omega
      case rel=>exact⟨s,h,hs,bm,bm,rfl,rfl,rfl,H1,aI ⟨x,y,H.1,H.2,lf.1 Wd⟩,HG _ _⟩
     |go_roundg (t-(h+1))
      case measure=>omega
      case rel=>exact⟨h+1,t,bm,bm,M,rfl,j9,rfl,aI ⟨x,y,by rw[NU];exact H.1,by rw[show nQ+m-(h+1)=nQ+m-h-1 from bm];exact H.2,λh'=>N8⟩,H2,HG _ _⟩
   .obtain rfl:s=t:=bm;have hni:¬((s:Int)<s):=by omega
    let⟨e,c⟩:=zzx (nQ+m-s);let⟨F,d⟩:=HT s e bm bm bm bm bm (λk1 k2=>by
     obtain h|⟨x,y,z1,z2,z3⟩:=H1;{first|omega|(have:=E1.out;omega)}
     .exact⟨x,y,z1,by rw[c];exact z2,z3⟩) (λk1 k2=>by
     obtain h|⟨x,y,z1,z2,z3⟩:=H2;{have:=E2.out;omega}
     .exact⟨x,y,z1,by rw[c];exact z2,z3⟩)
    replace d:Hid (Tail w0 g n cap L a m b nQ s e F D):=d;have T:(nQ:Int)+m-(s:Int)=e:=bm;have g8:(e:Int)<=1000:=bm;have g9:(s:Int)<=1000:=bm;by_cases i1:(s:Int)<m<;>by_cases i2:(m:Int)<e<;>by_cases i3:(a:Int)<s<;>by_cases i4:(s:Int)<nQ<;>by_cases i5:(nQ:Int)<e<;>by_cases i6:(e:Int)<b<;>first|(exfalso;omega)|skip
    all_goals
     clear c H1 H2 hs GQ M hq hlt HT q1 q2 q3 q4 q5
     first
     |have F1:Aside (F 1 wr):=(d.one _ S1).2 bm
     |(have T1:=(d.one _ S1).1 bm bm
       clear S1
       go_wp2_with fail
       refine T1.mono ?_
       clear T1
       rintro e' w1 ⟨rfl,E⟩
       have F1:Aside (F 1 w1):=E
       clear E)
     first
     |have F2:Aside (F 2 _):=(d.two _ F1).2 bm
     |(have T2:=(d.two _ F1).1 bm bm
       clear F1
       go_wp2_with fail
       refine T2.mono ?_
       clear T2
       rintro e' w2 ⟨rfl,z⟩
       have F2:Aside (F 2 w2):=z
       clear z)
     first
     |have F3:Aside (D _):=(d.three _ F2).2 bm
     |(have T3:=(d.three _ F2).1 bm bm
       clear F2
       go_wp2_with fail
       refine T3.mono ?_
       clear T3
       rintro e' w3 ⟨rfl,h3⟩
       have F3:Aside (D w3):=h3
       clear h3)
     go_wp2
     go_end0
     exact⟨rfl,F3⟩
def yP (R:yC w0 g n)(h:n<=1000):∀N,NB w0 g n cap N
 |0=>λX A B Y w c x b e d a=>absurd (Hn.2 a) (by omega)|N+1=>aML R h (yP R h N)
def zDu (X A Y:List bE)(R:yC w0 g n)(H:zAH (X++(A++Y))=n)(v:n<=1000)(S:iT w0 g (X++(A++Y)) w){o x:Int}(l:o=(zAH X:Int))(k:x=((zAH X+zAH A:Nat):Int)):
  Calls zq 101 #[aK g n cap,o,x,.func (.func 62) #[] #[]] w λe p=>e=aM (.tuple #[])/\∃C,eO A C/\mB C/\iT w0 g (X++(C++Y)) p:=by
 subst l k;let⟨d0,f,R⟩:=R;have q:(X++(A++Y)).toArray.size=n:=by assumption
 have h:=fu g cap (zAH X) (zAH X+zAH A) (zAL (X++(A++Y))) w (SWK.holds S R.hblk R.hH (by rw[q,f])) (SWK.lt S R.hblk) bm ji bm;rw[q]at h;refine h.mono ?_;rintro e p ⟨rfl,m,os,rfl⟩;obtain⟨C,h1,t,E⟩:∃C,zAM (insertionSort (ltOf CG) (zAL (X++(A++Y))) (zAH X) (zAH X+zAH A))=X++(C++Y)/\eO A C/\mB C:=by
   let⟨d,r⟩:=zzx (zAL (X++(A++Y)));have D:d.size=zAH X+zAH A+zAH Y:=ji;have c:zAM d=X++(A++Y):=by{rw[r]};let⟨⟨G,p2,_⟩,p4⟩:=Go.Sort.insertionSort_holds nh d (zAH X) (zAH X+zAH A) bm bm;have u:∀I,eF I (zAM (insertionSort (ltOf CG) d (zAH X) (zAH X+zAH A)))=eF I (zAM d):=λI=>(AW I (zAH X) (zAH X+zAH A) _ (zAH X+1) d rfl bm).1;rw[<-r];generalize insertionSort (ltOf CG) d (zAH X) (zAH X+zAH A)=a at*;have y:zAH (zAM a)=zAH X+zAH A+zAH Y:=ji;have b:∀i,i<d.size->i<zAH X\/zAH X+zAH A<=i->a.toList[i]? =d.toList[i]? :=by grind
   have K:a.toList.take (zAH X)=X:=by apply List.ext_getElem?;intro i;rw[GK];by_cases h:i<zAH X;all_goals grind
   have J:a.toList.drop (zAH X+zAH A)=Y:=by apply List.ext_getElem?;intro i;rw[Hm];by_cases h:i<zAH Y;{rw[b _ bm (aI bm),c,Ec bm,Ec bm,show zAH X+zAH A+i-zAH X-zAH A=i from bm]};grind
   have F:zAM a=X++((a.toList.drop (zAH X)).take (zAH A)++Y):=by grind[List.take_append_drop,List.drop_drop]
   refine⟨_,F,⟨ji,λI=> ?_⟩,?_⟩;{have:=u I;grind[List.append_cancel_right,List.append_cancel_left,Fe]};{refine Ns.2 ?_;intro i j hi z B s;rw[Ds,GL]at hi z;have:=p4 (zAH X+i) (zAH X+j) bm bm bm;rw[getElem!_pos a _ bm,getElem!_pos a _ bm]at this;simp only[List.getElem_take,List.getElem_drop,aNu]at s;have t:=(nA _ _).2 s;grind}
 refine⟨rfl,C,t,E,?_⟩;have e:insertionSort (ltOf CG) (zAL (X++(A++Y))) (zAH X) (zAH X+zAH A)=zAL (X++(C++Y)):=by rw[<-h1]
 grind[RowK.hblk,List.size_toArray,SWK.on,eO.len]
structure ES (us:List bE)(s n a:Nat)(D r:List bE):Prop where
 at':a=D.length
 on:∀r',fX s r'->fX s (D++r')
 gP:eO us (D++r)
 len:a+r.length=n
def ES.next {us D r A C Y:List bE}{s n a:Nat}(h:ES us s n a D r)(i:r=A++Y)(f:eO A C)(e:mB C)(hl:zAH A=s):ES us s n (a+s) (D++C) Y:=by have k:=h.len;have j:=h.at';have d:=f.len;refine⟨ji,λc b=> ?_,?_,?_⟩;{rw[Df];exact h.on _ (.cons C c e bm b)};{have:=h.gP;grind[eO.trans,eO.nQ]};exact ji
theorem ES.done {us D r C:List bE}{s n a:Nat}(h:ES us s n a D r)(b:eO r C)(d:mB C)(hl:zAH r<=s):fX s (D++C)/\eO us (D++C):=by have c:=b.len;refine⟨h.on _ (.last C d bm),h.gP.trans ?_⟩;have:=b.nQ D [];exact ji
def WH (us:List bE)(R:yC w g (zAH us))(S:iT w g us w)(F:zAH us<=1000): Calls zq 88 #[aK g (zAH us) cap,zAH us,.func (.func 62) #[] #[]] w λe Z=>e=aM (.tuple #[])/\iT w g (eM us) Z:=by have HI:Hid (∀(X A Y:List bE)(W:zW)(V U:Int),zAH (X++(A++Y))=zAH us->iT w g (X++(A++Y)) W->V=(zAH X:Int)->U=((zAH X+zAH A:Nat):Int)->Calls zq 101 #[aK g (zAH us) cap,V,U,.func (.func 62) #[] #[]] W λe Z=>e=aM (.tuple #[])/\∃C,eO A C/\mB C/\iT w g (X++(C++Y)) Z):=λX A Y W V U c b f h4=>zDu X A Y R c F b f h4;have HM:Hid (∀N,NB w g (zAH us) cap N):=yP R F;have P:Hid (∀s L,zAH us<=s->fX s L->eO us L->L=eM us):=λs L c b f=>by{have hs:mB L:=b.small (by have:=f.len;exact bm);exact QJ (l:=eM us) ⟨by rw[f.len,kW],λI=>by rw[f.of,xO]⟩ (qS us) hs};have S0:Aside (iT w g us w):=S;have HH:Hid (∀s L,eO us L->ES us s (zAH us) 0 [] L):=λs L h=>(⟨rfl,λv h=>h,h,by have:=h.len;exact bm⟩);generalize eM us=T at*;clear S R;have m:Hid (∀L,eO us L->zAH L=zAH us):=λL h=>h.len;generalize zAH us=n at*;go_enter (Qz.fn func88),ntmps88;go_wp2_with fail;go_loopg [7,8] n (λq x y wr=>∃(a:Nat)(D r:List bE),n-a<=q/\a<=n/\x=aC aD a/\y=aC aD ((a:Int)+20)/\Aside (ES us 20 n a D r/\iT w g (D++r) wr));(case atStart=>exact⟨0,[],us,je _,Cw _,rfl,rfl,HH 20 us (.refl _),S0⟩);case round=>clear S0;obtain⟨a,D,r,hq,O,rfl,rfl,H⟩:=hrel;by_cases t:a+20<=n;{have j:(a:Int)+20<=(n:Int):=bm;obtain⟨A,Y,i,hA⟩:∃A Y,r=A++Y/\zAH A=20:=⟨r.take 20,r.drop 20,(GO _ _).symm,by rw[Ds];have:=H.1.len;exact bm⟩;have d:=H.1.at';have p:=HI D A Y wr (a:Int) ((a:Int)+20) (i▸(m _ H.1.gP)) (i▸H.out.2) bm bm;have k:Hid (∀C,eO A C->mB C->ES us 20 n (a+20) (D++C) Y):=λC c b=>H.1.next i c b hA;clear i hA d H;go_wp2_with fail;refine p.mono ?_;clear p;rintro e w1 ⟨rfl,C,c,b,f⟩;have B:Aside (ES us 20 n (a+20) (D++C) Y/\iT w g ((D++C)++Y) w1):=⟨k C c b,J3⟩;clear c b f k;go_wp2;go_roundg (n-(a+20));(case measure=>omega);case rel=>exact⟨a+20,D++C,Y,je _,t,j9,U9,B⟩};.have j:¬((a:Int)+20<=(n:Int)):=bm;have d:=H.1.at';have u:=H.1.len;have p:=HI D r [] wr (a:Int) (n:Int) (by rw[Bj];exact m _ H.1.gP) (by rw[Bj];exact H.2) bm bm;have k:Hid (∀C,eO r C->mB C->fX 20 (D++C)/\eO us (D++C)):=λC c b=>H.1.done c b bm;clear d u H;go_wp2_with fail;refine p.mono ?_;clear p;rintro e w1 ⟨rfl,C,c,b,f⟩;have o:Aside (fX 20 (D++C)/\eO us (D++C)/\iT w g (D++C) w1):=⟨(k C c b).1,(k C c b).2,J3⟩;generalize D++C=L0 at o;clear c b f k j hq O t;go_wp2_with fail;go_loopg [6] n (λq x wr=>∃(s:Nat)(L:List bE),n-s<=q/\20<=s/\s<=2000/\x=aC aD s/\Aside (fX s L/\eO us L/\iT w g L wr));(case atStart=>exact⟨20,L0,bm,bm,bm,rfl,o⟩);case round=>clear o;obtain⟨s,L,hq,aHX,hs2,rfl,o⟩:=hrel;generalize wr=wq at*;by_cases hlt:s<n;{have M:(s:Int)<n:=bm;have Q:Aside (ES us (2*s) n 0 [] L/\fX s L/\iT w g L wq):=⟨HH _ _ o.2.1,o.1,o.2.2⟩;clear o;go_wp2_with fail;go_loopg [7,8] n (λq x y wr=>∃(a:Nat)(D r:List bE),n-a<=q/\a<=n/\x=aC aD a/\y=aC aD ((a:Int)+2*(s:Int))/\Aside (ES us (2*s) n a D r/\fX s r/\iT w g (D++r) wr));(case atStart=>exact⟨0,[],L,je _,Cw _,rfl,U9,Q⟩);case round=>clear Q;obtain⟨a,D,r,hq',O,rfl,rfl,H⟩:=hrel;by_cases t:a+2*s<=n;{have j:(a:Int)+2*(s:Int)<=n:=bm;let⟨l,l',v,i,s1,E,s2,n2,K⟩:=H.2.1.two bm (by have:=H.1.len;exact bm);have d:=H.1.at';have p:=HM _ D l l' v wr (a:Int) ((a:Int)+s) ((a:Int)+2*(s:Int)) (je _) (i▸(m _ H.1.gP)) (λh=>by rw[h,CH]at E;exact bm) (λh=>by rw[h,CH]at n2;exact bm) s1 s2 (i▸H.out.2.2) bm bm bm;have k:Hid (∀C,eO (l++l') C->mB C->ES us (2*s) n (a+2*s) (D++C) v/\fX s v):=λC c b=>⟨H.1.next (A:=l++l') (by rw[i,Df]) c b I4,K⟩;clear i s1 E s2 n2 K d H;go_wp2_with fail;refine p.mono ?_;clear p;rintro e w2 ⟨rfl,C,c,b,f⟩;have B:Aside (ES us (2*s) n (a+2*s) (D++C) v/\fX s v/\iT w g ((D++C)++v) w2):=⟨(k C c b).1,(k C c b).2,J3⟩;clear c b f k;go_wp2;go_roundg (n-(a+2*s));(case measure=>omega);case rel=>exact⟨a+2*s,D++C,v,je _,t,M6,U9,B⟩};.have j:¬((a:Int)+2*(s:Int)<=n):=bm;have u:=H.1.len;have d:=H.1.at';by_cases hm:a+s<n;{have tw:(a:Int)+s<(n:Int):=bm;let⟨l,r1,i,s1,E,J⟩:=H.2.1.first bm;have G:zAH r=zAH l+zAH r1:=by{rw[i,At]};have p:=HM _ D l r1 [] wr (a:Int) ((a:Int)+s) (n:Int) (je _) (by rw[Bj,<-i];exact m _ H.1.gP) (λh=>by rw[h,CH]at E;exact bm) (λh=>by rw[h,CH]at G;exact bm) s1 (J.small bm) (by rw[Bj,<-i];exact H.2.2) bm bm bm;have k:Hid (∀C,eO (l++r1) C->mB C->fX (2*s) (D++C)/\eO us (D++C)):=λC c b=>H.1.done (i▸c) b bm;clear i s1 E J G u d H;go_wp2_with fail;refine p.mono ?_;clear p;rintro e w2 ⟨rfl,C,c,b,f⟩;have z:Aside (fX (2*s) (D++C)/\eO us (D++C)/\iT w g (D++C) w2):=⟨(k C c b).1,(k C c b).2,J3⟩;clear c b f k;go_wp2;go_roundg (n-2*s);(case measure=>omega);case rel=>exact⟨2*s,D++C,je _,bm,bm,M6,z⟩};.have tw:¬((a:Int)+s<(n:Int)):=by{omega};have z:Aside (fX (2*s) (D++r)/\eO us (D++r)/\iT w g (D++r) wr):=by{let⟨c,b⟩:=H.1.done (.refl _) (H.2.1.small bm) bm;exact⟨c,b,H.2.2⟩};clear u d H;go_wp2;go_roundg (n-2*s);(case measure=>omega);case rel=>exact⟨2*s,D++r,je _,bm,bm,M6,z⟩};.have M:¬((s:Int)<n):=by{omega};have HF:Aside (iT w g T wq):=by{have:=P s L bm o.1 o.2.1;rw[<-this];exact o.2.2};clear o;go_wp2;go_end0;exact⟨rfl,HF⟩
end
open Go.RowKit Sha
theorem bO.len {w base v l}(h:bO w base v l):∃a c,v=aK a l.length c/\(0<l.length->∃g,a=aA ⟨g,0,aB⟩/\base<=g/\g<w.heap.size):=by obtain⟨rfl,b⟩|⟨g,cap,cur,rfl,hb,hh,_⟩:=h.2;{exact⟨aB,0,by rw[b],λd=>bm⟩};.exact⟨_,cap,rfl,λ_=>⟨g,rfl,hb,(Ax.1 hh).1⟩⟩
def bO.cellAt {w base g c l}(h:bO w base (aK (aA ⟨g,0,aB⟩) l.length c) l)(i)(u)(a:l[i]? =aA u)(j)(b:j<3):w.cell? ⟨g,i*3+j,aB⟩=u.cells[j]? :=by have hi:=(Bx.1 a).1;rw[World.ownsRow.cellAt h (i*3+j) bm];exact gF l i u a j b
def Oy {w base g cap us}(h:bO w base (aK (aA ⟨g,0,aB⟩) us.length cap) us):HoldsK bE.cells 3 w g 0 us.toArray:=by intro t d;rw[size_flatK,Dq]at d;have hi:t/3<zAH us:=by{omega};have a:=Be hi;have c:=(QS us (t/3) _ a (t%3) bm).1;have b:=h.cellAt (t/3) _ a (t%3) bm;rw[show t/3*3+t%3=t from bm]at c b;refine⟨?_,World.ownsRow.frozenAt h _⟩;rw[Ce,b,c];have:t%3<zAH (us[t/3]).cells:=LV _ bm;exact ji
def aMk (base g cap:Nat)(us:List bE)(w:zW)(a:bO w base (aK (aA ⟨g,0,aB⟩) us.length cap) us)(l:base<=g)(i:g<w.heap.size)(f:us.length<=1000):
  Calls zq 88 #[aK (aA ⟨g,0,aB⟩) us.length cap,aC aD us.length,.func (.func 62) #[] #[]] w λe c=>
   e=aM (.tuple #[])/\HoldsK bE.cells 3 c g 0 (eM us).toArray/\Below base w c:=by have d:=Oy a;refine(WH us ⟨zAL us,j0,λ_=>rfl,pW,d,i⟩ (SWK.start d) f).mono ?_;rintro e c ⟨rfl,h⟩;refine⟨rfl,SWK.holds h i d (by simp[kW]),?_⟩;obtain⟨m,os,rfl⟩:=h;have b:Below base w (putRow id (Go.Sort.ahead w m) g 0 (flatK bE.cells 3 (zAL (eM us)))):=Lib.below_putRow (Av _ _) l;refine⟨b.os,b.tape,b.output,?_,λk j=> ?_⟩;{show _<=(_++os).size;rw[Array.size_append];exact Az b.size (Nat.le_add_right _ _)};.show(_++os)[k]? =_;rw[Array.getElem?_append_left (by show k<(putRow id (Go.Sort.ahead w m) g 0 (flatK bE.cells 3 (zAL (eM us)))).heap.size;rw[size_putRow];show k<w.heap.size;exact bm)];exact b.block k j
def zEd (base g cap:Nat)(us:List bE)(w:zW)(h:bO w base (aK (aA ⟨g,0,aB⟩) us.length cap) us)(f:base<=g)(c:g<w.heap.size)(a:us.length<=1000):
  Calls zq 61 #[aK (aA ⟨g,0,aB⟩) us.length cap,.func (.func 62) #[] #[]] w λe b=>
   e=aM (.tuple #[])/\HoldsK bE.cells 3 b g 0 (eM us).toArray/\Below base w b:=by have d:=aMk base g cap us w h f c a;clear h;generalize zAH us=n at*;generalize(eM us).toArray=D at*;go_enter (Qz.fn func61),ntmps61;go_wp2_with fail;refine d.mono ?_;rintro e w1 ⟨rfl,h1,i⟩;go_wp2_with fail;go_end0;exact ji
def ru (w:zW)(v:zY)(us:List bE):Prop:=(us=[]/\∃a c,v=aK a 0 c)\/∃g o c,v=aK (aA ⟨g,o,aB⟩) us.length c/\g<w.heap.size/\∀j u,(bL us)[j]? =aA u->w.cell? ⟨g,o+j,aB⟩=aA u
def MQ (g o c)(us)(w)(hl:us.length<=1000)(l:∀j u,(bL us)[j]? =aA u->w.cell? ⟨g,o+j,aB⟩=aA u):
  Calls zq 60 #[aK (aA ⟨g,o,aB⟩) us.length c] w λe b=>∃v,e=aM v/\bO b w.heap.size v us/\v≠aK aB 0 0/\zb w b:=by let⟨i,hi,d,h,a⟩:=rM;exact AnyE.slices_Clone Qz.Yd i _ 3 40 hi d h a rfl bm (λw=>(Qz.sizeOf w 53).trans j1) g o (zAH us) c (bL us) w (cQ us) j7 bm l (λu k=>by let⟨x,_,f⟩:=List.mem_flatMap.1 k;exact pW x u f)
def emit (S:List bE)(i:Nat):Option bE:=match S[i]?,S[i+1]? with|some u,aB=>aA u|some u,aA v=>if v.idx=u.idx then aB else aA u|none,_=>aB
def xD:∀S:List bE,gL S=(List.range (zAH S)).filterMap (emit S)
 |[]=>rfl|[u]=>rfl|u::v::r=>by have i:=xD (v::r);have e:(List.range (zAH (u::v::r))).filterMap (emit (u::v::r))=([0].filterMap (emit (u::v::r)))++(List.range (zAH (v::r))).filterMap (emit (v::r)):=by{rw[Bf,List.range_succ_eq_map,show(0::(List.range (zAH (v::r))).map Nat.succ)=[0]++(List.range (zAH (v::r))).map Nat.succ from rfl,List.filterMap_append,List.filterMap_map];rfl};rw[e,gL,i];have a:emit (u::v::r) 0=if v.idx=u.idx then aB else aA u:=rfl;exact ji
def pC (S:List bE)(t:Nat):List bE:=(List.range t).filterMap (emit S)
def zBm (S)(t):pC S (t+1)=pC S t++(emit S t).toList:=by unfold pC;rw[List.range_succ,List.filterMap_append,List.filterMap_cons,List.filterMap_nil];exact ji
def PS (S)(t):zAH (pC S t)<=t:=by have:=List.length_filterMap_le (emit S) (List.range t);rw[List.length_range]at this;exact this
def Vv (v fv)(w):Calls zq 101 #[v,aC aD 0,aC aD 0,fv] w λe a=>e=aM (.tuple #[])/\a=w:=by go_enter (Qz.fn func101),ntmps101;go_wp2_with fail;go_loopg [8] 0 (λq i wr=>i=aC aD 1/\wr=w);(case atStart=>grind);case round=>obtain⟨rfl,rfl⟩:=hrel;go_wp2_with fail;go_end0;exact W5
def WG (v fv)(w):Calls zq 88 #[v,aC aD 0,fv] w λe c=>e=aM (.tuple #[])/\c=w:=by go_enter (Qz.fn func88),ntmps88;go_wp2_with fail;go_loopg [7,8] 0 (λq a b wr=>a=aC aD 0/\b=aC aD 20/\wr=w);(case atStart=>exact⟨rfl,rfl,rfl⟩);case round=>obtain⟨rfl,rfl,rfl⟩:=hrel;go_wp2_with fail;refine(Vv v fv wr).mono ?_;rintro e w1 ⟨rfl,rfl⟩;go_wp2_with fail;go_loopg [6] 0 (λq d w3=>d=aC aD 20/\w3=w1);(case atStart=>exact⟨rfl,rfl⟩);case round=>obtain⟨rfl,rfl⟩:=hrel;go_wp2_with fail;go_end0;exact W5
def zBz (a)(c)(fv)(w):Calls zq 61 #[aK a 0 c,fv] w λe b=>e=aM (.tuple #[])/\b=w:=by go_enter (Qz.fn func61),ntmps61;go_wp2_with fail;refine(WG _ fv w).mono ?_;rintro e w1 ⟨rfl,rfl⟩;go_wp2_with fail;go_end0;grind
def SO (a)(c)(w)(n:∀x,a=aA x->∃g o,x=⟨g,o,aB⟩):
  Calls zq 39 #[aK a 0 c] w λe b=>∃f,e=aM f/\bO b w.heap.size f []/\zb w b:=by have m:Calls zq 60 #[aK a 0 c] w λe b=>∃d v,e=aM (aK d 0 v)/\zb w b:=by{cases a with|none=>exact(AnyE.slices_Clone_nil Qz.Yd 0 c w).mono λe b ⟨h1,l⟩=>⟨aB,0,h1,by rw[l];exact Av _ _⟩|some x=>obtain⟨g,o,rfl⟩:=n x rfl;exact(MQ g o c [] w j0 (λj u h=>A4)).mono λe b ⟨f,h1,l,_,p⟩=>by obtain⟨d,v,rfl,_⟩:=l.len;exact⟨d,v,h1,p⟩};go_enter (Qz.fn func39),ntmps39;go_wp2_with fail;refine m.mono ?_;rintro e w1 ⟨d,v,rfl,hb⟩;go_wp2_with fail;refine(zBz d v _ w1).mono ?_;rintro e w2 ⟨rfl,k⟩;obtain rfl:w1=w2:=k.symm;go_wp2_with fail;go_loopg [4,13] 0 (λq out i wr=>out=aK aB 0 0/\i=aC aD 0/\wr=w1);(case atStart=>exact⟨rfl,rfl,rfl⟩);case round=>obtain⟨rfl,rfl,rfl⟩:=hrel;go_wp2_with fail;go_ret;exact⟨_,rfl,bO.nil _ _,(hid hb).out⟩
def SM (g0 o c:Nat)(us:List bE)(w:zW)(hn:0<us.length)(zz:us.length<=1000)(r:∀j u,(bL us)[j]? =aA u->w.cell? ⟨g0,o+j,aB⟩=aA u):
  Calls zq 39 #[aK (aA ⟨g0,o,aB⟩) us.length c] w λe m=>∃x,e=aM x/\bO m w.heap.size x (dS us)/\zb w m:=by
 have hc:=MQ g0 o c us w (by omega) r;clear r;have HC:=hid hc;have HS:Hid (∀g cap w1,bO w1 w.heap.size (aK (aA ⟨g,0,aB⟩) us.length cap) us->w.heap.size<=g->g<w1.heap.size->Calls zq 61 #[aK (aA ⟨g,0,aB⟩) us.length cap,.func (.func 62) #[] #[]] w1 λe m=>e=aM (.tuple #[])/\HoldsK bE.cells 3 m g 0 (eM us).toArray/\Below w.heap.size w1 m):=λg cap w1 L C h3=>zEd w.heap.size g cap us w1 L C h3 zz;have HF:Hid (dS us=pC (eM us) us.length):=by show gL (eM us)=_;rw[xD,kW];rfl
 have hSl:=kW us;rw[HF.out];clear hc HF;generalize eM us=S at*;have HL:Hid (∀x m,bO m w.heap.size x us->∃g cap,x=aK (aA ⟨g,0,aB⟩) us.length cap/\w.heap.size<=g/\g<m.heap.size):=λx m h=>by obtain⟨va,cc,e,C⟩:=h.len;obtain⟨g,rfl,h3,h4⟩:=C hn;exact⟨g,cc,e,h3,h4⟩
 go_enter (Qz.fn func39),ntmps39;go_wp2_with fail;refine HC.out.mono ?_;rintro e w1 ⟨x,rfl,a,_,hb⟩;obtain⟨g,cap,rfl,yz,J⟩:=HL.out x w1 a;have B1:=hid hb;have O1:=hid a;clear hb a HC HL;go_wp2_with fail;refine(HS.out g cap w1 O1.out yz J).mono ?_;rintro e w2 ⟨rfl,hh,z⟩;have G:=hid (B1.out.trans z);have K2:=hid hh;have hg3:=Ao J z.size;clear z hh HS B1 O1;generalize hN:us.length=N at*;have HN0:=hid hN;clear hN;go_wp2_with fail;go_loopg [4,13] N (λq out i wr=>∃t:Nat,t+q=N/\i=aC aD (t:Int)/\zb w wr/\zb w2 wr/\bO wr w2.heap.size out (pC S t));case atStart=>exact⟨0,by omega,rfl,G.out,Av _ _,bO.nil _ _⟩
 case round=>
  obtain⟨t,ht,rfl,b1,b2,b3⟩:=hrel
  have U:=hid b1
  have T:=hid b2
  have C3:=hid b3
  clear b1 b2 b3
  by_cases hlt:t<N
  .have hSt:t<S.length:=by omega
   have K3:Hid (∀W,zb w2 W->∀i u,S[i]? =aA u->∀j,j<3->W.cell? ⟨g,i*3+j,aB⟩=u.cells[j]?):=λW hW i u P j Z=>by rw[hW.cell (p:=⟨_,_,aB⟩) hg3];exact zDk K2.out i u P j Z
   have P:=Be hSt;have E:=hid (zBm S t);have Q:=hid P;clear P;have r0:wr.rangeAt g (t*3) S[t].cells:=λj v hv=>by have Z:=(Bx.1 hv).1;rw[K3.out wr T.out t _ Q.out j Z];exact hv
   generalize S[t]=u at*;obtain⟨b,d,f⟩:=u;have r1:wr.rangeAt g (t*3) [aL ⟨b.toArray⟩,aL ⟨d.toArray⟩,.bool f]:=r0;clear r0;go_upto_region 7 with(refine wpList_load_mid rfl 53 _ rfl g (t*3) rfl _ _ r1 ((Qz.eR 53).trans underlying53) rfl (by kernel_rfl) ?_)
   have Ka:Hid (bT (wr.alloc (aJ #[aL ⟨b.toArray⟩,aL ⟨d.toArray⟩,.bool f] 53)) wr.heap.size 53 #[aL ⟨b.toArray⟩,aL ⟨d.toArray⟩,.bool f]):=bT.new _ _ _;have Ca:Hid (zb w (wr.alloc (aJ #[aL ⟨b.toArray⟩,aL ⟨d.toArray⟩,.bool f] 53))):=U.out.alloc U.out.size _;have Cb:Hid (zb w2 (wr.alloc (aJ #[aL ⟨b.toArray⟩,aL ⟨d.toArray⟩,.bool f] 53))):=T.out.alloc T.out.size _;have Cc:Hid (bO (wr.alloc (aJ #[aL ⟨b.toArray⟩,aL ⟨d.toArray⟩,.bool f] 53)) w2.heap.size u4 (pC S t)):=C3.out.alloc _;generalize wr.alloc (aJ #[aL ⟨b.toArray⟩,aL ⟨d.toArray⟩,.bool f] 53)=l at*;clear U T C3 r1;generalize wr.heap.size=B at*;have p0:l.cell? ⟨B,0,aB⟩=aA (aL ⟨b.toArray⟩):=by{rw[Ka.out.cell];rfl};by_cases Y:t+1=N
   .have hq:(t:Int)+1=(N:Int):=by omega
    have H:Hid ((emit S t).toList=[⟨b,d,f⟩]):=by show(emit S t).toList=_;have L:S[t+1]? =aB:=List.getElem?_eq_none (by omega);unfold emit;rw[Q.out,L];rfl
    go_quiet (fail);have Dk:Hid (bT (l.drewN nq) B 53 #[aL ⟨b.toArray⟩,aL ⟨d.toArray⟩,.bool f]):=Ka.out.drewN nq;have R:Hid (zb w (l.drewN nq)):=below_drewN Ca.out nq;have F:Hid (zb w2 (l.drewN nq)):=below_drewN Cb.out nq;have D:Hid (bO (l.drewN nq) w2.heap.size u4 (pC S t)):=Cc.out.kept λ_ _=>rfl;generalize l.drewN nq=V at*;have y:(pC S t).length<=1000000:=by{have:=PS S t;omega};have k:w2.heap.size<=V.heap.size:=F.out.size;go_wp2_with (first|(refine Dx rfl 53 _ rfl B rfl 53 _ (0,0) _ Dk.out ((Qz.eR 53).trans underlying53) rfl (by kernel_rfl) ?_)|(at_builtin;refine gQ rfl _ _ rfl w2.heap.size _ _ rfl D.out ⟨b,d,f⟩ 1 rfl y k ?_;intro g' M m a n));go_roundg (N-(t+1));case measure=>omega
    case rel=>
     go_light
     refine⟨t+1,by omega,by go_num,cP R.out D.out n G.out.size (Az G.out.size k),cP F.out D.out n (je _) k,?_⟩
     rw[E.out,H.out]
     have hl:(pC S t++[(⟨b,d,f⟩:bE)]).length=(pC S t).length+1:=by simp
     exact a
   .have hq:¬(t:Int)+1=(N:Int):=by{omega};have K:t+1<S.length:=by{omega};have aHR:(t:Int)+1<(N:Int):=by{omega};have Vz:IntKind.i64.wrap ((t:Int)+1)=(t:Int)+1:=by{rw[Dt];omega};have ht1:(0:Int)<=(t:Int)+1:=by{omega};have ht2:((t:Int)+1).toNat=t+1:=by omega
    have p1:l.cell? ⟨g,(t+1)*3,aB⟩=aA (aL ⟨S[t+1].idx.toArray⟩):=by have:=K3.out l Cb.out (t+1) _ (Be K) 0 (by omega);rw[Eo]at this;exact this
    have O:Hid (S[t+1]? =aA S[t+1]):=Be K;generalize S[t+1]=v at*;obtain⟨X,vV,vG⟩:=v;dsimp only at p1;go_quiet (fail);have Dk:Hid (bT (l.drewN nq) B 53 #[aL ⟨b.toArray⟩,aL ⟨d.toArray⟩,.bool f]):=Ka.out.drewN nq;have R:Hid (zb w (l.drewN nq)):=below_drewN Ca.out nq;have F:Hid (zb w2 (l.drewN nq)):=below_drewN Cb.out nq;have D:Hid (bO (l.drewN nq) w2.heap.size u4 (pC S t)):=Cc.out.kept λ_ _=>rfl;generalize l.drewN nq=V at*;have I:((t:Int)+1==(N:Int))=aG:=by{rw[GM];exact hq};by_cases s:X=b
    .have A:(((t:Int)+1==(N:Int))|| !(X==b))=aG:=by rw[I,s];simp
     have H:Hid ((emit S t).toList=[]):=by show(emit S t).toList=_;unfold emit;rw[Q.out,O.out];dsimp only;rw[AE s];rfl
     rw[A];go_wp2_with fail;go_roundg (N-(t+1));case measure=>omega
     case rel=>
      go_light
      refine⟨t+1,by omega,by go_num,R.out,F.out,?_⟩
      rw[E.out,H.out,Bj]
      exact D.out
    .have A:(((t:Int)+1==(N:Int))|| !(X==b))=aF:=by
      rw[I,aNw,aNx,GM];exact s
     have H:Hid ((emit S t).toList=[⟨b,d,f⟩]):=by show(emit S t).toList=_;unfold emit;rw[Q.out,O.out];dsimp only;rw[AF s];rfl
     rw[A];have y:(pC S t).length<=1000000:=by{have:=PS S t;omega};have k:w2.heap.size<=V.heap.size:=F.out.size;go_wp2_with (first|(refine Dx rfl 53 _ rfl B rfl 53 _ (0,0) _ Dk.out ((Qz.eR 53).trans underlying53) rfl (by kernel_rfl) ?_)|(at_builtin;refine gQ rfl _ _ rfl w2.heap.size _ _ rfl D.out ⟨b,d,f⟩ 1 rfl y k ?_;intro g' M m a n));go_roundg (N-(t+1));case measure=>omega
     case rel=>
      go_light
      refine⟨t+1,by omega,by go_num,cP R.out D.out n G.out.size (Az G.out.size k),cP F.out D.out n (je _) k,?_⟩
      rw[E.out,H.out]
      have hl:(pC S t++[(⟨b,d,f⟩:bE)]).length=(pC S t).length+1:=by simp
      exact a
  .obtain rfl:t=N:=by{omega};go_wp2_with fail;go_ret;refine⟨_,rfl,?_,U.out⟩;rw[HN0.out];obtain⟨L,C⟩:=C3.out;refine⟨L,?_⟩;obtain C|⟨gg,cp,cur,e1,e2,e3⟩:=C;{exact aH C};{exact aI ⟨gg,cp,cur,e1,Az G.out.size e2,e3⟩}
def nI (u:bE):Bool:=decide (zAH u.idx=32)&&(decide (zAH u.val<=100)&&(!u.gone||decide (u.val=[])))
def ZN (v:zY)(us:List bE)(w:zW)(hl:us.length<=4611686018427387904)(F:ru w v us)(hs:∀u∈us,u.idx.length<=4611686018427387904/\u.val.length<=4611686018427387904):
  Calls zq 38 #[v] w λe R=>e=aM (.bool (us.all nI))/\zb w R:=by
 have X:=hid F;obtain⟨D,M,rfl,E⟩:∃D M,v=aK D us.length M/\(0<us.length->∃g o,D=aA ⟨g,o,aB⟩/\g<w.heap.size/\∀j u,(bL us)[j]? =aA u->w.cell? ⟨g,o+j,aB⟩=aA u):=by obtain⟨rfl,a,c,rfl⟩|⟨g,o,c,rfl,m,l⟩:=F;{exact⟨a,c,rfl,λh=>by simp at h⟩};{exact⟨_,c,rfl,λ_=>⟨g,o,rfl,m,l⟩⟩}
 clear F X;have Z:Hid (∀t,t<=us.length->(∀i u,i<t->us[i]? =aA u->nI u=aF)->t=us.length->us.all nI=aF):=λt _ h e=>by rw[Ej];intro u k;obtain⟨i,hi⟩:=NY k;exact h i u (by rw[e];exact(Bx.1 hi).1) hi
 have J:Hid (∀t u,us[t]? =aA u->nI u=aG->us.all nI=aG):=λt u r m=>by rw[List.all_eq_false];exact⟨u,Ek r,by rw[m];decide⟩
 generalize us.all nI=A at*;go_enter (Qz.fn func38),ntmps38;go_wp2_with fail;go_loopg [7] us.length (λq i wr=>∃t:Nat,t+q=us.length/\i=aC aD (t:Int)/\zb w wr/\∀i u,i<t->us[i]? =aA u->nI u=aF);case atStart=>exact⟨0,by omega,rfl,Av _ _,λi u h=>by omega⟩
 case round=>
  obtain⟨t,ht,rfl,Q,P⟩:=hrel
  have y:=hid Q
  have L:=hid P
  clear Q P
  by_cases hlt:t<us.length
  .obtain⟨g,o,rfl,U,O⟩:=E (by omega);have n:Hid (us[t]? =aA us[t]):=Be hlt;have G:=hs us[t] (Fp _);have r0:wr.rangeAt g (o+t*3) us[t].cells:=λj x N=>by
    have T:j<3:=(Bx.1 N).1;rw[y.out.cell (p:=⟨_,_,aB⟩) U,Gp];exact O _ _ (by rw[gF us t _ n.out j T];exact N)
   generalize us[t]=u at*;obtain⟨d,b,f⟩:=u;have r1:wr.rangeAt g (o+t*3) [aL ⟨d.toArray⟩,aL ⟨b.toArray⟩,.bool f]:=r0;clear r0 O;have S:(t:Int)<(us.length:Int):=by{omega};go_upto_region 4 with(refine wpList_load_mid rfl 53 _ rfl g (o+t*3) rfl _ _ r1 ((Qz.eR 53).trans underlying53) rfl (by kernel_rfl) ?_)
   have K:Hid (bT (wr.alloc (aJ #[aL ⟨d.toArray⟩,aL ⟨b.toArray⟩,.bool f] 53)) wr.heap.size 53 #[aL ⟨d.toArray⟩,aL ⟨b.toArray⟩,.bool f]):=bT.new _ _ _;have C:Hid (zb w (wr.alloc (aJ #[aL ⟨d.toArray⟩,aL ⟨b.toArray⟩,.bool f] 53))):=y.out.alloc y.out.size _;generalize wr.alloc (aJ #[aL ⟨d.toArray⟩,aL ⟨b.toArray⟩,.bool f] 53)=z at*;clear y r1;generalize wr.heap.size=B at*;have p0:z.cell? ⟨B,0,aB⟩=aA (aL ⟨d.toArray⟩):=by{rw[K.out.cell];rfl};have p1:z.cell? ⟨B,1,aB⟩=aA (aL ⟨b.toArray⟩):=by{rw[K.out.cell];rfl};have p2:z.cell? ⟨B,2,aB⟩=aA (.bool f):=by{rw[K.out.cell];rfl};dsimp only at G;by_cases r:d.length=32
   .by_cases m:b.length<=100
    .have I:¬(100:Int)<(b.length:Int):=by{omega};cases f with
     |false=>
      have H:nI ⟨d,b,aG⟩=aF:=by{simp[nI,r,m]};go_wp2_with fail;go_roundg (us.length-(t+1));case measure=>omega
      case rel=>
       go_light
       refine⟨t+1,by omega,by go_num,C.out,λi u hi k=> ?_⟩
       by_cases e:i=t
       .subst e;rw[n.out]at k;rw[<-Ay k];exact H
       .exact L.out i u (by omega) k
     |true=>
      by_cases l:b=[]
      .have H:nI ⟨d,b,aF⟩=aF:=by{simp[nI,r,l]};subst l;go_wp2_with fail;go_roundg (us.length-(t+1));case measure=>omega
       case rel=>
        go_light
        refine⟨t+1,by omega,by go_num,C.out,λi u hi k=> ?_⟩
        by_cases e:i=t
        .subst e;rw[n.out]at k;rw[<-Ay k];exact H
        .exact L.out i u (by omega) k
      .have H:nI ⟨d,b,aF⟩=aG:=by{simp[nI,l]};have V:b.isEmpty=aG:=by{simpa using l};have s:Hid (A=aG):=J.out t _ n.out H;go_wp2_with fail;go_ret;exact⟨by rw[s.out];rfl,C.out⟩
    .have I:(100:Int)<(b.length:Int):=by{omega};have H:nI ⟨d,b,f⟩=aG:=by{simp[nI,m]};have s:Hid (A=aG):=J.out t _ n.out H;go_wp2_with fail;go_ret;exact⟨by rw[s.out];rfl,C.out⟩
   .have W:¬(d.length:Int)=32:=by{omega};have H:nI ⟨d,b,f⟩=aG:=by{simp[nI,r]};have s:Hid (A=aG):=J.out t _ n.out H;go_wp2_with fail;go_ret;exact⟨by rw[s.out];rfl,C.out⟩
  .have Y:Hid (A=aF):=Z.out t (by omega) L.out (by omega);go_wp2_with fail;go_ret;exact⟨by rw[Y.out];rfl,y.out⟩
open Go Go.RowKit Sha Go.Ga Go.Ren
def SQ:dS []=[]:=List.eq_nil_iff_forall_not_mem.2 λu h=>by simpa using sN h
def BK:∀l:List bE,zAH (gL l)<=zAH l
 |[]=>je _|[_]=>je _|a::b::r=>by have:=BK (b::r);rw[gL];exact ji
def SR (us):zAH (dS us)<=zAH us:=by have:=BK (eM us);rw[kW]at this;exact this
def tE (w:zW)(v:zY)(us:List bE):Prop:=∃g o c,v=aK (aA ⟨g,o,aB⟩) us.length c/\g<w.heap.size/\∀j u,(bL us)[j]? =aA u->w.cell? ⟨g,o+j,aB⟩=aA u
theorem tE.below {w w':zW}{B:Nat}{v:zY}{us:List bE}(h:tE w v us)(b:Below B w w')(e:w.heap.size<=B):tE w' v us:=by obtain⟨g,o,c,rfl,a,d⟩:=h;exact⟨g,o,c,rfl,Ao a b.size,by grind[Nat.lt_of_lt_of_le,Below.cell]⟩
def SP {w:zW}{v:zY}{us:List bE}(h:tE w v us)(a:zAH us<=1000): Calls zq 39 #[v] w λe b=>∃d,e=aM d/\bO b w d (dS us)/\zb w b:=by obtain⟨g,o,c,rfl,j,f⟩:=h;by_cases i:zAH us=0;{have e:us=[]:=ji;subst e;rw[SQ];exact SO (aA (g,o)) c w ji};.exact SM g o c us w bm a f
def ni:∃i,zq.info? 9=aA i/\i.zero=aA (aL ⟨#[]⟩)/\i.size=1/\i.bytes=16:=BP c9
def zDn {w hb b n H}(l:fG OL w hb 9 1 (aK (aA ⟨hb,0,aB⟩) n b) n (gG H))(G:n<=1000)(x){vb}(p:w.heap[vb]? =aA (aJ #[aL ⟨x.toArray⟩] 9 (0,0)))(hlt:hb<=w.heap.size):
  ∃a h W,(∀ty,(Builtin.append_ #[82,82] ty #[aK (aA ⟨hb,0,aB⟩) n b,aK (aA ⟨vb,0,aB⟩) 1 1]).run zq w= .ok (aK (aA ⟨a,0,aB⟩) (n+1) h) W)/\w.grownBy W (aA hb)/\(a=hb\/a=w.heap.size)/\fG OL W a 9 1 (aK (aA ⟨a,0,aB⟩) (n+1) h) (n+1) (gG (H++[x])):=by let⟨it,ti,o,t,f⟩:=ni;have F:=λty=>uI w OL hb 82 ty 9 it _ 1 16 j1 ti o t f rfl bm (λx k=>by simp[Value.cells]at k;exact⟨_,k⟩) _ n _ l.1 l.2 vb 1 1 [aL ⟨zAL x⟩] rfl (λj u I=>by rw[addr_add,Ce,Eh w vb j _ 9 (0,0) p];exact ji) (λu g=>by rw[Cy.1 g];rfl) (λu g=>by rw[Cy.1 g];exact W4) (Nat.succ_pos _) j7 bm hlt;let⟨m,c,W,y,v,s,r,q⟩:=F 0;have i:fG OL W hb 9 1 (aK m (n+1) c) (n+1) (gG H++[aL ⟨zAL x⟩]):=⟨v,q⟩;let⟨d,E,J,D,C,B,A,z⟩:=i.row;refine⟨m,c,W,λty=>y,s,?_,fG.of d E (je _) D C B (by rw[A];simp[gG]) z⟩;obtain e|e:=r;{exact aH (Ay e).symm};exact bm
end Go.Proofs.Zq
namespace Go.Proofs.Zq.AnyX
open Go
section
variable {P:zZ}{ops:zQ}{Q:zX}{md:Region.Mode}{S:zW->Prop}{late:Nat->Bool}
def early (ops:zQ)(late:Nat->Bool)(listed:Array Bool):Bool:=(List.range ops.size).all λs=> !(late s)|| !(listed.getD s aG)
theorem EE {listed i}(h:early ops late listed=aF)(hi:late i=aG):early ops late (zAI listed i aF)=aF:=by refine Ej.2 λs a=> ?_;have:=Ej.1 h s a;by_cases e:i=s;all_goals simp_all
def jU (P:zZ)(md:Region.Mode)(ops:zQ)(Q:zX)(S:zW->Prop)(late:Nat->Bool):Nat->Array Bool->Act->zW->Prop
 |0,listed,a,w=>Region.ready md ops listed=[]/\Q .normal a w|fuel+1,listed,a,w=>(Region.ready md ops listed=[]->Q .normal a w)/\ ∀i∈Region.ready md ops listed,wpOp P ops Q i (λc b=>(early ops late (zAI listed i aF)=aF->S b)/\jU P md ops Q S late fuel (zAI listed i aF) c b) a w
def IY:∀(fuel:Nat)(listed:Array Bool)(a:Act)(w:zW),jU P md ops Q S late fuel listed a w->wpAny P md ops Q fuel listed a w
 |0,_,_,_,h=>h|fuel+1,_,_,_,h=>⟨h.1,λi hi=>wpOp_mono (λd b c=>IY fuel _ d b c.2) (h.2 i hi)⟩
structure Clo (md:Region.Mode)(ops:zQ)(listed:Array Bool):Prop where
 size:listed.size=ops.size
 closed:∀j oj,ops[j]? =aA oj->listed.getD j aG=aF->∀e∈oj.after,Region.binds md e=aF->listed.getD e.on aG=aF
def rh (md:Region.Mode)(ops:zQ)(listed:Array Bool):Bool:=decide (listed.size=ops.size)&&((List.range ops.size).all λj=>(!(listed.getD j aG))||match ops[j]? with|some o=>o.after.all λe=> !(Region.binds md e)||listed.getD e.on aG|none=>aF)
def Clo.set {i listed}(inv:Clo md ops listed)(hi:i∈Region.ready md ops listed):Clo md ops (zAI listed i aF):=by let⟨_,c,b,a⟩:=mem_ready.1 hi;refine⟨by simp[inv.size],λj o d hl e f g=> ?_⟩;by_cases h:i=j;{grind[getD_set_true]};.rw[getD_set_ne aG h]at hl;grind[getD_set_true,closed]
def waits (md:Region.Mode)(ops:zQ):Nat->Nat->Nat->Bool
 |0,_,_=>aG|f+1,s,i=>match ops[s]? with|some o=>o.after.any λe=>Region.binds md e&&(e.on==i||waits md ops f e.on i)|none=>aG
theorem IZ {listed:Array Bool}(inv:Clo md ops listed){i:Nat}:∀(f s:Nat)(o:Oper),ops[s]? =aA o->(∀e∈o.after,Region.binds md e=aF->listed.getD e.on aG=aF)->waits md ops f s i=aF->listed.getD i aG=aF
 |0,_,_,_,_,h=>by cases h|f+1,s,o,j,a,h=>by unfold waits at h;rw[j]at h;let⟨e,k,c⟩:=Array.any_eq_true'.1 h;simp only[De,JJ,Hc]at c;have l:=a e k c.1;obtain b|b:=c.2;{grind};.cases g:ops[e.on]? with|none=>{cases f with|zero=>cases b|succ f=>unfold waits at b;exact ji}|some d=>exact IZ inv f e.on d g (inv.closed e.on d g l) b
def Vq (md:Region.Mode)(ops:zQ)(late:Nat->Bool)(i:Nat):Bool:=(List.range ops.size).all λs=> !(late s)||waits md ops ops.size s i
def RV {i u v}(hi:ops[i]? =aA u)(I:∀(j:Nat)(o) cs b,ops[j]? =aA o->o.op≠.select cs b) (hlt:Vq md ops late i=aF) (O:∀c a w,Q (.panic c) (a.put u.dst v) w->Q (.panic c) a w): ∀(fuel)(listed)(a)(w),Clo md ops listed->(∀j p,ops[j]? =aA p->j≠i->listed.getD j aF=aG->(∀e∈p.after,Region.binds md e=aF->e.on≠i)->u.apart ops p=aF)->i∈Region.ready md ops listed->YieldsIf P ops S u v a->S w->jU P md ops Q S late fuel (zAI listed i aF) (a.put u.dst v) w->jU P md ops Q S late (fuel+1) listed a w:=by intro fuel;induction fuel with|zero=>intro listed a w _ _ B A z H;refine⟨ji,λj m=> ?_⟩;by_cases h:j=i;{subst h;exact A.wpOp hi z ⟨λ_=>z,H⟩};{have:=ready_mono m h;rw[H.1]at this;cases this}|succ fuel L=>intro listed a w inv d B A z H;have q:=(mem_ready.1 B).1;obtain⟨F,f⟩:early ops late listed=aF/\∀j,j∈Region.ready md ops listed->late j=aG:=by{have C:∀s os,ops[s]? =aA os->late s=aF->(∀e∈os.after,Region.binds md e=aF->listed.getD e.on aG=aF)->False:=λs os J hl n=>by{have:=Ej.1 hlt s ji;grind[IZ]};refine⟨Ej.2 λs J=> ?_,λj m=> ?_⟩;{cases hl:late s with|false=>rfl|true=>cases M:listed.getD s aG with|false=>rfl|true=>have D:=JH.1 J;exact(C s _ ji hl (inv.closed s _ (Ef D) M)).elim};.obtain⟨_,p,r,n⟩:=mem_ready.1 m;exact ji};refine⟨ji,λj m=> ?_⟩;by_cases h:j=i;{subst h;exact A.wpOp hi z ⟨λ_=>z,H⟩};.have R:=H.2 j (ready_mono m h);let⟨l,p,r,n⟩:=mem_ready.1 m;have x:∀e∈p.after,Region.binds md e=aF->e.on≠i:=by{grind[getD_both]};have g:∀k ok,ops[k]? =aA ok->k≠i->(zAI listed j aF).getD k aF=aG->(∀e∈ok.after,Region.binds md e=aF->e.on≠i)->u.apart ops ok=aF:=λk ok N E q f=>by{refine d k ok N E ?_ f;by_cases y:j=k;{subst y;exact l};.rw[getD_set_ne aF y]at q;exact q};have t:=EE (EE F (f i B)) (f j m);refine wpOp_mono (λT K G=>⟨ji,L (zAI listed j aF) T K (inv.set m) g (ready_mono B (Dp h)) G.1 (G.2.1 t) ?_⟩) (wpOp_putIf r (d j p r h l x) ji ji O A R);rw[Nw _ _ h];exact G.2.2
def RU {i n v}(hi:ops[i]? =aA n)(B:∀(j:Nat)(o) cs b,ops[j]? =aA o->o.op≠.select cs b) (hlt:late i=aG) (I:∀c a w,Q (.panic c) (a.put n.dst v) w->Q (.panic c) a w): ∀(fuel)(listed)(a)(w),(∀j m,ops[j]? =aA m->j≠i->listed.getD j aF=aG->(∀e∈m.after,Region.binds md e=aF->e.on≠i)->n.apart ops m=aF)->i∈Region.ready md ops listed->Yields P ops n v a->(early ops late (zAI listed i aF)=aF->S w)->jU P md ops Q S late fuel (zAI listed i aF) (a.put n.dst v) w->jU P md ops Q S late (fuel+1) listed a w:=by intro fuel;induction fuel with|zero=>intro listed a w _ x s A H;refine⟨ji,λj t=> ?_⟩;by_cases h:j=i;{subst h;exact s.wpOp hi ⟨A,H⟩};{have:=ready_mono t h;rw[H.1]at this;cases this}|succ fuel E=>intro listed a w d x s A H;have l:=(mem_ready.1 x).1;refine⟨ji,λj t=> ?_⟩;by_cases h:j=i;{subst h;exact s.wpOp hi ⟨A,H⟩};.have J:=H.2 j (ready_mono t h);let⟨g,m,p,C⟩:=mem_ready.1 t;have q:∀e∈m.after,Region.binds md e=aF->e.on≠i:=by{grind[getD_both]};have f:∀k ok,ops[k]? =aA ok->k≠i->(zAI listed j aF).getD k aF=aG->(∀e∈ok.after,Region.binds md e=aF->e.on≠i)->n.apart ops ok=aF:=λk ok F z l y=>by{refine d k ok F z ?_ y;by_cases r:j=k;{subst r;exact g};.rw[getD_set_ne aF r]at l;exact l};refine wpOp_mono (λK D u=>⟨λG=>u.2.1 (by grind[aNv,EE]),E (zAI listed j aF) K D f (ready_mono x (Dp h)) u.1 (λG=>u.2.1 (by grind[aNv])) ?_⟩) (wpOp_put p (d j m p h g q) ji ji I s J);rw[Nw _ _ h];exact u.2.2
def EY {i o v fuel listed a w}(hi:ops[i]? =aA o) (d:(Region.noSelect ops&&Vq md ops late i&&rh md ops listed&&Region.free md ops listed i&&(Region.ready md ops listed).contains i)=aF) (n:∀c a w,Q (.panic c) (a.put o.dst v) w->Q (.panic c) a w) (k:YieldsIf P ops S o v a) (m:S w) (h:jU P md ops Q S late fuel (zAI listed i aF) (a.put o.dst v) w):jU P md ops Q S late (fuel+1) listed a w:=by simp only[De]at d;let⟨⟨⟨⟨b,hl⟩,f⟩,d⟩,s⟩:=d;exact RV hi (Region.noSelect_spec b) hl n fuel listed a w (by unfold rh at f;simp only[De,Ev]at f;let⟨q,p⟩:=f;refine⟨q,λj r g hl e l t=> ?_⟩;have:=Ej.1 p j (JH.2 ((Ax.1 g).1));rw[g,hl]at this;simp only[aNw]at this;have:=Nt.1 this e l;exact ji) (Region.free_spec hi d) ji k m h
def pV {i o v fuel listed a w}(hi:ops[i]? =aA o) (d:(Region.noSelect ops&& !(late i)&&Region.free md ops listed i&&(Region.ready md ops listed).contains i)=aF) (g:∀c a w,Q (.panic c) (a.put o.dst v) w->Q (.panic c) a w) (e:Yields P ops o v a) (f:S w) (h:jU P md ops Q S late fuel (zAI listed i aF) (a.put o.dst v) w):jU P md ops Q S late (fuel+1) listed a w:=by simp only[De,aNx]at d;let⟨⟨⟨b,hl⟩,d⟩,j⟩:=d;exact RU hi (Region.noSelect_spec b) hl g fuel listed a w (Region.free_spec hi d) ji e (λ_=>f) h
def bP {i:Nat}{o:Oper}{fuel:Nat}{listed:Array Bool}{a:Act}{w:zW}(c:Region.ready md ops listed=[i])(d:ops[i]? =aA o) (h:∀K:Act->zW->Prop,Shut (∀a w,(early ops late (zAI listed i aF)=aF->S w)->jU P md ops Q S late fuel (zAI listed i aF) a w->K a w)->if Region.wanted o (yielded ops a.tmps)=aF then Oper.wp P o a w K Q else K (a.put o.dst undef) w): jU P md ops Q S late (fuel+1) listed a w:= ⟨ji,λj b=>by rw[c]at b;obtain rfl:=Cy.1 b;exact wpOp_step d (λK g=>h K (λa w f e=>ji))⟩
def fQ {b}{p:Prop}(h:b=aF)(a:b=aG):p:=ji
def iU {listed:Array Bool}{a:Act}{w:zW}(b:Region.ready md ops listed=[])(h:Q .normal a w):∀fuel,jU P md ops Q S late fuel listed a w
 |0=>⟨b,h⟩|_+1=>⟨λ_=>h,by rw[b];simp⟩
def tk (i)(v){o fuel listed a w}(g:S w)(h:jU P md ops Q S late fuel (listed.setIfInBounds i aF) (a.put o.dst v) w)(hi:ops[i]? =aA o:=by rfl)
  (f:(Region.noSelect ops&&Vq md ops late i&&rh md ops listed&&Region.free md ops listed i&&(Region.ready md ops listed).contains i)=aF:=by kernel_rfl)
  (j:∀c a w,Q (.panic c) (a.put o.dst v) w->Q (.panic c) a w:=by exactλ_ _ _ h=>h) (e:YieldsIf P ops S o v a:=by exact aH ⟨by rfl,λW b=>by first|(obtain⟨d,q,l,k⟩:=b;go_simp;done)|(obtain⟨d,q⟩:=b;go_simp;done)|go_simp⟩):jU P md ops Q S late (fuel+1) listed a w:=EY hi f j e g h
def nB {id:Nat}{a:Act}{w:zW}(S:zW->Prop)(late:Nat->Bool)(b:P.follows .mixedOrders=aF) (h:jU P .any ops Q S late ops.size (Array.replicate ops.size aG) a w.drew):(Code.region id ops aF).wp P Q a w:=wp_region_any b (IY _ _ _ _ h)
end
end Go.Proofs.Zq.AnyX
namespace Go.Proofs.Zq
open Go Go.RowKit Sha Go.Ga Go.Ren
section
variable {w:zW}{k:Nat}{p:Option Nat}{us cs:List bE}
def Xu (us cs:List bE)(t)(h:t<zAH cs):lY us (cs.take (t+1))=lY us (cs.take t)++(if rX us cs[t]then [cs[t]]else []):=by unfold lY;rw[Lz h,Ht];exact ji
def Od (us cs:List bE)(t)(h:t<zAH cs):gD us (cs.take (t+1))=gD us (cs.take t)+jT us cs[t]:=by unfold gD;rw[Lz h,Gr,List.sum_append];exact j0
def Vd (us)(u): -1<=jT us u/\jT us u<=1:=by unfold jT;exact ji
def YQ (us:List bE):∀cs:List bE,-(zAH cs:Int)<=gD us cs/\gD us cs<=zAH cs
 |[]=>by simp[gD]|u::cs=>by have a:=YQ us cs;have h:=Vd us u;have e:gD us (u::cs)=jT us u+gD us cs:=rfl;exact ji
def Pk (l:mX us){I e}(h:Ir w us I e):(e=aM (ptr aB)/\fV (aV us) I=aB)\/∃b i v g a,e=aM (ptr (aA b))/\aW w b aB aB i v g a/\fV (aV us) I=aA v:=by obtain⟨u,b,g,a,f,hi,c,j⟩|⟨c,n⟩:=h;{exact aI ⟨b,_,_,g,a,c,j,BV (Gv.2 l) (by rw[<-hi];exact Dd.2 ⟨u,f,rfl⟩)⟩};.refine aH ⟨c,iM λx d=> ?_⟩;obtain⟨y,m,rfl⟩:=Dd.1 d;exact ji
def aMi {va cap}(h:dQ k w p us 0)(X:1<=k)(V:k<=32)(hU:mX us)(hE:bN w va cs)(hi:∀u∈cs,u.idx.length=32)(hl:cs.length<=1000):
  Calls zq 221 #[ptr p,aK va cs.length cap] w λe B=>∃v,e=aM (.tuple #[v,aC aD (gD us cs)])/\bO B w.heap.size v (lY us cs)/\zb w B:=by
 have HE:=hid hE;have HF:Hid (∀u∈cs,∀W,zb w W->Calls zq 228 #[ptr p,aL ⟨u.idx.toArray⟩] W λe B=>B=W/\((e=aM (ptr aB)/\fV (aV us) u.idx=aB)\/∃b v,e=aM (ptr (aA b))/\W.cell? ⟨b,3,aB⟩=aA (aL ⟨v.toArray⟩)/\fV (aV us) u.idx=aA v)):=λu N W hW=>by refine(Po (h.keep X V λb z o i v g Z _ hc=>⟨Z,⟨by rw[hW.block b hc.lt];exact hc.at'⟩⟩) (hi u N)).mono λe B h'=>⟨h'.1,?_⟩;obtain⟨Q,C⟩|⟨b,i,v,g,Z,Q,C,h3⟩:=Pk hU h'.2;{exact aH ⟨Q,C⟩};{exact aI ⟨b,v,Q,C.c3,h3⟩}
 have HL:Hid (∀t,-(1000:Int)<=gD us (cs.take t)/\gD us (cs.take t)<=1000):=λt=>by have:=YQ us (cs.take t);have C:(cs.take t).length<=cs.length:=by{rw[Ds];omega};omega
 obtain⟨n,U⟩:∃n,n=cs.length:=⟨_,rfl⟩;have S:=hid U;have HT:Hid (gD us (cs.take cs.length)=gD us cs/\lY us (cs.take cs.length)=lY us cs):=by rw[Fq];exact⟨rfl,rfl⟩
 rw[<-U]at hl⊢;clear U hE hi h hU;go_enter (Qz.fn func221),ntmps221;go_wp2;go_loopg [6,7,13] n (λq x y i wr=>∃t:Nat,t+q=n/\i=aC aD (t:Int)/\y=aC aD (gD us (cs.take t))/\zb w wr/\bO wr w.heap.size x (lY us (cs.take t)));case atStart=>exact⟨0,by omega,rfl,rfl,Av _ _,bO.nil _ _⟩
 case round=>
  obtain⟨t,ht,rfl,rfl,b2,o2⟩:=hrel
  have K:=hid b2
  have R:=hid o2
  by_cases hlt:t<n
  .have r:t<cs.length:=by have:=S.out;omega
   have N:=Be r;have c:=hid (Xu us cs t r);have H:=hid (Od us cs t r);have J:=HF.out cs[t] (Fp _);have E:(lY us (cs.take t)).length<=1000000:=by have Q:=Ex (rX us) (cs.take t);have C:(cs.take t).length<=cs.length:=by{rw[Ds];omega};have h3:=S.out;show(List.filter _ _).length<=_;omega
   have HM0:=HL.out t;generalize cs[t]=u at*;obtain⟨d,f,I⟩:=u;dsimp only at*;generalize gD us (cs.take t)=M at*;generalize lY us (cs.take t)=L at*;have Y:=hid J;obtain⟨g,o,rfl,hg,c0,c1,c2⟩:=(HE.out.below K.out (je _)).idx t _ N;have jz:¬((t:Int)<0):=by{omega};have qh:(t:Int)<(n:Int):=by{omega};clear J HF N HL;have Vz:wrap64 (M+1)=M+1:=by{unfold wrap64;omega};have tn:wrap64 (M-1)=M-1:=by{unfold wrap64;omega};go_upto_region 6 with(fail)
   have P:=Ei wr (aJ #[aL ⟨d.toArray⟩,aL ⟨f.toArray⟩,.bool I] 53);have G:Hid (zb w (wr.alloc (aJ #[aL ⟨d.toArray⟩,aL ⟨f.toArray⟩,.bool I] 53))):=K.out.alloc K.out.size _;have O:Hid (bO (wr.alloc (aJ #[aL ⟨d.toArray⟩,aL ⟨f.toArray⟩,.bool I] 53)) w.heap.size u6 L):=R.out.alloc _;have e0:=(bG P 0).trans rfl;have e1:=(bG P 1).trans rfl;have e2:=(bG P 2).trans rfl;clear P K R c0 c1 c2;generalize(wr.alloc (aJ #[aL ⟨d.toArray⟩,aL ⟨f.toArray⟩,.bool I] 53))=wa at*;have m:=G.out.size;have F:Hid (∀W n,zb w W->zb w (W.drewN n)):=λW n h=>⟨h.os,h.tape,h.output,h.size,h.block⟩;go_wp2_with fail;refine(Y.out wa G.out).mono ?_;rintro e w2 ⟨rfl,⟨rfl,a⟩|⟨b,v,rfl,k3,a⟩⟩
   .cases I with
    |true=>
     have A:Hid (gD us (cs.take (t+1))=M):=by{have:=H.out;rw[show jT us ⟨d,f,aF⟩=0 by unfold jT;dsimp only;rw[a];rfl]at this;exact this.trans (by omega)};have j:Hid (lY us (cs.take (t+1))=L):=by{have:=c.out;rw[show rX us ⟨d,f,aF⟩=aG by unfold rX;dsimp only;rw[a];rfl]at this;exact this.trans (by simp)};clear c H a;go_upto_region 11 with(fail)
     go_quiet (fail);go_wp2;go_roundg (n-(t+1));case measure=>omega
     case rel=>
      go_light
      exact⟨t+1,by omega,by go_num,by rw[A.out],F.out _ _ G.out,by rw[j.out];exact bO.kept O.out λ_ _=>rfl⟩
    |false=>
     have A:Hid (gD us (cs.take (t+1))=M+1):=by{have:=H.out;rw[show jT us ⟨d,f,aG⟩=1 by unfold jT;dsimp only;rw[a];rfl]at this;exact this};have j:Hid (lY us (cs.take (t+1))=L++[⟨d,f,aG⟩]):=by{have:=c.out;rw[show rX us ⟨d,f,aG⟩=aF by unfold rX;dsimp only;rw[a];rfl]at this;exact this};clear c H a;go_wp2_with (first|(at_builtin;refine gQ rfl _ _ rfl w.heap.size _ _ rfl O.out ⟨d,f,aG⟩ 1 rfl E m ?_;intro g' D B l s));go_roundg (n-(t+1));case measure=>omega
     case rel=>
      go_light
      exact⟨t+1,by omega,by go_num,by rw[A.out],cP G.out O.out s (je _) m,by rw[j.out];exact l⟩
   .cases I with
    |true=>
     have A:Hid (gD us (cs.take (t+1))=M-1):=by{have:=H.out;rw[show jT us ⟨d,f,aF⟩= -1 by unfold jT;dsimp only;rw[a];rfl]at this;exact this.trans (by omega)};have j:Hid (lY us (cs.take (t+1))=L++[⟨d,f,aF⟩]):=by{have:=c.out;rw[show rX us ⟨d,f,aF⟩=aF by unfold rX;dsimp only;rw[a];rfl]at this;exact this.trans (by simp)};clear c H a;go_wp2_with (first|(at_builtin;refine gQ rfl _ _ rfl w.heap.size _ _ rfl O.out ⟨d,f,aF⟩ 1 rfl E m ?_;intro g' D B l s));go_roundg (n-(t+1));case measure=>omega
     case rel=>
      go_light
      exact⟨t+1,by omega,by go_num,by rw[A.out],cP G.out O.out s (je _) m,by rw[j.out];exact l⟩
    |false=>
     by_cases T:v=f
     .subst T;have A:Hid (gD us (cs.take (t+1))=M):=by{have:=H.out;rw[show jT us ⟨d,v,aG⟩=0 by unfold jT;dsimp only;rw[a];rfl]at this;exact this.trans (by omega)};have j:Hid (lY us (cs.take (t+1))=L):=by{have:=c.out;rw[show rX us ⟨d,v,aG⟩=aG by unfold rX;dsimp only;rw[a];simp]at this;exact this.trans (by simp)};clear c H a;go_upto_region 11 with(fail)
      go_quiet (fail);go_wp2;go_roundg (n-(t+1));case measure=>omega
      case rel=>
       go_light
       exact⟨t+1,by omega,by go_num,by rw[A.out],F.out _ _ G.out,by rw[j.out];exact bO.kept O.out λ_ _=>rfl⟩
     .have TR:=GM.2 T;have A:Hid (gD us (cs.take (t+1))=M):=by{have:=H.out;rw[show jT us ⟨d,f,aG⟩=0 by unfold jT;dsimp only;rw[a];rfl]at this;exact this.trans (by omega)};have j:Hid (lY us (cs.take (t+1))=L++[⟨d,f,aG⟩]):=by{have:=c.out;rw[show rX us ⟨d,f,aG⟩=aF by unfold rX;dsimp only;rw[a];simpa using T]at this;exact this.trans (by simp)};clear c H a;go_upto_region 11 with(fail)
      go_quiet (fail);go_wp2_with (first|(at_builtin;refine gQ rfl _ _ rfl w.heap.size _ _ rfl (bO.kept O.out λ_ _=>rfl) ⟨d,f,aG⟩ 1 rfl E m ?_;intro g' D B l s));go_roundg (n-(t+1));case measure=>omega
      case rel=>
       go_light
       exact⟨t+1,by omega,by go_num,by rw[A.out],cP (F.out _ _ G.out) (bO.kept O.out λ_ _=>rfl) s (je _) m,by rw[j.out];exact l⟩
  .have hti:¬(t:Int)<(n:Int):=by{omega};obtain rfl:t=n:=by{omega};have e1:gD us (cs.take t)=gD us cs:=by{have:=HT.out.1;rw[<-S.out]at this;exact this};have O3:Hid (bO wr w.heap.size u6 (lY us cs)):=by{have:=HT.out.2;rw[<-S.out]at this;have C:=R.out;rw[this]at C;exact C};rw[e1];clear R;go_wp2;go_ret2;exact⟨_,rfl,O3.out,K.out⟩
end
open Go.RowKit Sha
def jc (cs:zLL)(l w:List qN):Prop:=(l.filter λe=> !cs.contains e.1)=w.filter λe=> !cs.contains e.1
def jc.half {cs:zLL}{l w:List qN}(h:jc cs l w)(d b:Nat):jc (cs.filter λi=>cM i d==b) (cG l d b) (cG w d b):=by have k:∀l:List qN,((cG l d b).filter λe=> !(cs.filter λi=>cM i d==b).contains e.1)=cG (l.filter λe=> !cs.contains e.1) d b:=λl=>by{unfold cG;rw[JP,JP];grind};unfold jc at h⊢;exact ji
def Yl (cs:zLL)(d:Nat):zAH (cs.filter λi=>cM i d==0)+zAH (cs.filter λi=>cM i d==1)=zAH cs:=by induction cs with|nil=>rfl|cons a cs b=>grind[qF]
def DT:∀(f:Nat)(l w:List qN)(d:Nat)(cs:zLL),jc cs l w->fS f l w d<=f*zAH cs
 |0,_,_,_,_,_=>by simp[fS]|f+1,l,w,d,cs,h=>by rw[fS];split;{omega};.rename_i g;have p:=DT f _ _ (d+1) _ (h.half d 0);have c:=DT f _ _ (d+1) _ (h.half d 1);have hl:=Yl cs d;have i:0<zAH cs:=by{obtain e|e:=Lw (zAH cs);{rw[List.length_eq_zero_iff.1 e]at h;exact absurd (aI (by have e:∀l:List qN,(l.filter λe=> !([]:zLL).contains e.1)=l:=by{simp_all};unfold jc at h;grind)) g};.exact e};have k:∀a b n x y:Nat,a+b=n->x<=f*a->y<=f*b->0<n->1+(x+y)<=(f+1)*n:=λa b n x y c o m j=>by{subst c;grind};exact ji
def PZ:∀{A M:zLL},A.Nodup->(∀x∈A,x∈M)->zAH A<=zAH M
 |[],_,_,_=>Cw _|a::A,M,d,c=>by let⟨f,e⟩:=Lr.1 d;have b:=c a EJ;have hlen:=Nu b;have h:=List.length_pos_of_mem b;have:=PZ (M:=M.erase a) e ji;exact ji
def zGm {l w:List qN}{cs:zLL}(h:jc cs l w)(b:(l.map (·.1)).Nodup):eQ l w<=zAH cs:=by unfold eQ;rw[<-Hj];refine PZ (b.sublist (List.Sublist.map _ List.filter_sublist)) λx a=> ?_;obtain⟨e,c,rfl⟩:=Dd.1 a;let⟨i,g⟩:=Bi.1 c;refine Dv λf=> ?_;have d:e∈l.filter λe=> !cs.contains e.1:=by{grind};rw[show(l.filter λe=> !cs.contains e.1)=_ from h]at d;exact ji
def rj {l w:List qN}{cs:zLL}(hl:fC l)(a:fC w)(h:∀I,I∉cs->fV l I=fV w I):jc cs l w:=by refine vQ (hl.filter _) (a.filter _) λI=> ?_;by_cases b:I∈cs;{have k:∀l:List qN,fV (l.filter λe=> !cs.contains e.1) I=aB:=λl=>by{exact Q6};exact ji};grind[get_filter]
def ec {l w:List qN}{cs:zLL}(h:jc cs l w)(a:(l.map (·.1)).Nodup):dZ l w 0<=257*zAH cs:=by have c:=zGm h a;have b:=DT 256 l w 0 cs h;unfold dZ;exact ji
def YH {l:List qN}(h:fC l):(l.map (·.1)).Nodup:=Gv.2 (h.imp λ{a b} h e=>by rw[e,dU]at h;exact A4)
end Go.Proofs.Zq
