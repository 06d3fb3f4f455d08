import Derived.Conc.Beside
import Derived.Conc.CrowdTrace
import Derived.Conc.WrSpec
import Derived.Conc.Script
import Derived.Test.YtghpcgagijhlaaaGreatDoorC01
set_option linter.all false
set_option maxRecDepth 100000
set_option maxHeartbeats 16000000
open Option renaming some->aA,none->aB
open Bool renaming true->aF,false->aG
open Or renaming inl->aH,inr->aI
open Go.Ending renaming returned->aM
open Go.Item renaming inRegion->aN
open Go.Obj renaming cells->aJ
open Array renaming replicate->aDZ
open Go renaming execOp->aD7,undef->aEh
open Go.Next renaming value->aEi,skip->aEj
open Go.Trace renaming g?->aEk
open Go.Proofs.Tryz
namespace Go
abbrev zGl:=@Go.Conc.QuitsD.value
abbrev zGm:=@Go.RowKit.Below.refl
abbrev zGr:=@Go.RowKit.Below.heap_setCell
abbrev zGs:=@Go.wpList_load_row
abbrev zGu:=@Go.wpList_store_row
abbrev zGv:=@Go.heap_alloc_new
abbrev zGy:=@Go.ConcN.sumTo_congr
abbrev zHb:=@Go.cell_of_row
abbrev zb (w w':World):Prop:=Go.RowKit.Below w.heap.size w w'
def hid {p:Prop}(h:p):Go.RowKit.Hid p:=h
end Go
namespace Go.Tr
open Go.Conc
def blk:Loc->Option Nat
 | .cell a=>aA a.block
 | .obj r=>aA r
 |_=>aB
structure Pm where
 rd:Nat->zP
 rw:Nat->zP
 sd:Nat->zP
 at':zP
structure Pm.Ok (p:Pm):Prop where
 Wn:∀{j k b},p.rw j b->p.rw k b->j=k
 Wo:∀{j k b},p.rw j b->p.rd k b->j=k
 Oj:∀{j b},p.at' b->¬p.rd j b
 Ao:∀{j b},p.at' b->¬p.rw j b
 aj:∀{j k b},p.sd j b->p.sd k b->j=k
 XL:∀{j b},p.sd j b->p.at' b
def Ve (p:Pm)(j:Nat)(x:Touch):Prop:=
 ∀b,blk x.loc=aA b->(x.kind≠.said/\x.write=aG/\(p.rd j b\/p.rw j b))\/(x.kind≠.said/\p.rw j b)\/(x.kind= .atomic/\p.at' b)\/(x.kind= .said/\p.sd j b)
structure TI (t:Trace)(p:Pm)(Live:zP):Prop where
 clean:∀said,¬Race said t
 rd:∀{j b},p.rd j b->∀i a,touchAt t i=aA a->blk a.loc=aA b->a.write=aF->Knows t j i
 rw:∀{j b},p.rw j b->∀i a,touchAt t i=aA a->blk a.loc=aA b->Knows t j i
 sd:∀{j b},p.sd j b->∀i a,touchAt t i=aA a->blk a.loc=aA b->a.kind≠.atomic->Knows t j i
 Yh:∀{b},p.at' b->∀i a,touchAt t i=aA a->blk a.loc=aA b->a.kind≠.plain
 known:∀i a,touchAt t i=aA a->a.loc.isMemory=aF->Knows t 0 i\/(∃op,t[i]? =aA op/\Live op.g)\/∃b,blk a.loc=aA b/\p.at' b/\a.kind= .atomic/\(t.g? i=aA 0\/¬t.heard i)
def JO {l}(h:l.isMemory=aF):∃b,blk l=aA b:=by cases l<;>simp_all [Loc.isMemory,blk]
section
variable {t u:Trace}{p q:Pm}{Live Dm:zP}{j:Nat}
def dN {i a}(h:touchAt (t++u) i=aA a):(i<t.size/\touchAt t i=aA a)\/∃op,t.size<=i/\(t++u)[i]? =aA op/\op∈u/\op.act.touch? =aA a:=by
 obtain⟨x,e,b⟩:=touch_of h;obtain⟨hi,d⟩|⟨hi,c⟩:=getElem?_append_cases e
 .exact aH ⟨hi,by rw[touchAt_of d];exact b⟩
 .exact aI ⟨x,hi,e,c,b⟩
def TI.own (f:p.Ok)(h:TI t p Live)(A:∀op∈u,op.g=j)(z:j=0\/Live j\/∀i op,t.size<=i->(t++u)[i]? =aA op->∀x,op.act.touch? =aA x->x.loc.isMemory=aF->(∃b,blk x.loc=aA b/\p.at' b/\x.kind= .atomic)/\¬(t++u).heard i)
  (E:∀op∈u,∀x,op.act.touch? =aA x->Ve p j x):TI (t++u) p Live:=by
 refine⟨λsaid=>noRace_append (h.clean said) A λi a hi op e b o O=> ?_,λ{k b} hk i a hi o B=> ?_,λ{k b} hk i a hi o=> ?_,λ{k b} hk i a hi o N=> ?_,λ{b} hk i a hi o=> ?_,λi a hi G=> ?_⟩
 .obtain⟨hl,G,L,w⟩:=O;obtain⟨c,n⟩:=JO G;have D:=hl▸n;obtain⟨r,d,F⟩|⟨r,d⟩|⟨r,d⟩|⟨r,d⟩:=E op e b o c D
  .have B:a.write=aF:=by
    obtain x|x:=L;{exact x};{rw[d]at x;cases x}
   obtain F|F:=F;{exact h.rd F i a hi n B};{exact h.rw F i a hi n}
  .exact h.rw d i a hi n
  .have:=h.Yh d i a hi n;rw[r]at w;obtain x|x|⟨_,_,x⟩:=w
   .exact absurd x this
   .cases x
   .cases x
  .have:=h.Yh (f.XL d) i a hi n;rw[r]at w;obtain x|x|⟨_,x,_⟩:=w
   .exact absurd x this
   .cases x
   .exact h.sd d i a hi n (by rw[x];simp)
 .obtain⟨_,m⟩|⟨op,_,v,e,l⟩:=dN hi
  .exact(h.rd hk i a m o B).app u
  .have:j=k:=by
    obtain⟨_,d,_⟩|⟨_,d⟩|⟨_,d⟩|⟨_,d⟩:=E op e a l b o;{rw[d]at B;cases B};{exact f.Wo d hk};{exact absurd hk (f.Oj d)};{exact absurd hk (f.Oj (f.XL d))}
   have s:=knows_own v;rw[A op e,this]at s;exact s
 .obtain⟨_,m⟩|⟨op,_,v,e,l⟩:=dN hi
  .exact(h.rw hk i a m o).app u
  .have:j=k:=by
    obtain⟨_,_,d|d⟩|⟨_,d⟩|⟨_,d⟩|⟨_,d⟩:=E op e a l b o;{exact(f.Wo hk d).symm};{exact f.Wn d hk};{exact f.Wn d hk};{exact absurd hk (f.Ao d)};{exact absurd hk (f.Ao (f.XL d))}
   have s:=knows_own v;rw[A op e,this]at s;exact s
 .obtain⟨_,m⟩|⟨op,_,v,e,l⟩:=dN hi
  .exact(h.sd hk i a m o N).app u
  .have:j=k:=by
    obtain⟨_,_,d|d⟩|⟨_,d⟩|⟨r,d⟩|⟨_,d⟩:=E op e a l b o;{exact absurd d (f.Oj (f.XL hk))};{exact absurd d (f.Ao (f.XL hk))};{exact absurd d (f.Ao (f.XL hk))};{exact absurd r N};{exact f.aj d hk}
   have s:=knows_own v;rw[A op e,this]at s;exact s
 .obtain⟨_,m⟩|⟨op,_,v,e,l⟩:=dN hi
  .exact h.Yh hk i a m o
  .intro C;obtain⟨_,_,d|d⟩|⟨_,d⟩|⟨r,d⟩|⟨r,d⟩:=E op e a l b o
   .exact f.Oj hk d
   .exact f.Ao hk d
   .exact f.Ao hk d
   .rw[C]at r;cases r
   .rw[C]at r;cases r
 .obtain⟨hl,m⟩|⟨op,M,v,e,l⟩:=dN hi
  .obtain x|⟨op,x,y⟩|x:=h.known i a m G
   .exact aH (x.app u)
   .exact aI (aH ⟨op,by rw[getElem?_append_old hl];exact x,y⟩)
   .obtain⟨b,K,J,I,H⟩:=x;exact aI (aI ⟨b,K,J,I,by rw[g?_old hl,heard_old hl];exact H⟩)
  .obtain z|z|z:=z
   .have s:=knows_own v;rw[A op e,z]at s;exact aH s
   .exact aI (aH ⟨op,v,by rw[A op e];exact z⟩)
   .obtain⟨⟨b,K,J,I⟩,H⟩:=z i op M v a l G;exact aI (aI ⟨b,K,J,I,aI H⟩)
def TI.to (h:TI t p Live)(f:∀j b,q.rd j b->(p.rd j b\/p.rw j b)\/∀i a,touchAt t i=aA a->blk a.loc≠aA b)
  (e:∀j b,q.rw j b->p.rw j b\/∀i a,touchAt t i=aA a->blk a.loc≠aA b) (d:∀j b,q.sd j b->(p.sd j b\/p.rw j b)\/∀i a,touchAt t i=aA a->blk a.loc≠aA b)
  (g:∀b,q.at' b->p.at' b\/∀i a,touchAt t i=aA a->blk a.loc≠aA b) (c:∀b,p.at' b->q.at' b) (hl:∀j,Live j->Dm j):TI t q Dm:=by
 refine⟨h.clean,λ{k b} hk i a hi hb hw=> ?_,λ{k b} hk i a hi hb=> ?_,λ{k b} hk i a hi hb l=> ?_,λ{b} hk i a hi hb=> ?_,λi a hi m=> ?_⟩
 .obtain(x|x)|x:=f k b hk
  .exact h.rd x i a hi hb hw
  .exact h.rw x i a hi hb
  .exact absurd hb (x i a hi)
 .obtain x|x:=e k b hk
  .exact h.rw x i a hi hb
  .exact absurd hb (x i a hi)
 .obtain(x|x)|x:=d k b hk
  .exact h.sd x i a hi hb l
  .exact h.rw x i a hi hb
  .exact absurd hb (x i a hi)
 .obtain x|x:=g b hk
  .exact h.Yh x i a hi hb
  .exact absurd hb (x i a hi)
 .obtain x|⟨op,x,y⟩|⟨b,x,y,z⟩:=h.known i a hi m
  .exact aH x
  .exact aI (aH ⟨op,x,hl _ y⟩)
  .exact aI (aI ⟨b,x,c b y,z⟩)
def SV {said}(h:¬Race said t)(l:∀op∈u,op.act.touch? =aB):¬Race said (t++u):=by
 rintro⟨i,j,f,⟨a,b,s,r,o⟩,m,n⟩;obtain⟨hi,k⟩|⟨op,_,_,d,c⟩:=dN s
 .obtain⟨v,g⟩|⟨op,_,_,d,c⟩:=dN r
  .exact h ⟨i,j,f,⟨a,b,k,g,o⟩,λe=>m (hb_app u e),λe=>n (hb_app u e)⟩
  .rw[l op d]at c;cases c
 .rw[l op d]at c;cases c
def TI.Mc (h:TI t p Live)(v:∀op∈u,op.act.touch? =aB)
  (n:∀j b,q.rd j b->p.rd j b\/p.rw j b\/(∃k,(p.rd k b\/p.rw k b)/\∀i,Knows t k i->Knows (t++u) j i)\/∀i a,touchAt t i=aA a->blk a.loc≠aA b)
  (m:∀j b,q.rw j b->p.rw j b\/(∃k,p.rw k b/\∀i,Knows t k i->Knows (t++u) j i)\/∀i a,touchAt t i=aA a->blk a.loc≠aA b)
  (f:∀j b,q.sd j b->p.sd j b\/(∃k,p.sd k b/\∀i,Knows t k i->Knows (t++u) j i)\/∀i a,touchAt t i=aA a->blk a.loc≠aA b)
  (r:∀b,q.at' b->p.at' b\/∀i a,touchAt t i=aA a->blk a.loc≠aA b) (e:∀b,p.at' b->q.at' b)
  (hl:∀j,Live j->Dm j\/∀i op a,t[i]? =aA op->op.g=j->touchAt t i=aA a->Knows (t++u) 0 i):TI (t++u) q Dm:=by
 have old:∀{i a},touchAt (t++u) i=aA a->i<t.size/\touchAt t i=aA a:=λ{i a} hi=>by obtain x|⟨op,_,_,o,c⟩:=dN hi;{exact x};{rw[v op o]at c;cases c}
 refine⟨λsaid=>SV (h.clean said) v,λ{k b} hk i a hi hb hw=> ?_,λ{k b} hk i a hi hb=> ?_,λ{k b} hk i a hi hb d=> ?_,λ{b} hk i a hi hb=> ?_,λi a hi w=> ?_⟩
 .obtain⟨_,hi⟩:=old hi;obtain x|x|⟨s,x|x,y⟩|x:=n k b hk
  .exact(h.rd x i a hi hb hw).app u
  .exact(h.rw x i a hi hb).app u
  .exact y i (h.rd x i a hi hb hw)
  .exact y i (h.rw x i a hi hb)
  .exact absurd hb (x i a hi)
 .obtain⟨_,hi⟩:=old hi;obtain x|⟨s,x,y⟩|x:=m k b hk
  .exact(h.rw x i a hi hb).app u
  .exact y i (h.rw x i a hi hb)
  .exact absurd hb (x i a hi)
 .obtain⟨_,hi⟩:=old hi;obtain x|⟨s,x,y⟩|x:=f k b hk
  .exact(h.sd x i a hi hb d).app u
  .exact y i (h.sd x i a hi hb d)
  .exact absurd hb (x i a hi)
 .obtain⟨_,hi⟩:=old hi;obtain x|x:=r b hk
  .exact h.Yh x i a hi hb
  .exact absurd hb (x i a hi)
 .obtain⟨bT,hi⟩:=old hi;obtain x|⟨op,x,y⟩|⟨b,x,y,z⟩:=h.known i a hi w
  .exact aH (x.app u)
  .obtain l|l:=hl _ y
   .exact aI (aH ⟨op,by rw[getElem?_append_old bT];exact x,l⟩)
   .exact aH (l i op a x rfl hi)
  .exact aI (aI ⟨b,x,e b y,z.1,by rw[g?_old bT,heard_old bT];exact z.2⟩)
def FM {s r c k cap x1 x2 x3 x4}(a:x1.g=s/\x1.act= .send c k)(m:x2.g=r/\x2.act= .recv c k cap)(v:x3.g=s)(e:x3.act= .sendDone c k)(d:x4.g=r/\x4.act= .recvDone c k)
  (hs:Deaf t s=0) (f:Deaf t r=0) {i} (h:Knows t s i):Knows (t++ #[x1,x2,x3,x4]) r i:=by
 have b:(t++ #[x1,x2,x3,x4])[t.size]? =aA x1:=by rw[zCd (zAb _)];simp
 have p2:(t++ #[x1,x2,x3,x4])[t.size+1]? =aA x2:=by rw[zCd (by omega)];simp
 have p3:(t++ #[x1,x2,x3,x4])[t.size+2]? =aA x3:=by rw[zCd (by omega)];simp
 have p4:(t++ #[x1,x2,x3,x4])[t.size+3]? =aA x4:=by rw[zCd (by omega)];simp
 have o:(t++ #[x1,x2,x3,x4]).heard t.size:=⟨s,by simp[aEk,a.1],by rw[deaf_old (zAb _)];exact hs⟩;have n:(t++ #[x1,x2,x3,x4]).heard (t.size+3):=by refine⟨r,by simp[aEk,d.1],?_⟩;rw[deaf_succ p3,deaf_succ p2,deaf_succ b,deaf_old (zAb _)];simp only[deafStep,a.2,m.2,e];exact f
 have l:=h.hb_new (zAb _) b a.1;exact⟨t.size+3,x4,p4,d.1,aI (l.trans (.single (aI ⟨.handOver (by rw[act?_of b,a.2]) (by rw[act?_of p4,d.2]),o,n⟩)))⟩
def OW {c i a r x}(b:x.g=r/\x.act= .recvClosed c)(e:t.act? a=aA (.close c))(hh:t.heard a)(f:Deaf t r=0)(h:Before t i a):Knows (t++ #[x]) r i:=by
 have d:(t++ #[x])[t.size]? =aA x:=by rw[zCd (zAb _)];simp
 have bT:=lt_of_act? e;have k:(t++ #[x]).heard t.size:=⟨r,by simp[aEk,b.1],by rw[deaf_old (zAb _)];exact f⟩;refine⟨t.size,x,d,b.1,aI ((h.app #[x]).hb (.single (aI ⟨.closed (by rw[act?_old bT];exact e) (by rw[act?_of d,b.2]),?_,k⟩)))⟩;exact(heard_old bT).2 hh
def TI.Sa {rV B}(h:Past rV B t){S}(A:∀l,rV l->∃b,blk l=aA b/\S b)(G:∀b,S b->∀i a,touchAt t i=aA a->blk a.loc=aA b->a.kind≠.plain)
  (H:∀l b,blk l=aA b->S b->rV l):
  TI t ⟨λ_ _=>False,λj b=>j=0/\¬S b,λ_ _=>False,S⟩ (λ_=>False):=by
 refine⟨h.clean,λ{k b} c=>c.elim,λ{k b} c i a hi d=> ?_,λ{k b} c=>c.elim,λ{b} c i a hi d=>G b c i a hi d,λi a hi e=> ?_⟩
 .obtain⟨rfl,c⟩:=c;have e:a.loc.isMemory=aF:=by{cases hl:a.loc<;>rw[hl]at d<;>simp_all [blk,Loc.isMemory]};obtain x|⟨x,_⟩:=h.known i a hi e;{exact x};{obtain⟨C,f,v⟩:=A _ x;rw[d]at f;cases f;exact absurd v c}
 .obtain x|⟨x,y⟩:=h.known i a hi e
  .exact aH x
  .obtain⟨C,f,v⟩:=A _ x;by_cases s:t.g? i=aA 0\/¬t.heard i
   .exact aI (aI ⟨C,f,v,y,s⟩)
   .have r:=zBu λz=>s (aI z);have o:t.g? i≠aA 0:=λz=>s (aH z);obtain⟨op,n,E⟩:=touch_of hi;have w:t.g? i=aA op.g:=by{simp[aEk,n]};obtain⟨j,F,d⟩:=h.over i op.g w (λz=>o (by rw[w,z])) ⟨a,hi,e,aI r⟩;obtain⟨z,D,m⟩:=zBn.1 F;exact aH ⟨j,z,D,m,aI d⟩
def TI.past {B}(h:TI t p (λ_=>False))(w:Deaf t 0=0)(hs:∀op∈t,op.act.low B):Past (λl=>∃b,blk l=aA b/\p.at' b) B t:=by
 refine⟨h.clean,λi a hi n=> ?_,λi g k e y=> ?_,w,hs⟩
 .obtain x|⟨_,_,x⟩|⟨b,s,r,m,_⟩:=h.known i a hi n
  .exact aH x
  .exact x.elim
  .exact aI ⟨⟨b,s,r⟩,m⟩
 .obtain⟨a,A,n,f⟩:=y;obtain⟨q,z,v,d,o⟩|⟨_,_,x⟩|⟨b,s,r,m,c⟩:=h.known i a A n
  .refine⟨q,by simp[aEk,v,d],?_⟩;obtain rfl|o:=o
   .rw[aEk,v]at k;simp only[zBf,Option.some.injEq]at k;exact absurd (k.symm.trans d) e
   .exact o
  .exact x.elim
  .obtain f|f:=f
   .exact absurd m f
   .obtain c|c:=c
    .rw[k]at c;exact absurd (zAk c) e
    .exact absurd f c
end
end Go.Tr
namespace Go.Ren
open Go.Conc (G)
inductive Tree where
 |leaf
 |node (ch:zW->Tree)
def Tree.Lt (a b:Tree):Prop:=∃ch w,b= .node ch/\a=ch w
def Tree.wf:WellFounded Tree.Lt:=by
 constructor;intro a;induction a with
 |leaf=>exact⟨_,λb ⟨_,_,h,_⟩=>by cases h⟩
 |node ch i=>exact⟨_,λb ⟨_,w,h,e⟩=>by cases h;exact e▸i w⟩
def Tree.nat:Nat->Tree
 |0=> .leaf
 |n+1=> .node λ_=>Tree.nat n
def Tree.fI (n):Tree.Lt (Tree.nat n) (Tree.nat (n+1)):=⟨_,default,rfl,rfl⟩
structure cC (rd rw:zP)(w w₁:zW):Prop where
 cM:∀b,rd b\/rw b->w₁.heap[b]? =w.heap[b]?
 size:w.heap.size<=w₁.heap.size
 tape:w₁.tape=w.tape
 os:w₁.os=w.os
 output:w₁.output=w.output
structure Does (rw:zP)(w w':zW):Prop where
 keep:∀b,b<w.heap.size->¬rw b->w'.heap[b]? =w.heap[b]?
 size:w.heap.size<=w'.heap.size
 tape:w'.tape=w.tape
 os:w'.os=w.os
 output:w'.output=w.output
def grown (rw:zP)(w w':zW):zP:=λb=>rw b\/(w.heap.size<=b/\b<w'.heap.size)
def VZ (rd rw:zP)(e:Event):Prop:=
 (∃a wr s,e=⟨.cell a,wr,s⟩/\(rw a.block\/(wr=aG/\rd a.block)))\/(∃r s,e=⟨.obj r,aG,s⟩/\(rw r\/rd r))\/e.loc= .mark .noRoom\/e.loc= .output\/∃f,e.loc= .mark (.extern f)
def cC.refl (rd rw)(w):cC rd rw w w:=⟨λ_ _=>rfl,zAb _,rfl,rfl,rfl⟩
def cC.trans {rd rw:zP}{a b c:zW}(h:cC rd rw a b)(k:cC rd rw b c):cC rd rw a c:=
 ⟨λx d=>(k.cM x d).trans (h.cM x d),zBc h.size k.size,k.tape.trans h.tape,k.os.trans h.os,k.output.trans h.output⟩
def cL (P:zZ)(main:Bool)(J:zW->Prop)(S:(zP)->(zP)->zU):Tree->(zP)->(zP)->zU
 | .leaf,rd,rw,g,w=>∀a,cC rd rw w a->J a->S rd rw g a
 | .node ch,rd,rw,g,w=>g.status= .running/\∀a,cC rd rw w a->J a->∃c b d,stepG P main g a= .go c b d/\Does rw a b/\(∀e∈d,VZ rd (grown rw a b) e)/\cL P main J S (ch a) rd (grown rw a b) c b
section
variable {P:zZ}{main:Bool}{J:zW->Prop}{S:(zP)->(zP)->zU}
def cL.rely:∀{tr:Tree}{rd rw:zP}{g:zH}{w w₁:zW},cL P main J S tr rd rw g w->cC rd rw w w₁->cL P main J S tr rd rw g w₁
 | .leaf,_,_,_,_,_,h,r=>λa b j=>h a (r.trans b) j
 | .node _,_,_,_,_,_,h,r=>⟨h.1,λa b j=>h.2 a (r.trans b) j⟩
def cL.mono {c:(zP)->(zP)->zU}(b:∀rd rw g w,S rd rw g w->c rd rw g w):∀{tr:Tree}{rd rw:zP}{g:zH}{w:zW},cL P main J S tr rd rw g w->cL P main J c tr rd rw g w
 | .leaf,_,_,_,_,h=>λa r j=>b _ _ _ _ (h a r j)
 | .node ch,_,_,_,_,h=>⟨h.1,λa r j=>let⟨k,d,es,h1,i,f,e⟩:=h.2 a r j;⟨k,d,es,h1,i,f,e.mono b⟩⟩
def cL.step {rd rw g w}(d:g.status= .running)
  (h:∀w₁,cC rd rw w w₁->J w₁->∃a w' es,stepG P main g w₁= .go a w' es/\Does rw w₁ w'/\(∀e∈es,VZ rd (grown rw w₁ w') e)/\∃tr,cL P main J S tr rd (grown rw w₁ w') a w'):∃tr,cL P main J S tr rd rw g w:=by
 have c:∀w₁:zW,∃tr:Tree,cC rd rw w w₁->J w₁->∃a w' es,stepG P main g w₁= .go a w' es/\Does rw w₁ w'/\(∀e∈es,VZ rd (grown rw w₁ w') e)/\cL P main J S tr rd (grown rw w₁ w') a w':=λw₁=>by by_cases b:cC rd rw w w₁/\J w₁;{obtain⟨a,w',es,l,k,j,tr,i⟩:=h w₁ b.1 b.2;exact⟨tr,λ_ _=>⟨a,w',es,l,k,j,i⟩⟩};{exact⟨.leaf,λx y=>absurd ⟨x,y⟩ b⟩}
 exact⟨.node λw₁=>Classical.choose (c w₁),d,λw₁ b f=>zAw (c w₁) b f⟩
def cL.bind {b:(zP)->(zP)->zU}(a:∀rd rw g w,(∀w₁,cC rd rw w w₁->J w₁->S rd rw g w₁)->∃tr,cL P main J b tr rd rw g w):
  ∀{tr:Tree}{rd rw:zP}{g:zH}{w:zW},cL P main J S tr rd rw g w->∃tr,cL P main J b tr rd rw g w
 | .leaf,_,_,_,_,h=>a _ _ _ _ h
 | .node ch,_,_,_,_,h=>cL.step h.1 λw₁ r j=>let⟨i,c,es,h1,f,e,d⟩:=h.2 w₁ r j;⟨i,c,es,h1,f,e,d.bind a⟩
end
def dL (rw)(w):grown rw w w=rw:=by
 funext b;apply propext;constructor
 .rintro(h|⟨h1,a⟩)
  .exact h
  .omega
 .exact aH
def Does.refl (rw)(w):Does rw w w:=⟨λ_ _ _=>rfl,zAb _,rfl,rfl,rfl⟩
def yB {P:zZ}{main:Bool}{J:zW->Prop}{R:zW->zW->Prop}{rd rw:zP}{Stop:zU}(a:∀w w₁,cC rd rw w w₁->J w₁->R w w₁):
  ∀{n:Nat}{g:zH}{w:zW},Go.Conc.Goes P main R Go.ConcR.DC0 Stop n g w->∃tr,cL P main J (λc b g w=>c=rd/\b=rw/\Stop g w) tr rd rw g w
 |0,g,w,h=>⟨.leaf,λw₁ r j=>⟨rfl,rfl,h w₁ (a w w₁ r j)⟩⟩
 |n+1,g,w,h=>by obtain h|⟨e,h⟩:=h;{exact⟨.leaf,λw₁ r j=>⟨rfl,rfl,h w₁ (a w w₁ r j)⟩⟩};{refine cL.step e λw₁ r j=> ?_;obtain⟨m,d,o,l,⟨k,i⟩,f⟩:=Go.Conc.goes_elim (h w₁ (a w w₁ r j));subst k;subst i;refine⟨m,d,#[],l,Does.refl rw d,by simp,?_⟩;rw[dL];exact yB a f}
section
variable {P:zZ}{Al:zF}{K:Kp}
def ZM {ρ rd rw}(c:∀b b',ρ b b'->(K b/\rd b')\/(¬K b/\rw b')){e}(h:mH K ρ e):VZ rd rw e:=by
 obtain⟨a,j,wr,s,rfl,i,f⟩|(h|h)|h|⟨r,d,s,rfl,g⟩:=h
 .refine aH ⟨j,wr,s,rfl,?_⟩;obtain⟨k,x⟩|⟨_,x⟩:=c _ _ i.1
  .right;refine⟨?_,x⟩;cases wr with
   |false=>rfl
   |true=>exact absurd k (f rfl)
  .exact aH x
 .exact aI (aI (aH h))
 .exact aI (aI (aI (aH h)))
 .exact aI (aI (aI (aI h)))
 .refine aI (aH ⟨d,s,rfl,?_⟩);obtain⟨_,x⟩|⟨_,x⟩:=c _ _ g
  .exact aI x
  .exact aH x
end
section
variable(P:zZ)(fs:Array Func)
def sB:∀(d:Nat)(t:zD)(b:Nat),cellHolding ⟨P.toTables,fs⟩ d t b=cellHolding P d t b
 |0,_,_=>rfl
 |d+1,t,b=>by unfold cellHolding;simp only[sB d];rfl
def vZ:∀(d:Nat)(t:zD)(b:Nat),plainCell ⟨P.toTables,fs⟩ d t b=plainCell P d t b
 |0,_,_=>rfl
 |d+1,t,b=>by unfold plainCell;simp only[vZ d];rfl
def vY (c:zA)(e:zD):∀(f x s:Nat),seenCells ⟨P.toTables,fs⟩ c e f x s=seenCells P c e f x s
 |0,_,_=>rfl
 |f+1,x,s=>by unfold seenCells;simp only[vY c e f,sB];rfl
def Bi (w:zW)(a)(u)(k)(t):w.seen ⟨P.toTables,fs⟩ a u k t=w.seen P a u k t:=by unfold World.seen;simp only[vY,vZ,iY];rfl
def QO (w:zW)(a)(u)(k)(t):w.viewLoad ⟨P.toTables,fs⟩ a u k t=w.viewLoad P a u k t:=by unfold World.viewLoad;simp only[Bi]
def QP:∀(d:Nat)(t:zD),tight ⟨P.toTables,fs⟩ d t=tight P d t
 |0,_=>rfl
 |d+1,t=>by unfold tight;simp only[QP d];rfl
def MY (w:zW)(a)(u)(k)(v)(t):w.viewStore ⟨P.toTables,fs⟩ a u k v t=w.viewStore P a u k v t:=by unfold World.viewStore;simp only[Bi,QP];rfl
def DT (w:zW)(a)(t):w.farLoad ⟨P.toTables,fs⟩ a t=w.farLoad P a t:=by unfold World.farLoad;simp only[QO]
def QR (w:zW)(a)(v)(t):w.farStore ⟨P.toTables,fs⟩ a v t=w.farStore P a v t:=by unfold World.farStore;simp only[MY]
end
def NP (P:zZ)(fs:Array Func){α:Type}(s:Sem α):Prop:=∀(w:zW)(e:zE),s.runT ⟨P.toTables,fs⟩ w e=s.runT P w e
section
variable {P:zZ}{fs:Array Func}{α β:Type}
def jI (a:α):NP P fs (Pure.pure a:Sem α):=λ_ _=>rfl
def CK (h:Halt):NP P fs (.halt h:Sem α):=λ_ _=>rfl
def fE {s}{f:α->Sem β}(h:NP P fs s)(b:∀a,NP P fs (f a)):NP P fs (s>>=f):=λw e=>by
 rw[bD,bD,h w e];split
 .exact b _ _ _
 .rfl
def Sb (a)(m):NP P fs (load a m):=λw e=>by simp only[load,Sem.runT,DT]
def xE (r):NP P fs (shape r):=λ_ _=>rfl
def tO (a):NP P fs (frozen a):=λ_ _=>rfl
def Fw (r):NP P fs (getObj r):=λw e=>by simp only[getObj,Sem.runT]
def Fx (q):NP P fs (choose q):=λ_ _=>rfl
def yW {c} [Decidable c] {s t:Sem α}(h:NP P fs s)(k:NP P fs t):NP P fs (if c then s else t):=by split<;>assumption
def Fv (r):NP P fs (viewAt r):=by refine fE (xE r) λs=> ?_;refine yW (jI _) (fE (Fw r) λo=> ?_);cases o<;>exact jI _
def KZ (a):NP P fs (noView a):=by refine fE (Fv _) λs=> ?_;exact yW (CK _) (jI _)
def xD (a):NP P fs (stringish a):=by
 refine fE (tO a) λt=> ?_;refine yW (jI _) (fE (xE _) λs=> ?_);cases s with
 |none=>exact jI _
 |some x=>exact tO _
def SS (a b):NP P fs (mayBeOne a b):=by refine fE (xD a) λs=>fE (xD b) λt=> ?_;refine fE (fE (xE _) λ_=>jI _) λ_=>fE (fE (xE _) λ_=>jI _) λ_=>jI _
def BM (a b):NP P fs (sameAddr a b):=by refine yW (jI _) ?_;refine fE (tO a) λs=>fE (tO b) λt=> ?_;refine yW (CK _) ?_;refine fE (KZ a) λ_=>fE (KZ b) λ_=>fE (SS a b) λ_=> ?_;exact yW (fE (Fx _) λ_=>jI _) (jI _)
def xF:∀(n:Nat)(a:Addr)(acc:ByteArray),NP P fs (loadBytes a acc n)
 |0,_,_=>jI _
 |n+1,a,acc=>by
  unfold loadBytes;refine fE (Sb _ _) λv=> ?_;cases v with
  |int k b=>
   cases k with
   |u8=>exact xF n _ _
   |_=>exact CK _
  |_=>exact CK _
end
section
variable {P:zZ}{Al:zF}{F:Kp}{α β:Type}{A:Rn->α->β->Prop}{fs:Array Func}
def bO.blind (V:Shape P fs)(O:F.rS=aB){π s s'}(h:bO P Al F A π s s'):
  ∀(v w)(z g),bQ P Al F π v w->(∃hl u C,s.runT P v z=(.halt hl u,C)/\Fatal hl)\/s'.runT ⟨P.toTables,fs⟩ w g=s'.runT P w g:=by
 induction h with
 |pure h=>intro v w z g j;exact aI rfl
 | @load π m a H k G h hk B=>
  intro v w z g j;obtain⟨y,Y,E,D,I⟩|⟨E,D⟩:=j.cell h;{simp only[Sem.runT,E,D];exact B y Y I v w _ _ j}
  .obtain⟨hl,I,J⟩|⟨x,b,X,l,I,J,e5,W⟩:=j.se h (m== .atomic)
   .left;refine⟨hl,v,z,?_,J⟩;simp only[Sem.runT,E,I]
   .simp only[Sem.runT,E,D,I,DT,J];exact B x x W v w _ _ j
 | @store π m a H x K k G h T hk B=>
  intro v w z g j;have N:(∀(cs:zA),x≠.agg cs)->(∀(cs:zA),x≠.tuple cs)->(∀(cs:zA),K≠.agg cs)->(∀(cs:zA),K≠.tuple cs)->
    (∃hl u C,(Sem.store m a x k).runT P v z=(.halt hl u,C)/\Fatal hl)\/(Sem.store m H K G).runT ⟨P.toTables,fs⟩ w g=(Sem.store m H K G).runT P w g:=by
   intro n1 n2 n3 Z
   rw[Sem.runT.eq_5 _ _ _ _ _ _ _ (λcs h=>n1 cs h) (λcs h=>n2 cs h),Sem.runT.eq_5 _ _ _ _ _ _ _ (λcs h=>n3 cs h) (λcs h=>Z cs h),Sem.runT.eq_5 _ _ _ _ _ _ _ (λcs h=>n3 cs h) (λcs h=>Z cs h)]
   obtain⟨y,Y,E,D,I⟩|⟨E,D⟩:=j.cell h
   .simp only[E,D];by_cases hF:F a.block
    .left;rw[j.Cj h hF E];exact⟨_,_,_,rfl,by simp⟩
    .rw[j.frozen h hF];cases hf:v.frozen? a with
     |true=>left;exact⟨_,_,_,rfl,by simp⟩
     |false=>exact B (v.setCell a x) (w.setCell H K) _ _ (j.setCell h hF T)
   .simp only[E,D,QR];obtain⟨hl,I,J⟩|⟨v1,w1,b,X,l,I,J,e5,W,e7,e8⟩:=j.farStore h T (m== .atomic)
    .left;exact⟨hl,v,z,by simp only[I],J⟩
    .simp only[I,J];exact B v1 w1 _ _ W
  cases T with
  |agg _ _=>left;exact⟨_,_,_,rfl,by simp⟩
  |tuple _ _=>left;exact⟨_,_,_,rfl,by simp⟩
  |junk vb R=>exact N (by simp) (by simp) (λcs e=>by rw[e]at R;exact R) (λcs e=>by rw[e]at R;exact R)
  |_=>exact N (by simp) (by simp) (by simp) (by simp)
 | @new π c c' ty k G h hk B=>intro v w z g j;simp only[Sem.runT];exact B (more π v.heap.size w.heap.size) v.heap.size w.heap.size (j.push h ty).ok (λ_ _ x=>aH x) (aI ⟨rfl,rfl⟩) _ _ z g (j.push h ty)
 | @marked π c c' ty k G hC h hk B=>intro v w z g j;rw[nT,nT,nT];exact B (more π v.heap.size w.heap.size) v.heap.size w.heap.size (j.qN hC h ty).ok (λ_ _ x=>aH x) (aI ⟨rfl,rfl⟩) _ _ z g (j.qN hC h ty)
 | @view π x K k G h hk B=>intro v w z g j;simp only[Sem.runT];exact B (more π v.heap.size w.heap.size) v.heap.size w.heap.size (j.wZ h).ok (λ_ _ x=>aH x) (aI ⟨rfl,rfl⟩) _ _ z g (j.wZ h)
 | @getObj π r M k G h hk B=>
  intro v w z g j;obtain⟨c,c',ty,fr,fr',Q,S,_⟩|⟨_,o,Q,S,L⟩|⟨x,K,Q,S,L⟩:=j.blk _ _ h;{left;exact⟨.stuck "getObj: a row of cells",v,z,by simp only[Sem.runT,Q],by simp⟩}
  .have E:(Sem.getObj r k).runT P v z=(k o).runT P v (z.push ⟨.obj r,aG,o.isChan⟩):=by
    simp only[Sem.runT,Q];cases o with
    |cells c t f=>exact absurd rfl (L.1 c t f)
    |_=>rfl
   have D:∀p:zZ,(Sem.getObj M G).runT p w g=(G o).runT p w (g.push ⟨.obj M,aG,o.isChan⟩):=λp=>by
    simp only[Sem.runT,S];cases o with
    |cells c t f=>exact absurd rfl (L.1 c t f)
    |_=>rfl
   rw[E,D,D];exact B o o (aH ⟨L,rfl⟩) v w _ _ j
  .have E:(Sem.getObj r k).runT P v z=(k x).runT P v (z.push ⟨.obj r,aG,aG⟩):=by
    simp only[Sem.runT,Q];cases L<;>rfl
   have D:∀p:zZ,(Sem.getObj M G).runT p w g=(G K).runT p w (g.push ⟨.obj M,aG,aG⟩):=λp=>by simp only[Sem.runT,S];cases L<;>rfl
   rw[E,D,D];exact B _ _ (aI ⟨x,K,rfl,rfl,L⟩) v w _ _ j
 | @shape π r M k G h hk B=>intro v w z g j;simp only[Sem.runT,j.shape h];exact B _ v w z g j
 | @freeze π a H n k G hF h hk B=>intro v w z g j;simp only[Sem.runT];exact B (v.freeze a n) (w.freeze H n) z g (j.freeze hF h n)
 | @frozen π a H k G hF h hk B=>intro v w z g j;simp only[Sem.runT,j.frozen h (hF _)];exact B _ v w z g j
 | @share π a H n k G h hk B=>
  intro v w z g j;rw[bD,bD,bD,xF n H .empty];obtain⟨hl,C,E,D⟩|⟨s,C,d,E,D,I,J⟩:=uT j n .empty z g h;{rw[E];exact aH ⟨hl,v,C,rfl,D⟩}
  .rw[E,D];have hW:bQ P Al F π (v.freeze a n) (w.freeze H n):=by
    by_cases U:n=0;{subst U;exact j};{exact j.UF h (J U).1 λ_=>(J U).2}
   exact B s (v.freeze a n) (w.freeze H n) C (g++d) hW
 | @same π a H b X k G hN h h' hk B=>intro v w z g j;rw[bD,bD,bD,BM H X];obtain⟨hl,C,E,D⟩|⟨t,C,d,E,D,I⟩:=RS j hN h h' z g;{rw[E];exact aH ⟨hl,v,C,rfl,D⟩};{rw[E,D];exact B t v w _ _ j}
 | @choose π q k G hk B=>intro v w z g j;simp only[Sem.runT];split;{exact B 0 v w z g j};{have hl:∀i,F.upto i:=λi u hu=>by{rw[O]at hu;cases hu};have e0:w.tape w.drawn=v.tape v.drawn:=j.tape 0 (hl _);have E:q.cut (w.tape w.drawn q)=q.cut (v.tape v.drawn q):=by{rw[e0]};rw[E];exact B (q.cut (v.tape v.drawn q)) {v with drawn:=v.drawn+1} {w with drawn:=w.drawn+1} z g ⟨j.ok,j.blk,λk _=>by have:=j.tape (k+1) (hl _);simpa [zCl,zGc 1 k]using this,j.fresh,j.low,j.os,j.rows⟩}
 | @program π k G he hk B=>intro v w z g j;simp only[Sem.runT];rw[he fs V];exact B v w z g j
 | @mark π m k G hm hk B=>intro v w z g j;simp only[Sem.runT];exact B v w _ _ j
 | @env π k G hk B=>intro v w z g j;have hs:∀(u:zW),u.sys .env=(.strings u.os.env,u):=λu=>rfl;simp only[Sem.runT,hs,j.os];exact B (.strings v.os.env) v w _ _ j
 |panic h=>intro v w z g j;exact aI rfl
 |dead h=>intro v w z g j;obtain⟨hl,w1,C,e,D⟩:=h v z;exact aH ⟨hl,w1,C,e,D⟩
end
section
variable {P:zZ}{Al:zF}{F:Kp}{π:Rn}{cs' own own':zL}{v w:zW}{fs:Array Func}
def eD (h:Shape P fs)(fn)(es):seen ⟨P.toTables,fs⟩ fn es=seen P fn es:=by
 have c:∀f:zN,((⟨P.toTables,fs⟩:zZ).funcs[f]?).any (·.norace)=(P.funcs[f]?).any (·.norace):=λf=>by obtain e|⟨a,b,i,g,_,_,_,d⟩:=h f;{dsimp only;rw[e]};{dsimp only;rw[i,g];simp[d]}
 unfold seen;simp only[c]
def Nn {f}(h:fs[f]? =P.funcs[f]?)(x)(k:CallKind):Frame.enter ⟨P.toTables,fs⟩ f x k=Frame.enter P f x k:=by unfold Frame.enter;rw[h]
def sO (h:F.rS=aB)(u):¬Ua F u:=by rintro⟨x,a,_⟩;rw[h]at a;cases a
def oY {fr C s hl u e}(h:s.runT P v #[]=(.halt hl u,e))(b:Fatal hl):∃o u c,stepG.apply P aF fr C aB s v= .ended o u c:=by
 unfold stepG.apply;simp only[zCp];rw[h];obtain⟨a,rfl⟩|⟨x,rfl,hu⟩:=b
 .exact⟨_,_,_,rfl⟩
 .cases x with
  |initOrder g=>exact absurd rfl (hu g)
  |_=>exact⟨_,_,_,rfl⟩
end
section
variable {P:zZ}{Al:zF}{F:Kp}{π:Rn}{v w:zW}
def qI (u:zW)(a:Addr):Bool:=u.frozen? a||(match u.shape? a.block with|some (_,n)=>u.frozen? {block:=a.block,off:=n}|none=>aG)
def bare (u:zW)(a:Addr):Bool:=u.shape? a.block matches aA (_,0)
def nR (u:zW)(a b:Addr):Bool:=(qI u a&&qI u b)||(qI u a&&bare u a)||(qI u b&&bare u b)
def sD (u)(a)(es):(stringish a).runT P u es=(.ok (qI u a) u,es):=by
 show(Sem.frozen a _).runT P u es=_;simp only[Sem.runT];unfold qI;cases h:u.frozen? a with
 |true=>rfl
 |false=>
  show(Sem.shape a.block _).runT P u es=_;simp only[Sem.runT];cases hu:u.shape? a.block with
  |none=>rfl
  |some x=>obtain⟨t,n⟩:=x;show(Sem.frozen {block:=a.block,off:=n} _).runT P u es=_;simp only[Sem.runT,zFz]
def JF (u)(a b)(es):(mayBeOne a b).runT P u es=(.ok (nR u a b) u,es):=by unfold mayBeOne;rw[bD,sD];dsimp only;rw[bD,sD];show(Sem.shape a.block _).runT P u es=_;simp only[Sem.runT];show(Sem.shape b.block _).runT P u es=_;simp only[Sem.runT];rfl
def AG (u:zW):Bool:=(Question.extern "sameAddr.stringBytes" 2).cut (u.tape u.drawn (.extern "sameAddr.stringBytes" 2))==1
def pG (u:zW){a b:Addr}(h:a.block≠b.block)(es:zE):(sameAddr a b).runT P u es=
  if(u.frozen? a&&u.frozen? b)=aF then(.halt (.unsupported .addressObserved) u,es)else
   match(noView a).runT P u es with
   |(.ok _ u1,c)=>match(noView b).runT P u1 c with
    |(.ok _ u2,e)=>if nR u2 a b=aF then(.ok (AG u2) {u2 with drawn:=u2.drawn+1},e)else(.ok aG u2,e)
    |(.halt h u2,e)=>(.halt h u2,e)
   |(.halt h u1,c)=>(.halt h u1,c):=by
 unfold sameAddr;rw[zDr h];simp only[zBa,zCz];show(Sem.frozen a _).runT P u es=_;simp only[Sem.runT];show(Sem.frozen b _).runT P u es=_;simp only[Sem.runT];show Sem.runT P (if(u.frozen? a&&u.frozen? b)=aF then _ else _) u es=_;cases(u.frozen? a&&u.frozen? b)with
 |true=>rfl
 |false=>
  simp only[zBa,zCz];rw[bD];cases(noView a).runT P u es with
  |mk r c=>
   cases r with
   |halt h u1=>rfl
   |ok _ u1=>
    dsimp only;rw[bD];cases(noView b).runT P u1 c with
    |mk r e=>
     cases r with
     |halt h u2=>rfl
     |ok _ u2=>
      dsimp only;rw[bD,JF];dsimp only;cases nR u2 a b with
      |true=>rfl
      |false=>rfl
def Cx (Q:zZ){o:Oper}{e:Operand->zY}{op:BinOp}{t:zD}{x y:Operand}{j:zD}(n:o.op= .binOp op t x y j)(f:op= .eql\/op= .neq){el:zD}{i:TypeInfo}(m:Q.underlying t=aA (.pointer el))(hi:Q.info? el=aA i)(hs:i.size≠0)
  {a b:Addr} (l:e x= .pointer (aA a)) (k:e y= .pointer (aA b)) (u:zW) (es:zE):
  (aD7 e o).runT Q u es=match(sameAddr a b).runT Q u es with
   |(.ok r u1,c)=>(.ok (.value (.bool (if op= .eql then r else !r))) u1,c)
   |(.halt h u1,c)=>(.halt h u1,c):=by
 have g:∀(u:zW)(es:zE),(Op.equal t (.pointer (aA a)) (.pointer (aA b))).runT Q u es=(sameAddr a b).runT Q u es:=λu es=>by
  show(Op.equalIn (_+1) t (.pointer (aA a)) (.pointer (aA b))).runT Q u es=_;unfold Op.equalIn;rw[bD];have s:(underlying t).runT Q u es=(.ok (.pointer el) u,es):=by unfold underlying;show(match Q.underlying t with|some d=>pure d|none=>stuck "no such type":Sem TypeDesc).runT Q u es=_;rw[m];rfl
  rw[s];dsimp only;rw[bD];have q:(Go.sizeOf el).runT Q u es=(.ok i.size u,es):=by
   unfold Go.sizeOf;rw[bD];have p:(typeInfo el).runT Q u es=(.ok i u,es):=by unfold typeInfo;show(match Q.info? el with|some i=>pure i|none=>stuck _:Sem TypeInfo).runT Q u es=_;rw[hi];rfl
   rw[p];rfl
  rw[q];dsimp only;rw[zAv hs]
 unfold aD7;rw[n];dsimp only;rw[l,k];obtain rfl|rfl:=f
 .show((do let v<-(do pure (.bool (<-Op.equal t (.pointer (aA a)) (.pointer (aA b)))):Sem zY);pure (.value v)):Sem Next).runT Q u es=_;rw[bD,bD,g];cases(sameAddr a b).runT Q u es with
  |mk r c=>cases r<;>rfl
 .show((do let v<-(do pure (.bool (!(<-Op.equal t (.pointer (aA a)) (.pointer (aA b))))):Sem zY);pure (.value v)):Sem Next).runT Q u es=_;rw[bD,bD,g];cases(sameAddr a b).runT Q u es with
  |mk r c=>cases r<;>rfl
end
section
variable {P:zZ}{Al:zF}{F:Kp}{π:Rn}{v w:zW}
def LB {u a es e}(h:(noView a).runT P u es=(.ok () u,e))(i)(d):(noView a).runT P (u.re i d) es=(.ok () (u.re i d),e):=by
 have k:∀u:zW,(noView a).runT P u es=match u.shape? a.block with
   |some _=>(.ok () u,es)
   |none=>match u.heap[a.block]? with
    |some (aJ ..)=>(.halt (.stuck "getObj: a row of cells") u,es)
    |some (.view x t)=>(.halt (.unsupported (.unsafePointer "memory seen as another type")) u,es.push ⟨.obj a.block,aG,aG⟩)
    |some o=>(.ok () u,es.push ⟨.obj a.block,aG,o.isChan⟩)
    |none=>(.halt (.stuck "getObj: no such block") u,es):=λu=>by
  unfold noView viewAt
  rw[bD,bD]
  have p:(shape a.block).runT P u es=(.ok (u.shape? a.block) u,es):=rfl
  rw[p]
  cases j:u.shape? a.block with
  |some x=>rfl
  |none=>
   have l:∀o,u.heap[a.block]? =aA o->(∀c t f,o≠aJ c t f)->(getObj a.block).runT P u es=(.ok o u,es.push ⟨.obj a.block,aG,o.isChan⟩):=λo m n=>by unfold getObj;cases o<;>first|exact absurd rfl (n _ _ _)|(simp only[Sem.runT,m])
   simp only[Option.isSome_none,zBa,zCz];rw[bD];cases b:u.heap[a.block]? with
   |none=>
    have g:(getObj a.block).runT P u es=(.halt (.stuck "getObj: no such block") u,es):=by unfold getObj;simp only[Sem.runT,b]
    rw[g]
   |some o=>
    cases o with
    |cells c t f=>
     have g:(getObj a.block).runT P u es=(.halt (.stuck "getObj: a row of cells") u,es):=by unfold getObj;simp only[Sem.runT,b]
     rw[g]
    |_=>rw[l _ b (by simp)];rfl
 rw[k]at h⊢;have l:(u.re i d).shape? a.block=u.shape? a.block:=rfl;have g:(u.re i d).heap=u.heap:=rfl;rw[l,g];cases j:u.shape? a.block with
 |some x=>rw[j]at h;dsimp only at h⊢;cases h;rfl
 |none=>
  rw[j]at h;dsimp only at h⊢;cases b:u.heap[a.block]? with
  |none=>rw[b]at h;cases h
  |some o=>cases o<;>rw[b]at h<;>dsimp only at h⊢<;>cases h<;>rfl
def oJ (k:bQ P Al F π v w){a a'}(h:bR π a a')(hs:qI w a'=aF):qI v a=aF:=by
 unfold qI at hs⊢;obtain⟨c,c',ty,fr,i,d,b,g,g4,g5⟩|⟨_,o,d,b,g⟩|⟨y,p,d,b,g⟩:=k.blk _ _ h.1
 .by_cases hF:F a.block
  .obtain⟨e,j,_,n⟩:=g4 hF;obtain⟨lo,hi⟩:=fr;obtain⟨l,m⟩:=i;simp only[World.frozen?,World.shape?,b,zDu,zBd,zBr]at hs;simp only[World.frozen?,World.shape?,d,zDu,zBd,zBr];simp only at e j n;have:=g.size;rw[h.2.1]at hs;left;omega
  .have:=g5.1 hF;subst this;simp only[World.frozen?,World.shape?,b,h.2.1,g.size]at hs;simp only[World.frozen?,World.shape?,d];exact hs
 .have e:w.frozen? a'=v.frozen? a:=by
   unfold World.frozen?;rw[d,b];cases o<;>first|rfl|exact absurd rfl (g.1 _ _ _)
  have j:=k.shape h.1;have f:v.shape? a.block=aB:=by unfold World.shape?;rw[d];cases o<;>first|rfl|exact absurd rfl (g.1 _ _ _)
  rw[e,j,f]at hs;rw[f];exact hs
 .have e:w.frozen? a'=aG:=by
   unfold World.frozen?;rw[b];cases g<;>rfl
  have f:w.shape? a'.block=aB:=by unfold World.shape?;rw[b];cases g<;>rfl
  rw[e,f]at hs;cases hs
def MJ (b:bQ P Al F π v w){a a'}(h:bR π a a'):bare w a'=bare v a:=by unfold bare;rw[b.shape h.1]
def SR (c:bQ P Al F π v w){a a' b b'}(h:bR π a a')(k:bR π b b')(hs:nR w a' b'=aF):nR v a b=aF:=by
 unfold nR at hs⊢;simp only[zDu,zBd,MJ c h,MJ c k]at hs⊢;obtain(⟨x,y⟩|⟨x,y⟩)|⟨x,y⟩:=hs
 .exact aH (aH ⟨oJ c h x,oJ c k y⟩)
 .exact aH (aI ⟨oJ c h x,y⟩)
 .exact aI ⟨oJ c k x,y⟩
def BS (i:bQ P Al F π v w){a a'}(h:bR π a a')(hs:w.frozen? a'=aF):v.frozen? a=aF:=by
 obtain⟨c,c',ty,fr,e,d,g,b,g4,g5⟩|⟨_,o,d,g,b⟩|⟨y,p,d,g,b⟩:=i.blk _ _ h.1
 .by_cases hF:F a.block
  .obtain⟨n,m,_,k⟩:=g4 hF;obtain⟨lo,hi⟩:=fr;obtain⟨l,j⟩:=e;simp only[World.frozen?,g,zBd,zBr]at hs;simp only[World.frozen?,d,zBd,zBr];simp only at n m k;rw[h.2.1]at hs;omega
  .rw[i.frozen h hF]at hs;exact hs
 .unfold World.frozen? at hs;rw[g]at hs;cases o with
  |cells c t f=>exact absurd rfl (b.1 c t f)
  |_=>cases hs
 .unfold World.frozen? at hs;rw[g]at hs;cases b<;>cases hs
def Ki (m:bQ P Al F π v w){a a' b b'}(h:bR π a a')(k:bR π b b')(j:a.block≠b.block)(es i):
  (∃hl f,(sameAddr a b).runT P v es=(.halt hl v,f)/\Fatal hl)\/
  ∃g d1 n r f y,(sameAddr a b).runT P (v.re g v.drawn) es=(.ok r (v.re g d1),f)/\(sameAddr a' b').runT P w i=(.ok r {w with drawn:=n},i++y)/\∀e∈y,mH F π e:=by
 have o:a'.block≠b'.block:=λq=>j ((m.ok.inj h.1 k.1).2 q);rw[pG v j,pG w o];cases x:(v.frozen? a&&v.frozen? b)with
 |true=>exact aH ⟨_,_,rfl,by simp⟩
 |false=>
  have u:(w.frozen? a'&&w.frozen? b')=aG:=by
   cases h1:w.frozen? a' with
   |false=>rfl
   |true=>
    cases C:w.frozen? b' with
    |false=>rfl
    |true=>rw[BS m h h1,BS m k C]at x;cases x
  rw[u];simp only[zBa,zCz];obtain⟨hl,f,s,t⟩|⟨f,d,s,t,z⟩:=qR m h es i;{rw[s];exact aH ⟨hl,f,rfl,t⟩};obtain⟨hl,c,r1,r2⟩|⟨c,n,r1,r2,r3⟩:=qR m k f (i++d);{rw[s];dsimp only;rw[r1];exact aH ⟨hl,c,rfl,r2⟩}
  right;rw[t];dsimp only;rw[r2];dsimp only;have l:∀e∈d++n,mH F π e:=λe B=>(zEe.1 B).elim (z e) (r3 e);have run:∀g,(sameAddr a b).runT P (v.re g v.drawn) es=if nR v a b=aF then(.ok (AG (v.re g v.drawn)) (v.re g (v.drawn+1)),c)else(.ok aG (v.re g v.drawn),c):=λg=>by rw[pG (v.re g v.drawn) j];have D:((v.re g v.drawn).frozen? a&&(v.re g v.drawn).frozen? b)=aG:=x;rw[D];simp only[zBa,zCz];rw[LB s g v.drawn];dsimp only;rw[LB r1 g v.drawn];rfl
  cases hm:nR v a b with
  |false=>
   have p:nR w a' b'=aG:=by
    cases A:nR w a' b' with
    |false=>rfl
    |true=>rw[SR m h k A]at hm;cases hm
   refine⟨v.tape,v.drawn,w.drawn,aG,c,d++n,?_,?_,l⟩;{rw[run,hm];rfl};{rw[p,<-zEk];rfl}
  |true=>
   cases p:nR w a' b' with
   |false=>refine⟨λ_ _=>0,v.drawn+1,w.drawn,aG,c,d++n,?_,?_,l⟩;{rw[run,hm];rfl};{rw[<-zEk];rfl}
   |true=>refine⟨λ_=>w.tape w.drawn,v.drawn+1,w.drawn+1,AG w,c,d++n,?_,?_,l⟩;{rw[run,hm];rfl};{rw[<-zEk];rfl}
def oX {Q fr cs s u u1 a y}(h:s.runT Q u #[]=(.ok (.value y) u1,a)):
  ∃c,stepG.apply Q aF fr cs aB s u= .go (G (fr.finish y) cs) u1 c/\∀e∈c,e∈a:=by
 unfold stepG.apply;simp only[zCp];rw[h];refine⟨_,rfl,λe b=> ?_⟩;simp only[zCs,zCf]at b;have:=Go.Conc.mem_seen b;split at this
 .simp at this
 .exact this
def Ny {fs fr fr' own own'}(N:VX P Al F π fr own v fr' own' w)(hq:¬rF P F fr)(Ch:∀I d,∃g1 w1 es,stepG P aF (G fr (own++[])) (v.re I d)= .go g1 w1 es):
  ∃I d d1 d2 x,Flat x/\(∀g cs,∃es,stepG P g (G fr (own++cs)) (v.re I d)= .go (G (fr.finish x) (own++cs)) (v.re I d1) es)/\
   ∀g cs,∃es,stepG ⟨P.toTables,fs⟩ g (G fr' (own'++cs)) w= .go (G (fr'.finish x) (own'++cs)) {w with drawn:=d2} es/\∀e∈es,mH F π e:=by
 unfold rF at hq;simp only[zFc]at hq;obtain⟨hm,ops,j,rest,k,o,X,L,M⟩:=hq;unfold PN at M;simp only[zFc,not_or]at M;obtain⟨op,t,x,y,yt,A,s,Y,qk,q⟩:=M;have jc:=N.world.ok;have Mn:=λx hx=>N.frame.eval jc x hx;have O:kO P Al F (aN ops (j::rest)):=N.frame.items _ (by rw[X];exact zBl);obtain⟨p,H⟩:=O o (zBg L);rw[A]at H p;obtain h|h|h|⟨el,i,hu,hi,hs⟩:=H.2
 .exfalso;obtain h|h:=h
  .exact s.1 h
  .obtain⟨z,hz⟩:=s.2;exact hz (h z)
 .exact absurd h Y
 .exact absurd h qk
 have E:op= .eql\/op= .neq:=by
  by_cases h1:op= .eql;{exact aH h1}
  .by_cases h2:op= .neq
   .exact aI h2
   .exact absurd ⟨h1,h2⟩ Y
 unfold tG at q;simp only[not_and,zFc]at q;obtain⟨a,b,V,T,Zi⟩:=q ⟨el,hu⟩;have K:=Mn x (p x (by simp[Op.operands]));have J:=Mn y (p y (by simp[Op.operands]));rw[V]at K;rw[T]at J;obtain⟨a',U,ha⟩:∃a',fr'.eval x= .pointer (aA a')/\bR π a a':=by
  generalize fr'.eval x=z at K;cases K with
  |pointer hp=>cases hp with
   |some h=>exact⟨_,rfl,h⟩
 obtain⟨b',S,hb⟩:∃b',fr'.eval y= .pointer (aA b')/\bR π b b':=by
  generalize fr'.eval y=z at J;cases J with
  |pointer hp=>cases hp with
   |some h=>exact⟨_,rfl,h⟩
 have Z:fr'.mode= .run:=by have:=N.frame.mode;rw[hm]at this;generalize fr'.mode=m at this;cases this;rfl
 have W:fr'.todo=aN ops (j::rest)::k:=by rw[N.frame.todo];exact X
 have R:∀(Q:zZ)(f:zC)(g:Bool)(c:zL)(u:zW),f.mode= .run->f.todo=aN ops (j::rest)::k->stepG Q g (G f c) u=if(Region.wanted o (yielded ops f.tmps))=aF then stepG.apply Q aF f c aB (aD7 f.eval o) u else .go (G (f.finish aEh) c) u:=λQ f g c u h1 h2=>by
  obtain⟨fn,tmps,todo,defers,mode,kind,round⟩:=f;dsimp only at h1 h2;subst h1;subst h2;show stepG.exec Q g aF ⟨fn,tmps,aN ops (j::rest)::k,defers,.run,kind,round⟩ c aB u=_;have R:stepG.exec Q g aF ⟨fn,tmps,aN ops (j::rest)::k,defers,.run,kind,round⟩ c aB u=
    if(((ops[j]?).map (Region.wanted · (yielded ops tmps))).getD aG)=aF then stepG.oper Q aF ⟨fn,tmps,aN ops (j::rest)::k,defers,.run,kind,round⟩ c aB u
    else .go (G (Frame.finish ⟨fn,tmps,aN ops (j::rest)::k,defers,.run,kind,round⟩ aEh) c) u:=rfl
  rw[R,L];simp only[zBf,zCy];have e2:stepG.oper Q aF ⟨fn,tmps,aN ops (j::rest)::k,defers,.run,kind,round⟩ c aB u=stepG.apply Q aF ⟨fn,tmps,aN ops (j::rest)::k,defers,.run,kind,round⟩ c aB (aD7 (Frame.eval ⟨fn,tmps,aN ops (j::rest)::k,defers,.run,kind,round⟩) o) u:=by unfold stepG.oper;simp only[Frame.oper?,L,A]
  rw[e2]
 have ey:=funext (oI N.frame.tmps ops);cases l:Region.wanted o (yielded ops fr.tmps)with
 |false=>refine⟨v.tape,v.drawn,v.drawn,w.drawn,aEh,λAl π=>dX,λg cs=>⟨#[],?_⟩,λg cs=>⟨#[],?_,by simp⟩⟩;{rw[R P fr g _ _ hm X,l];rfl};{rw[R _ fr' g _ _ Z W,ey,l];rfl}
 |true=>
  have hw:=N.world;have hr:∀(u:zW)(es:zE),(aD7 fr.eval o).runT P u es=_:=λu es=>Cx P A E hu hi hs V T u es;have hr':∀(u:zW)(es:zE),(aD7 fr'.eval o).runT ⟨P.toTables,fs⟩ u es=_:=λu es=>Cx ⟨P.toTables,fs⟩ A E hu hi hs U S u es;obtain⟨hl,jv,q1,q2⟩|⟨I,d1,d2,r,jv,dd,q1,q2,q3⟩:=Ki hw ha hb Zi #[] #[];{exfalso;obtain⟨g1,w1,B,C⟩:=Ch w.tape w.drawn;rw[R P fr aF _ _ hm X,l]at C;simp only[zCp]at C;have n:=hr (v.re w.tape w.drawn) #[];rw[q1]at n;obtain⟨o2,u2,es3,q5⟩:=oY n q2;rw[q5]at C;cases C}
  .have n:=hr ((v.re w.tape w.drawn).re I (v.re w.tape w.drawn).drawn) #[];rw[q1]at n;have D:=hr' w #[];rw[BM a' b',q2]at D;refine⟨I,w.drawn,d1,d2,.bool (if op= .eql then r else !r),λAl π=> .bool _,λg cs=> ?_,λg cs=> ?_⟩
   .obtain⟨B,C,_⟩:=oX n;refine⟨B,?_⟩;rw[R P fr g _ _ hm X,l];exact C
   .obtain⟨B,C,q5⟩:=oX D;refine⟨B,?_,λe he=>q3 e (by simpa using q5 e he)⟩;rw[R _ fr' g _ _ Z W,ey,l];exact C
end
section
variable {P:zZ}{Al:zF}{S:zS}{fr fr1:zC}{own own1:zL}{v v1:zW}
def Ends.next (h:Ends P Al S fr own v)(c:¬S fr own v){a d m es}(hs:stepG P m (G fr own) (v.re a d)= .go (G fr1 own1) v1 es):Ends P Al S fr1 own1 v1:=by
 cases h with
 |stop h=>exact absurd h c
 |step b n h1 g f=>obtain⟨i,e⟩:=g a d [] m;rw[zAq,zAq,hs]at e;have l:fr1=(n a d).1:=by{injection e with e _ _;exact congrArg Goroutine.frame e};have k:own1=(n a d).2.1:=by{injection e with e _ _;exact congrArg Goroutine.callers e};have j:v1=(n a d).2.2:=by{injection e};rw[l,k,j];exact f a d
def Ends.re (h:Ends P Al S fr own v)(e:∀fr own v b d,S fr own v->S fr own (v.re b d))(b)(d):Ends P Al S fr own (v.re b d):=by
 cases h with
 |stop h=>exact .stop (e _ _ _ b d h)
 |step a n h1 g f=>exact .step a n h1 (λc i cs m=>g c i cs m) f
def Lone.through (F:∀K:Kp,(∀b,¬K b)->cD P Al K){T cs}(E:∀fr l v,(fr.mode= .run\/fr.defers≠[]\/l≠[])->¬T fr (l++cs) v){l u}(h:Lone P [bG] S fr l u):
  ∀{D},Closed P Al D fr l u->Ends P Al T fr (l++cs) u->∃f d u2 D2,S f d u2/\Closed P Al D2 f d u2/\(∀b,D b->D2 b)/\Ends P Al T f (d++cs) u2:=by
 induction h with
 | @stop fr l u h=>exactλn k=>⟨fr,l,u,_,h,n,λ_ x=>x,k⟩
 | @step fr fr1 l z u u1 I a p h A=>
  intro D n k;obtain⟨o,w1,I,c⟩|⟨f,d,v2,G,D2,c,m,B,j,g,i⟩:=gG F n a aF u.tape u.drawn;{rw[gU,p]at c;cases c}
  .rw[gU,p]at c;have O:fr1=f:=by injection c with e _ _;exact congrArg Goroutine.frame e
   have N:z=d:=by injection c with e _ _;exact zDc (congrArg Goroutine.callers e)
   have M:u1=v2:=by injection c
   subst O;subst N;subst M;obtain⟨H,q⟩:=i u.tape u.drawn cs aF (λ_ _=>rfl);have L:u1.re u.tape (u.drawn+(u1.drawn-u.drawn))=u1:=by have J:u.drawn+(u1.drawn-u.drawn)=u1.drawn:=by{omega};rw[J,<-j];rfl
   rw[L]at q;obtain⟨tU,y,u3,D3,w,t,s,r⟩:=A m (k.next (E _ _ _ a) q);exact⟨tU,y,u3,D3,w,t,λb C=>s b (g b C),r⟩
def gL {R E l cs}(hs:fr.mode= .run\/fr.defers≠[]\/l≠[]):¬AtEnd P R E fr (l++cs) v:=by
 intro h;have k:∀(m:FrameMode),m≠.run->fr.mode=m->fr.defers=[]->l++cs=[]->False:=λm d j i g=>by obtain x|x|x:=hs;{exact d (j.symm.trans x)};{exact x i};{exact x (List.append_eq_nil_iff.1 g).1}
 obtain⟨a,x,b,_⟩|⟨a,f,c,e,_⟩:=h
 .have:=b v.tape v.drawn;exact k _ (by simp) this.1 this.2.1 a
 .exact k _ (by simp) e f a
end
structure Il (fr:zC)(own:zL):Prop where
 d:fr.defers=[]
 k:fr.kind= .normal
 up:∀g∈own,g.mode= .run/\g.defers=[]/\g.kind= .normal
inductive oZ (P:zZ)(Al:zF)(fr:zC)(own:zL):zH->Prop
 |same {fr1:zC} (hf:fr1.fn=fr.fn) (hd:fr1.defers=fr.defers) (hk:fr1.kind=fr.kind):oZ P Al fr own (G fr1 own)
 |enter {f:zN} (ha:Al f) (xs:zA) (hm:fr.mode= .run) (hz:xs.size<=20):oZ P Al fr own (G (Frame.enter P f xs .normal) (fr::own))
 |back {g g1:zC} {rest:zL} (ho:own=g::rest) (hf:g1.fn=g.fn) (hd:g1.defers=g.defers) (hk:g1.kind=g.kind):oZ P Al fr own (G g1 rest)
section
variable {P:zZ}{Al:zF}{F:Kp}{fr:zC}{own:zL}{w:zW}{mn:Bool}
def oV (fr:zC)(v):(fr.finish v).fn=fr.fn/\(fr.finish v).defers=fr.defers/\(fr.finish v).kind=fr.kind:=by unfold Frame.finish;split<;>exact⟨rfl,rfl,rfl⟩
def EZ (fr:zC)(c):(fr.raise c).fn=fr.fn/\(fr.raise c).defers=fr.defers/\(fr.raise c).kind=fr.kind:=by unfold Frame.raise;split<;>exact⟨rfl,rfl,rfl⟩
def qV (f)(xs):(Frame.enter P f xs .normal).defers=[]/\(Frame.enter P f xs .normal).kind= .normal/\(Frame.enter P f xs .normal).fn=f:=by
 cases P.funcs[f]? with
 |none=>exact⟨rfl,rfl,rfl⟩
 |some fn=>cases fn.body<;>exact⟨rfl,rfl,rfl⟩
def QK {D:zP}(q:bQ P Al K0 (cG D) w w)(r:(match fr.todo with| .call _ aF _ _::_=>CallKind.wrapped|_=> .normal)= .normal)(v:fr.mode= .run){s:Sem Next}(hs:bO P Al K0 (pB Al) (cG D) s s):
  (∃o u j,stepG.apply P aF fr own aB s w= .ended o u j)\/∃l w1 j,stepG.apply P aF fr own aB s w= .go l w1 j/\oZ P Al fr own l:=by
 obtain(⟨hl,u,i,e,c⟩|⟨⟨n,t,_⟩,_⟩)|⟨z,v1,w1,i,d,_,_,_,⟨a,b,e,_,g⟩|⟨x,A,e,_,_⟩⟩:=hs.runT w w #[] #[] q
 .exact aH (oY e c)
 .cases t
 .right;unfold stepG.apply;simp only[zCp];rw[e];cases g with
  |value h=>have:=oV fr;exact⟨_,_,_,rfl,.same (this _).1 (this _).2.1 (this _).2.2⟩
  |skip=>have:=oV fr;exact⟨_,_,_,rfl,.same (this _).1 (this _).2.1 (this _).2.2⟩
  | @enter f c xs m B p=>
   have y:∀k:CallKind,k= .normal->oZ P Al fr own (G (Frame.enter P f xs k) (fr::own)):=by rintro _ rfl;exact .enter c _ v p
   exact⟨_,_,_,rfl,y _ r⟩
 .right;unfold stepG.apply;simp only[zCp];rw[e];have:=EZ fr;exact⟨_,_,_,rfl,.same (this _).1 (this _).2.1 (this _).2.2⟩
def WM (B:cD P Al K0)(L:∀f,¬Al (900000+f)){D}(A:bQ P Al K0 (cG D) w w)(E:cK P Al K0 (cG D) fr fr)(C:fr.mode= .run)(hs:oC Al fr):
  (∃o u g,stepG P mn (G fr own) w= .ended o u g)\/∃r w1 g,stepG P mn (G fr own) w= .go r w1 g/\oZ P Al fr own r:=by
 have z:=A.ok;have n:=λx K=>E.eval z x K;obtain⟨fn,tmps,todo,defers,mode,kind,round⟩:=fr;obtain⟨V,U,T,S,H,R,Q,O,N,q,M⟩:=E;dsimp only at H q C;subst C;subst q;show(∃o u g,stepG.exec P mn aF ⟨fn,tmps,todo,defers,.run,kind,aB⟩ own aB w= .ended o u g)\/∃r w1 g,stepG.exec P mn aF ⟨fn,tmps,todo,defers,.run,kind,aB⟩ own aB w= .go r w1 g/\oZ P Al ⟨fn,tmps,todo,defers,.run,kind,aB⟩ own r;cases todo with
 |nil=>exact aI ⟨_,_,_,rfl,.same rfl rfl rfl⟩
 |cons i k=>
  have hi:=H i zBl;cases i with
  |code c=>
   cases c with
   |cond c a b=>
    have v:=n c hi.1;unfold stepG.exec;dsimp only;generalize Frame.eval _ c=x at v⊢;obtain⟨y,v⟩:∃y,bE Al (cG D) x y:=⟨_,v⟩;cases v with
    |bool t=>exact aI ⟨_,_,_,rfl,.same rfl rfl rfl⟩
    |_=>exact aH ⟨_,_,_,rfl⟩
   |exit id=>
    unfold stepG.exec;dsimp only;cases he:exitTo id k with
    |none=>exact aH ⟨_,_,_,rfl⟩
    |some J=>exact aI ⟨_,_,_,rfl,.same rfl rfl rfl⟩
   |goto l=>
    unfold stepG.exec;dsimp only;cases he:gotoIn l k with
    |none=>exact aH ⟨_,_,_,rfl⟩
    |some J=>exact aI ⟨_,_,_,rfl,.same rfl rfl rfl⟩
   |rangeFunc f p a b=>exact hi.elim
   |refuse I=>exact aH ⟨_,_,_,rfl⟩
   |region id ops draw=>
    cases draw with
    |false=>exact aI ⟨_,_,_,rfl,.same rfl rfl rfl⟩
    |true=>exact aI ⟨_,_,_,rfl,.same rfl rfl rfl⟩
   |_=>exact aI ⟨_,_,_,rfl,.same rfl rfl rfl⟩
  |inBlock id=>exact aI ⟨_,_,_,rfl,.same rfl rfl rfl⟩
  |inScope b=>exact aI ⟨_,_,_,rfl,.same rfl rfl rfl⟩
  |inLoop b=>exact aI ⟨_,_,_,rfl,.same rfl rfl rfl⟩
  |inRegion ops l=>
   cases l with
   |nil=>exact aI ⟨_,_,_,rfl,.same rfl rfl rfl⟩
   |cons j rest=>
    cases d:ops[j]? with
    |none=>
     have s:stepG.exec P mn aF ⟨fn,tmps,aN ops (j::rest)::k,defers,.run,kind,aB⟩ own aB w= .go (G (Frame.finish ⟨fn,tmps,aN ops (j::rest)::k,defers,.run,kind,aB⟩ aEh) own) w:=by unfold stepG.exec;simp only[d,Option.map_none,Option.getD_none,zBa,zCz];rfl
     rw[s];exact aI ⟨_,_,_,rfl,.same rfl rfl rfl⟩
    |some o=>
     by_cases e:Region.wanted o (yielded ops tmps)=aF
     .have s:stepG.exec P mn aF ⟨fn,tmps,aN ops (j::rest)::k,defers,.run,kind,aB⟩ own aB w=stepG.apply P aF ⟨fn,tmps,aN ops (j::rest)::k,defers,.run,kind,aB⟩ own aB (aD7 (Frame.eval ⟨fn,tmps,aN ops (j::rest)::k,defers,.run,kind,aB⟩) o) w:=by
       unfold stepG.exec;simp only[d,zBf,zCy,e,zCp];unfold stepG.oper;simp only[Frame.oper?,d]
      rw[s];have m:=hi o (zBg d);exact QK A rfl rfl (BG B.met m (λ_ _ _ _ _ _=>aH (aI λ_ h=>h)) (hs rfl _ _ _ _ _ rfl d e) (m.nd L) n)
     .have s:stepG.exec P mn aF ⟨fn,tmps,aN ops (j::rest)::k,defers,.run,kind,aB⟩ own aB w= .go (G (Frame.finish ⟨fn,tmps,aN ops (j::rest)::k,defers,.run,kind,aB⟩ aEh) own) w:=by
       unfold stepG.exec;simp only[d,zBf,zCy,e,zBa,zCz];rfl
      rw[s];exact aI ⟨_,_,_,rfl,.same rfl rfl rfl⟩
  |_=>exact hi.elim
def MV (j:Il fr own)(hi:∀i∈fr.todo,kO P Al F i)(s:fr.mode≠.run)(q:own≠[]):
  (∃o u m,stepG P mn (G fr own) w= .ended o u m)\/∃p w1 m,stepG P mn (G fr own) w= .go p w1 m/\oZ P Al fr own p:=by
 obtain⟨g,rest,rfl⟩:∃g rest,own=g::rest:=by
  cases own with
  |nil=>exact absurd rfl q
  |cons g rest=>exact⟨g,rest,rfl⟩
 have l:=lE hi;have f:=oV g;have b:=EZ g;have ret:∀(y:zY)(w1:zW),doReturn P mn fr (g::rest) aB y w1= .go (G (g.finish y) rest) w1:=λy w1=>by unfold doReturn;rw[j.k];rfl
 cases h:fr.mode with
 |run=>exact absurd h s
 |panicking chain=>
  have e:stepG P mn (G fr (g::rest)) w= .go (G (g.raise chain) rest) w:=by simp only[stepG,G,h,unwind,j.d,l,zBa,zCz]
  exact aI ⟨_,_,_,e,.back rfl (b _).1 (b _).2.1 (b _).2.2⟩
 |returning=>
  have n:stepG P mn (G fr (g::rest)) w=unwind P mn fr (g::rest) aB w:=by{simp only[stepG,G,h]};cases c:P.funcs[fr.fn]? with
  |none=>
   have e:stepG P mn (G fr (g::rest)) w= .go (G (g.finish (fr.tmps.getD 0 aEh)) rest) w:=by rw[n];simp only[unwind,j.d,h,c,ret]
   exact aI ⟨_,_,_,e,.back rfl (f _).1 (f _).2.1 (f _).2.2⟩
  |some fn=>
   cases a:(results fn fr.tmps).runT P w #[]with
   |mk r m=>
    cases r with
    |ok y w1=>
     have e:stepG P mn (G fr (g::rest)) w= .go (G (g.finish y) rest) w1 (seen P fr.fn m++ #[]):=by rw[n];unfold unwind;rw[j.d];rw[h];dsimp only;rw[c];dsimp only;rw[a];dsimp only;rw[ret];rfl
     exact aI ⟨_,_,_,e,.back rfl (f _).1 (f _).2.1 (f _).2.2⟩
    |halt hl w1=>left;rw[n];unfold unwind;rw[j.d];dsimp only;rw[h];dsimp only;rw[c];dsimp only;rw[a];dsimp only;cases hl<;>exact⟨_,_,_,rfl⟩
def DU (B:cD P Al K0)(m:∀f,¬Al (900000+f)){D}(c:Closed P Al D fr own w)(l:Il fr own)(a:fr.mode= .run\/fr.defers≠[]\/own≠[]){b w1 es}(hs:stepG P mn (G fr own) w= .go b w1 es):oZ P Al fr own b:=by
 have k:(∃o u es,stepG P mn (G fr own) w= .ended o u es)\/∃b w1 es,stepG P mn (G fr own) w= .go b w1 es/\oZ P Al fr own b:=by
  by_cases i:fr.mode= .run;{exact WM B m c.world c.frame i (jJ c.nj.2)}
  .obtain x|x|x:=a
   .exact absurd x i
   .exact absurd l.d x
   .exact MV l c.frame.items i x
 obtain⟨o,u,j,e⟩|⟨g,n,j,e,h⟩:=k
 .rw[hs]at e;cases e
 .rw[hs]at e;cases e;exact h
def oZ.ab {fr1 own1}(a:Il fr own)(h:oZ P Al fr own (G fr1 own1)):Il fr1 own1:=by
 generalize c:G fr1 own1=g at h;cases h with
 | @same m l e hk=>cases c;exact⟨e.trans a.d,hk.trans a.k,a.up⟩
 | @enter f o xs hm n=>cases c;have:=qV (P:=P) f xs;refine⟨this.1,this.2.1,λx b=> ?_⟩;obtain rfl|b:=zAg.1 b;{exact⟨hm,a.d,a.k⟩};{exact a.up x b}
 | @back g g1 rest j l e hk=>cases c;subst j;have i:=a.up g (by simp);exact⟨e.trans i.2.1,hk.trans i.2.2,λx b=>a.up x (zBm _ b)⟩
def oZ.fns {fr1 own1}{p:zF}(d:∀x∈fr::own,p x.fn)(h:oZ P Al fr own (G fr1 own1)):(∀x∈fr1::own1,p x.fn)\/∃f b,Al f/\¬p f/\fr1=Frame.enter P f b .normal/\own1=fr::own/\fr.mode= .run/\b.size<=20:=by
 generalize e:G fr1 own1=g at h;cases h with
 | @same n i l hk=>cases e;left;intro x a;obtain rfl|a:=zAg.1 a;{rw[i];exact d fr (by simp)};{exact d x (zBm _ a)}
 | @enter f m b hm j=>
  cases e;by_cases c:p f
  .left;intro x a;obtain rfl|a:=zAg.1 a
   .rw[(qV f b).2.2];exact c
   .exact d x a
  .exact aI ⟨f,b,m,c,rfl,rfl,hm,j⟩
 | @back g g1 rest k i l hk=>cases e;subst k;left;intro x a;obtain rfl|a:=zAg.1 a;{rw[i];exact d g (by simp)};{exact d x (zBm _ (zBm _ a))}
end
section
variable {P:zZ}{Al:zF}{F:Kp}{π:Rn}{cs' own own':zL}{v w:zW}{fs:Array Func}
def vR (P:zZ)(fs:Array Func)(Al:zF)(n:Nat)(s s':GStep):Prop:=
 (s'=s/\∀g w1 e,s= .go g w1 e->g.callers.length=n+1->fs[g.frame.fn]? =P.funcs[g.frame.fn]?)\/∃f x k callers w1 e,Al f/\x.size<=20/\(k= .normal\/Al (900000+f))/\callers.length=n+1/\s= .go {frame:=Frame.enter P f x k,callers,status:= .running,dying:=aB} w1 e/\s'= .go {frame:=Frame.enter ⟨P.toTables,fs⟩ f x k,callers,status:= .running,dying:=aB} w1 e/\fs[f]?≠P.funcs[f]?
def bN {n g0 w0 a}(h:g0.callers.length≠n+1):vR P fs Al n (.go g0 w0 a) (.go g0 w0 a):=aH ⟨rfl,λg w1 b e hl=>by cases e;exact absurd hl h⟩
def VT {n f x k C w0 a}(d:Al f)(b:x.size<=20)(c:k= .normal\/Al (900000+f))(hl:C.length=n+1):vR P fs Al n (.go {frame:=Frame.enter P f x k,callers:=C,status:= .running,dying:=aB} w0 a) (.go {frame:=Frame.enter ⟨P.toTables,fs⟩ f x k,callers:=C,status:= .running,dying:=aB} w0 a):=by
 by_cases e:fs[f]? =P.funcs[f]?
 .rw[Nn e];exact aH ⟨rfl,λg w1 i h _=>by cases h;exact e⟩
 .exact aI ⟨f,x,k,C,w0,a,d,b,c,hl,rfl,rfl,e⟩
def Gp (M:Met P Al F){f0 f}(d:Al f0){cs x xs w w1 es b}(h:(invoke (.fn (.func f0) cs) x).runT P w es=(.ok (.enter f xs) w1,b)):f=f0:=by
 have e:invoke (.fn (.func f0) cs) x=callFunc f0 (x++cs):=by rfl
 rw[e]at h;have h:(match P.funcs[f0]? with
  |none=>stuck "call: no such function"
  |some fn=>if fn.name== "runtime.NumGoroutine" then pure .numGoroutine
   else if fn.body.isNone then do
    mark (.extern f0)
    if let aA e:=Extern.findNext fn then return<-e (x++cs)
    match Extern.find fn with
    |some e=>pure (.value (<-e (x++cs)))
    |none=>if fn.name.endsWith ".init"&& !fn.name.startsWith "("&& !fn.name.startsWith "gosem." then pure (.value (.tuple #[]))else unsupported (.extern fn.name)
   else pure (.enter f0 (x++cs)):Sem Next).runT P w es=(.ok (.enter f xs) w1,b):=h
 cases a:P.funcs[f0]? with
 |none=>rw[a]at h;cases h
 |some fn=>
  rw[a]at h;dsimp only at h;have m:=zDr (M.name f0 fn d a);rw[m]at h;simp only[zBa,zCz]at h;cases hb:fn.body with
  |some c=>rw[hb]at h;simp only[Option.isNone_some,zBa,zCz]at h;cases h;rfl
  |none=>
   exfalso;obtain⟨j,ex,i,_⟩:=M.lZ f0 fn d a hb;rw[hb,j,i]at h;simp only[Option.isNone_none,zCp]at h;have h:(do
    mark (.extern f0)
    let y<-ex (x++cs)
    pure (aEi y):Sem Next).runT P w es=(.ok (.enter f xs) w1,b):=h
   cases g:(do
    mark (.extern f0)
    ex (x++cs):Sem zY).runT P w es with
   |mk r k=>
    have l:(do
     mark (.extern f0)
     let y<-ex (x++cs)
     pure (aEi y):Sem Next)=(do
     let y<-(do
      mark (.extern f0)
      ex (x++cs):Sem zY)
     pure (aEi y):Sem Next):=by simp
    rw[l,bD,g]at h;cases r with
    |ok y u=>cases h
    |halt n u=>cases h
def PH (c:Shape P fs)(i:F.rS=aB)(o:bQ P Al F π v w){fr':zC}{C:zL}(t:(match fr'.todo with| .call _ aF _ _::_=>CallKind.wrapped|_=> .normal)= .normal){s s':Sem Next}(hs:bO P Al F (IH Al) π s s'):
  (∃hl u g,s.runT P v #[]=(.halt hl u,g)/\Fatal hl)\/vR P fs Al C.length (stepG.apply P aF fr' C aB s' w) (stepG.apply ⟨P.toTables,fs⟩ aF fr' C aB s' w):=by
 obtain h|hb:=hs.blind c i v w #[] #[] o
 .exact aH h
 obtain(⟨hl,q,g,e,j⟩|⟨k,_⟩)|⟨A,v1,w1,g,d,h1,J,I,z⟩:=hs.runT v w #[] #[] o
 .exact aH ⟨hl,q,g,e,j⟩
 .exact absurd k (sO i _)
 .right;obtain⟨a,b,r1,r2,m⟩|⟨x,B,r1,r2,D⟩:=z
  .unfold stepG.apply;simp only[zCp];rw[hb,r2];cases m with
   |value E=>simp only[eD c];exact bN (by simp[G])
   |skip=>simp only[eD c];exact bN (by simp[G])
   | @enter f l p n y r=>simp only[eD c];exact VT l (by rw[y.size];exact r) (aH t) (by simp)
   |defer H=>simp only[eD c];exact bN (by simp[G])
  .unfold stepG.apply;simp only[zCp];rw[hb,r2];simp only[eD c];exact bN (by simp[G])
def UL {cs:zL}(B:cD P Al F)(N:Shape P fs)(D:F.rS=aB)(U:bQ P Al F π v w){fr fr':zC}(W:cK P Al F π fr fr')(V:fr.mode= .run)(T C:Bool)(hq:rF P F fr:=by first|assumption|exact xU (λ_ h=>h))(hs:oC Al fr:=by first|assumption|exact jJ (by assumption)):
  (∃o u Q,stepG P T (G fr cs) v= .ended o u Q)\/vR P fs Al cs'.length (stepG P C (G fr' cs') w) (stepG ⟨P.toTables,fs⟩ C (G fr' cs') w):=by
 have M:=U.ok;have H:=λx hx=>W.eval M x hx;obtain⟨fn,tmps,todo,defers,mode,kind,round⟩:=fr;obtain⟨q,z,y,n,K,g,pI⟩:=fr';obtain⟨h1,h2,h3,h4,Z,h6,Y,X,h9,J,I⟩:=W;dsimp only at h1 h2 h3 h4 Z h6 Y X h9 J I V;subst h1;subst h4;subst X;subst J;subst I;subst V;cases Y;show(∃o u Q,stepG.exec P T aF ⟨q,tmps,y,defers,.run,g,aB⟩ cs aB v= .ended o u Q)\/vR P fs Al cs'.length (stepG.exec P C aF ⟨q,z,y,n,.run,g,aB⟩ cs' aB w) (stepG.exec ⟨P.toTables,fs⟩ C aF ⟨q,z,y,n,.run,g,aB⟩ cs' aB w);cases y with
 |nil=>exact aI (bN (by simp[G]))
 |cons i k=>
  have hi:=Z i zBl;cases i with
  |code c=>
   cases c with
   |cond c a b=>
    have O:=H c hi.1;unfold stepG.exec;dsimp only;generalize Frame.eval _ c=x at O⊢;generalize Frame.eval _ c=x' at O⊢;cases O with
    |bool t=>exact aI (bN (by simp[G]))
    |_=>exact aH ⟨_,_,_,rfl⟩
   |exit id=>
    unfold stepG.exec;dsimp only;cases he:exitTo id k with
    |none=>exact aH ⟨_,_,_,rfl⟩
    |some k'=>exact aI (bN (by simp[G]))
   |goto l=>
    unfold stepG.exec;dsimp only;cases he:gotoIn l k with
    |none=>exact aH ⟨_,_,_,rfl⟩
    |some k'=>exact aI (bN (by simp[G]))
   |rangeFunc f p a b=>exact hi.elim
   |refuse zu=>exact aH ⟨_,_,_,rfl⟩
   |region id ops draw=>
    cases draw with
    |false=>exact aI (bN (by simp[G]))
    |true=>exact aI (bN (by simp[G]))
   |_=>exact aI (bN (by simp[G]))
  |inBlock id=>exact aI (bN (by simp[G]))
  |inScope b=>exact aI (bN (by simp[G]))
  |inLoop b=>exact aI (bN (by simp[G]))
  |inRegion ops l=>
   cases l with
   |nil=>exact aI (bN (by simp[G]))
   |cons j rest=>
    have S:∀(p:zZ)(u:zW)(c:zL)(t:zA)(d:List Deferred)(m:Bool),stepG.exec p m aF ⟨q,t,aN ops (j::rest)::k,d,.run,g,aB⟩ c aB u=
      if(((ops[j]?).map (Region.wanted · (yielded ops t))).getD aG)=aF then stepG.oper p aF ⟨q,t,aN ops (j::rest)::k,d,.run,g,aB⟩ c aB u
      else .go (G (Frame.finish ⟨q,t,aN ops (j::rest)::k,d,.run,g,aB⟩ aEh) c) u:=λp u c t d m=>rfl
    rw[S,S,S];have ey:=funext (oI h3 ops);rw[ey];split
    .rename_i L;cases A:ops[j]? with
     |none=>left;simp[stepG.oper,Frame.oper?,A]
     |some o=>
      have R:∀(p:zZ)(u:zW)(c:zL)(t:zA)(d:List Deferred),stepG.oper p aF ⟨q,t,aN ops (j::rest)::k,d,.run,g,aB⟩ c aB u=
        stepG.apply p aF ⟨q,t,aN ops (j::rest)::k,d,.run,g,aB⟩ c aB (aD7 (Frame.eval ⟨q,t,aN ops (j::rest)::k,d,.run,g,aB⟩) o) u:=λp u c t d=>by
       unfold stepG.oper
       simp only[Frame.oper?,A]
      rw[R,R,R];obtain⟨hl,u,jv,e,E⟩|h:=PH (fr':=⟨q,z,aN ops (j::rest)::k,n,.run,g,aB⟩) N D U rfl (EI B.met (hi o (zBg A)) (hq rfl _ _ _ _ _ rfl A) (hs rfl _ _ _ _ _ rfl A (by simpa [A]using L)) H);{exact aH (oY e E)};{exact aI h}
    .exact aI (bN (by simp[G]))
  |inRangeFunc l=>exact hi.elim
  |endRangeFunc l=>exact hi.elim
  |beginRound=>exact hi.elim
  |call d b r s=>exact hi.elim
  |extern r a=>exact hi.elim
def uE {cs}(B:cD P Al F)(h:Shape P fs)(i:F.rS=aB)(s:bQ P Al F π v w){fr fr'}(W:cK P Al F π fr fr'){d J}(A:IQ Al π d J)(hl:∀f cs q,d=⟨.fn (.func f) cs,q⟩->Al (900000+f)):
  (∃o u X,callDeferred P fr cs aB d v= .ended o u X)\/vR P fs Al cs'.length (callDeferred P fr' cs' aB J w) (callDeferred ⟨P.toTables,fs⟩ fr' cs' aB J w):=by
 have V:=s.ok;have g:=EE B.met A;cases A;case fn f0 z xs T S E Z C U=>
  unfold callDeferred
  simp only[Bool.false_and,zBa,↓reduceIte]
  obtain⟨hl,u,j,e,c⟩|hb:=g.blind h i v w #[] #[] s
  .left;rw[e];obtain⟨l,rfl⟩|⟨u,rfl,hu⟩:=c
   .exact⟨_,_,_,rfl⟩
   .exact⟨_,_,_,rfl⟩
  .obtain(⟨hl,u,j,e,c⟩|⟨n,_⟩)|⟨K,v1,w1,j,R,h1,Q,O,D⟩:=g.runT v w #[] #[] s
   .left;rw[e];obtain⟨l,rfl⟩|⟨u,rfl,hu⟩:=c
    .exact⟨_,_,_,rfl⟩
    .exact⟨_,_,_,rfl⟩
   .exact absurd n (sO i _)
   .right;obtain⟨a,b,r1,r2,p⟩|⟨x,L,r1,r2,M⟩:=D
    .rw[hb,r2];cases p with
     |value N=>simp only[eD h];exact bN (by simp[G])
     |skip=>simp only[eD h];exact bN (by simp[G])
     | @enter f t q r C H=>simp only[eD h];exact VT t (by rw[C.size];exact H) (aI (by have:=Gp B.met z r2;rw[this];exact hl _ _ _ rfl)) (by simp)
     |defer A=>simp only[eD h];exact bN (by simp[G])
    .rw[hb,r2];simp only[eD h];exact bN (by simp[G])
 case nil S E C=>
  have k:=W.mode
  generalize I:fr.mode=m at k
  generalize y:fr'.mode=Y at k
  unfold callDeferred
  rw[I,y]
  cases k
  case run=>
   simp only[Bool.and_false,zBa,↓reduceIte]
   obtain⟨hl,u,j,e,c⟩|hb:=g.blind h i v w #[] #[] s
   .left;rw[e];obtain⟨l,rfl⟩|⟨u,rfl,hu⟩:=c
    .exact⟨_,_,_,rfl⟩
    .exact⟨_,_,_,rfl⟩
   .obtain(⟨hl,u,j,e,c⟩|⟨n,_⟩)|⟨K,v1,w1,j,R,h1,Q,O,D⟩:=g.runT v w #[] #[] s
    .left;rw[e];obtain⟨l,rfl⟩|⟨u,rfl,hu⟩:=c
     .exact⟨_,_,_,rfl⟩
     .exact⟨_,_,_,rfl⟩
    .exact absurd n (sO i _)
    .right;obtain⟨a,b,r1,r2,p⟩|⟨x,L,r1,r2,M⟩:=D
     .rw[hb,r2];cases p with
      |value N=>simp only[eD h];exact bN (by simp[G])
      |skip=>simp only[eD h];exact bN (by simp[G])
      | @enter f t q r C H=>simp only[eD h];cases r2
      |defer A=>simp only[eD h];exact bN (by simp[G])
     .rw[hb,r2];simp only[eD h];exact bN (by simp[G])
  case returning=>
   simp only[Bool.and_false,zBa,↓reduceIte]
   obtain⟨hl,u,j,e,c⟩|hb:=g.blind h i v w #[] #[] s
   .left;rw[e];obtain⟨l,rfl⟩|⟨u,rfl,hu⟩:=c
    .exact⟨_,_,_,rfl⟩
    .exact⟨_,_,_,rfl⟩
   .obtain(⟨hl,u,j,e,c⟩|⟨n,_⟩)|⟨K,v1,w1,j,R,h1,Q,O,D⟩:=g.runT v w #[] #[] s
    .left;rw[e];obtain⟨l,rfl⟩|⟨u,rfl,hu⟩:=c
     .exact⟨_,_,_,rfl⟩
     .exact⟨_,_,_,rfl⟩
    .exact absurd n (sO i _)
    .right;obtain⟨a,b,r1,r2,p⟩|⟨x,L,r1,r2,M⟩:=D
     .rw[hb,r2];cases p with
      |value N=>simp only[eD h];exact bN (by simp[G])
      |skip=>simp only[eD h];exact bN (by simp[G])
      | @enter f t q r C H=>simp only[eD h];cases r2
      |defer A=>simp only[eD h];exact bN (by simp[G])
     .rw[hb,r2];simp only[eD h];exact bN (by simp[G])
  case panicking=>exact aH ⟨_,_,_,rfl⟩
def oK {cs:zL}(B:cD P Al F)(z:Shape P fs)(q:F.rS=aB)(K:bQ P Al F π v w){fr fr':zC}(j:cK P Al F π fr fr')(n:(fs[fr.fn]?).map (·.results)=(P.funcs[fr.fn]?).map (·.results))(ho:fZ (cK P Al F π) own own')
  (D:fr.mode= .run\/fr.defers≠[]\/own≠[]) (S s:Bool) (hq:rF P F fr:=by first|assumption|exact xU (λ_ h=>h)) (hs:oC Al fr:=by first|assumption|exact jJ (by assumption)):
  (∃o u es,stepG P S (G fr (own++cs)) v= .ended o u es)\/vR P fs Al (own'++cs').length (stepG P s (G fr' (own'++cs')) w) (stepG ⟨P.toTables,fs⟩ s (G fr' (own'++cs')) w):=by
 by_cases H:fr.mode= .run
 .exact UL B z q K j H S s hq hs
 .have hs:=D.resolve_left H;have X:=K.ok;have g:=j.mode;have aA0:fr'.mode≠.run:=λe=>by rw[e]at g;generalize fr.mode=m at g H;cases g;exact H rfl
  have e1:stepG P S (G fr (own++cs)) v=unwind P S fr (own++cs) aB v:=by simp only[stepG,G]
  have Q:∀p:zZ,stepG p s (G fr' (own'++cs')) w=unwind p s fr' (own'++cs') aB w:=λp=>by simp only[stepG,G]
  rw[e1,Q,Q];have Z:=j.defers;unfold unwind;generalize hdv:fr.defers=l at Z hs;generalize hdw:fr'.defers=l' at Z;cases Z with
  | @cons d d' ds ds' I T=>
   have Y:cK P Al F π {fr with defers:=ds} {fr' with defers:=ds'}:=⟨j.fn,j.al,j.tmps,j.todo,j.items,T,j.mode,j.kind,j.kinds,j.round,j.pI⟩;have:=uE (cs:=own++cs) (cs':=own'++cs') B z q K Y I.rel (λf cs JS e=>by obtain⟨f2,cs2,as2,Q,T⟩:=I.lets;rw[e]at Q;cases Q;exact T)
   obtain⟨I,_⟩:=I;cases I with
   |fn hfa hc ha=>exact this
   |nil ha=>exact this
  |nil=>
   cases ho with
   |nil=>obtain h|h:=hs<;>exact absurd rfl h
   | @cons c c' R J hc ho=>
    generalize hfm:fr.mode=m at g H;generalize aBs:fr'.mode=m' at g;cases g with
    |run=>exact absurd rfl H
    |panicking hl=>
     right;dsimp only;have M:∀i∈fr'.todo,kO P Al F i:=by rw[j.todo];exact j.items
     rw[lE M];have:fr'.catches ⟨P.toTables,fs⟩=aG:=by unfold Frame.catches;split;{rename_i ht;have hh:=(λi k (e:fr'.todo=i::k)=>M i (by rw[e];exact zBl)) _ _ ht;exact False.elim hh};{rfl}
     rw[this];exact bN (by simp;omega)
    |returning=>
     dsimp only;rw[j.fn];cases C:P.funcs[fr.fn]? with
     |none=>
      rw[C]at n;cases r:fs[fr.fn]? with
      |some y=>rw[r]at n;cases n
      |none=>right;dsimp only;unfold doReturn;rw[j.kind];obtain e|e:=j.kinds<;>rw[e]<;>exact bN (by simp;omega)
     |some fn=>
      rw[C]at n;cases r:fs[fr.fn]? with
      |none=>rw[r]at n;cases n
      |some N=>
      rw[r]at n;have L:N.results=fn.results:=by{simpa using n};have E:∀V,results N V=results fn V:=λV=>by{unfold results;rw[L]};dsimp only;rw[E];have A:=gY (F:=F) fn (ok:=X) j.tmps;obtain⟨hl,u,O,e,t⟩|hb:=A.blind z q v w #[] #[] K
      .left;rw[e];obtain⟨U,rfl⟩|⟨u,rfl,hu⟩:=t
       .exact⟨_,_,_,rfl⟩
       .exact⟨_,_,_,rfl⟩
      .obtain(⟨hl,u,O,e,t⟩|⟨W,_⟩)|⟨ρ,v1,w1,O,dd,I,T,h3,h4⟩:=A.runT v w #[] #[] K
       .left;rw[e];obtain⟨U,rfl⟩|⟨u,rfl,hu⟩:=t
        .exact⟨_,_,_,rfl⟩
        .exact⟨_,_,_,rfl⟩
       .exact absurd W (sO q _)
       .obtain⟨a,b,r1,r2,Zi⟩|⟨x,x',r1,r2,hx⟩:=h4
        .right;rw[hb,r2];simp only[eD z];unfold doReturn;rw[j.kind];obtain e|e:=j.kinds<;>rw[e]<;>exact bN (by simp;omega)
        .left;rw[r1];exact⟨_,_,_,rfl⟩
end
def VY (o:Option Obj):Prop:=∃x,o=aA (aJ #[.bool x] 4 (0,0))
structure oD (v u:zW):Prop where
 size:v.heap.size<=u.heap.size
 old:∀b,b<v.heap.size->u.heap[b]? =v.heap[b]?
 new:∀b,v.heap.size<=b->b<u.heap.size->VY u.heap[b]?
def oD.refl {v}:oD v v:=⟨zAb _,λ_ _=>rfl,λb a h=>absurd h (zEy.2 a)⟩
def oD.trans {v u t:zW}(h:oD v u)(k:oD u t):oD v t:=
 ⟨zBc h.size k.size,λb a=>(k.old b (zAd a h.size)).trans (h.old b a),λb d c=>by
  obtain x|x:=zDf b u.heap.size;{rw[k.old b x];exact h.new b d x}
  .exact k.new b x c⟩
def oD.re {v u}(h:oD v u)(b a)(d c):oD (v.re b d) (u.re a c):=⟨h.size,h.old,h.new⟩
section
variable {P:zZ}{Al:zF}{f0:zN}{pr:zA->List PanicEntry}{own:zL}{v:zW}{D:zP}
structure Oz (P:zZ)(Al:zF):Prop where
 run:∀f xs v D,Al f->Al (900000+f)->xs.size<=20->Closed P Al D (Frame.enter P f xs .deferred) [] v->∃τ d,Lone P [bG] (λfr l u=>l=[]/\fr.mode= .returning/\fr.defers=[]/\fr.kind= .deferred/\(∃fn y,P.funcs[fr.fn]? =aA fn/\∀w,(results fn fr.tmps).runT P w #[]=(.ok y w,#[]))/\oD v u) (Frame.enter P f xs .deferred) [] (v.re τ d)
 inv:∀f xs cs w es,Al f->Al (900000+f)->(invoke (.fn (.func f) cs) xs).runT P w es=(.ok (.enter f (xs++cs)) w,es)
def Ends.Ry (hB:∀K:Kp,(∀b,¬K b)->cD P Al K)(hQ:Oz P Al){R E}:∀(n)(own)(fr)(v)(D)(c),(((fr::own).map λg=>g.defers.length+1).sum<=n)->Ends P Al (AtEnd P R E) fr own v->Closed P Al D fr own v->fr.mode= .panicking c->(∃p rest,c=p::rest/\p.recovered=aG)->
  ∃u more,oD v u/\∀q d,E (c++more) (u.re q d):=by
 have Zd:∀b,¬K0 b:=λb h=>h;intro n;induction n with
 |zero=>intro own fr v D c h;simp at h
 |succ n ih=>
  intro own fr v D c hn he Y H t;have W:=lE Y.frame.items;cases M:fr.defers with
  |nil=>
   cases own with
   |nil=>
    cases he with
    |stop h=>obtain⟨_,x,A,_⟩|⟨_,_,c',z,a⟩:=h;{have:=(A v.tape v.drawn).1;rw[H]at this;cases this};{rw[H]at z;cases z;exact⟨v,[],.refl,λq d=>by rw[zAq];exact a q d⟩}
    |step i=>obtain e|e|e:=i;{rw[H]at e;cases e};{exact absurd M e};{exact absurd rfl e}
   |cons g rest=>
    have B:stepG P aF (G fr (g::rest)) (v.re v.tape v.drawn)= .go (G (g.raise c) rest) v #[]:=by rw[gU];simp only[stepG,G,H,unwind,M,W,zBa,zCz]
    have C:Ends P Al (AtEnd P R E) (g.raise c) rest v:=he.next (λx=>by
     obtain x|x:=x;{cases x.1}
     .cases x.1) B
    have J:∃D1,Closed P Al D1 (g.raise c) rest v:=by have A:=gG (cs:=[]) hB Y (aI (aI (by simp))) aF v.tape v.drawn;rw[zAq,B]at A;obtain⟨o,u,L,a⟩|⟨l,lS,v2,L,D2,a,m,_⟩:=A;{cases a};{rw[zAq]at a;have e1:g.raise c=l:=by{injection a with e _ _;exact congrArg Goroutine.frame e};have e2:rest=lS:=by{injection a with e _ _;exact congrArg Goroutine.callers e};have e3:v=v2:=by{injection a};subst e1;subst e2;subst e3;exact⟨D2,m⟩}
    obtain⟨D1,j⟩:=J;have hr:∃c2,(g.raise c).mode= .panicking (c++c2)/\(g.raise c).defers=g.defers:=by
     unfold Frame.raise;cases hgm:g.mode with
     |panicking ch=>exact⟨ch,rfl,rfl⟩
     |_=>exact⟨[],by simp,rfl⟩
    obtain⟨c2,s,I⟩:=hr;obtain⟨u,more,z,a⟩:=ih rest (g.raise c) v D1 (c++c2) (by
     simp only[zDy,List.sum_cons]at hn⊢;rw[I];omega) C j s (by
     obtain⟨p,r,e,t⟩:=t;exact⟨p,r++c2,by rw[e];rfl,t⟩)
    exact⟨u,c2++more,z,λq d=>by rw[<-zBp];exact a q d⟩
  |cons d ds=>
   have V:=Y.frame.defers;rw[M]at V;obtain⟨hrel,f,cs,k,ed,U⟩:IP Al (cG D) d d:=by
    cases V with
    |cons h _=>exact h
   subst ed;obtain⟨X,Z⟩:Al f/\k.size+cs.size<=20:=by
    cases hrel with
    |fn hf _ _ Z=>exact⟨hf,Z⟩
   have B:stepG P aF (G fr own) (v.re v.tape v.drawn)= .go (G (Frame.enter P f (k++cs) .deferred) ({fr with defers:=ds}::own)) v (seen P fr.fn #[]++ #[]):=by rw[gU];have e0:stepG P aF (G fr own) v=unwind P aF fr own aB v:=by{simp only[stepG,G,H]};rw[e0];unfold unwind;rw[M];dsimp only;unfold callDeferred;simp only[Bool.false_and,zBa,↓reduceIte];rw[hQ.inv f k cs v #[] X U];rfl
   have i:fr.mode= .run\/fr.defers≠[]\/own≠[]:=aI (aH (by rw[M];simp));have C:Ends P Al (AtEnd P R E) (Frame.enter P f (k++cs) .deferred) ({fr with defers:=ds}::own) v:=he.next (λx=>by have:=gL (P:=P) (R:=R) (E:=E) (cs:=[]) (v:=v) i;rw[zAq]at this;exact this x) B
   have J:∃D1,Closed P Al D1 (Frame.enter P f (k++cs) .deferred) ({fr with defers:=ds}::own) v:=by have A:=gG (cs:=[]) hB Y i aF v.tape v.drawn;rw[zAq,B]at A;obtain⟨o,u,L,a⟩|⟨l,lS,v2,L,D2,a,m,_⟩:=A;{cases a};{rw[zAq]at a;have e1:Frame.enter P f (k++cs) .deferred=l:=by{injection a with e _ _;exact congrArg Goroutine.frame e};have e2:{fr with defers:=ds}::own=lS:=by{injection a with e _ _;exact congrArg Goroutine.callers e};have e3:v=v2:=by{injection a};subst e1;subst e2;subst e3;exact⟨D2,m⟩}
   obtain⟨D1,j⟩:=J;obtain⟨q,d0,hl⟩:=hQ.run f (k++cs) v D1 X U (by rw[zEp];exact Z) ⟨j.frame,.nil,j.world,j.nj⟩;have qh:Closed P Al D1 (Frame.enter P f (k++cs) .deferred) [] (v.re q d0):=⟨j.frame,.nil,gF j.world Zd q q d0 d0 (λ_ _=>rfl),j.nj⟩;obtain⟨l,l2,u2,D2,⟨e,s,I,S,⟨fn,y,hfn,O⟩,F⟩,m,N,he2⟩:=Lone.through hB (T:=AtEnd P R E) (cs:={fr with defers:=ds}::own) (λ_ _ _ B=>gL B) hl qh (C.re (λ_ _ _ q d h=>h.re q d) q d0);subst e;have og:stepG P aF (G l ({fr with defers:=ds}::own)) (u2.re u2.tape u2.drawn)= .go (G {fr with defers:=ds} own) u2 (seen P l.fn #[]++ #[]):=by rw[gU];have e0:stepG P aF (G l ({fr with defers:=ds}::own)) u2=unwind P aF l ({fr with defers:=ds}::own) aB u2:=by{simp only[stepG,G,s]};rw[e0];unfold unwind;rw[I];dsimp only;rw[s];dsimp only;rw[hfn];dsimp only;rw[O];dsimp only;unfold doReturn;rw[S];dsimp only;rw[H];obtain⟨p,r,e,t⟩:=t;subst e;obtain⟨pv,prec,pg⟩:=p;dsimp only at t;subst t;rfl
   have Q:Ends P Al (AtEnd P R E) {fr with defers:=ds} own u2:=he2.next (λx=>by
    obtain x|x:=x;{cases x.1}
    .cases x.1) og
   have w:∀b b',cG D1 b b'->cG D2 b b':=λb b' h=>⟨h.1,N b h.2⟩;have hc3:Closed P Al D2 {fr with defers:=ds} own u2:=by
    have ho:=j.own;cases ho with
    |cons z a=>exact⟨z.mono w,a.imp λ_ _ h=>h.mono w,m.world,m.nj⟩
   obtain⟨u,more,z,a⟩:=ih own {fr with defers:=ds} u2 D2 c (by simp only[zDy,List.sum_cons,M,zAf]at hn⊢;omega) Q hc3 H t
   exact⟨u,more,F.trans z,a⟩
def Rx (s:∀K:Kp,(∀b,¬K b)->cD P Al K)(A:Oz P Al)(x:∀xs v D,xs.size<=20->Closed P Al D (Frame.enter P f0 xs .normal) [] v->∃a d,Lone P [bG] (λfr l u=>l=[]/\fr.mode= .panicking (pr xs)/\fr.defers=[]/\oD v u) (Frame.enter P f0 xs .normal) [] (v.re a d))
  (k:∀xs,∃p rest,pr xs=p::rest/\p.recovered=aG) {R E xs} (t:xs.size<=20) (g:Closed P Al D (Frame.enter P f0 xs .normal) own v)
  (z:Ends P Al (AtEnd P R E) (Frame.enter P f0 xs .normal) own v):∃u more,oD v u/\∀a d,E (pr xs++more) (u.re a d):=by
 have m:∀b,¬K0 b:=λb h=>h;obtain⟨a,d,hl⟩:=x xs v D t ⟨g.frame,.nil,g.world,g.nj⟩;have o:Closed P Al D (Frame.enter P f0 xs .normal) [] (v.re a d):=⟨g.frame,.nil,gF g.world m a a d d (λ_ _=>rfl),g.nj⟩;obtain⟨q,F,u2,D2,⟨e,y,G,c⟩,f,i,n⟩:=Lone.through s (λ_ _ _ w=>gL w) hl o (z.re (λ_ _ _ a d h=>h.re a d) a d);subst e;have j:∀b r,cG D b r->cG D2 b r:=λb r h=>⟨h.1,i b h.2⟩;obtain⟨u,more,C,B⟩:=Ends.Ry s A _ own q u2 D2 (pr xs) (zAb _) n ⟨f.frame,g.own.imp λ_ _ h=>h.mono j,f.world,f.nj⟩ y (k xs);exact⟨u,more,c.trans C,B⟩
end
end Go.Ren
namespace Go.Proofs
open Go.Ren Go.Conc
def gN (tm:zA)(todo:zI):zC:={fn:=233,tmps:=tm,todo,defers:=[],mode:= .run,kind:= .normal}
def GJ (xs):Frame.enter zq 233 xs .normal=gN (xs++aDZ (43-xs.size) aEh) [.code Qz.rU]:=by unfold Frame.enter;rw[Qz.func233];rfl
section
variable {cs:zL}{S:zS}{tm:zA}{k:zI}{v v1:zW}{ops:zQ}{j:Nat}{rest:List Nat}{o:Oper}
def KQ {P fr u}(c:fr.mode= .run)(a:fr.todo=aN ops (j::rest)::k)(b:fr.roundOf=aB)(h:ops[j]? =aA o)(d:o.guard=aB)(m):stepG P m (G fr cs) u=stepG.apply P aF fr cs aB (aD7 fr.eval o) u:=by
 obtain⟨fn,tmps,todo,defers,mode,kind,round⟩:=fr;dsimp only at c a b;subst c;subst a;subst b;show stepG.exec P m aF ⟨fn,tmps,aN ops (j::rest)::k,defers,.run,kind,aB⟩ cs aB u=_;have f:stepG.exec P m aF ⟨fn,tmps,aN ops (j::rest)::k,defers,.run,kind,aB⟩ cs aB u=
   if(((ops[j]?).map (Region.wanted · (yielded ops tmps))).getD aG)=aF then stepG.oper P aF ⟨fn,tmps,aN ops (j::rest)::k,defers,.run,kind,aB⟩ cs aB u
   else .go (G (Frame.finish ⟨fn,tmps,aN ops (j::rest)::k,defers,.run,kind,aB⟩ aEh) cs) u:=rfl
 have e:Region.wanted o (yielded ops tmps)=aF:=by unfold Region.wanted;rw[d]
 rw[f,h];simp only[zBf,zCy,e,zCp];unfold stepG.oper;simp only[Frame.oper?,h]
def jM (a:ops[j]? =aA o)(g:o.guard=aB){y:zY}{b:zE}(f:(aD7 (gN tm (aN ops (j::rest)::k)).eval o).runT zq v #[]=(.ok (.value y) v1,b)){tm1:zA}(c:tm1=match o.dst with|some d=>tm.setIfInBounds d y|none=>tm)
  (h:Lone zq cs S (gN tm1 (aN ops rest::k)) [] v1):Lone zq cs S (gN tm (aN ops (j::rest)::k)) [] v:=by
 obtain⟨l,e,_⟩:=oX f;refine Lone.step (aH rfl) ((KQ rfl rfl rfl a g aF).trans e) ?_;have i:(gN tm (aN ops (j::rest)::k)).finish y=gN tm1 (aN ops rest::k):=by subst c;unfold Frame.finish gN;simp only[a,zEd];cases o.dst<;>rfl
 rw[i];exact h
def LJ (a:ops[j]? =aA o)(f:o.guard=aB)(g:o.dst=aB){b}(d:(aD7 (gN tm (aN ops (j::rest)::k)).eval o).runT zq v #[]=(.ok .skip v1,b))
  (h:Lone zq cs S (gN tm (aN ops rest::k)) [] v1):Lone zq cs S (gN tm (aN ops (j::rest)::k)) [] v:=by
 have e:∃c,stepG.apply zq aF (gN tm (aN ops (j::rest)::k)) ([]++cs) aB (aD7 (gN tm (aN ops (j::rest)::k)).eval o) v= .go (G ((gN tm (aN ops (j::rest)::k)).finish aEh) ([]++cs)) v1 c:=by unfold stepG.apply;simp only[zCp];rw[d];exact⟨_,rfl⟩
 obtain⟨c,e⟩:=e;refine Lone.step (aH rfl) ((KQ rfl rfl rfl a f aF).trans e) ?_;have i:(gN tm (aN ops (j::rest)::k)).finish aEh=gN tm (aN ops rest::k):=by unfold Frame.finish gN;simp only[a,zEd,g]
 rw[i];exact h
def YP (a:ops[j]? =aA o)(f:o.guard=aB){x b}(d:(aD7 (gN tm (aN ops (j::rest)::k)).eval o).runT zq v #[]=(.halt (.panic x) v1,b))
  (h:S {gN tm (aN ops (j::rest)::k)with mode:= .panicking [{v:=x,recovered:=aG}]} [] v1):Lone zq cs S (gN tm (aN ops (j::rest)::k)) [] v:=by
 have e:∃c,stepG.apply zq aF (gN tm (aN ops (j::rest)::k)) ([]++cs) aB (aD7 (gN tm (aN ops (j::rest)::k)).eval o) v= .go (G {gN tm (aN ops (j::rest)::k)with mode:= .panicking [{v:=x,recovered:=aG}]} ([]++cs)) v1 c:=by unfold stepG.apply;simp only[zCp];rw[d];exact⟨_,rfl⟩
 obtain⟨c,e⟩:=e;exact Lone.step (aH rfl) ((KQ rfl rfl rfl a f aF).trans e) (.stop h)
def mP {todo t:zI}(hs:∀c,stepG zq aF (G (gN tm todo) c) v= .go (G (gN tm t) c) v #[])(h:Lone zq cs S (gN tm t) [] v):Lone zq cs S (gN tm todo) [] v:=
 Lone.step (aH rfl) (hs _) h
end
open Go.Ren Go.Conc Go.RowKit
def gA (tm:zA):zY:= .func (.func 158) #[(tm.getD 2 aEh),(tm.getD 3 aEh),(tm.getD 4 aEh),(tm.getD 5 aEh),(tm.getD 6 aEh),(tm.getD 7 aEh),(tm.getD 8 aEh),(tm.getD 9 aEh),(tm.getD 10 aEh)] #[]
def gB (tm:zA):zY:= .func (.func 158) #[(tm.getD 11 aEh),(tm.getD 12 aEh),(tm.getD 13 aEh),(tm.getD 14 aEh),(tm.getD 15 aEh),(tm.getD 16 aEh),(tm.getD 17 aEh),(tm.getD 18 aEh),(tm.getD 19 aEh)] #[]
def gC (tm:zA):zY:= .func (.func 158) #[(tm.getD 0 aEh),(tm.getD 1 aEh),gA tm,gB tm] #[]
def told (tm:zA):List PanicEntry:=[{v:= .iface 224 (gC tm),recovered:=aG}]
def yT {Q t d}(h:Q.underlying t=aA d)(u)(es):(underlying t).runT Q u es=(.ok d u,es):=by show(match Q.underlying t with|some d=>pure d|none=>stuck "no such type":Sem TypeDesc).runT Q u es=_;rw[h];rfl
def NO {Q t i}(h:Q.info? t=aA i)(u)(es):(typeInfo t).runT Q u es=(.ok i u,es):=by show(match Q.info? t with|some i=>pure i|none=>stuck _:Sem TypeInfo).runT Q u es=_;rw[h];rfl
def NQ {Q e o f xs ys}(h:o.op= .makeFunc (.func f) xs #[])(a:xs.toList.map e=ys.toList)(u)(es):(aD7 e o).runT Q u es=(.ok (.value (.func (.func f) ys #[])) u,es):=by
 have b:xs.map e=ys:=by apply zDx.1;rw[zFx];exact a
 unfold aD7;rw[h];show(Result.ok (aEi (.func (.func f) (xs.map e) ((#[]:Array Operand).map e))) u,es)=_;rw[b];simp
def bV {tm:zA}{i j x}(h:i≠j):(tm.setIfInBounds i x).getD j aEh=tm.getD j aEh:=by rw[zAu,zAu,zAe h]
def aW {tm:zA}{i x}(h:i<tm.size):(tm.setIfInBounds i x).getD i aEh=x:=by rw[zAu,zAm h];rfl
def Wb:∃i,Tryz.prog.info? 4=aA i/\i.zero=aA (.bool aG)/\i.size=1:=⟨_,rfl,rfl,rfl⟩
def Qz.info (t):zq.info? t=Tryz.prog.info? t:=by rw[Qz.gW]
def Qz.Ul:∃i,zq.info? 4=aA i/\i.zero=aA (.bool aG)/\i.size=1:=by rw[Qz.info];exact Wb
def Qo (T:Tables)(fs f)(t):(⟨T,fs⟩:zZ).underlying t=(⟨T,f⟩:zZ).underlying t:=rfl
def Qz.eZ (t):zq.underlying t=Tryz.prog.underlying t:=by exact Qo Tryz.prog.toTables (seven Tryz.prog.funcs) Tryz.prog.funcs t
def boxed (v:zW)(b:Bool):zW:={v with heap:=v.heap.push (aJ #[.bool b] 4)}
section
variable {cs:zL}{S:zS}{v:zW}
def ET (w):(do let x<-Instr.alloc 4 aF (.tuple #[]);pure (aEi x):Sem Next).runT zq w #[]=(.ok (.value (.pointer (aA ⟨w.heap.size,0,aB⟩))) (boxed w aG),#[]):=by obtain⟨i,b,a,h⟩:=Qz.Ul;simp[Instr.alloc,zeroValue,typeInfo,b,a,h,newVar,newRow,boxed,go_sem,Value.cells]
def Qz.gb:zq.underlying 4=aA .bool:=by rw[Qz.eZ];exact Tryz.underlying4
def MG (w)(b)(a)(d):((boxed w b).re a d).heap[w.heap.size]? =aA (aJ #[.bool b] 4):=by show(w.heap.push _)[w.heap.size]? =_;simp
def HU (w)(b)(a)(d):((boxed w b).re a d).cell? ⟨w.heap.size,0,aB⟩=aA (.bool b):=by unfold World.cell?;rw[MG];rfl
def Hx (w)(b c)(a)(d):((boxed w b).re a d).setCell ⟨w.heap.size,0,aB⟩ (.bool c)=(boxed w c).re a d:=by
 unfold World.setCell boxed World.re;congr 1;apply zBx;intro i;by_cases hi:w.heap.size=i
 .subst hi;rw[bW];simp
 .rw[bP _ hi,zBk,zBk,zAt (zDi hi),zAt (zDi hi)]
def Fb (u)(es):(isAgg 4).runT zq u es=(.ok aG u,es):=by unfold isAgg;rw[bD];rw[yT Qz.gb];rfl
def XN (u)(es):(Go.sizeOf 4).runT zq u es=(.ok 1 u,es):=by obtain⟨i,a,b,h⟩:=Qz.Ul;unfold Go.sizeOf;rw[bD];rw[NO a];dsimp only;rw[h];rfl
def RU (w)(b)(a)(d)(es):(do let x<-Instr.loadAt 4 (.pointer (aA ⟨w.heap.size,0,aB⟩));pure (aEi x):Sem Next).runT zq ((boxed w b).re a d) es=(.ok (.value (.bool b)) ((boxed w b).re a d),es.push ⟨.cell ⟨w.heap.size,0,aB⟩,aG,aG⟩):=by
 have e:(Instr.loadAt 4 (.pointer (aA ⟨w.heap.size,0,aB⟩))).runT zq ((boxed w b).re a d) es=(.ok (.bool b) ((boxed w b).re a d),es.push ⟨.cell ⟨w.heap.size,0,aB⟩,aG,aG⟩):=by show(loadVar 4 ⟨w.heap.size,0,aB⟩).runT zq ((boxed w b).re a d) es=_;unfold loadVar;rw[bD,Fb];show(Sem.load .plain ⟨w.heap.size,0,aB⟩ .pure).runT zq ((boxed w b).re a d) es=_;simp only[Sem.runT,HU];rfl
 rw[bD,e];rfl
def KM (w)(b)(a)(d)(es):(do Instr.storeAt 4 (.pointer (aA ⟨w.heap.size,0,aB⟩)) (.bool aF);pure aEj:Sem Next).runT zq ((boxed w b).re a d) es=(.ok .skip ((boxed w aF).re a d),es.push ⟨.cell ⟨w.heap.size,0,aB⟩,aF,aG⟩):=by
 have h:((boxed w b).re a d).frozen? ⟨w.heap.size,0,aB⟩=aG:=by unfold World.frozen?;rw[MG];rfl
 have e:(Instr.storeAt 4 (.pointer (aA ⟨w.heap.size,0,aB⟩)) (.bool aF)).runT zq ((boxed w b).re a d) es=(.ok () ((boxed w aF).re a d),es.push ⟨.cell ⟨w.heap.size,0,aB⟩,aF,aG⟩):=by show(storeVar 4 ⟨w.heap.size,0,aB⟩ (.bool aF)).runT zq ((boxed w b).re a d) es=_;unfold storeVar;rw[bD,XN];show(Sem.store .plain ⟨w.heap.size,0,aB⟩ (.bool aF) (.pure ())).runT zq ((boxed w b).re a d) es=_;simp only[Sem.runT,HU,h,zBa,zCz,Hx];rfl
 rw[bD,e];rfl
def Km (x)(u)(es):(do let y<-Instr.makeInterface 224 x;pure (aEi y):Sem Next).runT zq u es=(.ok (.value (.iface 224 x)) u,es):=by
 have e:(Instr.makeInterface 224 x).runT zq u es=(.ok (.iface 224 x) u,es):=by unfold Instr.makeInterface;rw[bD];rw[yT ((Qz.eZ 224).trans underlying224)];rfl
 rw[bD,e];rfl
def KL (ops:zQ)(m:Bool)(n:Nat)(b:ops.size=2:=by kernel_rfl)(g:Region.departs ops=aG:=by kernel_rfl)(f:((List.range ops.size).filter λi=> !(#[aG,aG]:Array Bool).getD i aF&&((ops[i]?).map (·.after.all λe=> !Region.binds .any e||(#[aG,aG]:Array Bool).getD e.on aG)).getD aG)=[0,1]:=by kernel_rfl)(d:((List.range ops.size).filter λi=> !(#[aF,aG]:Array Bool).getD i aF&&((ops[i]?).map (·.after.all λe=> !Region.binds .any e||(#[aF,aG]:Array Bool).getD e.on aG)).getD aG)=[1]:=by kernel_rfl)(c:((List.range ops.size).filter λi=> !(#[aG,aF]:Array Bool).getD i aF&&((ops[i]?).map (·.after.all λe=> !Region.binds .any e||(#[aG,aF]:Array Bool).getD e.on aG)).getD aG)=[0]:=by kernel_rfl):Region.schedule m ops n=if n%2=0 then [0,1]else [1,0]:=by
 unfold Region.schedule;rw[g];simp only[Bool.not_false,Bool.or_true,zCp];unfold Region.linearise;rw[show Region.linearise.go .any ops ops.size n (aDZ ops.size aG) []=Region.linearise.go .any ops 2 n #[aG,aG] [] by rw[b];rfl];simp only[Region.linearise.go];rw[f];obtain h|h:=Nat.mod_two_eq_zero_or_one n
 .have a:([0,1]:List Nat)[n%([0,1]:List Nat).length]? =aA 0:=by{simp[h]};rw[a];dsimp only;show(match((List.range ops.size).filter λi=> !(#[aF,aG]:Array Bool).getD i aF&&((ops[i]?).map (·.after.all λe=> !Region.binds .any e||(#[aF,aG]:Array Bool).getD e.on aG)).getD aG)[n/2%((List.range ops.size).filter λi=> !(#[aF,aG]:Array Bool).getD i aF&&((ops[i]?).map (·.after.all λe=> !Region.binds .any e||(#[aF,aG]:Array Bool).getD e.on aG)).getD aG).length]? with|some i=>_|none=>_)=_;rw[d];simp[h,Nat.mod_one]
 .have a:([0,1]:List Nat)[n%([0,1]:List Nat).length]? =aA 1:=by{simp[h]};rw[a];dsimp only;show(match((List.range ops.size).filter λi=> !(#[aG,aF]:Array Bool).getD i aF&&((ops[i]?).map (·.after.all λe=> !Region.binds .any e||(#[aG,aF]:Array Bool).getD e.on aG)).getD aG)[n/2%((List.range ops.size).filter λi=> !(#[aG,aF]:Array Bool).getD i aF&&((ops[i]?).map (·.after.all λe=> !Region.binds .any e||(#[aG,aF]:Array Bool).getD e.on aG)).getD aG).length]? with|some i=>_|none=>_)=_;rw[c];simp[h,Nat.mod_one]
def Ey (m:Bool)(n:Nat):Region.schedule m Ug n=if n%2=0 then [0,1]else [1,0]:=KL Ug m n
def Ez (a:zT)(d:Nat):Nat:=(Question.order 233 1).cut (a d (.order 233 1))%2
def LK {tm k l}(a)(d)(b:(if Ez a d=0 then [0,1]else [1,0])=l)(h:Lone zq cs S (gN tm (aN Ug l::k)) [] (v.re a (d+1))):Lone zq cs S (gN tm (.code (.region 1 Ug aF)::k)) [] (v.re a d):=by refine Lone.step (es:= #[]) (aH rfl) ?_ h;subst b;show GStep.go (G (gN tm (aN Ug (Region.schedule (zq.follows .mixedOrders) Ug ((Question.order 233 1).cut (a d (.order 233 1))))::k)) ([]++cs)) (v.re a (d+1)) #[]=_;rw[Ey];rfl
def WQ {tm a b k u}(h:Lone zq cs S (gN tm (.code a:: .code b::k)) [] u):Lone zq cs S (gN tm (.code (.seq a b)::k)) [] u:=mP (λc=>rfl) h
def KD {tm id ops k u}(h:Lone zq cs S (gN tm (aN ops (List.range ops.size)::k)) [] u):Lone zq cs S (gN tm (.code (.region id ops aG)::k)) [] u:=mP (λc=>rfl) h
def WR {tm ops k u}(h:Lone zq cs S (gN tm k) [] u):Lone zq cs S (gN tm (aN ops []::k)) [] u:=mP (λc=>rfl) h
def Qq {tm k u}(h:Lone zq cs S (gN tm k) [] u):Lone zq cs S (gN tm (.code .skip::k)) [] u:=mP (λc=>rfl) h
def Be {tm}{t:Nat}{a b k u}(c:Bool)(d:tm.getD t aEh= .bool c)(h:Lone zq cs S (gN tm (.code (if c then a else b)::k)) [] u):Lone zq cs S (gN tm (.code (.cond (.tmp t) a b)::k)) [] u:=by refine mP (λcs=> ?_) h;show stepG.exec zq aF aF (gN tm (.code (.cond (.tmp t) a b)::k)) cs aB u=_;unfold stepG.exec;dsimp only[gN];rw[show Frame.eval ⟨233,tm,.code (.cond (.tmp t) a b)::k,[],.run,.normal,aB⟩ (.tmp t)= .bool c from d];cases c<;>rfl
def tm1 (tm:zA):zA:=tm.setIfInBounds 20 (gA tm)
def PZ (tm:zA):zA:=(tm1 tm).setIfInBounds 21 (gB tm)
def Qr (tm:zA):zA:=(PZ tm).setIfInBounds 22 (gC tm)
def Bh (tm:zA)(v:zW):zA:=(Qr tm).setIfInBounds 23 (.pointer (aA ⟨v.heap.size,0,aB⟩))
def rtA (tm)(k)(u)(es):(aD7 (gN tm k).eval uv).runT zq u es=(.ok (.value (gA tm)) u,es):=NQ (xs:= #[.tmp 2,.tmp 3,.tmp 4,.tmp 5,.tmp 6,.tmp 7,.tmp 8,.tmp 9,.tmp 10]) (ys:= #[(tm.getD 2 aEh),(tm.getD 3 aEh),(tm.getD 4 aEh),(tm.getD 5 aEh),(tm.getD 6 aEh),(tm.getD 7 aEh),(tm.getD 8 aEh),(tm.getD 9 aEh),(tm.getD 10 aEh)]) rfl rfl u es
def rtB {tm}(k)(u)(es):(aD7 (gN (tm1 tm) k).eval uu).runT zq u es=(.ok (.value (gB tm)) u,es):=NQ (xs:= #[.tmp 11,.tmp 12,.tmp 13,.tmp 14,.tmp 15,.tmp 16,.tmp 17,.tmp 18,.tmp 19]) (ys:= #[(tm.getD 11 aEh),(tm.getD 12 aEh),(tm.getD 13 aEh),(tm.getD 14 aEh),(tm.getD 15 aEh),(tm.getD 16 aEh),(tm.getD 17 aEh),(tm.getD 18 aEh),(tm.getD 19 aEh)]) rfl (by simp[Frame.eval,gN,tm1,bV]) u es
def rtC {tm}(h:tm.size=43)(k)(u)(es):(aD7 (gN (PZ tm) k).eval ur).runT zq u es=(.ok (.value (gC tm)) u,es):=by
 have a:(PZ tm).getD 20 aEh=gA tm:=by unfold PZ tm1;rw[bV (by decide),aW (by omega)]
 have e:(PZ tm).getD 21 aEh=gB tm:=by unfold PZ tm1;rw[aW (by simp[h])]
 have c:(PZ tm).getD 0 aEh=tm.getD 0 aEh:=by unfold PZ tm1;rw[bV (by decide),bV (by decide)]
 have b:(PZ tm).getD 1 aEh=tm.getD 1 aEh:=by unfold PZ tm1;rw[bV (by decide),bV (by decide)]
 exact NQ rfl (by show [(PZ tm).getD 0 aEh,(PZ tm).getD 1 aEh,(PZ tm).getD 20 aEh,(PZ tm).getD 21 aEh]=_;rw[c,b,a,e]) u es
def Bf {tm}(h:tm.size=43)(v):(Bh tm v).getD 23 aEh= .pointer (aA ⟨v.heap.size,0,aB⟩):=by unfold Bh Qr PZ tm1;rw[aW (by simp[h])]
def Bg {tm}(v){i}(h:i<20):(Bh tm v).getD i aEh=tm.getD i aEh:=by unfold Bh Qr PZ tm1;rw[bV (by omega),bV (by omega),bV (by omega),bV (by omega)]
def Jq {tm}(h:tm.size=43)(v):(Bh tm v).getD 22 aEh=gC tm:=by unfold Bh Qr PZ tm1;rw[bV (by decide),aW (by simp[h])]
def DR {tm}(h:tm.size=43)(v):(Bh tm v).size=43:=by simp[Bh,Qr,PZ,tm1,h]
def AV (a)(d){tm}(b:tm.size=43)(h:Lone zq cs S (gN (Bh tm v) [.code (.region 1 Ug aF),.code uw]) [] ((boxed v aG).re a d)):
  Lone zq cs S (gN tm [.code Qz.rU]) [] (v.re a d):=by
 iterate 2 (refine mP (λc=>rfl) ?_)
 refine jM rfl rfl (rtA tm _ _ _) rfl ?_;refine jM rfl rfl (rtB _ _ _) rfl ?_;refine jM rfl rfl (rtC b _ _ _) rfl ?_;refine jM rfl rfl (ET _) rfl ?_;iterate 2 (refine mP (λc=>rfl) ?_)
 exact h
def UM {tm}(h:tm.getD 23 aEh= .pointer (aA ⟨v.heap.size,0,aB⟩))(k)(b)(a)(d):(aD7 (gN tm k).eval ma).runT zq ((boxed v b).re a d) #[]=(.ok .skip ((boxed v aF).re a d),#[⟨.cell ⟨v.heap.size,0,aB⟩,aF,aG⟩]):=by
 have e:aD7 (gN tm k).eval ma=(do Instr.storeAt 4 (tm.getD 23 aEh) (.bool aF);pure aEj:Sem Next):=by rfl
 rw[e,h,KM];rfl
def Co {tm}(h:tm.getD 23 aEh= .pointer (aA ⟨v.heap.size,0,aB⟩))(k)(b)(a)(d):(aD7 (gN tm k).eval mc).runT zq ((boxed v b).re a d) #[]=(.ok (.value (.bool b)) ((boxed v b).re a d),#[⟨.cell ⟨v.heap.size,0,aB⟩,aG,aG⟩]):=by
 have e:aD7 (gN tm k).eval mc=(do let x<-Instr.loadAt 4 (tm.getD 23 aEh);pure (aEi x):Sem Next):=by rfl
 rw[e,h,RU];rfl
def Nj {tm}(k)(u):(aD7 (gN tm k).eval iq).runT zq u #[]=(.ok (.value (.iface 224 (tm.getD 22 aEh))) u,#[]):=by
 have e:aD7 (gN tm k).eval iq=(do let y<-Instr.makeInterface 224 (tm.getD 22 aEh);pure (aEi y):Sem Next):=by rfl
 rw[e,Km]
def Ni {tm x}(h:tm.getD 25 aEh= .iface 224 x)(k)(u):(aD7 (gN tm k).eval mb).runT zq u #[]=(.halt (.panic (.iface 224 x)) u,#[]):=by
 have e:aD7 (gN tm k).eval mb=(do let y<-Instr.panic (tm.getD 25 aEh);pure (aEi y):Sem Next):=by rfl
 rw[e,h];rfl
def Aa {P}{fr:zC}{ops l k}(h:fr.todo=aN ops l::k):fr.catches P=aG:=by unfold Frame.catches;rw[h];cases P.funcs[fr.fn]? <;>rfl
def JY (a)(d)(hs:Ez a d=0){tm}(b:tm.size=43)(h:∀fr:zC,fr.fn=233->fr.mode= .panicking (told tm)->fr.defers=[]->fr.catches zq=aG->S fr [] ((boxed v aF).re a (d+1))):
  Lone zq cs S (gN tm [.code Qz.rU]) [] (v.re a d):=by
 refine AV a d b ?_;refine LK a d (by rw[hs]) ?_;have g:=Bf b v;refine LJ rfl rfl rfl (UM g _ aG _ _) ?_;refine jM (tm1:=(Bh tm v).setIfInBounds 24 (.bool aF)) rfl rfl (Co g _ aF _ _) rfl ?_;refine WR (WQ ?_);have e:((Bh tm v).setIfInBounds 24 (.bool aF)).getD 24 aEh= .bool aF:=aW (by rw[DR b];decide);have f:((Bh tm v).setIfInBounds 24 (.bool aF)).getD 22 aEh=gC tm:=by rw[bV (by decide)];exact Jq b v
 refine Be aF e (KD ?_);refine jM (o:=iq) rfl rfl (by rw[Nj,f]) rfl ?_;have c:(((Bh tm v).setIfInBounds 24 (.bool aF)).setIfInBounds 25 (.iface 224 (gC tm))).getD 25 aEh= .iface 224 (gC tm):=aW (by simp[DR b]);refine YP rfl rfl (Ni c _ _) ?_;exact h _ rfl rfl rfl (Aa rfl)
def MW (tm:zA)(v:zW):zA:=(Bh tm v).setIfInBounds 24 (.bool aG)
def Qj (a)(d)(hs:Ez a d≠0){tm}(b:tm.size=43)(h:Lone zq cs S (gN (MW tm v) [aN Br [0],.code .ret]) [] ((boxed v aF).re a (d+1))):
  Lone zq cs S (gN tm [.code Qz.rU]) [] (v.re a d):=by
 refine AV a d b ?_;refine LK a d (by rw[zAt hs]) ?_;have f:=Bf b v;have c:(MW tm v).getD 23 aEh= .pointer (aA ⟨v.heap.size,0,aB⟩):=by unfold MW;rw[bV (by decide)];exact f
 refine jM rfl rfl (Co f _ aG _ _) rfl ?_;refine LJ rfl rfl rfl (UM c _ aG _ _) ?_;refine WR (WQ ?_);have e:(MW tm v).getD 24 aEh= .bool aG:=aW (by rw[DR b];decide);exact Be aG e (Qq (WQ (KD h)))
def full (xs:zA):zA:=xs++aDZ (43-xs.size) aEh
def lB {xs}(h:xs.size<=20):(full xs).size=43:=by simp[full];omega
def jN (v)(b):oD v (boxed v b):=by
 refine⟨?_,λx a=> ?_,λx c h=> ?_⟩
 .show v.heap.size<=(v.heap.push _).size;rw[zBv];omega
 .show(v.heap.push _)[x]? =_;rw[zBk,zAt (by omega)]
 .have h:x<(v.heap.push (aJ #[.bool b] 4)).size:=h;rw[zBv]at h;have e:x=v.heap.size:=by{omega};subst e;refine⟨b,?_⟩;show(v.heap.push _)[v.heap.size]? =_;simp
def Qz.Ws (xs)(v)(D)(h:xs.size<=20)(_:Closed zq Qz.Al D (Frame.enter zq 233 xs .normal) [] v):∃a d,Lone zq [bG] (λfr l u=>l=[]/\fr.mode= .panicking (told (full xs))/\fr.defers=[]/\oD v u) (Frame.enter zq 233 xs .normal) [] (v.re a d):=⟨λ_ _=>0,0,by rw[GJ];exact JY (λ_ _=>0) 0 (by decide) (lB h) λfr f c b e=>⟨rfl,c,b,(jN v aF).re _ _ _ _⟩⟩
end
def Lone.steps {P cs S fr own v}(h:Lone P cs S fr own v):∃f o b,S f o b/\Steps P (lone fr (own++cs) v) (lone f (o++cs) b):=by
 induction h with
 | @stop fr own v h=>exact⟨fr,own,v,h,.refl _ _⟩
 | @step fr d own a v v1 es c e h i=>obtain⟨f,o,b,j,g⟩:=i;refine⟨f,o,b,j,.head (step_lone_go ?_) g⟩;have:stepG P aF {frame:=fr,callers:=own++cs,status:= .running,dying:=aB} v= .go (G d (a++cs)) v1 es:=e;rw[this];rfl
def jS {Q f fn c}(a:Q.funcs[f]? =aA fn)(h:(fn.name== "runtime.NumGoroutine")=aG)(b:fn.body=aA c)(xs)(u)(es):(callFunc f xs).runT Q u es=(.ok (.enter f xs) u,es):=by show(match Q.funcs[f]? with|none=>stuck "call: no such function"|some fn=>_:Sem Next).runT Q u es=_;rw[a];dsimp only;rw[h,b];rfl
def Tl {tm}(k)(u):(aD7 (gN tm k).eval ir).runT zq u #[]=(.ok (.enter 170 #[tm.getD 0 aEh,tm.getD 1 aEh]) u,#[]):=by
 have e:aD7 (gN tm k).eval ir=(do let d<-Deferred.ofValue (.func (.func 170) #[] #[]) ((#[.tmp 0,.tmp 1]:Array Operand).map (gN tm k).eval);invoke d.target d.args:Sem Next):=by rfl
 have b:(#[.tmp 0,.tmp 1]:Array Operand).map (gN tm k).eval= #[tm.getD 0 aEh,tm.getD 1 aEh]:=by apply zDx.1;rw[zFx];rfl
 rw[e,b];have a:(do let d<-Deferred.ofValue (.func (.func 170) #[] #[]) #[tm.getD 0 aEh,tm.getD 1 aEh];invoke d.target d.args:Sem Next)=callFunc 170 #[tm.getD 0 aEh,tm.getD 1 aEh]:=by show invoke (.fn (.func 170) #[]) (#[]++ #[tm.getD 0 aEh,tm.getD 1 aEh])=_;simp only[zCf];unfold invoke;simp
 rw[a];exact jS Qz.func170 (by kernel_rfl) rfl _ _ _
section
variable {v:zW}
def results_none {Q fn}(h:fn.results= #[])(tm)(u):(results fn tm).run Q u= .ok (.tuple #[]) u:=by unfold results;rw[h];simp[go_sem]
def Vz {S:zS}{cs:zL}{tm:zA}{k:zI}{u:zW}(h:S {gN tm (.code .ret::k)with mode:= .returning} [] u):Lone zq cs S (gN tm (.code .ret::k)) [] u:=
 Lone.step (fr1:={gN tm (.code .ret::k)with mode:= .returning}) (own1:=[]) (v1:=u) (es:= #[]) (aH rfl) rfl (.stop h)
def Je {cs:zL}{tm:zA}{u:zW}:Lone zq cs (λfr own a=>own=[]/\a=u/\fr.mode= .returning/\fr.defers=[]/\fr.kind= .normal/\fr.fn=233) (gN tm [aN Br [],.code .ret]) [] u:=
 WR (Vz ⟨rfl,rfl,rfl,rfl,rfl,rfl⟩)
def VD {tm}(A:tm.size=43)(a)(d)(hs:Ez a d≠0){R:zW->Prop}(h:Calls zq 170 #[tm.getD 0 aEh,tm.getD 1 aEh] ((boxed v aF).re a (d+1)) λe w'=>(∃x,e=aM x)/\R w')(cs):
  ∃w' fr,R w'/\Steps zq (lone (gN tm [.code Qz.rU]) cs (v.re a d)) (lone fr cs w')/\fr.fn=233/\fr.leaving zq w' (aM (.tuple #[])):=by
 obtain⟨E,l,K,⟨I,H,G⟩,s1⟩:=Lone.steps (Qj (S:=λfr own u=>fr=gN (MW tm v) [aN Br [0],.code .ret]/\own=[]/\u=(boxed v aF).re a (d+1)) a d hs A (.stop ⟨rfl,rfl,rfl⟩));subst I;subst H;subst G;have t0:(MW tm v).getD 0 aEh=tm.getD 0 aEh:=by unfold MW;rw[bV (by decide)];exact Bg v (by decide)
 have t1:(MW tm v).getD 1 aEh=tm.getD 1 aEh:=by unfold MW;rw[bV (by decide)];exact Bg v (by decide)
 have m:=Tl (tm:=MW tm v) [aN Br [0],.code .ret] ((boxed v aF).re a (d+1));rw[t0,t1]at m;have s2:step zq (lone (gN (MW tm v) [aN Br [0],.code .ret]) cs ((boxed v aF).re a (d+1)))= .next (lone (Frame.enter zq 170 #[tm.getD 0 aEh,tm.getD 1 aEh] .normal) (gN (MW tm v) [aN Br [0],.code .ret]::cs) ((boxed v aF).re a (d+1))):=by refine step_lone_go ?_;have e:=KQ (P:=zq) (fr:=gN (MW tm v) [aN Br [0],.code .ret]) (cs:=cs) (u:=(boxed v aF).re a (d+1)) (ops:=Br) (j:=0) (rest:=[]) (k:=[.code .ret]) (o:=ir) rfl rfl rfl rfl rfl aF;have J:stepG zq aF {frame:=gN (MW tm v) [aN Br [0],.code .ret],callers:=cs,status:= .running,dying:=aB} ((boxed v aF).re a (d+1))=_:=e;rw[J];unfold stepG.apply;simp only[zCp];rw[m];rfl
 obtain⟨e,w',g,⟨⟨x,C⟩,D⟩,b,B,f⟩:=h (gN (MW tm v) [aN Br [0],.code .ret]::cs);subst C;have p:=b;have s:=step_leave_returned (cs:=cs) (c:=gN (MW tm v) [aN Br [0],.code .ret]) f;have F:(gN (MW tm v) [aN Br [0],.code .ret]).finish x=gN ((MW tm v).setIfInBounds 26 x) [aN Br [],.code .ret]:=rfl;rw[F]at s;obtain⟨Cl,i,v5,⟨z,y,w,t,r,q⟩,n⟩:=Lone.steps (Je (cs:=cs) (tm:=(MW tm v).setIfInBounds 26 x) (u:=w'));subst z;subst y;exact⟨v5,Cl,D,Steps.trans s1 (.head s2 (Steps.trans p (.head s n))),q,⟨w,t,r,Qz.f233,by rw[q];exact Qz.func233,results_none (Q:=zq) (fn:=Qz.f233) rfl Cl.tmps v5⟩⟩
end
end Go.Proofs
