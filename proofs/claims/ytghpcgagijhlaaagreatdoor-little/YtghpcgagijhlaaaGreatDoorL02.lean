import Derived.Conc.Beside
import Derived.Conc.CrowdTrace
import Derived.Conc.WrSpec
import Derived.Conc.Script
import Derived.Test.YtghpcgagijhlaaaGreatDoorL01
set_option linter.all false
set_option maxRecDepth 100000
set_option maxHeartbeats 16000000
open Option renaming some->aA,none->aB
open Bool renaming true->aF,false->aG
open Or renaming inl->aH,inr->aI
open Go.Ending renaming returned->aM
open Go.Item renaming inRegion->aN
open Go.Obj renaming cells->aJ
open Go.IntKind renaming u32->aP
open Array renaming replicate->aD5
open Go renaming execOp->aEd,undef->aEn
open Go.Next renaming value->aEo,skip->aEp
open Go.Trace renaming g?->aEq
open Go.Proofs.Tryz
namespace Go
abbrev zGn:=@Go.Conc.QuitsD.value
abbrev zGo:=@Go.RowKit.Below.refl
abbrev zGr:=@Go.RowKit.Below.heap_setCell
abbrev zGu:=@Go.heap_alloc_new
abbrev zGw:=@Go.wpList_load_row
abbrev zGx:=@Go.wpList_store_row
abbrev zHa:=@Go.ConcN.sumTo_congr
abbrev zb (w w':World):Prop:=Go.RowKit.Below w.heap.size w w'
def hid {p:Prop}(h:p):Go.RowKit.Hid p:=h
end Go
namespace Go.Tr
open Go.Conc
def blk:Loc->Option Nat
 | .cell a=>aA a.block
 | .obj r=>aA r
 |_=>aB
structure Pm where
 rd:Nat->zP
 rw:Nat->zP
 sd:Nat->zP
 at':zP
structure Pm.Ok (p:Pm):Prop where
 Xb:∀{j k b},p.rw j b->p.rw k b->j=k
 Xc:∀{j k b},p.rw j b->p.rd k b->j=k
 Oo:∀{j b},p.at' b->¬p.rd j b
 ZV:∀{j b},p.at' b->¬p.rw j b
 bn:∀{j k b},p.sd j b->p.sd k b->j=k
 XA:∀{j b},p.sd j b->p.at' b
def Vv (p:Pm)(j:Nat)(x:Touch):Prop:=
 ∀b,blk x.loc=aA b->(x.kind≠.said/\x.write=aG/\(p.rd j b\/p.rw j b))\/(x.kind≠.said/\p.rw j b)\/(x.kind= .atomic/\p.at' b)\/(x.kind= .said/\p.sd j b)
structure TI (t:Trace)(p:Pm)(Live:zP):Prop where
 clean:∀said,¬Race said t
 rd:∀{j b},p.rd j b->∀i a,touchAt t i=aA a->blk a.loc=aA b->a.write=aF->Knows t j i
 rw:∀{j b},p.rw j b->∀i a,touchAt t i=aA a->blk a.loc=aA b->Knows t j i
 sd:∀{j b},p.sd j b->∀i a,touchAt t i=aA a->blk a.loc=aA b->a.kind≠.atomic->Knows t j i
 Yx:∀{b},p.at' b->∀i a,touchAt t i=aA a->blk a.loc=aA b->a.kind≠.plain
 known:∀i a,touchAt t i=aA a->a.loc.isMemory=aF->Knows t 0 i\/(∃op,t[i]? =aA op/\Live op.g)\/∃b,blk a.loc=aA b/\p.at' b/\a.kind= .atomic/\(t.g? i=aA 0\/¬t.heard i)
def JK {l}(h:l.isMemory=aF):∃b,blk l=aA b:=by cases l<;>simp_all [Loc.isMemory,blk]
section
variable {t u:Trace}{p q:Pm}{Live Cw:zP}{j:Nat}
def dM {i a}(h:touchAt (t++u) i=aA a):(i<t.size/\touchAt t i=aA a)\/∃op,t.size<=i/\(t++u)[i]? =aA op/\op∈u/\op.act.touch? =aA a:=by
 obtain⟨x,e,b⟩:=touch_of h;obtain⟨hi,d⟩|⟨hi,c⟩:=getElem?_append_cases e
 .exact aH ⟨hi,by rw[touchAt_of d];exact b⟩
 .exact aI ⟨x,hi,e,c,b⟩
def TI.own (f:p.Ok)(h:TI t p Live)(A:∀op∈u,op.g=j)(z:j=0\/Live j\/∀i op,t.size<=i->(t++u)[i]? =aA op->∀x,op.act.touch? =aA x->x.loc.isMemory=aF->(∃b,blk x.loc=aA b/\p.at' b/\x.kind= .atomic)/\¬(t++u).heard i)
  (E:∀op∈u,∀x,op.act.touch? =aA x->Vv p j x):TI (t++u) p Live:=by
 refine⟨λsaid=>noRace_append (h.clean said) A λi a hi op e b o O=> ?_,λ{k b} hk i a hi o B=> ?_,λ{k b} hk i a hi o=> ?_,λ{k b} hk i a hi o N=> ?_,λ{b} hk i a hi o=> ?_,λi a hi G=> ?_⟩
 .obtain⟨hl,G,L,w⟩:=O;obtain⟨c,n⟩:=JK G;have D:=hl▸n;obtain⟨r,d,F⟩|⟨r,d⟩|⟨r,d⟩|⟨r,d⟩:=E op e b o c D
  .have B:a.write=aF:=by
    obtain x|x:=L;{exact x};{rw[d]at x;cases x}
   obtain F|F:=F;{exact h.rd F i a hi n B};{exact h.rw F i a hi n}
  .exact h.rw d i a hi n
  .have:=h.Yx d i a hi n;rw[r]at w;obtain x|x|⟨_,_,x⟩:=w
   .exact absurd x this
   .cases x
   .cases x
  .have:=h.Yx (f.XA d) i a hi n;rw[r]at w;obtain x|x|⟨_,x,_⟩:=w
   .exact absurd x this
   .cases x
   .exact h.sd d i a hi n (by rw[x];simp)
 .obtain⟨_,m⟩|⟨op,_,v,e,l⟩:=dM hi
  .exact(h.rd hk i a m o B).app u
  .have:j=k:=by
    obtain⟨_,d,_⟩|⟨_,d⟩|⟨_,d⟩|⟨_,d⟩:=E op e a l b o;{rw[d]at B;cases B};{exact f.Xc d hk};{exact absurd hk (f.Oo d)};{exact absurd hk (f.Oo (f.XA d))}
   have s:=knows_own v;rw[A op e,this]at s;exact s
 .obtain⟨_,m⟩|⟨op,_,v,e,l⟩:=dM hi
  .exact(h.rw hk i a m o).app u
  .have:j=k:=by
    obtain⟨_,_,d|d⟩|⟨_,d⟩|⟨_,d⟩|⟨_,d⟩:=E op e a l b o;{exact(f.Xc hk d).symm};{exact f.Xb d hk};{exact f.Xb d hk};{exact absurd hk (f.ZV d)};{exact absurd hk (f.ZV (f.XA d))}
   have s:=knows_own v;rw[A op e,this]at s;exact s
 .obtain⟨_,m⟩|⟨op,_,v,e,l⟩:=dM hi
  .exact(h.sd hk i a m o N).app u
  .have:j=k:=by
    obtain⟨_,_,d|d⟩|⟨_,d⟩|⟨r,d⟩|⟨_,d⟩:=E op e a l b o;{exact absurd d (f.Oo (f.XA hk))};{exact absurd d (f.ZV (f.XA hk))};{exact absurd d (f.ZV (f.XA hk))};{exact absurd r N};{exact f.bn d hk}
   have s:=knows_own v;rw[A op e,this]at s;exact s
 .obtain⟨_,m⟩|⟨op,_,v,e,l⟩:=dM hi
  .exact h.Yx hk i a m o
  .intro C;obtain⟨_,_,d|d⟩|⟨_,d⟩|⟨r,d⟩|⟨r,d⟩:=E op e a l b o
   .exact f.Oo hk d
   .exact f.ZV hk d
   .exact f.ZV hk d
   .rw[C]at r;cases r
   .rw[C]at r;cases r
 .obtain⟨hl,m⟩|⟨op,M,v,e,l⟩:=dM hi
  .obtain x|⟨op,x,y⟩|x:=h.known i a m G
   .exact aH (x.app u)
   .exact aI (aH ⟨op,by rw[getElem?_append_old hl];exact x,y⟩)
   .obtain⟨b,K,J,I,H⟩:=x;exact aI (aI ⟨b,K,J,I,by rw[g?_old hl,heard_old hl];exact H⟩)
  .obtain z|z|z:=z
   .have s:=knows_own v;rw[A op e,z]at s;exact aH s
   .exact aI (aH ⟨op,v,by rw[A op e];exact z⟩)
   .obtain⟨⟨b,K,J,I⟩,H⟩:=z i op M v a l G;exact aI (aI ⟨b,K,J,I,aI H⟩)
def TI.to (h:TI t p Live)(f:∀j b,q.rd j b->(p.rd j b\/p.rw j b)\/∀i a,touchAt t i=aA a->blk a.loc≠aA b)
  (e:∀j b,q.rw j b->p.rw j b\/∀i a,touchAt t i=aA a->blk a.loc≠aA b) (d:∀j b,q.sd j b->(p.sd j b\/p.rw j b)\/∀i a,touchAt t i=aA a->blk a.loc≠aA b)
  (g:∀b,q.at' b->p.at' b\/∀i a,touchAt t i=aA a->blk a.loc≠aA b) (c:∀b,p.at' b->q.at' b) (hl:∀j,Live j->Cw j):TI t q Cw:=by
 refine⟨h.clean,λ{k b} hk i a hi hb hw=> ?_,λ{k b} hk i a hi hb=> ?_,λ{k b} hk i a hi hb l=> ?_,λ{b} hk i a hi hb=> ?_,λi a hi m=> ?_⟩
 .obtain(x|x)|x:=f k b hk
  .exact h.rd x i a hi hb hw
  .exact h.rw x i a hi hb
  .exact absurd hb (x i a hi)
 .obtain x|x:=e k b hk
  .exact h.rw x i a hi hb
  .exact absurd hb (x i a hi)
 .obtain(x|x)|x:=d k b hk
  .exact h.sd x i a hi hb l
  .exact h.rw x i a hi hb
  .exact absurd hb (x i a hi)
 .obtain x|x:=g b hk
  .exact h.Yx x i a hi hb
  .exact absurd hb (x i a hi)
 .obtain x|⟨op,x,y⟩|⟨b,x,y,z⟩:=h.known i a hi m
  .exact aH x
  .exact aI (aH ⟨op,x,hl _ y⟩)
  .exact aI (aI ⟨b,x,c b y,z⟩)
def SN {said}(h:¬Race said t)(l:∀op∈u,op.act.touch? =aB):¬Race said (t++u):=by
 rintro⟨i,j,f,⟨a,b,s,r,o⟩,m,n⟩;obtain⟨hi,k⟩|⟨op,_,_,d,c⟩:=dM s
 .obtain⟨v,g⟩|⟨op,_,_,d,c⟩:=dM r
  .exact h ⟨i,j,f,⟨a,b,k,g,o⟩,λe=>m (hb_app u e),λe=>n (hb_app u e)⟩
  .rw[l op d]at c;cases c
 .rw[l op d]at c;cases c
def TI.Mb (h:TI t p Live)(v:∀op∈u,op.act.touch? =aB)
  (n:∀j b,q.rd j b->p.rd j b\/p.rw j b\/(∃k,(p.rd k b\/p.rw k b)/\∀i,Knows t k i->Knows (t++u) j i)\/∀i a,touchAt t i=aA a->blk a.loc≠aA b)
  (m:∀j b,q.rw j b->p.rw j b\/(∃k,p.rw k b/\∀i,Knows t k i->Knows (t++u) j i)\/∀i a,touchAt t i=aA a->blk a.loc≠aA b)
  (f:∀j b,q.sd j b->p.sd j b\/(∃k,p.sd k b/\∀i,Knows t k i->Knows (t++u) j i)\/∀i a,touchAt t i=aA a->blk a.loc≠aA b)
  (r:∀b,q.at' b->p.at' b\/∀i a,touchAt t i=aA a->blk a.loc≠aA b) (e:∀b,p.at' b->q.at' b)
  (hl:∀j,Live j->Cw j\/∀i op a,t[i]? =aA op->op.g=j->touchAt t i=aA a->Knows (t++u) 0 i):TI (t++u) q Cw:=by
 have old:∀{i a},touchAt (t++u) i=aA a->i<t.size/\touchAt t i=aA a:=λ{i a} hi=>by obtain x|⟨op,_,_,o,c⟩:=dM hi;{exact x};{rw[v op o]at c;cases c}
 refine⟨λsaid=>SN (h.clean said) v,λ{k b} hk i a hi hb hw=> ?_,λ{k b} hk i a hi hb=> ?_,λ{k b} hk i a hi hb d=> ?_,λ{b} hk i a hi hb=> ?_,λi a hi w=> ?_⟩
 .obtain⟨_,hi⟩:=old hi;obtain x|x|⟨s,x|x,y⟩|x:=n k b hk
  .exact(h.rd x i a hi hb hw).app u
  .exact(h.rw x i a hi hb).app u
  .exact y i (h.rd x i a hi hb hw)
  .exact y i (h.rw x i a hi hb)
  .exact absurd hb (x i a hi)
 .obtain⟨_,hi⟩:=old hi;obtain x|⟨s,x,y⟩|x:=m k b hk
  .exact(h.rw x i a hi hb).app u
  .exact y i (h.rw x i a hi hb)
  .exact absurd hb (x i a hi)
 .obtain⟨_,hi⟩:=old hi;obtain x|⟨s,x,y⟩|x:=f k b hk
  .exact(h.sd x i a hi hb d).app u
  .exact y i (h.sd x i a hi hb d)
  .exact absurd hb (x i a hi)
 .obtain⟨_,hi⟩:=old hi;obtain x|x:=r b hk
  .exact h.Yx x i a hi hb
  .exact absurd hb (x i a hi)
 .obtain⟨bT,hi⟩:=old hi;obtain x|⟨op,x,y⟩|⟨b,x,y,z⟩:=h.known i a hi w
  .exact aH (x.app u)
  .obtain l|l:=hl _ y
   .exact aI (aH ⟨op,by rw[getElem?_append_old bT];exact x,l⟩)
   .exact aH (l i op a x rfl hi)
  .exact aI (aI ⟨b,x,e b y,z.1,by rw[g?_old bT,heard_old bT];exact z.2⟩)
def FC {s r c k cap x1 x2 x3 x4}(a:x1.g=s/\x1.act= .send c k)(m:x2.g=r/\x2.act= .recv c k cap)(v:x3.g=s)(e:x3.act= .sendDone c k)(d:x4.g=r/\x4.act= .recvDone c k)
  (hs:Deaf t s=0) (f:Deaf t r=0) {i} (h:Knows t s i):Knows (t++ #[x1,x2,x3,x4]) r i:=by
 have b:(t++ #[x1,x2,x3,x4])[t.size]? =aA x1:=by rw[zCc (zAb _)];simp
 have p2:(t++ #[x1,x2,x3,x4])[t.size+1]? =aA x2:=by rw[zCc (by omega)];simp
 have p3:(t++ #[x1,x2,x3,x4])[t.size+2]? =aA x3:=by rw[zCc (by omega)];simp
 have p4:(t++ #[x1,x2,x3,x4])[t.size+3]? =aA x4:=by rw[zCc (by omega)];simp
 have o:(t++ #[x1,x2,x3,x4]).heard t.size:=⟨s,by simp[aEq,a.1],by rw[deaf_old (zAb _)];exact hs⟩;have n:(t++ #[x1,x2,x3,x4]).heard (t.size+3):=by refine⟨r,by simp[aEq,d.1],?_⟩;rw[deaf_succ p3,deaf_succ p2,deaf_succ b,deaf_old (zAb _)];simp only[deafStep,a.2,m.2,e];exact f
 have l:=h.hb_new (zAb _) b a.1;exact⟨t.size+3,x4,p4,d.1,aI (l.trans (.single (aI ⟨.handOver (by rw[act?_of b,a.2]) (by rw[act?_of p4,d.2]),o,n⟩)))⟩
def OK {c i a r x}(b:x.g=r/\x.act= .recvClosed c)(e:t.act? a=aA (.close c))(hh:t.heard a)(f:Deaf t r=0)(h:Before t i a):Knows (t++ #[x]) r i:=by
 have d:(t++ #[x])[t.size]? =aA x:=by rw[zCc (zAb _)];simp
 have bT:=lt_of_act? e;have k:(t++ #[x]).heard t.size:=⟨r,by simp[aEq,b.1],by rw[deaf_old (zAb _)];exact f⟩;refine⟨t.size,x,d,b.1,aI ((h.app #[x]).hb (.single (aI ⟨.closed (by rw[act?_old bT];exact e) (by rw[act?_of d,b.2]),?_,k⟩)))⟩;exact(heard_old bT).2 hh
def TI.Si {rP B}(h:Past rP B t){S}(A:∀l,rP l->∃b,blk l=aA b/\S b)(G:∀b,S b->∀i a,touchAt t i=aA a->blk a.loc=aA b->a.kind≠.plain)
  (H:∀l b,blk l=aA b->S b->rP l):
  TI t ⟨λ_ _=>False,λj b=>j=0/\¬S b,λ_ _=>False,S⟩ (λ_=>False):=by
 refine⟨h.clean,λ{k b} c=>c.elim,λ{k b} c i a hi d=> ?_,λ{k b} c=>c.elim,λ{b} c i a hi d=>G b c i a hi d,λi a hi e=> ?_⟩
 .obtain⟨rfl,c⟩:=c;have e:a.loc.isMemory=aF:=by{cases hl:a.loc<;>rw[hl]at d<;>simp_all [blk,Loc.isMemory]};obtain x|⟨x,_⟩:=h.known i a hi e;{exact x};{obtain⟨C,f,v⟩:=A _ x;rw[d]at f;cases f;exact absurd v c}
 .obtain x|⟨x,y⟩:=h.known i a hi e
  .exact aH x
  .obtain⟨C,f,v⟩:=A _ x;by_cases s:t.g? i=aA 0\/¬t.heard i
   .exact aI (aI ⟨C,f,v,y,s⟩)
   .have r:=zBm λz=>s (aI z);have o:t.g? i≠aA 0:=λz=>s (aH z);obtain⟨op,n,E⟩:=touch_of hi;have w:t.g? i=aA op.g:=by{simp[aEq,n]};obtain⟨j,F,d⟩:=h.over i op.g w (λz=>o (by rw[w,z])) ⟨a,hi,e,aI r⟩;obtain⟨z,D,m⟩:=zBp.1 F;exact aH ⟨j,z,D,m,aI d⟩
def TI.past {B}(h:TI t p (λ_=>False))(w:Deaf t 0=0)(hs:∀op∈t,op.act.low B):Past (λl=>∃b,blk l=aA b/\p.at' b) B t:=by
 refine⟨h.clean,λi a hi n=> ?_,λi g k e y=> ?_,w,hs⟩
 .obtain x|⟨_,_,x⟩|⟨b,s,r,m,_⟩:=h.known i a hi n
  .exact aH x
  .exact x.elim
  .exact aI ⟨⟨b,s,r⟩,m⟩
 .obtain⟨a,A,n,f⟩:=y;obtain⟨q,z,v,d,o⟩|⟨_,_,x⟩|⟨b,s,r,m,c⟩:=h.known i a A n
  .refine⟨q,by simp[aEq,v,d],?_⟩;obtain rfl|o:=o
   .rw[aEq,v]at k;simp only[zBi,Option.some.injEq]at k;exact absurd (k.symm.trans d) e
   .exact o
  .exact x.elim
  .obtain f|f:=f
   .exact absurd m f
   .obtain c|c:=c
    .rw[k]at c;exact absurd (zAk c) e
    .exact absurd f c
end
end Go.Tr
namespace Go.Ren
open Go.Conc (G)
inductive Tree where
 |leaf
 |node (ch:zW->Tree)
def Tree.Lt (a b:Tree):Prop:=∃ch w,b= .node ch/\a=ch w
def Tree.wf:WellFounded Tree.Lt:=by
 constructor;intro a;induction a with
 |leaf=>exact⟨_,λb ⟨_,_,h,_⟩=>by cases h⟩
 |node ch i=>exact⟨_,λb ⟨_,w,h,e⟩=>by cases h;exact e▸i w⟩
def Tree.nat:Nat->Tree
 |0=> .leaf
 |n+1=> .node λ_=>Tree.nat n
def Tree.fI (n):Tree.Lt (Tree.nat n) (Tree.nat (n+1)):=⟨_,default,rfl,rfl⟩
structure cA (rd rw:zP)(w w₁:zW):Prop where
 cM:∀b,rd b\/rw b->w₁.heap[b]? =w.heap[b]?
 size:w.heap.size<=w₁.heap.size
 tape:w₁.tape=w.tape
 os:w₁.os=w.os
 output:w₁.output=w.output
structure Does (rw:zP)(w w':zW):Prop where
 keep:∀b,b<w.heap.size->¬rw b->w'.heap[b]? =w.heap[b]?
 size:w.heap.size<=w'.heap.size
 tape:w'.tape=w.tape
 os:w'.os=w.os
 output:w'.output=w.output
def grown (rw:zP)(w w':zW):zP:=λb=>rw b\/(w.heap.size<=b/\b<w'.heap.size)
def VP (rd rw:zP)(e:Event):Prop:=
 (∃a wr s,e=⟨.cell a,wr,s⟩/\(rw a.block\/(wr=aG/\rd a.block)))\/(∃r s,e=⟨.obj r,aG,s⟩/\(rw r\/rd r))\/e.loc= .mark .noRoom\/e.loc= .output\/∃f,e.loc= .mark (.extern f)
def cA.refl (rd rw)(w):cA rd rw w w:=⟨λ_ _=>rfl,zAb _,rfl,rfl,rfl⟩
def cA.trans {rd rw:zP}{a b c:zW}(h:cA rd rw a b)(k:cA rd rw b c):cA rd rw a c:=
 ⟨λx d=>(k.cM x d).trans (h.cM x d),zBb h.size k.size,k.tape.trans h.tape,k.os.trans h.os,k.output.trans h.output⟩
def cK (P:zZ)(main:Bool)(J:zW->Prop)(S:(zP)->(zP)->zU):Tree->(zP)->(zP)->zU
 | .leaf,rd,rw,g,w=>∀a,cA rd rw w a->J a->S rd rw g a
 | .node ch,rd,rw,g,w=>g.status= .running/\∀a,cA rd rw w a->J a->∃c b d,stepG P main g a= .go c b d/\Does rw a b/\(∀e∈d,VP rd (grown rw a b) e)/\cK P main J S (ch a) rd (grown rw a b) c b
section
variable {P:zZ}{main:Bool}{J:zW->Prop}{S:(zP)->(zP)->zU}
def cK.rely:∀{tr:Tree}{rd rw:zP}{g:zH}{w w₁:zW},cK P main J S tr rd rw g w->cA rd rw w w₁->cK P main J S tr rd rw g w₁
 | .leaf,_,_,_,_,_,h,r=>λa b j=>h a (r.trans b) j
 | .node _,_,_,_,_,_,h,r=>⟨h.1,λa b j=>h.2 a (r.trans b) j⟩
def cK.mono {c:(zP)->(zP)->zU}(b:∀rd rw g w,S rd rw g w->c rd rw g w):∀{tr:Tree}{rd rw:zP}{g:zH}{w:zW},cK P main J S tr rd rw g w->cK P main J c tr rd rw g w
 | .leaf,_,_,_,_,h=>λa r j=>b _ _ _ _ (h a r j)
 | .node ch,_,_,_,_,h=>⟨h.1,λa r j=>let⟨k,d,es,h1,i,f,e⟩:=h.2 a r j;⟨k,d,es,h1,i,f,e.mono b⟩⟩
def cK.step {rd rw g w}(d:g.status= .running)
  (h:∀w₁,cA rd rw w w₁->J w₁->∃a w' es,stepG P main g w₁= .go a w' es/\Does rw w₁ w'/\(∀e∈es,VP rd (grown rw w₁ w') e)/\∃tr,cK P main J S tr rd (grown rw w₁ w') a w'):∃tr,cK P main J S tr rd rw g w:=by
 have c:∀w₁:zW,∃tr:Tree,cA rd rw w w₁->J w₁->∃a w' es,stepG P main g w₁= .go a w' es/\Does rw w₁ w'/\(∀e∈es,VP rd (grown rw w₁ w') e)/\cK P main J S tr rd (grown rw w₁ w') a w':=λw₁=>by by_cases b:cA rd rw w w₁/\J w₁;{obtain⟨a,w',es,l,k,j,tr,i⟩:=h w₁ b.1 b.2;exact⟨tr,λ_ _=>⟨a,w',es,l,k,j,i⟩⟩};{exact⟨.leaf,λx y=>absurd ⟨x,y⟩ b⟩}
 exact⟨.node λw₁=>Classical.choose (c w₁),d,λw₁ b f=>zAw (c w₁) b f⟩
def cK.bind {b:(zP)->(zP)->zU}(a:∀rd rw g w,(∀w₁,cA rd rw w w₁->J w₁->S rd rw g w₁)->∃tr,cK P main J b tr rd rw g w):
  ∀{tr:Tree}{rd rw:zP}{g:zH}{w:zW},cK P main J S tr rd rw g w->∃tr,cK P main J b tr rd rw g w
 | .leaf,_,_,_,_,h=>a _ _ _ _ h
 | .node ch,_,_,_,_,h=>cK.step h.1 λw₁ r j=>let⟨i,c,es,h1,f,e,d⟩:=h.2 w₁ r j;⟨i,c,es,h1,f,e,d.bind a⟩
end
def dL (rw)(w):grown rw w w=rw:=by
 funext b;apply propext;constructor
 .rintro(h|⟨h1,a⟩)
  .exact h
  .omega
 .exact aH
def Does.refl (rw)(w):Does rw w w:=⟨λ_ _ _=>rfl,zAb _,rfl,rfl,rfl⟩
def xU {P:zZ}{main:Bool}{J:zW->Prop}{R:zW->zW->Prop}{rd rw:zP}{Stop:zU}(a:∀w w₁,cA rd rw w w₁->J w₁->R w w₁):
  ∀{n:Nat}{g:zH}{w:zW},Go.Conc.Goes P main R Go.ConcR.DC0 Stop n g w->∃tr,cK P main J (λc b g w=>c=rd/\b=rw/\Stop g w) tr rd rw g w
 |0,g,w,h=>⟨.leaf,λw₁ r j=>⟨rfl,rfl,h w₁ (a w w₁ r j)⟩⟩
 |n+1,g,w,h=>by obtain h|⟨e,h⟩:=h;{exact⟨.leaf,λw₁ r j=>⟨rfl,rfl,h w₁ (a w w₁ r j)⟩⟩};{refine cK.step e λw₁ r j=> ?_;obtain⟨m,d,o,l,⟨k,i⟩,f⟩:=Go.Conc.goes_elim (h w₁ (a w w₁ r j));subst k;subst i;refine⟨m,d,#[],l,Does.refl rw d,by simp,?_⟩;rw[dL];exact xU a f}
section
variable {P:zZ}{Al:zF}{K:Kp}
def YZ {ρ rd rw}(c:∀b b',ρ b b'->(K b/\rd b')\/(¬K b/\rw b')){e}(h:mC K ρ e):VP rd rw e:=by
 obtain⟨a,j,wr,s,rfl,i,f⟩|(h|h)|h|⟨r,d,s,rfl,g⟩:=h
 .refine aH ⟨j,wr,s,rfl,?_⟩;obtain⟨k,x⟩|⟨_,x⟩:=c _ _ i.1
  .right;refine⟨?_,x⟩;cases wr with
   |false=>rfl
   |true=>exact absurd k (f rfl)
  .exact aH x
 .exact aI (aI (aH h))
 .exact aI (aI (aI (aH h)))
 .exact aI (aI (aI (aI h)))
 .refine aI (aH ⟨d,s,rfl,?_⟩);obtain⟨_,x⟩|⟨_,x⟩:=c _ _ g
  .exact aI x
  .exact aH x
end
section
variable(P:zZ)(fs:Array Func)
def rY:∀(d:Nat)(t:zD)(b:Nat),cellHolding ⟨P.toTables,fs⟩ d t b=cellHolding P d t b
 |0,_,_=>rfl
 |d+1,t,b=>by unfold cellHolding;simp only[rY d];rfl
def vQ:∀(d:Nat)(t:zD)(b:Nat),plainCell ⟨P.toTables,fs⟩ d t b=plainCell P d t b
 |0,_,_=>rfl
 |d+1,t,b=>by unfold plainCell;simp only[vQ d];rfl
def vP (c:zA)(e:zD):∀(f x s:Nat),seenCells ⟨P.toTables,fs⟩ c e f x s=seenCells P c e f x s
 |0,_,_=>rfl
 |f+1,x,s=>by unfold seenCells;simp only[vP c e f,rY];rfl
def As (w:zW)(a)(u)(k)(t):w.seen ⟨P.toTables,fs⟩ a u k t=w.seen P a u k t:=by unfold World.seen;simp only[vP,vQ,iX];rfl
def QK (w:zW)(a)(u)(k)(t):w.viewLoad ⟨P.toTables,fs⟩ a u k t=w.viewLoad P a u k t:=by unfold World.viewLoad;simp only[As]
def QL:∀(d:Nat)(t:zD),tight ⟨P.toTables,fs⟩ d t=tight P d t
 |0,_=>rfl
 |d+1,t=>by unfold tight;simp only[QL d];rfl
def MT (w:zW)(a)(u)(k)(v)(t):w.viewStore ⟨P.toTables,fs⟩ a u k v t=w.viewStore P a u k v t:=by unfold World.viewStore;simp only[As,QL];rfl
def DK (w:zW)(a)(t):w.farLoad ⟨P.toTables,fs⟩ a t=w.farLoad P a t:=by unfold World.farLoad;simp only[QK]
def QN (w:zW)(a)(v)(t):w.farStore ⟨P.toTables,fs⟩ a v t=w.farStore P a v t:=by unfold World.farStore;simp only[MT]
end
def NP (P:zZ)(fs:Array Func){α:Type}(s:Sem α):Prop:=∀(w:zW)(e:zE),s.runT ⟨P.toTables,fs⟩ w e=s.runT P w e
section
variable {P:zZ}{fs:Array Func}{α β:Type}
def jF (a:α):NP P fs (Pure.pure a:Sem α):=λ_ _=>rfl
def CC (h:Halt):NP P fs (.halt h:Sem α):=λ_ _=>rfl
def fC {s}{f:α->Sem β}(h:NP P fs s)(b:∀a,NP P fs (f a)):NP P fs (s>>=f):=λw e=>by
 rw[bD,bD,h w e];split
 .exact b _ _ _
 .rfl
def Sj (a)(m):NP P fs (load a m):=λw e=>by simp only[load,Sem.runT,DK]
def wX (r):NP P fs (shape r):=λ_ _=>rfl
def tI (a):NP P fs (frozen a):=λ_ _=>rfl
def Fb (r):NP P fs (getObj r):=λw e=>by simp only[getObj,Sem.runT]
def Fc (q):NP P fs (choose q):=λ_ _=>rfl
def yO {c} [Decidable c] {s t:Sem α}(h:NP P fs s)(k:NP P fs t):NP P fs (if c then s else t):=by split<;>assumption
def Fa (r):NP P fs (viewAt r):=by refine fC (wX r) λs=> ?_;refine yO (jF _) (fC (Fb r) λo=> ?_);cases o<;>exact jF _
def KT (a):NP P fs (noView a):=by refine fC (Fa _) λs=> ?_;exact yO (CC _) (jF _)
def wW (a):NP P fs (stringish a):=by
 refine fC (tI a) λt=> ?_;refine yO (jF _) (fC (wX _) λs=> ?_);cases s with
 |none=>exact jF _
 |some x=>exact tI _
def SM (a b):NP P fs (mayBeOne a b):=by refine fC (wW a) λs=>fC (wW b) λt=> ?_;refine fC (fC (wX _) λ_=>jF _) λ_=>fC (fC (wX _) λ_=>jF _) λ_=>jF _
def BE (a b):NP P fs (sameAddr a b):=by refine yO (jF _) ?_;refine fC (tI a) λs=>fC (tI b) λt=> ?_;refine yO (CC _) ?_;refine fC (KT a) λ_=>fC (KT b) λ_=>fC (SM a b) λ_=> ?_;exact yO (fC (Fc _) λ_=>jF _) (jF _)
def wY:∀(n:Nat)(a:Addr)(acc:ByteArray),NP P fs (loadBytes a acc n)
 |0,_,_=>jF _
 |n+1,a,acc=>by
  unfold loadBytes;refine fC (Sj _ _) λv=> ?_;cases v with
  |int k b=>
   cases k with
   |u8=>exact wY n _ _
   |_=>exact CC _
  |_=>exact CC _
end
section
variable {P:zZ}{Al:zF}{F:Kp}{α β:Type}{A:Rn->α->β->Prop}{fs:Array Func}
def bN.blind (V:Shape P fs)(O:F.nR=aB){π s s'}(h:bN P Al F A π s s'):
  ∀(v w)(z g),bQ P Al F π v w->(∃hl u C,s.runT P v z=(.halt hl u,C)/\Fatal hl)\/s'.runT ⟨P.toTables,fs⟩ w g=s'.runT P w g:=by
 induction h with
 |pure h=>intro v w z g j;exact aI rfl
 | @load π m a H k G h hk B=>
  intro v w z g j;obtain⟨y,Y,E,D,I⟩|⟨E,D⟩:=j.cell h;{simp only[Sem.runT,E,D];exact B y Y I v w _ _ j}
  .obtain⟨hl,I,J⟩|⟨x,b,X,l,I,J,e5,W⟩:=j.su h (m== .atomic)
   .left;refine⟨hl,v,z,?_,J⟩;simp only[Sem.runT,E,I]
   .simp only[Sem.runT,E,D,I,DK,J];exact B x x W v w _ _ j
 | @store π m a H x K k G h T hk B=>
  intro v w z g j;have N:(∀(cs:zA),x≠.agg cs)->(∀(cs:zA),x≠.tuple cs)->(∀(cs:zA),K≠.agg cs)->(∀(cs:zA),K≠.tuple cs)->
    (∃hl u C,(Sem.store m a x k).runT P v z=(.halt hl u,C)/\Fatal hl)\/(Sem.store m H K G).runT ⟨P.toTables,fs⟩ w g=(Sem.store m H K G).runT P w g:=by
   intro n1 n2 n3 Z
   rw[Sem.runT.eq_5 _ _ _ _ _ _ _ (λcs h=>n1 cs h) (λcs h=>n2 cs h),Sem.runT.eq_5 _ _ _ _ _ _ _ (λcs h=>n3 cs h) (λcs h=>Z cs h),Sem.runT.eq_5 _ _ _ _ _ _ _ (λcs h=>n3 cs h) (λcs h=>Z cs h)]
   obtain⟨y,Y,E,D,I⟩|⟨E,D⟩:=j.cell h
   .simp only[E,D];by_cases hF:F a.block
    .left;rw[j.Bp h hF E];exact⟨_,_,_,rfl,by simp⟩
    .rw[j.frozen h hF];cases hf:v.frozen? a with
     |true=>left;exact⟨_,_,_,rfl,by simp⟩
     |false=>exact B (v.setCell a x) (w.setCell H K) _ _ (j.setCell h hF T)
   .simp only[E,D,QN];obtain⟨hl,I,J⟩|⟨v1,w1,b,X,l,I,J,e5,W,e7,e8⟩:=j.farStore h T (m== .atomic)
    .left;exact⟨hl,v,z,by simp only[I],J⟩
    .simp only[I,J];exact B v1 w1 _ _ W
  cases T with
  |agg _ _=>left;exact⟨_,_,_,rfl,by simp⟩
  |tuple _ _=>left;exact⟨_,_,_,rfl,by simp⟩
  |junk vb R=>exact N (by simp) (by simp) (λcs e=>by rw[e]at R;exact R) (λcs e=>by rw[e]at R;exact R)
  |_=>exact N (by simp) (by simp) (by simp) (by simp)
 | @new π c c' ty k G h hk B=>intro v w z g j;simp only[Sem.runT];exact B (more π v.heap.size w.heap.size) v.heap.size w.heap.size (j.push h ty).ok (λ_ _ x=>aH x) (aI ⟨rfl,rfl⟩) _ _ z g (j.push h ty)
 | @marked π c c' ty k G hC h hk B=>intro v w z g j;rw[nQ,nQ,nQ];exact B (more π v.heap.size w.heap.size) v.heap.size w.heap.size (j.qL hC h ty).ok (λ_ _ x=>aH x) (aI ⟨rfl,rfl⟩) _ _ z g (j.qL hC h ty)
 | @view π x K k G h hk B=>intro v w z g j;simp only[Sem.runT];exact B (more π v.heap.size w.heap.size) v.heap.size w.heap.size (j.wR h).ok (λ_ _ x=>aH x) (aI ⟨rfl,rfl⟩) _ _ z g (j.wR h)
 | @getObj π r M k G h hk B=>
  intro v w z g j;obtain⟨c,c',ty,fr,fr',Q,S,_⟩|⟨_,o,Q,S,L⟩|⟨x,K,Q,S,L⟩:=j.blk _ _ h;{left;exact⟨.stuck "getObj: a row of cells",v,z,by simp only[Sem.runT,Q],by simp⟩}
  .have E:(Sem.getObj r k).runT P v z=(k o).runT P v (z.push ⟨.obj r,aG,o.isChan⟩):=by
    simp only[Sem.runT,Q];cases o with
    |cells c t f=>exact absurd rfl (L.1 c t f)
    |_=>rfl
   have D:∀p:zZ,(Sem.getObj M G).runT p w g=(G o).runT p w (g.push ⟨.obj M,aG,o.isChan⟩):=λp=>by
    simp only[Sem.runT,S];cases o with
    |cells c t f=>exact absurd rfl (L.1 c t f)
    |_=>rfl
   rw[E,D,D];exact B o o (aH ⟨L,rfl⟩) v w _ _ j
  .have E:(Sem.getObj r k).runT P v z=(k x).runT P v (z.push ⟨.obj r,aG,aG⟩):=by
    simp only[Sem.runT,Q];cases L<;>rfl
   have D:∀p:zZ,(Sem.getObj M G).runT p w g=(G K).runT p w (g.push ⟨.obj M,aG,aG⟩):=λp=>by simp only[Sem.runT,S];cases L<;>rfl
   rw[E,D,D];exact B _ _ (aI ⟨x,K,rfl,rfl,L⟩) v w _ _ j
 | @shape π r M k G h hk B=>intro v w z g j;simp only[Sem.runT,j.shape h];exact B _ v w z g j
 | @freeze π a H n k G hF h hk B=>intro v w z g j;simp only[Sem.runT];exact B (v.freeze a n) (w.freeze H n) z g (j.freeze hF h n)
 | @frozen π a H k G hF h hk B=>intro v w z g j;simp only[Sem.runT,j.frozen h (hF _)];exact B _ v w z g j
 | @share π a H n k G h hk B=>
  intro v w z g j;rw[bD,bD,bD,wY n H .empty];obtain⟨hl,C,E,D⟩|⟨s,C,d,E,D,I,J⟩:=uL j n .empty z g h;{rw[E];exact aH ⟨hl,v,C,rfl,D⟩}
  .rw[E,D];have hW:bQ P Al F π (v.freeze a n) (w.freeze H n):=by
    by_cases U:n=0;{subst U;exact j};{exact j.TZ h (J U).1 λ_=>(J U).2}
   exact B s (v.freeze a n) (w.freeze H n) C (g++d) hW
 | @same π a H b X k G hN h h' hk B=>intro v w z g j;rw[bD,bD,bD,BE H X];obtain⟨hl,C,E,D⟩|⟨t,C,d,E,D,I⟩:=RO j hN h h' z g;{rw[E];exact aH ⟨hl,v,C,rfl,D⟩};{rw[E,D];exact B t v w _ _ j}
 | @choose π q k G hk B=>intro v w z g j;simp only[Sem.runT];split;{exact B 0 v w z g j};{have hl:∀i,F.upto i:=λi u hu=>by{rw[O]at hu;cases hu};have e0:w.tape w.drawn=v.tape v.drawn:=j.tape 0 (hl _);have E:q.cut (w.tape w.drawn q)=q.cut (v.tape v.drawn q):=by{rw[e0]};rw[E];exact B (q.cut (v.tape v.drawn q)) {v with drawn:=v.drawn+1} {w with drawn:=w.drawn+1} z g ⟨j.ok,j.blk,λk _=>by have:=j.tape (k+1) (hl _);simpa [zCh,zGd 1 k]using this,j.fresh,j.low,j.os,j.rows⟩}
 | @program π k G he hk B=>intro v w z g j;simp only[Sem.runT];rw[he fs V];exact B v w z g j
 | @mark π m k G hm hk B=>intro v w z g j;simp only[Sem.runT];exact B v w _ _ j
 | @env π k G hk B=>intro v w z g j;have hs:∀(u:zW),u.sys .env=(.strings u.os.env,u):=λu=>rfl;simp only[Sem.runT,hs,j.os];exact B (.strings v.os.env) v w _ _ j
 |panic h=>intro v w z g j;exact aI rfl
 |dead h=>intro v w z g j;obtain⟨hl,w1,C,e,D⟩:=h v z;exact aH ⟨hl,w1,C,e,D⟩
end
section
variable {P:zZ}{Al:zF}{F:Kp}{π:Rn}{cs' own own':zL}{v w:zW}{fs:Array Func}
def dX (h:Shape P fs)(fn)(es):seen ⟨P.toTables,fs⟩ fn es=seen P fn es:=by
 have c:∀f:zN,((⟨P.toTables,fs⟩:zZ).funcs[f]?).any (·.norace)=(P.funcs[f]?).any (·.norace):=λf=>by obtain e|⟨a,b,i,g,_,_,_,d⟩:=h f;{dsimp only;rw[e]};{dsimp only;rw[i,g];simp[d]}
 unfold seen;simp only[c]
def Np {f}(h:fs[f]? =P.funcs[f]?)(x)(k:CallKind):Frame.enter ⟨P.toTables,fs⟩ f x k=Frame.enter P f x k:=by unfold Frame.enter;rw[h]
def sK (h:F.nR=aB)(u):¬Ul F u:=by rintro⟨x,a,_⟩;rw[h]at a;cases a
def lX {fr C s hl u e}(h:s.runT P v #[]=(.halt hl u,e))(b:Fatal hl):∃o u c,stepG.apply P aF fr C aB s v= .ended o u c:=by
 unfold stepG.apply;simp only[zCs];rw[h];obtain⟨a,rfl⟩|⟨x,rfl,hu⟩:=b
 .exact⟨_,_,_,rfl⟩
 .cases x with
  |initOrder g=>exact absurd rfl (hu g)
  |_=>exact⟨_,_,_,rfl⟩
end
section
variable {P:zZ}{Al:zF}{F:Kp}{π:Rn}{v w:zW}
def qE (u:zW)(a:Addr):Bool:=u.frozen? a||(match u.shape? a.block with|some (_,n)=>u.frozen? {block:=a.block,off:=n}|none=>aG)
def bare (u:zW)(a:Addr):Bool:=u.shape? a.block matches aA (_,0)
def nN (u:zW)(a b:Addr):Bool:=(qE u a&&qE u b)||(qE u a&&bare u a)||(qE u b&&bare u b)
def sA (u)(a)(es):(stringish a).runT P u es=(.ok (qE u a) u,es):=by
 show(Sem.frozen a _).runT P u es=_;simp only[Sem.runT];unfold qE;cases h:u.frozen? a with
 |true=>rfl
 |false=>
  show(Sem.shape a.block _).runT P u es=_;simp only[Sem.runT];cases hu:u.shape? a.block with
  |none=>rfl
  |some x=>obtain⟨t,n⟩:=x;show(Sem.frozen {block:=a.block,off:=n} _).runT P u es=_;simp only[Sem.runT,zFx]
def JB (u)(a b)(es):(mayBeOne a b).runT P u es=(.ok (nN u a b) u,es):=by unfold mayBeOne;rw[bD,sA];dsimp only;rw[bD,sA];show(Sem.shape a.block _).runT P u es=_;simp only[Sem.runT];show(Sem.shape b.block _).runT P u es=_;simp only[Sem.runT];rfl
def yZ (u:zW):Bool:=(Question.extern "sameAddr.stringBytes" 2).cut (u.tape u.drawn (.extern "sameAddr.stringBytes" 2))==1
def pB (u:zW){a b:Addr}(h:a.block≠b.block)(es:zE):(sameAddr a b).runT P u es=
  if(u.frozen? a&&u.frozen? b)=aF then(.halt (.unsupported .addressObserved) u,es)else
   match(noView a).runT P u es with
   |(.ok _ u1,c)=>match(noView b).runT P u1 c with
    |(.ok _ u2,e)=>if nN u2 a b=aF then(.ok (yZ u2) {u2 with drawn:=u2.drawn+1},e)else(.ok aG u2,e)
    |(.halt h u2,e)=>(.halt h u2,e)
   |(.halt h u1,c)=>(.halt h u1,c):=by
 unfold sameAddr;rw[zDr h];simp only[zBe,zDe];show(Sem.frozen a _).runT P u es=_;simp only[Sem.runT];show(Sem.frozen b _).runT P u es=_;simp only[Sem.runT];show Sem.runT P (if(u.frozen? a&&u.frozen? b)=aF then _ else _) u es=_;cases(u.frozen? a&&u.frozen? b)with
 |true=>rfl
 |false=>
  simp only[zBe,zDe];rw[bD];cases(noView a).runT P u es with
  |mk r c=>
   cases r with
   |halt h u1=>rfl
   |ok _ u1=>
    dsimp only;rw[bD];cases(noView b).runT P u1 c with
    |mk r e=>
     cases r with
     |halt h u2=>rfl
     |ok _ u2=>
      dsimp only;rw[bD,JB];dsimp only;cases nN u2 a b with
      |true=>rfl
      |false=>rfl
def Cg (Q:zZ){o:Oper}{e:Operand->zY}{op:BinOp}{t:zD}{x y:Operand}{j:zD}(n:o.op= .binOp op t x y j)(f:op= .eql\/op= .neq){el:zD}{i:TypeInfo}(m:Q.underlying t=aA (.pointer el))(hi:Q.info? el=aA i)(hs:i.size≠0)
  {a b:Addr} (l:e x= .pointer (aA a)) (k:e y= .pointer (aA b)) (u:zW) (es:zE):
  (aEd e o).runT Q u es=match(sameAddr a b).runT Q u es with
   |(.ok r u1,c)=>(.ok (.value (.bool (if op= .eql then r else !r))) u1,c)
   |(.halt h u1,c)=>(.halt h u1,c):=by
 have g:∀(u:zW)(es:zE),(Op.equal t (.pointer (aA a)) (.pointer (aA b))).runT Q u es=(sameAddr a b).runT Q u es:=λu es=>by
  show(Op.equalIn (_+1) t (.pointer (aA a)) (.pointer (aA b))).runT Q u es=_;unfold Op.equalIn;rw[bD];have s:(underlying t).runT Q u es=(.ok (.pointer el) u,es):=by unfold underlying;show(match Q.underlying t with|some d=>pure d|none=>stuck "no such type":Sem TypeDesc).runT Q u es=_;rw[m];rfl
  rw[s];dsimp only;rw[bD];have q:(Go.sizeOf el).runT Q u es=(.ok i.size u,es):=by
   unfold Go.sizeOf;rw[bD];have p:(typeInfo el).runT Q u es=(.ok i u,es):=by unfold typeInfo;show(match Q.info? el with|some i=>pure i|none=>stuck _:Sem TypeInfo).runT Q u es=_;rw[hi];rfl
   rw[p];rfl
  rw[q];dsimp only;rw[zAz hs]
 unfold aEd;rw[n];dsimp only;rw[l,k];obtain rfl|rfl:=f
 .show((do let v<-(do pure (.bool (<-Op.equal t (.pointer (aA a)) (.pointer (aA b)))):Sem zY);pure (.value v)):Sem Next).runT Q u es=_;rw[bD,bD,g];cases(sameAddr a b).runT Q u es with
  |mk r c=>cases r<;>rfl
 .show((do let v<-(do pure (.bool (!(<-Op.equal t (.pointer (aA a)) (.pointer (aA b))))):Sem zY);pure (.value v)):Sem Next).runT Q u es=_;rw[bD,bD,g];cases(sameAddr a b).runT Q u es with
  |mk r c=>cases r<;>rfl
end
section
variable {P:zZ}{Al:zF}{F:Kp}{π:Rn}{v w:zW}
def KW {u a es e}(h:(noView a).runT P u es=(.ok () u,e))(i)(d):(noView a).runT P (u.re i d) es=(.ok () (u.re i d),e):=by
 have k:∀u:zW,(noView a).runT P u es=match u.shape? a.block with
   |some _=>(.ok () u,es)
   |none=>match u.heap[a.block]? with
    |some (aJ ..)=>(.halt (.stuck "getObj: a row of cells") u,es)
    |some (.view x t)=>(.halt (.unsupported (.unsafePointer "memory seen as another type")) u,es.push ⟨.obj a.block,aG,aG⟩)
    |some o=>(.ok () u,es.push ⟨.obj a.block,aG,o.isChan⟩)
    |none=>(.halt (.stuck "getObj: no such block") u,es):=λu=>by
  unfold noView viewAt
  rw[bD,bD]
  have p:(shape a.block).runT P u es=(.ok (u.shape? a.block) u,es):=rfl
  rw[p]
  cases j:u.shape? a.block with
  |some x=>rfl
  |none=>
   have l:∀o,u.heap[a.block]? =aA o->(∀c t f,o≠aJ c t f)->(getObj a.block).runT P u es=(.ok o u,es.push ⟨.obj a.block,aG,o.isChan⟩):=λo m n=>by unfold getObj;cases o<;>first|exact absurd rfl (n _ _ _)|(simp only[Sem.runT,m])
   simp only[Option.isSome_none,zBe,zDe];rw[bD];cases b:u.heap[a.block]? with
   |none=>
    have g:(getObj a.block).runT P u es=(.halt (.stuck "getObj: no such block") u,es):=by unfold getObj;simp only[Sem.runT,b]
    rw[g]
   |some o=>
    cases o with
    |cells c t f=>
     have g:(getObj a.block).runT P u es=(.halt (.stuck "getObj: a row of cells") u,es):=by unfold getObj;simp only[Sem.runT,b]
     rw[g]
    |_=>rw[l _ b (by simp)];rfl
 rw[k]at h⊢;have l:(u.re i d).shape? a.block=u.shape? a.block:=rfl;have g:(u.re i d).heap=u.heap:=rfl;rw[l,g];cases j:u.shape? a.block with
 |some x=>rw[j]at h;dsimp only at h⊢;cases h;rfl
 |none=>
  rw[j]at h;dsimp only at h⊢;cases b:u.heap[a.block]? with
  |none=>rw[b]at h;cases h
  |some o=>cases o<;>rw[b]at h<;>dsimp only at h⊢<;>cases h<;>rfl
def oF (k:bQ P Al F π v w){a a'}(h:bU π a a')(hs:qE w a'=aF):qE v a=aF:=by
 unfold qE at hs⊢;obtain⟨c,c',ty,fr,i,d,b,g,g4,g5⟩|⟨_,o,d,b,g⟩|⟨y,p,d,b,g⟩:=k.blk _ _ h.1
 .by_cases hF:F a.block
  .obtain⟨e,j,_,n⟩:=g4 hF;obtain⟨lo,hi⟩:=fr;obtain⟨l,m⟩:=i;simp only[World.frozen?,World.shape?,b,zDs,zBh,zCm]at hs;simp only[World.frozen?,World.shape?,d,zDs,zBh,zCm];simp only at e j n;have:=g.size;rw[h.2.1]at hs;left;omega
  .have:=g5.1 hF;subst this;simp only[World.frozen?,World.shape?,b,h.2.1,g.size]at hs;simp only[World.frozen?,World.shape?,d];exact hs
 .have e:w.frozen? a'=v.frozen? a:=by
   unfold World.frozen?;rw[d,b];cases o<;>first|rfl|exact absurd rfl (g.1 _ _ _)
  have j:=k.shape h.1;have f:v.shape? a.block=aB:=by unfold World.shape?;rw[d];cases o<;>first|rfl|exact absurd rfl (g.1 _ _ _)
  rw[e,j,f]at hs;rw[f];exact hs
 .have e:w.frozen? a'=aG:=by
   unfold World.frozen?;rw[b];cases g<;>rfl
  have f:w.shape? a'.block=aB:=by unfold World.shape?;rw[b];cases g<;>rfl
  rw[e,f]at hs;cases hs
def MF (b:bQ P Al F π v w){a a'}(h:bU π a a'):bare w a'=bare v a:=by unfold bare;rw[b.shape h.1]
def SL (c:bQ P Al F π v w){a a' b b'}(h:bU π a a')(k:bU π b b')(hs:nN w a' b'=aF):nN v a b=aF:=by
 unfold nN at hs⊢;simp only[zDs,zBh,MF c h,MF c k]at hs⊢;obtain(⟨x,y⟩|⟨x,y⟩)|⟨x,y⟩:=hs
 .exact aH (aH ⟨oF c h x,oF c k y⟩)
 .exact aH (aI ⟨oF c h x,y⟩)
 .exact aI ⟨oF c k x,y⟩
def BJ (i:bQ P Al F π v w){a a'}(h:bU π a a')(hs:w.frozen? a'=aF):v.frozen? a=aF:=by
 obtain⟨c,c',ty,fr,e,d,g,b,g4,g5⟩|⟨_,o,d,g,b⟩|⟨y,p,d,g,b⟩:=i.blk _ _ h.1
 .by_cases hF:F a.block
  .obtain⟨n,m,_,k⟩:=g4 hF;obtain⟨lo,hi⟩:=fr;obtain⟨l,j⟩:=e;simp only[World.frozen?,g,zBh,zCm]at hs;simp only[World.frozen?,d,zBh,zCm];simp only at n m k;rw[h.2.1]at hs;omega
  .rw[i.frozen h hF]at hs;exact hs
 .unfold World.frozen? at hs;rw[g]at hs;cases o with
  |cells c t f=>exact absurd rfl (b.1 c t f)
  |_=>cases hs
 .unfold World.frozen? at hs;rw[g]at hs;cases b<;>cases hs
def Ke (m:bQ P Al F π v w){a a' b b'}(h:bU π a a')(k:bU π b b')(j:a.block≠b.block)(es i):
  (∃hl f,(sameAddr a b).runT P v es=(.halt hl v,f)/\Fatal hl)\/
  ∃g d1 n r f y,(sameAddr a b).runT P (v.re g v.drawn) es=(.ok r (v.re g d1),f)/\(sameAddr a' b').runT P w i=(.ok r {w with drawn:=n},i++y)/\∀e∈y,mC F π e:=by
 have o:a'.block≠b'.block:=λq=>j ((m.ok.inj h.1 k.1).2 q);rw[pB v j,pB w o];cases x:(v.frozen? a&&v.frozen? b)with
 |true=>exact aH ⟨_,_,rfl,by simp⟩
 |false=>
  have u:(w.frozen? a'&&w.frozen? b')=aG:=by
   cases h1:w.frozen? a' with
   |false=>rfl
   |true=>
    cases C:w.frozen? b' with
    |false=>rfl
    |true=>rw[BJ m h h1,BJ m k C]at x;cases x
  rw[u];simp only[zBe,zDe];obtain⟨hl,f,s,t⟩|⟨f,d,s,t,z⟩:=qP m h es i;{rw[s];exact aH ⟨hl,f,rfl,t⟩};obtain⟨hl,c,r1,r2⟩|⟨c,n,r1,r2,r3⟩:=qP m k f (i++d);{rw[s];dsimp only;rw[r1];exact aH ⟨hl,c,rfl,r2⟩}
  right;rw[t];dsimp only;rw[r2];dsimp only;have l:∀e∈d++n,mC F π e:=λe B=>(zEc.1 B).elim (z e) (r3 e);have run:∀g,(sameAddr a b).runT P (v.re g v.drawn) es=if nN v a b=aF then(.ok (yZ (v.re g v.drawn)) (v.re g (v.drawn+1)),c)else(.ok aG (v.re g v.drawn),c):=λg=>by rw[pB (v.re g v.drawn) j];have D:((v.re g v.drawn).frozen? a&&(v.re g v.drawn).frozen? b)=aG:=x;rw[D];simp only[zBe,zDe];rw[KW s g v.drawn];dsimp only;rw[KW r1 g v.drawn];rfl
  cases hm:nN v a b with
  |false=>
   have p:nN w a' b'=aG:=by
    cases A:nN w a' b' with
    |false=>rfl
    |true=>rw[SL m h k A]at hm;cases hm
   refine⟨v.tape,v.drawn,w.drawn,aG,c,d++n,?_,?_,l⟩;{rw[run,hm];rfl};{rw[p,<-zEk];rfl}
  |true=>
   cases p:nN w a' b' with
   |false=>refine⟨λ_ _=>0,v.drawn+1,w.drawn,aG,c,d++n,?_,?_,l⟩;{rw[run,hm];rfl};{rw[<-zEk];rfl}
   |true=>refine⟨λ_=>w.tape w.drawn,v.drawn+1,w.drawn+1,yZ w,c,d++n,?_,?_,l⟩;{rw[run,hm];rfl};{rw[<-zEk];rfl}
def oS {Q fr cs s u u1 a y}(h:s.runT Q u #[]=(.ok (.value y) u1,a)):
  ∃c,stepG.apply Q aF fr cs aB s u= .go (G (fr.finish y) cs) u1 c/\∀e∈c,e∈a:=by
 unfold stepG.apply;simp only[zCs];rw[h];refine⟨_,rfl,λe b=> ?_⟩;simp only[zCq,zCe]at b;have:=Go.Conc.mem_seen b;split at this
 .simp at this
 .exact this
def Ob {fs fr fr' own own'}(N:VM P Al F π fr own v fr' own' w)(hq:¬rE P F fr)(Ir:∀I d,∃g1 w1 es,stepG P aF (G fr (own++[])) (v.re I d)= .go g1 w1 es):
  ∃I d d1 d2 x,Flat x/\(∀g cs,∃es,stepG P g (G fr (own++cs)) (v.re I d)= .go (G (fr.finish x) (own++cs)) (v.re I d1) es)/\
   ∀g cs,∃es,stepG ⟨P.toTables,fs⟩ g (G fr' (own'++cs)) w= .go (G (fr'.finish x) (own'++cs)) {w with drawn:=d2} es/\∀e∈es,mC F π e:=by
 unfold rE at hq;simp only[zFb]at hq;obtain⟨hm,ops,j,rest,k,o,X,L,M⟩:=hq;unfold OX at M;simp only[zFb,not_or]at M;obtain⟨op,t,x,y,yt,A,s,Y,qy,q⟩:=M;have kg:=N.world.ok;have Mp:=λx hx=>N.frame.eval kg x hx;have O:kM P Al F (aN ops (j::rest)):=N.frame.items _ (by rw[X];exact zAy);obtain⟨p,H⟩:=O o (zBj L);rw[A]at H p;obtain h|h|h|⟨el,i,hu,hi,hs⟩:=H.2
 .exfalso;obtain h|h:=h
  .exact s.1 h
  .obtain⟨z,hz⟩:=s.2;exact hz (h z)
 .exact absurd h Y
 .exact absurd h qy
 have E:op= .eql\/op= .neq:=by
  by_cases h1:op= .eql;{exact aH h1}
  .by_cases h2:op= .neq
   .exact aI h2
   .exact absurd ⟨h1,h2⟩ Y
 unfold tB at q;simp only[not_and,zFb]at q;obtain⟨a,b,V,T,ag⟩:=q ⟨el,hu⟩;have K:=Mp x (p x (by simp[Op.operands]));have J:=Mp y (p y (by simp[Op.operands]));rw[V]at K;rw[T]at J;obtain⟨a',U,ha⟩:∃a',fr'.eval x= .pointer (aA a')/\bU π a a':=by
  generalize fr'.eval x=z at K;cases K with
  |pointer hp=>cases hp with
   |some h=>exact⟨_,rfl,h⟩
 obtain⟨b',S,hb⟩:∃b',fr'.eval y= .pointer (aA b')/\bU π b b':=by
  generalize fr'.eval y=z at J;cases J with
  |pointer hp=>cases hp with
   |some h=>exact⟨_,rfl,h⟩
 have Z:fr'.mode= .run:=by have:=N.frame.mode;rw[hm]at this;generalize fr'.mode=m at this;cases this;rfl
 have W:fr'.todo=aN ops (j::rest)::k:=by rw[N.frame.todo];exact X
 have R:∀(Q:zZ)(f:zC)(g:Bool)(c:zL)(u:zW),f.mode= .run->f.todo=aN ops (j::rest)::k->stepG Q g (G f c) u=if(Region.wanted o (yielded ops f.tmps))=aF then stepG.apply Q aF f c aB (aEd f.eval o) u else .go (G (f.finish aEn) c) u:=λQ f g c u h1 h2=>by
  obtain⟨fn,tmps,todo,defers,mode,kind,round⟩:=f;dsimp only at h1 h2;subst h1;subst h2;show stepG.exec Q g aF ⟨fn,tmps,aN ops (j::rest)::k,defers,.run,kind,round⟩ c aB u=_;have R:stepG.exec Q g aF ⟨fn,tmps,aN ops (j::rest)::k,defers,.run,kind,round⟩ c aB u=
    if(((ops[j]?).map (Region.wanted · (yielded ops tmps))).getD aG)=aF then stepG.oper Q aF ⟨fn,tmps,aN ops (j::rest)::k,defers,.run,kind,round⟩ c aB u
    else .go (G (Frame.finish ⟨fn,tmps,aN ops (j::rest)::k,defers,.run,kind,round⟩ aEn) c) u:=rfl
  rw[R,L];simp only[zBi,zCv];have e2:stepG.oper Q aF ⟨fn,tmps,aN ops (j::rest)::k,defers,.run,kind,round⟩ c aB u=stepG.apply Q aF ⟨fn,tmps,aN ops (j::rest)::k,defers,.run,kind,round⟩ c aB (aEd (Frame.eval ⟨fn,tmps,aN ops (j::rest)::k,defers,.run,kind,round⟩) o) u:=by unfold stepG.oper;simp only[Frame.oper?,L,A]
  rw[e2]
 have ey:=funext (oE N.frame.tmps ops);cases l:Region.wanted o (yielded ops fr.tmps)with
 |false=>refine⟨v.tape,v.drawn,v.drawn,w.drawn,aEn,λAl π=>dU,λg cs=>⟨#[],?_⟩,λg cs=>⟨#[],?_,by simp⟩⟩;{rw[R P fr g _ _ hm X,l];rfl};{rw[R _ fr' g _ _ Z W,ey,l];rfl}
 |true=>
  have hw:=N.world;have hr:∀(u:zW)(es:zE),(aEd fr.eval o).runT P u es=_:=λu es=>Cg P A E hu hi hs V T u es;have hr':∀(u:zW)(es:zE),(aEd fr'.eval o).runT ⟨P.toTables,fs⟩ u es=_:=λu es=>Cg ⟨P.toTables,fs⟩ A E hu hi hs U S u es;obtain⟨hl,kt,q1,q2⟩|⟨I,d1,d2,r,kt,dd,q1,q2,q3⟩:=Ke hw ha hb ag #[] #[];{exfalso;obtain⟨g1,w1,B,C⟩:=Ir w.tape w.drawn;rw[R P fr aF _ _ hm X,l]at C;simp only[zCs]at C;have n:=hr (v.re w.tape w.drawn) #[];rw[q1]at n;obtain⟨o2,u2,es3,q5⟩:=lX n q2;rw[q5]at C;cases C}
  .have n:=hr ((v.re w.tape w.drawn).re I (v.re w.tape w.drawn).drawn) #[];rw[q1]at n;have D:=hr' w #[];rw[BE a' b',q2]at D;refine⟨I,w.drawn,d1,d2,.bool (if op= .eql then r else !r),λAl π=> .bool _,λg cs=> ?_,λg cs=> ?_⟩
   .obtain⟨B,C,_⟩:=oS n;refine⟨B,?_⟩;rw[R P fr g _ _ hm X,l];exact C
   .obtain⟨B,C,q5⟩:=oS D;refine⟨B,?_,λe he=>q3 e (by simpa using q5 e he)⟩;rw[R _ fr' g _ _ Z W,ey,l];exact C
end
section
variable {P:zZ}{Al:zF}{S:zS}{fr fr1:zC}{own own1:zL}{v v1:zW}
def Ends.next (h:Ends P Al S fr own v)(c:¬S fr own v){a d m es}(hs:stepG P m (G fr own) (v.re a d)= .go (G fr1 own1) v1 es):Ends P Al S fr1 own1 v1:=by
 cases h with
 |stop h=>exact absurd h c
 |step b n h1 g f=>obtain⟨i,e⟩:=g a d [] m;rw[zAq,zAq,hs]at e;have l:fr1=(n a d).1:=by{injection e with e _ _;exact congrArg Goroutine.frame e};have k:own1=(n a d).2.1:=by{injection e with e _ _;exact congrArg Goroutine.callers e};have j:v1=(n a d).2.2:=by{injection e};rw[l,k,j];exact f a d
def Ends.re (h:Ends P Al S fr own v)(e:∀fr own v b d,S fr own v->S fr own (v.re b d))(b)(d):Ends P Al S fr own (v.re b d):=by
 cases h with
 |stop h=>exact .stop (e _ _ _ b d h)
 |step a n h1 g f=>exact .step a n h1 (λc i cs m=>g c i cs m) f
def Lone.through (F:∀K:Kp,(∀b,¬K b)->cB P Al K){T cs}(E:∀fr l v,(fr.mode= .run\/fr.defers≠[]\/l≠[])->¬T fr (l++cs) v){l u}(h:Lone P [bI] S fr l u):
  ∀{D},Closed P Al D fr l u->Ends P Al T fr (l++cs) u->∃f d u2 D2,S f d u2/\Closed P Al D2 f d u2/\(∀b,D b->D2 b)/\Ends P Al T f (d++cs) u2:=by
 induction h with
 | @stop fr l u h=>exactλn k=>⟨fr,l,u,_,h,n,λ_ x=>x,k⟩
 | @step fr fr1 l z u u1 I a p h A=>
  intro D n k;obtain⟨o,w1,I,c⟩|⟨f,d,v2,G,D2,c,m,B,j,g,i⟩:=gF F n a aF u.tape u.drawn;{rw[gG,p]at c;cases c}
  .rw[gG,p]at c;have O:fr1=f:=by injection c with e _ _;exact congrArg Goroutine.frame e
   have N:z=d:=by injection c with e _ _;exact zCz (congrArg Goroutine.callers e)
   have M:u1=v2:=by injection c
   subst O;subst N;subst M;obtain⟨H,q⟩:=i u.tape u.drawn cs aF (λ_ _=>rfl);have L:u1.re u.tape (u.drawn+(u1.drawn-u.drawn))=u1:=by have J:u.drawn+(u1.drawn-u.drawn)=u1.drawn:=by{omega};rw[J,<-j];rfl
   rw[L]at q;obtain⟨tN,y,u3,D3,w,t,s,r⟩:=A m (k.next (E _ _ _ a) q);exact⟨tN,y,u3,D3,w,t,λb C=>s b (g b C),r⟩
def eO {R E l cs}(hs:fr.mode= .run\/fr.defers≠[]\/l≠[]):¬AtEnd P R E fr (l++cs) v:=by
 intro h;have k:∀(m:FrameMode),m≠.run->fr.mode=m->fr.defers=[]->l++cs=[]->False:=λm d j i g=>by obtain x|x|x:=hs;{exact d (j.symm.trans x)};{exact x i};{exact x (List.append_eq_nil_iff.1 g).1}
 obtain⟨a,x,b,_⟩|⟨a,f,c,e,_⟩:=h
 .have:=b v.tape v.drawn;exact k _ (by simp) this.1 this.2.1 a
 .exact k _ (by simp) e f a
end
structure Ib (fr:zC)(own:zL):Prop where
 d:fr.defers=[]
 k:fr.kind= .normal
 up:∀g∈own,g.mode= .run/\g.defers=[]/\g.kind= .normal
inductive oT (P:zZ)(Al:zF)(fr:zC)(own:zL):zH->Prop
 |same {fr1:zC} (hf:fr1.fn=fr.fn) (hd:fr1.defers=fr.defers) (hk:fr1.kind=fr.kind):oT P Al fr own (G fr1 own)
 |enter {f:zN} (ha:Al f) (xs:zA) (hm:fr.mode= .run) (hz:xs.size<=20):oT P Al fr own (G (Frame.enter P f xs .normal) (fr::own))
 |back {g g1:zC} {rest:zL} (ho:own=g::rest) (hf:g1.fn=g.fn) (hd:g1.defers=g.defers) (hk:g1.kind=g.kind):oT P Al fr own (G g1 rest)
section
variable {P:zZ}{Al:zF}{F:Kp}{fr:zC}{own:zL}{w:zW}{mn:Bool}
def oQ (fr:zC)(v):(fr.finish v).fn=fr.fn/\(fr.finish v).defers=fr.defers/\(fr.finish v).kind=fr.kind:=by unfold Frame.finish;split<;>exact⟨rfl,rfl,rfl⟩
def EO (fr:zC)(c):(fr.raise c).fn=fr.fn/\(fr.raise c).defers=fr.defers/\(fr.raise c).kind=fr.kind:=by unfold Frame.raise;split<;>exact⟨rfl,rfl,rfl⟩
def qR (f)(xs):(Frame.enter P f xs .normal).defers=[]/\(Frame.enter P f xs .normal).kind= .normal/\(Frame.enter P f xs .normal).fn=f:=by
 cases P.funcs[f]? with
 |none=>exact⟨rfl,rfl,rfl⟩
 |some fn=>cases fn.body<;>exact⟨rfl,rfl,rfl⟩
def QF {D:zP}(q:bQ P Al K0 (cC D) w w)(r:(match fr.todo with| .call _ aF _ _::_=>CallKind.wrapped|_=> .normal)= .normal)(v:fr.mode= .run){s:Sem Next}(hs:bN P Al K0 (oV Al) (cC D) s s):
  (∃o u j,stepG.apply P aF fr own aB s w= .ended o u j)\/∃l w1 j,stepG.apply P aF fr own aB s w= .go l w1 j/\oT P Al fr own l:=by
 obtain(⟨hl,u,i,e,c⟩|⟨⟨n,t,_⟩,_⟩)|⟨z,v1,w1,i,d,_,_,_,⟨a,b,e,_,g⟩|⟨x,A,e,_,_⟩⟩:=hs.runT w w #[] #[] q
 .exact aH (lX e c)
 .cases t
 .right;unfold stepG.apply;simp only[zCs];rw[e];cases g with
  |value h=>have:=oQ fr;exact⟨_,_,_,rfl,.same (this _).1 (this _).2.1 (this _).2.2⟩
  |skip=>have:=oQ fr;exact⟨_,_,_,rfl,.same (this _).1 (this _).2.1 (this _).2.2⟩
  | @enter f c xs m B p=>
   have y:∀k:CallKind,k= .normal->oT P Al fr own (G (Frame.enter P f xs k) (fr::own)):=by rintro _ rfl;exact .enter c _ v p
   exact⟨_,_,_,rfl,y _ r⟩
 .right;unfold stepG.apply;simp only[zCs];rw[e];have:=EO fr;exact⟨_,_,_,rfl,.same (this _).1 (this _).2.1 (this _).2.2⟩
def WB (B:cB P Al K0)(L:∀f,¬Al (900000+f)){D}(A:bQ P Al K0 (cC D) w w)(E:cJ P Al K0 (cC D) fr fr)(C:fr.mode= .run)(hs:nZ Al fr):
  (∃o u g,stepG P mn (G fr own) w= .ended o u g)\/∃r w1 g,stepG P mn (G fr own) w= .go r w1 g/\oT P Al fr own r:=by
 have z:=A.ok;have n:=λx K=>E.eval z x K;obtain⟨fn,tmps,todo,defers,mode,kind,round⟩:=fr;obtain⟨V,U,T,S,H,R,Q,O,N,q,M⟩:=E;dsimp only at H q C;subst C;subst q;show(∃o u g,stepG.exec P mn aF ⟨fn,tmps,todo,defers,.run,kind,aB⟩ own aB w= .ended o u g)\/∃r w1 g,stepG.exec P mn aF ⟨fn,tmps,todo,defers,.run,kind,aB⟩ own aB w= .go r w1 g/\oT P Al ⟨fn,tmps,todo,defers,.run,kind,aB⟩ own r;cases todo with
 |nil=>exact aI ⟨_,_,_,rfl,.same rfl rfl rfl⟩
 |cons i k=>
  have hi:=H i zAy;cases i with
  |code c=>
   cases c with
   |cond c a b=>
    have v:=n c hi.1;unfold stepG.exec;dsimp only;generalize Frame.eval _ c=x at v⊢;obtain⟨y,v⟩:∃y,bG Al (cC D) x y:=⟨_,v⟩;cases v with
    |bool t=>exact aI ⟨_,_,_,rfl,.same rfl rfl rfl⟩
    |_=>exact aH ⟨_,_,_,rfl⟩
   |exit id=>
    unfold stepG.exec;dsimp only;cases he:exitTo id k with
    |none=>exact aH ⟨_,_,_,rfl⟩
    |some J=>exact aI ⟨_,_,_,rfl,.same rfl rfl rfl⟩
   |goto l=>
    unfold stepG.exec;dsimp only;cases he:gotoIn l k with
    |none=>exact aH ⟨_,_,_,rfl⟩
    |some J=>exact aI ⟨_,_,_,rfl,.same rfl rfl rfl⟩
   |rangeFunc f p a b=>exact hi.elim
   |refuse I=>exact aH ⟨_,_,_,rfl⟩
   |region id ops draw=>
    cases draw with
    |false=>exact aI ⟨_,_,_,rfl,.same rfl rfl rfl⟩
    |true=>exact aI ⟨_,_,_,rfl,.same rfl rfl rfl⟩
   |_=>exact aI ⟨_,_,_,rfl,.same rfl rfl rfl⟩
  |inBlock id=>exact aI ⟨_,_,_,rfl,.same rfl rfl rfl⟩
  |inScope b=>exact aI ⟨_,_,_,rfl,.same rfl rfl rfl⟩
  |inLoop b=>exact aI ⟨_,_,_,rfl,.same rfl rfl rfl⟩
  |inRegion ops l=>
   cases l with
   |nil=>exact aI ⟨_,_,_,rfl,.same rfl rfl rfl⟩
   |cons j rest=>
    cases d:ops[j]? with
    |none=>
     have s:stepG.exec P mn aF ⟨fn,tmps,aN ops (j::rest)::k,defers,.run,kind,aB⟩ own aB w= .go (G (Frame.finish ⟨fn,tmps,aN ops (j::rest)::k,defers,.run,kind,aB⟩ aEn) own) w:=by unfold stepG.exec;simp only[d,Option.map_none,Option.getD_none,zBe,zDe];rfl
     rw[s];exact aI ⟨_,_,_,rfl,.same rfl rfl rfl⟩
    |some o=>
     by_cases e:Region.wanted o (yielded ops tmps)=aF
     .have s:stepG.exec P mn aF ⟨fn,tmps,aN ops (j::rest)::k,defers,.run,kind,aB⟩ own aB w=stepG.apply P aF ⟨fn,tmps,aN ops (j::rest)::k,defers,.run,kind,aB⟩ own aB (aEd (Frame.eval ⟨fn,tmps,aN ops (j::rest)::k,defers,.run,kind,aB⟩) o) w:=by
       unfold stepG.exec;simp only[d,zBi,zCv,e,zCs];unfold stepG.oper;simp only[Frame.oper?,d]
      rw[s];have m:=hi o (zBj d);exact QF A rfl rfl (AX B.met m (λ_ _ _ _ _ _=>aH (aI λ_ h=>h)) (hs rfl _ _ _ _ _ rfl d e) (m.nd L) n)
     .have s:stepG.exec P mn aF ⟨fn,tmps,aN ops (j::rest)::k,defers,.run,kind,aB⟩ own aB w= .go (G (Frame.finish ⟨fn,tmps,aN ops (j::rest)::k,defers,.run,kind,aB⟩ aEn) own) w:=by
       unfold stepG.exec;simp only[d,zBi,zCv,e,zBe,zDe];rfl
      rw[s];exact aI ⟨_,_,_,rfl,.same rfl rfl rfl⟩
  |_=>exact hi.elim
def MR (j:Ib fr own)(hi:∀i∈fr.todo,kM P Al F i)(s:fr.mode≠.run)(q:own≠[]):
  (∃o u m,stepG P mn (G fr own) w= .ended o u m)\/∃p w1 m,stepG P mn (G fr own) w= .go p w1 m/\oT P Al fr own p:=by
 obtain⟨g,rest,rfl⟩:∃g rest,own=g::rest:=by
  cases own with
  |nil=>exact absurd rfl q
  |cons g rest=>exact⟨g,rest,rfl⟩
 have l:=lB hi;have f:=oQ g;have b:=EO g;have ret:∀(y:zY)(w1:zW),doReturn P mn fr (g::rest) aB y w1= .go (G (g.finish y) rest) w1:=λy w1=>by unfold doReturn;rw[j.k];rfl
 cases h:fr.mode with
 |run=>exact absurd h s
 |panicking chain=>
  have e:stepG P mn (G fr (g::rest)) w= .go (G (g.raise chain) rest) w:=by simp only[stepG,G,h,unwind,j.d,l,zBe,zDe]
  exact aI ⟨_,_,_,e,.back rfl (b _).1 (b _).2.1 (b _).2.2⟩
 |returning=>
  have n:stepG P mn (G fr (g::rest)) w=unwind P mn fr (g::rest) aB w:=by{simp only[stepG,G,h]};cases c:P.funcs[fr.fn]? with
  |none=>
   have e:stepG P mn (G fr (g::rest)) w= .go (G (g.finish (fr.tmps.getD 0 aEn)) rest) w:=by rw[n];simp only[unwind,j.d,h,c,ret]
   exact aI ⟨_,_,_,e,.back rfl (f _).1 (f _).2.1 (f _).2.2⟩
  |some fn=>
   cases a:(results fn fr.tmps).runT P w #[]with
   |mk r m=>
    cases r with
    |ok y w1=>
     have e:stepG P mn (G fr (g::rest)) w= .go (G (g.finish y) rest) w1 (seen P fr.fn m++ #[]):=by rw[n];unfold unwind;rw[j.d];rw[h];dsimp only;rw[c];dsimp only;rw[a];dsimp only;rw[ret];rfl
     exact aI ⟨_,_,_,e,.back rfl (f _).1 (f _).2.1 (f _).2.2⟩
    |halt hl w1=>left;rw[n];unfold unwind;rw[j.d];dsimp only;rw[h];dsimp only;rw[c];dsimp only;rw[a];dsimp only;cases hl<;>exact⟨_,_,_,rfl⟩
def DL (B:cB P Al K0)(m:∀f,¬Al (900000+f)){D}(c:Closed P Al D fr own w)(l:Ib fr own)(a:fr.mode= .run\/fr.defers≠[]\/own≠[]){b w1 es}(hs:stepG P mn (G fr own) w= .go b w1 es):oT P Al fr own b:=by
 have k:(∃o u es,stepG P mn (G fr own) w= .ended o u es)\/∃b w1 es,stepG P mn (G fr own) w= .go b w1 es/\oT P Al fr own b:=by
  by_cases i:fr.mode= .run;{exact WB B m c.world c.frame i (jG c.nj.2)}
  .obtain x|x|x:=a
   .exact absurd x i
   .exact absurd l.d x
   .exact MR l c.frame.items i x
 obtain⟨o,u,j,e⟩|⟨g,n,j,e,h⟩:=k
 .rw[hs]at e;cases e
 .rw[hs]at e;cases e;exact h
def oT.bf {fr1 own1}(a:Ib fr own)(h:oT P Al fr own (G fr1 own1)):Ib fr1 own1:=by
 generalize c:G fr1 own1=g at h;cases h with
 | @same m l e hk=>cases c;exact⟨e.trans a.d,hk.trans a.k,a.up⟩
 | @enter f o xs hm n=>cases c;have:=qR (P:=P) f xs;refine⟨this.1,this.2.1,λx b=> ?_⟩;obtain rfl|b:=zAg.1 b;{exact⟨hm,a.d,a.k⟩};{exact a.up x b}
 | @back g g1 rest j l e hk=>cases c;subst j;have i:=a.up g (by simp);exact⟨e.trans i.2.1,hk.trans i.2.2,λx b=>a.up x (zBc _ b)⟩
def oT.fns {fr1 own1}{p:zF}(d:∀x∈fr::own,p x.fn)(h:oT P Al fr own (G fr1 own1)):(∀x∈fr1::own1,p x.fn)\/∃f b,Al f/\¬p f/\fr1=Frame.enter P f b .normal/\own1=fr::own/\fr.mode= .run/\b.size<=20:=by
 generalize e:G fr1 own1=g at h;cases h with
 | @same n i l hk=>cases e;left;intro x a;obtain rfl|a:=zAg.1 a;{rw[i];exact d fr (by simp)};{exact d x (zBc _ a)}
 | @enter f m b hm j=>
  cases e;by_cases c:p f
  .left;intro x a;obtain rfl|a:=zAg.1 a
   .rw[(qR f b).2.2];exact c
   .exact d x a
  .exact aI ⟨f,b,m,c,rfl,rfl,hm,j⟩
 | @back g g1 rest k i l hk=>cases e;subst k;left;intro x a;obtain rfl|a:=zAg.1 a;{rw[i];exact d g (by simp)};{exact d x (zBc _ (zBc _ a))}
end
section
variable {P:zZ}{Al:zF}{F:Kp}{π:Rn}{cs' own own':zL}{v w:zW}{fs:Array Func}
def vI (P:zZ)(fs:Array Func)(Al:zF)(n:Nat)(s s':GStep):Prop:=
 (s'=s/\∀g w1 e,s= .go g w1 e->g.callers.length=n+1->fs[g.frame.fn]? =P.funcs[g.frame.fn]?)\/∃f x k callers w1 e,Al f/\x.size<=20/\(k= .normal\/Al (900000+f))/\callers.length=n+1/\s= .go {frame:=Frame.enter P f x k,callers,status:= .running,dying:=aB} w1 e/\s'= .go {frame:=Frame.enter ⟨P.toTables,fs⟩ f x k,callers,status:= .running,dying:=aB} w1 e/\fs[f]?≠P.funcs[f]?
def bM {n g0 w0 a}(h:g0.callers.length≠n+1):vI P fs Al n (.go g0 w0 a) (.go g0 w0 a):=aH ⟨rfl,λg w1 b e hl=>by cases e;exact absurd hl h⟩
def VH {n f x k C w0 a}(d:Al f)(b:x.size<=20)(c:k= .normal\/Al (900000+f))(hl:C.length=n+1):vI P fs Al n (.go {frame:=Frame.enter P f x k,callers:=C,status:= .running,dying:=aB} w0 a) (.go {frame:=Frame.enter ⟨P.toTables,fs⟩ f x k,callers:=C,status:= .running,dying:=aB} w0 a):=by
 by_cases e:fs[f]? =P.funcs[f]?
 .rw[Np e];exact aH ⟨rfl,λg w1 i h _=>by cases h;exact e⟩
 .exact aI ⟨f,x,k,C,w0,a,d,b,c,hl,rfl,rfl,e⟩
def Gf (M:Met P Al F){f0 f}(d:Al f0){cs x xs w w1 es b}(h:(invoke (.fn (.func f0) cs) x).runT P w es=(.ok (.enter f xs) w1,b)):f=f0:=by
 have e:invoke (.fn (.func f0) cs) x=callFunc f0 (x++cs):=by rfl
 rw[e]at h;have h:(match P.funcs[f0]? with
  |none=>stuck "call: no such function"
  |some fn=>if fn.name== "runtime.NumGoroutine" then pure .numGoroutine
   else if fn.body.isNone then do
    mark (.extern f0)
    if let aA e:=Extern.findNext fn then return<-e (x++cs)
    match Extern.find fn with
    |some e=>pure (.value (<-e (x++cs)))
    |none=>if fn.name.endsWith ".init"&& !fn.name.startsWith "("&& !fn.name.startsWith "gosem." then pure (.value (.tuple #[]))else unsupported (.extern fn.name)
   else pure (.enter f0 (x++cs)):Sem Next).runT P w es=(.ok (.enter f xs) w1,b):=h
 cases a:P.funcs[f0]? with
 |none=>rw[a]at h;cases h
 |some fn=>
  rw[a]at h;dsimp only at h;have m:=zDr (M.name f0 fn d a);rw[m]at h;simp only[zBe,zDe]at h;cases hb:fn.body with
  |some c=>rw[hb]at h;simp only[Option.isNone_some,zBe,zDe]at h;cases h;rfl
  |none=>
   exfalso;obtain⟨j,ex,i,_⟩:=M.lW f0 fn d a hb;rw[hb,j,i]at h;simp only[Option.isNone_none,zCs]at h;have h:(do
    mark (.extern f0)
    let y<-ex (x++cs)
    pure (aEo y):Sem Next).runT P w es=(.ok (.enter f xs) w1,b):=h
   cases g:(do
    mark (.extern f0)
    ex (x++cs):Sem zY).runT P w es with
   |mk r k=>
    have l:(do
     mark (.extern f0)
     let y<-ex (x++cs)
     pure (aEo y):Sem Next)=(do
     let y<-(do
      mark (.extern f0)
      ex (x++cs):Sem zY)
     pure (aEo y):Sem Next):=by simp
    rw[l,bD,g]at h;cases r with
    |ok y u=>cases h
    |halt n u=>cases h
def OR (c:Shape P fs)(i:F.nR=aB)(o:bQ P Al F π v w){fr':zC}{C:zL}(t:(match fr'.todo with| .call _ aF _ _::_=>CallKind.wrapped|_=> .normal)= .normal){s s':Sem Next}(hs:bN P Al F (HU Al) π s s'):
  (∃hl u g,s.runT P v #[]=(.halt hl u,g)/\Fatal hl)\/vI P fs Al C.length (stepG.apply P aF fr' C aB s' w) (stepG.apply ⟨P.toTables,fs⟩ aF fr' C aB s' w):=by
 obtain h|hb:=hs.blind c i v w #[] #[] o
 .exact aH h
 obtain(⟨hl,q,g,e,j⟩|⟨k,_⟩)|⟨A,v1,w1,g,d,h1,J,I,z⟩:=hs.runT v w #[] #[] o
 .exact aH ⟨hl,q,g,e,j⟩
 .exact absurd k (sK i _)
 .right;obtain⟨a,b,r1,r2,m⟩|⟨x,B,r1,r2,D⟩:=z
  .unfold stepG.apply;simp only[zCs];rw[hb,r2];cases m with
   |value E=>simp only[dX c];exact bM (by simp[G])
   |skip=>simp only[dX c];exact bM (by simp[G])
   | @enter f l p n y r=>simp only[dX c];exact VH l (by rw[y.size];exact r) (aH t) (by simp)
   |defer H=>simp only[dX c];exact bM (by simp[G])
  .unfold stepG.apply;simp only[zCs];rw[hb,r2];simp only[dX c];exact bM (by simp[G])
def UF {cs:zL}(B:cB P Al F)(N:Shape P fs)(D:F.nR=aB)(U:bQ P Al F π v w){fr fr':zC}(W:cJ P Al F π fr fr')(V:fr.mode= .run)(T C:Bool)(hq:rE P F fr:=by first|assumption|exact xO (λ_ h=>h))(hs:nZ Al fr:=by first|assumption|exact jG (by assumption)):
  (∃o u Q,stepG P T (G fr cs) v= .ended o u Q)\/vI P fs Al cs'.length (stepG P C (G fr' cs') w) (stepG ⟨P.toTables,fs⟩ C (G fr' cs') w):=by
 have M:=U.ok;have H:=λx hx=>W.eval M x hx;obtain⟨fn,tmps,todo,defers,mode,kind,round⟩:=fr;obtain⟨q,z,y,n,K,g,pD⟩:=fr';obtain⟨h1,h2,h3,h4,Z,h6,Y,X,h9,J,I⟩:=W;dsimp only at h1 h2 h3 h4 Z h6 Y X h9 J I V;subst h1;subst h4;subst X;subst J;subst I;subst V;cases Y;show(∃o u Q,stepG.exec P T aF ⟨q,tmps,y,defers,.run,g,aB⟩ cs aB v= .ended o u Q)\/vI P fs Al cs'.length (stepG.exec P C aF ⟨q,z,y,n,.run,g,aB⟩ cs' aB w) (stepG.exec ⟨P.toTables,fs⟩ C aF ⟨q,z,y,n,.run,g,aB⟩ cs' aB w);cases y with
 |nil=>exact aI (bM (by simp[G]))
 |cons i k=>
  have hi:=Z i zAy;cases i with
  |code c=>
   cases c with
   |cond c a b=>
    have O:=H c hi.1;unfold stepG.exec;dsimp only;generalize Frame.eval _ c=x at O⊢;generalize Frame.eval _ c=x' at O⊢;cases O with
    |bool t=>exact aI (bM (by simp[G]))
    |_=>exact aH ⟨_,_,_,rfl⟩
   |exit id=>
    unfold stepG.exec;dsimp only;cases he:exitTo id k with
    |none=>exact aH ⟨_,_,_,rfl⟩
    |some k'=>exact aI (bM (by simp[G]))
   |goto l=>
    unfold stepG.exec;dsimp only;cases he:gotoIn l k with
    |none=>exact aH ⟨_,_,_,rfl⟩
    |some k'=>exact aI (bM (by simp[G]))
   |rangeFunc f p a b=>exact hi.elim
   |refuse zv=>exact aH ⟨_,_,_,rfl⟩
   |region id ops draw=>
    cases draw with
    |false=>exact aI (bM (by simp[G]))
    |true=>exact aI (bM (by simp[G]))
   |_=>exact aI (bM (by simp[G]))
  |inBlock id=>exact aI (bM (by simp[G]))
  |inScope b=>exact aI (bM (by simp[G]))
  |inLoop b=>exact aI (bM (by simp[G]))
  |inRegion ops l=>
   cases l with
   |nil=>exact aI (bM (by simp[G]))
   |cons j rest=>
    have S:∀(p:zZ)(u:zW)(c:zL)(t:zA)(d:List Deferred)(m:Bool),stepG.exec p m aF ⟨q,t,aN ops (j::rest)::k,d,.run,g,aB⟩ c aB u=
      if(((ops[j]?).map (Region.wanted · (yielded ops t))).getD aG)=aF then stepG.oper p aF ⟨q,t,aN ops (j::rest)::k,d,.run,g,aB⟩ c aB u
      else .go (G (Frame.finish ⟨q,t,aN ops (j::rest)::k,d,.run,g,aB⟩ aEn) c) u:=λp u c t d m=>rfl
    rw[S,S,S];have ey:=funext (oE h3 ops);rw[ey];split
    .rename_i L;cases A:ops[j]? with
     |none=>left;simp[stepG.oper,Frame.oper?,A]
     |some o=>
      have R:∀(p:zZ)(u:zW)(c:zL)(t:zA)(d:List Deferred),stepG.oper p aF ⟨q,t,aN ops (j::rest)::k,d,.run,g,aB⟩ c aB u=
        stepG.apply p aF ⟨q,t,aN ops (j::rest)::k,d,.run,g,aB⟩ c aB (aEd (Frame.eval ⟨q,t,aN ops (j::rest)::k,d,.run,g,aB⟩) o) u:=λp u c t d=>by
       unfold stepG.oper
       simp only[Frame.oper?,A]
      rw[R,R,R];obtain⟨hl,u,kt,e,E⟩|h:=OR (fr':=⟨q,z,aN ops (j::rest)::k,n,.run,g,aB⟩) N D U rfl (DZ B.met (hi o (zBj A)) (hq rfl _ _ _ _ _ rfl A) (hs rfl _ _ _ _ _ rfl A (by simpa [A]using L)) H);{exact aH (lX e E)};{exact aI h}
    .exact aI (bM (by simp[G]))
  |inRangeFunc l=>exact hi.elim
  |endRangeFunc l=>exact hi.elim
  |beginRound=>exact hi.elim
  |call d b r s=>exact hi.elim
  |extern r a=>exact hi.elim
def tX {cs}(B:cB P Al F)(h:Shape P fs)(i:F.nR=aB)(s:bQ P Al F π v w){fr fr'}(W:cJ P Al F π fr fr'){d J}(A:II Al π d J)(hl:∀f cs q,d=⟨.fn (.func f) cs,q⟩->Al (900000+f)):
  (∃o u X,callDeferred P fr cs aB d v= .ended o u X)\/vI P fs Al cs'.length (callDeferred P fr' cs' aB J w) (callDeferred ⟨P.toTables,fs⟩ fr' cs' aB J w):=by
 have V:=s.ok;have g:=DV B.met A;cases A;case fn f0 z xs T S E Z C U=>
  unfold callDeferred
  simp only[Bool.false_and,zBe,↓reduceIte]
  obtain⟨hl,u,j,e,c⟩|hb:=g.blind h i v w #[] #[] s
  .left;rw[e];obtain⟨l,rfl⟩|⟨u,rfl,hu⟩:=c
   .exact⟨_,_,_,rfl⟩
   .exact⟨_,_,_,rfl⟩
  .obtain(⟨hl,u,j,e,c⟩|⟨n,_⟩)|⟨K,v1,w1,j,R,h1,Q,O,D⟩:=g.runT v w #[] #[] s
   .left;rw[e];obtain⟨l,rfl⟩|⟨u,rfl,hu⟩:=c
    .exact⟨_,_,_,rfl⟩
    .exact⟨_,_,_,rfl⟩
   .exact absurd n (sK i _)
   .right;obtain⟨a,b,r1,r2,p⟩|⟨x,L,r1,r2,M⟩:=D
    .rw[hb,r2];cases p with
     |value N=>simp only[dX h];exact bM (by simp[G])
     |skip=>simp only[dX h];exact bM (by simp[G])
     | @enter f t q r C H=>simp only[dX h];exact VH t (by rw[C.size];exact H) (aI (by have:=Gf B.met z r2;rw[this];exact hl _ _ _ rfl)) (by simp)
     |defer A=>simp only[dX h];exact bM (by simp[G])
    .rw[hb,r2];simp only[dX h];exact bM (by simp[G])
 case nil S E C=>
  have k:=W.mode
  generalize I:fr.mode=m at k
  generalize y:fr'.mode=Y at k
  unfold callDeferred
  rw[I,y]
  cases k
  case run=>
   simp only[Bool.and_false,zBe,↓reduceIte]
   obtain⟨hl,u,j,e,c⟩|hb:=g.blind h i v w #[] #[] s
   .left;rw[e];obtain⟨l,rfl⟩|⟨u,rfl,hu⟩:=c
    .exact⟨_,_,_,rfl⟩
    .exact⟨_,_,_,rfl⟩
   .obtain(⟨hl,u,j,e,c⟩|⟨n,_⟩)|⟨K,v1,w1,j,R,h1,Q,O,D⟩:=g.runT v w #[] #[] s
    .left;rw[e];obtain⟨l,rfl⟩|⟨u,rfl,hu⟩:=c
     .exact⟨_,_,_,rfl⟩
     .exact⟨_,_,_,rfl⟩
    .exact absurd n (sK i _)
    .right;obtain⟨a,b,r1,r2,p⟩|⟨x,L,r1,r2,M⟩:=D
     .rw[hb,r2];cases p with
      |value N=>simp only[dX h];exact bM (by simp[G])
      |skip=>simp only[dX h];exact bM (by simp[G])
      | @enter f t q r C H=>simp only[dX h];cases r2
      |defer A=>simp only[dX h];exact bM (by simp[G])
     .rw[hb,r2];simp only[dX h];exact bM (by simp[G])
  case returning=>
   simp only[Bool.and_false,zBe,↓reduceIte]
   obtain⟨hl,u,j,e,c⟩|hb:=g.blind h i v w #[] #[] s
   .left;rw[e];obtain⟨l,rfl⟩|⟨u,rfl,hu⟩:=c
    .exact⟨_,_,_,rfl⟩
    .exact⟨_,_,_,rfl⟩
   .obtain(⟨hl,u,j,e,c⟩|⟨n,_⟩)|⟨K,v1,w1,j,R,h1,Q,O,D⟩:=g.runT v w #[] #[] s
    .left;rw[e];obtain⟨l,rfl⟩|⟨u,rfl,hu⟩:=c
     .exact⟨_,_,_,rfl⟩
     .exact⟨_,_,_,rfl⟩
    .exact absurd n (sK i _)
    .right;obtain⟨a,b,r1,r2,p⟩|⟨x,L,r1,r2,M⟩:=D
     .rw[hb,r2];cases p with
      |value N=>simp only[dX h];exact bM (by simp[G])
      |skip=>simp only[dX h];exact bM (by simp[G])
      | @enter f t q r C H=>simp only[dX h];cases r2
      |defer A=>simp only[dX h];exact bM (by simp[G])
     .rw[hb,r2];simp only[dX h];exact bM (by simp[G])
  case panicking=>exact aH ⟨_,_,_,rfl⟩
def oG {cs:zL}(B:cB P Al F)(z:Shape P fs)(q:F.nR=aB)(K:bQ P Al F π v w){fr fr':zC}(j:cJ P Al F π fr fr')(n:(fs[fr.fn]?).map (·.results)=(P.funcs[fr.fn]?).map (·.results))(ho:fZ (cJ P Al F π) own own')
  (D:fr.mode= .run\/fr.defers≠[]\/own≠[]) (S s:Bool) (hq:rE P F fr:=by first|assumption|exact xO (λ_ h=>h)) (hs:nZ Al fr:=by first|assumption|exact jG (by assumption)):
  (∃o u es,stepG P S (G fr (own++cs)) v= .ended o u es)\/vI P fs Al (own'++cs').length (stepG P s (G fr' (own'++cs')) w) (stepG ⟨P.toTables,fs⟩ s (G fr' (own'++cs')) w):=by
 by_cases H:fr.mode= .run
 .exact UF B z q K j H S s hq hs
 .have hs:=D.resolve_left H;have X:=K.ok;have g:=j.mode;have aA0:fr'.mode≠.run:=λe=>by rw[e]at g;generalize fr.mode=m at g H;cases g;exact H rfl
  have e1:stepG P S (G fr (own++cs)) v=unwind P S fr (own++cs) aB v:=by simp only[stepG,G]
  have Q:∀p:zZ,stepG p s (G fr' (own'++cs')) w=unwind p s fr' (own'++cs') aB w:=λp=>by simp only[stepG,G]
  rw[e1,Q,Q];have Z:=j.defers;unfold unwind;generalize hdv:fr.defers=l at Z hs;generalize hdw:fr'.defers=l' at Z;cases Z with
  | @cons d d' ds ds' I T=>
   have Y:cJ P Al F π {fr with defers:=ds} {fr' with defers:=ds'}:=⟨j.fn,j.al,j.tmps,j.todo,j.items,T,j.mode,j.kind,j.kinds,j.round,j.pD⟩;have:=tX (cs:=own++cs) (cs':=own'++cs') B z q K Y I.rel (λf cs JO e=>by obtain⟨f2,cs2,as2,Q,T⟩:=I.lets;rw[e]at Q;cases Q;exact T)
   obtain⟨I,_⟩:=I;cases I with
   |fn hfa hc ha=>exact this
   |nil ha=>exact this
  |nil=>
   cases ho with
   |nil=>obtain h|h:=hs<;>exact absurd rfl h
   | @cons c c' R J hc ho=>
    generalize hfm:fr.mode=m at g H;generalize aBu:fr'.mode=m' at g;cases g with
    |run=>exact absurd rfl H
    |panicking hl=>
     right;dsimp only;have M:∀i∈fr'.todo,kM P Al F i:=by rw[j.todo];exact j.items
     rw[lB M];have:fr'.catches ⟨P.toTables,fs⟩=aG:=by unfold Frame.catches;split;{rename_i ht;have hh:=(λi k (e:fr'.todo=i::k)=>M i (by rw[e];exact zAy)) _ _ ht;exact False.elim hh};{rfl}
     rw[this];exact bM (by simp;omega)
    |returning=>
     dsimp only;rw[j.fn];cases C:P.funcs[fr.fn]? with
     |none=>
      rw[C]at n;cases r:fs[fr.fn]? with
      |some y=>rw[r]at n;cases n
      |none=>right;dsimp only;unfold doReturn;rw[j.kind];obtain e|e:=j.kinds<;>rw[e]<;>exact bM (by simp;omega)
     |some fn=>
      rw[C]at n;cases r:fs[fr.fn]? with
      |none=>rw[r]at n;cases n
      |some N=>
      rw[r]at n;have L:N.results=fn.results:=by{simpa using n};have E:∀V,results N V=results fn V:=λV=>by{unfold results;rw[L]};dsimp only;rw[E];have A:=gY (F:=F) fn (ok:=X) j.tmps;obtain⟨hl,u,O,e,t⟩|hb:=A.blind z q v w #[] #[] K
      .left;rw[e];obtain⟨U,rfl⟩|⟨u,rfl,hu⟩:=t
       .exact⟨_,_,_,rfl⟩
       .exact⟨_,_,_,rfl⟩
      .obtain(⟨hl,u,O,e,t⟩|⟨W,_⟩)|⟨ρ,v1,w1,O,dd,I,T,h3,h4⟩:=A.runT v w #[] #[] K
       .left;rw[e];obtain⟨U,rfl⟩|⟨u,rfl,hu⟩:=t
        .exact⟨_,_,_,rfl⟩
        .exact⟨_,_,_,rfl⟩
       .exact absurd W (sK q _)
       .obtain⟨a,b,r1,r2,ag⟩|⟨x,x',r1,r2,hx⟩:=h4
        .right;rw[hb,r2];simp only[dX z];unfold doReturn;rw[j.kind];obtain e|e:=j.kinds<;>rw[e]<;>exact bM (by simp;omega)
        .left;rw[r1];exact⟨_,_,_,rfl⟩
end
def VN (o:Option Obj):Prop:=∃x,o=aA (aJ #[.bool x] 4 (0,0))
structure jY (v u:zW):Prop where
 size:v.heap.size<=u.heap.size
 old:∀b,b<v.heap.size->u.heap[b]? =v.heap[b]?
 new:∀b,v.heap.size<=b->b<u.heap.size->VN u.heap[b]?
def jY.refl {v}:jY v v:=⟨zAb _,λ_ _=>rfl,λb a h=>absurd h (zEy.2 a)⟩
def jY.trans {v u t:zW}(h:jY v u)(k:jY u t):jY v t:=
 ⟨zBb h.size k.size,λb a=>(k.old b (zAd a h.size)).trans (h.old b a),λb d c=>by
  obtain x|x:=zDc b u.heap.size;{rw[k.old b x];exact h.new b d x}
  .exact k.new b x c⟩
def jY.re {v u}(h:jY v u)(b a)(d c):jY (v.re b d) (u.re a c):=⟨h.size,h.old,h.new⟩
section
variable {P:zZ}{Al:zF}{f0:zN}{pr:zA->List PanicEntry}{own:zL}{v:zW}{D:zP}
structure Pc (P:zZ)(Al:zF)(Fl:zW->Prop):Prop where
 keep:∀v u,Fl v->jY v u->Fl u
 run:∀f xs v D,Fl v->Al f->Al (900000+f)->xs.size<=20->Closed P Al D (Frame.enter P f xs .deferred) [] v->∃τ d,Lone P [bI] (λfr l u=>l=[]/\fr.mode= .returning/\fr.defers=[]/\fr.kind= .deferred/\(∃fn y,P.funcs[fr.fn]? =aA fn/\∀w,(results fn fr.tmps).runT P w #[]=(.ok y w,#[]))/\jY v u) (Frame.enter P f xs .deferred) [] (v.re τ d)
 inv:∀f xs cs w es,Al f->Al (900000+f)->(invoke (.fn (.func f) cs) xs).runT P w es=(.ok (.enter f (xs++cs)) w,es)
def Ends.Se {Fl:zW->Prop}(hB:∀K:Kp,(∀b,¬K b)->cB P Al K)(hQ:Pc P Al Fl){R:zR}{E:List PanicEntry->zW->Prop}:∀(n:Nat)(own:zL)(fr:zC)(v:zW)(D:zP)(c:List PanicEntry),(((fr::own).map λg=>g.defers.length+1).sum<=n)->Ends P Al (AtEnd P R E) fr own v->Closed P Al D fr own v->fr.mode= .panicking c->(∃p rest,c=p::rest/\p.recovered=aG)->Fl v->
  ∃u more,jY v u/\∀s d,E (c++more) (u.re s d):=by
 have ab:∀b,¬K0 b:=λb h=>h;intro n;induction n with
 |zero=>intro own fr v D c h;simp at h
 |succ n ih=>
  intro own fr v D c hn he hc J A w;have Y:=lB hc.frame.items;cases O:fr.defers with
  |nil=>
   cases own with
   |nil=>
    cases he with
    |stop h=>obtain⟨_,x,F,_⟩|⟨_,_,c',C,a⟩:=h;{have:=(F v.tape v.drawn).1;rw[J]at this;cases this};{rw[J]at C;cases C;exact⟨v,[],.refl,λs d=>by rw[zAq];exact a s d⟩}
    |step i=>obtain e|e|e:=i;{rw[J]at e;cases e};{exact absurd O e};{exact absurd rfl e}
   |cons g rest=>
    have H:stepG P aF (G fr (g::rest)) (v.re v.tape v.drawn)= .go (G (g.raise c) rest) v #[]:=by rw[gG];simp only[stepG,G,J,unwind,O,Y,zBe,zDe]
    have I:Ends P Al (AtEnd P R E) (g.raise c) rest v:=he.next (λx=>by
     obtain x|x:=x;{cases x.1}
     .cases x.1) H
    have M:∃D1,Closed P Al D1 (g.raise c) rest v:=by have F:=gF (cs:=[]) hB hc (aI (aI (by simp))) aF v.tape v.drawn;rw[zAq,H]at F;obtain⟨o,u,N,a⟩|⟨m,lP,v2,N,D2,a,q,_⟩:=F;{cases a};{rw[zAq]at a;have e1:g.raise c=m:=by{injection a with e _ _;exact congrArg Goroutine.frame e};have e2:rest=lP:=by{injection a with e _ _;exact congrArg Goroutine.callers e};have e3:v=v2:=by{injection a};subst e1;subst e2;subst e3;exact⟨D2,q⟩}
    obtain⟨D1,j⟩:=M;have hr:∃c2,(g.raise c).mode= .panicking (c++c2)/\(g.raise c).defers=g.defers:=by
     unfold Frame.raise;cases hgm:g.mode with
     |panicking ch=>exact⟨ch,rfl,rfl⟩
     |_=>exact⟨[],by simp,rfl⟩
    obtain⟨c2,z,L⟩:=hr;obtain⟨u,more,C,a⟩:=ih rest (g.raise c) v D1 (c++c2) (by
     simp only[zEf,List.sum_cons]at hn⊢;rw[L];omega) I j z (by
     obtain⟨p,r,e,A⟩:=A;exact⟨p,r++c2,by rw[e];rfl,A⟩) w
    exact⟨u,c2++more,C,λs d=>by rw[<-zBo];exact a s d⟩
  |cons d ds=>
   have X:=hc.frame.defers;rw[O]at X;obtain⟨hrel,f,cs,k,ed,W⟩:IG Al (cC D) d d:=by
    cases X with
    |cons h _=>exact h
   subst ed;obtain⟨Z,hz⟩:Al f/\k.size+cs.size<=20:=by
    cases hrel with
    |fn hf _ _ hz=>exact⟨hf,hz⟩
   have H:stepG P aF (G fr own) (v.re v.tape v.drawn)= .go (G (Frame.enter P f (k++cs) .deferred) ({fr with defers:=ds}::own)) v (seen P fr.fn #[]++ #[]):=by rw[gG];have e0:stepG P aF (G fr own) v=unwind P aF fr own aB v:=by{simp only[stepG,G,J]};rw[e0];unfold unwind;rw[O];dsimp only;unfold callDeferred;simp only[Bool.false_and,zBe,↓reduceIte];rw[hQ.inv f k cs v #[] Z W];rfl
   have i:fr.mode= .run\/fr.defers≠[]\/own≠[]:=aI (aH (by rw[O];simp));have I:Ends P Al (AtEnd P R E) (Frame.enter P f (k++cs) .deferred) ({fr with defers:=ds}::own) v:=he.next (λx=>by have:=eO (P:=P) (R:=R) (E:=E) (fr:=fr) (l:=own) (cs:=[]) (v:=v) i;rw[zAq]at this;exact this x) H
   have M:∃D1,Closed P Al D1 (Frame.enter P f (k++cs) .deferred) ({fr with defers:=ds}::own) v:=by have F:=gF (cs:=[]) hB hc i aF v.tape v.drawn;rw[zAq,H]at F;obtain⟨o,u,N,a⟩|⟨m,lP,v2,N,D2,a,q,_⟩:=F;{cases a};{rw[zAq]at a;have e1:Frame.enter P f (k++cs) .deferred=m:=by{injection a with e _ _;exact congrArg Goroutine.frame e};have e2:{fr with defers:=ds}::own=lP:=by{injection a with e _ _;exact congrArg Goroutine.callers e};have e3:v=v2:=by{injection a};subst e1;subst e2;subst e3;exact⟨D2,q⟩}
   obtain⟨D1,j⟩:=M;obtain⟨s,d0,hl⟩:=hQ.run f (k++cs) v D1 w Z W (by rw[zEp];exact hz) ⟨j.frame,.nil,j.world,j.nj⟩;have hc':Closed P Al D1 (Frame.enter P f (k++cs) .deferred) [] (v.re s d0):=⟨j.frame,.nil,fW j.world ab s s d0 d0 (λ_ _=>rfl),j.nj⟩;obtain⟨m,l2,u2,D2,⟨e,z,L,V,⟨fn,y,hfn,S⟩,t⟩,q,Q,he2⟩:=Lone.through hB (T:=AtEnd P R E) (cs:={fr with defers:=ds}::own) (λ_ _ _ H=>eO H) hl hc' (I.re (λ_ _ _ s d h=>h.re s d) s d0);subst e;have ow:stepG P aF (G m ({fr with defers:=ds}::own)) (u2.re u2.tape u2.drawn)= .go (G {fr with defers:=ds} own) u2 (seen P m.fn #[]++ #[]):=by rw[gG];have e0:stepG P aF (G m ({fr with defers:=ds}::own)) u2=unwind P aF m ({fr with defers:=ds}::own) aB u2:=by{simp only[stepG,G,z]};rw[e0];unfold unwind;rw[L];dsimp only;rw[z];dsimp only;rw[hfn];dsimp only;rw[S];dsimp only;unfold doReturn;rw[V];dsimp only;rw[J];obtain⟨p,r,e,A⟩:=A;subst e;obtain⟨pv,prec,pg⟩:=p;dsimp only at A;subst A;rfl
   have U:Ends P Al (AtEnd P R E) {fr with defers:=ds} own u2:=he2.next (λx=>by
    obtain x|x:=x;{cases x.1}
    .cases x.1) ow
   have B:∀b b',cC D1 b b'->cC D2 b b':=λb b' h=>⟨h.1,Q b h.2⟩;have hc3:Closed P Al D2 {fr with defers:=ds} own u2:=by
    have ho:=j.own;cases ho with
    |cons C a=>exact⟨C.mono B,a.imp λ_ _ h=>h.mono B,q.world,q.nj⟩
   obtain⟨u,more,C,a⟩:=ih own {fr with defers:=ds} u2 D2 c (by simp only[zEf,List.sum_cons,O,zAf]at hn⊢;omega) U hc3 J A (hQ.keep _ _ w t)
   exact⟨u,more,t.trans C,a⟩
def Sd {Fl Ok0:zW->Prop}{un:zW->zW}(y:∀a b,Fl a->jY a b->jY (un a) (un b))(w:∀K:Kp,(∀b,¬K b)->cB P Al K)(F:Pc P Al Fl)(A:∀xs v D,xs.size<=20->Closed P Al D (Frame.enter P f0 xs .normal) [] v->Ok0 v->∃c d,Lone P [bI] (λfr l u=>l=[]/\fr.mode= .panicking (pr xs)/\fr.defers=[]/\Fl u/\jY v (un u)) (Frame.enter P f0 xs .normal) [] (v.re c d))
  (n:∀xs,∃p rest,pr xs=p::rest/\p.recovered=aG) {R:zR} {E:List PanicEntry->zW->Prop} {xs:zA} (x:xs.size<=20) (i:Closed P Al D (Frame.enter P f0 xs .normal) own v) (I:Ok0 v)
  (C:Ends P Al (AtEnd P R E) (Frame.enter P f0 xs .normal) own v):∃u more,jY v (un u)/\∀c d,E (pr xs++more) (u.re c d):=by
 have o:∀b,¬K0 b:=λb h=>h;obtain⟨c,d,hl⟩:=A xs v D x ⟨i.frame,.nil,i.world,i.nj⟩ I;have r:Closed P Al D (Frame.enter P f0 xs .normal) [] (v.re c d):=⟨i.frame,.nil,fW i.world o c c d d (λ_ _=>rfl),i.nj⟩;obtain⟨s,J,u2,D2,⟨e,B,L,m,f⟩,g,j,q⟩:=Lone.through w (T:=AtEnd P R E) (cs:=own) (λ_ _ _ z=>eO z) hl r (C.re (λ_ _ _ c d h=>h.re c d) c d);subst e;have k:∀b t,cC D b t->cC D2 b t:=λb t h=>⟨h.1,j b h.2⟩;obtain⟨u,more,H,G⟩:=Ends.Se w F _ own s u2 D2 (pr xs) (zAb _) q ⟨g.frame,i.own.imp λ_ _ h=>h.mono k,g.world,g.nj⟩ B (n xs) m;exact⟨u,more,f.trans (y _ _ m H),G⟩
end
end Go.Ren
namespace Go.Proofs
open Go.Ren Go.Conc
def eR (tm:zA)(todo:zI):zC:={fn:=233,tmps:=tm,todo,defers:=[],mode:= .run,kind:= .normal}
def yW (xs):Frame.enter zq 233 xs .normal=eR (xs++aD5 (43-xs.size) aEn) [.code Qz.qX]:=by unfold Frame.enter;rw[Qz.func233];rfl
section
variable {cs:zL}{S:zS}{tm:zA}{k:zI}{v v1:zW}{ops:zQ}{j:Nat}{rest:List Nat}{o:Oper}
def ES {P fr u}(c:fr.mode= .run)(a:fr.todo=aN ops (j::rest)::k)(b:fr.roundOf=aB)(h:ops[j]? =aA o)(d:o.guard=aB)(m):stepG P m (G fr cs) u=stepG.apply P aF fr cs aB (aEd fr.eval o) u:=by
 obtain⟨fn,tmps,todo,defers,mode,kind,round⟩:=fr;dsimp only at c a b;subst c;subst a;subst b;show stepG.exec P m aF ⟨fn,tmps,aN ops (j::rest)::k,defers,.run,kind,aB⟩ cs aB u=_;have f:stepG.exec P m aF ⟨fn,tmps,aN ops (j::rest)::k,defers,.run,kind,aB⟩ cs aB u=
   if(((ops[j]?).map (Region.wanted · (yielded ops tmps))).getD aG)=aF then stepG.oper P aF ⟨fn,tmps,aN ops (j::rest)::k,defers,.run,kind,aB⟩ cs aB u
   else .go (G (Frame.finish ⟨fn,tmps,aN ops (j::rest)::k,defers,.run,kind,aB⟩ aEn) cs) u:=rfl
 have e:Region.wanted o (yielded ops tmps)=aF:=by unfold Region.wanted;rw[d]
 rw[f,h];simp only[zBi,zCv,e,zCs];unfold stepG.oper;simp only[Frame.oper?,h]
def fA (a:ops[j]? =aA o)(g:o.guard=aB){y:zY}{b:zE}(f:(aEd (eR tm (aN ops (j::rest)::k)).eval o).runT zq v #[]=(.ok (.value y) v1,b)){tm1:zA}(c:tm1=match o.dst with|some d=>tm.setIfInBounds d y|none=>tm)
  (h:Lone zq cs S (eR tm1 (aN ops rest::k)) [] v1):Lone zq cs S (eR tm (aN ops (j::rest)::k)) [] v:=by
 obtain⟨l,e,_⟩:=oS f;refine Lone.step (aH rfl) ((ES rfl rfl rfl a g aF).trans e) ?_;have i:(eR tm (aN ops (j::rest)::k)).finish y=eR tm1 (aN ops rest::k):=by subst c;unfold Frame.finish eR;simp only[a,zEb];cases o.dst<;>rfl
 rw[i];exact h
def yU (a:ops[j]? =aA o)(f:o.guard=aB)(g:o.dst=aB){b}(d:(aEd (eR tm (aN ops (j::rest)::k)).eval o).runT zq v #[]=(.ok .skip v1,b))
  (h:Lone zq cs S (eR tm (aN ops rest::k)) [] v1):Lone zq cs S (eR tm (aN ops (j::rest)::k)) [] v:=by
 have e:∃c,stepG.apply zq aF (eR tm (aN ops (j::rest)::k)) ([]++cs) aB (aEd (eR tm (aN ops (j::rest)::k)).eval o) v= .go (G ((eR tm (aN ops (j::rest)::k)).finish aEn) ([]++cs)) v1 c:=by unfold stepG.apply;simp only[zCs];rw[d];exact⟨_,rfl⟩
 obtain⟨c,e⟩:=e;refine Lone.step (aH rfl) ((ES rfl rfl rfl a f aF).trans e) ?_;have i:(eR tm (aN ops (j::rest)::k)).finish aEn=eR tm (aN ops rest::k):=by unfold Frame.finish eR;simp only[a,zEb,g]
 rw[i];exact h
def YC (a:ops[j]? =aA o)(f:o.guard=aB){x b}(d:(aEd (eR tm (aN ops (j::rest)::k)).eval o).runT zq v #[]=(.halt (.panic x) v1,b))
  (h:S {eR tm (aN ops (j::rest)::k)with mode:= .panicking [{v:=x,recovered:=aG}]} [] v1):Lone zq cs S (eR tm (aN ops (j::rest)::k)) [] v:=by
 have e:∃c,stepG.apply zq aF (eR tm (aN ops (j::rest)::k)) ([]++cs) aB (aEd (eR tm (aN ops (j::rest)::k)).eval o) v= .go (G {eR tm (aN ops (j::rest)::k)with mode:= .panicking [{v:=x,recovered:=aG}]} ([]++cs)) v1 c:=by unfold stepG.apply;simp only[zCs];rw[d];exact⟨_,rfl⟩
 obtain⟨c,e⟩:=e;exact Lone.step (aH rfl) ((ES rfl rfl rfl a f aF).trans e) (.stop h)
def mJ {todo t:zI}(hs:∀c,stepG zq aF (G (eR tm todo) c) v= .go (G (eR tm t) c) v #[])(h:Lone zq cs S (eR tm t) [] v):Lone zq cs S (eR tm todo) [] v:=
 Lone.step (aH rfl) (hs _) h
end
open Go.Ren Go.Conc Go.RowKit
def gA (tm:zA):zY:= .func (.func 158) #[(tm.getD 2 aEn),(tm.getD 3 aEn),(tm.getD 4 aEn),(tm.getD 5 aEn),(tm.getD 6 aEn),(tm.getD 7 aEn),(tm.getD 8 aEn),(tm.getD 9 aEn),(tm.getD 10 aEn)] #[]
def gB (tm:zA):zY:= .func (.func 158) #[(tm.getD 11 aEn),(tm.getD 12 aEn),(tm.getD 13 aEn),(tm.getD 14 aEn),(tm.getD 15 aEn),(tm.getD 16 aEn),(tm.getD 17 aEn),(tm.getD 18 aEn),(tm.getD 19 aEn)] #[]
def gC (tm:zA):zY:= .func (.func 158) #[(tm.getD 0 aEn),(tm.getD 1 aEn),gA tm,gB tm] #[]
def told (tm:zA):List PanicEntry:=[{v:= .iface 224 (gC tm),recovered:=aG}]
def sG {Q t d}(h:Q.underlying t=aA d)(u)(es):(underlying t).runT Q u es=(.ok d u,es):=by show(match Q.underlying t with|some d=>pure d|none=>stuck "no such type":Sem TypeDesc).runT Q u es=_;rw[h];rfl
def CB {Q t i}(h:Q.info? t=aA i)(u)(es):(typeInfo t).runT Q u es=(.ok i u,es):=by show(match Q.info? t with|some i=>pure i|none=>stuck _:Sem TypeInfo).runT Q u es=_;rw[h];rfl
def ND {Q e o f xs ys}(h:o.op= .makeFunc (.func f) xs #[])(a:xs.toList.map e=ys.toList)(u)(es):(aEd e o).runT Q u es=(.ok (.value (.func (.func f) ys #[])) u,es):=by
 have b:xs.map e=ys:=by apply zDx.1;rw[zFu];exact a
 unfold aEd;rw[h];show(Result.ok (aEo (.func (.func f) (xs.map e) ((#[]:Array Operand).map e))) u,es)=_;rw[b];simp
def bP {tm:zA}{i j x}(h:i≠j):(tm.setIfInBounds i x).getD j aEn=tm.getD j aEn:=by rw[zAu,zAu,zAe h]
def aW {tm:zA}{i x}(h:i<tm.size):(tm.setIfInBounds i x).getD i aEn=x:=by rw[zAu,zAo h];rfl
def Wu:∃i,Tryz.prog.info? 4=aA i/\i.zero=aA (.bool aG)/\i.size=1:=⟨_,rfl,rfl,rfl⟩
def Qz.info (t):zq.info? t=Tryz.prog.info? t:=by rw[Qz.iH]
def Qz.Va:∃i,zq.info? 4=aA i/\i.zero=aA (.bool aG)/\i.size=1:=by rw[Qz.info];exact Wu
def Qr (T:Tables)(fs f)(t):(⟨T,fs⟩:zZ).underlying t=(⟨T,f⟩:zZ).underlying t:=rfl
def Qz.fH (t):zq.underlying t=Tryz.prog.underlying t:=by exact Qr Tryz.prog.toTables (seven Tryz.prog.funcs) Tryz.prog.funcs t
def boxed (v:zW)(b:Bool):zW:={v with heap:=v.heap.push (aJ #[.bool b] 4)}
section
variable {cs:zL}{S:zS}{v:zW}
def EI (w):(do let x<-Instr.alloc 4 aF (.tuple #[]);pure (aEo x):Sem Next).runT zq w #[]=(.ok (.value (.pointer (aA ⟨w.heap.size,0,aB⟩))) (boxed w aG),#[]):=by obtain⟨i,b,a,h⟩:=Qz.Va;simp[Instr.alloc,zeroValue,typeInfo,b,a,h,newVar,newRow,boxed,go_sem,Value.cells]
def Qz.ia:zq.underlying 4=aA .bool:=by rw[Qz.fH];exact Tryz.underlying4
def MB (w)(b)(a)(d):((boxed w b).re a d).heap[w.heap.size]? =aA (aJ #[.bool b] 4):=by show(w.heap.push _)[w.heap.size]? =_;simp
def GQ (w)(b)(a)(d):((boxed w b).re a d).cell? ⟨w.heap.size,0,aB⟩=aA (.bool b):=by unfold World.cell?;rw[MB];rfl
def Hm (w)(b c)(a)(d):((boxed w b).re a d).setCell ⟨w.heap.size,0,aB⟩ (.bool c)=(boxed w c).re a d:=by
 unfold World.setCell boxed World.re;congr 1;apply zBz;intro i;by_cases hi:w.heap.size=i
 .subst hi;rw[bS];simp
 .rw[bO _ hi,zBk,zBk,zAv (zDj hi),zAv (zDj hi)]
def Ek (u)(es):(isAgg 4).runT zq u es=(.ok aG u,es):=by unfold isAgg;rw[bD];rw[sG Qz.ia];rfl
def XD (u)(es):(Go.sizeOf 4).runT zq u es=(.ok 1 u,es):=by obtain⟨i,a,b,h⟩:=Qz.Va;unfold Go.sizeOf;rw[bD];rw[CB a];dsimp only;rw[h];rfl
def RP (w)(b)(a)(d)(es):(do let x<-Instr.loadAt 4 (.pointer (aA ⟨w.heap.size,0,aB⟩));pure (aEo x):Sem Next).runT zq ((boxed w b).re a d) es=(.ok (.value (.bool b)) ((boxed w b).re a d),es.push ⟨.cell ⟨w.heap.size,0,aB⟩,aG,aG⟩):=by
 have e:(Instr.loadAt 4 (.pointer (aA ⟨w.heap.size,0,aB⟩))).runT zq ((boxed w b).re a d) es=(.ok (.bool b) ((boxed w b).re a d),es.push ⟨.cell ⟨w.heap.size,0,aB⟩,aG,aG⟩):=by show(loadVar 4 ⟨w.heap.size,0,aB⟩).runT zq ((boxed w b).re a d) es=_;unfold loadVar;rw[bD,Ek];show(Sem.load .plain ⟨w.heap.size,0,aB⟩ .pure).runT zq ((boxed w b).re a d) es=_;simp only[Sem.runT,GQ];rfl
 rw[bD,e];rfl
def KG (w)(b)(a)(d)(es):(do Instr.storeAt 4 (.pointer (aA ⟨w.heap.size,0,aB⟩)) (.bool aF);pure aEp:Sem Next).runT zq ((boxed w b).re a d) es=(.ok .skip ((boxed w aF).re a d),es.push ⟨.cell ⟨w.heap.size,0,aB⟩,aF,aG⟩):=by
 have h:((boxed w b).re a d).frozen? ⟨w.heap.size,0,aB⟩=aG:=by unfold World.frozen?;rw[MB];rfl
 have e:(Instr.storeAt 4 (.pointer (aA ⟨w.heap.size,0,aB⟩)) (.bool aF)).runT zq ((boxed w b).re a d) es=(.ok () ((boxed w aF).re a d),es.push ⟨.cell ⟨w.heap.size,0,aB⟩,aF,aG⟩):=by show(storeVar 4 ⟨w.heap.size,0,aB⟩ (.bool aF)).runT zq ((boxed w b).re a d) es=_;unfold storeVar;rw[bD,XD];show(Sem.store .plain ⟨w.heap.size,0,aB⟩ (.bool aF) (.pure ())).runT zq ((boxed w b).re a d) es=_;simp only[Sem.runT,GQ,h,zBe,zDe,Hm];rfl
 rw[bD,e];rfl
def Kj (x)(u)(es):(do let y<-Instr.makeInterface 224 x;pure (aEo y):Sem Next).runT zq u es=(.ok (.value (.iface 224 x)) u,es):=by
 have e:(Instr.makeInterface 224 x).runT zq u es=(.ok (.iface 224 x) u,es):=by unfold Instr.makeInterface;rw[bD];rw[sG ((Qz.fH 224).trans underlying224)];rfl
 rw[bD,e];rfl
def KF (ops:zQ)(m:Bool)(n:Nat)(hz:ops.size=2:=by kernel_rfl)(f:Region.departs ops=aG:=by kernel_rfl)(d:((List.range ops.size).filter λi=> !(#[aG,aG]:Array Bool).getD i aF&&((ops[i]?).map (·.after.all λe=> !Region.binds .any e||(#[aG,aG]:Array Bool).getD e.on aG)).getD aG)=[0,1]:=by kernel_rfl)(c:((List.range ops.size).filter λi=> !(#[aF,aG]:Array Bool).getD i aF&&((ops[i]?).map (·.after.all λe=> !Region.binds .any e||(#[aF,aG]:Array Bool).getD e.on aG)).getD aG)=[1]:=by kernel_rfl)(b:((List.range ops.size).filter λi=> !(#[aG,aF]:Array Bool).getD i aF&&((ops[i]?).map (·.after.all λe=> !Region.binds .any e||(#[aG,aF]:Array Bool).getD e.on aG)).getD aG)=[0]:=by kernel_rfl):Region.schedule m ops n=if n%2=0 then [0,1]else [1,0]:=by
 unfold Region.schedule;rw[f];simp only[Bool.not_false,Bool.or_true,zCs];unfold Region.linearise;rw[show Region.linearise.go .any ops ops.size n (aD5 ops.size aG) []=Region.linearise.go .any ops 2 n #[aG,aG] [] by rw[hz];rfl];simp only[Region.linearise.go];rw[d];obtain h|h:=Nat.mod_two_eq_zero_or_one n
 .have a:([0,1]:List Nat)[n%([0,1]:List Nat).length]? =aA 0:=by{simp[h]};rw[a];dsimp only;show(match((List.range ops.size).filter λi=> !(#[aF,aG]:Array Bool).getD i aF&&((ops[i]?).map (·.after.all λe=> !Region.binds .any e||(#[aF,aG]:Array Bool).getD e.on aG)).getD aG)[n/2%((List.range ops.size).filter λi=> !(#[aF,aG]:Array Bool).getD i aF&&((ops[i]?).map (·.after.all λe=> !Region.binds .any e||(#[aF,aG]:Array Bool).getD e.on aG)).getD aG).length]? with|some i=>_|none=>_)=_;rw[c];simp[h,Nat.mod_one]
 .have a:([0,1]:List Nat)[n%([0,1]:List Nat).length]? =aA 1:=by{simp[h]};rw[a];dsimp only;show(match((List.range ops.size).filter λi=> !(#[aG,aF]:Array Bool).getD i aF&&((ops[i]?).map (·.after.all λe=> !Region.binds .any e||(#[aG,aF]:Array Bool).getD e.on aG)).getD aG)[n/2%((List.range ops.size).filter λi=> !(#[aG,aF]:Array Bool).getD i aF&&((ops[i]?).map (·.after.all λe=> !Region.binds .any e||(#[aG,aF]:Array Bool).getD e.on aG)).getD aG).length]? with|some i=>_|none=>_)=_;rw[b];simp[h,Nat.mod_one]
def Eh (m:Bool)(n:Nat):Region.schedule m Ut n=if n%2=0 then [0,1]else [1,0]:=KF Ut m n
def XB (a:zT)(d:Nat):Nat:=(Question.order 233 1).cut (a d (.order 233 1))%2
def LD {tm k l}(a)(d)(b:(if XB a d=0 then [0,1]else [1,0])=l)(h:Lone zq cs S (eR tm (aN Ut l::k)) [] (v.re a (d+1))):Lone zq cs S (eR tm (.code (.region 1 Ut aF)::k)) [] (v.re a d):=by refine Lone.step (es:= #[]) (aH rfl) ?_ h;subst b;show GStep.go (G (eR tm (aN Ut (Region.schedule (zq.follows .mixedOrders) Ut ((Question.order 233 1).cut (a d (.order 233 1))))::k)) ([]++cs)) (v.re a (d+1)) #[]=_;rw[Eh];rfl
def yE {tm a b k u}(h:Lone zq cs S (eR tm (.code a:: .code b::k)) [] u):Lone zq cs S (eR tm (.code (.seq a b)::k)) [] u:=mJ (λc=>rfl) h
def mS {tm id ops k u}(h:Lone zq cs S (eR tm (aN ops (List.range ops.size)::k)) [] u):Lone zq cs S (eR tm (.code (.region id ops aG)::k)) [] u:=mJ (λc=>rfl) h
def DI {tm ops k u}(h:Lone zq cs S (eR tm k) [] u):Lone zq cs S (eR tm (aN ops []::k)) [] u:=mJ (λc=>rfl) h
def Qt {tm k u}(h:Lone zq cs S (eR tm k) [] u):Lone zq cs S (eR tm (.code .skip::k)) [] u:=mJ (λc=>rfl) h
def vN {tm}{t:Nat}{a b k u}(c:Bool)(d:tm.getD t aEn= .bool c)(h:Lone zq cs S (eR tm (.code (if c then a else b)::k)) [] u):Lone zq cs S (eR tm (.code (.cond (.tmp t) a b)::k)) [] u:=by refine mJ (λcs=> ?_) h;show stepG.exec zq aF aF (eR tm (.code (.cond (.tmp t) a b)::k)) cs aB u=_;unfold stepG.exec;dsimp only[eR];rw[show Frame.eval ⟨233,tm,.code (.cond (.tmp t) a b)::k,[],.run,.normal,aB⟩ (.tmp t)= .bool c from d];cases c<;>rfl
def tm1 (tm:zA):zA:=tm.setIfInBounds 20 (gA tm)
def PL (tm:zA):zA:=(tm1 tm).setIfInBounds 21 (gB tm)
def Qu (tm:zA):zA:=(PL tm).setIfInBounds 22 (gC tm)
def Jm (tm:zA)(v:zW):zA:=(Qu tm).setIfInBounds 23 (.pointer (aA ⟨v.heap.size,0,aB⟩))
def rtA (tm)(k)(u)(es):(aEd (eR tm k).eval uw).runT zq u es=(.ok (.value (gA tm)) u,es):=ND (xs:= #[.tmp 2,.tmp 3,.tmp 4,.tmp 5,.tmp 6,.tmp 7,.tmp 8,.tmp 9,.tmp 10]) (ys:= #[(tm.getD 2 aEn),(tm.getD 3 aEn),(tm.getD 4 aEn),(tm.getD 5 aEn),(tm.getD 6 aEn),(tm.getD 7 aEn),(tm.getD 8 aEn),(tm.getD 9 aEn),(tm.getD 10 aEn)]) rfl rfl u es
def rtB {tm}(k)(u)(es):(aEd (eR (tm1 tm) k).eval uv).runT zq u es=(.ok (.value (gB tm)) u,es):=ND (xs:= #[.tmp 11,.tmp 12,.tmp 13,.tmp 14,.tmp 15,.tmp 16,.tmp 17,.tmp 18,.tmp 19]) (ys:= #[(tm.getD 11 aEn),(tm.getD 12 aEn),(tm.getD 13 aEn),(tm.getD 14 aEn),(tm.getD 15 aEn),(tm.getD 16 aEn),(tm.getD 17 aEn),(tm.getD 18 aEn),(tm.getD 19 aEn)]) rfl (by simp[Frame.eval,eR,tm1,bP]) u es
def rtC {tm}(hz:tm.size=43)(k)(u)(es):(aEd (eR (PL tm) k).eval uu).runT zq u es=(.ok (.value (gC tm)) u,es):=by
 have a:(PL tm).getD 20 aEn=gA tm:=by unfold PL tm1;rw[bP (by decide),aW (by omega)]
 have e:(PL tm).getD 21 aEn=gB tm:=by unfold PL tm1;rw[aW (by simp[hz])]
 have c:(PL tm).getD 0 aEn=tm.getD 0 aEn:=by unfold PL tm1;rw[bP (by decide),bP (by decide)]
 have b:(PL tm).getD 1 aEn=tm.getD 1 aEn:=by unfold PL tm1;rw[bP (by decide),bP (by decide)]
 exact ND rfl (by show [(PL tm).getD 0 aEn,(PL tm).getD 1 aEn,(PL tm).getD 20 aEn,(PL tm).getD 21 aEn]=_;rw[c,b,a,e]) u es
def Aq {tm}(hz:tm.size=43)(v):(Jm tm v).getD 23 aEn= .pointer (aA ⟨v.heap.size,0,aB⟩):=by unfold Jm Qu PL tm1;rw[aW (by simp[hz])]
def Ar {tm}(v){i}(h:i<20):(Jm tm v).getD i aEn=tm.getD i aEn:=by unfold Jm Qu PL tm1;rw[bP (by omega),bP (by omega),bP (by omega),bP (by omega)]
def Jl {tm}(hz:tm.size=43)(v):(Jm tm v).getD 22 aEn=gC tm:=by unfold Jm Qu PL tm1;rw[bP (by decide),aW (by simp[hz])]
def lK {tm}(hz:tm.size=43)(v):(Jm tm v).size=43:=by simp[Jm,Qu,PL,tm1,hz]
def AM (a)(d){tm}(hz:tm.size=43)(h:Lone zq cs S (eR (Jm tm v) [.code (.region 1 Ut aF),.code uy]) [] ((boxed v aG).re a d)):
  Lone zq cs S (eR tm [.code Qz.qX]) [] (v.re a d):=by
 iterate 2 (refine mJ (λc=>rfl) ?_)
 refine fA rfl rfl (rtA tm _ _ _) rfl ?_;refine fA rfl rfl (rtB _ _ _) rfl ?_;refine fA rfl rfl (rtC hz _ _ _) rfl ?_;refine fA rfl rfl (EI _) rfl ?_;iterate 2 (refine mJ (λc=>rfl) ?_)
 exact h
def UG {tm}(h:tm.getD 23 aEn= .pointer (aA ⟨v.heap.size,0,aB⟩))(k)(b)(a)(d):(aEd (eR tm k).eval cm).runT zq ((boxed v b).re a d) #[]=(.ok .skip ((boxed v aF).re a d),#[⟨.cell ⟨v.heap.size,0,aB⟩,aF,aG⟩]):=by
 have e:aEd (eR tm k).eval cm=(do Instr.storeAt 4 (tm.getD 23 aEn) (.bool aF);pure aEp:Sem Next):=by rfl
 rw[e,h,KG];rfl
def Bt {tm}(h:tm.getD 23 aEn= .pointer (aA ⟨v.heap.size,0,aB⟩))(k)(b)(a)(d):(aEd (eR tm k).eval cn).runT zq ((boxed v b).re a d) #[]=(.ok (.value (.bool b)) ((boxed v b).re a d),#[⟨.cell ⟨v.heap.size,0,aB⟩,aG,aG⟩]):=by
 have e:aEd (eR tm k).eval cn=(do let x<-Instr.loadAt 4 (tm.getD 23 aEn);pure (aEo x):Sem Next):=by rfl
 rw[e,h,RP];rfl
def Nn {tm}(k)(u):(aEd (eR tm k).eval jo).runT zq u #[]=(.ok (.value (.iface 224 (tm.getD 22 aEn))) u,#[]):=by
 have e:aEd (eR tm k).eval jo=(do let y<-Instr.makeInterface 224 (tm.getD 22 aEn);pure (aEo y):Sem Next):=by rfl
 rw[e,Kj]
def Nk {tm x}(h:tm.getD 25 aEn= .iface 224 x)(k)(u):(aEd (eR tm k).eval jm).runT zq u #[]=(.halt (.panic (.iface 224 x)) u,#[]):=by
 have e:aEd (eR tm k).eval jm=(do let y<-Instr.panic (tm.getD 25 aEn);pure (aEo y):Sem Next):=by rfl
 rw[e,h];rfl
def ZM {P}{fr:zC}{ops l k}(h:fr.todo=aN ops l::k):fr.catches P=aG:=by unfold Frame.catches;rw[h];cases P.funcs[fr.fn]? <;>rfl
def VO (u:zW):zW:=u.setCell ⟨0,0,aB⟩ (.int aP 0)
def cS (u:zW):zW:=u.setCell ⟨0,0,aB⟩ (.int aP 1779033703)
def Fl (u:zW):Prop:=u.cell? ⟨0,0,aB⟩=aA (.int aP 0)
structure vE (v:zW):Prop where
 cell:v.cell? ⟨0,0,aB⟩=aA (.int aP 1779033703)
 thaw:v.frozen? ⟨0,0,aB⟩=aG
def cell0 {u:zW}{x:zY}(h:u.cell? ⟨0,0,aB⟩=aA x):∃c t f,u.heap[0]? =aA (aJ c t f)/\c[0]? =aA x:=by
 unfold World.cell? at h;dsimp only at h;split at h
 .rename_i c t f e;exact⟨c,t,f,e,h⟩
 .cases h
def kL {u:zW}{x:zY}(h:u.cell? ⟨0,0,aB⟩=aA x):0<u.heap.size:=by obtain⟨c,t,f,e,_⟩:=cell0 h;exact(zAa.1 e).1
def gV (u:zW)(x:zY){b:Nat}(h:b≠0):(u.setCell ⟨0,0,aB⟩ x).heap[b]? =u.heap[b]? :=bO _ (zDj h)
def jP (u:zW)(x:zY){c:zA}{t:zD}{f:Nat×Nat}(h:u.heap[0]? =aA (aJ c t f)):(u.setCell ⟨0,0,aB⟩ x).heap[0]? =aA (aJ (c.setIfInBounds 0 x) t f):=by show(u.heap.modify 0 _)[0]? =_;rw[bS,h];rfl
def kV (u:zW)(x:zY):(u.setCell ⟨0,0,aB⟩ x).heap.size=u.heap.size:=by show(u.heap.modify 0 _).size=_;simp
def JW {v:zW}(h:v.cell? ⟨0,0,aB⟩=aA (.int aP 1779033703)):cS (VO v)=v:=by
 obtain⟨c,t,f,e,a⟩:=cell0 h;have b:(cS (VO v)).heap=v.heap:=by
  apply zBz;intro i;by_cases hi:i=0
  .subst hi;unfold cS VO;rw[jP _ _ (jP _ _ e),e];congr 2;apply zBz;intro i;simp only[zBt,zDa];by_cases hi:0=i
   .subst hi;obtain⟨bT,_⟩:=zAa.1 a;rw[zAz rfl,zAz bT,a]
   .rw[zAv hi,zAv hi]
  .unfold cS VO;rw[gV _ _ hi,gV _ _ hi]
 show({v with heap:=(cS (VO v)).heap}:zW)=v;rw[b]
def Na {v:zW}{x:zY}(h:v.cell? ⟨0,0,aB⟩=aA x):Fl (VO v):=by obtain⟨c,t,f,e,a⟩:=cell0 h;obtain⟨bT,_⟩:=zAa.1 a;unfold Fl World.cell? VO;dsimp only;rw[jP _ _ e];simp[bT]
def iN {v u:zW}(h:u.heap[0]? =v.heap[0]?):u.cell? ⟨0,0,aB⟩=v.cell? ⟨0,0,aB⟩/\u.frozen? ⟨0,0,aB⟩=v.frozen? ⟨0,0,aB⟩:=by unfold World.cell? World.frozen?;dsimp only;rw[h];exact⟨rfl,rfl⟩
def Fl.more {v u:zW}(h:Fl v)(a:jY v u):Fl u:=(iN (a.old 0 (kL h))).1.trans h
def Ss {a b:zW}(h:Fl a)(g:jY a b):jY (cS a) (cS b):=by
 have l:=kL h;obtain⟨c,t,f,e,_⟩:=cell0 h;unfold cS;refine⟨by rw[kV,kV];exact g.size,λx i=> ?_,λx k j=> ?_⟩
 .rw[kV]at i;by_cases d:x=0
  .subst d;rw[jP _ _ e,jP _ _ ((g.old 0 i).trans e)]
  .rw[gV _ _ d,gV _ _ d];exact g.old x i
 .rw[kV]at k j;rw[gV _ _ (by omega)];exact g.new x k j
def GS {v:zW}(h:0<v.heap.size)(b:Bool)(a:zT)(d:Nat):((boxed v b).re a d).heap[0]? =v.heap[0]? :=by show(v.heap.push _)[0]? =_;rw[zBk,zAv (by omega)]
def Jn:∃i,Tryz.prog.info? 135=aA i/\i.size=1:=⟨_,rfl,rfl⟩
def Qz.Mj:zq.underlying 135=aA (.int aP):=by rw[Qz.fH];exact Tryz.underlying135
def RQ (u:zW)(x:zY)(h:u.cell? ⟨0,0,aB⟩=aA x):(do let y<-Instr.loadAt 135 (.pointer (aA ⟨0,0,aB⟩));pure (aEo y):Sem Next).runT zq u #[]=(.ok (.value x) u,#[⟨.cell ⟨0,0,aB⟩,aG,aG⟩]):=by
 have e:(Instr.loadAt 135 (.pointer (aA ⟨0,0,aB⟩))).runT zq u #[]=(.ok x u,#[⟨.cell ⟨0,0,aB⟩,aG,aG⟩]):=by show(loadVar 135 ⟨0,0,aB⟩).runT zq u #[]=_;unfold loadVar isAgg;rw[bD,bD,sG Qz.Mj];show(Sem.load .plain ⟨0,0,aB⟩ .pure).runT zq u #[]=_;simp only[Sem.runT,h];rfl
 rw[bD,e];rfl
def Ej (u:zW)(h:u.cell? ⟨0,0,aB⟩=aB){p:zD×Nat}(hs:u.shape? 0=aA p):∃hl,Go.Ren.Fatal hl/\∃b i,(do let y<-Instr.loadAt 135 (.pointer (aA ⟨0,0,aB⟩));pure (aEo y):Sem Next).runT zq u #[]=(.halt hl b,i):=by
 have d:∃hl,Go.Ren.Fatal hl/\u.farLoad zq ⟨0,0,aB⟩ aG= .error hl:=by unfold World.shape? at hs;unfold World.farLoad;dsimp only;split at hs;{rename_i c t f e;rw[e];refine⟨_,aH ⟨ "load: no such cell",?_⟩,rfl⟩;unfold World.noCell;dsimp only;rw[e]};{cases hs}
 obtain⟨hl,g,a⟩:=d;have e:(Instr.loadAt 135 (.pointer (aA ⟨0,0,aB⟩))).runT zq u #[]=(.halt hl u,#[]):=by show(loadVar 135 ⟨0,0,aB⟩).runT zq u #[]=_;unfold loadVar isAgg;rw[bD,bD,sG Qz.Mj];show(Sem.load .plain ⟨0,0,aB⟩ .pure).runT zq u #[]=_;have a:u.farLoad zq ⟨0,0,aB⟩ (Mode.plain==Mode.atomic)= .error hl:=a;simp only[Sem.runT,h,a]
 exact⟨hl,g,u,#[],by rw[bD,e]⟩
def Ki (u:zW)(es:zE):(Go.sizeOf 135).runT zq u es=(.ok 1 u,es):=by obtain⟨i,a,h⟩:=Jn;unfold Go.sizeOf;rw[bD,CB ((Qz.info 135).trans a)];dsimp only;rw[h];rfl
def KH (u:zW)(x:zY)(h:u.cell? ⟨0,0,aB⟩=aA x):(do Instr.storeAt 135 (.pointer (aA ⟨0,0,aB⟩)) (.int aP 0);pure aEp:Sem Next).runT zq u #[]=if u.frozen? ⟨0,0,aB⟩=aF then(.halt (.unsupported (.unsafePointer "a write to bytes that a string shares")) u,#[])else(.ok .skip (VO u),#[⟨.cell ⟨0,0,aB⟩,aF,aG⟩]):=by
 have e:(Instr.storeAt 135 (.pointer (aA ⟨0,0,aB⟩)) (.int aP 0)).runT zq u #[]=if u.frozen? ⟨0,0,aB⟩=aF then(.halt (.unsupported (.unsafePointer "a write to bytes that a string shares")) u,#[])else(.ok () (VO u),#[⟨.cell ⟨0,0,aB⟩,aF,aG⟩]):=by show(storeVar 135 ⟨0,0,aB⟩ (.int aP 0)).runT zq u #[]=_;unfold storeVar;rw[bD,Ki];show(Sem.store .plain ⟨0,0,aB⟩ (.int aP 0) (.pure ())).runT zq u #[]=_;simp only[Sem.runT,h];split;{rfl};{rfl}
 rw[bD,e];by_cases a:u.frozen? ⟨0,0,aB⟩=aF
 .rw[zAz a,zAz a]
 .rw[zAv a,zAv a];rfl
def Tw {tm:zA}(k:zI)(u:zW):(aEd (eR tm k).eval jl).runT zq u #[]=(.ok (.value (.bool (u.shape? 0).isNone)) u,#[]):=by unfold aEd jl;rfl
def UH {tm:zA}(k:zI):aEd (eR tm k).eval cg=(do let y<-Instr.loadAt 135 (.pointer (aA ⟨0,0,aB⟩));pure (aEo y):Sem Next):=by unfold aEd cg;rfl
def LQ {tm:zA}(k:zI):aEd (eR tm k).eval cf=(do Instr.storeAt 135 (.pointer (aA ⟨0,0,aB⟩)) (.int aP 0);pure aEp:Sem Next):=by unfold aEd cf;rfl
def Nl {tm:zA}{a:Int}(h:tm.getD 28 aEn= .int aP a)(k:zI)(u:zW):(aEd (eR tm k).eval Uu).runT zq u #[]=(.ok (.value (.bool (decide (a<=1779033703)))) u,#[])/\(aEd (eR tm k).eval jk).runT zq u #[]=(.ok (.value (.bool (decide (a≥1779033703)))) u,#[]):=by
 have e:∀(op:BinOp)(o:Oper),o.op= .binOp op 135 (.tmp 28) (.const (.int aP 1779033703)) 135->aEd (eR tm k).eval o=(do pure (aEo (<-(do eqGuard op 135 (.tmp 28) (.const (.int aP 1779033703)) (tm.getD 28 aEn) (.int aP 1779033703);binOp op 135 (tm.getD 28 aEn) (.int aP 1779033703):Sem zY))):Sem Next):=λop o b=>by unfold aEd;rw[b];rfl
 rw[e .leq Uu rfl,e .geq jk rfl,h];exact⟨rfl,rfl⟩
def Ym {tm:zA}(b:∀a,tm.getD 28 aEn≠.int aP a)(k:zI)(u:zW):∃hl,Go.Ren.Fatal hl/\∃c f,(aEd (eR tm k).eval Uu).runT zq u #[]=(.halt hl c,f):=by
 have e:aEd (eR tm k).eval Uu=(do pure (aEo (<-(do eqGuard .leq 135 (.tmp 28) (.const (.int aP 1779033703)) (tm.getD 28 aEn) (.int aP 1779033703);binOp .leq 135 (tm.getD 28 aEn) (.int aP 1779033703):Sem zY))):Sem Next):=by unfold aEd Uu;rfl
 rw[e];generalize tm.getD 28 aEn=y at b;cases y with
 |int d a=>cases d<;>first|exact(b a rfl).elim|exact⟨.stuck _,aH ⟨_,rfl⟩,_,_,rfl⟩
 |pointer q=>cases q<;>exact⟨.unsupported _,aI ⟨_,rfl,λg h=>by cases h⟩,_,_,rfl⟩
 |_=>exact⟨.stuck _,aH ⟨_,rfl⟩,_,_,rfl⟩
def Jj (tm:zA)(v:zW):zA:=(Jm tm v).setIfInBounds 24 (.bool aF)
def Qb (tm:zA)(v:zW)(b:Bool):zA:=(Jj tm v).setIfInBounds 27 (.bool b)
def Qa (tm:zA)(v:zW)(y:zY):zA:=(Qb tm v aG).setIfInBounds 28 y
def Df (tm:zA)(v:zW)(a:Int):zA:=((Qa tm v (.int aP a)).setIfInBounds 29 (.bool (decide (a<=1779033703)))).setIfInBounds 30 (.bool (decide (a≥1779033703)))
def JU (c:zT)(d:Nat)(hs:XB c d=0){tm:zA}(hz:tm.size=43)(h:Lone zq cs S (eR (Jj tm v) [.code cq,.code Bb]) [] ((boxed v aF).re c (d+1))):
  Lone zq cs S (eR tm [.code Qz.qX]) [] (v.re c d):=by
 refine AM c d hz ?_;refine LD (v:=boxed v aG) c d (by rw[hs]) ?_;have e:=Aq hz v;refine yU (o:=cm) (v1:=(boxed v aF).re c (d+1)) rfl rfl rfl (UG e _ aG _ _) ?_;refine fA (o:=cn) (y:= .bool aF) (tm1:=Jj tm v) rfl rfl (Bt e _ aF _ _) rfl ?_;refine DI (yE (a:=Xf) (b:=Bb) ?_);exact vN (a:=cq) (b:= .skip) aF (aW (by rw[lK hz];decide)) h
section
variable {tm:zA}(hz:tm.size=43)
include hz
def yC {u:zW}{b:Bool}(hs:(u.shape? 0).isNone=b)(h:Lone zq cs S (eR (Qb tm v b) [.code (if b then Qf else mv),.code Bb]) [] u):Lone zq cs S (eR (Jj tm v) [.code cq,.code Bb]) [] u:=by refine yE (a:= .region 4 ji aG) (b:=ux) (mS (ops:=ji) ?_);refine fA (ops:=ji) (j:=0) (rest:=[]) (o:=jl) (y:= .bool b) (tm1:=Qb tm v b) rfl rfl (by rw[Tw,hs]) rfl ?_;exact DI (vN (a:=Qf) (b:=mv) b (aW (by simp[Jj,lK hz])) h)
omit hz in
def JS {u:zW}{y:zY}(hs:u.cell? ⟨0,0,aB⟩=aA y)(h:Lone zq cs S (eR (Qa tm v y) [aN Ku [1,2],.code Uv,.code Bb]) [] u):Lone zq cs S (eR (Qb tm v aG) [aN Ku [0,1,2],.code Uv,.code Bb]) [] u:=
 fA (ops:=Ku) (j:=0) (rest:=[1,2]) (o:=cg) (y:=y) (tm1:=Qa tm v y) rfl rfl (by rw[UH];exact RQ u y hs) rfl h
def PZ {u:zW}{a:Int}(h:Lone zq cs S (eR (Df tm v a) [.code Uv,.code Bb]) [] u):Lone zq cs S (eR (Qa tm v (.int aP a)) [aN Ku [1,2],.code Uv,.code Bb]) [] u:=by have b:(Qa tm v (.int aP a)).getD 28 aEn= .int aP a:=aW (by simp[Qb,Jj,lK hz]);refine fA (ops:=Ku) (j:=1) (rest:=[2]) (o:=Uu) (y:= .bool (decide (a<=1779033703))) (tm1:=(Qa tm v (.int aP a)).setIfInBounds 29 (.bool (decide (a<=1779033703)))) rfl rfl (Nl b _ u).1 rfl ?_;refine fA (ops:=Ku) (j:=2) (rest:=[]) (o:=jk) (y:= .bool (decide (a≥1779033703))) (tm1:=Df tm v a) rfl rfl (Nl (by rw[bP (by decide)];exact b) _ u).2 rfl ?_;exact DI h
def PX {u:zW}{a:Int}{b:Bool}(c:decide (a<=1779033703)=b)(h:Lone zq cs S (eR (Df tm v a) [.code (if b then jr else Qf),.code Bb]) [] u):Lone zq cs S (eR (Df tm v a) [.code Uv,.code Bb]) [] u:=
 vN (a:=jr) (b:=Qf) b (by unfold Df;rw[bP (by decide),aW (by simp[Qa,Qb,Jj,lK hz]),c]) h
def PY {u:zW}{a:Int}{b:Bool}(c:decide (a≥1779033703)=b)(h:Lone zq cs S (eR (Df tm v a) [.code (if b then .region 2 Us aG else Qf),.code Bb]) [] u):Lone zq cs S (eR (Df tm v a) [.code jr,.code Bb]) [] u:=
 vN (a:= .region 2 Us aG) (b:=Qf) b (by unfold Df;rw[aW (by simp[Qa,Qb,Jj,lK hz]),c]) h
end
def JR (g:zT)(d:Nat)(hs:XB g d=0)(m:vE v){tm:zA}(hz:tm.size=43)(h:∀fr:zC,fr.fn=233->fr.mode= .panicking (told tm)->fr.defers=[]->fr.catches zq=aG->S fr [] ((VO (boxed v aF)).re g (d+1))):
  Lone zq cs S (eR tm [.code Qz.qX]) [] (v.re g d):=by
 have bT:=kL m.cell;obtain⟨i,n⟩:=iN (GS bT aF g (d+1));rw[m.cell]at i;rw[m.thaw]at n;refine JU g d hs hz ?_;refine yC (b:=aG) hz ?_ (yE (a:= .region 5 Ku aG) (b:=Uv) (mS (ops:=Ku) (JS i (PZ hz (PX hz (b:=aF) rfl (PY hz (b:=aF) rfl (mS (ops:=Us) ?_)))))))
 .obtain⟨c,t,f,e,_⟩:=cell0 i;unfold World.shape?;rw[e];rfl
 refine yU (ops:=Us) (j:=0) (rest:=[1,2]) (o:=cf) (v1:=(VO (boxed v aF)).re g (d+1)) rfl rfl rfl (by rw[LQ,KH _ _ i,n];rfl) ?_;have l:(Df tm v 1779033703).getD 22 aEn=gC tm:=by unfold Df Qa Qb Jj;rw[bP (by decide),bP (by decide),bP (by decide),bP (by decide),bP (by decide)];exact Jl hz v
 refine fA (ops:=Us) (j:=1) (rest:=[2]) (o:=jo) (y:= .iface 224 (gC tm)) (tm1:=(Df tm v 1779033703).setIfInBounds 25 (.iface 224 (gC tm))) rfl rfl (by rw[Nn,l]) rfl ?_;have k:((Df tm v 1779033703).setIfInBounds 25 (.iface 224 (gC tm))).getD 25 aEn= .iface 224 (gC tm):=aW (by simp[Df,Qa,Qb,Jj,lK hz]);refine YC (ops:=Us) (j:=2) (rest:=[]) (o:=jm) (x:= .iface 224 (gC tm)) rfl rfl (Nk k _ _) ?_;exact h _ rfl rfl rfl (ZM rfl)
def JZ (tm:zA)(v:zW):zA:=(Jm tm v).setIfInBounds 24 (.bool aG)
def Qn (c:zT)(d:Nat)(hs:XB c d≠0){tm:zA}(hz:tm.size=43)(h:Lone zq cs S (eR (JZ tm v) [aN XM [0],.code .ret]) [] ((boxed v aF).re c (d+1))):
  Lone zq cs S (eR tm [.code Qz.qX]) [] (v.re c d):=by
 refine AM c d hz ?_;refine LD (v:=boxed v aG) c d (by rw[zAv hs]) ?_;have g:=Aq hz v;have e:(JZ tm v).getD 23 aEn= .pointer (aA ⟨v.heap.size,0,aB⟩):=by unfold JZ;rw[bP (by decide)];exact g
 refine fA (o:=cn) (y:= .bool aG) (tm1:=JZ tm v) rfl rfl (Bt g _ aG _ _) rfl ?_;refine yU (o:=cm) (v1:=(boxed v aF).re c (d+1)) rfl rfl rfl (UG e _ aG _ _) ?_;refine DI (yE (a:=Xf) (b:=Bb) ?_);have f:(JZ tm v).getD 24 aEn= .bool aG:=aW (by rw[lK hz];decide);exact vN (a:=cq) (b:= .skip) aG f (Qt (yE (a:= .region 3 XM aG) (b:= .ret) (mS h)))
def full (xs:zA):zA:=xs++aD5 (43-xs.size) aEn
def jS {xs}(h:xs.size<=20):(full xs).size=43:=by simp[full];omega
def jK (v)(b):jY v (boxed v b):=by
 refine⟨?_,λx a=> ?_,λx c h=> ?_⟩
 .show v.heap.size<=(v.heap.push _).size;rw[zBw];omega
 .show(v.heap.push _)[x]? =_;rw[zBk,zAv (by omega)]
 .have h:x<(v.heap.push (aJ #[.bool b] 4)).size:=h;rw[zBw]at h;have e:x=v.heap.size:=by{omega};subst e;refine⟨b,?_⟩;show(v.heap.push _)[v.heap.size]? =_;simp
def Qz.Xg (xs:zA)(v:zW)(D:zP)(hz:xs.size<=20)(_:Closed zq Qz.Al D (Frame.enter zq 233 xs .normal) [] v)(h:vE v):∃b d,Lone zq [bI] (λfr l u=>l=[]/\fr.mode= .panicking (told (full xs))/\fr.defers=[]/\Fl u/\jY v (cS u)) (Frame.enter zq 233 xs .normal) [] (v.re b d):=⟨λ_ _=>0,0,by have a:=(iN (GS (kL h.cell) aF v.tape v.drawn)).1.trans h.cell;have e:cS (VO (boxed v aF))=boxed v aF:=JW a;rw[yW];refine JR (λ_ _=>0) 0 (by decide) h (jS hz) λfr i f c g=>⟨rfl,f,c,Na (v:=boxed v aF) a,?_⟩;show jY v ((cS (VO (boxed v aF))).re _ _);rw[e];exact(jK v aF).re v.tape _ v.drawn _⟩
variable {R:zR}{E:List PanicEntry->zW->Prop}{own:zL}{D:zP}
def OH {tm:zA}{ops:zQ}{j:Nat}{rest:List Nat}{k:zI}{o:Oper}(a:ops[j]? =aA o)(f:o.guard=aB)(b:∃hl,Go.Ren.Fatal hl/\∃u es,(aEd (eR tm (aN ops (j::rest)::k)).eval o).runT zq v #[]=(.halt hl u,es))(g:Go.Ren.Ends zq Qz.Al (Go.Ren.AtEnd zq R E) (eR tm (aN ops (j::rest)::k)) own v):False:=by
 cases g with
 |stop h=>exact eO (l:=[]) (cs:=own) (aH rfl) h
 |step _ p _ i _=>obtain⟨es,e⟩:=i v.tape v.drawn [] aF;rw[gG,ES rfl rfl rfl a f aF]at e;obtain⟨hl,d,u,m,c⟩:=b;obtain⟨_,_,_,n⟩:=lX (fr:=eR tm (aN ops (j::rest)::k)) (C:=own++[]) c d;rw[n]at e;cases e
def OI {tm:zA}{k:zI}(a:Go.Ren.Ends zq Qz.Al (Go.Ren.AtEnd zq R E) (eR tm (.code Qf::k)) own v):False:=by
 cases a with
 |stop h=>exact eO (l:=[]) (cs:=own) (aH rfl) h
 |step _ n _ b _=>obtain⟨c,e⟩:=b v.tape v.drawn [] aF;cases e
def Up {fr f:zC}{u2:zW}(d:Closed zq Qz.Al D fr [] v)(c:Go.Ren.Ends zq Qz.Al (Go.Ren.AtEnd zq R E) fr own v)(hl:Lone zq [bI] (λfr l u=>fr=f/\l=[]/\u=u2) fr [] v):∃D2,Closed zq Qz.Al D2 f [] u2/\Go.Ren.Ends zq Qz.Al (Go.Ren.AtEnd zq R E) f own u2:=by obtain⟨e,i,g,D2,⟨rfl,rfl,rfl⟩,a,_,h⟩:=Lone.through Qz.iU (T:=Go.Ren.AtEnd zq R E) (cs:=own) (λ_ _ _ b=>eO b) hl d c;exact⟨D2,a,h⟩
def Qz.sound {xs:zA}(hz:xs.size<=20)(i:Closed zq Qz.Al D (Frame.enter zq 233 xs .normal) own v)(B:Go.Ren.Ends zq Qz.Al (Go.Ren.AtEnd zq R E) (Frame.enter zq 233 xs .normal) own v):vE v:=by
 have n:∀b,¬K0 b:=λb h=>h;have e:=jS hz;have c0:Closed zq Qz.Al D (Frame.enter zq 233 xs .normal) [] (v.re (λ_ _=>0) 0):=⟨i.frame,.nil,fW i.world n _ _ _ _ (λ_ _=>rfl),i.nj⟩;have z:=B.re (λ_ _ _ A d h=>h.re A d) (λ_ _=>0) 0;have bT:0<v.heap.size:=by have:=i.world.low.1;omega
 rw[yW]at c0 z;obtain⟨D1,c1,q⟩:=Up c0 z (JU (λ_ _=>0) 0 (by decide) e (.stop ⟨rfl,rfl,rfl⟩));obtain⟨s,r⟩:=iN (GS bT aF (λ_ _=>0) (0+1));generalize(boxed v aF).re (λ_ _=>0) (0+1)=U at s r c1 q;cases c:U.shape? 0 with
 |none=>obtain⟨_,_,m⟩:=Up c1 q (yC e (b:=aF) (by rw[c];rfl) (.stop ⟨rfl,rfl,rfl⟩));exact(OI m).elim
 |some p=>
  obtain⟨_,c2,m⟩:=Up c1 q (yC e (b:=aG) (by rw[c];rfl) (yE (a:= .region 5 Ku aG) (b:=Uv) (mS (ops:=Ku) (.stop ⟨rfl,rfl,rfl⟩))));cases f:U.cell? ⟨0,0,aB⟩with
  |none=>exact(OH (o:=cg) rfl rfl (by rw[UH];exact Ej U f c) m).elim
  |some y=>
   obtain⟨_,c3,x⟩:=Up c2 m (JS f (.stop ⟨rfl,rfl,rfl⟩));by_cases hi:∃a,y= .int aP a
   .obtain⟨a,rfl⟩:=hi;obtain⟨_,c4,F⟩:=Up c3 x (PZ e (.stop ⟨rfl,rfl,rfl⟩));obtain⟨_,c5,l⟩:=Up c4 F (PX e (b:=decide (a<=1779033703)) rfl (.stop ⟨rfl,rfl,rfl⟩));by_cases w:a<=1779033703
    .rw[zDd w]at c5 l;obtain⟨_,c6,k⟩:=Up c5 l (PY e (b:=decide (a≥1779033703)) rfl (.stop ⟨rfl,rfl,rfl⟩));by_cases u:a≥1779033703
     .rw[zDd u]at c6 k;obtain rfl:a=1779033703:=by{omega};obtain⟨_,G,C⟩:=Up c6 k (mS (ops:=Us) (.stop ⟨rfl,rfl,rfl⟩));cases t:U.frozen? ⟨0,0,aB⟩with
      |false=>exact⟨s.symm.trans f,r.symm.trans t⟩
      |true=>exact(OH (o:=cf) (j:=0) (rest:=[1,2]) rfl rfl ⟨.unsupported (.unsafePointer "a write to bytes that a string shares"),aI ⟨_,rfl,λg h=>by cases h⟩,U,#[],by rw[LQ,KH _ _ f,t,zAz rfl]⟩ C).elim
     .rw[zBv u]at k;exact(OI k).elim
    .rw[zBv w]at l;exact(OI l).elim
   .exact(OH (o:=Uu) (j:=1) (rest:=[2]) rfl rfl (Ym (λa h=>hi ⟨a,by rw[<-h];exact(aW (by simp[Qb,Jj,lK e])).symm⟩) _ _) x).elim
end
def Lone.steps {P cs S fr own v}(h:Lone P cs S fr own v):∃f o b,S f o b/\Steps P (lone fr (own++cs) v) (lone f (o++cs) b):=by
 induction h with
 | @stop fr own v h=>exact⟨fr,own,v,h,.refl _ _⟩
 | @step fr d own a v v1 es c e h i=>obtain⟨f,o,b,j,g⟩:=i;refine⟨f,o,b,j,.head (step_lone_go ?_) g⟩;have:stepG P aF {frame:=fr,callers:=own++cs,status:= .running,dying:=aB} v= .go (G d (a++cs)) v1 es:=e;rw[this];rfl
def jN {Q f fn c}(a:Q.funcs[f]? =aA fn)(h:(fn.name== "runtime.NumGoroutine")=aG)(b:fn.body=aA c)(xs)(u)(es):(callFunc f xs).runT Q u es=(.ok (.enter f xs) u,es):=by show(match Q.funcs[f]? with|none=>stuck "call: no such function"|some fn=>_:Sem Next).runT Q u es=_;rw[a];dsimp only;rw[h,b];rfl
def Tx {tm}(k)(u):(aEd (eR tm k).eval jq).runT zq u #[]=(.ok (.enter 170 #[tm.getD 0 aEn,tm.getD 1 aEn]) u,#[]):=by
 have e:aEd (eR tm k).eval jq=(do let d<-Deferred.ofValue (.func (.func 170) #[] #[]) ((#[.tmp 0,.tmp 1]:Array Operand).map (eR tm k).eval);invoke d.target d.args:Sem Next):=by rfl
 have b:(#[.tmp 0,.tmp 1]:Array Operand).map (eR tm k).eval= #[tm.getD 0 aEn,tm.getD 1 aEn]:=by apply zDx.1;rw[zFu];rfl
 rw[e,b];have a:(do let d<-Deferred.ofValue (.func (.func 170) #[] #[]) #[tm.getD 0 aEn,tm.getD 1 aEn];invoke d.target d.args:Sem Next)=callFunc 170 #[tm.getD 0 aEn,tm.getD 1 aEn]:=by show invoke (.fn (.func 170) #[]) (#[]++ #[tm.getD 0 aEn,tm.getD 1 aEn])=_;simp only[zCe];unfold invoke;simp
 rw[a];exact jN Qz.func170 (by kernel_rfl) rfl _ _ _
section
variable {v:zW}
def results_none {Q fn}(h:fn.results= #[])(tm)(u):(results fn tm).run Q u= .ok (.tuple #[]) u:=by unfold results;rw[h];simp[go_sem]
def Wt {S:zS}{cs:zL}{tm:zA}{k:zI}{u:zW}(h:S {eR tm (.code .ret::k)with mode:= .returning} [] u):Lone zq cs S (eR tm (.code .ret::k)) [] u:=
 Lone.step (fr1:={eR tm (.code .ret::k)with mode:= .returning}) (own1:=[]) (v1:=u) (es:= #[]) (aH rfl) rfl (.stop h)
def Iy {cs:zL}{tm:zA}{u:zW}:Lone zq cs (λfr own a=>own=[]/\a=u/\fr.mode= .returning/\fr.defers=[]/\fr.kind= .normal/\fr.fn=233) (eR tm [aN XM [],.code .ret]) [] u:=
 DI (Wt ⟨rfl,rfl,rfl,rfl,rfl,rfl⟩)
def UR {tm}(A:tm.size=43)(a)(d)(hs:XB a d≠0){R:zW->Prop}(h:Calls zq 170 #[tm.getD 0 aEn,tm.getD 1 aEn] ((boxed v aF).re a (d+1)) λe w'=>(∃x,e=aM x)/\R w')(cs):
  ∃w' fr,R w'/\Steps zq (lone (eR tm [.code Qz.qX]) cs (v.re a d)) (lone fr cs w')/\fr.fn=233/\fr.leaving zq w' (aM (.tuple #[])):=by
 obtain⟨E,l,K,⟨I,H,G⟩,s1⟩:=Lone.steps (Qn (S:=λfr own u=>fr=eR (JZ tm v) [aN XM [0],.code .ret]/\own=[]/\u=(boxed v aF).re a (d+1)) a d hs A (.stop ⟨rfl,rfl,rfl⟩));subst I;subst H;subst G;have t0:(JZ tm v).getD 0 aEn=tm.getD 0 aEn:=by unfold JZ;rw[bP (by decide)];exact Ar v (by decide)
 have t1:(JZ tm v).getD 1 aEn=tm.getD 1 aEn:=by unfold JZ;rw[bP (by decide)];exact Ar v (by decide)
 have m:=Tx (tm:=JZ tm v) [aN XM [0],.code .ret] ((boxed v aF).re a (d+1));rw[t0,t1]at m;have s2:step zq (lone (eR (JZ tm v) [aN XM [0],.code .ret]) cs ((boxed v aF).re a (d+1)))= .next (lone (Frame.enter zq 170 #[tm.getD 0 aEn,tm.getD 1 aEn] .normal) (eR (JZ tm v) [aN XM [0],.code .ret]::cs) ((boxed v aF).re a (d+1))):=by refine step_lone_go ?_;have e:=ES (P:=zq) (fr:=eR (JZ tm v) [aN XM [0],.code .ret]) (cs:=cs) (u:=(boxed v aF).re a (d+1)) (ops:=XM) (j:=0) (rest:=[]) (k:=[.code .ret]) (o:=jq) rfl rfl rfl rfl rfl aF;have J:stepG zq aF {frame:=eR (JZ tm v) [aN XM [0],.code .ret],callers:=cs,status:= .running,dying:=aB} ((boxed v aF).re a (d+1))=_:=e;rw[J];unfold stepG.apply;simp only[zCs];rw[m];rfl
 obtain⟨e,w',g,⟨⟨x,C⟩,D⟩,b,B,f⟩:=h (eR (JZ tm v) [aN XM [0],.code .ret]::cs);subst C;have p:=b;have s:=step_leave_returned (cs:=cs) (c:=eR (JZ tm v) [aN XM [0],.code .ret]) f;have F:(eR (JZ tm v) [aN XM [0],.code .ret]).finish x=eR ((JZ tm v).setIfInBounds 26 x) [aN XM [],.code .ret]:=rfl;rw[F]at s;obtain⟨Bq,i,v5,⟨z,y,w,t,r,q⟩,n⟩:=Lone.steps (Iy (cs:=cs) (tm:=(JZ tm v).setIfInBounds 26 x) (u:=w'));subst z;subst y;exact⟨v5,Bq,D,Steps.trans s1 (.head s2 (Steps.trans p (.head s n))),q,⟨w,t,r,Qz.f233,by rw[q];exact Qz.func233,results_none (Q:=zq) (fn:=Qz.f233) rfl Bq.tmps v5⟩⟩
end
end Go.Proofs
