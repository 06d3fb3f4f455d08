import Derived.Conc.Beside
import Derived.Conc.CrowdTrace
import Derived.Conc.WrSpec
import Derived.Conc.Script
import Derived.Test.YtghpcgagijhlaaaGreatDoorT01
set_option linter.all false
set_option maxRecDepth 100000
set_option maxHeartbeats 16000000
open Option renaming some->aA,none->aB
open Bool renaming true->aE,false->aF
open Or renaming inl->aG,inr->aH
open Go.Ending renaming returned->aL
open Go.Item renaming inRegion->aM
open Go.Obj renaming cells->aI
open Array renaming replicate->aEz
open Go renaming execOp->aEH,undef->aER
open Go.Next renaming value->aES,skip->aET
open Go.Trace renaming g?->aEU
open Go.Proofs.Tryz
namespace Go
abbrev zGd:=@Go.Conc.QuitsD.value
abbrev zGe:=@Go.RowKit.Below.refl
abbrev zGh:=@Go.RowKit.Below.heap_setCell
abbrev zGk:=@Go.wpList_store_row
abbrev zGm:=@Go.wpList_load_row
abbrev zGn:=@Go.heap_alloc_new
abbrev zGo:=@Go.ByteArray.toList_eq
abbrev zGt:=@Go.ConcN.sumTo_congr
abbrev zGv:=@Go.cell_of_row
abbrev zb (w w':World):Prop:=Go.RowKit.Below w.heap.size w w'
def hid {p:Prop}(h:p):Go.RowKit.Hid p:=h
end Go
namespace Go.Tr
open Go.Conc
def blk:Loc->Option Nat
 | .cell a=>aA a.block
 | .obj r=>aA r
 |_=>aB
structure Pm where
 rd:Nat->zP
 rw:Nat->zP
 sd:Nat->zP
 at':zP
structure Pm.Ok (p:Pm):Prop where
 Xd:∀{j k b},p.rw j b->p.rw k b->j=k
 Xe:∀{j k b},p.rw j b->p.rd k b->j=k
 Pu:∀{j b},p.at' b->¬p.rd j b
 Be:∀{j b},p.at' b->¬p.rw j b
 bk:∀{j k b},p.sd j b->p.sd k b->j=k
 YB:∀{j b},p.sd j b->p.at' b
def Vx (p:Pm)(j:Nat)(x:Touch):Prop:=
 ∀b,blk x.loc=aA b->(x.kind≠.said/\x.write=aF/\(p.rd j b\/p.rw j b))\/(x.kind≠.said/\p.rw j b)\/(x.kind= .atomic/\p.at' b)\/(x.kind= .said/\p.sd j b)
structure TI (t:Trace)(p:Pm)(Live:zP):Prop where
 clean:∀said,¬Race said t
 rd:∀{j b},p.rd j b->∀i a,touchAt t i=aA a->blk a.loc=aA b->a.write=aE->Knows t j i
 rw:∀{j b},p.rw j b->∀i a,touchAt t i=aA a->blk a.loc=aA b->Knows t j i
 sd:∀{j b},p.sd j b->∀i a,touchAt t i=aA a->blk a.loc=aA b->a.kind≠.atomic->Knows t j i
 Zb:∀{b},p.at' b->∀i a,touchAt t i=aA a->blk a.loc=aA b->a.kind≠.plain
 known:∀i a,touchAt t i=aA a->a.loc.isMemory=aE->Knows t 0 i\/(∃op,t[i]? =aA op/\Live op.g)\/∃b,blk a.loc=aA b/\p.at' b/\a.kind= .atomic/\(t.g? i=aA 0\/¬t.heard i)
def KE {l}(h:l.isMemory=aE):∃b,blk l=aA b:=by cases l<;>simp_all [Loc.isMemory,blk]
section
variable {t u:Trace}{p q:Pm}{Live Ed:zP}{j:Nat}
def dT {i a}(h:touchAt (t++u) i=aA a):(i<t.size/\touchAt t i=aA a)\/∃op,t.size<=i/\(t++u)[i]? =aA op/\op∈u/\op.act.touch? =aA a:=by
 obtain⟨x,e,b⟩:=touch_of h;obtain⟨hi,d⟩|⟨hi,c⟩:=getElem?_append_cases e
 .exact aG ⟨hi,by rw[touchAt_of d];exact b⟩
 .exact aH ⟨x,hi,e,c,b⟩
def TI.own (l:p.Ok)(h:TI t p Live)(B:∀op∈u,op.g=j)(A:j=0\/Live j\/∀i op,t.size<=i->(t++u)[i]? =aA op->∀x,op.act.touch? =aA x->x.loc.isMemory=aE->(∃b,blk x.loc=aA b/\p.at' b/\x.kind= .atomic)/\¬(t++u).heard i)
  (F:∀op∈u,∀x,op.act.touch? =aA x->Vx p j x):TI (t++u) p Live:=by
 refine⟨λsaid=>noRace_append (h.clean said) B λi a hi op e b r P=> ?_,λ{k b} f i a hi r C=> ?_,λ{k b} f i a hi r=> ?_,λ{k b} f i a hi r O=> ?_,λ{b} f i a hi r=> ?_,λi a hi H=> ?_⟩
 .obtain⟨hl,H,M,z⟩:=P;obtain⟨c,o⟩:=KE H;have E:=hl▸o;obtain⟨s,d,G⟩|⟨s,d⟩|⟨s,d⟩|⟨s,d⟩:=F op e b r c E
  .have C:a.write=aE:=by
    obtain x|x:=M;{exact x};{rw[d]at x;cases x}
   obtain G|G:=G;{exact h.rd G i a hi o C};{exact h.rw G i a hi o}
  .exact h.rw d i a hi o
  .have:=h.Zb d i a hi o;rw[s]at z;obtain x|x|⟨_,_,x⟩:=z
   .exact absurd x this
   .cases x
   .cases x
  .have:=h.Zb (l.YB d) i a hi o;rw[s]at z;obtain x|x|⟨_,x,_⟩:=z
   .exact absurd x this
   .cases x
   .exact h.sd d i a hi o (by rw[x];simp)
 .obtain⟨_,n⟩|⟨op,_,w,e,m⟩:=dT hi
  .exact(h.rd f i a n r C).app u
  .have:j=k:=by
    obtain⟨_,d,_⟩|⟨_,d⟩|⟨_,d⟩|⟨_,d⟩:=F op e a m b r;{rw[d]at C;cases C};{exact l.Xe d f};{exact absurd f (l.Pu d)};{exact absurd f (l.Pu (l.YB d))}
   have v:=knows_own w;rw[B op e,this]at v;exact v
 .obtain⟨_,n⟩|⟨op,_,w,e,m⟩:=dT hi
  .exact(h.rw f i a n r).app u
  .have:j=k:=by
    obtain⟨_,_,d|d⟩|⟨_,d⟩|⟨_,d⟩|⟨_,d⟩:=F op e a m b r;{exact(l.Xe f d).symm};{exact l.Xd d f};{exact l.Xd d f};{exact absurd f (l.Be d)};{exact absurd f (l.Be (l.YB d))}
   have v:=knows_own w;rw[B op e,this]at v;exact v
 .obtain⟨_,n⟩|⟨op,_,w,e,m⟩:=dT hi
  .exact(h.sd f i a n r O).app u
  .have:j=k:=by
    obtain⟨_,_,d|d⟩|⟨_,d⟩|⟨s,d⟩|⟨_,d⟩:=F op e a m b r;{exact absurd d (l.Pu (l.YB f))};{exact absurd d (l.Be (l.YB f))};{exact absurd d (l.Be (l.YB f))};{exact absurd s O};{exact l.bk d f}
   have v:=knows_own w;rw[B op e,this]at v;exact v
 .obtain⟨_,n⟩|⟨op,_,w,e,m⟩:=dT hi
  .exact h.Zb f i a n r
  .intro D;obtain⟨_,_,d|d⟩|⟨_,d⟩|⟨s,d⟩|⟨s,d⟩:=F op e a m b r
   .exact l.Pu f d
   .exact l.Be f d
   .exact l.Be f d
   .rw[D]at s;cases s
   .rw[D]at s;cases s
 .obtain⟨hl,n⟩|⟨op,N,w,e,m⟩:=dT hi
  .obtain x|⟨op,x,y⟩|x:=h.known i a n H
   .exact aG (x.app u)
   .exact aH (aG ⟨op,by rw[getElem?_append_old hl];exact x,y⟩)
   .obtain⟨b,L,K,J,I⟩:=x;exact aH (aH ⟨b,L,K,J,by rw[g?_old hl,heard_old hl];exact I⟩)
  .obtain A|A|A:=A
   .have v:=knows_own w;rw[B op e,A]at v;exact aG v
   .exact aH (aG ⟨op,w,by rw[B op e];exact A⟩)
   .obtain⟨⟨b,L,K,J⟩,I⟩:=A i op N w a m H;exact aH (aH ⟨b,L,K,J,aH I⟩)
def TI.to (h:TI t p Live)(g:∀j b,q.rd j b->(p.rd j b\/p.rw j b)\/∀i a,touchAt t i=aA a->blk a.loc≠aA b)
  (f:∀j b,q.rw j b->p.rw j b\/∀i a,touchAt t i=aA a->blk a.loc≠aA b) (e:∀j b,q.sd j b->(p.sd j b\/p.rw j b)\/∀i a,touchAt t i=aA a->blk a.loc≠aA b)
  (l:∀b,q.at' b->p.at' b\/∀i a,touchAt t i=aA a->blk a.loc≠aA b) (d:∀b,p.at' b->q.at' b) (hl:∀j,Live j->Ed j):TI t q Ed:=by
 refine⟨h.clean,λ{k b} c i a hi hb hw=> ?_,λ{k b} c i a hi hb=> ?_,λ{k b} c i a hi hb m=> ?_,λ{b} c i a hi hb=> ?_,λi a hi n=> ?_⟩
 .obtain(x|x)|x:=g k b c
  .exact h.rd x i a hi hb hw
  .exact h.rw x i a hi hb
  .exact absurd hb (x i a hi)
 .obtain x|x:=f k b c
  .exact h.rw x i a hi hb
  .exact absurd hb (x i a hi)
 .obtain(x|x)|x:=e k b c
  .exact h.sd x i a hi hb m
  .exact h.rw x i a hi hb
  .exact absurd hb (x i a hi)
 .obtain x|x:=l b c
  .exact h.Zb x i a hi hb
  .exact absurd hb (x i a hi)
 .obtain x|⟨op,x,y⟩|⟨b,x,y,z⟩:=h.known i a hi n
  .exact aG x
  .exact aH (aG ⟨op,x,hl _ y⟩)
  .exact aH (aH ⟨b,x,d b y,z⟩)
def TN {said}(h:¬Race said t)(l:∀op∈u,op.act.touch? =aB):¬Race said (t++u):=by
 rintro⟨i,j,f,⟨a,b,s,r,o⟩,m,n⟩;obtain⟨hi,k⟩|⟨op,_,_,d,c⟩:=dT s
 .obtain⟨v,g⟩|⟨op,_,_,d,c⟩:=dT r
  .exact h ⟨i,j,f,⟨a,b,k,g,o⟩,λe=>m (hb_app u e),λe=>n (hb_app u e)⟩
  .rw[l op d]at c;cases c
 .rw[l op d]at c;cases c
def TI.Nb (h:TI t p Live)(w:∀op∈u,op.act.touch? =aB)
  (o:∀j b,q.rd j b->p.rd j b\/p.rw j b\/(∃k,(p.rd k b\/p.rw k b)/\∀i,Knows t k i->Knows (t++u) j i)\/∀i a,touchAt t i=aA a->blk a.loc≠aA b)
  (n:∀j b,q.rw j b->p.rw j b\/(∃k,p.rw k b/\∀i,Knows t k i->Knows (t++u) j i)\/∀i a,touchAt t i=aA a->blk a.loc≠aA b)
  (m:∀j b,q.sd j b->p.sd j b\/(∃k,p.sd k b/\∀i,Knows t k i->Knows (t++u) j i)\/∀i a,touchAt t i=aA a->blk a.loc≠aA b)
  (s:∀b,q.at' b->p.at' b\/∀i a,touchAt t i=aA a->blk a.loc≠aA b) (f:∀b,p.at' b->q.at' b)
  (hl:∀j,Live j->Ed j\/∀i op a,t[i]? =aA op->op.g=j->touchAt t i=aA a->Knows (t++u) 0 i):TI (t++u) q Ed:=by
 have old:∀{i a},touchAt (t++u) i=aA a->i<t.size/\touchAt t i=aA a:=λ{i a} hi=>by obtain x|⟨op,_,_,r,d⟩:=dT hi;{exact x};{rw[w op r]at d;cases d}
 refine⟨λsaid=>TN (h.clean said) w,λ{k b} c i a hi hb hw=> ?_,λ{k b} c i a hi hb=> ?_,λ{k b} c i a hi hb e=> ?_,λ{b} c i a hi hb=> ?_,λi a hi A=> ?_⟩
 .obtain⟨_,hi⟩:=old hi;obtain x|x|⟨v,x|x,y⟩|x:=o k b c
  .exact(h.rd x i a hi hb hw).app u
  .exact(h.rw x i a hi hb).app u
  .exact y i (h.rd x i a hi hb hw)
  .exact y i (h.rw x i a hi hb)
  .exact absurd hb (x i a hi)
 .obtain⟨_,hi⟩:=old hi;obtain x|⟨v,x,y⟩|x:=n k b c
  .exact(h.rw x i a hi hb).app u
  .exact y i (h.rw x i a hi hb)
  .exact absurd hb (x i a hi)
 .obtain⟨_,hi⟩:=old hi;obtain x|⟨v,x,y⟩|x:=m k b c
  .exact(h.sd x i a hi hb e).app u
  .exact y i (h.sd x i a hi hb e)
  .exact absurd hb (x i a hi)
 .obtain⟨_,hi⟩:=old hi;obtain x|x:=s b c
  .exact h.Zb x i a hi hb
  .exact absurd hb (x i a hi)
 .obtain⟨bW,hi⟩:=old hi;obtain x|⟨op,x,y⟩|⟨b,x,y,z⟩:=h.known i a hi A
  .exact aG (x.app u)
  .obtain l|l:=hl _ y
   .exact aH (aG ⟨op,by rw[getElem?_append_old bW];exact x,l⟩)
   .exact aG (l i op a x rfl hi)
  .exact aH (aH ⟨b,x,f b y,z.1,by rw[g?_old bW,heard_old bW];exact z.2⟩)
def FX {s r c k cap x1 x2 x3 x4}(a:x1.g=s/\x1.act= .send c k)(m:x2.g=r/\x2.act= .recv c k cap)(v:x3.g=s)(e:x3.act= .sendDone c k)(d:x4.g=r/\x4.act= .recvDone c k)
  (hs:Deaf t s=0) (f:Deaf t r=0) {i} (h:Knows t s i):Knows (t++ #[x1,x2,x3,x4]) r i:=by
 have b:(t++ #[x1,x2,x3,x4])[t.size]? =aA x1:=by rw[zBx (zAb _)];simp
 have p2:(t++ #[x1,x2,x3,x4])[t.size+1]? =aA x2:=by rw[zBx (by omega)];simp
 have p3:(t++ #[x1,x2,x3,x4])[t.size+2]? =aA x3:=by rw[zBx (by omega)];simp
 have p4:(t++ #[x1,x2,x3,x4])[t.size+3]? =aA x4:=by rw[zBx (by omega)];simp
 have o:(t++ #[x1,x2,x3,x4]).heard t.size:=⟨s,by simp[aEU,a.1],by rw[deaf_old (zAb _)];exact hs⟩;have n:(t++ #[x1,x2,x3,x4]).heard (t.size+3):=by refine⟨r,by simp[aEU,d.1],?_⟩;rw[deaf_succ p3,deaf_succ p2,deaf_succ b,deaf_old (zAb _)];simp only[deafStep,a.2,m.2,e];exact f
 have l:=h.hb_new (zAb _) b a.1;exact⟨t.size+3,x4,p4,d.1,aH (l.trans (.single (aH ⟨.handOver (by rw[act?_of b,a.2]) (by rw[act?_of p4,d.2]),o,n⟩)))⟩
def PM {c i a r x}(b:x.g=r/\x.act= .recvClosed c)(e:t.act? a=aA (.close c))(hh:t.heard a)(f:Deaf t r=0)(h:Before t i a):Knows (t++ #[x]) r i:=by
 have d:(t++ #[x])[t.size]? =aA x:=by rw[zBx (zAb _)];simp
 have bW:=lt_of_act? e;have k:(t++ #[x]).heard t.size:=⟨r,by simp[aEU,b.1],by rw[deaf_old (zAb _)];exact f⟩;refine⟨t.size,x,d,b.1,aH ((h.app #[x]).hb (.single (aH ⟨.closed (by rw[act?_old bW];exact e) (by rw[act?_of d,b.2]),?_,k⟩)))⟩;exact(heard_old bW).2 hh
def TI.Ta {sA B}(h:Past sA B t){S}(A:∀l,sA l->∃b,blk l=aA b/\S b)(G:∀b,S b->∀i a,touchAt t i=aA a->blk a.loc=aA b->a.kind≠.plain)
  (H:∀l b,blk l=aA b->S b->sA l):
  TI t ⟨λ_ _=>False,λj b=>j=0/\¬S b,λ_ _=>False,S⟩ (λ_=>False):=by
 refine⟨h.clean,λ{k b} c=>c.elim,λ{k b} c i a hi d=> ?_,λ{k b} c=>c.elim,λ{b} c i a hi d=>G b c i a hi d,λi a hi e=> ?_⟩
 .obtain⟨rfl,c⟩:=c;have e:a.loc.isMemory=aE:=by{cases hl:a.loc<;>rw[hl]at d<;>simp_all [blk,Loc.isMemory]};obtain x|⟨x,_⟩:=h.known i a hi e;{exact x};{obtain⟨C,f,v⟩:=A _ x;rw[d]at f;cases f;exact absurd v c}
 .obtain x|⟨x,y⟩:=h.known i a hi e
  .exact aG x
  .obtain⟨C,f,v⟩:=A _ x;by_cases s:t.g? i=aA 0\/¬t.heard i
   .exact aH (aH ⟨C,f,v,y,s⟩)
   .have r:=zCb λz=>s (aH z);have o:t.g? i≠aA 0:=λz=>s (aG z);obtain⟨op,n,E⟩:=touch_of hi;have w:t.g? i=aA op.g:=by{simp[aEU,n]};obtain⟨j,F,d⟩:=h.over i op.g w (λz=>o (by rw[w,z])) ⟨a,hi,e,aH r⟩;obtain⟨z,D,m⟩:=zBm.1 F;exact aG ⟨j,z,D,m,aH d⟩
def TI.past {B}(h:TI t p (λ_=>False))(w:Deaf t 0=0)(hs:∀op∈t,op.act.low B):Past (λl=>∃b,blk l=aA b/\p.at' b) B t:=by
 refine⟨h.clean,λi a hi n=> ?_,λi g k e y=> ?_,w,hs⟩
 .obtain x|⟨_,_,x⟩|⟨b,s,r,m,_⟩:=h.known i a hi n
  .exact aG x
  .exact x.elim
  .exact aH ⟨⟨b,s,r⟩,m⟩
 .obtain⟨a,A,n,f⟩:=y;obtain⟨q,z,v,d,o⟩|⟨_,_,x⟩|⟨b,s,r,m,c⟩:=h.known i a A n
  .refine⟨q,by simp[aEU,v,d],?_⟩;obtain rfl|o:=o
   .rw[aEU,v]at k;simp only[zBe,Option.some.injEq]at k;exact absurd (k.symm.trans d) e
   .exact o
  .exact x.elim
  .obtain f|f:=f
   .exact absurd m f
   .obtain c|c:=c
    .rw[k]at c;exact absurd (zAk c) e
    .exact absurd f c
end
end Go.Tr
namespace Go.Ren
open Go.Conc (G)
inductive Tree where
 |leaf
 |node (ch:zW->Tree)
def Tree.Lt (a b:Tree):Prop:=∃ch w,b= .node ch/\a=ch w
def Tree.wf:WellFounded Tree.Lt:=by
 constructor;intro a;induction a with
 |leaf=>exact⟨_,λb ⟨_,_,h,_⟩=>by cases h⟩
 |node ch i=>exact⟨_,λb ⟨_,w,h,e⟩=>by cases h;exact e▸i w⟩
def Tree.nat:Nat->Tree
 |0=> .leaf
 |n+1=> .node λ_=>Tree.nat n
def Tree.fN (n):Tree.Lt (Tree.nat n) (Tree.nat (n+1)):=⟨_,default,rfl,rfl⟩
structure cE (rd rw:zP)(w w₁:zW):Prop where
 cN:∀b,rd b\/rw b->w₁.heap[b]? =w.heap[b]?
 size:w.heap.size<=w₁.heap.size
 tape:w₁.tape=w.tape
 os:w₁.os=w.os
 output:w₁.output=w.output
structure Does (rw:zP)(w w':zW):Prop where
 keep:∀b,b<w.heap.size->¬rw b->w'.heap[b]? =w.heap[b]?
 size:w.heap.size<=w'.heap.size
 tape:w'.tape=w.tape
 os:w'.os=w.os
 output:w'.output=w.output
def grown (rw:zP)(w w':zW):zP:=λb=>rw b\/(w.heap.size<=b/\b<w'.heap.size)
def WR (rd rw:zP)(e:Event):Prop:=
 (∃a wr s,e=⟨.cell a,wr,s⟩/\(rw a.block\/(wr=aF/\rd a.block)))\/(∃r s,e=⟨.obj r,aF,s⟩/\(rw r\/rd r))\/e.loc= .mark .noRoom\/e.loc= .output\/∃f,e.loc= .mark (.extern f)
def cE.refl (rd rw)(w):cE rd rw w w:=⟨λ_ _=>rfl,zAb _,rfl,rfl,rfl⟩
def cE.trans {rd rw:zP}{a b c:zW}(h:cE rd rw a b)(k:cE rd rw b c):cE rd rw a c:=
 ⟨λx d=>(k.cN x d).trans (h.cN x d),zAw h.size k.size,k.tape.trans h.tape,k.os.trans h.os,k.output.trans h.output⟩
def cM (P:zZ)(main:Bool)(J:zW->Prop)(S:(zP)->(zP)->zU):Tree->(zP)->(zP)->zU
 | .leaf,rd,rw,g,w=>∀a,cE rd rw w a->J a->S rd rw g a
 | .node ch,rd,rw,g,w=>g.status= .running/\∀a,cE rd rw w a->J a->∃c b d,stepG P main g a= .go c b d/\Does rw a b/\(∀e∈d,WR rd (grown rw a b) e)/\cM P main J S (ch a) rd (grown rw a b) c b
section
variable {P:zZ}{main:Bool}{J:zW->Prop}{S:(zP)->(zP)->zU}
def cM.rely:∀{tr:Tree}{rd rw:zP}{g:zH}{w w₁:zW},cM P main J S tr rd rw g w->cE rd rw w w₁->cM P main J S tr rd rw g w₁
 | .leaf,_,_,_,_,_,h,r=>λa b j=>h a (r.trans b) j
 | .node _,_,_,_,_,_,h,r=>⟨h.1,λa b j=>h.2 a (r.trans b) j⟩
def cM.mono {c:(zP)->(zP)->zU}(b:∀rd rw g w,S rd rw g w->c rd rw g w):∀{tr:Tree}{rd rw:zP}{g:zH}{w:zW},cM P main J S tr rd rw g w->cM P main J c tr rd rw g w
 | .leaf,_,_,_,_,h=>λa r j=>b _ _ _ _ (h a r j)
 | .node ch,_,_,_,_,h=>⟨h.1,λa r j=>let⟨l,d,es,k,i,f,e⟩:=h.2 a r j;⟨l,d,es,k,i,f,e.mono b⟩⟩
def cM.step {rd rw g w}(d:g.status= .running)
  (h:∀w₁,cE rd rw w w₁->J w₁->∃a w' es,stepG P main g w₁= .go a w' es/\Does rw w₁ w'/\(∀e∈es,WR rd (grown rw w₁ w') e)/\∃tr,cM P main J S tr rd (grown rw w₁ w') a w'):∃tr,cM P main J S tr rd rw g w:=by
 have c:∀w₁:zW,∃tr:Tree,cE rd rw w w₁->J w₁->∃a w' es,stepG P main g w₁= .go a w' es/\Does rw w₁ w'/\(∀e∈es,WR rd (grown rw w₁ w') e)/\cM P main J S tr rd (grown rw w₁ w') a w':=λw₁=>by by_cases b:cE rd rw w w₁/\J w₁;{obtain⟨a,w',es,l,k,j,tr,i⟩:=h w₁ b.1 b.2;exact⟨tr,λ_ _=>⟨a,w',es,l,k,j,i⟩⟩};{exact⟨.leaf,λx y=>absurd ⟨x,y⟩ b⟩}
 exact⟨.node λw₁=>Classical.choose (c w₁),d,λw₁ b f=>zAv (c w₁) b f⟩
def cM.bind {b:(zP)->(zP)->zU}(a:∀rd rw g w,(∀w₁,cE rd rw w w₁->J w₁->S rd rw g w₁)->∃tr,cM P main J b tr rd rw g w):
  ∀{tr:Tree}{rd rw:zP}{g:zH}{w:zW},cM P main J S tr rd rw g w->∃tr,cM P main J b tr rd rw g w
 | .leaf,_,_,_,_,h=>a _ _ _ _ h
 | .node ch,_,_,_,_,h=>cM.step h.1 λw₁ r j=>let⟨k,c,es,i,f,e,d⟩:=h.2 w₁ r j;⟨k,c,es,i,f,e,d.bind a⟩
end
def dS (rw)(w):grown rw w w=rw:=by
 funext b;apply propext;constructor
 .rintro(h|⟨c,a⟩)
  .exact h
  .omega
 .exact aG
def Does.refl (rw)(w):Does rw w w:=⟨λ_ _ _=>rfl,zAb _,rfl,rfl,rfl⟩
def yJ {P:zZ}{main:Bool}{J:zW->Prop}{R:zW->zW->Prop}{rd rw:zP}{Stop:zU}(a:∀w w₁,cE rd rw w w₁->J w₁->R w w₁):
  ∀{n:Nat}{g:zH}{w:zW},Go.Conc.Goes P main R Go.ConcR.DC0 Stop n g w->∃tr,cM P main J (λc b g w=>c=rd/\b=rw/\Stop g w) tr rd rw g w
 |0,g,w,h=>⟨.leaf,λw₁ r j=>⟨rfl,rfl,h w₁ (a w w₁ r j)⟩⟩
 |n+1,g,w,h=>by obtain h|⟨e,h⟩:=h;{exact⟨.leaf,λw₁ r j=>⟨rfl,rfl,h w₁ (a w w₁ r j)⟩⟩};{refine cM.step e λw₁ r j=> ?_;obtain⟨m,d,o,l,⟨k,i⟩,f⟩:=Go.Conc.goes_elim (h w₁ (a w w₁ r j));subst k;subst i;refine⟨m,d,#[],l,Does.refl rw d,by simp,?_⟩;rw[dS];exact yJ a f}
section
variable {P:zZ}{Al:zF}{K:Kp}
def Ac {ρ rd rw}(c:∀b b',ρ b b'->(K b/\rd b')\/(¬K b/\rw b')){e}(h:mS K ρ e):WR rd rw e:=by
 obtain⟨a,j,wr,s,rfl,i,f⟩|(h|h)|h|⟨r,d,s,rfl,g⟩:=h
 .refine aG ⟨j,wr,s,rfl,?_⟩;obtain⟨k,x⟩|⟨_,x⟩:=c _ _ i.1
  .right;refine⟨?_,x⟩;cases wr with
   |false=>rfl
   |true=>exact absurd k (f rfl)
  .exact aG x
 .exact aH (aH (aG h))
 .exact aH (aH (aH (aG h)))
 .exact aH (aH (aH (aH h)))
 .refine aH (aG ⟨d,s,rfl,?_⟩);obtain⟨_,x⟩|⟨_,x⟩:=c _ _ g
  .exact aH x
  .exact aG x
end
section
variable(P:zZ)(fs:Array Func)
def sI:∀(d:Nat)(t:zD)(b:Nat),cellHolding ⟨P.toTables,fs⟩ d t b=cellHolding P d t b
 |0,_,_=>rfl
 |d+1,t,b=>by unfold cellHolding;simp only[sI d];rfl
def wG:∀(d:Nat)(t:zD)(b:Nat),plainCell ⟨P.toTables,fs⟩ d t b=plainCell P d t b
 |0,_,_=>rfl
 |d+1,t,b=>by unfold plainCell;simp only[wG d];rfl
def wF (c:zA)(e:zD):∀(f x s:Nat),seenCells ⟨P.toTables,fs⟩ c e f x s=seenCells P c e f x s
 |0,_,_=>rfl
 |f+1,x,s=>by unfold seenCells;simp only[wF c e f,sI];rfl
def Bz (w:zW)(a)(u)(k)(t):w.seen ⟨P.toTables,fs⟩ a u k t=w.seen P a u k t:=by unfold World.seen;simp only[wF,wG,jF];rfl
def RB (w:zW)(a)(u)(k)(t):w.viewLoad ⟨P.toTables,fs⟩ a u k t=w.viewLoad P a u k t:=by unfold World.viewLoad;simp only[Bz]
def RD:∀(d:Nat)(t:zD),tight ⟨P.toTables,fs⟩ d t=tight P d t
 |0,_=>rfl
 |d+1,t=>by unfold tight;simp only[RD d];rfl
def NK (w:zW)(a)(u)(k)(v)(t):w.viewStore ⟨P.toTables,fs⟩ a u k v t=w.viewStore P a u k v t:=by unfold World.viewStore;simp only[Bz,RD];rfl
def EH (w:zW)(a)(t):w.farLoad ⟨P.toTables,fs⟩ a t=w.farLoad P a t:=by unfold World.farLoad;simp only[RB]
def RG (w:zW)(a)(v)(t):w.farStore ⟨P.toTables,fs⟩ a v t=w.farStore P a v t:=by unfold World.farStore;simp only[NK]
end
def NP (P:zZ)(fs:Array Func){α:Type}(s:Sem α):Prop:=∀(w:zW)(e:zE),s.runT ⟨P.toTables,fs⟩ w e=s.runT P w e
section
variable {P:zZ}{fs:Array Func}{α β:Type}
def jO (a:α):NP P fs (Pure.pure a:Sem α):=λ_ _=>rfl
def CZ (h:Halt):NP P fs (.halt h:Sem α):=λ_ _=>rfl
def fK {s}{f:α->Sem β}(h:NP P fs s)(b:∀a,NP P fs (f a)):NP P fs (s>>=f):=λw e=>by
 rw[bD,bD,h w e];split
 .exact b _ _ _
 .rfl
def Tb (a)(m):NP P fs (load a m):=λw e=>by simp only[load,Sem.runT,EH]
def xK (r):NP P fs (shape r):=λ_ _=>rfl
def tW (a):NP P fs (frozen a):=λ_ _=>rfl
def Gu (r):NP P fs (getObj r):=λw e=>by simp only[getObj,Sem.runT]
def Gv (q):NP P fs (choose q):=λ_ _=>rfl
def AG {c} [Decidable c] {s t:Sem α}(h:NP P fs s)(k:NP P fs t):NP P fs (if c then s else t):=by split<;>assumption
def Gs (r):NP P fs (viewAt r):=by refine fK (xK r) λs=> ?_;refine AG (jO _) (fK (Gu r) λo=> ?_);cases o<;>exact jO _
def LL (a):NP P fs (noView a):=by refine fK (Gs _) λs=> ?_;exact AG (CZ _) (jO _)
def xJ (a):NP P fs (stringish a):=by
 refine fK (tW a) λt=> ?_;refine AG (jO _) (fK (xK _) λs=> ?_);cases s with
 |none=>exact jO _
 |some x=>exact tW _
def TJ (a b):NP P fs (mayBeOne a b):=by refine fK (xJ a) λs=>fK (xJ b) λt=> ?_;refine fK (fK (xK _) λ_=>jO _) λ_=>fK (fK (xK _) λ_=>jO _) λ_=>jO _
def CE (a b):NP P fs (sameAddr a b):=by refine AG (jO _) ?_;refine fK (tW a) λs=>fK (tW b) λt=> ?_;refine AG (CZ _) ?_;refine fK (LL a) λ_=>fK (LL b) λ_=>fK (TJ a b) λ_=> ?_;exact AG (fK (Gv _) λ_=>jO _) (jO _)
def xL:∀(n:Nat)(a:Addr)(acc:ByteArray),NP P fs (loadBytes a acc n)
 |0,_,_=>jO _
 |n+1,a,acc=>by
  unfold loadBytes;refine fK (Tb _ _) λv=> ?_;cases v with
  |int k b=>
   cases k with
   |u8=>exact xL n _ _
   |_=>exact CZ _
  |_=>exact CZ _
end
section
variable {P:zZ}{Al:zF}{F:Kp}{α β:Type}{A:Rn->α->β->Prop}{fs:Array Func}
def bN.blind (W:Shape P fs)(Q:F.rX=aB){π s s'}(h:bN P Al F A π s s'):
  ∀(v w)(z g),bQ P Al F π v w->(∃hl u C,s.runT P v z=(.halt hl u,C)/\Fatal hl)\/s'.runT ⟨P.toTables,fs⟩ w g=s'.runT P w g:=by
 induction h with
 |pure h=>intro v w z g j;exact aH rfl
 | @load π m a I k G h H B=>
  intro v w z g j;obtain⟨y,Z,E,D,J⟩|⟨E,D⟩:=j.cell h;{simp only[Sem.runT,E,D];exact B y Z J v w _ _ j}
  .obtain⟨hl,J,K⟩|⟨x,b,Y,l,J,K,e5,X⟩:=j.sw h (m== .atomic)
   .left;refine⟨hl,v,z,?_,K⟩;simp only[Sem.runT,E,J]
   .simp only[Sem.runT,E,D,J,EH,K];exact B x x X v w _ _ j
 | @store π m a I x L k G h U H B=>
  intro v w z g j;have O:(∀(cs:zA),x≠.agg cs)->(∀(cs:zA),x≠.tuple cs)->(∀(cs:zA),L≠.agg cs)->(∀(cs:zA),L≠.tuple cs)->
    (∃hl u C,(Sem.store m a x k).runT P v z=(.halt hl u,C)/\Fatal hl)\/(Sem.store m I L G).runT ⟨P.toTables,fs⟩ w g=(Sem.store m I L G).runT P w g:=by
   intro n1 n2 n3 n4
   rw[Sem.runT.eq_5 _ _ _ _ _ _ _ (λcs h=>n1 cs h) (λcs h=>n2 cs h),Sem.runT.eq_5 _ _ _ _ _ _ _ (λcs h=>n3 cs h) (λcs h=>n4 cs h),Sem.runT.eq_5 _ _ _ _ _ _ _ (λcs h=>n3 cs h) (λcs h=>n4 cs h)]
   obtain⟨y,Z,E,D,J⟩|⟨E,D⟩:=j.cell h
   .simp only[E,D];by_cases hF:F a.block
    .left;rw[j.Db h hF E];exact⟨_,_,_,rfl,by simp⟩
    .rw[j.frozen h hF];cases hf:v.frozen? a with
     |true=>left;exact⟨_,_,_,rfl,by simp⟩
     |false=>exact B (v.setCell a x) (w.setCell I L) _ _ (j.setCell h hF U)
   .simp only[E,D,RG];obtain⟨hl,J,K⟩|⟨v1,w1,b,Y,l,J,K,e5,X,e7,e8⟩:=j.farStore h U (m== .atomic)
    .left;exact⟨hl,v,z,by simp only[J],K⟩
    .simp only[J,K];exact B v1 w1 _ _ X
  cases U with
  |agg _ _=>left;exact⟨_,_,_,rfl,by simp⟩
  |tuple _ _=>left;exact⟨_,_,_,rfl,by simp⟩
  |junk vb S=>exact O (by simp) (by simp) (λcs e=>by rw[e]at S;exact S) (λcs e=>by rw[e]at S;exact S)
  |_=>exact O (by simp) (by simp) (by simp) (by simp)
 | @new π c c' ty k G h H B=>intro v w z g j;simp only[Sem.runT];exact B (more π v.heap.size w.heap.size) v.heap.size w.heap.size (j.push h ty).ok (λ_ _ x=>aG x) (aH ⟨rfl,rfl⟩) _ _ z g (j.push h ty)
 | @marked π c c' ty k G hC h H B=>intro v w z g j;rw[nZ,nZ,nZ];exact B (more π v.heap.size w.heap.size) v.heap.size w.heap.size (j.qQ hC h ty).ok (λ_ _ x=>aG x) (aH ⟨rfl,rfl⟩) _ _ z g (j.qQ hC h ty)
 | @view π x L k G h H B=>intro v w z g j;simp only[Sem.runT];exact B (more π v.heap.size w.heap.size) v.heap.size w.heap.size (j.xF h).ok (λ_ _ x=>aG x) (aH ⟨rfl,rfl⟩) _ _ z g (j.xF h)
 | @getObj π r N k G h H B=>
  intro v w z g j;obtain⟨c,c',ty,fr,fr',R,T,_⟩|⟨_,o,R,T,M⟩|⟨x,L,R,T,M⟩:=j.blk _ _ h;{left;exact⟨.stuck "getObj: a row of cells",v,z,by simp only[Sem.runT,R],by simp⟩}
  .have E:(Sem.getObj r k).runT P v z=(k o).runT P v (z.push ⟨.obj r,aF,o.isChan⟩):=by
    simp only[Sem.runT,R];cases o with
    |cells c t f=>exact absurd rfl (M.1 c t f)
    |_=>rfl
   have D:∀p:zZ,(Sem.getObj N G).runT p w g=(G o).runT p w (g.push ⟨.obj N,aF,o.isChan⟩):=λp=>by
    simp only[Sem.runT,T];cases o with
    |cells c t f=>exact absurd rfl (M.1 c t f)
    |_=>rfl
   rw[E,D,D];exact B o o (aG ⟨M,rfl⟩) v w _ _ j
  .have E:(Sem.getObj r k).runT P v z=(k x).runT P v (z.push ⟨.obj r,aF,aF⟩):=by
    simp only[Sem.runT,R];cases M<;>rfl
   have D:∀p:zZ,(Sem.getObj N G).runT p w g=(G L).runT p w (g.push ⟨.obj N,aF,aF⟩):=λp=>by simp only[Sem.runT,T];cases M<;>rfl
   rw[E,D,D];exact B _ _ (aH ⟨x,L,rfl,rfl,M⟩) v w _ _ j
 | @shape π r N k G h H B=>intro v w z g j;simp only[Sem.runT,j.shape h];exact B _ v w z g j
 | @freeze π a I n k G hF h H B=>intro v w z g j;simp only[Sem.runT];exact B (v.freeze a n) (w.freeze I n) z g (j.freeze hF h n)
 | @frozen π a I k G hF h H B=>intro v w z g j;simp only[Sem.runT,j.frozen h (hF _)];exact B _ v w z g j
 | @share π a I n k G h H B=>
  intro v w z g j;rw[bD,bD,bD,xL n I .empty];obtain⟨hl,C,E,D⟩|⟨s,C,d,E,D,J,K⟩:=uY j n .empty z g h;{rw[E];exact aG ⟨hl,v,C,rfl,D⟩}
  .rw[E,D];have hW:bQ P Al F π (v.freeze a n) (w.freeze I n):=by
    by_cases V:n=0;{subst V;exact j};{exact j.UW h (K V).1 λ_=>(K V).2}
   exact B s (v.freeze a n) (w.freeze I n) C (g++d) hW
 | @same π a I b Y k G hN h h' H B=>intro v w z g j;rw[bD,bD,bD,CE I Y];obtain⟨hl,C,E,D⟩|⟨t,C,d,E,D,J⟩:=SJ j hN h h' z g;{rw[E];exact aG ⟨hl,v,C,rfl,D⟩};{rw[E,D];exact B t v w _ _ j}
 | @choose π q k G H B=>intro v w z g j;simp only[Sem.runT];split;{exact B 0 v w z g j};{have hl:∀i,F.upto i:=λi u hu=>by{rw[Q]at hu;cases hu};have e0:w.tape w.drawn=v.tape v.drawn:=j.tape 0 (hl _);have E:q.cut (w.tape w.drawn q)=q.cut (v.tape v.drawn q):=by{rw[e0]};rw[E];exact B (q.cut (v.tape v.drawn q)) {v with drawn:=v.drawn+1} {w with drawn:=w.drawn+1} z g ⟨j.ok,j.blk,λk _=>by have:=j.tape (k+1) (hl _);simpa [zCc,zFw 1 k]using this,j.fresh,j.low,j.os,j.rows⟩}
 | @program π k G he H B=>intro v w z g j;simp only[Sem.runT];rw[he fs W];exact B v w z g j
 | @mark π m k G hm H B=>intro v w z g j;simp only[Sem.runT];exact B v w _ _ j
 | @env π k G H B=>intro v w z g j;have hs:∀(u:zW),u.sys .env=(.strings u.os.env,u):=λu=>rfl;simp only[Sem.runT,hs,j.os];exact B (.strings v.os.env) v w _ _ j
 |panic h=>intro v w z g j;exact aH rfl
 |dead h=>intro v w z g j;obtain⟨hl,w1,C,e,D⟩:=h v z;exact aG ⟨hl,w1,C,e,D⟩
end
section
variable {P:zZ}{Al:zF}{F:Kp}{π:Rn}{cs' own own':zL}{v w:zW}{fs:Array Func}
def eD (h:Shape P fs)(fn)(es):seen ⟨P.toTables,fs⟩ fn es=seen P fn es:=by
 have c:∀f:zN,((⟨P.toTables,fs⟩:zZ).funcs[f]?).any (·.norace)=(P.funcs[f]?).any (·.norace):=λf=>by obtain e|⟨a,b,i,g,_,_,_,d⟩:=h f;{dsimp only;rw[e]};{dsimp only;rw[i,g];simp[d]}
 unfold seen;simp only[c]
def Om {f}(h:fs[f]? =P.funcs[f]?)(x)(k:CallKind):Frame.enter ⟨P.toTables,fs⟩ f x k=Frame.enter P f x k:=by unfold Frame.enter;rw[h]
def sT (h:F.rX=aB)(u):¬Uo F u:=by rintro⟨x,a,_⟩;rw[h]at a;cases a
def pD {fr C s hl u e}(h:s.runT P v #[]=(.halt hl u,e))(b:Fatal hl):∃o u c,stepG.apply P aE fr C aB s v= .ended o u c:=by
 unfold stepG.apply;simp only[zCq];rw[h];obtain⟨a,rfl⟩|⟨x,rfl,hu⟩:=b
 .exact⟨_,_,_,rfl⟩
 .cases x with
  |initOrder g=>exact absurd rfl (hu g)
  |_=>exact⟨_,_,_,rfl⟩
end
section
variable {P:zZ}{Al:zF}{F:Kp}{π:Rn}{v w:zW}
def qL (u:zW)(a:Addr):Bool:=u.frozen? a||(match u.shape? a.block with|some (_,n)=>u.frozen? {block:=a.block,off:=n}|none=>aF)
def bare (u:zW)(a:Addr):Bool:=u.shape? a.block matches aA (_,0)
def nX (u:zW)(a b:Addr):Bool:=(qL u a&&qL u b)||(qL u a&&bare u a)||(qL u b&&bare u b)
def sK (u)(a)(es):(stringish a).runT P u es=(.ok (qL u a) u,es):=by
 show(Sem.frozen a _).runT P u es=_;simp only[Sem.runT];unfold qL;cases h:u.frozen? a with
 |true=>rfl
 |false=>
  show(Sem.shape a.block _).runT P u es=_;simp only[Sem.runT];cases hu:u.shape? a.block with
  |none=>rfl
  |some x=>obtain⟨t,n⟩:=x;show(Sem.frozen {block:=a.block,off:=n} _).runT P u es=_;simp only[Sem.runT,zFs]
def JS (u)(a b)(es):(mayBeOne a b).runT P u es=(.ok (nX u a b) u,es):=by unfold mayBeOne;rw[bD,sK];dsimp only;rw[bD,sK];show(Sem.shape a.block _).runT P u es=_;simp only[Sem.runT];show(Sem.shape b.block _).runT P u es=_;simp only[Sem.runT];rfl
def AP (u:zW):Bool:=(Question.extern "sameAddr.stringBytes" 2).cut (u.tape u.drawn (.extern "sameAddr.stringBytes" 2))==1
def pK (u:zW){a b:Addr}(h:a.block≠b.block)(es:zE):(sameAddr a b).runT P u es=
  if(u.frozen? a&&u.frozen? b)=aE then(.halt (.unsupported .addressObserved) u,es)else
   match(noView a).runT P u es with
   |(.ok _ u1,c)=>match(noView b).runT P u1 c with
    |(.ok _ u2,e)=>if nX u2 a b=aE then(.ok (AP u2) {u2 with drawn:=u2.drawn+1},e)else(.ok aF u2,e)
    |(.halt h u2,e)=>(.halt h u2,e)
   |(.halt h u1,c)=>(.halt h u1,c):=by
 unfold sameAddr;rw[zDx h];simp only[zAz,zDc];show(Sem.frozen a _).runT P u es=_;simp only[Sem.runT];show(Sem.frozen b _).runT P u es=_;simp only[Sem.runT];show Sem.runT P (if(u.frozen? a&&u.frozen? b)=aE then _ else _) u es=_;cases(u.frozen? a&&u.frozen? b)with
 |true=>rfl
 |false=>
  simp only[zAz,zDc];rw[bD];cases(noView a).runT P u es with
  |mk r c=>
   cases r with
   |halt h u1=>rfl
   |ok _ u1=>
    dsimp only;rw[bD];cases(noView b).runT P u1 c with
    |mk r e=>
     cases r with
     |halt h u2=>rfl
     |ok _ u2=>
      dsimp only;rw[bD,JS];dsimp only;cases nX u2 a b with
      |true=>rfl
      |false=>rfl
def Dp (Q:zZ){o:Oper}{e:Operand->zY}{op:BinOp}{t:zD}{x y:Operand}{j:zD}(n:o.op= .binOp op t x y j)(f:op= .eql\/op= .neq){el:zD}{i:TypeInfo}(m:Q.underlying t=aA (.pointer el))(hi:Q.info? el=aA i)(hs:i.size≠0)
  {a b:Addr} (l:e x= .pointer (aA a)) (k:e y= .pointer (aA b)) (u:zW) (es:zE):
  (aEH e o).runT Q u es=match(sameAddr a b).runT Q u es with
   |(.ok r u1,c)=>(.ok (.value (.bool (if op= .eql then r else !r))) u1,c)
   |(.halt h u1,c)=>(.halt h u1,c):=by
 have g:∀(u:zW)(es:zE),(Op.equal t (.pointer (aA a)) (.pointer (aA b))).runT Q u es=(sameAddr a b).runT Q u es:=λu es=>by
  show(Op.equalIn (_+1) t (.pointer (aA a)) (.pointer (aA b))).runT Q u es=_;unfold Op.equalIn;rw[bD];have s:(underlying t).runT Q u es=(.ok (.pointer el) u,es):=by unfold underlying;show(match Q.underlying t with|some d=>pure d|none=>stuck "no such type":Sem TypeDesc).runT Q u es=_;rw[m];rfl
  rw[s];dsimp only;rw[bD];have q:(Go.sizeOf el).runT Q u es=(.ok i.size u,es):=by
   unfold Go.sizeOf;rw[bD];have p:(typeInfo el).runT Q u es=(.ok i u,es):=by unfold typeInfo;show(match Q.info? el with|some i=>pure i|none=>stuck _:Sem TypeInfo).runT Q u es=_;rw[hi];rfl
   rw[p];rfl
  rw[q];dsimp only;rw[zAq hs]
 unfold aEH;rw[n];dsimp only;rw[l,k];obtain rfl|rfl:=f
 .show((do let v<-(do pure (.bool (<-Op.equal t (.pointer (aA a)) (.pointer (aA b)))):Sem zY);pure (.value v)):Sem Next).runT Q u es=_;rw[bD,bD,g];cases(sameAddr a b).runT Q u es with
  |mk r c=>cases r<;>rfl
 .show((do let v<-(do pure (.bool (!(<-Op.equal t (.pointer (aA a)) (.pointer (aA b))))):Sem zY);pure (.value v)):Sem Next).runT Q u es=_;rw[bD,bD,g];cases(sameAddr a b).runT Q u es with
  |mk r c=>cases r<;>rfl
end
section
variable {P:zZ}{Al:zF}{F:Kp}{π:Rn}{v w:zW}
def LN {u a es e}(h:(noView a).runT P u es=(.ok () u,e))(i)(d):(noView a).runT P (u.re i d) es=(.ok () (u.re i d),e):=by
 have k:∀u:zW,(noView a).runT P u es=match u.shape? a.block with
   |some _=>(.ok () u,es)
   |none=>match u.heap[a.block]? with
    |some (aI ..)=>(.halt (.stuck "getObj: a row of cells") u,es)
    |some (.view x t)=>(.halt (.unsupported (.unsafePointer "memory seen as another type")) u,es.push ⟨.obj a.block,aF,aF⟩)
    |some o=>(.ok () u,es.push ⟨.obj a.block,aF,o.isChan⟩)
    |none=>(.halt (.stuck "getObj: no such block") u,es):=λu=>by
  unfold noView viewAt
  rw[bD,bD]
  have p:(shape a.block).runT P u es=(.ok (u.shape? a.block) u,es):=rfl
  rw[p]
  cases j:u.shape? a.block with
  |some x=>rfl
  |none=>
   have l:∀o,u.heap[a.block]? =aA o->(∀c t f,o≠aI c t f)->(getObj a.block).runT P u es=(.ok o u,es.push ⟨.obj a.block,aF,o.isChan⟩):=λo m n=>by unfold getObj;cases o<;>first|exact absurd rfl (n _ _ _)|(simp only[Sem.runT,m])
   simp only[Option.isSome_none,zAz,zDc];rw[bD];cases b:u.heap[a.block]? with
   |none=>
    have g:(getObj a.block).runT P u es=(.halt (.stuck "getObj: no such block") u,es):=by unfold getObj;simp only[Sem.runT,b]
    rw[g]
   |some o=>
    cases o with
    |cells c t f=>
     have g:(getObj a.block).runT P u es=(.halt (.stuck "getObj: a row of cells") u,es):=by unfold getObj;simp only[Sem.runT,b]
     rw[g]
    |_=>rw[l _ b (by simp)];rfl
 rw[k]at h⊢;have l:(u.re i d).shape? a.block=u.shape? a.block:=rfl;have g:(u.re i d).heap=u.heap:=rfl;rw[l,g];cases j:u.shape? a.block with
 |some x=>rw[j]at h;dsimp only at h⊢;cases h;rfl
 |none=>
  rw[j]at h;dsimp only at h⊢;cases b:u.heap[a.block]? with
  |none=>rw[b]at h;cases h
  |some o=>cases o<;>rw[b]at h<;>dsimp only at h⊢<;>cases h<;>rfl
def oO (k:bQ P Al F π v w){a a'}(h:bT π a a')(hs:qL w a'=aE):qL v a=aE:=by
 unfold qL at hs⊢;obtain⟨c,c',ty,fr,i,d,b,g,g4,g5⟩|⟨_,o,d,b,g⟩|⟨y,p,d,b,g⟩:=k.blk _ _ h.1
 .by_cases hF:F a.block
  .obtain⟨e,j,_,n⟩:=g4 hF;obtain⟨lo,hi⟩:=fr;obtain⟨l,m⟩:=i;simp only[World.frozen?,World.shape?,b,zDk,zBc,zBl]at hs;simp only[World.frozen?,World.shape?,d,zDk,zBc,zBl];simp only at e j n;have:=g.size;rw[h.2.1]at hs;left;omega
  .have:=g5.1 hF;subst this;simp only[World.frozen?,World.shape?,b,h.2.1,g.size]at hs;simp only[World.frozen?,World.shape?,d];exact hs
 .have e:w.frozen? a'=v.frozen? a:=by
   unfold World.frozen?;rw[d,b];cases o<;>first|rfl|exact absurd rfl (g.1 _ _ _)
  have j:=k.shape h.1;have f:v.shape? a.block=aB:=by unfold World.shape?;rw[d];cases o<;>first|rfl|exact absurd rfl (g.1 _ _ _)
  rw[e,j,f]at hs;rw[f];exact hs
 .have e:w.frozen? a'=aF:=by
   unfold World.frozen?;rw[b];cases g<;>rfl
  have f:w.shape? a'.block=aB:=by unfold World.shape?;rw[b];cases g<;>rfl
  rw[e,f]at hs;cases hs
def MT (b:bQ P Al F π v w){a a'}(h:bT π a a'):bare w a'=bare v a:=by unfold bare;rw[b.shape h.1]
def TH (c:bQ P Al F π v w){a a' b b'}(h:bT π a a')(k:bT π b b')(hs:nX w a' b'=aE):nX v a b=aE:=by
 unfold nX at hs⊢;simp only[zDk,zBc,MT c h,MT c k]at hs⊢;obtain(⟨x,y⟩|⟨x,y⟩)|⟨x,y⟩:=hs
 .exact aG (aG ⟨oO c h x,oO c k y⟩)
 .exact aG (aH ⟨oO c h x,y⟩)
 .exact aH ⟨oO c k x,y⟩
def CJ (i:bQ P Al F π v w){a a'}(h:bT π a a')(hs:w.frozen? a'=aE):v.frozen? a=aE:=by
 obtain⟨c,c',ty,fr,e,d,g,b,g4,g5⟩|⟨_,o,d,g,b⟩|⟨y,p,d,g,b⟩:=i.blk _ _ h.1
 .by_cases hF:F a.block
  .obtain⟨n,m,_,k⟩:=g4 hF;obtain⟨lo,hi⟩:=fr;obtain⟨l,j⟩:=e;simp only[World.frozen?,g,zBc,zBl]at hs;simp only[World.frozen?,d,zBc,zBl];simp only at n m k;rw[h.2.1]at hs;omega
  .rw[i.frozen h hF]at hs;exact hs
 .unfold World.frozen? at hs;rw[g]at hs;cases o with
  |cells c t f=>exact absurd rfl (b.1 c t f)
  |_=>cases hs
 .unfold World.frozen? at hs;rw[g]at hs;cases b<;>cases hs
def Li (m:bQ P Al F π v w){a a' b b'}(h:bT π a a')(k:bT π b b')(j:a.block≠b.block)(es i):
  (∃hl f,(sameAddr a b).runT P v es=(.halt hl v,f)/\Fatal hl)\/
  ∃g d1 n r f y,(sameAddr a b).runT P (v.re g v.drawn) es=(.ok r (v.re g d1),f)/\(sameAddr a' b').runT P w i=(.ok r {w with drawn:=n},i++y)/\∀e∈y,mS F π e:=by
 have o:a'.block≠b'.block:=λq=>j ((m.ok.inj h.1 k.1).2 q);rw[pK v j,pK w o];cases x:(v.frozen? a&&v.frozen? b)with
 |true=>exact aG ⟨_,_,rfl,by simp⟩
 |false=>
  have u:(w.frozen? a'&&w.frozen? b')=aF:=by
   cases D:w.frozen? a' with
   |false=>rfl
   |true=>
    cases C:w.frozen? b' with
    |false=>rfl
    |true=>rw[CJ m h D,CJ m k C]at x;cases x
  rw[u];simp only[zAz,zDc];obtain⟨hl,f,s,t⟩|⟨f,d,s,t,z⟩:=qU m h es i;{rw[s];exact aG ⟨hl,f,rfl,t⟩};obtain⟨hl,c,r1,r2⟩|⟨c,n,r1,r2,r3⟩:=qU m k f (i++d);{rw[s];dsimp only;rw[r1];exact aG ⟨hl,c,rfl,r2⟩}
  right;rw[t];dsimp only;rw[r2];dsimp only;have l:∀e∈d++n,mS F π e:=λe B=>(zEg.1 B).elim (z e) (r3 e);have run:∀g,(sameAddr a b).runT P (v.re g v.drawn) es=if nX v a b=aE then(.ok (AP (v.re g v.drawn)) (v.re g (v.drawn+1)),c)else(.ok aF (v.re g v.drawn),c):=λg=>by rw[pK (v.re g v.drawn) j];have E:((v.re g v.drawn).frozen? a&&(v.re g v.drawn).frozen? b)=aF:=x;rw[E];simp only[zAz,zDc];rw[LN s g v.drawn];dsimp only;rw[LN r1 g v.drawn];rfl
  cases hm:nX v a b with
  |false=>
   have p:nX w a' b'=aF:=by
    cases A:nX w a' b' with
    |false=>rfl
    |true=>rw[TH m h k A]at hm;cases hm
   refine⟨v.tape,v.drawn,w.drawn,aF,c,d++n,?_,?_,l⟩;{rw[run,hm];rfl};{rw[p,<-zEm];rfl}
  |true=>
   cases p:nX w a' b' with
   |false=>refine⟨λ_ _=>0,v.drawn+1,w.drawn,aF,c,d++n,?_,?_,l⟩;{rw[run,hm];rfl};{rw[<-zEm];rfl}
   |true=>refine⟨λ_=>w.tape w.drawn,v.drawn+1,w.drawn+1,AP w,c,d++n,?_,?_,l⟩;{rw[run,hm];rfl};{rw[<-zEm];rfl}
def pC {Q fr cs s u u1 a y}(h:s.runT Q u #[]=(.ok (.value y) u1,a)):
  ∃c,stepG.apply Q aE fr cs aB s u= .go (G (fr.finish y) cs) u1 c/\∀e∈c,e∈a:=by
 unfold stepG.apply;simp only[zCq];rw[h];refine⟨_,rfl,λe b=> ?_⟩;simp only[zCt,zBz]at b;have:=Go.Conc.mem_seen b;split at this
 .simp at this
 .exact this
def Pg {fs fr fr' own own'}(N:WN P Al F π fr own v fr' own' w)(hq:¬rL P F fr)(Nn:∀I d,∃g1 w1 es,stepG P aE (G fr (own++[])) (v.re I d)= .go g1 w1 es):
  ∃I d d1 d2 x,Flat x/\(∀g cs,∃es,stepG P g (G fr (own++cs)) (v.re I d)= .go (G (fr.finish x) (own++cs)) (v.re I d1) es)/\
   ∀g cs,∃es,stepG ⟨P.toTables,fs⟩ g (G fr' (own'++cs)) w= .go (G (fr'.finish x) (own'++cs)) {w with drawn:=d2} es/\∀e∈es,mS F π e:=by
 unfold rL at hq;simp only[zFa]at hq;obtain⟨hm,ops,j,rest,k,o,X,L,M⟩:=hq;unfold QB at M;simp only[zFa,not_or]at M;obtain⟨op,t,x,y,yt,A,s,Y,rk,q⟩:=M;have kh:=N.world.ok;have Nq:=λx hx=>N.frame.eval kh x hx;have O:kZ P Al F (aM ops (j::rest)):=N.frame.items _ (by rw[X];exact zBk);obtain⟨p,H⟩:=O o (zBf L);rw[A]at H p;obtain h|h|h|⟨el,i,hu,hi,hs⟩:=H.2
 .exfalso;obtain h|h:=h
  .exact s.1 h
  .obtain⟨z,hz⟩:=s.2;exact hz (h z)
 .exact absurd h Y
 .exact absurd h rk
 have E:op= .eql\/op= .neq:=by
  by_cases h1:op= .eql;{exact aG h1}
  .by_cases h2:op= .neq
   .exact aH h2
   .exact absurd ⟨h1,h2⟩ Y
 unfold tQ at q;simp only[not_and,zFa]at q;obtain⟨a,b,V,T,aa⟩:=q ⟨el,hu⟩;have K:=Nq x (p x (by simp[Op.operands]));have J:=Nq y (p y (by simp[Op.operands]));rw[V]at K;rw[T]at J;obtain⟨a',U,ha⟩:∃a',fr'.eval x= .pointer (aA a')/\bT π a a':=by
  generalize fr'.eval x=z at K;cases K with
  |pointer hp=>cases hp with
   |some h=>exact⟨_,rfl,h⟩
 obtain⟨b',S,hb⟩:∃b',fr'.eval y= .pointer (aA b')/\bT π b b':=by
  generalize fr'.eval y=z at J;cases J with
  |pointer hp=>cases hp with
   |some h=>exact⟨_,rfl,h⟩
 have Z:fr'.mode= .run:=by have:=N.frame.mode;rw[hm]at this;generalize fr'.mode=m at this;cases this;rfl
 have W:fr'.todo=aM ops (j::rest)::k:=by rw[N.frame.todo];exact X
 have R:∀(Q:zZ)(f:zC)(g:Bool)(c:zL)(u:zW),f.mode= .run->f.todo=aM ops (j::rest)::k->stepG Q g (G f c) u=if(Region.wanted o (yielded ops f.tmps))=aE then stepG.apply Q aE f c aB (aEH f.eval o) u else .go (G (f.finish aER) c) u:=λQ f g c u h1 h2=>by
  obtain⟨fn,tmps,todo,defers,mode,kind,round⟩:=f;dsimp only at h1 h2;subst h1;subst h2;show stepG.exec Q g aE ⟨fn,tmps,aM ops (j::rest)::k,defers,.run,kind,round⟩ c aB u=_;have R:stepG.exec Q g aE ⟨fn,tmps,aM ops (j::rest)::k,defers,.run,kind,round⟩ c aB u=
    if(((ops[j]?).map (Region.wanted · (yielded ops tmps))).getD aF)=aE then stepG.oper Q aE ⟨fn,tmps,aM ops (j::rest)::k,defers,.run,kind,round⟩ c aB u
    else .go (G (Frame.finish ⟨fn,tmps,aM ops (j::rest)::k,defers,.run,kind,round⟩ aER) c) u:=rfl
  rw[R,L];simp only[zBe,zCj];have e2:stepG.oper Q aE ⟨fn,tmps,aM ops (j::rest)::k,defers,.run,kind,round⟩ c aB u=stepG.apply Q aE ⟨fn,tmps,aM ops (j::rest)::k,defers,.run,kind,round⟩ c aB (aEH (Frame.eval ⟨fn,tmps,aM ops (j::rest)::k,defers,.run,kind,round⟩) o) u:=by unfold stepG.oper;simp only[Frame.oper?,L,A]
  rw[e2]
 have ey:=funext (oN N.frame.tmps ops);cases l:Region.wanted o (yielded ops fr.tmps)with
 |false=>refine⟨v.tape,v.drawn,v.drawn,w.drawn,aER,λAl π=>eA,λg cs=>⟨#[],?_⟩,λg cs=>⟨#[],?_,by simp⟩⟩;{rw[R P fr g _ _ hm X,l];rfl};{rw[R _ fr' g _ _ Z W,ey,l];rfl}
 |true=>
  have hw:=N.world;have hr:∀(u:zW)(es:zE),(aEH fr.eval o).runT P u es=_:=λu es=>Dp P A E hu hi hs V T u es;have hr':∀(u:zW)(es:zE),(aEH fr'.eval o).runT ⟨P.toTables,fs⟩ u es=_:=λu es=>Dp ⟨P.toTables,fs⟩ A E hu hi hs U S u es;obtain⟨hl,la,q1,q2⟩|⟨I,d1,d2,r,la,dd,q1,q2,q3⟩:=Li hw ha hb aa #[] #[];{exfalso;obtain⟨g1,w1,B,C⟩:=Nn w.tape w.drawn;rw[R P fr aE _ _ hm X,l]at C;simp only[zCq]at C;have n:=hr (v.re w.tape w.drawn) #[];rw[q1]at n;obtain⟨o2,u2,es3,q5⟩:=pD n q2;rw[q5]at C;cases C}
  .have n:=hr ((v.re w.tape w.drawn).re I (v.re w.tape w.drawn).drawn) #[];rw[q1]at n;have D:=hr' w #[];rw[CE a' b',q2]at D;refine⟨I,w.drawn,d1,d2,.bool (if op= .eql then r else !r),λAl π=> .bool _,λg cs=> ?_,λg cs=> ?_⟩
   .obtain⟨B,C,_⟩:=pC n;refine⟨B,?_⟩;rw[R P fr g _ _ hm X,l];exact C
   .obtain⟨B,C,q5⟩:=pC D;refine⟨B,?_,λe he=>q3 e (by simpa using q5 e he)⟩;rw[R _ fr' g _ _ Z W,ey,l];exact C
end
section
variable {P:zZ}{Al:zF}{S:zS}{fr fr1:zC}{own own1:zL}{v v1:zW}
def Ends.next (h:Ends P Al S fr own v)(c:¬S fr own v){a d m es}(hs:stepG P m (G fr own) (v.re a d)= .go (G fr1 own1) v1 es):Ends P Al S fr1 own1 v1:=by
 cases h with
 |stop h=>exact absurd h c
 |step b n o g f=>obtain⟨i,e⟩:=g a d [] m;rw[zAy,zAy,hs]at e;have l:fr1=(n a d).1:=by{injection e with e _ _;exact congrArg Goroutine.frame e};have k:own1=(n a d).2.1:=by{injection e with e _ _;exact congrArg Goroutine.callers e};have j:v1=(n a d).2.2:=by{injection e};rw[l,k,j];exact f a d
def Ends.re (h:Ends P Al S fr own v)(e:∀fr own v b d,S fr own v->S fr own (v.re b d))(b)(d):Ends P Al S fr own (v.re b d):=by
 cases h with
 |stop h=>exact .stop (e _ _ _ b d h)
 |step a n i g f=>exact .step a n i (λc j cs m=>g c j cs m) f
def Lone.through (F:∀K:Kp,(∀b,¬K b)->cF P Al K){T cs}(E:∀fr l v,(fr.mode= .run\/fr.defers≠[]\/l≠[])->¬T fr (l++cs) v){l u}(h:Lone P [bI] S fr l u):
  ∀{D},Closed P Al D fr l u->Ends P Al T fr (l++cs) u->∃f d u2 D2,S f d u2/\Closed P Al D2 f d u2/\(∀b,D b->D2 b)/\Ends P Al T f (d++cs) u2:=by
 induction h with
 | @stop fr l u h=>exactλn k=>⟨fr,l,u,_,h,n,λ_ x=>x,k⟩
 | @step fr fr1 l z u u1 I a p h A=>
  intro D n k;obtain⟨o,w1,I,c⟩|⟨f,d,v2,G,D2,c,m,B,j,g,i⟩:=gK F n a aE u.tape u.drawn;{rw[gZ,p]at c;cases c}
  .rw[gZ,p]at c;have O:fr1=f:=by injection c with e _ _;exact congrArg Goroutine.frame e
   have N:z=d:=by injection c with e _ _;exact zDp (congrArg Goroutine.callers e)
   have M:u1=v2:=by injection c
   subst O;subst N;subst M;obtain⟨H,q⟩:=i u.tape u.drawn cs aE (λ_ _=>rfl);have L:u1.re u.tape (u.drawn+(u1.drawn-u.drawn))=u1:=by have J:u.drawn+(u1.drawn-u.drawn)=u1.drawn:=by{omega};rw[J,<-j];rfl
   rw[L]at q;obtain⟨uD,y,u3,D3,w,t,s,r⟩:=A m (k.next (E _ _ _ a) q);exact⟨uD,y,u3,D3,w,t,λb C=>s b (g b C),r⟩
def gP {R E l cs}(hs:fr.mode= .run\/fr.defers≠[]\/l≠[]):¬AtEnd P R E fr (l++cs) v:=by
 intro h;have k:∀(m:FrameMode),m≠.run->fr.mode=m->fr.defers=[]->l++cs=[]->False:=λm d j i g=>by obtain x|x|x:=hs;{exact d (j.symm.trans x)};{exact x i};{exact x (List.append_eq_nil_iff.1 g).1}
 obtain⟨a,x,b,_⟩|⟨a,f,c,e,_⟩:=h
 .have:=b v.tape v.drawn;exact k _ (by simp) this.1 this.2.1 a
 .exact k _ (by simp) e f a
end
structure Jh (fr:zC)(own:zL):Prop where
 d:fr.defers=[]
 k:fr.kind= .normal
 up:∀g∈own,g.mode= .run/\g.defers=[]/\g.kind= .normal
inductive pF (P:zZ)(Al:zF)(fr:zC)(own:zL):zH->Prop
 |same {fr1:zC} (hf:fr1.fn=fr.fn) (hd:fr1.defers=fr.defers) (hk:fr1.kind=fr.kind):pF P Al fr own (G fr1 own)
 |enter {f:zN} (ha:Al f) (xs:zA) (hm:fr.mode= .run) (hz:xs.size<=20):pF P Al fr own (G (Frame.enter P f xs .normal) (fr::own))
 |back {g g1:zC} {rest:zL} (ho:own=g::rest) (hf:g1.fn=g.fn) (hd:g1.defers=g.defers) (hk:g1.kind=g.kind):pF P Al fr own (G g1 rest)
section
variable {P:zZ}{Al:zF}{F:Kp}{fr:zC}{own:zL}{w:zW}{mn:Bool}
def oZ (fr:zC)(v):(fr.finish v).fn=fr.fn/\(fr.finish v).defers=fr.defers/\(fr.finish v).kind=fr.kind:=by unfold Frame.finish;split<;>exact⟨rfl,rfl,rfl⟩
def FK (fr:zC)(c):(fr.raise c).fn=fr.fn/\(fr.raise c).defers=fr.defers/\(fr.raise c).kind=fr.kind:=by unfold Frame.raise;split<;>exact⟨rfl,rfl,rfl⟩
def qY (f)(xs):(Frame.enter P f xs .normal).defers=[]/\(Frame.enter P f xs .normal).kind= .normal/\(Frame.enter P f xs .normal).fn=f:=by
 cases P.funcs[f]? with
 |none=>exact⟨rfl,rfl,rfl⟩
 |some fn=>cases fn.body<;>exact⟨rfl,rfl,rfl⟩
def QX {D:zP}(q:bQ P Al K0 (cH D) w w)(r:(match fr.todo with| .call _ aE _ _::_=>CallKind.wrapped|_=> .normal)= .normal)(v:fr.mode= .run){s:Sem Next}(hs:bN P Al K0 (pG Al) (cH D) s s):
  (∃o u j,stepG.apply P aE fr own aB s w= .ended o u j)\/∃l w1 j,stepG.apply P aE fr own aB s w= .go l w1 j/\pF P Al fr own l:=by
 obtain(⟨hl,u,i,e,c⟩|⟨⟨n,t,_⟩,_⟩)|⟨z,v1,w1,i,d,_,_,_,⟨a,b,e,_,g⟩|⟨x,A,e,_,_⟩⟩:=hs.runT w w #[] #[] q
 .exact aG (pD e c)
 .cases t
 .right;unfold stepG.apply;simp only[zCq];rw[e];cases g with
  |value h=>have:=oZ fr;exact⟨_,_,_,rfl,.same (this _).1 (this _).2.1 (this _).2.2⟩
  |skip=>have:=oZ fr;exact⟨_,_,_,rfl,.same (this _).1 (this _).2.1 (this _).2.2⟩
  | @enter f c xs m B p=>
   have y:∀k:CallKind,k= .normal->pF P Al fr own (G (Frame.enter P f xs k) (fr::own)):=by rintro _ rfl;exact .enter c _ v p
   exact⟨_,_,_,rfl,y _ r⟩
 .right;unfold stepG.apply;simp only[zCq];rw[e];have:=FK fr;exact⟨_,_,_,rfl,.same (this _).1 (this _).2.1 (this _).2.2⟩
def XD (B:cF P Al K0)(L:∀f,¬Al (900000+f)){D}(A:bQ P Al K0 (cH D) w w)(E:cL P Al K0 (cH D) fr fr)(C:fr.mode= .run)(hs:oH Al fr):
  (∃o u g,stepG P mn (G fr own) w= .ended o u g)\/∃r w1 g,stepG P mn (G fr own) w= .go r w1 g/\pF P Al fr own r:=by
 have z:=A.ok;have n:=λx K=>E.eval z x K;obtain⟨fn,tmps,todo,defers,mode,kind,round⟩:=fr;obtain⟨V,U,T,S,H,R,Q,O,N,q,M⟩:=E;dsimp only at H q C;subst C;subst q;show(∃o u g,stepG.exec P mn aE ⟨fn,tmps,todo,defers,.run,kind,aB⟩ own aB w= .ended o u g)\/∃r w1 g,stepG.exec P mn aE ⟨fn,tmps,todo,defers,.run,kind,aB⟩ own aB w= .go r w1 g/\pF P Al ⟨fn,tmps,todo,defers,.run,kind,aB⟩ own r;cases todo with
 |nil=>exact aH ⟨_,_,_,rfl,.same rfl rfl rfl⟩
 |cons i k=>
  have hi:=H i zBk;cases i with
  |code c=>
   cases c with
   |cond c a b=>
    have v:=n c hi.1;unfold stepG.exec;dsimp only;generalize Frame.eval _ c=x at v⊢;obtain⟨y,v⟩:∃y,bF Al (cH D) x y:=⟨_,v⟩;cases v with
    |bool t=>exact aH ⟨_,_,_,rfl,.same rfl rfl rfl⟩
    |_=>exact aG ⟨_,_,_,rfl⟩
   |exit id=>
    unfold stepG.exec;dsimp only;cases he:exitTo id k with
    |none=>exact aG ⟨_,_,_,rfl⟩
    |some J=>exact aH ⟨_,_,_,rfl,.same rfl rfl rfl⟩
   |goto l=>
    unfold stepG.exec;dsimp only;cases he:gotoIn l k with
    |none=>exact aG ⟨_,_,_,rfl⟩
    |some J=>exact aH ⟨_,_,_,rfl,.same rfl rfl rfl⟩
   |rangeFunc f p a b=>exact hi.elim
   |refuse I=>exact aG ⟨_,_,_,rfl⟩
   |region id ops draw=>
    cases draw with
    |false=>exact aH ⟨_,_,_,rfl,.same rfl rfl rfl⟩
    |true=>exact aH ⟨_,_,_,rfl,.same rfl rfl rfl⟩
   |_=>exact aH ⟨_,_,_,rfl,.same rfl rfl rfl⟩
  |inBlock id=>exact aH ⟨_,_,_,rfl,.same rfl rfl rfl⟩
  |inScope b=>exact aH ⟨_,_,_,rfl,.same rfl rfl rfl⟩
  |inLoop b=>exact aH ⟨_,_,_,rfl,.same rfl rfl rfl⟩
  |inRegion ops l=>
   cases l with
   |nil=>exact aH ⟨_,_,_,rfl,.same rfl rfl rfl⟩
   |cons j rest=>
    cases d:ops[j]? with
    |none=>
     have s:stepG.exec P mn aE ⟨fn,tmps,aM ops (j::rest)::k,defers,.run,kind,aB⟩ own aB w= .go (G (Frame.finish ⟨fn,tmps,aM ops (j::rest)::k,defers,.run,kind,aB⟩ aER) own) w:=by unfold stepG.exec;simp only[d,Option.map_none,Option.getD_none,zAz,zDc];rfl
     rw[s];exact aH ⟨_,_,_,rfl,.same rfl rfl rfl⟩
    |some o=>
     by_cases e:Region.wanted o (yielded ops tmps)=aE
     .have s:stepG.exec P mn aE ⟨fn,tmps,aM ops (j::rest)::k,defers,.run,kind,aB⟩ own aB w=stepG.apply P aE ⟨fn,tmps,aM ops (j::rest)::k,defers,.run,kind,aB⟩ own aB (aEH (Frame.eval ⟨fn,tmps,aM ops (j::rest)::k,defers,.run,kind,aB⟩) o) w:=by
       unfold stepG.exec;simp only[d,zBe,zCj,e,zCq];unfold stepG.oper;simp only[Frame.oper?,d]
      rw[s];have m:=hi o (zBf d);exact QX A rfl rfl (BS B.met m (λ_ _ _ _ _ _=>aG (aH λ_ h=>h)) (hs rfl _ _ _ _ _ rfl d e) (m.nd L) n)
     .have s:stepG.exec P mn aE ⟨fn,tmps,aM ops (j::rest)::k,defers,.run,kind,aB⟩ own aB w= .go (G (Frame.finish ⟨fn,tmps,aM ops (j::rest)::k,defers,.run,kind,aB⟩ aER) own) w:=by
       unfold stepG.exec;simp only[d,zBe,zCj,e,zAz,zDc];rfl
      rw[s];exact aH ⟨_,_,_,rfl,.same rfl rfl rfl⟩
  |_=>exact hi.elim
def NH (j:Jh fr own)(hi:∀i∈fr.todo,kZ P Al F i)(s:fr.mode≠.run)(q:own≠[]):
  (∃o u m,stepG P mn (G fr own) w= .ended o u m)\/∃p w1 m,stepG P mn (G fr own) w= .go p w1 m/\pF P Al fr own p:=by
 obtain⟨g,rest,rfl⟩:∃g rest,own=g::rest:=by
  cases own with
  |nil=>exact absurd rfl q
  |cons g rest=>exact⟨g,rest,rfl⟩
 have l:=lL hi;have f:=oZ g;have b:=FK g;have ret:∀(y:zY)(w1:zW),doReturn P mn fr (g::rest) aB y w1= .go (G (g.finish y) rest) w1:=λy w1=>by unfold doReturn;rw[j.k];rfl
 cases h:fr.mode with
 |run=>exact absurd h s
 |panicking chain=>
  have e:stepG P mn (G fr (g::rest)) w= .go (G (g.raise chain) rest) w:=by simp only[stepG,G,h,unwind,j.d,l,zAz,zDc]
  exact aH ⟨_,_,_,e,.back rfl (b _).1 (b _).2.1 (b _).2.2⟩
 |returning=>
  have n:stepG P mn (G fr (g::rest)) w=unwind P mn fr (g::rest) aB w:=by{simp only[stepG,G,h]};cases c:P.funcs[fr.fn]? with
  |none=>
   have e:stepG P mn (G fr (g::rest)) w= .go (G (g.finish (fr.tmps.getD 0 aER)) rest) w:=by rw[n];simp only[unwind,j.d,h,c,ret]
   exact aH ⟨_,_,_,e,.back rfl (f _).1 (f _).2.1 (f _).2.2⟩
  |some fn=>
   cases a:(results fn fr.tmps).runT P w #[]with
   |mk r m=>
    cases r with
    |ok y w1=>
     have e:stepG P mn (G fr (g::rest)) w= .go (G (g.finish y) rest) w1 (seen P fr.fn m++ #[]):=by rw[n];unfold unwind;rw[j.d];rw[h];dsimp only;rw[c];dsimp only;rw[a];dsimp only;rw[ret];rfl
     exact aH ⟨_,_,_,e,.back rfl (f _).1 (f _).2.1 (f _).2.2⟩
    |halt hl w1=>left;rw[n];unfold unwind;rw[j.d];dsimp only;rw[h];dsimp only;rw[c];dsimp only;rw[a];dsimp only;cases hl<;>exact⟨_,_,_,rfl⟩
def EI (B:cF P Al K0)(m:∀f,¬Al (900000+f)){D}(c:Closed P Al D fr own w)(l:Jh fr own)(a:fr.mode= .run\/fr.defers≠[]\/own≠[]){b w1 es}(hs:stepG P mn (G fr own) w= .go b w1 es):pF P Al fr own b:=by
 have k:(∃o u es,stepG P mn (G fr own) w= .ended o u es)\/∃b w1 es,stepG P mn (G fr own) w= .go b w1 es/\pF P Al fr own b:=by
  by_cases i:fr.mode= .run;{exact XD B m c.world c.frame i (jP c.nj.2)}
  .obtain x|x|x:=a
   .exact absurd x i
   .exact absurd l.d x
   .exact NH l c.frame.items i x
 obtain⟨o,u,j,e⟩|⟨g,n,j,e,h⟩:=k
 .rw[hs]at e;cases e
 .rw[hs]at e;cases e;exact h
def pF.bc {fr1 own1}(a:Jh fr own)(h:pF P Al fr own (G fr1 own1)):Jh fr1 own1:=by
 generalize e:G fr1 own1=g at h;cases h with
 | @same n m i c=>cases e;exact⟨i.trans a.d,c.trans a.k,a.up⟩
 | @enter f p xs hm o=>cases e;have:=qY (P:=P) f xs;refine⟨this.1,this.2.1,λx b=> ?_⟩;obtain rfl|b:=zAe.1 b;{exact⟨hm,a.d,a.k⟩};{exact a.up x b}
 | @back g g1 rest l m i c=>cases e;subst l;have j:=a.up g (by simp);exact⟨i.trans j.2.1,c.trans j.2.2,λx b=>a.up x (zBh _ b)⟩
def pF.fns {fr1 own1}{p:zF}(d:∀x∈fr::own,p x.fn)(h:pF P Al fr own (G fr1 own1)):(∀x∈fr1::own1,p x.fn)\/∃f b,Al f/\¬p f/\fr1=Frame.enter P f b .normal/\own1=fr::own/\fr.mode= .run/\b.size<=20:=by
 generalize e:G fr1 own1=g at h;cases h with
 | @same o i m l=>cases e;left;intro x a;obtain rfl|a:=zAe.1 a;{rw[i];exact d fr (by simp)};{exact d x (zBh _ a)}
 | @enter f n b hm j=>
  cases e;by_cases c:p f
  .left;intro x a;obtain rfl|a:=zAe.1 a
   .rw[(qY f b).2.2];exact c
   .exact d x a
  .exact aH ⟨f,b,n,c,rfl,rfl,hm,j⟩
 | @back g g1 rest k i m l=>cases e;subst k;left;intro x a;obtain rfl|a:=zAe.1 a;{rw[i];exact d g (by simp)};{exact d x (zBh _ (zBh _ a))}
end
section
variable {P:zZ}{Al:zF}{F:Kp}{π:Rn}{cs' own own':zL}{v w:zW}{fs:Array Func}
def vY (P:zZ)(fs:Array Func)(Al:zF)(n:Nat)(s s':GStep):Prop:=
 (s'=s/\∀g w1 e,s= .go g w1 e->g.callers.length=n+1->fs[g.frame.fn]? =P.funcs[g.frame.fn]?)\/∃f x k callers w1 e,Al f/\x.size<=20/\(k= .normal\/Al (900000+f))/\callers.length=n+1/\s= .go {frame:=Frame.enter P f x k,callers,status:= .running,dying:=aB} w1 e/\s'= .go {frame:=Frame.enter ⟨P.toTables,fs⟩ f x k,callers,status:= .running,dying:=aB} w1 e/\fs[f]?≠P.funcs[f]?
def bM {n g0 w0 a}(h:g0.callers.length≠n+1):vY P fs Al n (.go g0 w0 a) (.go g0 w0 a):=aG ⟨rfl,λg w1 b e hl=>by cases e;exact absurd hl h⟩
def WI {n f x k C w0 a}(d:Al f)(b:x.size<=20)(c:k= .normal\/Al (900000+f))(hl:C.length=n+1):vY P fs Al n (.go {frame:=Frame.enter P f x k,callers:=C,status:= .running,dying:=aB} w0 a) (.go {frame:=Frame.enter ⟨P.toTables,fs⟩ f x k,callers:=C,status:= .running,dying:=aB} w0 a):=by
 by_cases e:fs[f]? =P.funcs[f]?
 .rw[Om e];exact aG ⟨rfl,λg w1 i h _=>by cases h;exact e⟩
 .exact aH ⟨f,x,k,C,w0,a,d,b,c,hl,rfl,rfl,e⟩
def Hu (M:Met P Al F){f0 f}(d:Al f0){cs x xs w w1 es b}(h:(invoke (.fn (.func f0) cs) x).runT P w es=(.ok (.enter f xs) w1,b)):f=f0:=by
 have e:invoke (.fn (.func f0) cs) x=callFunc f0 (x++cs):=by rfl
 rw[e]at h;have h:(match P.funcs[f0]? with
  |none=>stuck "call: no such function"
  |some fn=>if fn.name== "runtime.NumGoroutine" then pure .numGoroutine
   else if fn.body.isNone then do
    mark (.extern f0)
    if let aA e:=Extern.findNext fn then return<-e (x++cs)
    match Extern.find fn with
    |some e=>pure (.value (<-e (x++cs)))
    |none=>if fn.name.endsWith ".init"&& !fn.name.startsWith "("&& !fn.name.startsWith "gosem." then pure (.value (.tuple #[]))else unsupported (.extern fn.name)
   else pure (.enter f0 (x++cs)):Sem Next).runT P w es=(.ok (.enter f xs) w1,b):=h
 cases a:P.funcs[f0]? with
 |none=>rw[a]at h;cases h
 |some fn=>
  rw[a]at h;dsimp only at h;have m:=zDx (M.name f0 fn d a);rw[m]at h;simp only[zAz,zDc]at h;cases hb:fn.body with
  |some c=>rw[hb]at h;simp only[Option.isNone_some,zAz,zDc]at h;cases h;rfl
  |none=>
   exfalso;obtain⟨j,ex,i,_⟩:=M.mI f0 fn d a hb;rw[hb,j,i]at h;simp only[Option.isNone_none,zCq]at h;have h:(do
    mark (.extern f0)
    let y<-ex (x++cs)
    pure (aES y):Sem Next).runT P w es=(.ok (.enter f xs) w1,b):=h
   cases g:(do
    mark (.extern f0)
    ex (x++cs):Sem zY).runT P w es with
   |mk r k=>
    have l:(do
     mark (.extern f0)
     let y<-ex (x++cs)
     pure (aES y):Sem Next)=(do
     let y<-(do
      mark (.extern f0)
      ex (x++cs):Sem zY)
     pure (aES y):Sem Next):=by simp
    rw[l,bD,g]at h;cases r with
    |ok y u=>cases h
    |halt n u=>cases h
def PT (c:Shape P fs)(i:F.rX=aB)(o:bQ P Al F π v w){fr':zC}{C:zL}(t:(match fr'.todo with| .call _ aE _ _::_=>CallKind.wrapped|_=> .normal)= .normal){s s':Sem Next}(hs:bN P Al F (IT Al) π s s'):
  (∃hl u g,s.runT P v #[]=(.halt hl u,g)/\Fatal hl)\/vY P fs Al C.length (stepG.apply P aE fr' C aB s' w) (stepG.apply ⟨P.toTables,fs⟩ aE fr' C aB s' w):=by
 obtain h|hb:=hs.blind c i v w #[] #[] o
 .exact aG h
 obtain(⟨hl,q,g,e,j⟩|⟨k,_⟩)|⟨A,v1,w1,g,d,K,J,I,z⟩:=hs.runT v w #[] #[] o
 .exact aG ⟨hl,q,g,e,j⟩
 .exact absurd k (sT i _)
 .right;obtain⟨a,b,r1,r2,m⟩|⟨x,B,r1,r2,D⟩:=z
  .unfold stepG.apply;simp only[zCq];rw[hb,r2];cases m with
   |value E=>simp only[eD c];exact bM (by simp[G])
   |skip=>simp only[eD c];exact bM (by simp[G])
   | @enter f l p n y r=>simp only[eD c];exact WI l (by rw[y.size];exact r) (aG t) (by simp)
   |defer H=>simp only[eD c];exact bM (by simp[G])
  .unfold stepG.apply;simp only[zCq];rw[hb,r2];simp only[eD c];exact bM (by simp[G])
def VB {cs:zL}(B:cF P Al F)(N:Shape P fs)(D:F.rX=aB)(U:bQ P Al F π v w){fr fr':zC}(W:cL P Al F π fr fr')(V:fr.mode= .run)(T C:Bool)(hq:rL P F fr:=by first|assumption|exact yC (λ_ h=>h))(hs:oH Al fr:=by first|assumption|exact jP (by assumption)):
  (∃o u Q,stepG P T (G fr cs) v= .ended o u Q)\/vY P fs Al cs'.length (stepG P C (G fr' cs') w) (stepG ⟨P.toTables,fs⟩ C (G fr' cs') w):=by
 have M:=U.ok;have H:=λx hx=>W.eval M x hx;obtain⟨fn,tmps,todo,defers,mode,kind,round⟩:=fr;obtain⟨q,z,y,n,K,g,pL⟩:=fr';obtain⟨h1,h2,h3,h4,Z,h6,Y,X,h9,J,I⟩:=W;dsimp only at h1 h2 h3 h4 Z h6 Y X h9 J I V;subst h1;subst h4;subst X;subst J;subst I;subst V;cases Y;show(∃o u Q,stepG.exec P T aE ⟨q,tmps,y,defers,.run,g,aB⟩ cs aB v= .ended o u Q)\/vY P fs Al cs'.length (stepG.exec P C aE ⟨q,z,y,n,.run,g,aB⟩ cs' aB w) (stepG.exec ⟨P.toTables,fs⟩ C aE ⟨q,z,y,n,.run,g,aB⟩ cs' aB w);cases y with
 |nil=>exact aH (bM (by simp[G]))
 |cons i k=>
  have hi:=Z i zBk;cases i with
  |code c=>
   cases c with
   |cond c a b=>
    have O:=H c hi.1;unfold stepG.exec;dsimp only;generalize Frame.eval _ c=x at O⊢;generalize Frame.eval _ c=x' at O⊢;cases O with
    |bool t=>exact aH (bM (by simp[G]))
    |_=>exact aG ⟨_,_,_,rfl⟩
   |exit id=>
    unfold stepG.exec;dsimp only;cases he:exitTo id k with
    |none=>exact aG ⟨_,_,_,rfl⟩
    |some k'=>exact aH (bM (by simp[G]))
   |goto l=>
    unfold stepG.exec;dsimp only;cases he:gotoIn l k with
    |none=>exact aG ⟨_,_,_,rfl⟩
    |some k'=>exact aH (bM (by simp[G]))
   |rangeFunc f p a b=>exact hi.elim
   |refuse why=>exact aG ⟨_,_,_,rfl⟩
   |region id ops draw=>
    cases draw with
    |false=>exact aH (bM (by simp[G]))
    |true=>exact aH (bM (by simp[G]))
   |_=>exact aH (bM (by simp[G]))
  |inBlock id=>exact aH (bM (by simp[G]))
  |inScope b=>exact aH (bM (by simp[G]))
  |inLoop b=>exact aH (bM (by simp[G]))
  |inRegion ops l=>
   cases l with
   |nil=>exact aH (bM (by simp[G]))
   |cons j rest=>
    have S:∀(p:zZ)(u:zW)(c:zL)(t:zA)(d:List Deferred)(m:Bool),stepG.exec p m aE ⟨q,t,aM ops (j::rest)::k,d,.run,g,aB⟩ c aB u=
      if(((ops[j]?).map (Region.wanted · (yielded ops t))).getD aF)=aE then stepG.oper p aE ⟨q,t,aM ops (j::rest)::k,d,.run,g,aB⟩ c aB u
      else .go (G (Frame.finish ⟨q,t,aM ops (j::rest)::k,d,.run,g,aB⟩ aER) c) u:=λp u c t d m=>rfl
    rw[S,S,S];have ey:=funext (oN h3 ops);rw[ey];split
    .rename_i L;cases A:ops[j]? with
     |none=>left;simp[stepG.oper,Frame.oper?,A]
     |some o=>
      have R:∀(p:zZ)(u:zW)(c:zL)(t:zA)(d:List Deferred),stepG.oper p aE ⟨q,t,aM ops (j::rest)::k,d,.run,g,aB⟩ c aB u=
        stepG.apply p aE ⟨q,t,aM ops (j::rest)::k,d,.run,g,aB⟩ c aB (aEH (Frame.eval ⟨q,t,aM ops (j::rest)::k,d,.run,g,aB⟩) o) u:=λp u c t d=>by
       unfold stepG.oper
       simp only[Frame.oper?,A]
      rw[R,R,R];obtain⟨hl,u,la,e,E⟩|h:=PT (fr':=⟨q,z,aM ops (j::rest)::k,n,.run,g,aB⟩) N D U rfl (EV B.met (hi o (zBf A)) (hq rfl _ _ _ _ _ rfl A) (hs rfl _ _ _ _ _ rfl A (by simpa [A]using L)) H);{exact aG (pD e E)};{exact aH h}
    .exact aH (bM (by simp[G]))
  |inRangeFunc l=>exact hi.elim
  |endRangeFunc l=>exact hi.elim
  |beginRound=>exact hi.elim
  |call d b r s=>exact hi.elim
  |extern r a=>exact hi.elim
def uM {cs}(B:cF P Al F)(h:Shape P fs)(i:F.rX=aB)(s:bQ P Al F π v w){fr fr'}(X:cL P Al F π fr fr'){d J}(A:IZ Al π d J)(hl:∀f cs q,d=⟨.fn (.func f) cs,q⟩->Al (900000+f)):
  (∃o u Y,callDeferred P fr cs aB d v= .ended o u Y)\/vY P fs Al cs'.length (callDeferred P fr' cs' aB J w) (callDeferred ⟨P.toTables,fs⟩ fr' cs' aB J w):=by
 have W:=s.ok;have g:=ES B.met A;cases A;case fn f0 z xs U T E hc C V=>
  unfold callDeferred
  simp only[Bool.false_and,zAz,↓reduceIte]
  obtain⟨hl,u,j,e,c⟩|hb:=g.blind h i v w #[] #[] s
  .left;rw[e];obtain⟨l,rfl⟩|⟨u,rfl,hu⟩:=c
   .exact⟨_,_,_,rfl⟩
   .exact⟨_,_,_,rfl⟩
  .obtain(⟨hl,u,j,e,c⟩|⟨n,_⟩)|⟨K,v1,w1,j,S,R,Q,O,D⟩:=g.runT v w #[] #[] s
   .left;rw[e];obtain⟨l,rfl⟩|⟨u,rfl,hu⟩:=c
    .exact⟨_,_,_,rfl⟩
    .exact⟨_,_,_,rfl⟩
   .exact absurd n (sT i _)
   .right;obtain⟨a,b,r1,r2,p⟩|⟨x,L,r1,r2,M⟩:=D
    .rw[hb,r2];cases p with
     |value N=>simp only[eD h];exact bM (by simp[G])
     |skip=>simp only[eD h];exact bM (by simp[G])
     | @enter f t q r C H=>simp only[eD h];exact WI t (by rw[C.size];exact H) (aH (by have:=Hu B.met z r2;rw[this];exact hl _ _ _ rfl)) (by simp)
     |defer A=>simp only[eD h];exact bM (by simp[G])
    .rw[hb,r2];simp only[eD h];exact bM (by simp[G])
 case nil T E C=>
  have k:=X.mode
  generalize I:fr.mode=m at k
  generalize y:fr'.mode=Z at k
  unfold callDeferred
  rw[I,y]
  cases k
  case run=>
   simp only[Bool.and_false,zAz,↓reduceIte]
   obtain⟨hl,u,j,e,c⟩|hb:=g.blind h i v w #[] #[] s
   .left;rw[e];obtain⟨l,rfl⟩|⟨u,rfl,hu⟩:=c
    .exact⟨_,_,_,rfl⟩
    .exact⟨_,_,_,rfl⟩
   .obtain(⟨hl,u,j,e,c⟩|⟨n,_⟩)|⟨K,v1,w1,j,S,R,Q,O,D⟩:=g.runT v w #[] #[] s
    .left;rw[e];obtain⟨l,rfl⟩|⟨u,rfl,hu⟩:=c
     .exact⟨_,_,_,rfl⟩
     .exact⟨_,_,_,rfl⟩
    .exact absurd n (sT i _)
    .right;obtain⟨a,b,r1,r2,p⟩|⟨x,L,r1,r2,M⟩:=D
     .rw[hb,r2];cases p with
      |value N=>simp only[eD h];exact bM (by simp[G])
      |skip=>simp only[eD h];exact bM (by simp[G])
      | @enter f t q r C H=>simp only[eD h];cases r2
      |defer A=>simp only[eD h];exact bM (by simp[G])
     .rw[hb,r2];simp only[eD h];exact bM (by simp[G])
  case returning=>
   simp only[Bool.and_false,zAz,↓reduceIte]
   obtain⟨hl,u,j,e,c⟩|hb:=g.blind h i v w #[] #[] s
   .left;rw[e];obtain⟨l,rfl⟩|⟨u,rfl,hu⟩:=c
    .exact⟨_,_,_,rfl⟩
    .exact⟨_,_,_,rfl⟩
   .obtain(⟨hl,u,j,e,c⟩|⟨n,_⟩)|⟨K,v1,w1,j,S,R,Q,O,D⟩:=g.runT v w #[] #[] s
    .left;rw[e];obtain⟨l,rfl⟩|⟨u,rfl,hu⟩:=c
     .exact⟨_,_,_,rfl⟩
     .exact⟨_,_,_,rfl⟩
    .exact absurd n (sT i _)
    .right;obtain⟨a,b,r1,r2,p⟩|⟨x,L,r1,r2,M⟩:=D
     .rw[hb,r2];cases p with
      |value N=>simp only[eD h];exact bM (by simp[G])
      |skip=>simp only[eD h];exact bM (by simp[G])
      | @enter f t q r C H=>simp only[eD h];cases r2
      |defer A=>simp only[eD h];exact bM (by simp[G])
     .rw[hb,r2];simp only[eD h];exact bM (by simp[G])
  case panicking=>exact aG ⟨_,_,_,rfl⟩
def oP {cs:zL}(B:cF P Al F)(z:Shape P fs)(q:F.rX=aB)(K:bQ P Al F π v w){fr fr':zC}(j:cL P Al F π fr fr')(n:(fs[fr.fn]?).map (·.results)=(P.funcs[fr.fn]?).map (·.results))(ho:gG (cL P Al F π) own own')
  (D:fr.mode= .run\/fr.defers≠[]\/own≠[]) (S s:Bool) (hq:rL P F fr:=by first|assumption|exact yC (λ_ h=>h)) (hs:oH Al fr:=by first|assumption|exact jP (by assumption)):
  (∃o u es,stepG P S (G fr (own++cs)) v= .ended o u es)\/vY P fs Al (own'++cs').length (stepG P s (G fr' (own'++cs')) w) (stepG ⟨P.toTables,fs⟩ s (G fr' (own'++cs')) w):=by
 by_cases H:fr.mode= .run
 .exact VB B z q K j H S s hq hs
 .have hs:=D.resolve_left H;have X:=K.ok;have g:=j.mode;have aBk:fr'.mode≠.run:=λe=>by rw[e]at g;generalize fr.mode=m at g H;cases g;exact H rfl
  have e1:stepG P S (G fr (own++cs)) v=unwind P S fr (own++cs) aB v:=by simp only[stepG,G]
  have Q:∀p:zZ,stepG p s (G fr' (own'++cs')) w=unwind p s fr' (own'++cs') aB w:=λp=>by simp only[stepG,G]
  rw[e1,Q,Q];have Z:=j.defers;unfold unwind;generalize hdv:fr.defers=l at Z hs;generalize hdw:fr'.defers=l' at Z;cases Z with
  | @cons d d' ds ds' I T=>
   have Y:cL P Al F π {fr with defers:=ds} {fr' with defers:=ds'}:=⟨j.fn,j.al,j.tmps,j.todo,j.items,T,j.mode,j.kind,j.kinds,j.round,j.pL⟩;have:=uM (cs:=own++cs) (cs':=own'++cs') B z q K Y I.rel (λf cs KH e=>by obtain⟨f2,cs2,as2,Q,T⟩:=I.lets;rw[e]at Q;cases Q;exact T)
   obtain⟨I,_⟩:=I;cases I with
   |fn hfa hc ha=>exact this
   |nil ha=>exact this
  |nil=>
   cases ho with
   |nil=>obtain h|h:=hs<;>exact absurd rfl h
   | @cons c c' R J hc ho=>
    generalize hfm:fr.mode=m at g H;generalize aBK:fr'.mode=m' at g;cases g with
    |run=>exact absurd rfl H
    |panicking hl=>
     right;dsimp only;have M:∀i∈fr'.todo,kZ P Al F i:=by rw[j.todo];exact j.items
     rw[lL M];have:fr'.catches ⟨P.toTables,fs⟩=aF:=by unfold Frame.catches;split;{rename_i ht;have hh:=(λi k (e:fr'.todo=i::k)=>M i (by rw[e];exact zBk)) _ _ ht;exact False.elim hh};{rfl}
     rw[this];exact bM (by simp;omega)
    |returning=>
     dsimp only;rw[j.fn];cases C:P.funcs[fr.fn]? with
     |none=>
      rw[C]at n;cases r:fs[fr.fn]? with
      |some y=>rw[r]at n;cases n
      |none=>right;dsimp only;unfold doReturn;rw[j.kind];obtain e|e:=j.kinds<;>rw[e]<;>exact bM (by simp;omega)
     |some fn=>
      rw[C]at n;cases r:fs[fr.fn]? with
      |none=>rw[r]at n;cases n
      |some N=>
      rw[r]at n;have L:N.results=fn.results:=by{simpa using n};have E:∀V,results N V=results fn V:=λV=>by{unfold results;rw[L]};dsimp only;rw[E];have A:=iE (F:=F) fn (ok:=X) j.tmps;obtain⟨hl,u,O,e,t⟩|hb:=A.blind z q v w #[] #[] K
      .left;rw[e];obtain⟨U,rfl⟩|⟨u,rfl,hu⟩:=t
       .exact⟨_,_,_,rfl⟩
       .exact⟨_,_,_,rfl⟩
      .obtain(⟨hl,u,O,e,t⟩|⟨W,_⟩)|⟨ρ,v1,w1,O,dd,I,T,h3,h4⟩:=A.runT v w #[] #[] K
       .left;rw[e];obtain⟨U,rfl⟩|⟨u,rfl,hu⟩:=t
        .exact⟨_,_,_,rfl⟩
        .exact⟨_,_,_,rfl⟩
       .exact absurd W (sT q _)
       .obtain⟨a,b,r1,r2,aa⟩|⟨x,x',r1,r2,hx⟩:=h4
        .right;rw[hb,r2];simp only[eD z];unfold doReturn;rw[j.kind];obtain e|e:=j.kinds<;>rw[e]<;>exact bM (by simp;omega)
        .left;rw[r1];exact⟨_,_,_,rfl⟩
end
def WO (o:Option Obj):Prop:=∃x,o=aA (aI #[.bool x] 4 (0,0))
structure oI (v u:zW):Prop where
 size:v.heap.size<=u.heap.size
 old:∀b,b<v.heap.size->u.heap[b]? =v.heap[b]?
 new:∀b,v.heap.size<=b->b<u.heap.size->WO u.heap[b]?
def oI.refl {v}:oI v v:=⟨zAb _,λ_ _=>rfl,λb a h=>absurd h (zEy.2 a)⟩
def oI.trans {v u t:zW}(h:oI v u)(k:oI u t):oI v t:=
 ⟨zAw h.size k.size,λb a=>(k.old b (zAc a h.size)).trans (h.old b a),λb d c=>by
  obtain x|x:=zDf b u.heap.size;{rw[k.old b x];exact h.new b d x}
  .exact k.new b x c⟩
def oI.re {v u}(h:oI v u)(b a)(d c):oI (v.re b d) (u.re a c):=⟨h.size,h.old,h.new⟩
section
variable {P:zZ}{Al:zF}{f0:zN}{pr:zA->List PanicEntry}{own:zL}{v:zW}{D:zP}
structure Qd (P:zZ)(Al:zF):Prop where
 run:∀f xs v D,Al f->Al (900000+f)->xs.size<=20->Closed P Al D (Frame.enter P f xs .deferred) [] v->∃τ d,Lone P [bI] (λfr l u=>l=[]/\fr.mode= .returning/\fr.defers=[]/\fr.kind= .deferred/\(∃fn y,P.funcs[fr.fn]? =aA fn/\∀w,(results fn fr.tmps).runT P w #[]=(.ok y w,#[]))/\oI v u) (Frame.enter P f xs .deferred) [] (v.re τ d)
 inv:∀f xs cs w es,Al f->Al (900000+f)->(invoke (.fn (.func f) cs) xs).runT P w es=(.ok (.enter f (xs++cs)) w,es)
def Ends.Sy (hB:∀K:Kp,(∀b,¬K b)->cF P Al K)(hQ:Qd P Al){R E}:∀(n)(own)(fr)(v)(D)(c),(((fr::own).map λg=>g.defers.length+1).sum<=n)->Ends P Al (AtEnd P R E) fr own v->Closed P Al D fr own v->fr.mode= .panicking c->(∃p rest,c=p::rest/\p.recovered=aF)->
  ∃u more,oI v u/\∀q d,E (c++more) (u.re q d):=by
 have Ve:∀b,¬K0 b:=λb h=>h;intro n;induction n with
 |zero=>intro own fr v D c h;simp at h
 |succ n ih=>
  intro own fr v D c hn he Y H t;have W:=lL Y.frame.items;cases M:fr.defers with
  |nil=>
   cases own with
   |nil=>
    cases he with
    |stop h=>obtain⟨_,x,A,_⟩|⟨_,_,c',z,a⟩:=h;{have:=(A v.tape v.drawn).1;rw[H]at this;cases this};{rw[H]at z;cases z;exact⟨v,[],.refl,λq d=>by rw[zAy];exact a q d⟩}
    |step i=>obtain e|e|e:=i;{rw[H]at e;cases e};{exact absurd M e};{exact absurd rfl e}
   |cons g rest=>
    have B:stepG P aE (G fr (g::rest)) (v.re v.tape v.drawn)= .go (G (g.raise c) rest) v #[]:=by rw[gZ];simp only[stepG,G,H,unwind,M,W,zAz,zDc]
    have C:Ends P Al (AtEnd P R E) (g.raise c) rest v:=he.next (λx=>by
     obtain x|x:=x;{cases x.1}
     .cases x.1) B
    have J:∃D1,Closed P Al D1 (g.raise c) rest v:=by have A:=gK (cs:=[]) hB Y (aH (aH (by simp))) aE v.tape v.drawn;rw[zAy,B]at A;obtain⟨o,u,L,a⟩|⟨l,lZ,v2,L,D2,a,m,_⟩:=A;{cases a};{rw[zAy]at a;have e1:g.raise c=l:=by{injection a with e _ _;exact congrArg Goroutine.frame e};have e2:rest=lZ:=by{injection a with e _ _;exact congrArg Goroutine.callers e};have e3:v=v2:=by{injection a};subst e1;subst e2;subst e3;exact⟨D2,m⟩}
    obtain⟨D1,j⟩:=J;have hr:∃c2,(g.raise c).mode= .panicking (c++c2)/\(g.raise c).defers=g.defers:=by
     unfold Frame.raise;cases hgm:g.mode with
     |panicking ch=>exact⟨ch,rfl,rfl⟩
     |_=>exact⟨[],by simp,rfl⟩
    obtain⟨c2,s,I⟩:=hr;obtain⟨u,more,z,a⟩:=ih rest (g.raise c) v D1 (c++c2) (by
     simp only[zDw,List.sum_cons]at hn⊢;rw[I];omega) C j s (by
     obtain⟨p,r,e,t⟩:=t;exact⟨p,r++c2,by rw[e];rfl,t⟩)
    exact⟨u,c2++more,z,λq d=>by rw[<-zDa];exact a q d⟩
  |cons d ds=>
   have V:=Y.frame.defers;rw[M]at V;obtain⟨hrel,f,cs,k,ed,U⟩:IY Al (cH D) d d:=by
    cases V with
    |cons h _=>exact h
   subst ed;obtain⟨X,Z⟩:Al f/\k.size+cs.size<=20:=by
    cases hrel with
    |fn hf _ _ Z=>exact⟨hf,Z⟩
   have B:stepG P aE (G fr own) (v.re v.tape v.drawn)= .go (G (Frame.enter P f (k++cs) .deferred) ({fr with defers:=ds}::own)) v (seen P fr.fn #[]++ #[]):=by rw[gZ];have e0:stepG P aE (G fr own) v=unwind P aE fr own aB v:=by{simp only[stepG,G,H]};rw[e0];unfold unwind;rw[M];dsimp only;unfold callDeferred;simp only[Bool.false_and,zAz,↓reduceIte];rw[hQ.inv f k cs v #[] X U];rfl
   have i:fr.mode= .run\/fr.defers≠[]\/own≠[]:=aH (aG (by rw[M];simp));have C:Ends P Al (AtEnd P R E) (Frame.enter P f (k++cs) .deferred) ({fr with defers:=ds}::own) v:=he.next (λx=>by have:=gP (P:=P) (R:=R) (E:=E) (cs:=[]) (v:=v) i;rw[zAy]at this;exact this x) B
   have J:∃D1,Closed P Al D1 (Frame.enter P f (k++cs) .deferred) ({fr with defers:=ds}::own) v:=by have A:=gK (cs:=[]) hB Y i aE v.tape v.drawn;rw[zAy,B]at A;obtain⟨o,u,L,a⟩|⟨l,lZ,v2,L,D2,a,m,_⟩:=A;{cases a};{rw[zAy]at a;have e1:Frame.enter P f (k++cs) .deferred=l:=by{injection a with e _ _;exact congrArg Goroutine.frame e};have e2:{fr with defers:=ds}::own=lZ:=by{injection a with e _ _;exact congrArg Goroutine.callers e};have e3:v=v2:=by{injection a};subst e1;subst e2;subst e3;exact⟨D2,m⟩}
   obtain⟨D1,j⟩:=J;obtain⟨q,d0,hl⟩:=hQ.run f (k++cs) v D1 X U (by rw[zEd];exact Z) ⟨j.frame,.nil,j.world,j.nj⟩;have hc':Closed P Al D1 (Frame.enter P f (k++cs) .deferred) [] (v.re q d0):=⟨j.frame,.nil,gJ j.world Ve q q d0 d0 (λ_ _=>rfl),j.nj⟩;obtain⟨l,l2,u2,D2,⟨e,s,I,S,⟨fn,y,hfn,O⟩,F⟩,m,N,he2⟩:=Lone.through hB (T:=AtEnd P R E) (cs:={fr with defers:=ds}::own) (λ_ _ _ B=>gP B) hl hc' (C.re (λ_ _ _ q d h=>h.re q d) q d0);subst e;have xg:stepG P aE (G l ({fr with defers:=ds}::own)) (u2.re u2.tape u2.drawn)= .go (G {fr with defers:=ds} own) u2 (seen P l.fn #[]++ #[]):=by rw[gZ];have e0:stepG P aE (G l ({fr with defers:=ds}::own)) u2=unwind P aE l ({fr with defers:=ds}::own) aB u2:=by{simp only[stepG,G,s]};rw[e0];unfold unwind;rw[I];dsimp only;rw[s];dsimp only;rw[hfn];dsimp only;rw[O];dsimp only;unfold doReturn;rw[S];dsimp only;rw[H];obtain⟨p,r,e,t⟩:=t;subst e;obtain⟨pv,prec,pg⟩:=p;dsimp only at t;subst t;rfl
   have Q:Ends P Al (AtEnd P R E) {fr with defers:=ds} own u2:=he2.next (λx=>by
    obtain x|x:=x;{cases x.1}
    .cases x.1) xg
   have w:∀b b',cH D1 b b'->cH D2 b b':=λb b' h=>⟨h.1,N b h.2⟩;have hc3:Closed P Al D2 {fr with defers:=ds} own u2:=by
    have ho:=j.own;cases ho with
    |cons z a=>exact⟨z.mono w,a.imp λ_ _ h=>h.mono w,m.world,m.nj⟩
   obtain⟨u,more,z,a⟩:=ih own {fr with defers:=ds} u2 D2 c (by simp only[zDw,List.sum_cons,M,zAh]at hn⊢;omega) Q hc3 H t
   exact⟨u,more,F.trans z,a⟩
def Sx (s:∀K:Kp,(∀b,¬K b)->cF P Al K)(A:Qd P Al)(x:∀xs v D,xs.size<=20->Closed P Al D (Frame.enter P f0 xs .normal) [] v->∃a d,Lone P [bI] (λfr l u=>l=[]/\fr.mode= .panicking (pr xs)/\fr.defers=[]/\oI v u) (Frame.enter P f0 xs .normal) [] (v.re a d))
  (k:∀xs,∃p rest,pr xs=p::rest/\p.recovered=aF) {R E xs} (t:xs.size<=20) (g:Closed P Al D (Frame.enter P f0 xs .normal) own v)
  (z:Ends P Al (AtEnd P R E) (Frame.enter P f0 xs .normal) own v):∃u more,oI v u/\∀a d,E (pr xs++more) (u.re a d):=by
 have m:∀b,¬K0 b:=λb h=>h;obtain⟨a,d,hl⟩:=x xs v D t ⟨g.frame,.nil,g.world,g.nj⟩;have o:Closed P Al D (Frame.enter P f0 xs .normal) [] (v.re a d):=⟨g.frame,.nil,gJ g.world m a a d d (λ_ _=>rfl),g.nj⟩;obtain⟨q,F,u2,D2,⟨e,y,G,c⟩,f,i,n⟩:=Lone.through s (λ_ _ _ w=>gP w) hl o (z.re (λ_ _ _ a d h=>h.re a d) a d);subst e;have j:∀b r,cH D b r->cH D2 b r:=λb r h=>⟨h.1,i b h.2⟩;obtain⟨u,more,C,B⟩:=Ends.Sy s A _ own q u2 D2 (pr xs) (zAb _) n ⟨f.frame,g.own.imp λ_ _ h=>h.mono j,f.world,f.nj⟩ y (k xs);exact⟨u,more,c.trans C,B⟩
end
end Go.Ren
namespace Go.Proofs
open Go.Ren Go.Conc
def gR (tm:zA)(todo:zI):zC:={fn:=233,tmps:=tm,todo,defers:=[],mode:= .run,kind:= .normal}
def GX (xs):Frame.enter zq 233 xs .normal=gR (xs++aEz (43-xs.size) aER) [.code Qz.rZ]:=by unfold Frame.enter;rw[Qz.func233];rfl
section
variable {cs:zL}{S:zS}{tm:zA}{k:zI}{v v1:zW}{ops:zQ}{j:Nat}{rest:List Nat}{o:Oper}
def LB {P fr u}(c:fr.mode= .run)(a:fr.todo=aM ops (j::rest)::k)(b:fr.roundOf=aB)(h:ops[j]? =aA o)(d:o.guard=aB)(m):stepG P m (G fr cs) u=stepG.apply P aE fr cs aB (aEH fr.eval o) u:=by
 obtain⟨fn,tmps,todo,defers,mode,kind,round⟩:=fr;dsimp only at c a b;subst c;subst a;subst b;show stepG.exec P m aE ⟨fn,tmps,aM ops (j::rest)::k,defers,.run,kind,aB⟩ cs aB u=_;have f:stepG.exec P m aE ⟨fn,tmps,aM ops (j::rest)::k,defers,.run,kind,aB⟩ cs aB u=
   if(((ops[j]?).map (Region.wanted · (yielded ops tmps))).getD aF)=aE then stepG.oper P aE ⟨fn,tmps,aM ops (j::rest)::k,defers,.run,kind,aB⟩ cs aB u
   else .go (G (Frame.finish ⟨fn,tmps,aM ops (j::rest)::k,defers,.run,kind,aB⟩ aER) cs) u:=rfl
 have e:Region.wanted o (yielded ops tmps)=aE:=by unfold Region.wanted;rw[d]
 rw[f,h];simp only[zBe,zCj,e,zCq];unfold stepG.oper;simp only[Frame.oper?,h]
def jU (a:ops[j]? =aA o)(g:o.guard=aB){y:zY}{b:zE}(f:(aEH (gR tm (aM ops (j::rest)::k)).eval o).runT zq v #[]=(.ok (.value y) v1,b)){tm1:zA}(c:tm1=match o.dst with|some d=>tm.setIfInBounds d y|none=>tm)
  (h:Lone zq cs S (gR tm1 (aM ops rest::k)) [] v1):Lone zq cs S (gR tm (aM ops (j::rest)::k)) [] v:=by
 obtain⟨l,e,_⟩:=pC f;refine Lone.step (aG rfl) ((LB rfl rfl rfl a g aE).trans e) ?_;have i:(gR tm (aM ops (j::rest)::k)).finish y=gR tm1 (aM ops rest::k):=by subst c;unfold Frame.finish gR;simp only[a,zCr];cases o.dst<;>rfl
 rw[i];exact h
def LV (a:ops[j]? =aA o)(f:o.guard=aB)(g:o.dst=aB){b}(d:(aEH (gR tm (aM ops (j::rest)::k)).eval o).runT zq v #[]=(.ok .skip v1,b))
  (h:Lone zq cs S (gR tm (aM ops rest::k)) [] v1):Lone zq cs S (gR tm (aM ops (j::rest)::k)) [] v:=by
 have e:∃c,stepG.apply zq aE (gR tm (aM ops (j::rest)::k)) ([]++cs) aB (aEH (gR tm (aM ops (j::rest)::k)).eval o) v= .go (G ((gR tm (aM ops (j::rest)::k)).finish aER) ([]++cs)) v1 c:=by unfold stepG.apply;simp only[zCq];rw[d];exact⟨_,rfl⟩
 obtain⟨c,e⟩:=e;refine Lone.step (aG rfl) ((LB rfl rfl rfl a f aE).trans e) ?_;have i:(gR tm (aM ops (j::rest)::k)).finish aER=gR tm (aM ops rest::k):=by unfold Frame.finish gR;simp only[a,zCr,g]
 rw[i];exact h
def ZF (a:ops[j]? =aA o)(f:o.guard=aB){x b}(d:(aEH (gR tm (aM ops (j::rest)::k)).eval o).runT zq v #[]=(.halt (.panic x) v1,b))
  (h:S {gR tm (aM ops (j::rest)::k)with mode:= .panicking [{v:=x,recovered:=aF}]} [] v1):Lone zq cs S (gR tm (aM ops (j::rest)::k)) [] v:=by
 have e:∃c,stepG.apply zq aE (gR tm (aM ops (j::rest)::k)) ([]++cs) aB (aEH (gR tm (aM ops (j::rest)::k)).eval o) v= .go (G {gR tm (aM ops (j::rest)::k)with mode:= .panicking [{v:=x,recovered:=aF}]} ([]++cs)) v1 c:=by unfold stepG.apply;simp only[zCq];rw[d];exact⟨_,rfl⟩
 obtain⟨c,e⟩:=e;exact Lone.step (aG rfl) ((LB rfl rfl rfl a f aE).trans e) (.stop h)
def mZ {todo t:zI}(hs:∀c,stepG zq aE (G (gR tm todo) c) v= .go (G (gR tm t) c) v #[])(h:Lone zq cs S (gR tm t) [] v):Lone zq cs S (gR tm todo) [] v:=
 Lone.step (aG rfl) (hs _) h
end
open Go.Ren Go.Conc Go.RowKit
def gA (tm:zA):zY:= .func (.func 158) #[(tm.getD 2 aER),(tm.getD 3 aER),(tm.getD 4 aER),(tm.getD 5 aER),(tm.getD 6 aER),(tm.getD 7 aER),(tm.getD 8 aER),(tm.getD 9 aER),(tm.getD 10 aER)] #[]
def gB (tm:zA):zY:= .func (.func 158) #[(tm.getD 11 aER),(tm.getD 12 aER),(tm.getD 13 aER),(tm.getD 14 aER),(tm.getD 15 aER),(tm.getD 16 aER),(tm.getD 17 aER),(tm.getD 18 aER),(tm.getD 19 aER)] #[]
def gC (tm:zA):zY:= .func (.func 158) #[(tm.getD 0 aER),(tm.getD 1 aER),gA tm,gB tm] #[]
def told (tm:zA):List PanicEntry:=[{v:= .iface 224 (gC tm),recovered:=aF}]
def zK {Q t d}(h:Q.underlying t=aA d)(u)(es):(underlying t).runT Q u es=(.ok d u,es):=by show(match Q.underlying t with|some d=>pure d|none=>stuck "no such type":Sem TypeDesc).runT Q u es=_;rw[h];rfl
def OB {Q t i}(h:Q.info? t=aA i)(u)(es):(typeInfo t).runT Q u es=(.ok i u,es):=by show(match Q.info? t with|some i=>pure i|none=>stuck _:Sem TypeInfo).runT Q u es=_;rw[h];rfl
def OC {Q e o f xs ys}(h:o.op= .makeFunc (.func f) xs #[])(a:xs.toList.map e=ys.toList)(u)(es):(aEH e o).runT Q u es=(.ok (.value (.func (.func f) ys #[])) u,es):=by
 have b:xs.map e=ys:=by apply zCk.1;rw[zFq];exact a
 unfold aEH;rw[h];show(Result.ok (aES (.func (.func f) (xs.map e) ((#[]:Array Operand).map e))) u,es)=_;rw[b];simp
def bV {tm:zA}{i j x}(h:i≠j):(tm.setIfInBounds i x).getD j aER=tm.getD j aER:=by rw[zAt,zAt,zAd h]
def aV {tm:zA}{i x}(h:i<tm.size):(tm.setIfInBounds i x).getD i aER=x:=by rw[zAt,zAl h];rfl
def Wx:∃i,Tryz.prog.info? 4=aA i/\i.zero=aA (.bool aF)/\i.size=1:=⟨_,rfl,rfl,rfl⟩
def Qz.info (t):zq.info? t=Tryz.prog.info? t:=by rw[Qz.iM]
def Qz.Vb:∃i,zq.info? 4=aA i/\i.zero=aA (.bool aF)/\i.size=1:=by rw[Qz.info];exact Wx
def Rq (T:Tables)(fs f)(t):(⟨T,fs⟩:zZ).underlying t=(⟨T,f⟩:zZ).underlying t:=rfl
def Qz.eO (t):zq.underlying t=Tryz.prog.underlying t:=by exact Rq Tryz.prog.toTables (seven Tryz.prog.funcs) Tryz.prog.funcs t
def boxed (v:zW)(b:Bool):zW:={v with heap:=v.heap.push (aI #[.bool b] 4)}
section
variable {cs:zL}{S:zS}{v:zW}
def FD (w):(do let x<-Instr.alloc 4 aE (.tuple #[]);pure (aES x):Sem Next).runT zq w #[]=(.ok (.value (.pointer (aA ⟨w.heap.size,0,aB⟩))) (boxed w aF),#[]):=by obtain⟨i,b,a,h⟩:=Qz.Vb;simp[Instr.alloc,zeroValue,typeInfo,b,a,h,newVar,newRow,boxed,go_sem,Value.cells]
def Qz.gz:zq.underlying 4=aA .bool:=by rw[Qz.eO];exact Tryz.underlying4
def MP (w)(b)(a)(d):((boxed w b).re a d).heap[w.heap.size]? =aA (aI #[.bool b] 4):=by show(w.heap.push _)[w.heap.size]? =_;simp
def IJ (w)(b)(a)(d):((boxed w b).re a d).cell? ⟨w.heap.size,0,aB⟩=aA (.bool b):=by unfold World.cell?;rw[MP];rfl
def Iw (w)(b c)(a)(d):((boxed w b).re a d).setCell ⟨w.heap.size,0,aB⟩ (.bool c)=(boxed w c).re a d:=by
 unfold World.setCell boxed World.re;congr 1;apply zBy;intro i;by_cases hi:w.heap.size=i
 .subst hi;rw[bX];simp
 .rw[bP _ hi,zBg,zBg,zAn (zEa hi),zAn (zEa hi)]
def Gb (u)(es):(isAgg 4).runT zq u es=(.ok aF u,es):=by unfold isAgg;rw[bD];rw[zK Qz.gz];rfl
def YD (u)(es):(Go.sizeOf 4).runT zq u es=(.ok 1 u,es):=by obtain⟨i,a,b,h⟩:=Qz.Vb;unfold Go.sizeOf;rw[bD];rw[OB a];dsimp only;rw[h];rfl
def SL (w)(b)(a)(d)(es):(do let x<-Instr.loadAt 4 (.pointer (aA ⟨w.heap.size,0,aB⟩));pure (aES x):Sem Next).runT zq ((boxed w b).re a d) es=(.ok (.value (.bool b)) ((boxed w b).re a d),es.push ⟨.cell ⟨w.heap.size,0,aB⟩,aF,aF⟩):=by
 have e:(Instr.loadAt 4 (.pointer (aA ⟨w.heap.size,0,aB⟩))).runT zq ((boxed w b).re a d) es=(.ok (.bool b) ((boxed w b).re a d),es.push ⟨.cell ⟨w.heap.size,0,aB⟩,aF,aF⟩):=by show(loadVar 4 ⟨w.heap.size,0,aB⟩).runT zq ((boxed w b).re a d) es=_;unfold loadVar;rw[bD,Gb];show(Sem.load .plain ⟨w.heap.size,0,aB⟩ .pure).runT zq ((boxed w b).re a d) es=_;simp only[Sem.runT,IJ];rfl
 rw[bD,e];rfl
def KZ (w)(b)(a)(d)(es):(do Instr.storeAt 4 (.pointer (aA ⟨w.heap.size,0,aB⟩)) (.bool aE);pure aET:Sem Next).runT zq ((boxed w b).re a d) es=(.ok .skip ((boxed w aE).re a d),es.push ⟨.cell ⟨w.heap.size,0,aB⟩,aE,aF⟩):=by
 have h:((boxed w b).re a d).frozen? ⟨w.heap.size,0,aB⟩=aF:=by unfold World.frozen?;rw[MP];rfl
 have e:(Instr.storeAt 4 (.pointer (aA ⟨w.heap.size,0,aB⟩)) (.bool aE)).runT zq ((boxed w b).re a d) es=(.ok () ((boxed w aE).re a d),es.push ⟨.cell ⟨w.heap.size,0,aB⟩,aE,aF⟩):=by show(storeVar 4 ⟨w.heap.size,0,aB⟩ (.bool aE)).runT zq ((boxed w b).re a d) es=_;unfold storeVar;rw[bD,YD];show(Sem.store .plain ⟨w.heap.size,0,aB⟩ (.bool aE) (.pure ())).runT zq ((boxed w b).re a d) es=_;simp only[Sem.runT,IJ,h,zAz,zDc,Iw];rfl
 rw[bD,e];rfl
def Lm (x)(u)(es):(do let y<-Instr.makeInterface 224 x;pure (aES y):Sem Next).runT zq u es=(.ok (.value (.iface 224 x)) u,es):=by
 have e:(Instr.makeInterface 224 x).runT zq u es=(.ok (.iface 224 x) u,es):=by unfold Instr.makeInterface;rw[bD];rw[zK ((Qz.eO 224).trans underlying224)];rfl
 rw[bD,e];rfl
def KY (ops:zQ)(m:Bool)(n:Nat)(b:ops.size=2:=by kernel_rfl)(g:Region.departs ops=aF:=by kernel_rfl)(f:((List.range ops.size).filter λi=> !(#[aF,aF]:Array Bool).getD i aE&&((ops[i]?).map (·.after.all λe=> !Region.binds .any e||(#[aF,aF]:Array Bool).getD e.on aF)).getD aF)=[0,1]:=by kernel_rfl)(d:((List.range ops.size).filter λi=> !(#[aE,aF]:Array Bool).getD i aE&&((ops[i]?).map (·.after.all λe=> !Region.binds .any e||(#[aE,aF]:Array Bool).getD e.on aF)).getD aF)=[1]:=by kernel_rfl)(c:((List.range ops.size).filter λi=> !(#[aF,aE]:Array Bool).getD i aE&&((ops[i]?).map (·.after.all λe=> !Region.binds .any e||(#[aF,aE]:Array Bool).getD e.on aF)).getD aF)=[0]:=by kernel_rfl):Region.schedule m ops n=if n%2=0 then [0,1]else [1,0]:=by
 unfold Region.schedule;rw[g];simp only[Bool.not_false,Bool.or_true,zCq];unfold Region.linearise;rw[show Region.linearise.go .any ops ops.size n (aEz ops.size aF) []=Region.linearise.go .any ops 2 n #[aF,aF] [] by rw[b];rfl];simp only[Region.linearise.go];rw[f];obtain h|h:=Nat.mod_two_eq_zero_or_one n
 .have a:([0,1]:List Nat)[n%([0,1]:List Nat).length]? =aA 0:=by{simp[h]};rw[a];dsimp only;show(match((List.range ops.size).filter λi=> !(#[aE,aF]:Array Bool).getD i aE&&((ops[i]?).map (·.after.all λe=> !Region.binds .any e||(#[aE,aF]:Array Bool).getD e.on aF)).getD aF)[n/2%((List.range ops.size).filter λi=> !(#[aE,aF]:Array Bool).getD i aE&&((ops[i]?).map (·.after.all λe=> !Region.binds .any e||(#[aE,aF]:Array Bool).getD e.on aF)).getD aF).length]? with|some i=>_|none=>_)=_;rw[d];simp[h,Nat.mod_one]
 .have a:([0,1]:List Nat)[n%([0,1]:List Nat).length]? =aA 1:=by{simp[h]};rw[a];dsimp only;show(match((List.range ops.size).filter λi=> !(#[aF,aE]:Array Bool).getD i aE&&((ops[i]?).map (·.after.all λe=> !Region.binds .any e||(#[aF,aE]:Array Bool).getD e.on aF)).getD aF)[n/2%((List.range ops.size).filter λi=> !(#[aF,aE]:Array Bool).getD i aE&&((ops[i]?).map (·.after.all λe=> !Region.binds .any e||(#[aF,aE]:Array Bool).getD e.on aF)).getD aF).length]? with|some i=>_|none=>_)=_;rw[c];simp[h,Nat.mod_one]
def Fy (m:Bool)(n:Nat):Region.schedule m Uv n=if n%2=0 then [0,1]else [1,0]:=KY Uv m n
def Fz (a:zT)(d:Nat):Nat:=(Question.order 233 1).cut (a d (.order 233 1))%2
def LW {tm k l}(a)(d)(b:(if Fz a d=0 then [0,1]else [1,0])=l)(h:Lone zq cs S (gR tm (aM Uv l::k)) [] (v.re a (d+1))):Lone zq cs S (gR tm (.code (.region 1 Uv aE)::k)) [] (v.re a d):=by refine Lone.step (es:= #[]) (aG rfl) ?_ h;subst b;show GStep.go (G (gR tm (aM Uv (Region.schedule (zq.follows .mixedOrders) Uv ((Question.order 233 1).cut (a d (.order 233 1))))::k)) ([]++cs)) (v.re a (d+1)) #[]=_;rw[Fy];rfl
def XF {tm a b k u}(h:Lone zq cs S (gR tm (.code a:: .code b::k)) [] u):Lone zq cs S (gR tm (.code (.seq a b)::k)) [] u:=mZ (λc=>rfl) h
def KP {tm id ops k u}(h:Lone zq cs S (gR tm (aM ops (List.range ops.size)::k)) [] u):Lone zq cs S (gR tm (.code (.region id ops aF)::k)) [] u:=mZ (λc=>rfl) h
def XG {tm ops k u}(h:Lone zq cs S (gR tm k) [] u):Lone zq cs S (gR tm (aM ops []::k)) [] u:=mZ (λc=>rfl) h
def Rs {tm k u}(h:Lone zq cs S (gR tm k) [] u):Lone zq cs S (gR tm (.code .skip::k)) [] u:=mZ (λc=>rfl) h
def Bt {tm}{t:Nat}{a b k u}(c:Bool)(d:tm.getD t aER= .bool c)(h:Lone zq cs S (gR tm (.code (if c then a else b)::k)) [] u):Lone zq cs S (gR tm (.code (.cond (.tmp t) a b)::k)) [] u:=by refine mZ (λcs=> ?_) h;show stepG.exec zq aE aE (gR tm (.code (.cond (.tmp t) a b)::k)) cs aB u=_;unfold stepG.exec;dsimp only[gR];rw[show Frame.eval ⟨233,tm,.code (.cond (.tmp t) a b)::k,[],.run,.normal,aB⟩ (.tmp t)= .bool c from d];cases c<;>rfl
def tm1 (tm:zA):zA:=tm.setIfInBounds 20 (gA tm)
def QJ (tm:zA):zA:=(tm1 tm).setIfInBounds 21 (gB tm)
def Rt (tm:zA):zA:=(QJ tm).setIfInBounds 22 (gC tm)
def Bx (tm:zA)(v:zW):zA:=(Rt tm).setIfInBounds 23 (.pointer (aA ⟨v.heap.size,0,aB⟩))
def rtA (tm)(k)(u)(es):(aEH (gR tm k).eval vt).runT zq u es=(.ok (.value (gA tm)) u,es):=OC (xs:= #[.tmp 2,.tmp 3,.tmp 4,.tmp 5,.tmp 6,.tmp 7,.tmp 8,.tmp 9,.tmp 10]) (ys:= #[(tm.getD 2 aER),(tm.getD 3 aER),(tm.getD 4 aER),(tm.getD 5 aER),(tm.getD 6 aER),(tm.getD 7 aER),(tm.getD 8 aER),(tm.getD 9 aER),(tm.getD 10 aER)]) rfl rfl u es
def rtB {tm}(k)(u)(es):(aEH (gR (tm1 tm) k).eval vr).runT zq u es=(.ok (.value (gB tm)) u,es):=OC (xs:= #[.tmp 11,.tmp 12,.tmp 13,.tmp 14,.tmp 15,.tmp 16,.tmp 17,.tmp 18,.tmp 19]) (ys:= #[(tm.getD 11 aER),(tm.getD 12 aER),(tm.getD 13 aER),(tm.getD 14 aER),(tm.getD 15 aER),(tm.getD 16 aER),(tm.getD 17 aER),(tm.getD 18 aER),(tm.getD 19 aER)]) rfl (by simp[Frame.eval,gR,tm1,bV]) u es
def rtC {tm}(h:tm.size=43)(k)(u)(es):(aEH (gR (QJ tm) k).eval vn).runT zq u es=(.ok (.value (gC tm)) u,es):=by
 have a:(QJ tm).getD 20 aER=gA tm:=by unfold QJ tm1;rw[bV (by decide),aV (by omega)]
 have e:(QJ tm).getD 21 aER=gB tm:=by unfold QJ tm1;rw[aV (by simp[h])]
 have c:(QJ tm).getD 0 aER=tm.getD 0 aER:=by unfold QJ tm1;rw[bV (by decide),bV (by decide)]
 have b:(QJ tm).getD 1 aER=tm.getD 1 aER:=by unfold QJ tm1;rw[bV (by decide),bV (by decide)]
 exact OC rfl (by show [(QJ tm).getD 0 aER,(QJ tm).getD 1 aER,(QJ tm).getD 20 aER,(QJ tm).getD 21 aER]=_;rw[c,b,a,e]) u es
def Bu {tm}(h:tm.size=43)(v):(Bx tm v).getD 23 aER= .pointer (aA ⟨v.heap.size,0,aB⟩):=by unfold Bx Rt QJ tm1;rw[aV (by simp[h])]
def Bw {tm}(v){i}(h:i<20):(Bx tm v).getD i aER=tm.getD i aER:=by unfold Bx Rt QJ tm1;rw[bV (by omega),bV (by omega),bV (by omega),bV (by omega)]
def Ko {tm}(h:tm.size=43)(v):(Bx tm v).getD 22 aER=gC tm:=by unfold Bx Rt QJ tm1;rw[bV (by decide),aV (by simp[h])]
def EE {tm}(h:tm.size=43)(v):(Bx tm v).size=43:=by simp[Bx,Rt,QJ,tm1,h]
def BI (a)(d){tm}(b:tm.size=43)(h:Lone zq cs S (gR (Bx tm v) [.code (.region 1 Uv aE),.code vu]) [] ((boxed v aF).re a d)):
  Lone zq cs S (gR tm [.code Qz.rZ]) [] (v.re a d):=by
 iterate 2 (refine mZ (λc=>rfl) ?_)
 refine jU rfl rfl (rtA tm _ _ _) rfl ?_;refine jU rfl rfl (rtB _ _ _) rfl ?_;refine jU rfl rfl (rtC b _ _ _) rfl ?_;refine jU rfl rfl (FD _) rfl ?_;iterate 2 (refine mZ (λc=>rfl) ?_)
 exact h
def VC {tm}(h:tm.getD 23 aER= .pointer (aA ⟨v.heap.size,0,aB⟩))(k)(b)(a)(d):(aEH (gR tm k).eval nb).runT zq ((boxed v b).re a d) #[]=(.ok .skip ((boxed v aE).re a d),#[⟨.cell ⟨v.heap.size,0,aB⟩,aE,aF⟩]):=by
 have e:aEH (gR tm k).eval nb=(do Instr.storeAt 4 (tm.getD 23 aER) (.bool aE);pure aET:Sem Next):=by rfl
 rw[e,h,KZ];rfl
def Df {tm}(h:tm.getD 23 aER= .pointer (aA ⟨v.heap.size,0,aB⟩))(k)(b)(a)(d):(aEH (gR tm k).eval nh).runT zq ((boxed v b).re a d) #[]=(.ok (.value (.bool b)) ((boxed v b).re a d),#[⟨.cell ⟨v.heap.size,0,aB⟩,aF,aF⟩]):=by
 have e:aEH (gR tm k).eval nh=(do let x<-Instr.loadAt 4 (tm.getD 23 aER);pure (aES x):Sem Next):=by rfl
 rw[e,h,SL];rfl
def Oi {tm}(k)(u):(aEH (gR tm k).eval jr).runT zq u #[]=(.ok (.value (.iface 224 (tm.getD 22 aER))) u,#[]):=by
 have e:aEH (gR tm k).eval jr=(do let y<-Instr.makeInterface 224 (tm.getD 22 aER);pure (aES y):Sem Next):=by rfl
 rw[e,Lm]
def Oh {tm x}(h:tm.getD 25 aER= .iface 224 x)(k)(u):(aEH (gR tm k).eval ng).runT zq u #[]=(.halt (.panic (.iface 224 x)) u,#[]):=by
 have e:aEH (gR tm k).eval ng=(do let y<-Instr.panic (tm.getD 25 aER);pure (aES y):Sem Next):=by rfl
 rw[e,h];rfl
def At {P}{fr:zC}{ops l k}(h:fr.todo=aM ops l::k):fr.catches P=aF:=by unfold Frame.catches;rw[h];cases P.funcs[fr.fn]? <;>rfl
def KM (a)(d)(hs:Fz a d=0){tm}(b:tm.size=43)(h:∀fr:zC,fr.fn=233->fr.mode= .panicking (told tm)->fr.defers=[]->fr.catches zq=aF->S fr [] ((boxed v aE).re a (d+1))):
  Lone zq cs S (gR tm [.code Qz.rZ]) [] (v.re a d):=by
 refine BI a d b ?_;refine LW a d (by rw[hs]) ?_;have g:=Bu b v;refine LV rfl rfl rfl (VC g _ aF _ _) ?_;refine jU (tm1:=(Bx tm v).setIfInBounds 24 (.bool aE)) rfl rfl (Df g _ aE _ _) rfl ?_;refine XG (XF ?_);have e:((Bx tm v).setIfInBounds 24 (.bool aE)).getD 24 aER= .bool aE:=aV (by rw[EE b];decide);have f:((Bx tm v).setIfInBounds 24 (.bool aE)).getD 22 aER=gC tm:=by rw[bV (by decide)];exact Ko b v
 refine Bt aE e (KP ?_);refine jU (o:=jr) rfl rfl (by rw[Oi,f]) rfl ?_;have c:(((Bx tm v).setIfInBounds 24 (.bool aE)).setIfInBounds 25 (.iface 224 (gC tm))).getD 25 aER= .iface 224 (gC tm):=aV (by simp[EE b]);refine ZF rfl rfl (Oh c _ _) ?_;exact h _ rfl rfl rfl (At rfl)
def NI (tm:zA)(v:zW):zA:=(Bx tm v).setIfInBounds 24 (.bool aF)
def Rj (a)(d)(hs:Fz a d≠0){tm}(b:tm.size=43)(h:Lone zq cs S (gR (NI tm v) [aM Co [0],.code .ret]) [] ((boxed v aE).re a (d+1))):
  Lone zq cs S (gR tm [.code Qz.rZ]) [] (v.re a d):=by
 refine BI a d b ?_;refine LW a d (by rw[zAn hs]) ?_;have f:=Bu b v;have c:(NI tm v).getD 23 aER= .pointer (aA ⟨v.heap.size,0,aB⟩):=by unfold NI;rw[bV (by decide)];exact f
 refine jU rfl rfl (Df f _ aF _ _) rfl ?_;refine LV rfl rfl rfl (VC c _ aF _ _) ?_;refine XG (XF ?_);have e:(NI tm v).getD 24 aER= .bool aF:=aV (by rw[EE b];decide);exact Bt aF e (Rs (XF (KP h)))
def full (xs:zA):zA:=xs++aEz (43-xs.size) aER
def lI {xs}(h:xs.size<=20):(full xs).size=43:=by simp[full];omega
def jW (v)(b):oI v (boxed v b):=by
 refine⟨?_,λx a=> ?_,λx c h=> ?_⟩
 .show v.heap.size<=(v.heap.push _).size;rw[zBt];omega
 .show(v.heap.push _)[x]? =_;rw[zBg,zAn (by omega)]
 .have h:x<(v.heap.push (aI #[.bool b] 4)).size:=h;rw[zBt]at h;have e:x=v.heap.size:=by{omega};subst e;refine⟨b,?_⟩;show(v.heap.push _)[v.heap.size]? =_;simp
def Qz.Xi (xs)(v)(D)(h:xs.size<=20)(_:Closed zq Qz.Al D (Frame.enter zq 233 xs .normal) [] v):∃a d,Lone zq [bI] (λfr l u=>l=[]/\fr.mode= .panicking (told (full xs))/\fr.defers=[]/\oI v u) (Frame.enter zq 233 xs .normal) [] (v.re a d):=⟨λ_ _=>0,0,by rw[GX];exact KM (λ_ _=>0) 0 (by decide) (lI h) λfr f c b e=>⟨rfl,c,b,(jW v aE).re _ _ _ _⟩⟩
end
def Lone.steps {P cs S fr own v}(h:Lone P cs S fr own v):∃f o b,S f o b/\Steps P (lone fr (own++cs) v) (lone f (o++cs) b):=by
 induction h with
 | @stop fr own v h=>exact⟨fr,own,v,h,.refl _ _⟩
 | @step fr d own a v v1 es c e h i=>obtain⟨f,o,b,j,g⟩:=i;refine⟨f,o,b,j,.head (step_lone_go ?_) g⟩;have:stepG P aE {frame:=fr,callers:=own++cs,status:= .running,dying:=aB} v= .go (G d (a++cs)) v1 es:=e;rw[this];rfl
def kB {Q f fn c}(a:Q.funcs[f]? =aA fn)(h:(fn.name== "runtime.NumGoroutine")=aF)(b:fn.body=aA c)(xs)(u)(es):(callFunc f xs).runT Q u es=(.ok (.enter f xs) u,es):=by show(match Q.funcs[f]? with|none=>stuck "call: no such function"|some fn=>_:Sem Next).runT Q u es=_;rw[a];dsimp only;rw[h,b];rfl
def Ty {tm}(k)(u):(aEH (gR tm k).eval js).runT zq u #[]=(.ok (.enter 170 #[tm.getD 0 aER,tm.getD 1 aER]) u,#[]):=by
 have e:aEH (gR tm k).eval js=(do let d<-Deferred.ofValue (.func (.func 170) #[] #[]) ((#[.tmp 0,.tmp 1]:Array Operand).map (gR tm k).eval);invoke d.target d.args:Sem Next):=by rfl
 have b:(#[.tmp 0,.tmp 1]:Array Operand).map (gR tm k).eval= #[tm.getD 0 aER,tm.getD 1 aER]:=by apply zCk.1;rw[zFq];rfl
 rw[e,b];have a:(do let d<-Deferred.ofValue (.func (.func 170) #[] #[]) #[tm.getD 0 aER,tm.getD 1 aER];invoke d.target d.args:Sem Next)=callFunc 170 #[tm.getD 0 aER,tm.getD 1 aER]:=by show invoke (.fn (.func 170) #[]) (#[]++ #[tm.getD 0 aER,tm.getD 1 aER])=_;simp only[zBz];unfold invoke;simp
 rw[a];exact kB Qz.func170 (by kernel_rfl) rfl _ _ _
section
variable {v:zW}
def results_none {Q fn}(h:fn.results= #[])(tm)(u):(results fn tm).run Q u= .ok (.tuple #[]) u:=by unfold results;rw[h];simp[go_sem]
def Ww {S:zS}{cs:zL}{tm:zA}{k:zI}{u:zW}(h:S {gR tm (.code .ret::k)with mode:= .returning} [] u):Lone zq cs S (gR tm (.code .ret::k)) [] u:=
 Lone.step (fr1:={gR tm (.code .ret::k)with mode:= .returning}) (own1:=[]) (v1:=u) (es:= #[]) (aG rfl) rfl (.stop h)
def Kc {cs:zL}{tm:zA}{u:zW}:Lone zq cs (λfr own a=>own=[]/\a=u/\fr.mode= .returning/\fr.defers=[]/\fr.kind= .normal/\fr.fn=233) (gR tm [aM Co [],.code .ret]) [] u:=
 XG (Ww ⟨rfl,rfl,rfl,rfl,rfl,rfl⟩)
def VO {tm}(A:tm.size=43)(a)(d)(hs:Fz a d≠0){R:zW->Prop}(h:Calls zq 170 #[tm.getD 0 aER,tm.getD 1 aER] ((boxed v aE).re a (d+1)) λe w'=>(∃x,e=aL x)/\R w')(cs):
  ∃w' fr,R w'/\Steps zq (lone (gR tm [.code Qz.rZ]) cs (v.re a d)) (lone fr cs w')/\fr.fn=233/\fr.leaving zq w' (aL (.tuple #[])):=by
 obtain⟨E,l,K,⟨I,H,G⟩,s1⟩:=Lone.steps (Rj (S:=λfr own u=>fr=gR (NI tm v) [aM Co [0],.code .ret]/\own=[]/\u=(boxed v aE).re a (d+1)) a d hs A (.stop ⟨rfl,rfl,rfl⟩));subst I;subst H;subst G;have t0:(NI tm v).getD 0 aER=tm.getD 0 aER:=by unfold NI;rw[bV (by decide)];exact Bw v (by decide)
 have t1:(NI tm v).getD 1 aER=tm.getD 1 aER:=by unfold NI;rw[bV (by decide)];exact Bw v (by decide)
 have m:=Ty (tm:=NI tm v) [aM Co [0],.code .ret] ((boxed v aE).re a (d+1));rw[t0,t1]at m;have s2:step zq (lone (gR (NI tm v) [aM Co [0],.code .ret]) cs ((boxed v aE).re a (d+1)))= .next (lone (Frame.enter zq 170 #[tm.getD 0 aER,tm.getD 1 aER] .normal) (gR (NI tm v) [aM Co [0],.code .ret]::cs) ((boxed v aE).re a (d+1))):=by refine step_lone_go ?_;have e:=LB (P:=zq) (fr:=gR (NI tm v) [aM Co [0],.code .ret]) (cs:=cs) (u:=(boxed v aE).re a (d+1)) (ops:=Co) (j:=0) (rest:=[]) (k:=[.code .ret]) (o:=js) rfl rfl rfl rfl rfl aE;have J:stepG zq aE {frame:=gR (NI tm v) [aM Co [0],.code .ret],callers:=cs,status:= .running,dying:=aB} ((boxed v aE).re a (d+1))=_:=e;rw[J];unfold stepG.apply;simp only[zCq];rw[m];rfl
 obtain⟨e,w',g,⟨⟨x,C⟩,D⟩,b,B,f⟩:=h (gR (NI tm v) [aM Co [0],.code .ret]::cs);subst C;have p:=b;have s:=step_leave_returned (cs:=cs) (c:=gR (NI tm v) [aM Co [0],.code .ret]) f;have F:(gR (NI tm v) [aM Co [0],.code .ret]).finish x=gR ((NI tm v).setIfInBounds 26 x) [aM Co [],.code .ret]:=rfl;rw[F]at s;obtain⟨Dc,i,v5,⟨z,y,w,t,r,q⟩,n⟩:=Lone.steps (Kc (cs:=cs) (tm:=(NI tm v).setIfInBounds 26 x) (u:=w'));subst z;subst y;exact⟨v5,Dc,D,Steps.trans s1 (.head s2 (Steps.trans p (.head s n))),q,⟨w,t,r,Qz.f233,by rw[q];exact Qz.func233,results_none (Q:=zq) (fn:=Qz.f233) rfl Dc.tmps v5⟩⟩
end
end Go.Proofs
