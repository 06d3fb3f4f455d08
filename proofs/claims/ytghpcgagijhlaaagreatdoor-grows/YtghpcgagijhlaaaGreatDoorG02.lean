import Derived.Conc.Beside
import Derived.Conc.CrowdTrace
import Derived.Conc.WrSpec
import Derived.Conc.Script
import Derived.Test.YtghpcgagijhlaaaGreatDoorG01
set_option linter.all false
set_option maxRecDepth 100000
set_option maxHeartbeats 16000000
open Option renaming some->aA,none->aB
open Bool renaming true->aF,false->aG
open Or renaming inl->aH,inr->aI
open Go.Ending renaming returned->aM
open Go.Item renaming inRegion->aN
open Go.Obj renaming cells->aJ
open Go.IntKind renaming u32->aP
open Array renaming replicate->Bt
open Go renaming execOp->vr,undef->ij
open Go.Next renaming value->Di,skip->Nn
open Go.Trace renaming g?->MI
open Go.Proofs.Tryz
open List renaming length->zAH,toArray->zAL
open Array renaming setIfInBounds->zAI,toList->zAM
open Go.World renaming setCell->zAJ,alloc->zAK
open Go.Proofs.Tryz renaming prog->zAN
section
variable {P:Prop}
def E9(h:P:=by show(match Q.underlying t with|some d=>pure d|none=>stuck "no such type":Sem TypeDesc).runT Q u es=_;rw[h];rfl):=h
def H7(h:P:=by simp[G]):=h
def I2(h:P:=by rfl):=h
def V5(h:P:=by exact⟨_,_,_,rfl⟩):=h
def W5(h:P:=by exact⟨rfl,rfl⟩):=h
def X5(h:P:=by exact aI ⟨_,_,_,e,.back rfl (I _).1 (I _).2.1 (I _).2.2⟩):=h
def s7(h:P:=by exact aI ⟨_,_,_,rfl,.same rfl rfl rfl⟩):=h
end
namespace Go
abbrev Av:=@Go.RowKit.Below.refl
abbrev Du:=@Go.RowKit.Below.heap_setCell
abbrev Dx:=@Go.wpList_load_row
abbrev Ei:=@Go.heap_alloc_new
abbrev Eh:=@Go.cell_of_row
abbrev Gz:=@Go.wpList_store_row
abbrev Gf:=@Go.Conc.QuitsD.value
abbrev El:=@Go.ConcN.sumTo_congr
abbrev zb (w w':World):Prop:=Go.RowKit.Below w w w'
def hid {p:Prop}(h:p):Go.RowKit.Hid p:=h
end Go
namespace Go.Tr
open Go.Conc
def blk:Loc->Option Nat
 | .cell a=>aA a.block| .obj r=>aA r|_=>aB
structure Pm where
 rd:Nat->zP
 rw:Nat->zP
 sd:Nat->zP
 at':zP
structure Pm.Ok (p:Pm):Prop where
 oa:∀{j k b},p.rw j b->p.rw k b->j=k
 oc:∀{j k b},p.rw j b->p.rd k b->j=k
 Yo:∀{j b},p.at' b->¬p.rd j b
 Ij:∀{j b},p.at' b->¬p.rw j b
 we:∀{j k b},p.sd j b->p.sd k b->j=k
 Dy:∀{j b},p.sd j b->p.at' b
def lq (p:Pm)(j:Nat)(x:Touch):Prop:= ∀b,blk x.loc=aA b->(x.kind≠.said/\x.write=aG/\(p.rd j b\/p.rw j b))\/(x.kind≠.said/\p.rw j b)\/(x.kind= .atomic/\p.at' b)\/(x.kind= .said/\p.sd j b)
structure TI (t:Trace)(p:Pm)(Live:zP):Prop where
 clean:∀said,¬Race said t
 rd:∀{j b},p.rd j b->∀i a,touchAt t i=aA a->blk a.loc=aA b->a.write=aF->Knows t j i
 rw:∀{j b},p.rw j b->∀i a,touchAt t i=aA a->blk a.loc=aA b->Knows t j i
 sd:∀{j b},p.sd j b->∀i a,touchAt t i=aA a->blk a.loc=aA b->a.kind≠.atomic->Knows t j i
 rn:∀{b},p.at' b->∀i a,touchAt t i=aA a->blk a.loc=aA b->a.kind≠.plain
 known:∀i a,touchAt t i=aA a->a.loc.isMemory=aF->Knows t 0 i\/(∃op,t[i]? =aA op/\Live op.g)\/∃b,blk a.loc=aA b/\p.at' b/\a.kind= .atomic/\(t.g? i=aA 0\/¬t.heard i)
def aMB {l}(h:l.isMemory=aF):∃b,blk l=aA b:=by cases l<;>simp_all[Loc.isMemory,blk]
section
variable {t u:Trace}{p q:Pm}{Live Li:zP}{j:Nat}
def dX {i a}(h:touchAt (t++u) i=aA a):(i<t.size/\touchAt t i=aA a)\/∃op,t.size<=i/\(t++u)[i]? =aA op/\op∈u/\op.act.touch? =aA a:=by let⟨x,c,b⟩:=touch_of h;grind[getElem?_append_cases,touchAt_of]
theorem TI.own (m:p.Ok)(h:TI t p Live)(A:∀op∈u,op.g=j)(G:j=0\/Live j\/∀i op,t.size<=i->(t++u)[i]? =aA op->∀x,op.act.touch? =aA x->x.loc.isMemory=aF->(∃b,blk x.loc=aA b/\p.at' b/\x.kind= .atomic)/\¬(t++u).heard i) (v:∀op∈u,∀x,op.act.touch? =aA x->lq p j x):TI (t++u) p Live:=by refine⟨λsaid=>noRace_append (h.clean said) A λi a hi op e b n F=> ?_,λ{k b} hk i a hi n hw=> ?_,λ{k b} hk i a hi n=> ?_,λ{k b} hk i a hi n C=> ?_,λ{b} hk i a hi n=> ?_,λi a hi y=> ?_⟩;{obtain⟨hl,y,z,D⟩:=F;let⟨c,s⟩:=aMB y;have r:=hl▸s;obtain⟨o,d,H⟩|⟨o,d⟩|⟨o,d⟩|⟨o,d⟩:=v op e b n c r;{grind[rd,rw]};{exact h.rw d i a hi s};{grind[rn]};grind[sd,Pm.Ok.Dy,rn]};{obtain⟨_,l⟩|⟨op,_,w,e,f⟩:=dX hi;{exact(h.rd hk i a l n hw).app u};.have:j=k:=by{obtain⟨_,d,_⟩|⟨_,d⟩|⟨_,d⟩|⟨_,d⟩:=v op e a f b n;{grind};{exact m.oc d hk};{exact absurd hk (m.Yo d)};grind[Pm.Ok.Dy,Pm.Ok.Yo]};grind[knows_own]};{obtain⟨_,l⟩|⟨op,_,w,e,f⟩:=dX hi;{exact(h.rw hk i a l n).app u};.have:j=k:=by{obtain⟨_,_,d|d⟩|⟨_,d⟩|⟨_,d⟩|⟨_,d⟩:=v op e a f b n;{exact(m.oc hk d).symm};{exact m.oa d hk};{exact m.oa d hk};{exact absurd hk (m.Ij d)};grind[Pm.Ok.Dy,Pm.Ok.Ij]};grind[knows_own]};{obtain⟨_,l⟩|⟨op,_,w,e,f⟩:=dX hi;{exact(h.sd hk i a l n C).app u};.have:j=k:=by{obtain⟨_,_,d|d⟩|⟨_,d⟩|⟨o,d⟩|⟨_,d⟩:=v op e a f b n;{exact absurd d (m.Yo (m.Dy hk))};{exact absurd d (m.Ij (m.Dy hk))};{exact absurd d (m.Ij (m.Dy hk))};{grind};{exact m.we d hk}};grind[knows_own]};{obtain⟨_,l⟩|⟨op,_,w,e,f⟩:=dX hi;{exact h.rn hk i a l n};.intro B;obtain⟨_,_,d|d⟩|⟨_,d⟩|⟨o,d⟩|⟨o,d⟩:=v op e a f b n;{exact m.Yo hk d};{exact m.Ij hk d};{exact m.Ij hk d};all_goals grind};.obtain⟨hl,l⟩|⟨op,E,w,e,f⟩:=dX hi;{grind[known,Knows.app,g?_old,heard_old]};grind[knows_own]
def TI.to (h:TI t p Live)(f:∀j b,q.rd j b->(p.rd j b\/p.rw j b)\/∀i a,touchAt t i=aA a->blk a.loc≠aA b) (e:∀j b,q.rw j b->p.rw j b\/∀i a,touchAt t i=aA a->blk a.loc≠aA b) (d:∀j b,q.sd j b->(p.sd j b\/p.rw j b)\/∀i a,touchAt t i=aA a->blk a.loc≠aA b) (g:∀b,q.at' b->p.at' b\/∀i a,touchAt t i=aA a->blk a.loc≠aA b) (c:∀b,p.at' b->q.at' b) (hl:∀j,Live j->Li j):TI t q Li:=by refine⟨h.clean,λ{k b} hk i a hi hb hw=> ?_,λ{k b} hk i a hi hb=> ?_,λ{k b} hk i a hi hb l=> ?_,λ{b} hk i a hi hb=> ?_,λi a hi m=> ?_⟩;{grind[rd,rw]};{grind[rw]};{grind[sd,rw]};{grind[rn]};grind[known]
def TI.Vn (h:TI t p Live)(G:∀op∈u,op.act.touch? =aB) (A:∀j b,q.rd j b->p.rd j b\/p.rw j b\/(∃k,(p.rd k b\/p.rw k b)/\∀i,Knows t k i->Knows (t++u) j i)\/∀i a,touchAt t i=aA a->blk a.loc≠aA b) (w:∀j b,q.rw j b->p.rw j b\/(∃k,p.rw k b/\∀i,Knows t k i->Knows (t++u) j i)\/∀i a,touchAt t i=aA a->blk a.loc≠aA b) (v:∀j b,q.sd j b->p.sd j b\/(∃k,p.sd k b/\∀i,Knows t k i->Knows (t++u) j i)\/∀i a,touchAt t i=aA a->blk a.loc≠aA b) (E:∀b,q.at' b->p.at' b\/∀i a,touchAt t i=aA a->blk a.loc≠aA b) (l:∀b,p.at' b->q.at' b) (hl:∀j,Live j->Li j\/∀i op a,t[i]? =aA op->op.g=j->touchAt t i=aA a->Knows (t++u) 0 i):TI (t++u) q Li:=by have old:∀{i a},touchAt (t++u) i=aA a->i<t.size/\touchAt t i=aA a:=λ{i a} hi=>by{obtain x|⟨op,_,_,d,c⟩:=dX hi;all_goals grind};refine⟨λsaid=>(by rintro⟨i,j,m,⟨a,b,F,f,D⟩,s,r⟩;obtain⟨hi,o⟩|⟨op,_,_,d,c⟩:=dX F;{obtain⟨H,n⟩|⟨op,_,_,d,c⟩:=dX f;{exact(h.clean said) ⟨i,j,m,⟨a,b,o,n,D⟩,λe=>s (hb_app u e),λe=>r (hb_app u e)⟩};exact ji};grind),λ{k b} hk i a hi f hw=> ?_,λ{k b} hk i a hi f=> ?_,λ{k b} hk i a hi f B=> ?_,λ{b} hk i a hi f=> ?_,λi a hi C=> ?_⟩;{grind[rw,rd,Knows.app]};{grind[rw,Knows.app]};{grind[sd,Knows.app]};{grind[rn]};.obtain⟨hlt,hi⟩:=old hi;obtain x|⟨op,x,y⟩|⟨b,x,y,z⟩:=h.known i a hi C;{exact aH (x.app u)};{exact ji};.exact aI (aI ⟨b,x,l b y,z.1,by rw[g?_old hlt,heard_old hlt];exact z.2⟩)
def LD {s r c k cap x1 x2 x3 x4}(a:x1.g=s/\x1.act= .send c k)(l:x2.g=r/\x2.act= .recv c k cap)(o:x3.g=s)(e:x3.act= .sendDone c k)(d:x4.g=r/\x4.act= .recvDone c k) (hs:Deaf t s=0) (f:Deaf t r=0) {i} (h:Knows t s i):Knows (t++ #[x1,x2,x3,x4]) r i:=by have b:(t++ #[x1,x2,x3,x4])[t.size]? =aA x1:=by{grind};have p2:(t++ #[x1,x2,x3,x4])[t.size+1]? =aA x2:=by{grind};have p3:(t++ #[x1,x2,x3,x4])[t.size+2]? =aA x3:=by{simp_all};have p4:(t++ #[x1,x2,x3,x4])[t.size+3]? =aA x4:=by{simp_all};have n:(t++ #[x1,x2,x3,x4]).heard t.size:=⟨s,by simp[MI,a.1],by rw[deaf_old (je _)];exact hs⟩;have m:(t++ #[x1,x2,x3,x4]).heard (t.size+3):=by{refine⟨r,by simp[MI,d.1],?_⟩;rw[deaf_succ p3,deaf_succ p2,deaf_succ b,deaf_old (je _)];simp only[deafStep,a.2,l.2,e];exact f};exact⟨t.size+3,x4,p4,d.1,aI ((h.hb_new (je _) b a.1).trans (.single (aI ⟨.handOver (by rw[act?_of b,a.2]) (by rw[act?_of p4,d.2]),n,m⟩)))⟩
theorem UH {c i a r x}(b:x.g=r/\x.act= .recvClosed c)(e:t.act? a=aA (.close c))(hh:t.heard a)(f:Deaf t r=0)(h:Before t i a):Knows (t++ #[x]) r i:=by have d:(t++ #[x])[t.size]? =aA x:=by{grind};have hlt:=lt_of_act? e;have k:(t++ #[x]).heard t.size:=⟨r,by simp[MI,b.1],by rw[deaf_old (je _)];exact f⟩;refine⟨t.size,x,d,b.1,aI ((h.app #[x]).hb (.single (aI ⟨.closed ((act?_old hlt)▸e) (by rw[act?_of d,b.2]),?_,k⟩)))⟩;exact(heard_old hlt).2 hh
def TI.dw {tS B}(h:Past tS B t){S}(w:∀l,tS l->∃b,blk l=aA b/\S b)(A:∀b,S b->∀i a,touchAt t i=aA a->blk a.loc=aA b->a.kind≠.plain)
  (C:∀l b,blk l=aA b->S b->tS l):
  TI t ⟨λ_ _=>False,λj b=>j=0/\¬S b,λ_ _=>False,S⟩ (λ_=>False):=by
 refine⟨h.clean,by grind,λ{k b} n i a hi m=> ?_,by grind,by assumption,λi a hi e=> ?_⟩
 .obtain⟨rfl,n⟩:=n;have e:a.loc.isMemory=aF:=by{cases hl:a.loc<;>rw[hl]at m<;>simp_all[blk,Loc.isMemory]};grind[Past.known]
 .obtain x|⟨x,y⟩:=h.known i a hi e
  .exact aH x
  .obtain⟨F,E,D⟩:=w _ x;by_cases hh:t.g? i=aA 0\/¬t.heard i
   .grind
   .have f:=Dv λz=>hh (aI z);obtain⟨op,d,r⟩:=touch_of hi;have v:t.g? i=aA op.g:=by{simp[MI,d]};obtain⟨j,s,m⟩:=h.over i op.g v (by grind) ⟨a,hi,e,aI f⟩;obtain⟨z,o,c⟩:=Gh.1 s;exact aH ⟨j,z,o,c,aI m⟩
def TI.past {B}(h:TI t p (λ_=>False))(n:Deaf t 0=0)(hs:∀op∈t,op.act.low B):Past (λl=>∃b,blk l=aA b/\p.at' b) B t:=by refine⟨h.clean,λi a hi f=> ?_,λi g m k o=> ?_,n,hs⟩;{grind[known]};.obtain⟨a,r,f,A⟩:=o;obtain⟨q,z,e,c,d⟩|⟨_,_,x⟩|⟨b,y,w,v,s⟩:=h.known i a r f;{refine⟨q,by simp[MI,e,c],?_⟩;obtain rfl|d:=d;{rw[MI,e]at m;exact ji};.exact d};all_goals grind
end
end Go.Tr
namespace Go.Ren
open Go.Conc (G)
inductive Tree where
 |leaf
 |node (ch:zW->Tree)
def Tree.Lt (a b:Tree):Prop:=∃ch w,b= .node ch/\a=ch w
def Tree.nat:Nat->Tree
 |0=> .leaf|n+1=> .node λ_=>Tree.nat n
structure cD (rd rw:zP)(w w₁:zW):Prop where
 cY:∀b,rd b\/rw b->w₁.heap[b]? =w.heap[b]?
 size:w.heap.size<=w₁.heap.size
 tape:w₁.tape=w.tape
 os:w₁.os=w.os
 output:w₁.output=w.output
structure Does (rw:zP)(w w':zW):Prop where
 keep:∀b,b<w.heap.size->¬rw b->w'.heap[b]? =w.heap[b]?
 size:w.heap.size<=w'.heap.size
 tape:w'.tape=w.tape
 os:w'.os=w.os
 output:w'.output=w.output
def grown (rw:zP)(w w':zW):zP:=λb=>rw b\/(w.heap.size<=b/\b<w'.heap.size)
def Is (rd rw:zP)(e:Event):Prop:=(∃a wr s,e=⟨.cell a,wr,s⟩/\(rw a.block\/(wr=aG/\rd a.block)))\/(∃r s,e=⟨.obj r,aG,s⟩/\(rw r\/rd r))\/e.loc= .mark .noRoom\/e.loc= .output\/∃f,e.loc= .mark (.extern f)
def cD.refl (rd rw)(w):cD rd rw w w:=⟨λ_ _=>rfl,je _,rfl,rfl,rfl⟩
theorem cD.trans {rd rw:zP}{a b c:zW}(h:cD rd rw a b)(k:cD rd rw b c):cD rd rw a c:= ⟨λx d=>(k.cY x d).trans (h.cY x d),Az h.size k.size,k.tape.trans h.tape,k.os.trans h.os,k.output.trans h.output⟩
def dR (P:zZ)(main:Bool)(J:zW->Prop)(S:(zP)->(zP)->zU):Tree->(zP)->(zP)->zU
 | .leaf,rd,rw,g,w=>∀a,cD rd rw w a->J a->S rd rw g a| .node ch,rd,rw,g,w=>g.status= .running/\∀a,cD rd rw w a->J a->∃c b d,stepG P main g a= .go c b d/\Does rw a b/\(∀e∈d,Is rd (grown rw a b) e)/\dR P main J S (ch a) rd (grown rw a b) c b
section
variable {P:zZ}{main:Bool}{J:zW->Prop}{S:(zP)->(zP)->zU}
def dR.rely:∀{tr:Tree}{rd rw:zP}{g:zH}{w w₁:zW},dR P main J S tr rd rw g w->cD rd rw w w₁->dR P main J S tr rd rw g w₁
 | .leaf,_,_,_,_,_,h,r=>λa b j=>h a (r.trans b) j| .node _,_,_,_,_,_,h,r=>⟨h.1,λa b j=>h.2 a (r.trans b) j⟩
def dR.mono {c:(zP)->(zP)->zU}(b:∀rd rw g w,S rd rw g w->c rd rw g w):∀{tr:Tree}{rd rw:zP}{g:zH}{w:zW},dR P main J S tr rd rw g w->dR P main J c tr rd rw g w
 | .leaf,_,_,_,_,h=>λa r j=>b _ _ _ _ (h a r j)| .node ch,_,_,_,_,h=>⟨h.1,λa r j=>let⟨k,d,es,h1,i,f,e⟩:=h.2 a r j;⟨k,d,es,h1,i,f,e.mono b⟩⟩
def dR.step {rd rw g w}(c:g.status= .running) (h:∀w₁,cD rd rw w w₁->J w₁->∃a w' es,stepG P main g w₁= .go a w' es/\Does rw w₁ w'/\(∀e∈es,Is rd (grown rw w₁ w') e)/\∃tr,dR P main J S tr rd (grown rw w₁ w') a w'):∃tr,dR P main J S tr rd rw g w:=by have d:∀w₁:zW,∃tr:Tree,cD rd rw w w₁->J w₁->∃a w' es,stepG P main g w₁= .go a w' es/\Does rw w₁ w'/\(∀e∈es,Is rd (grown rw w₁ w') e)/\dR P main J S tr rd (grown rw w₁ w') a w':=λw₁=>by{by_cases b:cD rd rw w w₁/\J w₁;{let⟨a,w',es,k,j,i,tr,f⟩:=h w₁ b.1 b.2;exact⟨tr,ji⟩};{exact⟨.leaf,ji⟩}};exact⟨.node λw₁=>Classical.choose (d w₁),c,ji⟩
def dR.bind {b:(zP)->(zP)->zU}(a:∀rd rw g w,(∀w₁,cD rd rw w w₁->J w₁->S rd rw g w₁)->∃tr,dR P main J b tr rd rw g w): ∀{tr:Tree}{rd rw:zP}{g:zH}{w:zW},dR P main J S tr rd rw g w->∃tr,dR P main J b tr rd rw g w
 | .leaf,_,_,_,_,h=>a _ _ _ _ h| .node ch,_,_,_,_,h=>dR.step h.1 λw₁ r j=>let⟨i,c,es,h1,f,e,d⟩:=h.2 w₁ r j;⟨i,c,es,h1,f,e,d.bind a⟩
end
theorem dW (rw)(w):grown rw w w=rw:=by funext b;apply propext;constructor;{rintro(h|⟨h1,a⟩);all_goals omega};.exact aH
def Does.refl (rw)(w):Does rw w w:=⟨λ_ _ _=>rfl,je _,rfl,rfl,rfl⟩
def CI {P:zZ}{main:Bool}{J:zW->Prop}{R:zW->zW->Prop}{rd rw:zP}{Stop:zU}(c:∀w w₁,cD rd rw w w₁->J w₁->R w w₁): ∀{n:Nat}{g:zH}{w:zW},Go.Conc.Goes P main R Go.ConcR.DC0 Stop n g w->∃tr,dR P main J (λb a g w=>b=rd/\a=rw/\Stop g w) tr rd rw g w
 |0,g,w,h=>⟨.leaf,λw₁ r j=>⟨rfl,rfl,h w₁ (c w w₁ r j)⟩⟩|n+1,g,w,h=>by obtain h|⟨e,h⟩:=h;{exact⟨.leaf,λw₁ r j=>ji⟩};{refine dR.step e λw₁ r j=> ?_;let⟨m,d,o,l,⟨k,i⟩,f⟩:=Go.Conc.goes_elim (h w₁ (c w w₁ r j));subst k;subst i;refine⟨m,d,#[],l,Does.refl rw d,j0,?_⟩;rw[dW];exact CI c f}
section
variable {P:zZ}{Al:zF}{K:Kp}
def Hf {ρ rd rw}(g:∀b c,ρ b c->(K b/\rd c)\/(¬K b/\rw c)){e}(h:pP K ρ e):Is rd rw e:=by obtain⟨a,i,wr,s,rfl,f,j⟩|(h|h)|h|⟨r,d,s,rfl,l⟩:=h;{refine aH ⟨i,wr,s,rfl,?_⟩;obtain⟨k,x⟩|⟨_,x⟩:=g _ _ f.1;all_goals grind};{exact aI (aI (aH h))};{exact aI ji};{exact aI ji};.refine aI (aH ⟨d,s,rfl,?_⟩);exact ji
end
section
variable(P:zZ)(fs:Array Func)
def tY:∀(d:Nat)(t:zD)(b:Nat),cellHolding ⟨P.toTables,fs⟩ d t b=cellHolding P d t b
 |0,_,_=>rfl|d+1,t,b=>by unfold cellHolding;simp only[tY d];rfl
def yR:∀(d:Nat)(t:zD)(b:Nat),plainCell ⟨P.toTables,fs⟩ d t b=plainCell P d t b
 |0,_,_=>rfl|d+1,t,b=>by unfold plainCell;simp only[yR d];rfl
def yQ (c:zA)(e:zD):∀(f x s:Nat),seenCells ⟨P.toTables,fs⟩ c e f x s=seenCells P c e f x s
 |0,_,_=>rfl|f+1,x,s=>by unfold seenCells;simp only[yQ c e f,tY];rfl
def Jd (w:zW)(a)(u)(k)(t):w.seen ⟨P.toTables,fs⟩ a u k t=w.seen P a u k t:=by unfold World.seen;simp only[yQ,yR,jY];rfl
def VV (w:zW)(a)(u)(k)(t):w.viewLoad ⟨P.toTables,fs⟩ a u k t=w.viewLoad P a u k t:=by unfold World.viewLoad;simp only[Jd]
def VW:∀(d:Nat)(t:zD),tight ⟨P.toTables,fs⟩ d t=tight P d t
 |0,_=>rfl|d+1,t=>by unfold tight;simp only[VW d];rfl
def SE (w:zW)(a)(u)(k)(v)(t):w.viewStore ⟨P.toTables,fs⟩ a u k v t=w.viewStore P a u k v t:=by unfold World.viewStore;simp only[Jd,VW];rfl
def JF (w:zW)(a)(t):w.farLoad ⟨P.toTables,fs⟩ a t=w.farLoad P a t:=by unfold World.farLoad;simp only[VV]
def VY (w:zW)(a)(v)(t):w.farStore ⟨P.toTables,fs⟩ a v t=w.farStore P a v t:=by unfold World.farStore;simp only[SE]
end
def NP (P:zZ)(fs:Array Func){α:Type}(s:Sem α):Prop:=∀(w:zW)(e:zE),s.runT ⟨P.toTables,fs⟩ w e=s.runT P w e
section
variable {P:zZ}{fs:Array Func}{α β:Type}
theorem mZ (a:α):NP P fs (Pure.pure a:Sem α):=λ_ _=>rfl
def IA (h:Halt):NP P fs (.halt h:Sem α):=λ_ _=>rfl
theorem iE {s}{f:α->Sem β}(h:NP P fs s)(b:∀a,NP P fs (f a)):NP P fs (s>>=f):=λw e=>by rw[bI,bI,h w e];split;{exact b _ _ _};.rfl
theorem KW (r):NP P fs (shape r):=λ_ _=>rfl
theorem vS (a):NP P fs (frozen a):=λ_ _=>rfl
def DR {c} [Decidable c] {s t:Sem α}(h:NP P fs s)(k:NP P fs t):NP P fs (if c then s else t):=ji
def zFe (r):NP P fs (viewAt r):=by refine iE (KW r) λs=> ?_;refine DR (mZ _) (iE (λw e=>by simp only[getObj,Sem.runT]) λo=> ?_);cases o<;>exact mZ _
def PX (a):NP P fs (noView a):=by refine iE (zFe _) λs=> ?_;exact DR (IA _) (mZ _)
def AZ (a):NP P fs (stringish a):=by refine iE (vS a) λt=> ?_;refine DR (mZ _) (iE (KW _) λs=> ?_);grind[mZ,vS]
def FU (a b):NP P fs (sameAddr a b):=by refine DR (mZ _) ?_;refine iE (vS a) λs=>iE (vS b) λt=> ?_;refine DR (IA _) ?_;refine iE (PX a) λ_=>iE (PX b) λ_=>iE (by refine iE (AZ a) λs=>iE (AZ b) λt=> ?_;grind[mZ,iE,KW]) λ_=> ?_;exact DR (iE (λ_ _=>rfl) λ_=>mZ _) (mZ _)
def BB:∀(n:Nat)(a:Addr)(acc:ByteArray),NP P fs (loadBytes a acc n)
 |0,_,_=>mZ _|n+1,a,acc=>by unfold loadBytes;refine iE (λw e=>by simp only[load,Sem.runT,JF]) λv=> ?_;cases v with|int k b=>{cases k with|u8=>exact BB n _ _|_=>exact IA _}|_=>exact IA _
end
section
variable {P:zZ}{Al:zF}{F:Kp}{α β:Type}{A:Rn->α->β->Prop}{fs:Array Func}
def bY.blind (T:Shape P fs)(Z:F.pQ=aB){π:Rn}{s:Sem α}{s':Sem β}(h:bY P Al F A π s s'):
  ∀(v w:zW)(C g:zE),bV P Al F π v w->(∃hl u G,s.runT P v C=(.halt hl u,G)/\Fatal hl)\/s'.runT ⟨P.toTables,fs⟩ w g=s'.runT P w g:=by
 intro v w C g j;induction h generalizing v w C g with
 | @load π m a H k D h hk z=>
  obtain⟨y,W,B,E,I⟩|⟨B,E⟩:=j.cell h;{simp only[Sem.runT,B,E];exact z y W I v w _ _ j}
  .obtain⟨hl,I,K⟩|⟨x,b,V,l,I,K,e5,U⟩:=j.Xf h (m== .atomic)
   .left;refine⟨hl,v,C,?_,K⟩;simp only[Sem.runT,B,I]
   .simp only[Sem.runT,B,E,I,JF,K];exact z x x U v w _ _ j
 | @store π m a H x J k D h S hk z=>
  have N:(∀(cs:zA),x≠.agg cs)->(∀(cs:zA),x≠.tuple cs)->(∀(cs:zA),J≠.agg cs)->(∀(cs:zA),J≠.tuple cs)->
    (∃hl u G,(Sem.store m a x k).runT P v C=(.halt hl u,G)/\Fatal hl)\/(Sem.store m H J D).runT ⟨P.toTables,fs⟩ w g=(Sem.store m H J D).runT P w g:=by
   intro n1 n2 n3 X
   rw[Sem.runT.eq_5 _ _ _ _ _ _ _ (λcs h=>n1 cs h) (λcs h=>n2 cs h),Sem.runT.eq_5 _ _ _ _ _ _ _ (λcs h=>n3 cs h) (λcs h=>X cs h),Sem.runT.eq_5 _ _ _ _ _ _ _ (λcs h=>n3 cs h) (λcs h=>X cs h)]
   obtain⟨y,W,B,E,I⟩|⟨B,E⟩:=j.cell h
   .simp only[B,E];by_cases hF:F a.block
    .left;rw[j.Kg h hF B];exact⟨_,_,_,rfl,j0⟩
    .rw[j.frozen h hF];cases hf:v.frozen? a with
     |true=>grind
     |false=>exact z (zAJ v a x) (zAJ w H J) _ _ (j.setCell h hF S)
   .simp only[B,E,VY];obtain⟨hl,I,K⟩|⟨v1,w1,b,V,l,I,K,e5,U,e7,e8⟩:=j.farStore h S (m== .atomic)
    .left;exact⟨hl,v,C,ji,K⟩
    .simp only[I,K];exact z v1 w1 _ _ U
  cases S with
  |agg _ _=>left;exact⟨_,_,_,rfl,j0⟩
  |tuple _ _=>left;exact⟨_,_,_,rfl,j0⟩
  |junk vb Q=>exact N j0 j0 (λcs e=>by rw[e]at Q;exact Q) (λcs e=>by rw[e]at Q;exact Q)
  |_=>exact N j0 j0 j0 j0
 | @new π c c' ty k D h hk z=>simp only[Sem.runT];exact z (more π v w) v.heap.size w (j.push h ty).ok (λ_ _ x=>aH x) (aI ⟨rfl,rfl⟩) _ _ C g (j.push h ty)
 | @marked π c c' ty k D hC h hk z=>rw[pH,pH,pH];exact z (more π v w) v.heap.size w (j.sP hC h ty).ok (λ_ _ x=>aH x) (aI ⟨rfl,rfl⟩) _ _ C g (j.sP hC h ty)
 | @view π x J k D h hk z=>simp only[Sem.runT];exact z (more π v w) v.heap.size w (j.AT h).ok (λ_ _ x=>aH x) (aI ⟨rfl,rfl⟩) _ _ C g (j.AT h)
 | @getObj π r M k D h hk z=>
  obtain⟨c,c',ty,fr,fr',O,R,_⟩|⟨_,o,O,R,L⟩|⟨x,J,O,R,L⟩:=j.blk _ _ h;{left;exact⟨.stuck "getObj: a row of cells",v,C,by simp only[Sem.runT,O],j0⟩}
  .have B:(Sem.getObj r k).runT P v C=(k o).runT P v (C.push ⟨.obj r,aG,o.isChan⟩):=by
    simp only[Sem.runT,O];cases o with
    |cells c t f=>exact absurd rfl (L.1 c t f)
    |_=>rfl
   have E:∀p:zZ,(Sem.getObj M D).runT p w g=(D o).runT p w (g.push ⟨.obj M,aG,o.isChan⟩):=λp=>by
    simp only[Sem.runT,R];cases o with
    |cells c t f=>exact absurd rfl (L.1 c t f)
    |_=>rfl
   rw[B,E,E];exact z o o ji v w _ _ j
  .have B:(Sem.getObj r k).runT P v C=(k x).runT P v (C.push ⟨.obj r,aG,aG⟩):=by
    simp only[Sem.runT,O];cases L<;>rfl
   have E:∀p:zZ,(Sem.getObj M D).runT p w g=(D J).runT p w (g.push ⟨.obj M,aG,aG⟩):=λp=>by simp only[Sem.runT,R];cases L<;>rfl
   rw[B,E,E];exact z _ _ (aI ⟨x,J,rfl,rfl,L⟩) v w _ _ j
 | @shape π r M k D h hk z=>simp only[Sem.runT,j.shape h];exact z _ v w C g j
 | @freeze π a H n k D hF h hk z=>simp only[Sem.runT];exact z (v.freeze a n) (w.freeze H n) C g (j.freeze hF h n)
 | @frozen π a H k D hF h hk z=>simp only[Sem.runT,j.frozen h (hF _)];exact z _ v w C g j
 | @share π a H n k D h hk z=>
  rw[bI,bI,bI,BB (P:=P) (fs:=fs) n H .empty];obtain⟨hl,G,B,E⟩|⟨s,G,d,B,E,I,K⟩:=xC j n .empty C g h;{rw[B];grind}
  .rw[B,E];dsimp only;have hW:bV P Al F π (v.freeze a n) (w.freeze H n):=by
    by_cases Y:n=0;{subst Y;exact j};{exact j.Ae h (K Y).1 ji}
   exact z s (v.freeze a n) (w.freeze H n) G (g++d) hW
 | @same π a H b V k D hN h h' hk z=>rw[bI,bI,bI,FU (P:=P) (fs:=fs) H V];obtain⟨hl,G,B,E⟩|⟨t,G,d,B,E,I⟩:=XC j hN h h' C g;{rw[B];grind};{rw[B,E];exact z t v w _ _ j}
 | @choose π q k D hk z=>simp only[Sem.runT];split;{exact z 0 v w C g j};{have hl:∀i,F.upto i:=λi u hu=>ji;have e0:w.tape w.drawn=v.tape v.drawn:=j.tape 0 (hl _);have B:q.cut (w.tape w.drawn q)=q.cut (v.tape v.drawn q):=by{rw[e0]};rw[B];exact z (q.cut (v.tape v.drawn q)) {v with drawn:=v.drawn+1} {w with drawn:=w.drawn+1} C g ⟨j.ok,j.blk,λk _=>by have:=j.tape (k+1) (hl _);exact ji,j.fresh,j.low,j.os,j.rows⟩}
 | @program π k D he hk z=>simp only[Sem.runT];rw[he fs T];exact z v w C g j
 | @mark π m k D hm hk z=>simp only[Sem.runT];exact z v w _ _ j
 | @env π k D hk z=>have hs:∀(u:zW),u.sys .env=(.strings u.os.env,u):=λu=>rfl;simp only[Sem.runT,hs,j.os];exact z (.strings v.os.env) v w _ _ j
 |dead h=>simp_all
 |_=>exact j1
end
section
variable {P:zZ}{Al:zF}{F:Kp}{π:Rn}{cs' own own':zL}{v w:zW}{fs:Array Func}
theorem pY (h:Shape P fs)(fn)(es):seen ⟨P.toTables,fs⟩ fn es=seen P fn es:=by have c:∀f:zN,((⟨P.toTables,fs⟩:zZ).funcs[f]?).any (·.norace)=(P.funcs[f]?).any (·.norace):=λf=>by{obtain e|⟨a,b,i,g,_,_,_,d⟩:=h f;all_goals grind};unfold seen;exact j1
def Xq {f}(h:fs[f]? =P.funcs[f]?)(x)(k:CallKind):Frame.enter ⟨P.toTables,fs⟩ f x k=Frame.enter P f x k:=by unfold Frame.enter;rw[h]
theorem KX (h:F.pQ=aB)(u):¬iy F u:=by rintro⟨x,a,_⟩;exact ji
def nN {fr C s hl u e}(h:s.runT P v #[]=(.halt hl u,e))(b:Fatal hl):∃o u c,stepG.apply P aF fr C aB s v= .ended o u c:=by unfold stepG.apply;simp only[Cx];rw[h];obtain⟨a,rfl⟩|⟨x,rfl,hu⟩:=b;{exact V5};.cases x with|initOrder g=>grind|_=>exact V5
end
section
variable {P:zZ}{Al:zF}{F:Kp}{π:Rn}{v w:zW}
def sK (u:zW)(a:Addr):Bool:=u.frozen? a||(match u.shape? a.block with|some (_,n)=>u.frozen? {block:=a.block,off:=n}|none=>aG)
def bare (u:zW)(a:Addr):Bool:=u.shape? a.block matches aA (_,0)
def rC (u:zW)(a b:Addr):Bool:=(sK u a&&sK u b)||(sK u a&&bare u a)||(sK u b&&bare u b)
def uA (u)(a)(es):(stringish a).runT P u es=(.ok (sK u a) u,es):=by show(Sem.frozen a _).runT P u es=_;simp only[Sem.runT];unfold sK;cases h:u.frozen? a with|true=>rfl|false=>show(Sem.shape a.block _).runT P u es=_;simp only[Sem.runT];cases hu:u.shape? a.block with|none=>rfl|some x=>let⟨t,n⟩:=x;show(Sem.frozen {block:=a.block,off:=n} _).runT P u es=_;simp only[Sem.runT,Bool.false_or]
def zFl (u)(a b)(es):(mayBeOne a b).runT P u es=(.ok (rC u a b) u,es):=by unfold mayBeOne;rw[bI,uA];dsimp only;rw[bI,uA];show(Sem.shape a.block _).runT P u es=_;simp only[Sem.runT];show(Sem.shape b.block _).runT P u es=_;simp only[Sem.runT];rfl
def EG (u:zW):Bool:=(Question.extern "sameAddr.stringBytes" 2).cut (u.tape u.drawn (.extern "sameAddr.stringBytes" 2))==1
def qW (u:zW){a b:Addr}(h:a.block≠b.block)(es:zE):(sameAddr a b).runT P u es=if(u.frozen? a&&u.frozen? b)=aF then(.halt (.unsupported .addressObserved) u,es)else match(noView a).runT P u es with|(.ok _ u1,c)=>(match(noView b).runT P u1 c with|(.ok _ u2,e)=>if rC u2 a b=aF then(.ok (EG u2) {u2 with drawn:=u2.drawn+1},e)else(.ok aG u2,e)|(.halt h u2,e)=>(.halt h u2,e))|(.halt h u1,c)=>(.halt h u1,c):=by unfold sameAddr;rw[beq_false_of_ne h];simp only[Dj,Dh];show(Sem.frozen a _).runT P u es=_;simp only[Sem.runT];show(Sem.frozen b _).runT P u es=_;simp only[Sem.runT];show Sem.runT P (if(u.frozen? a&&u.frozen? b)=aF then _ else _) u es=_;cases(u.frozen? a&&u.frozen? b)with|true=>rfl|false=>simp only[Dj,Dh];rw[bI];cases(noView a).runT P u es with|mk r c=>cases r with|halt h u1=>rfl|ok _ u1=>dsimp only;rw[bI];cases(noView b).runT P u1 c with|mk r e=>cases r with|halt h u2=>rfl|ok _ u2=>dsimp only;rw[bI,zFl];dsimp only;cases rC u2 a b with|true=>rfl|false=>rfl
def Ku (Q:zZ){o:Oper}{e:Operand->zY}{op:BinOp}{t:zD}{x y:Operand}{g:zD}(hk:o.op= .binOp op t x y g)(d:op= .eql\/op= .neq){el:zD}{i:TypeInfo}(m:Q.underlying t=aA (.pointer el))(hi:Q.info? el=aA i)(hs:i.size≠0)
  {a b:Addr} (k:e x= .pointer (aA a)) (j:e y= .pointer (aA b)) (u:zW) (es:zE):
  (vr e o).runT Q u es=match(sameAddr a b).runT Q u es with
   |(.ok r u1,c)=>(.ok (.value (.bool (if op= .eql then r else !r))) u1,c)
   |(.halt h u1,c)=>(.halt h u1,c):=by
 have f:∀(u:zW)(es:zE),(Op.equal t (.pointer (aA a)) (.pointer (aA b))).runT Q u es=(sameAddr a b).runT Q u es:=λu es=>by
  show(Op.equalIn (_+1) t (.pointer (aA a)) (.pointer (aA b))).runT Q u es=_;unfold Op.equalIn;rw[bI];have l:(underlying t).runT Q u es=(.ok (.pointer el) u,es):=by unfold underlying;simp_all
  rw[l];dsimp only;rw[bI];have p:(Go.sizeOf el).runT Q u es=(.ok i.size u,es):=by
   unfold Go.sizeOf;rw[bI];have n:(typeInfo el).runT Q u es=(.ok i u,es):=by unfold typeInfo;simp_all
   exact j1
  exact ji
 unfold vr;rw[hk];dsimp only;rw[k,j];obtain rfl|rfl:=d
 .show((do let v<-(do pure (.bool (<-Op.equal t (.pointer (aA a)) (.pointer (aA b)))):Sem zY);pure (.value v)):Sem Next).runT Q u es=_;rw[bI,bI,f];cases(sameAddr a b).runT Q u es with
  |mk r c=>cases r<;>rfl
 .show((do let v<-(do pure (.bool (!(<-Op.equal t (.pointer (aA a)) (.pointer (aA b))))):Sem zY);pure (.value v)):Sem Next).runT Q u es=_;rw[bI,bI,f];cases(sameAddr a b).runT Q u es with
  |mk r c=>cases r<;>rfl
def QA {u a es e}(h:(noView a).runT P u es=(.ok () u,e))(g)(d):(noView a).runT P (u.re g d) es=(.ok () (u.re g d),e):=by have k:∀u:zW,(noView a).runT P u es=match u.shape? a.block with|some _=>(.ok () u,es)|none=>match u.heap[a.block]? with|some (aJ ..)=>(.halt (.stuck "getObj: a row of cells") u,es)|some (.view x t)=>(.halt (.unsupported (.unsafePointer "memory seen as another type")) u,es.push ⟨.obj a.block,aG,aG⟩)|some o=>(.ok () u,es.push ⟨.obj a.block,aG,o.isChan⟩)|none=>(.halt (.stuck "getObj: no such block") u,es):=λu=>by{unfold noView viewAt;rw[bI,bI];have m:(shape a.block).runT P u es=(.ok (u.shape? a.block) u,es):=rfl;rw[m];cases j:u.shape? a.block with|some x=>rfl|none=>have i:∀o,u.heap[a.block]? =aA o->(∀c t f,o≠aJ c t f)->(getObj a.block).runT P u es=(.ok o u,es.push ⟨.obj a.block,aG,o.isChan⟩):=λo l n=>by{unfold getObj;cases o<;>first|grind|(simp only[Sem.runT,l])};simp only[Option.isSome_none,Dj,Dh];rw[bI];cases hh:u.heap[a.block]? with|none=>have b:(getObj a.block).runT P u es=(.halt (.stuck "getObj: no such block") u,es):=by{unfold getObj;simp only[Sem.runT,hh]};rw[b]|some o=>cases o with|cells c t f=>have b:(getObj a.block).runT P u es=(.halt (.stuck "getObj: a row of cells") u,es):=by{unfold getObj;simp only[Sem.runT,hh]};rw[b]|_=>rw[i _ hh j0];rfl};rw[k]at h⊢;have i:(u.re g d).shape? a.block=u.shape? a.block:=rfl;have b:(u.re g d).heap=u.heap:=rfl;rw[i,b];cases j:u.shape? a.block<;>grind
theorem WA (i:bV P Al F π v w){a a'}(h:bW π a a')(hs:sK w a'=aF):sK v a=aF:=by unfold sK at hs⊢;obtain⟨c,c',ty,fr,f,d,b,g,g4,g5⟩|⟨_,o,d,b,g⟩|⟨y,p,d,b,g⟩:=i.blk _ _ h.1;{by_cases hF:F a.block;{obtain⟨e,j,_,m⟩:=g4 hF;let⟨lo,hi⟩:=fr;let⟨l,k⟩:=f;simp only[World.frozen?,World.shape?,b,JJ,De,Ev]at hs;simp only[World.frozen?,World.shape?,d,JJ,De,Ev];simp only at e j m;have:=g.size;rw[h.2.1]at hs;exact bm};.have:=g5.1 hF;subst this;simp only[World.frozen?,World.shape?,b,h.2.1,g.size]at hs;simp only[World.frozen?,World.shape?,d];exact hs};{have e:w.frozen? a'=v.frozen? a:=by{unfold World.frozen?;rw[d,b];cases o<;>first|rfl|exact absurd rfl (g.1 _ _ _)};have j:=i.shape h.1;have n:v.shape? a.block=aB:=by{unfold World.shape?;rw[d];cases o<;>first|rfl|exact absurd rfl (g.1 _ _ _)};exact ji};.have e:w.frozen? a'=aG:=by{unfold World.frozen?;rw[b];cases g<;>rfl};have n:w.shape? a'.block=aB:=by{unfold World.shape?;rw[b];cases g<;>rfl};exact ji
def RL (b:bV P Al F π v w){a a'}(h:bW π a a'):bare w a'=bare v a:=by unfold bare;rw[b.shape h.1]
theorem YM (c:bV P Al F π v w){a a' b d}(h:bW π a a')(k:bW π b d)(hs:rC w a' d=aF):rC v a b=aF:=by unfold rC at hs⊢;simp only[JJ,De,RL c h,RL c k]at hs⊢;grind[WA]
theorem zFw (i:bV P Al F π v w){a a'}(h:bW π a a')(hs:w.frozen? a'=aF):v.frozen? a=aF:=by obtain⟨c,c',ty,fr,e,d,g,b,g4,g5⟩|⟨_,o,d,g,b⟩|⟨y,p,d,g,b⟩:=i.blk _ _ h.1;{by_cases hF:F a.block;{obtain⟨n,m,_,k⟩:=g4 hF;let⟨lo,hi⟩:=fr;let⟨l,j⟩:=e;simp only[World.frozen?,g,De,Ev]at hs;simp only[World.frozen?,d,De,Ev];simp only at n m k;rw[h.2.1]at hs;exact bm};grind[bV.frozen]};{unfold World.frozen? at hs;rw[g]at hs;cases o with|cells c t f=>exact absurd rfl (b.1 c t f)|_=>cases hs};.unfold World.frozen? at hs;rw[g]at hs;cases b<;>cases hs
def Tt (t:bV P Al F π v w){a a' b n}(h:bW π a a')(k:bW π b n)(j:a.block≠b.block)(es i): (∃hl g,(sameAddr a b).runT P v es=(.halt hl v,g)/\Fatal hl)\/ ∃c d1 m r g y,(sameAddr a b).runT P (v.re c v.drawn) es=(.ok r (v.re c d1),g)/\(sameAddr a' n).runT P w i=(.ok r {w with drawn:=m},i++y)/\∀e∈y,pP F π e:=by have o:a'.block≠n.block:=λq=>j ((t.ok.inj h.1 k.1).2 q);rw[qW v j,qW w o];cases z:(v.frozen? a&&v.frozen? b)with|true=>exact aH j1|false=>have s:(w.frozen? a'&&w.frozen? n)=aG:=by{grind[zFw]};rw[s];simp only[Dj,Dh];obtain⟨hl,g,p,x⟩|⟨g,d,p,x,B⟩:=sR t h es i;{rw[p];grind};obtain⟨hl,f,r1,r2⟩|⟨f,m,r1,r2,r3⟩:=sR t k g (i++d);{rw[p];dsimp only;rw[r1];grind};right;rw[x];dsimp only;rw[r2];dsimp only;have l:∀e∈d++m,pP F π e:=by{grind};have run:∀c,(sameAddr a b).runT P (v.re c v.drawn) es=if rC v a b=aF then(.ok (EG (v.re c v.drawn)) (v.re c (v.drawn+1)),f)else(.ok aG (v.re c v.drawn),f):=λc=>by{rw[qW (v.re c v.drawn) j];have A:((v.re c v.drawn).frozen? a&&(v.re c v.drawn).frozen? b)=aG:=z;rw[A];simp only[Dj,Dh];rw[QA p c v.drawn];dsimp only;rw[QA r1 c v.drawn];rfl};cases hm:rC v a b with|false=>have u:rC w a' n=aG:=by{grind[YM]};refine⟨v.tape,v.drawn,w.drawn,aG,f,d++m,?_,?_,l⟩;all_goals simp_all|true=>cases u:rC w a' n with|false=>refine⟨λ_ _=>0,v.drawn+1,w.drawn,aG,f,d++m,?_,?_,l⟩;{rw[run,hm];rfl};simp_all|true=>refine⟨λ_=>w.tape w.drawn,v.drawn+1,w.drawn+1,EG w,f,d++m,?_,?_,l⟩;{rw[run,hm];rfl};exact ji
def qH {Q fr cs s u u1 a y}(h:s.runT Q u #[]=(.ok (.value y) u1,a)): ∃c,stepG.apply Q aF fr cs aB s u= .go (G (fr.finish y) cs) u1 c/\∀e∈c,e∈a:=by unfold stepG.apply;simp only[Cx];rw[h];refine⟨_,rfl,λe b=> ?_⟩;simp only[Lv,JO]at b;have:=Go.Conc.mem_seen b;exact ji
def Yc {fs fr fr' own own'}(hk:CQ P Al F π fr own v fr' own' w)(hq:¬tD P F fr)(GQ:∀H d,∃g1 w1 es,stepG P aF (G fr (own++[])) (v.re H d)= .go g1 w1 es):
  ∃H d d1 d2 x,Flat x/\(∀g cs,∃es,stepG P g (G fr (own++cs)) (v.re H d)= .go (G (fr.finish x) (own++cs)) (v.re H d1) es)/\
   ∀g cs,∃es,stepG ⟨P.toTables,fs⟩ g (G fr' (own'++cs)) w= .go (G (fr'.finish x) (own'++cs)) {w with drawn:=d2} es/\∀e∈es,pP F π e:=by
 unfold tD at hq;simp only[Mj]at hq;let⟨hm,ops,j,rest,k,o,ht,U,K⟩:=hq;unfold UR at K;simp only[Mj,not_or]at K;let⟨op,t,x,y,yt,s,aFF,TR,aI9,p⟩:=K;have hok:=hk.world.ok;have W:=λx hx=>hk.frame.eval hok x hx;have L:mF P Al F (aN ops (j::rest)):=hk.frame.items _ ji;let⟨n,E⟩:=L o ji;rw[s]at E n;obtain h|h|h|⟨el,i,hu,hi,hs⟩:=E.2
 .exact ji
 .exact ji
 .exact ji
 have D:op= .eql\/op= .neq:=by grind
 unfold vD at p;simp only[not_and,Mj]at p;let⟨a,b,S,O,qn⟩:=p ⟨el,hu⟩;have J:=W x (n x (by simp[Op.operands]));have I:=W y (n y (by simp[Op.operands]));rw[S]at J;rw[O]at I;obtain⟨Y,R,ha⟩:∃Y,fr'.eval x= .pointer (aA Y)/\bW π a Y:=by
  generalize fr'.eval x=z at J;cases J with
  |pointer hp=>cases hp<;>grind
 obtain⟨X,N,hb⟩:∃X,fr'.eval y= .pointer (aA X)/\bW π b X:=by
  generalize fr'.eval y=z at I;cases I with
  |pointer hp=>cases hp<;>grind
 have V:fr'.mode= .run:=by have:=hk.frame.mode;rw[hm]at this;generalize fr'.mode=m at this;cases this;rfl
 have T:fr'.todo=aN ops (j::rest)::k:=by rw[hk.frame.todo];exact ht
 have M:∀(Q:zZ)(f:zC)(g:Bool)(c:zL)(u:zW),f.mode= .run->f.todo=aN ops (j::rest)::k->stepG Q g (G f c) u=if(Region.wanted o (yielded ops f.tmps))=aF then stepG.apply Q aF f c aB (vr f.eval o) u else .go (G (f.finish ij) c) u:=λQ f g c u h1 h2=>by
  let⟨fn,tmps,todo,defers,mode,kind,round⟩:=f;dsimp only at h1 h2;subst h1;subst h2;show stepG.exec Q g aF ⟨fn,tmps,aN ops (j::rest)::k,defers,.run,kind,round⟩ c aB u=_;have M:stepG.exec Q g aF ⟨fn,tmps,aN ops (j::rest)::k,defers,.run,kind,round⟩ c aB u=
    if(((ops[j]?).map (Region.wanted · (yielded ops tmps))).getD aG)=aF then stepG.oper Q aF ⟨fn,tmps,aN ops (j::rest)::k,defers,.run,kind,round⟩ c aB u
    else .go (G (Frame.finish ⟨fn,tmps,aN ops (j::rest)::k,defers,.run,kind,round⟩ ij) c) u:=rfl
  rw[M,U];simp only[Fz,Gu];have e2:stepG.oper Q aF ⟨fn,tmps,aN ops (j::rest)::k,defers,.run,kind,round⟩ c aB u=stepG.apply Q aF ⟨fn,tmps,aN ops (j::rest)::k,defers,.run,kind,round⟩ c aB (vr (Frame.eval ⟨fn,tmps,aN ops (j::rest)::k,defers,.run,kind,round⟩) o) u:=by unfold stepG.oper;simp only[Frame.oper?,U,s]
  rw[e2]
 have ey:=funext (pU hk.frame.tmps ops);cases q:Region.wanted o (yielded ops fr.tmps)with
 |false=>refine⟨v.tape,v.drawn,v.drawn,w.drawn,ij,λAl π=>eK,λg cs=>⟨#[],?_⟩,λg cs=>⟨#[],?_,j0⟩⟩;{grind};{rw[M _ fr' g _ _ V T,ey,q];rfl}
 |true=>
  have hw:=hk.world;have hr:∀(u:zW)(es:zE),(vr fr.eval o).runT P u es=_:=λu es=>Ku P s D hu hi hs S O u es;have hr':∀(u:zW)(es:zE),(vr fr'.eval o).runT ⟨P.toTables,fs⟩ u es=_:=λu es=>Ku ⟨P.toTables,fs⟩ s D hu hi hs R N u es;obtain⟨hl,uq,q1,q2⟩|⟨H,d1,d2,r,uq,dd,q1,q2,q3⟩:=Tt hw ha hb qn #[] #[];{exfalso;let⟨g1,w1,A,B⟩:=GQ w.tape w.drawn;rw[M P fr aF _ _ hm ht,q]at B;simp only[Cx]at B;have l:=hr (v.re w.tape w.drawn) #[];rw[q1]at l;obtain⟨o2,u2,es3,Z⟩:=nN l q2;rw[Z]at B;cases B}
  .have l:=hr ((v.re w.tape w.drawn).re H (v.re w.tape w.drawn).drawn) #[];rw[q1]at l;have C:=hr' w #[];rw[FU Y X,q2]at C;refine⟨H,w.drawn,d1,d2,.bool (if op= .eql then r else !r),λAl π=> .bool _,λg cs=> ?_,λg cs=> ?_⟩
   .obtain⟨A,B,_⟩:=qH l;refine⟨A,?_⟩;rw[M P fr g _ _ hm ht,q];exact B
   .obtain⟨A,B,Z⟩:=qH C;refine⟨A,?_,λe he=>q3 e (by simpa using Z e he)⟩;rw[M _ fr' g _ _ V T,ey,q];exact B
end
section
variable {P:zZ}{Al:zF}{S:zS}{fr fr1:zC}{own own1:zL}{v v1:zW}
theorem Ends.next (h:Ends P Al S fr own v)(c:¬S fr own v){b:zT}{d:Nat}{m:Bool}{es:zE}(hs:stepG P m (G fr own) (v.re b d)= .go (G fr1 own1) v1 es):Ends P Al S fr1 own1 v1:=by cases h with|stop h=>grind|step a n h1 f i=>let⟨g,e⟩:=f b d [] m;rw[Bj,Bj,hs]at e;grind[go_inj]
def Ends.re (h:Ends P Al S fr own v)(e:∀fr own v b d,S fr own v->S fr own (v.re b d))(b)(d):Ends P Al S fr own (v.re b d):=by cases h with|stop h=>exact .stop ji|step a n h1 f c=>exact .step a n h1 j5 c
def Lone.through (p:∀K:Kp,(∀b,¬K b)->cN P Al K){T:zS}{cs:zL}(A:∀fr l v,(fr.mode= .run\/fr.defers≠[]\/l≠[])->¬T fr (l++cs) v){l:zL}{u:zW}(h:Lone P [bK] S fr l u): ∀{D:zP},Closed P Al D fr l u->Ends P Al T fr (l++cs) u->∃f d u2 D2,S f d u2/\Closed P Al D2 f d u2/\(∀b,D b->D2 b)/\Ends P Al T f (d++cs) u2:=by induction h with| @stop fr l u h=>grind| @step fr fr1 l x u u1 s a j h y=>intro D n z;obtain⟨o,w1,s,g⟩|⟨f,d,v2,q,D2,g,m,k,e,i,c⟩:=iC (cs:=[bK]) p n a aF u.tape u.drawn;{grind[iS]};.rw[iS,j]at g;obtain⟨rfl,w,rfl⟩:=go_inj g;obtain rfl:=Lo w;let⟨r,B⟩:=c u.tape u.drawn cs aF (λ_ _=>rfl);have C:u1.re u.tape (u.drawn+(u1.drawn-u.drawn))=u1:=by{have t:u.drawn+(u1.drawn-u.drawn)=u1.drawn:=bm;rw[t,<-e];rfl};grind[Ends.next]
def fF {R E l cs}(hs:fr.mode= .run\/fr.defers≠[]\/l≠[]):¬AtEnd P R E fr (l++cs) v:=by intro h;have k:∀(m:FrameMode),m≠.run->fr.mode=m->fr.defers=[]->l++cs=[]->False:=λm d j i g=>by{simp_all};obtain⟨a,x,b,_⟩|⟨a,f,c,e,_⟩:=h;{have:=b v.tape v.drawn;exact k _ j0 this.1 this.2.1 a};exact ji
end
structure Yz (fr:zC)(own:zL):Prop where
 d:fr.defers=[]
 k:fr.kind= .normal
 up:∀g∈own,g.mode= .run/\g.defers=[]/\g.kind= .normal
inductive tM (P:zZ)(Al:zF)(fr:zC)(own:zL):zH->Prop
 |same {fr1:zC} (hf:fr1.fn=fr.fn) (hd:fr1.defers=fr.defers) (hk:fr1.kind=fr.kind):tM P Al fr own (G fr1 own)
 |enter {f:zN} (ha:Al f) (xs:zA) (hm:fr.mode= .run) (hz:xs.size<=20):tM P Al fr own (G (Frame.enter P f xs .normal) (fr::own))
 |back {g g1:zC} {rest:zL} (ho:own=g::rest) (hf:g1.fn=g.fn) (hd:g1.defers=g.defers) (hk:g1.kind=g.kind):tM P Al fr own (G g1 rest)
section
variable {P:zZ}{Al:zF}{F:Kp}{fr:zC}{own:zL}{w:zW}{mn:Bool}
def qC (fr:zC)(v):(fr.finish v).fn=fr.fn/\(fr.finish v).defers=fr.defers/\(fr.finish v).kind=fr.kind:=by unfold Frame.finish;exact ji
def KJ (fr:zC)(c):(fr.raise c).fn=fr.fn/\(fr.raise c).defers=fr.defers/\(fr.raise c).kind=fr.kind:=by unfold Frame.raise;exact ji
def xW (f)(xs):(Frame.enter P f xs .normal).defers=[]/\(Frame.enter P f xs .normal).kind= .normal/\(Frame.enter P f xs .normal).fn=f:=by cases P.funcs[f]? with|none=>exact⟨rfl,rfl,rfl⟩|some fn=>cases fn.body<;>exact⟨rfl,rfl,rfl⟩
def VQ {D:zP}(p:bV P Al K0 (cO D) w w)(q:(match fr.todo with| .call _ aF _ _::_=>CallKind.wrapped|_=> .normal)= .normal)(t:fr.mode= .run){s:Sem Next}(hs:bY P Al K0 (qM Al) (cO D) s s): (∃o u j,stepG.apply P aF fr own aB s w= .ended o u j)\/∃k w1 j,stepG.apply P aF fr own aB s w= .go k w1 j/\tM P Al fr own k:=by obtain(⟨hl,u,i,e,c⟩|⟨⟨n,r,_⟩,_⟩)|⟨y,v1,w1,i,d,_,_,_,⟨a,b,e,_,g⟩|⟨x,z,e,_,_⟩⟩:=hs.runT w w #[] #[] p;{exact aH (nN e c)};{cases r};{right;unfold stepG.apply;simp only[Cx];rw[e];cases g with|value h=>have:=qC fr;exact⟨_,_,_,rfl,.same (this _).1 (this _).2.1 (this _).2.2⟩|skip=>have:=qC fr;exact⟨_,_,_,rfl,.same (this _).1 (this _).2.1 (this _).2.2⟩| @enter f c xs l A m=>have v:∀kd:CallKind,kd= .normal->tM P Al fr own (G (Frame.enter P f xs kd) (fr::own)):=by{rintro _ rfl;exact .enter c _ t m};exact⟨_,_,_,rfl,v _ q⟩};.right;unfold stepG.apply;simp only[Cx];rw[e];have:=KJ fr;exact⟨_,_,_,rfl,.same (this _).1 (this _).2.1 (this _).2.2⟩
def JG (B:cN P Al K0)(Z:∀f,¬Al (900000+f)){D}(q:Closed P Al D fr own w)(H:Yz fr own)(A:fr.mode= .run\/fr.defers≠[]\/own≠[]){v w1 es}(hs:stepG P mn (G fr own) w= .go v w1 es):tM P Al fr own v:=by have W:(∃o u es,stepG P mn (G fr own) w= .ended o u es)\/∃v w1 es,stepG P mn (G fr own) w= .go v w1 es/\tM P Al fr own v:=by{by_cases T:fr.mode= .run;{have J:=q.world;have L:=q.frame;have R:=J.ok;have M:=λx Y=>L.eval R x Y;let⟨fn,tmps,todo,defers,mode,kind,round⟩:=fr;let⟨h1,h2,h3,h4,U,h6,h7,h8,h9,O,h11⟩:=L;dsimp only at U O T;subst T;subst O;show(∃o u es,stepG.exec P mn aF ⟨fn,tmps,todo,defers,.run,kind,aB⟩ own aB w= .ended o u es)\/∃v w1 es,stepG.exec P mn aF ⟨fn,tmps,todo,defers,.run,kind,aB⟩ own aB w= .go v w1 es/\tM P Al ⟨fn,tmps,todo,defers,.run,kind,aB⟩ own v;cases todo with|nil=>exact aI ⟨_,_,_,rfl,.same rfl rfl rfl⟩|cons i k=>have hi:=U i EJ;cases i with|code c=>{cases c with|cond c a b=>{have q:=M c hi.1;unfold stepG.exec;dsimp only;generalize Frame.eval _ c=x at q⊢;obtain⟨y,q⟩:∃y,bM Al (cO D) x y:=⟨_,q⟩;cases q with|bool t=>exact aI ⟨_,_,_,rfl,.same rfl rfl rfl⟩|_=>exact ji}|exit id=>{unfold stepG.exec;dsimp only;cases he:exitTo id k with|none=>simp_all|some X=>exact s7}|goto l=>{unfold stepG.exec;dsimp only;cases he:gotoIn l k with|none=>simp_all|some X=>exact s7}|rangeFunc f p a b=>exact hi.elim|refuse V=>exact aH ⟨_,_,_,rfl⟩|region id ops draw=>{cases draw with|false=>exact aI ⟨_,_,_,rfl,.same rfl rfl rfl⟩|true=>exact s7}|_=>exact s7}|inBlock id=>exact aI ⟨_,_,_,rfl,.same rfl rfl rfl⟩|inScope b=>exact aI ⟨_,_,_,rfl,.same rfl rfl rfl⟩|inLoop b=>exact aI ⟨_,_,_,rfl,.same rfl rfl rfl⟩|inRegion ops l=>{cases l with|nil=>exact aI ⟨_,_,_,rfl,.same rfl rfl rfl⟩|cons j rest=>cases m:ops[j]? with|none=>have Q:stepG.exec P mn aF ⟨fn,tmps,aN ops (j::rest)::k,defers,.run,kind,aB⟩ own aB w= .go (G (Frame.finish ⟨fn,tmps,aN ops (j::rest)::k,defers,.run,kind,aB⟩ ij) own) w:=by{unfold stepG.exec;simp only[m,Option.map_none,Option.getD_none,Dj,Dh];rfl};rw[Q];exact s7|some o=>by_cases z:Region.wanted o (yielded ops tmps)=aF;{have Q:stepG.exec P mn aF ⟨fn,tmps,aN ops (j::rest)::k,defers,.run,kind,aB⟩ own aB w=stepG.apply P aF ⟨fn,tmps,aN ops (j::rest)::k,defers,.run,kind,aB⟩ own aB (vr (Frame.eval ⟨fn,tmps,aN ops (j::rest)::k,defers,.run,kind,aB⟩) o) w:=by{unfold stepG.exec;simp only[m,Fz,Gu,z,Cx];unfold stepG.oper;simp only[Frame.oper?,m]};rw[Q];have K:=hi o ji;exact VQ J rfl rfl (FJ B.met K (λ_ _ _ _ _ _=>aH (aI λ_ h=>h)) ((kM q.nj.2) rfl _ _ _ _ _ rfl m z) (K.nd Z) M)};.have Q:stepG.exec P mn aF ⟨fn,tmps,aN ops (j::rest)::k,defers,.run,kind,aB⟩ own aB w= .go (G (Frame.finish ⟨fn,tmps,aN ops (j::rest)::k,defers,.run,kind,aB⟩ ij) own) w:=by{unfold stepG.exec;simp only[m,Fz,Gu,z,Dj,Dh];rfl};rw[Q];exact s7}|_=>exact hi.elim};.obtain x|x|x:=A;{exact ji};{exact absurd H.d x};.obtain⟨g,rest,rfl⟩:∃g rest,own=g::rest:=by{cases own<;>grind};have N:=mS q.frame.items;have I:=qC g;have C:=KJ g;have ret:∀(y:zY)(w1:zW),doReturn P mn fr (g::rest) aB y w1= .go (G (g.finish y) rest) w1:=λy w1=>by{unfold doReturn;rw[H.k];rfl};cases n:fr.mode with|run=>grind|panicking chain=>have e:stepG P mn (G fr (g::rest)) w= .go (G (g.raise chain) rest) w:=by{simp only[stepG,G,n,unwind,H.d,N,Dj,Dh]};exact aI ⟨_,_,_,e,.back rfl (C _).1 (C _).2.1 (C _).2.2⟩|returning=>have S:stepG P mn (G fr (g::rest)) w=unwind P mn fr (g::rest) aB w:=by{simp only[stepG,G,n]};cases E:P.funcs[fr.fn]? with|none=>have e:stepG P mn (G fr (g::rest)) w= .go (G (g.finish (fr.tmps.getD 0 ij)) rest) w:=by{rw[S];simp only[unwind,H.d,n,E,ret]};exact X5|some fn=>cases s:(results fn fr.tmps).runT P w #[]with|mk r es=>cases r with|ok y w1=>have e:stepG P mn (G fr (g::rest)) w= .go (G (g.finish y) rest) w1 (seen P fr.fn es++ #[]):=by{rw[S];unfold unwind;rw[H.d];rw[n];dsimp only;rw[E];dsimp only;rw[s];dsimp only;rw[ret];rfl};exact X5|halt hl w1=>left;rw[S];unfold unwind;rw[H.d];dsimp only;rw[n];dsimp only;rw[E];dsimp only;rw[s];dsimp only;cases hl<;>exact⟨_,_,_,rfl⟩};exact ji
def tM.vt {fr1 own1}(a:Yz fr own)(h:tM P Al fr own (G fr1 own1)):Yz fr1 own1:=by generalize c:G fr1 own1=g at h;cases h with| @same m l e hk=>cases c;exact⟨e.trans a.d,hk.trans a.k,a.up⟩| @enter f o xs hm n=>cases c;have:=xW (P:=P) f xs;refine⟨this.1,this.2.1,λx b=> ?_⟩;obtain rfl|b:=Bb.1 b;{exact⟨hm,a.d,a.k⟩};{exact a.up x b}| @back g g1 rest j l e hk=>cases c;subst j;have i:=a.up g j0;exact⟨e.trans i.2.1,hk.trans i.2.2,λx b=>a.up x ji⟩
def tM.fns {fr1 own1}{p:zF}(l:∀x∈fr::own,p x.fn)(h:tM P Al fr own (G fr1 own1)):(∀x∈fr1::own1,p x.fn)\/∃f a,Al f/\¬p f/\fr1=Frame.enter P f a .normal/\own1=fr::own/\fr.mode= .run/\a.size<=20:=by generalize b:G fr1 own1=g at h;cases h with| @same j e i hk=>cases b;grind| @enter f n a hm k=>cases b;by_cases d:p f;{left;intro x c;obtain rfl|c:=Bb.1 c;{exact j5};exact ji};exact ji| @back g g1 rest m e i hk=>cases b;exact ji
end
section
variable {P:zZ}{Al:zF}{F:Kp}{π:Rn}{cs' own own':zL}{v w:zW}{fs:Array Func}
def yH (P:zZ)(fs:Array Func)(Al:zF)(n:Nat)(s s':GStep):Prop:=(s'=s/\∀g w1 e,s= .go g w1 e->zAH g.callers=n+1->fs[g.frame.fn]? =P.funcs[g.frame.fn]?)\/∃f x k callers w1 e,Al f/\x.size<=20/\(k= .normal\/Al (900000+f))/\zAH callers=n+1/\s= .go {frame:=Frame.enter P f x k,callers,status:= .running,dying:=aB} w1 e/\s'= .go {frame:=Frame.enter ⟨P.toTables,fs⟩ f x k,callers,status:= .running,dying:=aB} w1 e/\fs[f]?≠P.funcs[f]?
theorem dP {n g0 w0 e}(h:zAH g0.callers≠n+1):yH P fs Al n (.go g0 w0 e) (.go g0 w0 e):=aH ji
def Ci {n f x k C w0 a}(b:Al f)(hz:x.size<=20)(hk:k= .normal\/Al (900000+f))(hl:zAH C=n+1):yH P fs Al n (.go {frame:=Frame.enter P f x k,callers:=C,status:= .running,dying:=aB} w0 a) (.go {frame:=Frame.enter ⟨P.toTables,fs⟩ f x k,callers:=C,status:= .running,dying:=aB} w0 a):=by by_cases e:fs[f]? =P.funcs[f]?;{rw[Xq e];exact aH ⟨rfl,λg w1 c h _=>by cases h;exact e⟩};.exact aI ji
def Ox (M:Met P Al F){f0 f}(d:Al f0){cs x xs w w1 es b}(h:(invoke (.fn (.func f0) cs) x).runT P w es=(.ok (.enter f xs) w1,b)):f=f0:=by
 have e:invoke (.fn (.func f0) cs) x=callFunc f0 (x++cs):=by rfl
 rw[e]at h;have h:(match P.funcs[f0]? with
  |none=>stuck "call: no such function"
  |some fn=>if fn.name== "runtime.NumGoroutine" then pure .numGoroutine
   else if fn.body.isNone then do
    mark (.extern f0)
    if let aA e:=Extern.findNext fn then return<-e (x++cs)
    match Extern.find fn with
    |some e=>pure (.value (<-e (x++cs)))
    |none=>if fn.name.endsWith ".init"&& !fn.name.startsWith "("&& !fn.name.startsWith "gosem." then pure (.value (.tuple #[]))else unsupported (.extern fn.name)
   else pure (.enter f0 (x++cs)):Sem Next).runT P w es=(.ok (.enter f xs) w1,b):=h
 cases a:P.funcs[f0]? with
 |none=>simp_all
 |some fn=>
  rw[a]at h;dsimp only at h;have m:=beq_false_of_ne (M.name f0 fn d a);rw[m]at h;simp only[Dj,Dh]at h;cases hb:fn.body with
  |some c=>simp_all
  |none=>
   exfalso;let⟨j,ex,i,_⟩:=M.sA f0 fn d a hb;rw[hb,j,i]at h;simp only[Cx]at h;have h:(do
    mark (.extern f0)
    let y<-ex (x++cs)
    pure (Di y):Sem Next).runT P w es=(.ok (.enter f xs) w1,b):=h
   cases g:(do
    mark (.extern f0)
    ex (x++cs):Sem zY).runT P w es with
   |mk r k=>
    have l:(do
     mark (.extern f0)
     let y<-ex (x++cs)
     pure (Di y):Sem Next)=(do
     let y<-(do
      mark (.extern f0)
      ex (x++cs):Sem zY)
     pure (Di y):Sem Next):=by simp
    rw[l,bI,g]at h;cases r<;>simp_all
def UN (c:Shape P fs)(i:F.pQ=aB)(m:bV P Al F π v w){fr':zC}{C:zL}(q:(match fr'.todo with| .call _ aF _ _::_=>CallKind.wrapped|_=> .normal)= .normal){s s':Sem Next}(hs:bY P Al F (NA Al) π s s'): (∃hl u g,s.runT P v #[]=(.halt hl u,g)/\Fatal hl)\/yH P fs Al (zAH C) (stepG.apply P aF fr' C aB s' w) (stepG.apply ⟨P.toTables,fs⟩ aF fr' C aB s' w):=by obtain h|hb:=hs.blind c i v w #[] #[] m;{exact aH h};obtain(⟨hl,B,g,e,n⟩|⟨r,_⟩)|⟨z,v1,w1,g,d,h1,H,E,y⟩:=hs.runT v w #[] #[] m;{exact ji};{grind[KX]};.right;obtain⟨a,b,r1,r2,k⟩|⟨x,A,r1,r2,D⟩:=y<;>unfold stepG.apply<;>simp only[Cx]<;>rw[hb,r2];{cases k with| @enter f j o l t p=>simp only[pY c];exact Ci j (by rw[t.size];exact p) (aH q) j0|_=>simp only[pY c];exact dP H7};.simp only[pY c];exact dP H7
def zAb {cs:zL}(B:cN P Al F)(K:Shape P fs)(A:F.pQ=aB)(R:bV P Al F π v w){fr fr':zC}(T:cV P Al F π fr fr')(S:fr.mode= .run)(Q y:Bool)(hq:tD P F fr:=by first|assumption|exact BY (λ_ h=>h))(hs:rJ Al fr:=by first|assumption|exact kM (by assumption)): (∃o u M,stepG P Q (G fr cs) v= .ended o u M)\/yH P fs Al (zAH cs') (stepG P y (G fr' cs') w) (stepG ⟨P.toTables,fs⟩ y (G fr' cs') w):=by have J:=R.ok;have D:=λx hx=>T.eval J x hx;let⟨fn,tmps,todo,defers,mode,kind,round⟩:=fr;let⟨q,s,r,n,I,g,qX⟩:=fr';let⟨Z,h2,Y,X,W,h6,V,U,h9,H,E⟩:=T;dsimp only at Z h2 Y X W h6 V U h9 H E S;subst Z;subst X;subst U;subst H;subst E;subst S;cases V;show(∃o u M,stepG.exec P Q aF ⟨q,tmps,r,defers,.run,g,aB⟩ cs aB v= .ended o u M)\/yH P fs Al (zAH cs') (stepG.exec P y aF ⟨q,s,r,n,.run,g,aB⟩ cs' aB w) (stepG.exec ⟨P.toTables,fs⟩ y aF ⟨q,s,r,n,.run,g,aB⟩ cs' aB w);cases r with|nil=>exact aI (dP H7)|cons i k=>have hi:=W i EJ;cases i with|code c=>{cases c with|cond c a b=>{have L:=D c hi.1;unfold stepG.exec;dsimp only;generalize Frame.eval _ c=x at L⊢;generalize Frame.eval _ c=x' at L⊢;cases L with|bool t=>grind[dP]|_=>exact ji}|exit id=>{unfold stepG.exec;dsimp only;cases he:exitTo id k with|none=>grind|some k'=>grind[dP]}|goto l=>{unfold stepG.exec;dsimp only;cases he:gotoIn l k with|none=>grind|some k'=>grind[dP]}|rangeFunc f p a b=>exact hi.elim|refuse why=>exact aH ⟨_,_,_,rfl⟩|region id ops draw=>cases draw<;>exact aI (dP H7)|_=>exact aI (dP H7)}|inRegion ops l=>{cases l with|nil=>exact aI (dP H7)|cons j rest=>have O:∀(p:zZ)(u:zW)(c:zL)(t:zA)(d:List Deferred)(m:Bool),stepG.exec p m aF ⟨q,t,aN ops (j::rest)::k,d,.run,g,aB⟩ c aB u=if(((ops[j]?).map (Region.wanted · (yielded ops t))).getD aG)=aF then stepG.oper p aF ⟨q,t,aN ops (j::rest)::k,d,.run,g,aB⟩ c aB u else .go (G (Frame.finish ⟨q,t,aN ops (j::rest)::k,d,.run,g,aB⟩ ij) c) u:=λp u c t d m=>rfl;rw[O,O,O];have ey:=funext (pU Y ops);rw[ey];split;{rename_i hwt;cases z:ops[j]? with|none=>grind|some o=>have N:∀(p:zZ)(u:zW)(c:zL)(t:zA)(d:List Deferred),stepG.oper p aF ⟨q,t,aN ops (j::rest)::k,d,.run,g,aB⟩ c aB u=stepG.apply p aF ⟨q,t,aN ops (j::rest)::k,d,.run,g,aB⟩ c aB (vr (Frame.eval ⟨q,t,aN ops (j::rest)::k,d,.run,g,aB⟩) o) u:=λp u c t d=>by{unfold stepG.oper;simp only[Frame.oper?,z]};rw[N,N,N];obtain⟨hl,u,uq,e,C⟩|h:=UN (fr':=⟨q,s,aN ops (j::rest)::k,n,.run,g,aB⟩) K A R rfl (JV B.met (hi o ji) (hq rfl _ _ _ _ _ rfl z) (hs rfl _ _ _ _ _ rfl z ji) D);{exact aH (nN e C)};{exact aI h}};.exact aI (dP H7)}|_=>first|exact hi.elim|exact aI (dP H7)
def wN {cs:zL}(B:cN P Al F)(g:Shape P fs)(k:F.pQ=aB)(r:bV P Al F π v w){fr fr':zC}(I:cV P Al F π fr fr'){d z:Deferred}(C:NH Al π d z)(hl:∀f cs j,d=⟨.fn (.func f) cs,j⟩->Al (900000+f)): (∃o u L,callDeferred P fr cs aB d v= .ended o u L)\/yH P fs Al (zAH cs') (callDeferred P fr' cs' aB z w) (callDeferred ⟨P.toTables,fs⟩ fr' cs' aB z w):=by have H:=r.ok;have i:=JR B.met C;cases C;rename_i f0 n _ _ _ _ _ _ _;rotate_left;have h:=I.mode;generalize s:fr.mode=m at h;generalize l:fr'.mode=O at h;unfold callDeferred;rw[s,l];cases h;rotate_left 2;exact by{grind};unfold callDeferred;all_goals simp only[Md,Bool.and_false,Dj,↓reduceIte];obtain⟨hl,u,p,e,c⟩|hb:=i.blind g k v w #[] #[] r;{left;rw[e];obtain⟨q,rfl⟩|⟨u,rfl,hu⟩:=c<;>exact⟨_,_,_,rfl⟩};obtain(⟨hl,u,p,e,c⟩|⟨E,_⟩)|⟨M,v1,w1,p,T,h1,S,R,K⟩:=i.runT v w #[] #[] r;{left;rw[e];obtain⟨q,rfl⟩|⟨u,rfl,hu⟩:=c<;>exact⟨_,_,_,rfl⟩};{grind[KX]};right;obtain⟨a,b,r1,r2,y⟩|⟨x,N,r1,r2,Q⟩:=K<;>rw[hb,r2];{cases y with| @enter f t j A J D=>{simp only[pY g];first|exact Ci t (by rw[J.size];exact D) (aI (by have:=Ox B.met n r2;exact ji)) j0|cases r2}|_=>simp only[pY g];exact dP H7};.simp only[pY g];exact dP H7
def pX {cs:zL}(B:cN P Al F)(r:Shape P fs)(n:F.pQ=aB)(H:bV P Al F π v w){fr fr':zC}(g:cV P Al F π fr fr')(D:(fs[fr.fn]?).map (·.results)=(P.funcs[fr.fn]?).map (·.results))(W:gZ (cV P Al F π) own own') (A:fr.mode= .run\/fr.defers≠[]\/own≠[]) (Q j:Bool) (hq:tD P F fr:=by first|assumption|exact BY (λ_ h=>h)) (hs:rJ Al fr:=by first|assumption|exact kM (by assumption)): (∃o u es,stepG P Q (G fr (own++cs)) v= .ended o u es)\/yH P fs Al (zAH (own'++cs')) (stepG P j (G fr' (own'++cs')) w) (stepG ⟨P.toTables,fs⟩ j (G fr' (own'++cs')) w):=by by_cases J:fr.mode= .run;{exact zAb B r n H g J Q j hq hs};.have hs:=A.resolve_left J;have f:=g.mode;have X:fr'.mode≠.run:=λe=>by{rw[e]at f;generalize fr.mode=m at f J;cases f;exact J rfl};have e1:stepG P Q (G fr (own++cs)) v=unwind P Q fr (own++cs) aB v:=by{simp only[stepG,G]};have e2:∀p:zZ,stepG p j (G fr' (own'++cs')) w=unwind p j fr' (own'++cs') aB w:=λp=>by{simp only[stepG,G]};rw[e1,e2,e2];have U:=g.defers;unfold unwind;generalize hdv:fr.defers=l at U hs;generalize hdw:fr'.defers=l' at U;cases U with| @cons d d' ds V L Z=>have T:cV P Al F π {fr with defers:=ds} {fr' with defers:=V}:=⟨g.fn,g.al,g.tmps,g.todo,g.items,Z,g.mode,g.kind,g.kinds,g.round,g.qX⟩;have:=wN (cs:=own++cs) (cs':=own'++cs') B r n H T L.rel (by grind[GH.lets]);let⟨L,_⟩:=L;cases L<;>assumption|nil=>cases W with|nil=>grind| @cons c c' O E hc W=>generalize hfm:fr.mode=m at f J;generalize Y:fr'.mode=m' at f;cases f with|run=>grind|panicking hl=>right;have K:∀i∈fr'.todo,mF P Al F i:=by{rw[g.todo];exact g.items};rw[mS K];have:fr'.catches ⟨P.toTables,fs⟩=aG:=by{unfold Frame.catches;split;{rename_i ht;exact False.elim ((λi k (e:fr'.todo=i::k)=>K i (e▸EJ)) _ _ ht)};{rfl}};grind[dP]|returning=>rw[g.fn];cases z:P.funcs[fr.fn]? with|none=>{rw[z]at D;cases t:fs[fr.fn]? with|some y=>grind|none=>right;unfold doReturn;grind[dP,cV.kind,cV.kinds]}|some fn=>rw[z]at D;cases t:fs[fr.fn]? with|none=>grind|some M=>rw[t]at D;have I:M.results=fn.results:=ji;have C:∀S,results M S=results fn S:=λS=>by{unfold results;rw[I]};dsimp only;rw[C];have s:=iV (F:=F) fn (ok:=H.ok) g.tmps;obtain⟨hl,u,N,e,q⟩|hb:=s.blind r n v w #[] #[] H;{left;rw[e];obtain⟨R,rfl⟩|⟨u,rfl,hu⟩:=q;{exact V5};.exact V5};.obtain(⟨hl,u,N,e,q⟩|⟨hov,_⟩)|⟨ρ,v1,w1,N,dd,L,Z,h3,h4⟩:=s.runT v w #[] #[] H;{left;rw[e];obtain⟨R,rfl⟩|⟨u,rfl,hu⟩:=q;{exact V5};.exact V5};{grind[KX]};.obtain⟨a,b,r1,r2,qn⟩|⟨x,x',r1,r2,hx⟩:=h4;{right;rw[hb,r2];simp only[pY r];unfold doReturn;rw[g.kind];obtain e|e:=g.kinds<;>rw[e]<;>exact dP j3};.left;rw[r1];exact V5
end
def Cq (o:Option Obj):Prop:=∃x,o=aA (aJ #[.bool x] 4 (0,0))
structure kU (v u:zW):Prop where
 size:v.heap.size<=u.heap.size
 old:∀b,b<v.heap.size->u.heap[b]? =v.heap[b]?
 new:∀b,v.heap.size<=b->b<u.heap.size->Cq u.heap[b]?
def kU.refl {v}:kU v v:=⟨je _,λ_ _=>rfl,by omega⟩
def kU.trans {v u t:zW}(h:kU v u)(k:kU u t):kU v t:= ⟨Az h.size k.size,λb a=>(k.old b (Ao a h.size)).trans (h.old b a),by grind[new,Nat.lt_or_ge,old]⟩
def kU.re {v u}(h:kU v u)(b a)(d c):kU (v.re b d) (u.re a c):=⟨h.size,h.old,h.new⟩
section
variable {P:zZ}{Al:zF}{f0:zN}{pr:zA->List PanicEntry}{own:zL}{v:zW}{D:zP}
structure Zc (P:zZ)(Al:zF)(Fl:zW->Prop):Prop where
 keep:∀v u,Fl v->kU v u->Fl u
 run:∀f xs v D,Fl v->Al f->Al (900000+f)->xs.size<=20->Closed P Al D (Frame.enter P f xs .deferred) [] v->∃τ d,Lone P [bK] (λfr l u=>l=[]/\fr.mode= .returning/\fr.defers=[]/\fr.kind= .deferred/\(∃fn y,P.funcs[fr.fn]? =aA fn/\∀w,(results fn fr.tmps).runT P w #[]=(.ok y w,#[]))/\kU v u) (Frame.enter P f xs .deferred) [] (v.re τ d)
 inv:∀f xs cs w es,Al f->Al (900000+f)->(invoke (.fn (.func f) cs) xs).runT P w es=(.ok (.enter f (xs++cs)) w,es)
def Ends.dq {Fl:zW->Prop}(hB:∀K:Kp,(∀b,¬K b)->cN P Al K)(hQ:Zc P Al Fl){R:zR}{E:List PanicEntry->zW->Prop}:∀(n:Nat)(own:zL)(fr:zC)(v:zW)(D:zP)(c:List PanicEntry),(((fr::own).map λg=>g.defers.length+1).sum<=n)->Ends P Al (AtEnd P R E) fr own v->Closed P Al D fr own v->fr.mode= .panicking c->(∃p rest,c=p::rest/\p.recovered=aG)->Fl v->
  ∃u more,kU v u/\∀w d,E (c++more) (u.re w d):=by
 have Z:∀b,¬K0 b:=λb h=>h;intro n;induction n with
 |zero=>grind
 |succ n ih=>
  intro own fr v D c hn he X O M q;have V:=mS X.frame.items;cases hd:fr.defers with
  |nil=>
   cases own with
   |nil=>
    cases he with
    |stop h=>obtain⟨_,x,B,_⟩|⟨_,_,c',A,k⟩:=h;{have:=(B v.tape v.drawn).1;grind};{rw[O]at A;cases A;exact⟨v,[],.refl,ji⟩}
    |step j=>exact ji
   |cons g rest=>
    have C:stepG P aF (G fr (g::rest)) (v.re v.tape v.drawn)= .go (G (g.raise c) rest) v #[]:=by rw[iS];simp only[stepG,G,O,unwind,hd,V,Dj,Dh]
    have F:Ends P Al (AtEnd P R E) (g.raise c) rest v:=he.next (λx=>by
     obtain x|x:=x;{cases x.1}
     .cases x.1) C
    have H:∃D1,Closed P Al D1 (g.raise c) rest v:=by have B:=iC (cs:=[]) hB X ji aF v.tape v.drawn;rw[Bj,C]at B;obtain⟨o,u,I,k⟩|⟨l,nS,v2,I,D2,k,t,_⟩:=B;{cases k};{rw[Bj]at k;grind[go_inj]}
    obtain⟨D1,a⟩:=H;have hr:∃c2,(g.raise c).mode= .panicking (c++c2)/\(g.raise c).defers=g.defers:=by
     unfold Frame.raise;cases hgm:g.mode with
     |panicking ch=>grind
     |_=>exact⟨[],j0,rfl⟩
    obtain⟨c2,s,U⟩:=hr;obtain⟨u,more,A,k⟩:=ih rest (g.raise c) v D1 (c++c2) (by
     grind) F a s (by
     grind) q
    exact⟨u,c2++more,A,ji⟩
  |cons d ds=>
   have T:=X.frame.defers;rw[hd]at T;obtain⟨hrel,f,cs,i,ed,S⟩:GH Al (cO D) d d:=by cases T<;>assumption
   subst ed;obtain⟨W,hz⟩:Al f/\i.size+cs.size<=20:=by cases hrel<;>grind
   have C:stepG P aF (G fr own) (v.re v.tape v.drawn)= .go (G (Frame.enter P f (i++cs) .deferred) ({fr with defers:=ds}::own)) v (seen P fr.fn #[]++ #[]):=by rw[iS];have e0:stepG P aF (G fr own) v=unwind P aF fr own aB v:=by{simp only[stepG,G,O]};rw[e0];unfold unwind;rw[hd];unfold callDeferred;simp only[Md,Dj,↓reduceIte];rw[hQ.inv f i cs v #[] W S];rfl
   have j:fr.mode= .run\/fr.defers≠[]\/own≠[]:=by grind
   have F:Ends P Al (AtEnd P R E) (Frame.enter P f (i++cs) .deferred) ({fr with defers:=ds}::own) v:=he.next (λx=>by have:=fF (P:=P) (R:=R) (E:=E) (cs:=[]) (v:=v) j;exact ji) C
   have H:∃D1,Closed P Al D1 (Frame.enter P f (i++cs) .deferred) ({fr with defers:=ds}::own) v:=by have B:=iC (cs:=[]) hB X j aF v.tape v.drawn;rw[Bj,C]at B;obtain⟨o,u,I,k⟩|⟨l,nS,v2,I,D2,k,t,_⟩:=B;{cases k};{rw[Bj]at k;grind[go_inj]}
   obtain⟨D1,a⟩:=H;obtain⟨w,d0,hl⟩:=hQ.run f (i++cs) v D1 q W S ji ⟨a.frame,.nil,a.world,a.nj⟩;have hc':Closed P Al D1 (Frame.enter P f (i++cs) .deferred) [] (v.re w d0):=⟨a.frame,.nil,gU a.world Z w w d0 d0 (λ_ _=>rfl),a.nj⟩;obtain⟨l,l2,u2,D2,⟨e,s,U,Q,⟨fn,y,hfn,L⟩,m⟩,t,J,he2⟩:=Lone.through hB (λ_ _ _ C=>fF C) hl hc' (F.re (λ_ _ _ w d h=>h.re w d) w d0);subst e;have Y:stepG P aF (G l ({fr with defers:=ds}::own)) (u2.re u2.tape u2.drawn)= .go (G {fr with defers:=ds} own) u2 (seen P l.fn #[]++ #[]):=by rw[iS];have e0:stepG P aF (G l ({fr with defers:=ds}::own)) u2=unwind P aF l ({fr with defers:=ds}::own) aB u2:=by{simp only[stepG,G,s]};rw[e0];unfold unwind;rw[U];rw[s];rw[hfn];dsimp only;rw[L];unfold doReturn;rw[Q];rw[O];obtain⟨p,r,e,M⟩:=M;subst e;obtain⟨pv,prec,pg⟩:=p;dsimp only at M;subst M;rfl
   have N:Ends P Al (AtEnd P R E) {fr with defers:=ds} own u2:=he2.next (λx=>by
    obtain x|x:=x;{cases x.1}
    .cases x.1) Y
   have z:∀b b',cO D1 b b'->cO D2 b b':=λb b' h=>⟨h.1,J b h.2⟩;have hc3:Closed P Al D2 {fr with defers:=ds} own u2:=by
    have ho:=a.own;cases ho with
    |cons A k=>exact⟨A.mono z,k.imp λ_ _ h=>h.mono z,t.world,t.nj⟩
   obtain⟨u,more,A,k⟩:=ih own {fr with defers:=ds} u2 D2 c ji N hc3 O M (hQ.keep _ _ q m)
   exact⟨u,more,m.trans A,k⟩
def dp {Fl Ok0:zW->Prop}{un:zW->zW}(x:∀a b,Fl a->kU a b->kU (un a) (un b))(w:∀K:Kp,(∀b,¬K b)->cN P Al K)(C:Zc P Al Fl)(z:∀xs v D,xs.size<=20->Closed P Al D (Frame.enter P f0 xs .normal) [] v->Ok0 v->∃c d,Lone P [bK] (λfr l u=>l=[]/\fr.mode= .panicking (pr xs)/\fr.defers=[]/\Fl u/\kU v (un u)) (Frame.enter P f0 xs .normal) [] (v.re c d)) (n:∀xs,∃p rest,pr xs=p::rest/\p.recovered=aG) {R:zR} {E:List PanicEntry->zW->Prop} {xs:zA} (hz:xs.size<=20) (i:Closed P Al D (Frame.enter P f0 xs .normal) own v) (H:Ok0 v) (B:Ends P Al (AtEnd P R E) (Frame.enter P f0 xs .normal) own v):∃u more,kU v (un u)/\∀c d,E (pr xs++more) (u.re c d):=by have o:∀b,¬K0 b:=λb h=>h;let⟨c,d,hl⟩:=z xs v D hz ⟨i.frame,.nil,i.world,i.nj⟩ H;have r:Closed P Al D (Frame.enter P f0 xs .normal) [] (v.re c d):=⟨i.frame,.nil,gU i.world o c c d d (λ_ _=>rfl),i.nj⟩;let⟨s,I,u2,D2,⟨e,A,J,m,f⟩,g,j,q⟩:=Lone.through w (λ_ _ _ y=>fF y) hl r (B.re (λ_ _ _ c d h=>h.re c d) c d);subst e;have k:∀b t,cO D b t->cO D2 b t:=λb t h=>⟨h.1,j b h.2⟩;let⟨u,more,G,F⟩:=Ends.dq w C _ own s u2 D2 (pr xs) (je _) q ⟨g.frame,i.own.imp λ_ _ h=>h.mono k,g.world,g.nj⟩ A (n xs) m;exact⟨u,more,f.trans (x _ _ m G),F⟩
end
end Go.Ren
namespace Go.Proofs
open Go.Ren Go.Conc
def fI (tm:zA)(todo:zI):zC:={fn:=233,tmps:=tm,todo,defers:=[],mode:= .run,kind:= .normal}
def EB (xs):Frame.enter zq 233 xs .normal=fI (xs++Bt (43-xs.size) ij) [.code Qz.sY]:=by unfold Frame.enter;rw[Qz.func233];rfl
section
variable {cs:zL}{S:zS}{tm:zA}{k:zI}{v v1:zW}{ops:zQ}{j:Nat}{rest:List Nat}{o:Oper}
def KM {P fr u}(c:fr.mode= .run)(a:fr.todo=aN ops (j::rest)::k)(b:fr.roundOf=aB)(h:ops[j]? =aA o)(d:o.guard=aB)(m):stepG P m (G fr cs) u=stepG.apply P aF fr cs aB (vr fr.eval o) u:=by let⟨fn,tmps,todo,defers,mode,kind,round⟩:=fr;dsimp only at c a b;subst c;subst a;subst b;show stepG.exec P m aF ⟨fn,tmps,aN ops (j::rest)::k,defers,.run,kind,aB⟩ cs aB u=_;have f:stepG.exec P m aF ⟨fn,tmps,aN ops (j::rest)::k,defers,.run,kind,aB⟩ cs aB u=if(((ops[j]?).map (Region.wanted · (yielded ops tmps))).getD aG)=aF then stepG.oper P aF ⟨fn,tmps,aN ops (j::rest)::k,defers,.run,kind,aB⟩ cs aB u else .go (G (Frame.finish ⟨fn,tmps,aN ops (j::rest)::k,defers,.run,kind,aB⟩ ij) cs) u:=rfl;have e:Region.wanted o (yielded ops tmps)=aF:=by{unfold Region.wanted;rw[d]};rw[f,h];simp only[Fz,Gu,e,Cx];unfold stepG.oper;simp only[Frame.oper?,h]
def fT (a:ops[j]? =aA o)(g:o.guard=aB){y:zY}{b:zE}(f:(vr (fI tm (aN ops (j::rest)::k)).eval o).runT zq v #[]=(.ok (.value y) v1,b)){tm1:zA}(c:tm1=match o.dst with|some d=>zAI tm d y|none=>tm)
  (h:Lone zq cs S (fI tm1 (aN ops rest::k)) [] v1):Lone zq cs S (fI tm (aN ops (j::rest)::k)) [] v:=by
 obtain⟨i,e,_⟩:=qH f;refine Lone.step (aH rfl) ((KM rfl rfl rfl a g aF).trans e) ?_;have l:(fI tm (aN ops (j::rest)::k)).finish y=fI tm1 (aN ops rest::k):=by subst c;unfold Frame.finish fI;grind
 exact ji
def DZ (a:ops[j]? =aA o)(f:o.guard=aB)(g:o.dst=aB){b}(d:(vr (fI tm (aN ops (j::rest)::k)).eval o).runT zq v #[]=(.ok .skip v1,b)) (h:Lone zq cs S (fI tm (aN ops rest::k)) [] v1):Lone zq cs S (fI tm (aN ops (j::rest)::k)) [] v:=by have e:∃c,stepG.apply zq aF (fI tm (aN ops (j::rest)::k)) ([]++cs) aB (vr (fI tm (aN ops (j::rest)::k)).eval o) v= .go (G ((fI tm (aN ops (j::rest)::k)).finish ij) ([]++cs)) v1 c:=by{unfold stepG.apply;simp only[Cx];rw[d];exact⟨_,rfl⟩};let⟨c,e⟩:=e;refine Lone.step (aH rfl) ((KM rfl rfl rfl a f aF).trans e) ?_;have i:(fI tm (aN ops (j::rest)::k)).finish ij=fI tm (aN ops rest::k):=by{unfold Frame.finish fI;grind};exact ji
def zGp (a:ops[j]? =aA o)(f:o.guard=aB){x b}(d:(vr (fI tm (aN ops (j::rest)::k)).eval o).runT zq v #[]=(.halt (.panic x) v1,b)) (h:S {fI tm (aN ops (j::rest)::k)with mode:= .panicking [{v:=x,recovered:=aG}]} [] v1):Lone zq cs S (fI tm (aN ops (j::rest)::k)) [] v:=by have e:∃c,stepG.apply zq aF (fI tm (aN ops (j::rest)::k)) ([]++cs) aB (vr (fI tm (aN ops (j::rest)::k)).eval o) v= .go (G {fI tm (aN ops (j::rest)::k)with mode:= .panicking [{v:=x,recovered:=aG}]} ([]++cs)) v1 c:=by{unfold stepG.apply;simp only[Cx];rw[d];exact⟨_,rfl⟩};let⟨c,e⟩:=e;exact Lone.step (aH rfl) ((KM rfl rfl rfl a f aF).trans e) (.stop h)
def oE {todo t:zI}(hs:∀c,stepG zq aF (G (fI tm todo) c) v= .go (G (fI tm t) c) v #[])(h:Lone zq cs S (fI tm t) [] v):Lone zq cs S (fI tm todo) [] v:=Lone.step (aH rfl) (hs _) h
end
open Go.Ren Go.Conc Go.RowKit
def gA (tm:zA):zY:= .func (.func 158) #[(tm.getD 2 ij),(tm.getD 3 ij),(tm.getD 4 ij),(tm.getD 5 ij),(tm.getD 6 ij),(tm.getD 7 ij),(tm.getD 8 ij),(tm.getD 9 ij),(tm.getD 10 ij)] #[]
def gB (tm:zA):zY:= .func (.func 158) #[(tm.getD 11 ij),(tm.getD 12 ij),(tm.getD 13 ij),(tm.getD 14 ij),(tm.getD 15 ij),(tm.getD 16 ij),(tm.getD 17 ij),(tm.getD 18 ij),(tm.getD 19 ij)] #[]
def gC (tm:zA):zY:= .func (.func 158) #[(tm.getD 0 ij),(tm.getD 1 ij),gA tm,gB tm] #[]
def told (tm:zA):List PanicEntry:=[{v:= .iface 224 (gC tm),recovered:=aG}]
def uJ {Q t d}(h:Q.underlying t=aA d)(u)(es):(underlying t).runT Q u es=(.ok d u,es):=E9
def GY {Q t i}(h:Q.info? t=aA i)(u)(es):(typeInfo t).runT Q u es=(.ok i u,es):=by show(match Q.info? t with|some i=>pure i|none=>stuck _:Sem TypeInfo).runT Q u es=_;rw[h];rfl
def SW {Q e o f xs ys}(h:o.op= .makeFunc (.func f) xs #[])(a:xs.toList.map e=zAM ys)(u)(es):(vr e o).runT Q u es=(.ok (.value (.func (.func f) ys #[])) u,es):=by have b:xs.map e=ys:=by{apply Array.toList_inj.1;simp_all};unfold vr;rw[h];show(Result.ok (Di (.func (.func f) (xs.map e) ((#[]:Array Operand).map e))) u,es)=_;exact ji
theorem cK {tm:zA}{i j x}(h:i≠j):(zAI tm i x).getD j ij=tm.getD j ij:=j1
theorem aX {tm:zA}{i x}(h:i<tm.size):(zAI tm i x).getD i ij=x:=j1
def ng:∃i,Tryz.prog.info? 4=aA i/\i.zero=aA (.bool aG)/\i.size=1:=⟨_,rfl,rfl,rfl⟩
def Qz.info (t):zq.info? t=Tryz.prog.info? t:=by rw[Qz.jJ]
def Qz.jv:∃i,zq.info? 4=aA i/\i.zero=aA (.bool aG)/\i.size=1:=by rw[Qz.info];exact ng
def ax (T:Tables)(fs f)(t):(⟨T,fs⟩:zZ).underlying t=(⟨T,f⟩:zZ).underlying t:=rfl
def Qz.eR (t):zq.underlying t=Tryz.prog.underlying t:=by exact ax Tryz.prog.toTables (seven Tryz.prog.funcs) Tryz.prog.funcs t
def boxed (v:zW)(b:Bool):zW:={v with heap:=v.heap.push (aJ #[.bool b] 4)}
section
variable {cs:zL}{S:zS}{v:zW}
def KD (w):(do let x<-Instr.alloc 4 aF (.tuple #[]);pure (Di x):Sem Next).runT zq w #[]=(.ok (.value (.pointer (aA ⟨w.heap.size,0,aB⟩))) (boxed w aG),#[]):=by let⟨i,a,h,b⟩:=Qz.jv;simp[zeroValue,typeInfo,a,h,newRow,boxed,go_sem,Value.cells]
def Qz.aAq:zq.underlying 4=aA .bool:=by rw[Qz.eR];exact j1
def RG (w)(b)(a)(d):((boxed w b).re a d).heap[w.heap.size]? =aA (aJ #[.bool b] 4):=by show(w.heap.push _)[w.heap.size]? =_;exact j0
def MW (w)(b)(a)(d):((boxed w b).re a d).cell? w=aA (.bool b):=by unfold World.cell?;rw[RG];rfl
def Qp (w)(b c)(a)(d):zAJ ((boxed w b).re a d) w (.bool c)=(boxed w c).re a d:=by unfold World.setCell boxed World.re;congr 1;exact ji
def aMx (u)(es):(isAgg 4).runT zq u es=(.ok aG u,es):=by unfold isAgg;rw[bI];rw[uJ Qz.aAq];rfl
def aMs (u)(es):(Go.sizeOf 4).runT zq u es=(.ok 1 u,es):=by let⟨i,h,b,a⟩:=Qz.jv;unfold Go.sizeOf;rw[bI];rw[GY h];exact j1
def XE (w)(b)(a)(d)(es):(do let x<-Instr.loadAt 4 (.pointer (aA ⟨w.heap.size,0,aB⟩));pure (Di x):Sem Next).runT zq ((boxed w b).re a d) es=(.ok (.value (.bool b)) ((boxed w b).re a d),es.push ⟨.cell ⟨w.heap.size,0,aB⟩,aG,aG⟩):=by
 have e:(Instr.loadAt 4 (.pointer w)).runT zq ((boxed w b).re a d) es=(.ok (.bool b) ((boxed w b).re a d),es.push ⟨.cell w,aG,aG⟩):=by show(loadVar 4 w).runT zq ((boxed w b).re a d) es=_;unfold loadVar;rw[bI,aMx];show(Sem.load .plain w .pure).runT zq ((boxed w b).re a d) es=_;simp only[Sem.runT,MW];rfl
 exact j1
def PH (w)(b)(a)(d)(es):(do Instr.storeAt 4 (.pointer (aA ⟨w.heap.size,0,aB⟩)) (.bool aF);pure Nn:Sem Next).runT zq ((boxed w b).re a d) es=(.ok .skip ((boxed w aF).re a d),es.push ⟨.cell ⟨w.heap.size,0,aB⟩,aF,aG⟩):=by
 have h:((boxed w b).re a d).frozen? w=aG:=by unfold World.frozen?;rw[RG];rfl
 have e:(Instr.storeAt 4 (.pointer w) (.bool aF)).runT zq ((boxed w b).re a d) es=(.ok () ((boxed w aF).re a d),es.push ⟨.cell w,aF,aG⟩):=by show(storeVar 4 w (.bool aF)).runT zq ((boxed w b).re a d) es=_;unfold storeVar;rw[bI,aMs];show(Sem.store .plain w (.bool aF) (.pure ())).runT zq ((boxed w b).re a d) es=_;simp only[Sem.runT,MW,h,Qp];rfl
 exact j1
def Tx (x)(u)(es):(do let y<-Instr.makeInterface 224 x;pure (Di y):Sem Next).runT zq u es=(.ok (.value (.iface 224 x)) u,es):=by
 have e:(Instr.makeInterface 224 x).runT zq u es=(.ok (.iface 224 x) u,es):=by unfold Instr.makeInterface;rw[bI];rw[uJ ((Qz.eR 224).trans underlying224)];rfl
 exact j1
def kn (ops:zQ)(L:Array Bool):List Nat:=(List.range ops.size).filter λi=> !L.getD i aF&&((ops[i]?).map (·.after.all λe=> !Region.binds .any e||L.getD e.on aG)).getD aG
def PG (ops:zQ)(m:Bool)(n:Nat)(hz:ops.size=2:=by kernel_rfl)(d:Region.departs ops=aG:=by kernel_rfl)(a:(kn ops #[aG,aG])=[0,1]:=by kernel_rfl)(c:(kn ops #[aF,aG])=[1]:=by kernel_rfl)(b:(kn ops #[aG,aF])=[0]:=by kernel_rfl):Region.schedule m ops n=if n%2=0 then [0,1]else [1,0]:=by unfold Region.schedule;rw[d];simp only[Bool.not_false,Bool.or_true,Cx];unfold Region.linearise;rw[show Region.linearise.go .any ops ops.size n (Bt ops.size aG) []=Region.linearise.go .any ops 2 n #[aG,aG] [] by rw[hz];rfl];simp only[Region.linearise.go];unfold kn at a;rw[a];obtain h|h:=Nat.mod_two_eq_zero_or_one n;{have e:([0,1]:List Nat)[n%([0,1]:List Nat).length]? =aA 0:=by{simp[h]};rw[e];dsimp only;show(match(kn ops #[aF,aG])[n/2%(kn ops #[aF,aG]).length]? with|some i=>_|none=>_)=_;rw[c];simp[h,Nat.mod_one]};.have e:([0,1]:List Nat)[n%([0,1]:List Nat).length]? =aA 1:=by{simp[h]};rw[e];dsimp only;show(match(kn ops #[aG,aF])[n/2%(kn ops #[aG,aF]).length]? with|some i=>_|none=>_)=_;rw[b];simp[h,Nat.mod_one]
def aNf (m:Bool)(n:Nat):Region.schedule m jm n=if n%2=0 then [0,1]else [1,0]:=PG jm m n
def Eb (a:zT)(d:Nat):Nat:=(Question.order 233 1).cut (a d (.order 233 1))%2
def QI {tm k l}(a)(d)(b:(if Eb a d=0 then [0,1]else [1,0])=l)(h:Lone zq cs S (fI tm (aN jm l::k)) [] (v.re a (d+1))):Lone zq cs S (fI tm (.code (.region 1 jm aF)::k)) [] (v.re a d):=by refine Lone.step (es:= #[]) (aH rfl) ?_ h;subst b;show GStep.go (G (fI tm (aN jm (Region.schedule (zq.follows .mixedOrders) jm ((Question.order 233 1).cut (a d (.order 233 1))))::k)) ([]++cs)) (v.re a (d+1)) #[]=_;rw[aNf];rfl
def DC {tm a b k u}(h:Lone zq cs S (fI tm (.code a:: .code b::k)) [] u):Lone zq cs S (fI tm (.code (.seq a b)::k)) [] u:=oE (λc=>rfl) h
def oN {tm id ops k u}(h:Lone zq cs S (fI tm (aN ops (List.range ops.size)::k)) [] u):Lone zq cs S (fI tm (.code (.region id ops aG)::k)) [] u:=oE (λc=>rfl) h
def JE {tm ops k u}(h:Lone zq cs S (fI tm k) [] u):Lone zq cs S (fI tm (aN ops []::k)) [] u:=oE (λc=>rfl) h
def az {tm k u}(h:Lone zq cs S (fI tm k) [] u):Lone zq cs S (fI tm (.code .skip::k)) [] u:=oE (λc=>rfl) h
def yO {tm}{t:Nat}{a b k u}(c:Bool)(d:tm.getD t ij= .bool c)(h:Lone zq cs S (fI tm (.code (if c then a else b)::k)) [] u):Lone zq cs S (fI tm (.code (.cond (.tmp t) a b)::k)) [] u:=by refine oE (λcs=> ?_) h;show stepG.exec zq aF aF (fI tm (.code (.cond (.tmp t) a b)::k)) cs aB u=_;unfold stepG.exec;dsimp only[fI];rw[show Frame.eval ⟨233,tm,.code (.cond (.tmp t) a b)::k,[],.run,.normal,aB⟩ (.tmp t)= .bool c from d];cases c<;>rfl
def tm1 (tm:zA):zA:=zAI tm 20 (gA tm)
def VC (tm:zA):zA:=zAI (tm1 tm) 21 (gB tm)
def bc (tm:zA):zA:=zAI (VC tm) 22 (gC tm)
def Sy (tm:zA)(v:zW):zA:=zAI (bc tm) 23 (.pointer v)
def rtB {tm}(k)(u)(es):(vr (fI (tm1 tm) k).eval qoB).runT zq u es=(.ok (.value (gB tm)) u,es):=SW (xs:= #[.tmp 11,.tmp 12,.tmp 13,.tmp 14,.tmp 15,.tmp 16,.tmp 17,.tmp 18,.tmp 19]) (ys:= #[(tm.getD 11 ij),(tm.getD 12 ij),(tm.getD 13 ij),(tm.getD 14 ij),(tm.getD 15 ij),(tm.getD 16 ij),(tm.getD 17 ij),(tm.getD 18 ij),(tm.getD 19 ij)]) rfl (by simp[Frame.eval,fI,tm1,cK]) u es
def rtC {tm}(hz:tm.size=43)(k)(u)(es):(vr (fI (VC tm) k).eval qoC).runT zq u es=(.ok (.value (gC tm)) u,es):=by have a:(VC tm).getD 20 ij=gA tm:=by{unfold VC tm1;simp_all};have e:(VC tm).getD 21 ij=gB tm:=by{unfold VC tm1;simp_all};have c:(VC tm).getD 0 ij=tm.getD 0 ij:=by{unfold VC tm1;simp_all};have b:(VC tm).getD 1 ij=tm.getD 1 ij:=by{unfold VC tm1;simp_all};exact SW rfl (by show [(VC tm).getD 0 ij,(VC tm).getD 1 ij,(VC tm).getD 20 ij,(VC tm).getD 21 ij]=_;exact ji) u es
def Jb {tm}(hz:tm.size=43)(v):(Sy tm v).getD 23 ij= .pointer v:=by unfold Sy bc VC tm1;exact j1
def Jc {tm}(v){i}(h:i<20):(Sy tm v).getD i ij=tm.getD i ij:=by unfold Sy bc VC tm1;rw[cK bm,cK bm,cK bm,cK bm]
def Sx {tm}(hz:tm.size=43)(v):(Sy tm v).getD 22 ij=gC tm:=by unfold Sy bc VC tm1;exact j1
def nD {tm}(hz:tm.size=43)(v):(Sy tm v).size=43:=by simp[Sy,bc,VC,tm1,hz]
def EZ (a)(d){tm}(hz:tm.size=43)(h:Lone zq cs S (fI (Sy tm v) [.code (.region 1 jm aF),.code qc3]) [] ((boxed v aG).re a d)):
  Lone zq cs S (fI tm [.code Qz.sY]) [] (v.re a d):=by
 iterate 2 (refine oE (λc=>rfl) ?_)
 refine fT rfl rfl (SW (xs:= #[.tmp 2,.tmp 3,.tmp 4,.tmp 5,.tmp 6,.tmp 7,.tmp 8,.tmp 9,.tmp 10]) (ys:= #[(tm.getD 2 ij),(tm.getD 3 ij),(tm.getD 4 ij),(tm.getD 5 ij),(tm.getD 6 ij),(tm.getD 7 ij),(tm.getD 8 ij),(tm.getD 9 ij),(tm.getD 10 ij)]) rfl rfl (v.re a d) (#[])) rfl ?_;refine fT rfl rfl (rtB _ _ _) rfl ?_;refine fT rfl rfl (rtC hz _ _ _) rfl ?_;refine fT rfl rfl (KD _) rfl ?_;iterate 2 (refine oE (λc=>rfl) ?_)
 exact h
def Ap {tm}(h:tm.getD 23 ij= .pointer v)(k)(b)(a)(d):(vr (fI tm k).eval qoS).runT zq ((boxed v b).re a d) #[]=(.ok .skip ((boxed v aF).re a d),#[⟨.cell v,aF,aG⟩]):=by
 have e:vr (fI tm k).eval qoS=(do Instr.storeAt 4 (tm.getD 23 ij) (.bool aF);pure Nn:Sem Next):=by rfl
 rw[e,h,PH];rfl
def Kj {tm}(h:tm.getD 23 ij= .pointer v)(k)(b)(a)(d):(vr (fI tm k).eval qoL).runT zq ((boxed v b).re a d) #[]=(.ok (.value (.bool b)) ((boxed v b).re a d),#[⟨.cell v,aG,aG⟩]):=by
 have e:vr (fI tm k).eval qoL=(do let x<-Instr.loadAt 4 (tm.getD 23 ij);pure (Di x):Sem Next):=by rfl
 rw[e,h,XE];rfl
def Xm {tm}(k)(u):(vr (fI tm k).eval qoI).runT zq u #[]=(.ok (.value (.iface 224 (tm.getD 22 ij))) u,#[]):=by
 have e:vr (fI tm k).eval qoI=(do let y<-Instr.makeInterface 224 (tm.getD 22 ij);pure (Di y):Sem Next):=by rfl
 rw[e,Tx]
def Xk {tm x}(h:tm.getD 25 ij= .iface 224 x)(k)(u):(vr (fI tm k).eval qoP).runT zq u #[]=(.halt (.panic (.iface 224 x)) u,#[]):=by
 have e:vr (fI tm k).eval qoP=(do let y<-Instr.panic (tm.getD 25 ij);pure (Di y):Sem Next):=by rfl
 rw[e,h];rfl
def zDj {P}{fr:zC}{ops l k}(h:fr.todo=aN ops l::k):fr.catches P=aG:=by unfold Frame.catches;exact ji
def Cv (u:zW):zW:=zAJ u (0,0) (.int aP 0)
def dL (u:zW):zW:=zAJ u (0,0) (.int aP 1779033703)
def Fl (u:zW):Prop:=u.cell? (0,0)=aA (.int aP 0)
structure yB (v:zW):Prop where
 cell:v.cell? (0,0)=aA (.int aP 1779033703)
 thaw:v.frozen? (0,0)=aG
theorem cell0 {u:zW}{x:zY}(h:u.cell? (0,0)=aA x):∃c t f,u.heap[0]? =aA (aJ c t f)/\c[0]? =aA x:=by unfold World.cell? at h;exact ji
def lZ {u:zW}{x:zY}(h:u.cell? (0,0)=aA x):0<u.heap.size:=by grind[cell0]
theorem kK (u:zW)(x:zY){b:Nat}(h:b≠0):(zAJ u (0,0) x).heap[b]? =u.heap[b]? :=kA _ (Dp h)
def kZ (u:zW)(x:zY){c:zA}{t:zD}{f:Nat×Nat}(h:u.heap[0]? =aA (aJ c t f)):(zAJ u (0,0) x).heap[0]? =aA (aJ (zAI c 0 x) t f):=by show(u.heap.modify 0 _)[0]? =_;exact ji
theorem mM (u:zW)(x:zY):(zAJ u (0,0) x).heap.size=u.heap.size:=j0
def OT {v:zW}(h:v.cell? (0,0)=aA (.int aP 1779033703)):dL (Cv v)=v:=by let⟨c,t,f,e,b⟩:=cell0 h;have a:(dL (Cv v)).heap=v.heap:=by{apply GI;intro i;by_cases hi:i=0;{subst hi;unfold dL Cv;rw[kZ _ _ (kZ _ _ e),e];congr 2;grind};{unfold dL Cv;grind[kK]}};show({v with heap:=(dL (Cv v)).heap}:zW)=v;rw[a]
def Xa {v:zW}{x:zY}(h:v.cell? (0,0)=aA x):Fl (Cv v):=by let⟨c,t,f,e,a⟩:=cell0 h;let⟨hlt,_⟩:=Ax.1 a;unfold Fl World.cell? Cv;rw[kZ _ _ e];simp[hlt]
def jQ {v u:zW}(h:u.heap[0]? =v.heap[0]?):u.cell? (0,0)=v.cell? (0,0)/\u.frozen? (0,0)=v.frozen? (0,0):=by unfold World.cell? World.frozen?;exact ji
def ew {a b:zW}(h:Fl a)(i:kU a b):kU (dL a) (dL b):=by have l:=lZ h;let⟨c,t,f,e,_⟩:=cell0 h;unfold dL;refine⟨by rw[mM,mM];exact i.size,λx g=> ?_,λx k j=> ?_⟩;{rw[mM]at g;by_cases d:x=0;{subst d;rw[kZ _ _ e,kZ _ _ ((i.old 0 g).trans e)]};grind[kK,kU.old]};grind[kU.new,kK,mM]
def MX {v:zW}(h:0<v.heap.size)(b:Bool)(a:zT)(d:Nat):((boxed v b).re a d).heap[0]? =v.heap[0]? :=by show(v.heap.push _)[0]? =_;exact ji
def Sz:∃i,Tryz.prog.info? 135=aA i/\i.size=1:=⟨_,rfl,rfl⟩
def Qz.Vu:zq.underlying 135=aA (.int aP):=by rw[Qz.eR];exact j1
def XF (u:zW)(x:zY)(h:u.cell? (0,0)=aA x):(do let y<-Instr.loadAt 135 (.pointer (0,0));pure (Di y):Sem Next).runT zq u #[]=(.ok (.value x) u,#[⟨.cell (0,0),aG,aG⟩]):=by
 have e:(Instr.loadAt 135 (.pointer (0,0))).runT zq u #[]=(.ok x u,#[⟨.cell (0,0),aG,aG⟩]):=by show(loadVar 135 (0,0)).runT zq u #[]=_;unfold loadVar isAgg;rw[bI,bI,uJ Qz.Vu];simp_all
 exact j1
theorem aMz (u:zW)(h:u.cell? (0,0)=aB){p:zD×Nat}(hs:u.shape? 0=aA p):∃hl,Go.Ren.Fatal hl/\∃b g,(do let y<-Instr.loadAt 135 (.pointer (0,0));pure (Di y):Sem Next).runT zq u #[]=(.halt hl b,g):=by
 have d:∃hl,Go.Ren.Fatal hl/\u.farLoad zq (0,0) aG= .error hl:=by unfold World.shape? at hs;unfold World.farLoad;split at hs;{rename_i c t f e;rw[e];refine⟨_,aH ⟨ "load: no such cell",?_⟩,rfl⟩;unfold World.noCell;grind};{cases hs}
 let⟨hl,i,a⟩:=d;have e:(Instr.loadAt 135 (.pointer (0,0))).runT zq u #[]=(.halt hl u,#[]):=by show(loadVar 135 (0,0)).runT zq u #[]=_;unfold loadVar isAgg;rw[bI,bI,uJ Qz.Vu];show(Sem.load .plain (0,0) .pure).runT zq u #[]=_;have a:u.farLoad zq (0,0) (Mode.plain==Mode.atomic)= .error hl:=a;simp only[Sem.runT,h,a]
 exact j1
def Tw (u:zW)(es:zE):(Go.sizeOf 135).runT zq u es=(.ok 1 u,es):=by let⟨i,h,a⟩:=Sz;unfold Go.sizeOf;rw[bI,GY ((Qz.info 135).trans h)];exact j1
def PI (u:zW)(x:zY)(h:u.cell? (0,0)=aA x):(do Instr.storeAt 135 (.pointer (0,0)) (.int aP 0);pure Nn:Sem Next).runT zq u #[]=if u.frozen? (0,0)=aF then(.halt (.unsupported (.unsafePointer "a write to bytes that a string shares")) u,#[])else(.ok .skip (Cv u),#[⟨.cell (0,0),aF,aG⟩]):=by
 have e:(Instr.storeAt 135 (.pointer (0,0)) (.int aP 0)).runT zq u #[]=if u.frozen? (0,0)=aF then(.halt (.unsupported (.unsafePointer "a write to bytes that a string shares")) u,#[])else(.ok () (Cv u),#[⟨.cell (0,0),aF,aG⟩]):=by show(storeVar 135 (0,0) (.int aP 0)).runT zq u #[]=_;unfold storeVar;rw[bI,Tw];show(Sem.store .plain (0,0) (.int aP 0) (.pure ())).runT zq u #[]=_;simp only[Sem.runT,h];split;{rfl};{rfl}
 rw[bI,e];by_cases a:u.frozen? (0,0)=aF;all_goals simp_all
def gn {tm:zA}(k:zI)(u:zW):(vr (fI tm k).eval qoV).runT zq u #[]=(.ok (.value (.bool (u.shape? 0).isNone)) u,#[]):=I2
theorem Aq {tm:zA}(k:zI):vr (fI tm k).eval qoX=(do let y<-Instr.loadAt 135 (.pointer (0,0));pure (Di y):Sem Next):=I2
def QU {tm:zA}(k:zI):vr (fI tm k).eval qoZ=(do Instr.storeAt 135 (.pointer (0,0)) (.int aP 0);pure Nn:Sem Next):=I2
def Xl {tm:zA}{a:Int}(h:tm.getD 28 ij= .int aP a)(k:zI)(u:zW):(vr (fI tm k).eval tf).runT zq u #[]=(.ok (.value (.bool (decide (a<=1779033703)))) u,#[])/\(vr (fI tm k).eval qoW).runT zq u #[]=(.ok (.value (.bool (decide (a≥1779033703)))) u,#[]):=by
 have e:∀(op:BinOp)(o:Oper),o.op= .binOp op 135 (.tmp 28) (.const (.int aP 1779033703)) 135->vr (fI tm k).eval o=(do pure (Di (<-(do eqGuard op 135 (.tmp 28) (.const (.int aP 1779033703)) (tm.getD 28 ij) (.int aP 1779033703);binOp op 135 (tm.getD 28 ij) (.int aP 1779033703):Sem zY))):Sem Next):=λop o b=>by unfold vr;rw[b];rfl
 rw[e .leq tf rfl,e .geq qoW rfl,h];exact W5
def qu {tm:zA}(h:∀a,tm.getD 28 ij≠.int aP a)(k:zI)(u:zW):∃hl,Go.Ren.Fatal hl/\∃b d,(vr (fI tm k).eval tf).runT zq u #[]=(.halt hl b,d):=by
 have e:vr (fI tm k).eval tf=(do pure (Di (<-(do eqGuard .leq 135 (.tmp 28) (.const (.int aP 1779033703)) (tm.getD 28 ij) (.int aP 1779033703);binOp .leq 135 (tm.getD 28 ij) (.int aP 1779033703):Sem zY))):Sem Next):=by rfl
 rw[e];generalize tm.getD 28 ij=y at h;cases y with
 |int c a=>cases c<;>first|exact(h a rfl).elim|exact⟨.stuck _,j1,_,_,rfl⟩
 |pointer q=>cases q<;>exact⟨.unsupported _,j1,_,_,rfl⟩
 |_=>exact⟨.stuck _,j1,_,_,rfl⟩
def Zv (tm:zA)(v:zW):zA:=zAI (Sy tm v) 24 (.bool aF)
def ba (tm:zA)(v:zW)(b:Bool):zA:=zAI (Zv tm v) 27 (.bool b)
def Zu (tm:zA)(v:zW)(y:zY):zA:=zAI (ba tm v aG) 28 y
def Rq (tm:zA)(v:zW)(a:Int):zA:=zAI (zAI (Zu tm v (.int aP a)) 29 (.bool (decide (a<=1779033703)))) 30 (.bool (decide (a≥1779033703)))
def OR (a:zT)(d:Nat)(hs:Eb a d=0){tm:zA}(hz:tm.size=43)(h:Lone zq cs S (fI (Zv tm v) [.code qcP,.code Rr]) [] ((boxed v aF).re a (d+1))): Lone zq cs S (fI tm [.code Qz.sY]) [] (v.re a d):=by refine EZ a d hz ?_;refine QI a d (by rw[hs]) ?_;have b:=Jb hz v;refine DZ rfl rfl rfl (Ap b _ aG _ _) ?_;refine fT rfl rfl (Kj b _ aF _ _) rfl ?_;refine JE (DC ?_);exact yO aF (aX (by rw[nD hz];exact j2)) h
section
variable {tm:zA}(hz:tm.size=43)
include hz
def CW {u:zW}{b:Bool}(hs:(u.shape? 0).isNone=b)(h:Lone zq cs S (fI (ba tm v b) [.code (if b then de else qc5),.code Rr]) [] u):Lone zq cs S (fI (Zv tm v) [.code qcP,.code Rr]) [] u:=by refine DC (oN ?_);refine fT (o:=qoV) rfl rfl (by rw[gn,hs]) rfl ?_;exact JE (yO b (aX (by simp[Zv,nD hz])) h)
omit hz in
def OQ {u:zW}{y:zY}(hs:u.cell? (0,0)=aA y)(h:Lone zq cs S (fI (Zu tm v y) [aN og [1,2],.code oh,.code Rr]) [] u):Lone zq cs S (fI (ba tm v aG) [aN og [0,1,2],.code oh,.code Rr]) [] u:=fT (ops:=og) (j:=0) (rest:=[1,2]) (o:=qoX) (y:=y) (tm1:=Zu tm v y) rfl rfl (by rw[Aq];exact XF u y hs) rfl h
def VN {u:zW}{a:Int}(h:Lone zq cs S (fI (Rq tm v a) [.code oh,.code Rr]) [] u):Lone zq cs S (fI (Zu tm v (.int aP a)) [aN og [1,2],.code oh,.code Rr]) [] u:=by have b:(Zu tm v (.int aP a)).getD 28 ij= .int aP a:=aX (by simp[ba,Zv,nD hz]);refine fT (tm1:=zAI (Zu tm v (.int aP a)) 29 (.bool (decide (a<=1779033703)))) rfl rfl (Xl b _ u).1 rfl ?_;refine fT rfl rfl (Xl (by rw[cK j2];exact b) _ u).2 rfl ?_;exact JE h
def VL {u:zW}{a:Int}{b:Bool}(c:decide (a<=1779033703)=b)(h:Lone zq cs S (fI (Rq tm v a) [.code (if b then qc7 else de),.code Rr]) [] u):Lone zq cs S (fI (Rq tm v a) [.code oh,.code Rr]) [] u:=yO (a:=qc7) (b:=de) b (by unfold Rq;rw[cK j2,aX (by simp[Zu,ba,Zv,nD hz]),c]) h
def VM {u:zW}{a:Int}{b:Bool}(c:decide (a≥1779033703)=b)(h:Lone zq cs S (fI (Rq tm v a) [.code (if b then .region 2 jl aG else de),.code Rr]) [] u):Lone zq cs S (fI (Rq tm v a) [.code qc7,.code Rr]) [] u:=yO (a:= .region 2 jl aG) (b:=de) b (by unfold Rq;rw[aX (by simp[Zu,ba,Zv,nD hz]),c]) h
end
def OP (a:zT)(d:Nat)(hs:Eb a d=0)(l:yB v){tm:zA}(hz:tm.size=43)(h:∀fr:zC,fr.fn=233->fr.mode= .panicking (told tm)->fr.defers=[]->fr.catches zq=aG->S fr [] ((Cv (boxed v aF)).re a (d+1))): Lone zq cs S (fI tm [.code Qz.sY]) [] (v.re a d):=by have hlt:=lZ l.cell;let⟨g,m⟩:=jQ (MX hlt aF a (d+1));rw[l.cell]at g;rw[l.thaw]at m;refine OR a d hs hz ?_;refine CW hz ?_ (DC (oN (ops:=og) (OQ g (VN hz (VL hz (b:=aF) rfl (VM hz (b:=aF) rfl (oN (ops:=jl) ?_)))))));{obtain⟨c,t,f,e,_⟩:=cell0 g;unfold World.shape?;exact ji};refine DZ (ops:=jl) (j:=0) (rest:=[1,2]) (o:=qoZ) (v1:=(Cv (boxed v aF)).re a (d+1)) rfl rfl rfl (by rw[QU,PI _ _ g,m];rfl) ?_;have k:(Rq tm v 1779033703).getD 22 ij=gC tm:=by{unfold Rq Zu ba Zv;rw[cK j2,cK j2,cK j2,cK j2,cK j2];exact Sx hz v};refine fT (ops:=jl) (j:=1) (rest:=[2]) (o:=qoI) (y:= .iface 224 (gC tm)) (tm1:=zAI (Rq tm v 1779033703) 25 (.iface 224 (gC tm))) rfl rfl (by rw[Xm,k]) rfl ?_;have i:(zAI (Rq tm v 1779033703) 25 (.iface 224 (gC tm))).getD 25 ij= .iface 224 (gC tm):=aX (by simp[Rq,Zu,ba,Zv,nD hz]);refine zGp (ops:=jl) (j:=2) (rest:=[]) (o:=qoP) (x:= .iface 224 (gC tm)) rfl rfl (Xk i _ _) ?_;exact h _ rfl rfl rfl (zDj rfl)
def SB (tm:zA)(v:zW):zA:=zAI (Sy tm v) 24 (.bool aG)
def ar (a:zT)(d:Nat)(hs:Eb a d≠0){tm:zA}(hz:tm.size=43)(h:Lone zq cs S (fI (SB tm v) [aN Jo [0],.code .ret]) [] ((boxed v aF).re a (d+1))): Lone zq cs S (fI tm [.code Qz.sY]) [] (v.re a d):=by refine EZ a d hz ?_;refine QI a d (by rw[AF hs]) ?_;have c:=Jb hz v;refine fT (tm1:=SB tm v) rfl rfl (Kj c _ aG _ _) rfl ?_;refine DZ rfl rfl rfl (Ap (by unfold SB;exact j1) _ aG _ _) ?_;refine JE (DC ?_);have b:(SB tm v).getD 24 ij= .bool aG:=aX (by rw[nD hz];exact j2);exact yO aG b (az (DC (oN h)))
def full (xs:zA):zA:=xs++Bt (43-xs.size) ij
theorem lG {xs}(h:xs.size<=20):(full xs).size=43:=by simp[full];exact bm
def kR (v)(b):kU v (boxed v b):=by refine⟨?_,λx a=> ?_,λx c h=> ?_⟩;{show v.heap.size<=(v.heap.push _).size;exact ji};{show(v.heap.push _)[x]? =_;exact ji};.have h:x<(v.heap.push (aJ #[.bool b] 4)).size:=h;rw[Lq]at h;have e:x=v.heap.size:=bm;subst e;refine⟨b,?_⟩;show(v.heap.push _)[v.heap.size]? =_;exact j0
def Qz.oi (xs:zA)(v:zW)(D:zP)(hz:xs.size<=20)(_:Closed zq Qz.Al D (Frame.enter zq 233 xs .normal) [] v)(h:yB v):∃b d,Lone zq [bK] (λfr l u=>l=[]/\fr.mode= .panicking (told (full xs))/\fr.defers=[]/\Fl u/\kU v (dL u)) (Frame.enter zq 233 xs .normal) [] (v.re b d):=⟨λ_ _=>0,0,by have a:=(jQ (MX (lZ h.cell) aF v.tape v.drawn)).1.trans h.cell;have e:dL (Cv (boxed v aF))=boxed v aF:=OT a;rw[EB];refine OP (λ_ _=>0) 0 j2 h (lG hz) λfr i f c g=>⟨rfl,f,c,Xa (v:=boxed v aF) a,?_⟩;show kU v ((dL (Cv (boxed v aF))).re _ _);rw[e];exact(kR v aF).re v.tape _ v.drawn _⟩
variable {R:zR}{E:List PanicEntry->zW->Prop}{own:zL}{D:zP}
def UF {tm:zA}{ops:zQ}{j:Nat}{rest:List Nat}{k:zI}{o:Oper}(a:ops[j]? =aA o)(f:o.guard=aB)(b:∃hl,Go.Ren.Fatal hl/\∃u es,(vr (fI tm (aN ops (j::rest)::k)).eval o).runT zq v #[]=(.halt hl u,es))(g:Go.Ren.Ends zq Qz.Al (Go.Ren.AtEnd zq R E) (fI tm (aN ops (j::rest)::k)) own v):False:=by
 cases g with
 |stop h=>exact fF (l:=[]) (aH rfl) h
 |step _ p _ i _=>let⟨es,e⟩:=i v.tape v.drawn [] aF;rw[iS,KM rfl rfl rfl a f aF]at e;let⟨hl,d,u,m,c⟩:=b;obtain⟨_,_,_,n⟩:=nN c d;rw[n]at e;cases e
def UG {tm:zA}{k:zI}(a:Go.Ren.Ends zq Qz.Al (Go.Ren.AtEnd zq R E) (fI tm (.code de::k)) own v):False:=by cases a with|stop h=>exact fF (l:=[]) (aH rfl) h|step _ n _ b _=>let⟨c,e⟩:=b v.tape v.drawn [] aF;cases e
def jh {fr f:zC}{u2:zW}(d:Closed zq Qz.Al D fr [] v)(b:Go.Ren.Ends zq Qz.Al (Go.Ren.AtEnd zq R E) fr own v)(hl:Lone zq [bK] (λfr l u=>fr=f/\l=[]/\u=u2) fr [] v):∃D2,Closed zq Qz.Al D2 f [] u2/\Go.Ren.Ends zq Qz.Al (Go.Ren.AtEnd zq R E) f own u2:=by obtain⟨e,i,g,D2,⟨rfl,rfl,rfl⟩,c,_,a⟩:=Lone.through Qz.jW (λ_ _ _ h=>fF h) hl d b;exact ji
def Qz.sound {xs:zA}(hz:xs.size<=20)(e:Closed zq Qz.Al D (Frame.enter zq 233 xs .normal) own v)(A:Go.Ren.Ends zq Qz.Al (Go.Ren.AtEnd zq R E) (Frame.enter zq 233 xs .normal) own v):yB v:=by have l:∀b,¬K0 b:=λb h=>h;have c:=lG hz;have c0:Closed zq Qz.Al D (Frame.enter zq 233 xs .normal) [] (v.re (λ_ _=>0) 0):=⟨e.frame,.nil,gU e.world l _ _ _ _ (λ_ _=>rfl),e.nj⟩;have w:=A.re (λ_ _ _ x d h=>h.re x d) (λ_ _=>0) 0;have hlt:0<v.heap.size:=by{have:=e.world.low.1;omega};rw[EB]at c0 w;let⟨D1,c1,m⟩:=jh c0 w (OR (λ_ _=>0) 0 j2 c (.stop ⟨rfl,rfl,rfl⟩));let⟨n,q⟩:=jQ (MX hlt aF (λ_ _=>0) (0+1));generalize(boxed v aF).re (λ_ _=>0) (0+1)=U at n q c1 m;cases z:U.shape? 0 with|none=>let⟨_,_,i⟩:=jh c1 m (CW c (b:=aF) ji (.stop ⟨rfl,rfl,rfl⟩));exact(UG i).elim|some p=>let⟨_,c2,i⟩:=jh c1 m (CW c (b:=aG) ji (DC (b:=oh) (oN (ops:=og) (.stop ⟨rfl,rfl,rfl⟩))));cases k:U.cell? (0,0)with|none=>exact(UF (o:=qoX) rfl rfl (by grind[Aq,aMz]) i).elim|some y=>let⟨_,c3,u⟩:=jh c2 i (OQ k (.stop ⟨rfl,rfl,rfl⟩));by_cases hi:∃a,y= .int aP a;{obtain⟨a,rfl⟩:=hi;let⟨_,c4,C⟩:=jh c3 u (VN c (.stop ⟨rfl,rfl,rfl⟩));let⟨_,c5,g⟩:=jh c4 C (VL c (b:=decide (a<=1779033703)) rfl (.stop ⟨rfl,rfl,rfl⟩));by_cases t:a<=1779033703;{rw[Dz t]at c5 g;let⟨_,c6,f⟩:=jh c5 g (VM c (b:=decide (a≥1779033703)) rfl (.stop ⟨rfl,rfl,rfl⟩));by_cases s:a≥1779033703;{rw[Dz s]at c6 f;obtain rfl:a=1779033703:=bm;let⟨_,F,B⟩:=jh c6 f (oN (ops:=jl) (.stop ⟨rfl,rfl,rfl⟩));cases r:U.frozen? (0,0)with|false=>exact⟨n.symm.trans k,q.symm.trans r⟩|true=>exact(UF (o:=qoZ) (j:=0) (rest:=[1,2]) rfl rfl ⟨.unsupported (.unsafePointer "a write to bytes that a string shares"),j1,U,#[],by rw[QU,PI _ _ k,r,AE rfl]⟩ B).elim};.rw[Dr s]at f;exact(UG f).elim};.rw[Dr t]at g;exact(UG g).elim};.exact(UF (o:=tf) (j:=1) (rest:=[2]) rfl rfl (qu (λa h=>hi ⟨a,by rw[<-h];exact(aX (by simp[ba,Zv,nD c])).symm⟩) _ _) u).elim
end
def Lone.steps {P cs S fr own v}(h:Lone P cs S fr own v):∃f o b,S f o b/\Steps P (lone fr (own++cs) v) (lone f (o++cs) b):=by induction h with| @stop fr own v h=>grind[Steps.refl]| @step fr d own a v v1 es c e h i=>let⟨f,o,b,j,g⟩:=i;refine⟨f,o,b,j,.head (step_lone_go ?_) g⟩;have:stepG P aF {frame:=fr,callers:=own++cs,status:= .running,dying:=aB} v= .go (G d (a++cs)) v1 es:=e;rw[this];rfl
def nF {Q f fn c}(a:Q.funcs[f]? =aA fn)(h:(fn.name== "runtime.NumGoroutine")=aG)(b:fn.body=aA c)(xs)(u)(es):(callFunc f xs).runT Q u es=(.ok (.enter f xs) u,es):=by show(match Q.funcs[f]? with|none=>stuck "call: no such function"|some fn=>_:Sem Next).runT Q u es=_;exact j1
def gq {tm}(k)(u):(vr (fI tm k).eval qoF).runT zq u #[]=(.ok (.enter 170 #[tm.getD 0 ij,tm.getD 1 ij]) u,#[]):=by
 have e:vr (fI tm k).eval qoF=(do let d<-Deferred.ofValue (.func (.func 170) #[] #[]) ((#[.tmp 0,.tmp 1]:Array Operand).map (fI tm k).eval);invoke d.target d.args:Sem Next):=by rfl
 have b:(#[.tmp 0,.tmp 1]:Array Operand).map (fI tm k).eval= #[tm.getD 0 ij,tm.getD 1 ij]:=by apply Array.toList_inj.1;rw[Array.toList_map];rfl
 rw[e,b];have a:(do let d<-Deferred.ofValue (.func (.func 170) #[] #[]) #[tm.getD 0 ij,tm.getD 1 ij];invoke d.target d.args:Sem Next)=callFunc 170 #[tm.getD 0 ij,tm.getD 1 ij]:=by show invoke (.fn (.func 170) #[]) (#[]++ #[tm.getD 0 ij,tm.getD 1 ij])=_;simp only[JO];unfold invoke;simp
 rw[a];exact nF Qz.func170 c9 rfl _ _ _
section
variable {v:zW}
def results_none {Q fn}(h:fn.results= #[])(tm)(u):(results fn tm).run Q u= .ok (.tuple #[]) u:=by unfold results;exact j1
def na {S:zS}{cs:zL}{tm:zA}{k:zI}{u:zW}(h:S {fI tm (.code .ret::k)with mode:= .returning} [] u):Lone zq cs S (fI tm (.code .ret::k)) [] u:=Lone.step (fr1:={fI tm (.code .ret::k)with mode:= .returning}) (own1:=[]) (v1:=u) (es:= #[]) (aH rfl) rfl (.stop h)
def Sn {cs:zL}{tm:zA}{u:zW}:Lone zq cs (λfr own a=>own=[]/\a=u/\fr.mode= .returning/\fr.defers=[]/\fr.kind= .normal/\fr.fn=233) (fI tm [aN Jo [],.code .ret]) [] u:=JE (na ⟨rfl,rfl,rfl,rfl,rfl,rfl⟩)
def Bn {tm}(hz:tm.size=43)(a)(d)(hs:Eb a d≠0){R:zW->Prop}(h:Calls zq 170 #[tm.getD 0 ij,tm.getD 1 ij] ((boxed v aF).re a (d+1)) λe w'=>(∃x,e=aM x)/\R w')(cs):
  ∃w' fr,R w'/\Steps zq (lone (fI tm [.code Qz.sY]) cs (v.re a d)) (lone fr cs w')/\fr.fn=233/\fr.leaving zq w' (aM (.tuple #[])):=by
 obtain⟨D,l,J,⟨H,G,F⟩,s1⟩:=Lone.steps (ar (S:=λfr own u=>fr=fI (SB tm v) [aN Jo [0],.code .ret]/\own=[]/\u=(boxed v aF).re a (d+1)) a d hs hz (.stop ⟨rfl,rfl,rfl⟩));subst H;subst G;subst F;have t0:(SB tm v).getD 0 ij=tm.getD 0 ij:=by unfold SB;rw[cK j2];exact Jc v j2
 have t1:(SB tm v).getD 1 ij=tm.getD 1 ij:=by unfold SB;rw[cK j2];exact Jc v j2
 have m:=gq (tm:=SB tm v) [aN Jo [0],.code .ret] ((boxed v aF).re a (d+1));rw[t0,t1]at m;have s2:step zq (lone (fI (SB tm v) [aN Jo [0],.code .ret]) cs ((boxed v aF).re a (d+1)))= .next (lone (Frame.enter zq 170 #[tm.getD 0 ij,tm.getD 1 ij] .normal) (fI (SB tm v) [aN Jo [0],.code .ret]::cs) ((boxed v aF).re a (d+1))):=by refine step_lone_go ?_;have e:=KM (P:=zq) (fr:=fI (SB tm v) [aN Jo [0],.code .ret]) (cs:=cs) (u:=(boxed v aF).re a (d+1)) (ops:=Jo) (j:=0) (rest:=[]) (k:=[.code .ret]) (o:=qoF) rfl rfl rfl rfl rfl aF;have I:stepG zq aF {frame:=fI (SB tm v) [aN Jo [0],.code .ret],callers:=cs,status:= .running,dying:=aB} ((boxed v aF).re a (d+1))=_:=e;rw[I];unfold stepG.apply;simp only[Cx];rw[m];rfl
 let⟨e,w',g,⟨⟨x,B⟩,C⟩,b,A,f⟩:=h (fI (SB tm v) [aN Jo [0],.code .ret]::cs);subst B;have p:=b;have s:=step_leave_returned (cs:=cs) (c:=fI (SB tm v) [aN Jo [0],.code .ret]) f;have E:(fI (SB tm v) [aN Jo [0],.code .ret]).finish x=fI (zAI (SB tm v) 26 x) [aN Jo [],.code .ret]:=rfl;rw[E]at s;let⟨Kh,i,v5,⟨z,y,w,t,r,q⟩,n⟩:=Lone.steps (Sn (cs:=cs) (tm:=zAI (SB tm v) 26 x) (u:=w'));subst z;subst y;exact⟨v5,Kh,C,Steps.trans s1 (.head s2 (Steps.trans p (.head s n))),q,⟨w,t,r,Qz.f233,by rw[q];exact Qz.func233,results_none (Q:=zq) (fn:=Qz.f233) rfl Kh.tmps v5⟩⟩
end
end Go.Proofs
