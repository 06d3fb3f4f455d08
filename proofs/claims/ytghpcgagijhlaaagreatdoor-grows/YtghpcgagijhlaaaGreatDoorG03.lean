import Derived.Conc.WgGenN3
import Derived.Conc.WgGenN2
import Derived.Conc.WgWords
import Derived.Conc.CrowdSel
import Derived.Conc.Token
import Derived.Below
import Derived.Test.YtghpcgagijhlaaaGreatDoorG02
set_option linter.all false
set_option maxRecDepth 100000
set_option maxHeartbeats 16000000
open Option renaming some->aA,none->aB
open Bool renaming true->aF,false->aG
open Or renaming inl->aH,inr->aI
open Go.IntKind renaming u32->aP,u64->aR
open Array renaming getElem?_setIfInBounds_ne->Nl,getElem?_setIfInBounds_self_of_lt->OE
open Go renaming undef->ij,offeredValue->aMp
open Go.Conc.QuitsD renaming status->Mx
open Go.ConcN renaming Deaf_still->Mw
open Go.MemOp renaming ofEvents->Ed
open Go.Question renaming extern->Nk,cut->aMu,forced->Nj
open Option.some renaming injEq->Cz,inj->Mt
open List renaming length->zAH,toArray->zAL
open Array renaming setIfInBounds->zAI,toList->zAM
open Go.World renaming setCell->zAJ,alloc->zAK
open Go.Proofs.Tryz renaming prog->zAN
section
variable {P:Prop}
def C6(h:P:=by rw[o];exact pG):=h
def C7(h:P:=by simp[deafBehind,Go.ConcR.mk]):=h
def F5(h:P:=by simp only[mk,MemAct.ofEvent,MemAct.touch?,Cz]at c;subst c;simp only[blk,Cz]at d;subst d;exact aI (aI (aI ⟨rfl,h,rfl⟩))):=h
def F9(h:P:=by rw[oL];exact k):=h
def G9(h:P:=by have:=h.size;exact bm):=h
def I5(h:P:=by simp[mk,MemAct.ofEvent,MemAct.touch?]at c):=h
def I9(h:P:=by obtain⟨loc,wr,s⟩:=e;simp only at h;subst h;trivial):=h
def J5(h:P:=by grind[touch_mute]):=h
def J6(h:P:=by obtain⟨loc,wr,s⟩:=e;simp only at h;subst h;simp[MemAct.ofEvent,MemAct.touch?]at c):=h
def L8(h:P:=by cases h<;>grind):=h
def M8(h:P:=by simp[ofEvents_eq]):=h
def P6(h:P:=by show a.block<B;exact bm):=h
def Q3(h:P:=by grind[nH]):=h
def Q7(h:P:=by unfold Sp.lK;exact bm):=h
def Q8(h:P:=by rw[o]):=h
def Q9(h:P:=by unfold Sp.lK at x⊢;rwa [dJ _ _ bm]at x):=h
def S9(h:P:=by obtain rfl:k=0:=ji;simp only[JS,Ho,Cz]at c;subst c;exact aI ⟨⟨_,_,rfl,rfl⟩,by simp[deafBehind]⟩):=h
def T0(h:P:=by exact .right _ ⟨_,_,rfl,rfl⟩):=h
def U2(h:P:=by exact aH ⟨_,_,rfl,rfl⟩):=h
def U4(h:P:=by simp[semEvents]at c;subst c;exact aI ⟨⟨_,_,rfl,rfl⟩,by simp[semEvents,deafBehind]⟩):=h
def V6(h:P:=by exact aI (aH ⟨_,_,rfl,rfl⟩)):=h
def X8(h:P:=by simp[deafBehind,Go.ConcR.rd,Go.ConcR.wr]):=h
def Y5(h:P:=by exact awake_of ji):=h
def Y8(h:P:=by rw[show(j==0)=aG from j3];exact a w):=h
def Y9(h:P:=by have:S.ph f S.n=(f (S.m0+S.n)).1:=rfl;exact bm):=h
def Z2(h:P:=by rw[hh.run J λ_ _ x=>x.1];exact j0):=h
def Z8(h:P:=by rw[o.run J λ_ _ x=>x.1];exact j0):=h
def n9(h:P:=by simp[World.setCell]):=h
def o5(h:P:=by rw[lR];exact j0):=h
def o7(h:P:=by rw[oL];exact l):=h
def r8(h:P:=by grind[offersAt_of_not_blocked]):=h
def z8(h:P:=by obtain⟨v1,v2⟩:=QF (S:=S) (f:=f) (c:=(0,.leaf)) (a:=(3*(S.U f-1)+2,tr)) (b:=(7,.nat m)) hp hi (by grind[nH]) (by grind[nH]);exact Mu.two v1 v2):=h
end
namespace Go
abbrev zFz:=@Go.Conc.offersAt_of_not_blocked
end Go
namespace Go.Proofs
abbrev Tryz.link:Go.Conc.Lib.WgLink:={add:=181,done:=183,wait:=185,relMerge:=188,disable:=189,enable:=190,inBubble:=191,associate:=192,fatal:=193,uOr:=194,uAdd:=195,raceRead:=196,uLoad:=197,uStore:=198,disassociate:=199,semrelease:=200,acquire:=201,isAssociated:=202,uCas:=203,raceWrite:=204,semacquire:=205,orU64:=207,addU64:=208,loadU64:=209,storeU64:=210,casU64:=211,tWgP:=243,tUP:=191,tAssoc:=245,tWg:=240,tAU:=238,tU64:=122,tUint:=139,tU32:=135,tPU32:=249,tPAU:=258,tPU64:=260,tNoCopy:=234,tANoCopy:=235,tAlign64:=236}
def Tryz.Iv:Go.Conc.Lib.WgLib zAN Tryz.link:={
 f_add:=Tryz.func181,
 f_done:=Tryz.func183,
 f_wait:=Tryz.func185,
 f_relMerge:=Tryz.func188,
 f_disable:=Tryz.func189,
 f_enable:=Tryz.func190,
 f_inBubble:=Tryz.func191,
 f_associate:=Tryz.func192,
 f_fatal:=Tryz.func193,
 f_uOr:=Tryz.func194,
 f_uAdd:=Tryz.func195,
 f_raceRead:=Tryz.func196,
 f_uLoad:=Tryz.func197,
 f_uStore:=Tryz.func198,
 f_disassociate:=Tryz.func199,
 f_semrelease:=Tryz.func200,
 f_acquire:=Tryz.func201,
 f_isAssociated:=Tryz.func202,
 f_uCas:=Tryz.func203,
 f_raceWrite:=Tryz.func204,
 f_semacquire:=Tryz.func205,
 f_orU64:=Tryz.func207,
 f_addU64:=Tryz.func208,
 f_loadU64:=Tryz.func209,
 f_storeU64:=Tryz.func210,
 f_casU64:=Tryz.func211,
 underlying_tWgP:=Tryz.underlying243,
 runUnderlying_tWgP:=Tryz.runUnderlying243,
 sizeOf_tWgP:=Tryz.sizeOf243,
 isAgg_tWgP:=Tryz.isAgg243,
 zeroValue_tWgP:=Tryz.zeroValue243,
 underlying_tUP:=Tryz.underlying191,
 runUnderlying_tUP:=Tryz.runUnderlying191,
 sizeOf_tUP:=Tryz.sizeOf191,
 isAgg_tUP:=Tryz.isAgg191,
 zeroValue_tUP:=Tryz.zeroValue191,
 underlying_tI32:=Tryz.underlying245,
 runUnderlying_tI32:=Tryz.runUnderlying245,
 sizeOf_tI32:=Tryz.sizeOf245,
 isAgg_tI32:=Tryz.isAgg245,
 zeroValue_tI32:=Tryz.zeroValue245,
 underlying_tWg:=Tryz.underlying240,
 runUnderlying_tWg:=Tryz.runUnderlying240,
 sizeOf_tWg:=Tryz.sizeOf240,
 isAgg_tWg:=Tryz.isAgg240,
 zeroValue_tWg:=Tryz.zeroValue240,
 underlying_tAU:=Tryz.underlying238,
 runUnderlying_tAU:=Tryz.runUnderlying238,
 sizeOf_tAU:=Tryz.sizeOf238,
 isAgg_tAU:=Tryz.isAgg238,
 zeroValue_tAU:=Tryz.zeroValue238,
 underlying_tU64:=Tryz.underlying122,
 runUnderlying_tU64:=Tryz.runUnderlying122,
 sizeOf_tU64:=Tryz.sizeOf122,
 isAgg_tU64:=Tryz.isAgg122,
 zeroValue_tU64:=Tryz.zeroValue122,
 underlying_tSh:=Tryz.underlying139,
 runUnderlying_tSh:=Tryz.runUnderlying139,
 sizeOf_tSh:=Tryz.sizeOf139,
 isAgg_tSh:=Tryz.isAgg139,
 zeroValue_tSh:=Tryz.zeroValue139,
 underlying_tU32:=Tryz.underlying135,
 runUnderlying_tU32:=Tryz.runUnderlying135,
 sizeOf_tU32:=Tryz.sizeOf135,
 isAgg_tU32:=Tryz.isAgg135,
 zeroValue_tU32:=Tryz.zeroValue135,
 underlying_tPU32:=Tryz.underlying249,
 runUnderlying_tPU32:=Tryz.runUnderlying249,
 sizeOf_tPU32:=Tryz.sizeOf249,
 isAgg_tPU32:=Tryz.isAgg249,
 zeroValue_tPU32:=Tryz.zeroValue249,
 underlying_tPAU:=Tryz.underlying258,
 runUnderlying_tPAU:=Tryz.runUnderlying258,
 sizeOf_tPAU:=Tryz.sizeOf258,
 isAgg_tPAU:=Tryz.isAgg258,
 zeroValue_tPAU:=Tryz.zeroValue258,
 underlying_tPU64:=Tryz.underlying260,
 runUnderlying_tPU64:=Tryz.runUnderlying260,
 sizeOf_tPU64:=Tryz.sizeOf260,
 isAgg_tPU64:=Tryz.isAgg260,
 zeroValue_tPU64:=Tryz.zeroValue260,
 underlying_t0:=Tryz.underlying0,
 runUnderlying_t0:=Tryz.runUnderlying0,
 sizeOf_t0:=Tryz.sizeOf0,
 isAgg_t0:=Tryz.isAgg0,
 zeroValue_t0:=Tryz.zeroValue0,
 underlying_t3:=Tryz.underlying3,
 runUnderlying_t3:=Tryz.runUnderlying3,
 sizeOf_t3:=Tryz.sizeOf3,
 isAgg_t3:=Tryz.isAgg3,
 zeroValue_t3:=Tryz.zeroValue3,
 underlying_t4:=Tryz.underlying4,
 runUnderlying_t4:=Tryz.runUnderlying4,
 sizeOf_t4:=Tryz.sizeOf4,
 isAgg_t4:=Tryz.isAgg4,
 zeroValue_t4:=Tryz.zeroValue4,
 underlying_t9:=Tryz.underlying9,
 runUnderlying_t9:=Tryz.runUnderlying9,
 sizeOf_t9:=Tryz.sizeOf9,
 isAgg_t9:=Tryz.isAgg9,
 zeroValue_t9:=Tryz.zeroValue9,
 underlying_t20:=Tryz.underlying20,
 runUnderlying_t20:=Tryz.runUnderlying20,
 sizeOf_t20:=Tryz.sizeOf20,
 isAgg_t20:=Tryz.isAgg20,
 zeroValue_t20:=Tryz.zeroValue20,
 underlying_t21:=Tryz.underlying21,
 runUnderlying_t21:=Tryz.runUnderlying21,
 sizeOf_t21:=Tryz.sizeOf21,
 isAgg_t21:=Tryz.isAgg21,
 zeroValue_t21:=Tryz.zeroValue21,
 room_tWg:=c9,
 room_tU32:=(by kernel_rfl)}
end Go.Proofs
namespace Go.Ren
abbrev Span:=Nat×Tree
def Span.Lt:Span->Span->Prop:=Prod.Lex (·<·) Tree.Lt
def Span.wf:WellFounded Span.Lt:=(Prod.lex ⟨_,Nat.lt_wfRel.wf⟩ ⟨_,by constructor;intro a;induction a with|leaf=>exact⟨_,λb ⟨_,_,h,_⟩=>A4⟩|node ch i=>exact⟨_,λb ⟨_,w,h,e⟩=>by simp_all⟩⟩).wf
inductive VE:List Span->List Span->Prop
 |head {a b:Span} (l:List Span) (h:Span.Lt a b):VE (a::l) (b::l)
 |tail (x:Span) {l l':List Span} (h:VE l l'):VE (x::l) (x::l')
def VE.Yv {b}(d:Acc Span.Lt b):∀{l},Acc VE l->Acc VE (b::l):=by induction d with|intro b _ i=>intro l hl;induction hl with|intro l hl a=>refine⟨_,λy c=> ?_⟩;cases c with|head _ h=>exact i _ h ⟨_,hl⟩|tail _ h=>exact ji
def VE.wf:WellFounded VE:=by constructor;intro l;induction l with|nil=>exact⟨_,λy h=>A4⟩|cons b l i=>exact VE.Yv (Span.wf.apply b) i
def vec:Nat->(Nat->Span)->List Span
 |0,_=>[]|n+1,f=>f 0::vec n λi=>f (i+1)
def put {α:Type}(f:Nat->α)(i:Nat)(x:α):Nat->α:=λj=>if j=i then x else f j
theorem aX {α}(f)(i)(x:α):put f i x i=x:=by simp[put]
theorem bS {α}(f){i j}(x:α)(h:j≠i):put f i x j=f j:=by simp[put,h]
def OS:∀{n:Nat}{f g:Nat->Span},(∀i,i<n->f i=g i)->vec n f=vec n g
 |0,_,_,_=>rfl|n+1,f,g,h=>by simp only[vec,h 0 (by omega)];rw[OS λi hi=>h (i+1) (by omega)]
theorem nZ:∀{n:Nat}{f:Nat->Span}{i:Nat}{x:Span},i<n->Span.Lt x (f i)->VE (vec n (put f i x)) (vec n f)
 |n+1,f,0,x,_,h=>by simp only[vec,aX];rw[OS (g:=λi=>f (i+1)) λi _=>by rw[bS _ _ (by omega)]];exact .head _ h|n+1,f,i+1,x,hi,h=>by simp only[vec];rw[bS _ _ bm];have e:(λj=>put f (i+1) x (j+1))=put (λj=>f (j+1)) i x:=by{funext j;by_cases a:j=i<;>simp[put,a]};rw[e];exact .tail _ (nZ bm h)
abbrev Mu:=Nat×Nat×List Span×Nat
def VLe:List Span->List Span->Prop:=Relation.TransGen VE
def Mu.Lt:Mu->Mu->Prop:=Prod.Lex (·<·) (Prod.Lex (·<·) (Prod.Lex VLe (·<·)))
def VLe.wf:WellFounded VLe:=VE.wf.transGen
def Mu.wf:WellFounded Mu.Lt:=(Prod.lex ⟨_,Nat.lt_wfRel.wf⟩ (Prod.lex ⟨_,Nat.lt_wfRel.wf⟩ (Prod.lex ⟨_,VLe.wf⟩ ⟨_,Nat.lt_wfRel.wf⟩))).wf
theorem Mu.one {a c d f l b}(h:VE l b):Mu.Lt (a,c,l,d) (a,c,b,f):= .right _ (.right _ (.left _ _ (.single h)))
theorem Mu.two {a c d f l e b}(h:VE l e)(g:VE e b):Mu.Lt (a,c,l,d) (a,c,b,f):= .right _ (.right _ (.left _ _ (.trans (.single h) (.single g))))
def Mu.bit {a c d f l}(h:d<f):Mu.Lt (a,c,l,d) (a,c,l,f):= .right _ ji
end Go.Ren
namespace Go.Wg
open Go.Conc Go.RowKit Go.Conc.Lib Go.ConcR.Gen Go.ConcN Go.ConcN.Gen
open Go.ConcR (KK wgBlock WgAt stA smA rd wr mk Payload DC0)
variable {L:WgLink}
def iR (P:zZ)(b:Bool)(m:Mark)(K:zU)(g:zH)(w:zW):Prop:=g.status= .running/\∃a,stepG P b g w= .go a w #[mk m]/\K a w
def aEG (P:zZ)(m:Bool)(ty:zD)(Wg:Nat)(K:Nat->zU)(g:zH)(w:zW):Prop:=g.status= .running/\∀v:Nat,v<2147483647->WgAt ty Wg w (v*KK) 0-> ∃a,stepG P m g w= .go a (zAJ w (stA Wg) (.int aR ((v+1)*KK))) #[rd (stA Wg),wr (stA Wg)]/\K v a (zAJ w (stA Wg) (.int aR ((v+1)*KK)))
def On (P:zZ)(a:Bool)(R:zW->zW->Prop)(Stop:zU)(g:zH)(w:zW):Prop:=∃m,Goes P a R DC0 Stop m g w
def aAL (P:zZ)(m:Bool)(ty:zD)(Wg:Nat)(K0:zU)(K1:Nat->zU)(g:zH)(w:zW):Prop:=g.status= .running/\∀v:Nat,v<2147483648->WgAt ty Wg w (v*KK) 0->∃a,stepG P m g w= .go a w #[rd (stA Wg)]/\(v=0->K0 a w)/\(v≠0->K1 v a w)
def lp (P:zZ)(m:Bool)(ty:zD)(Wg vs:Nat)(b K:zU)(g:zH)(w:zW):Prop:=g.status= .running/\∀v:Nat,v<2147483648->WgAt ty Wg w (v*KK) 0->(v=vs->∃a,stepG P m g w= .go a (zAJ w (stA Wg) (.int aR (v*KK+1))) #[rd (stA Wg),wr (stA Wg)]/\b a (zAJ w (stA Wg) (.int aR (v*KK+1))))/\ (v≠vs->∃a,stepG P m g w= .go a w #[rd (stA Wg)]/\K a w)
def lj (P:zZ)(m:Bool)(ty:zD)(Wg:Nat)(K:zU)(g:zH)(w:zW):Prop:=g.status= .running/\g.offers=aB/\((∃st,WgAt ty Wg w st 0)->stepG P m g w= .go {g with status:= .blocked} w #[])/\ (WgAt ty Wg w 0 1->∃a,stepG P m g w= .go a (zAJ w (smA Wg) (.int aP 0)) (semEvents (smA Wg))/\K a (zAJ w (smA Wg) (.int aP 0)))
def Zk (P:zZ)(m:Bool)(ty:zD)(Wg:Nat)(K:zU)(g:zH)(w:zW):Prop:=g.status= .running/\(WgAt ty Wg w 0 0->∃a,stepG P m g w= .go a w #[rd (stA Wg)]/\K a w)
structure Lk (ty:zD)(Wg:Nat)(R:zW->zW->Prop)(F:zW->Prop):Prop where
 rely:∀{w w₁},(F w/\WgLive ty Wg w)->R w w₁->F w₁/\WgLive ty Wg w₁
 eD:∀{w x},F w->F (w.setCell (stA Wg) x)
 vn:∀{w x},F w->F (w.setCell (smA Wg) x)
def AtRel (P:zZ)(ty:zD)(Wg:Nat)(g:zH)(w:zW):Prop:=g.status= .running/\mayWake P g=aF/\(WgAt ty Wg w 0 0->∃a,stepG P aG g w= .go a (zAJ w (smA Wg) (.int aP 1)) (semEvents (smA Wg))/\∃q,QuitsD P q 1 a)
def Zl (P:zZ)(ty:zD)(Wg:Nat)(R:zW->zW->Prop)(g:zH)(w:zW):Prop:=g.status= .running/\(WgAt ty Wg w 1 0->∃a,stepG P aG g w= .go a (zAJ w (stA Wg) (.int aR 0)) #[wr (stA Wg)]/\On P aG R (AtRel P ty Wg) a (zAJ w (stA Wg) (.int aR 0)))
def lk (P:zZ)(ty:zD)(Wg:Nat)(R:zW->zW->Prop)(g:zH)(w:zW):Prop:=g.status= .running/\(WgAt ty Wg w 1 0->∃a,stepG P aG g w= .go a w #[rd (stA Wg)]/\On P aG R (Zl P ty Wg R) a w)
def aAM (P:zZ)(ty:zD)(Wg:Nat)(R:zW->zW->Prop)(g:zH)(w:zW):Prop:=g.status= .running/\∀v wt:Nat,wt<=1->v<2147483647->WgAt ty Wg w (((v:Nat)+1)*KK+wt) 0-> ∃a,stepG P aG g w= .go a (zAJ w (stA Wg) (.int aR (v*KK+wt))) #[rd (stA Wg),wr (stA Wg)]/\ (v=0/\wt=1->On P aG R (lk P ty Wg R) a (zAJ w (stA Wg) (.int aR (v*KK+wt))))/\(¬(v=0/\wt=1)->∃q,QuitsD P q 1 a)
end Go.Wg
set_option linter.unusedSimpArgs false
namespace Go.Conc
section
variable {P:zZ}{gs:zG}{w w₁:zW}{sl:Option (Nat×Nat)}{i k:Nat}{g BR:zH}{es:zE}{cases:Array CommCase}{shape:CommShape}{blocking:Bool}
 {c cap s r:Nat} {closed tm:Bool} {z:zY}
def pS (hi:gs[i]? =aA g)(h:stepG P (i==0) g w= .comm BR cases blocking shape w₁ es)(hk:cases[k]? =aA (rcase c z)) (H:∀(m)(c':CommCase),m≠k->cases[m]? =aA c'->NoWays w₁ (zAI gs i ph) c') (E:w₁.heap[c]? =aA (.chan cap #[] closed s r tm)) (y:partners (zAI gs i ph) c aF≠[]) (q:∀j k,(j,k)∈partners (zAI gs i ph) c aF->k=0/\j≠i/\∃o v zj e,gs[j]? =aA (parked o #[scase c v zj] e)): ∃(j:Nat)(o:zH)(v zj:zY)(e:CommShape)(d:Nat),j≠i/\gs[j]? =aA (parked o #[scase c v zj] e)/\ runT P (crowd gs w sl) i=(.next (crowd (zAI (zAI gs j (o.finishComm P #[scase c v zj] e 0 ij aG)) i (BR.finishComm P cases shape k v aF)) ((w₁.at d).setChan c cap #[] closed (s+1) (r+1) tm) sl),Ed i g.frame.fn g.frame.place es++ #[{g:=j,fn:=o.frame.fn,pos:=o.frame.place,act:= .send c s},{g:=i,fn:=BR.frame.fn,pos:=BR.frame.place,act:= .recv c r cap},{g:=j,fn:=o.frame.fn,pos:=o.frame.place,act:= .sendDone c s},{g:=i,fn:=BR.frame.fn,pos:=BR.frame.place,act:= .recvDone c r}]):=by generalize F:partners (gs.setIfInBounds i ph) c aF=f at y q;have hlen:=Hn.2 y;obtain⟨b,d,hb,a⟩:∃b d,b<f.length/\(if(Nk "which waiting goroutine is the partner" f.length).forced=aF then(b=0/\d=w₁.drawn)else(b=(Nk "which waiting goroutine is the partner" f.length).cut (w₁.tape w₁.drawn (.extern "which waiting goroutine is the partner" f.length))/\d=w₁.drawn+1)):=by{by_cases u:(Nk "which waiting goroutine is the partner" f.length).forced=aF;{simp_all};{refine⟨_,w₁.drawn+1,?_,by rw[AF u];exact W5⟩;simp only[aMu];rw[AF bm];exact LV _ hlen}};obtain⟨⟨j,J⟩,l⟩:∃p,f[b]? =aA p:=⟨f[b],ji⟩;obtain⟨rfl,A,o,v,zj,e,I⟩:=q j J (Ek l);refine⟨j,o,v,zj,e,d,A,I,?_⟩;rw[runT_crowd_comm hi h];have n:=stand_get A I;have D:=finishPartner_at P (zAI gs i ph) n rfl 0 ij;have C:(zAI gs i ph).getD j default=parked o #[scase c v zj] e:=by{rw[Ez,n];rfl};have x:aMp (zAI gs i ph) j 0=v:=by{simp[aMp,n,parked,scase]};have K:ways w₁ (zAI gs i ph) (rcase c z)=f.map λ(h,k)=>Way.partner h k:=by{simp only[ways,rcase,E,F];grind};have G:(f.map λ(h,k)=>Way.partner h k)≠[]:=by{cases f<;>grind};have B:=getD_map_partner f b (j,0) l;unfold communicate;simp only[ready_one hk ji H,K];rw[AF];{by_cases u:(Nk "which waiting goroutine is the partner" f.length).forced=aF;{rw[AE u]at a;obtain⟨rfl,rfl⟩:=a;have t:zAH f=1:=by{simpa [Nj]using u};have L:=(Bx.1 l).2;simp[choose,Sem.run,Nj,bind,Sem.bind,pure,t,B,l,L,n,x,rcase,E,World.setChan,crowd,D,C,set_stand2,finishComm_parked,scase,parked,World.at,-World.drew_eq];rfl};.rw[AF u]at a;obtain⟨rfl,rfl⟩:=a;have t:¬zAH f=1:=by{simpa [Nj]using u};simp[choose,Sem.run,Nj,bind,Sem.bind,pure,t,B,l,n,x,rcase,E,World.setChan,crowd,D,C,set_stand2,finishComm_parked,scase,parked,World.at,-World.drew_eq];rfl};.rw[Bool.not_eq_true];exact any_ill (made_of_one hk (made_recv z E) H)
end
end Go.Conc
namespace Go.Ga
open Go.Conc Go.Ren Go.Tr Go.Wg
open Go.ConcR (KK WgAt stA smA mk DC0)
open Go.ConcN (WgLive)
structure Sp where
 P:zZ
 ty:zD
 Wg:Nat
 Cr:Nat
 Cd:Nat
 n:Nat
 m0:Nat
 Ok:Nat->zY->(zP)->zW->Prop
 Fa:∀{i v rs ws w w₁},Ok i v ws w->cD rs ws w w₁->Ok i v ws w₁
 M:(zP)->(zP)->(zP)->zU
 Fin:(zP)->(zP)->zU
 rK:zU
 tS:zP
variable(S:Sp)
abbrev Sp.J (w:zW):Prop:=WgLive S.ty S.Wg w
abbrev Sp.R (_ w₁:zW):Prop:=WgLive S.ty S.Wg w₁
abbrev Sp.On (Stop:zU):zU:=Go.Wg.On S.P aG S.R Stop
abbrev Sp.Goes (Stop:zU)(m:Nat):zU:=Go.Conc.Goes S.P aG S.R DC0 Stop m
def Sp.D4:zU:=aAM S.P S.ty S.Wg S.R
def Sp.D5:zU:=iR S.P aG .disable (S.On S.D4)
def Sp.D6:zU:=iR S.P aG (.releaseMerge (stA S.Wg)) (S.On S.D5)
def Sp.D3:zU:=lk S.P S.ty S.Wg S.R
def Sp.D2:zU:=Zl S.P S.ty S.Wg S.R
def Sp.D1:zU:=AtRel S.P S.ty S.Wg
def Sp.AtSend (v:zY)(_ _:zP)(g:zH)(w:zW):Prop:=g.status= .running/\∃a z,stepG S.P aG g w= .comm a #[scase S.Cr v z] aF .send w #[]/\S.On S.D6 (Go.Conc.served a ij) w
def Sp.UZ (i:Nat)(rs ws:zP)(g:zH)(w:zW):Prop:=∃v,S.Ok i v ws w/\S.AtSend v rs ws g w
inductive Sp.WSit (v:Nat)(rs ws:zP):Span->Nat->zU
 |busy {tr g w} (h:dR S.P aG S.J (S.UZ v) tr rs ws g w):Sp.WSit v rs ws (9,tr) 0 g w
 |parked {m g z x w} (hv:S.Ok v x ws w) (h:S.Goes S.D6 m (Go.Conc.served g ij) w):Sp.WSit v rs ws (8,.leaf) 0 (parked g #[scase S.Cr x z] .send) w
 |rm {m g w} (h:S.Goes S.D6 m g w):Sp.WSit v rs ws (7,.nat m) 0 g w
 |wC {m g w} (h:S.Goes S.D5 m g w):Sp.WSit v rs ws (6,.nat m) 0 g w
 |dn {m g w} (h:S.Goes S.D4 m g w):Sp.WSit v rs ws (5,.nat m) 1 g w
 |one {m g w} (h:S.Goes S.D3 m g w):Sp.WSit v rs ws (3,.nat m) 1 g w
 |null {m g w} (h:S.Goes S.D2 m g w):Sp.WSit v rs ws (2,.nat m) 1 g w
 |rel {m g w} (h:S.Goes S.D1 m g w):Sp.WSit v rs ws (1,.nat m) 1 g w
 |quit {q d g w} (h:QuitsD S.P q d g):Sp.WSit v rs ws (0,.nat q) d g w
def Sp.CCl (g:zH)(w:zW):Prop:=g.status= .running/\mayWake S.P g=aF/\∀cap s r t,w.heap[S.Cd]? =aA (.chan cap #[] aG s r t)-> ∃a,stepG S.P aG g w= .go a (w.setChan S.Cd cap #[] aF s r t) (closeEvents S.Cd)/\∃q,QuitsD S.P q 0 a
def Sp.aAK:zU:=iR S.P aG (.acquire (stA S.Wg)) (S.On S.CCl)
def Sp.CEn:zU:=iR S.P aG .enable (S.On S.aAK)
def Sp.lh:zU:=Zk S.P aG S.ty S.Wg (S.On S.CEn)
def Sp.su:zU:=lj S.P aG S.ty S.Wg (S.On S.lh)
def Sp.CWm:zU:=iR S.P aG (.write (smA S.Wg)) (S.On S.su)
def Sp.sy (v:Nat):zU:=lp S.P aG S.ty S.Wg v (S.On S.CWm) (S.On S.rK)
def Sp.CLd:zU:=aAL S.P aG S.ty S.Wg (S.On S.CEn) λv=>S.On (S.sy v)
def Sp.sx:zU:=iR S.P aG .disable (S.On S.rK)
inductive Sp.CSit (V:Nat)(rs ws:zP):Span->Nat->zU
 |busy {tr g w} (h:dR S.P aG S.J (λ_ _=>S.sx) tr rs ws g w):Sp.CSit V rs ws (15,tr) 0 g w
 |FF {m v g w} (h:S.Goes (S.sy v) m g w) (hv:V<v):Sp.CSit V rs ws (13,.nat m) 1 g w
 |anch {m g w} (h:S.Goes S.rK m g w):Sp.CSit V rs ws (12,.nat m) 1 g w
 |ld {m g w} (h:S.Goes S.CLd m g w):Sp.CSit V rs ws (10,.nat m) 1 g w
 |ri {m g w} (h:S.Goes (S.sy V) m g w) (hv:V≠0):Sp.CSit V rs ws (8,.nat m) 1 g w
 |wm {m g w} (h:S.Goes S.CWm m g w):Sp.CSit V rs ws (7,.nat m) 1 g w
 |Mo {m g w} (h:S.Goes S.su m g w):Sp.CSit V rs ws (6,.nat m) 1 g w
 |blk {m g w} (h:S.Goes S.su m g w) (ho:g.offers=aB) (hr:g.status= .running):Sp.CSit V rs ws (6,.nat m) 1 {g with status:= .blocked} w
 |zero {m g w} (h:S.Goes S.lh m g w):Sp.CSit V rs ws (5,.nat m) 1 g w
 |en {m g w} (h:S.Goes S.CEn m g w):Sp.CSit V rs ws (4,.nat m) 1 g w
 |acq {m g w} (h:S.Goes S.aAK m g w):Sp.CSit V rs ws (3,.nat m) 0 g w
 |cl {m g w} (h:S.Goes S.CCl m g w):Sp.CSit V rs ws (2,.nat m) 0 g w
 |quit {q d g w} (h:QuitsD S.P q d g):Sp.CSit V rs ws (0,.nat q) d g w
def Sp.cases (z a:zY):Array CommCase:= #[rcase S.Cr z,rcase S.Cd a]
def add (R:zP)(i:Nat):zP:=λk=>R k\/k=i
structure Sp.Za (R rs ws:zP)(BR:zH)(sh:CommShape)(zr zd:zY)(w:zW):Prop where
 again:∀w₁,cD rs ws w w₁->S.J w₁->stepG S.P aF {BR with status:= .running} w₁= .comm BR (S.cases zr zd) aF sh w₁ #[]
 got:∀w₁,cD rs ws w w₁->S.J w₁->∀i v h,i<S.n->¬R i->S.Ok i v h w₁->(∀b,h b->b<w₁.heap.size/\¬rs b/\¬ws b)->∃tr,dR S.P aF S.J (S.M (add R i)) tr rs (λb=>ws b\/h b) (BR.finishComm S.P (S.cases zr zd) sh 0 v aF) w₁
 done:(∀i,i<S.n->R i)->∀w₁,cD rs ws w w₁->S.J w₁->S.Fin rs ws (BR.finishComm S.P (S.cases zr zd) sh 1 zd aG) w₁
def EvM (S:Sp)(rs ws:zP)(e:Event):Prop:=Is rs ws e\/(∃a wr,e=⟨.cell a,wr,aF⟩/\a.block=S.Wg)\/e=mk .disable\/e=mk .enable\/∃a,e=mk (.read a)/\a.block=S.Wg
def Sp.eC (St:(zP)->(zP)->zU):Tree->Nat->(zP)->(zP)->zU
 | .leaf,d,rs,ws,g,w=>d=0/\∀a,cD rs (λb=>ws b\/b=S.Wg) w a->St rs ws g a| .node ch,d,rs,ws,g,w=>g.status= .running/\∀a,cD rs (λb=>ws b\/b=S.Wg) w a->∃h c f,stepG S.P aF g a= .go h c f/\Go.Ren.Does (λb=>ws b\/b=S.Wg) a c/\S.J c/\(∀e∈f,EvM S rs (grown ws a c) e)/\Sp.eC St (ch a) (deafBehind d f) rs (grown ws a c) h c
def Sp.Fk:Nat->(zP)->(zP)->zU
 |0=>λrs a g w=>g.status= .running/\WgAt S.ty S.Wg w (S.n*KK) 0/\∃c child h,stepG S.P aF g w= .spawn c child w #[]/\(∀b,h b->rs b\/a b)/\ (∃tr,dR S.P aG S.J (λ_ _=>S.sx) tr h (λ_=>False) child w)/\∃tr,dR S.P aF S.J (S.M λ_=>False) tr (λb=>rs b\/h b) (λb=>a b/\¬h b) c w|k+1=>λrs a g w=>g.status= .running/\∃c child h,stepG S.P aF g w= .spawn c child w #[]/\(∀b,h b->rs b\/a b)/\ (∃tr,dR S.P aG S.J (S.UZ (S.n-1-k)) tr h (λ_=>False) child w)/\∃tr,S.eC (Sp.Fk k) tr 0 (λb=>rs b\/h b) (λb=>a b/\¬h b) c w
inductive Sp.NC (R rs ws:zP)(u:Nat):Span->zU
 |busy {tr g w} (h:dR S.P aF S.J (S.M R) tr rs ws g w):Sp.NC R rs ws u (3*u+2,tr) g w
 |parked {g sh zr zd w} (h:S.Za R rs ws g sh zr zd w):Sp.NC R rs ws u (3*u+1,.leaf) (parked g (S.cases zr zd) sh) w
 |tries {g sh zr zd w} (h:S.Za R rs ws g sh zr zd w):Sp.NC R rs ws u (3*u,.leaf) {parked g (S.cases zr zd) sh with status:= .running} w
variable {S}
def Sp.Goes.rely {Stop:zU}{m:Nat}{g:zH}{w w₁:zW}(h:S.Goes Stop m g w)(j:S.J w₁):S.Goes Stop m g w₁:=Go.Conc.Goes.rely ji h j
def Sp.WSit.rely {v rs ws f d g w w₁}(h:S.WSit v rs ws f d g w)(r:cD rs ws w w₁)(j:S.J w₁):S.WSit v rs ws f d g w₁:=by cases h with|busy h=>exact .busy (h.rely r)|parked a h=>exact .parked (S.Fa a r) (Sp.Goes.rely h j)|rm h=>exact .rm (Sp.Goes.rely h j)|wC h=>exact .wC (Sp.Goes.rely h j)|dn h=>exact .dn (Sp.Goes.rely h j)|one h=>exact .one (Sp.Goes.rely h j)|null h=>exact .null (Sp.Goes.rely h j)|rel h=>exact .rel (Sp.Goes.rely h j)|quit h=>exact .quit h
def Sp.CSit.rely {V rs ws f d g w w₁}(h:S.CSit V rs ws f d g w)(r:cD rs ws w w₁)(j:S.J w₁):S.CSit V rs ws f d g w₁:=by cases h with|busy h=>exact .busy (h.rely r)|FF h a=>exact .FF (Sp.Goes.rely h j) a|anch h=>exact .anch (Sp.Goes.rely h j)|ld h=>exact .ld (Sp.Goes.rely h j)|ri h a=>exact .ri (Sp.Goes.rely h j) a|wm h=>exact .wm (Sp.Goes.rely h j)|Mo h=>exact .Mo (Sp.Goes.rely h j)|blk h c b=>exact .blk (Sp.Goes.rely h j) c b|zero h=>exact .zero (Sp.Goes.rely h j)|en h=>exact .en (Sp.Goes.rely h j)|acq h=>exact .acq (Sp.Goes.rely h j)|cl h=>exact .cl (Sp.Goes.rely h j)|quit h=>exact .quit h
def Sp.Za.rely {R rs ws:zP}{g:zH}{sh:CommShape}{z c:zY}{w w₁:zW}(h:S.Za R rs ws g sh z c w)(r:cD rs ws w w₁):S.Za R rs ws g sh z c w₁:= ⟨by grind[cD.trans,again],λa b j=>h.got a (r.trans b) j,by grind[done,cD.trans]⟩
def Sp.NC.rely {R rs ws u f g w w₁}(h:S.NC R rs ws u f g w)(r:cD rs ws w w₁):S.NC R rs ws u f g w₁:=by cases h with|busy h=>exact .busy (h.rely r)|parked h=>exact .parked (h.rely r)|tries h=>exact .tries (h.rely r)
def Sp.eC.rely {St tr d rs ws g w w₁}(h:S.eC St tr d rs ws g w)(r:cD rs (λb=>ws b\/b=S.Wg) w w₁):S.eC St tr d rs ws g w₁:=by cases tr with|leaf=>exact⟨h.1,λa c=>h.2 a (r.trans c)⟩|node ch=>exact⟨h.1,λa c=>h.2 a (r.trans c)⟩
end Go.Ga
namespace Go.Ga
open Go.Conc Go.Ren Go.Tr Go.Wg
open Go.ConcR (KK WgAt stA smA mk DC0)
open Go.ConcN (WgLive)
variable(S:Sp)
def Sp.at' (b:Nat):Prop:=S.tS b\/b=S.Wg\/b=S.Cr\/b=S.Cd
def Sp.pm (rs ws:Nat->zP)(sdo:Nat):Pm:=⟨rs,ws,λj b=>b=S.Wg/\j=sdo,S.at'⟩
structure Sp.Base (N:Nat)(w:zW)(t:Trace)(rs ws:Nat->zP)(sdo:Nat)(Live:zP):Prop where
 lt:∀{j b},rs j b\/ws j b->b<w.heap.size
 IU:∀{j k b},ws j b->ws k b->j=k
 NJ:∀{j k b},ws j b->rs k b->j=k
 off:∀{j b},rs j b\/ws j b->¬S.at' b
 pR:∀{b},S.at' b->b<w.heap.size
 live:S.J w
 ti:TI t (S.pm rs ws sdo) Live
 low:∀op∈t,op.act.low w.heap.size
 above:∀j,N<=j->Deaf t j=0
def EvS (sdo j:Nat)(rs ws:zP)(e:Event):Prop:=Is rs ws e\/(∃a wr,e=⟨.cell a,wr,aF⟩/\a.block=S.Wg)\/e=mk .disable\/e=mk .enable\/(∃a,(e=mk (.releaseMerge a)\/e=mk (.acquire a))/\a.block=S.Wg)\/ (j=sdo/\∃a,(e=mk (.read a)\/e=mk (.write a))/\a.block=S.Wg)\/(∃wr,e=⟨.obj S.Cd,wr,aF⟩)\/e.mute=aF
variable {S}
theorem Sp.Base.ok {N:Nat}{w:zW}{t:Trace}{rs ws:Nat->zP}{sdo:Nat}{Live:zP}(h:S.Base N w t rs ws sdo Live):(S.pm rs ws sdo).Ok where
 oa:=h.IU
 oc:=h.NJ
 Yo:=λa x=>h.off (aH x) a
 Ij:=λa x=>h.off (aI x) a
 we:=λa b=>a.2.trans b.2.symm
 Dy:=λa=>aI (aH a.1)
def Js {B}{x:MemAct}{a}(h:x.low B)(c:x.touch? =aA a){b}(d:blk a.loc=aA b):b<B:=by cases x with|access e=>simp only[MemAct.touch?,Cz]at c;subst c;simp only[MemAct.low]at h;cases hl:e.loc<;>rw[hl]at d h<;>simp_all[blk,Loc.low]|mark m=>cases m<;>simp only[MemAct.touch?,Cz,reduceCtorEq]at c;all_goals subst c;simp only[blk,Cz]at d;subst d;exact h|_=>simp[MemAct.touch?]at c
theorem Yr {sdo j rs ws e}(h:EvS S sdo j (rs j) (ws j) e):∀x,(MemAct.ofEvent e).touch? =aA x->lq (S.pm rs ws sdo) j x:=by intro x c b d;obtain((⟨a,wr,s,rfl,h⟩|⟨r,s,rfl,h⟩|h|h|⟨f,h⟩))|⟨a,wr,rfl,h⟩|rfl|rfl|⟨a,rfl|rfl,h⟩|⟨rfl,a,rfl|rfl,h⟩|⟨wr,rfl⟩|h:=h;{have:MemAct.ofEvent ⟨.cell a,wr,s⟩= .access ⟨.cell a,wr,s⟩:=rfl;rw[this]at c;simp only[MemAct.touch?,Cz]at c;subst c;simp only[blk,Cz]at d;subst d;obtain h|⟨h1,g⟩:=h;{exact aI (aH ⟨ji,h⟩)};.exact aH ⟨ji,h1,aH g⟩};{have:MemAct.ofEvent ⟨.obj r,aG,s⟩= .access ⟨.obj r,aG,s⟩:=rfl;rw[this]at c;simp only[MemAct.touch?,Cz]at c;subst c;simp only[blk,Cz]at d;subst d;exact aH ⟨ji,rfl,h.elim aI aH⟩};{exact J6};{obtain⟨loc,wr,s⟩:=e;simp only at h;subst h;simp only[MemAct.ofEvent,MemAct.touch?,Cz]at c;subst c;simp[blk]at d};{exact J6};{have:MemAct.ofEvent ⟨.cell a,wr,aF⟩= .access ⟨.cell a,wr,aF⟩:=rfl;rw[this]at c;simp only[MemAct.touch?,Cz]at c;subst c;simp only[blk,Cz]at d;subst d;exact aI (aI (aH ⟨rfl,aI (aH h)⟩))};{exact I5};{exact I5};{exact I5};{exact I5};{exact F5};{exact F5};{cases wr with|true=>simp[MemAct.ofEvent,MemAct.touch?]at c|false=>simp only[MemAct.ofEvent,MemAct.touch?,Cz]at c;subst c;simp only[blk,Cz]at d;subst d;exact aI (aI (aH ⟨rfl,aI bm⟩))};exact J5
def pd {sdo j B rs ws e}(h:EvS S sdo j rs ws e)(c:∀b,rs b\/ws b->b<B)(g:S.Wg<B)(d:S.Cd<B):(MemAct.ofEvent e).low B:=by obtain((⟨a,wr,s,rfl,h⟩|⟨r,s,rfl,h⟩|h|h|⟨f,h⟩))|⟨a,wr,rfl,h⟩|rfl|rfl|⟨a,rfl|rfl,h⟩|⟨rfl,a,rfl|rfl,h⟩|⟨wr,rfl⟩|h:=h;{have:MemAct.ofEvent ⟨.cell a,wr,s⟩= .access ⟨.cell a,wr,s⟩:=rfl;rw[this];exact c _ ji};{have:MemAct.ofEvent ⟨.obj r,aG,s⟩= .access ⟨.obj r,aG,s⟩:=rfl;rw[this];exact c _ ji};{exact I9};{exact I9};{exact I9};{have:MemAct.ofEvent ⟨.cell a,wr,aF⟩= .access ⟨.cell a,wr,aF⟩:=rfl;rw[this];exact P6};{trivial};{trivial};{exact P6};{exact P6};{exact P6};{exact P6};{cases wr<;>exact d};.exact low_mute h B
def Sp.NF (ws:zP):zP:=λb=>ws b\/b=S.Wg\/b=S.Cr\/b=S.Cd
section
variable {N:Nat}{w w':zW}{t:Trace}{rs ws:Nat->zP}{sdo j:Nat}{Live:zP}{fn:zN}{pos:String}{es:zE}
def Sp.Base.nR (h:S.Base N w t rs ws sdo Live)(d:Go.Ren.Does (Sp.NF (S:=S) (ws j)) w w'){k}(hk:k≠j):cD (rs k) (ws k) w w':=by refine⟨λb c=>d.keep b (h.lt c) λa=> ?_,d.size,d.tape,d.os,d.output⟩;have e:=h.off c;obtain a|a|a|a:=a;{obtain c|c:=c;{exact hk (h.NJ a c).symm};.exact hk (h.IU a c).symm};{exact e (aI (aH a))};{exact e (aI (aI (aH a)))};.exact e (aI (aI (aI a)))
theorem Sp.Base.own (h:S.Base N w t rs ws sdo Live)(B:j<N)(q:Go.Ren.Does (Sp.NF (S:=S) (ws j)) w w')(H:S.J w')(L:∀e∈es,EvS S sdo j (rs j) (grown (ws j) w w') e) (hl:j=0\/Live j\/∀k e,es[k]? =aA e->(MemAct.ofEvent e).touch? =aB\/((∃a wr,e=⟨.cell a,wr,aF⟩/\a.block=S.Wg)/\0<deafBehind (Deaf t j) (es.extract 0 k))): S.Base N w' (t++Ed j fn pos es) rs (put ws j (grown (ws j) w w')) sdo Live:=by have d:∀k b,put ws j (grown (ws j) w w') k b->ws k b\/(k=j/\w.heap.size<=b/\b<w'.heap.size):=λk b c=>by{by_cases e:k=j;{subst e;rw[aX]at c;exact c.imp id bm};{rw[bS _ _ e]at c;grind}};have v:∀k b,ws k b->put ws j (grown (ws j) w w') k b:=λk b c=>by{by_cases e:k=j;{subst e;rw[aX];exact aH c};{rw[bS _ _ e];exact c}};have n:∀op∈Ed j fn pos es,op.g=j:=by{grind[Conc.mem_ofEvents]};have base:S.Base N w' t rs (put ws j (grown (ws j) w w')) sdo Live:=by{refine⟨λ{k b} c=> ?_,λ{k z b} c m=> ?_,λ{k z b} c m=> ?_,λ{k b} c=> ?_,λ{b} c=>Ao (h.pR c) q.size,H,?_,λop f=>MemAct.low_mono q.size (h.low op f),h.above⟩;{obtain c|c:=c;{exact Ao (h.lt (aH c)) q.size};.obtain x|x:=d k b c;{exact Ao (h.lt (aI x)) q.size};exact bm};{obtain x|x:=d k b c<;>obtain y|y:=d z b m;{exact h.IU x y};{have:=h.lt (aI x);exact bm};{have:=h.lt (aI y);exact bm};exact bm};{obtain x|x:=d k b c;{exact h.NJ x m};.have:=h.lt (aH m);exact bm};{obtain c|c:=c;{exact h.off (aH c)};.obtain x|x:=d k b c;{exact h.off (aI x)};.intro o;have:=h.pR o;exact bm};.refine h.ti.to (λk b c=>aH (aH c)) (λk b c=> ?_) (λk b c=>aH (aH c)) (λb c=>aH c) (λb c=>c) (λk p=>p);obtain x|x:=d k b c;{exact aH x};.exact aI (by have F:=x.2.1;intro i a hi e;let⟨op,f,r⟩:=touch_of hi;have:=Js (h.low op ji) r e;exact bm)};have u:∀e∈es,EvS S sdo j (rs j) (put ws j (grown (ws j) w w') j) e:=λe o=>by{rw[aX];grind};refine⟨base.lt,base.IU,base.NJ,base.off,base.pR,base.live,?_,?_,λk p=> ?_⟩;{refine base.ti.own base.ok n ?_ (λop f x o=> ?_);{obtain hl|hl|hl:=hl;{exact bm};{exact ji};.refine aI (aI λi op hi f x o K=> ?_);have p:(Ed j fn pos es)[i-t.size]? =aA op:=by{exact ji};rw[ofEvents_eq,Hk]at p;obtain⟨e,l,rfl⟩:=Gh.1 p;have A:=(Ax.1 l).1;obtain I|⟨⟨a,wr,rfl,G⟩,D⟩:=hl _ e l;{grind};.have:MemAct.ofEvent ⟨.cell a,wr,aF⟩= .access ⟨.cell a,wr,aF⟩:=rfl;simp only[this,MemAct.touch?,Cz]at o;subst o;refine⟨⟨a.block,rfl,aI (aH G),rfl⟩,λhh=> ?_⟩;let⟨g,C,E⟩:=hh;have s:g=j:=by{simp only[Trace.g?,f,Fz,Cz]at C;exact bm};subst s;have M:=deaf_inside t g fn pos es (i-t.size) bm;exact ji};grind[Conc.mem_ofEvents,Yr]};{refine seen_app base.low λop f=> ?_;obtain⟨e,l,rfl⟩:=Go.Conc.mem_ofEvents f;exact pd (u e l) (λb c=>base.lt c) (base.pR (aI (aH rfl))) (base.pR (aI bm))};.rw[Deaf_other t bm _ n];exact base.above k p
end
end Go.Ga
namespace Go.Ga
open Go.Conc Go.Ren Go.Tr Go.Wg
open Go.ConcR (KK WgAt stA smA mk DC0)
open Go.ConcN (WgLive sumTo sumTo_congr)
variable(S:Sp)
def Sp.ph (f:Nat->Span)(i:Nat):Nat:=(f (S.m0+i)).1
def Sp.V (f:Nat->Span):Nat:=sumTo S.n λi=>if 5<=S.ph f i then 1 else 0
def Sp.U (f:Nat->Span):Nat:=sumTo S.n λi=>if 8<=S.ph f i then 1 else 0
def Sp.Rc (f:Nat->Span):zP:=λi=>i<S.n/\S.ph f i<=7
def Sp.lK (f:Nat->Span)(i:Nat):Prop:=1<=S.ph f i/\S.ph f i<=3
def Sp.kT (f:Nat->Span):Prop:=∀i,i<S.n->¬S.lK f i
def Sp.kO (f:Nat->Span)(i:Nat):Prop:=i<S.n/\∀k,k<S.n->k≠i->¬S.lK f k
inductive Sp.Mode (f:Nat->Span)(st:GoStatus)(w:zW):Prop
 |a (hc:8<=S.ph f S.n) (hl:S.kT f) (hw:WgAt S.ty S.Wg w (S.V f*KK) 0)
 |b (hc:S.ph f S.n=7\/S.ph f S.n=6) (hv:0<S.V f) (hl:S.kT f) (hw:WgAt S.ty S.Wg w (S.V f*KK+1) 0)
 |c (hc:S.ph f S.n=7\/S.ph f S.n=6) (hv:S.V f=0) (i:Nat) (hl:S.kO f i) (hi:S.ph f i=3\/S.ph f i=2) (hw:WgAt S.ty S.Wg w 1 0)
 |c' (hc:S.ph f S.n=7\/S.ph f S.n=6) (hv:S.V f=0) (i:Nat) (hl:S.kO f i) (hi:S.ph f i=1) (hw:WgAt S.ty S.Wg w 0 0)
 |d (hc:S.ph f S.n=7\/S.ph f S.n=6) (hv:S.V f=0) (hl:S.kT f) (hw:WgAt S.ty S.Wg w 0 1) (hs:st≠.blocked)
 |e (hc:S.ph f S.n<=5) (hv:S.V f=0) (hl:S.kT f) (hw:WgAt S.ty S.Wg w 0 0)
def Sp.VF (R:zP)(u V:Nat)(rs ws:Nat->zP)(k:Nat)(f:Span)(d:Nat)(g:zH)(w:zW):Prop:=(k=0->d=0/\S.NC R (rs k) (ws k) u f g w)/\(0<k->k<S.m0->∃q,f=(0,.nat q)/\QuitsD S.P q d g)/\ (∀i,i<S.n->k=S.m0+i->S.WSit i (rs k) (ws k) f d g w)/\(k=S.m0+S.n->S.CSit V (rs k) (ws k) f d g w)
def Sp.Live (f:Nat->Span):zP:=λk=>(∃i,i<S.n/\k=S.m0+i/\8<=S.ph f i)\/k=S.m0+S.n
structure Sp.dV (f:Nat->Span)(gs:zG)(w:zW)(t:Trace)(rs ws:Nat->zP):Prop where
 pos:0<S.m0
 pQ:S.n<2147483647
 size:gs.size=S.m0+S.n+1
 base:S.Base (S.m0+S.n+1) w t rs ws (S.m0+S.n) (S.Live f)
 cr:∃k tm,w.heap[S.Cr]? =aA (.chan 0 #[] aG k k tm)
 cd:∃s r tm,w.heap[S.Cd]? =aA (.chan 0 #[] (decide (S.ph f S.n=0)) s r tm)
 JM:∀k g,gs[k]? =aA g->S.VF (S.Rc f) (S.U f) (S.V f) rs ws k (f k) (Deaf t k) g w
 mode:∀g,gs[S.m0+S.n]? =aA g->S.Mode f g.status w
 nop:(f 0).1=3*S.U f+1->∀i,i<S.n->S.ph f i≠8
 shut:S.ph f S.n=0->(f 0).1≠3*S.U f+1
 tries:(f 0).1=3*S.U f->S.ph f S.n=0
 Ou:S.ph f S.n=0->∃ic,t.act? ic=aA (.close S.Cd)/\t.heard ic/\∀i op a,t[i]? =aA op->op.g=S.m0+S.n->touchAt t i=aA a->Before t i ic
def bit (a:zG)(k:Nat):Nat:=match a[k]? with|some g=>if g.status= .blocked then 0 else 1|none=>0
def Sp.mu (f:Nat->Span)(g:zG):Mu:=(0,S.V f,vec (S.m0+S.n+1) f,bit g (S.m0+S.n))
variable {S}
def iG {f j s}(h:∀i,i<S.n->j=S.m0+i->(8<=s.1↔8<=(f j).1)/\(5<=s.1↔5<=(f j).1)): S.Rc (put f j s)=S.Rc f/\S.U (put f j s)=S.U f/\S.V (put f j s)=S.V f:=by have k:∀i,i<S.n->(8<=S.ph (put f j s) i↔8<=S.ph f i)/\(5<=S.ph (put f j s) i↔5<=S.ph f i):=λi hi=>by{by_cases e:S.m0+i=j;{subst e;simp only[Sp.ph,aX];grind};{simp only[Sp.ph,bS _ _ e,true_and]}};refine⟨?_,El ji,El ji⟩;.funext i;apply propext;constructor;{rintro⟨hi,a⟩;have:=(k i hi).1;exact⟨hi,bm⟩};.rintro⟨hi,a⟩;have:=(k i hi).1;exact⟨hi,bm⟩
def Sp.VF.rely {R:zP}{u V:Nat}{rs ws:Nat->zP}{k:Nat}{f:Span}{d:Nat}{g:zH}{w w₁:zW}(h:S.VF R u V rs ws k f d g w)(r:cD (rs k) (ws k) w w₁)(j:S.J w₁):S.VF R u V rs ws k f d g w₁:= ⟨λe=>⟨(h.1 e).1,(h.1 e).2.rely r⟩,h.2.1,λi hi e=>(h.2.2.1 i hi e).rely r j,λe=>(h.2.2.2 e).rely r j⟩
def Sp.Goes.run {Stop:zU}{m:Nat}{g:zH}{w:zW}(h:S.Goes Stop m g w)(j:S.J w)(hs:∀g w,Stop g w->g.status= .running):g.status= .running:=Go.Conc.Goes.running hs w j h
def Bs {main St tr rs ws g w}(h:dR S.P main S.J St tr rs ws g w)(j:S.J w)(hs:∀rs ws g w,St rs ws g w->g.status= .running):g.status= .running:=by cases tr with|leaf=>exact hs _ _ _ _ (h w (cD.refl _ _ w) j)|node ch=>exact h.1
def Sp.WSit.status {v rs ws f d g w}(h:S.WSit v rs ws f d g w)(j:S.J w):(f.1≠8/\g.status= .running)\/(f.1=8/\g.status= .blocked)\/(f.1=0/\g.status= .finished):=by cases h with|busy h=>exact aH ⟨j0,Bs h j λ_ _ _ _ ⟨_,_,x⟩=>x.1⟩|parked _ h=>exact aI (aH ⟨rfl,rfl⟩)|rm h=>exact aH ⟨j0,h.run j λ_ _ x=>x.1⟩|wC h=>exact aH ⟨j0,h.run j λ_ _ x=>x.1⟩|dn h=>exact aH ⟨j0,h.run j λ_ _ x=>x.1⟩|one h=>exact aH ⟨j0,h.run j λ_ _ x=>x.1⟩|null h=>exact aH ⟨j0,h.run j λ_ _ x=>x.1⟩|rel h=>exact aH ⟨j0,h.run j λ_ _ x=>x.1⟩|quit h=>exact h.status.elim ji ji
def Sp.WSit.woken {v rs ws f d g x b w k s r tm}(h:S.WSit v rs ws f d g w)(j:S.J w)(c:w.heap[S.Cr]? =aA (.chan k #[] aG s r tm)):Go.Conc.woken S.P x b w g=g:=by obtain a|a|a:=h.status j;{exact woken_running a.2};{cases h with|parked h=>exact woken_send_open x b c|quit h=>omega|_=>exact bm};.cases h with|quit h=>exact woken_quitsD h|_=>exact bm
end Go.Ga
namespace Go.Ga
open Go.Conc Go.Ren Go.Tr Go.Wg
open Go.ConcR (KK WgAt stA smA mk DC0)
open Go.ConcN (WgLive sumTo sumTo_congr)
variable {S:Sp}
structure Sp.Good (S:Sp):Prop where
 anch:∀g w,S.J w->S.rK g w->g.status= .running/\S.On S.CLd g w
 sel:∀R rs ws g w,S.J w->S.M R rs ws g w->g.status= .running/\∃BR sh zr zd,stepG S.P aF g w= .comm BR (S.cases zr zd) aF sh w #[]/\S.Za R rs ws BR sh zr zd w
 chans:S.Cr≠S.Cd/\S.Wg≠S.Cr/\S.Wg≠S.Cd
def Sp.CSit.status {V rs ws f d g w}(H:S.Good)(h:S.CSit V rs ws f d g w)(j:S.J w):g.status= .running\/(f.1=6/\g.status= .blocked)\/(f.1=0/\g.status= .finished):=by cases h with|busy h=>exact aH (Bs h j λ_ _ _ _ x=>x.1)|FF h a=>exact aH (h.run j λ_ _ x=>x.1)| @anch m g w h=>{cases m with|zero=>exact aH (H.anch _ _ j (h w j)).1|succ m=>exact h.elim (λx=>aH (H.anch _ _ j (x w j)).1) ji}|ld h=>exact aH (h.run j λ_ _ x=>x.1)|ri h a=>exact aH (h.run j λ_ _ x=>x.1)|wm h=>exact aH (h.run j λ_ _ x=>x.1)|Mo h=>exact aH (h.run j λ_ _ x=>x.1)|blk h c b=>grind|zero h=>exact aH (h.run j λ_ _ x=>x.1)|en h=>exact aH (h.run j λ_ _ x=>x.1)|acq h=>exact aH (h.run j λ_ _ x=>x.1)|cl h=>exact aH (h.run j λ_ _ x=>x.1)|quit h=>exact h.status.elim aH ji
def Sp.CSit.woken {V rs ws f d g x i w}(H:S.Good)(h:S.CSit V rs ws f d g w)(j:S.J w):S.CSit V rs ws f d (Go.Conc.woken S.P x i w g) w:=by obtain a|a|a:=h.status H j;{rw[woken_running a];exact h};{cases h with| @blk m g w h c b=>unfold Go.Conc.woken;split;{have e:({g with status:= .blocked}:zH).again w=g:=by{let⟨fr,cs,st,off,x⟩:=g;simp only at c b;subst c;subst b;simp[Goroutine.again]};rw[e];exact .Mo h};.exact .blk h c b|quit h=>omega|Mo h=>rw[h.run j λ_ _ x=>x.1]at a;grind|_=>exact bm};.cases h with|quit h=>rw[woken_quitsD h];exact .quit h|_=>exact bm
def Sp.NC.status {R rs ws u f g w}(H:S.Good)(h:S.NC R rs ws u f g w)(j:S.J w):(g.status= .running/\(f.1=3*u+2\/f.1=3*u))\/(f.1=3*u+1/\g.status= .blocked):=by cases h with| @busy tr g w h=>{cases tr with|leaf=>exact aH ⟨(H.sel _ _ _ _ _ j (h w (cD.refl _ _ w) j)).1,aH rfl⟩|node ch=>exact aH ⟨h.1,aH rfl⟩}|parked h=>exact aI ⟨rfl,rfl⟩|tries h=>exact ji
def Sp.NC.woken {R rs ws u f g x d w s r s' r' c c' tm tm'}(H:S.Good)(h:S.NC R rs ws u f g w)(j:S.J w)(k:w.heap[S.Cr]? =aA (.chan c #[] aG s r tm))(i:f.1=3*u+1->w.heap[S.Cd]? =aA (.chan c' #[] aG s' r' tm')): Go.Conc.woken S.P x d w g=g:=by obtain a|a:=h.status H j;{exact woken_running a.1};.have e:=i a.1;cases h with|parked h=>refine woken_of_again (again_all_open λl b=> ?_);simp only[Sp.cases,DI,Bb,Bq,Bm]at b;grind|busy h=>omega|tries h=>exact bm
theorem Sp.VF.other {R u V rs ws k f d g x m w w₁ s r s' r' c c' tm tm'}(H:S.Good)(h:S.VF R u V rs ws k f d g w)(b:cD (rs k) (ws k) w w₁)(j:S.J w₁) (l:w₁.heap[S.Cr]? =aA (.chan c #[] aG s r tm)) (n:k=0->f.1=3*u+1->w₁.heap[S.Cd]? =aA (.chan c' #[] aG s' r' tm')):S.VF R u V rs ws k f d (Go.Conc.woken S.P x m w₁ g) w₁:=by have a:=h.rely b j;refine⟨λe=>⟨(a.1 e).1,?_⟩,λv p=> ?_,λi hi e=> ?_,λe=>(a.2.2.2 e).woken H j⟩;{rw[(a.1 e).2.woken H j l (n e)];exact(a.1 e).2};{obtain⟨q,y,o⟩:=a.2.1 v p;rw[woken_quitsD o];exact ji};.rw[(a.2.2.1 i hi e).woken j l];exact a.2.2.1 i hi e
theorem Sp.Mode.same {f f' st Zw w w'}(h:S.Mode f st w)(z:∀i,i<=S.n->S.ph f' i=S.ph f i)(l:w'.heap[S.Wg]? =w.heap[S.Wg]?)(hs:st≠.blocked->Zw≠.blocked):S.Mode f' Zw w':=by have E:S.V f'=S.V f:=El ji;have D:=z S.n (je _);have C:∀i,i<S.n->(S.lK f' i↔S.lK f i):=λi hi=>by{unfold Sp.lK;grind};have m:S.kT f->S.kT f':=λx i hi y=>x i hi ((C i hi).1 y);have p:∀i,S.kO f i->S.kO f' i:=λi x=>⟨x.1,λk B v y=>x.2 k B v ((C k B).1 y)⟩;have r:∀st A,WgAt S.ty S.Wg w st A->WgAt S.ty S.Wg w' st A:=λ_ _ x=>l.trans x;cases h with|a o hl l=>exact .a bm (m hl) ji|b o q hl l=>exact .b bm bm (m hl) ji|c o q i hl hi l=>exact .c bm bm i (p i hl) ((z i (by have:=hl.1;exact bm))▸hi) (r _ _ l)|c' o q i hl hi l=>exact .c' bm bm i (p i hl) ((z i (by have:=hl.1;exact bm))▸hi) (r _ _ l)|d o q hl l u=>exact .d bm bm (m hl) (r _ _ l) (hs u)|e o q hl l=>exact .e bm bm (m hl) (r _ _ l)
def lF (gs:zG)(a:zH->zH)(j k)(x g)(h:(zAI (gs.map a) j x)[k]? =aA g):(k=j/\g=x)\/(k≠j/\∃y,gs[k]? =aA y/\g=a y):=ji
section
variable {f:Nat->Span}{gs:zG}{w w':zW}{t:Trace}{rs ws:Nat->zP}{j:Nat}{g g':zH}{es:zE}{fn:zN}{pos:String}{s:Span}
theorem Sp.dV.nS {f'}(H:S.Good)(h:S.dV f gs w t rs ws)(hj:gs[j]? =aA g)(Y:Go.Ren.Does (Sp.NF (S:=S) (ws j)) w w')(hJ:S.J w')(he:∀e∈es,EvS S (S.m0+S.n) j (rs j) (grown (ws j) w w') e) (hl:j=0\/S.Live f j\/∀k e,es[k]? =aA e->(MemAct.ofEvent e).touch? =aB\/((∃a wr,e=⟨.cell a,wr,aF⟩/\a.block=S.Wg)/\0<deafBehind (Deaf t j) (es.extract 0 k))) (E:w'.heap[S.Cr]? =w.heap[S.Cr]?) (Z:w'.heap[S.Cd]? =w.heap[S.Cd]?) (o:S.Live f'=S.Live f) (G:S.U f'=S.U f) (l:(f' 0).1=(f 0).1\/(f' 0).1=3*S.U f+2) (b:S.ph f' S.n=0↔S.ph f S.n=0) (h8:∀i,i<S.n->S.ph f' i=8->S.ph f i=8) (q:∀k x,k≠j->S.VF (S.Rc f) (S.U f) (S.V f) rs ws k (f k) (Deaf t k) x w->S.VF (S.Rc f') (S.U f') (S.V f') rs ws k (f' k) (Deaf t k) x w) (p:S.VF (S.Rc f') (S.U f') (S.V f') rs (put ws j (grown (ws j) w w')) j (f' j) (deafBehind (Deaf t j) es) g' w') (m:∀y,(zAI (gs.map (Go.Conc.woken S.P g g' w')) j g')[S.m0+S.n]? =aA y->S.Mode f' y.status w') (hk:j=S.m0+S.n->S.ph f S.n=0->∀e∈es,(MemAct.ofEvent e).touch? =aB): S.dV f' (zAI (gs.map (Go.Conc.woken S.P g g' w')) j g') w' (t++Ed j fn pos es) rs (put ws j (grown (ws j) w w')):=by have W:j<gs.size:=by{grind};have C:=h.size;have u:∀op∈Ed j fn pos es,op.g=j:=by{grind[Conc.mem_ofEvents]};let⟨B,A,v⟩:=h.cr;let⟨s0,r0,tm1,F⟩:=h.cd;refine⟨h.pos,h.pQ,by simp[C],?_,ji,⟨s0,r0,tm1,?_⟩,λk y N=> ?_,m,λQ i hi=> ?_,λc=> ?_,λc=> ?_,λc=> ?_⟩;{rw[o];grind[Base.own,base]};{exact ji};{obtain⟨rfl,rfl⟩|⟨d,z,c,rfl⟩:=lF _ _ _ _ _ _ N;{rw[Deaf_own];exact p};.rw[Deaf_other t (λe=>d e.symm) _ u];have O:=q k z d (h.JM k z c);have e1:put ws j (grown (ws j) w w') k=ws k:=bS _ _ d;have D:S.VF (S.Rc f') (S.U f') (S.V f') rs (put ws j (grown (ws j) w w')) k (f' k) (Deaf t k) z w:=by{unfold Sp.VF at O⊢;exact ji};refine D.other (s:=B) (r:=B) (tm:=A) (s':=s0) (r':=r0) (tm':=tm1) (c':=0) H ?_ hJ (E.trans v) (λB Q=> ?_);{rw[e1];exact h.base.nR Y d};grind[shut]};{grind[nop]};{rw[G];obtain l|l:=l;{rw[l];exact h.shut (b.1 c)};.exact bm};{rw[G]at c;obtain l|l:=l;{rw[l]at c;exact b.2 (h.tries c)};.exact bm};.obtain⟨M,I,h2,h3⟩:=h.Ou (b.1 c);have hlt:=lt_of_act? I;refine⟨M,by rw[act?_old hlt];exact I,(heard_old hlt).2 h2,λi op a hi hg ha=> ?_⟩;obtain⟨X,ue⟩|⟨L,_,hx,T,R⟩:=dX ha;{grind[getElem?_append_old,Before.app]};grind[Conc.mem_ofEvents,Mt]
theorem BH {f'}(h:∀i,i<S.n->(8<=S.ph f' i↔8<=S.ph f i)):S.Live f'=S.Live f:=by funext k;apply propext;exact or_congr ji Iff.rfl
theorem Sp.dV.own (H:S.Good)(h:S.dV f gs w t rs ws)(z:gs[j]? =aA g)(B:Go.Ren.Does (Sp.NF (S:=S) (ws j)) w w')(E:S.J w')(A:∀e∈es,EvS S (S.m0+S.n) j (rs j) (grown (ws j) w w') e) (hl:j=0\/S.Live f j\/∀k e,es[k]? =aA e->(MemAct.ofEvent e).touch? =aB\/((∃a wr,e=⟨.cell a,wr,aF⟩/\a.block=S.Wg)/\0<deafBehind (Deaf t j) (es.extract 0 k))) (p:w'.heap[S.Cr]? =w.heap[S.Cr]?) (q:w'.heap[S.Cd]? =w.heap[S.Cd]?) (b:∀i,i<S.n->j=S.m0+i->(8<=s.1↔8<=(f j).1)/\(5<=s.1↔5<=(f j).1)) (c:∀i,i<S.n->j=S.m0+i->s.1=8->(f j).1=8) (m:j=S.m0+S.n->(s.1=0↔(f j).1=0)) (o:j=0->s.1=3*S.U f+2) (r:S.VF (S.Rc f) (S.U f) (S.V f) rs (put ws j (grown (ws j) w w')) j s (deafBehind (Deaf t j) es) g' w') (d:∀y,(zAI (gs.map (Go.Conc.woken S.P g g' w')) j g')[S.m0+S.n]? =aA y->S.Mode (put f j s) y.status w') (hk:j=S.m0+S.n->S.ph f S.n=0->∀e∈es,(MemAct.ofEvent e).touch? =aB): S.dV (put f j s) (zAI (gs.map (Go.Conc.woken S.P g g' w')) j g') w' (t++Ed j fn pos es) rs (put ws j (grown (ws j) w w')):=by let⟨D,C,G⟩:=iG (S:=S) (f:=f) (j:=j) (s:=s) b;have v:∀i,S.m0+i≠j->S.ph (put f j s) i=S.ph f i:=λi l=>by{simp only[Sp.ph,bS _ _ l]};refine h.nS H z B E A hl p q (BH λi hi=> ?_) C ?_ ?_ (λi hi u=> ?_) (λk x l F=> ?_) ?_ d hk;{by_cases e:S.m0+i=j;{subst e;have:=(b i hi rfl).1;simpa only[Sp.ph,aX]using this};exact ji};{by_cases e:j=0;{grind[aX]};.rw[bS _ _ (λx=>e x.symm)];exact bm};{by_cases e:S.m0+S.n=j;{subst e;simp only[Sp.ph,aX];exact bm};exact ji};{by_cases e:S.m0+i=j;{subst e;simp only[Sp.ph,aX]at u;exact c i hi rfl u};exact ji};{grind[bS]};grind[aX]
end
def SU (rs ws)(w)(d):cD rs ws w (w.at d):=⟨λ_ _=>rfl,je _,rfl,rfl,rfl⟩
def Sp.Base.at {N:Nat}{w:zW}{t:Trace}{rs ws:Nat->zP}{sdo:Nat}{Live:zP}(h:S.Base N w t rs ws sdo Live)(d:Nat):S.Base N (w.at d) t rs ws sdo Live:= ⟨h.lt,h.IU,h.NJ,h.off,h.pR,h.live,h.ti,h.low,h.above⟩
def Sp.dV.at {f:Nat->Span}{gs:zG}{w:zW}{t:Trace}{rs ws:Nat->zP}(h:S.dV f gs w t rs ws)(d:Nat):S.dV f gs (w.at d) t rs ws:= ⟨h.pos,h.pQ,h.size,h.base.at d,h.cr,h.cd,λk g a=>(h.JM k g a).rely (SU _ _ w d) h.base.live,λg a=>(h.mode g a).same (λ_ _=>rfl) rfl id,h.nop,h.shut,h.tries,h.Ou⟩
def Sp.Step (S:Sp)(f:Nat->Span)(gs:zG)(w:zW)(sl:Option (Nat×Nat))(t:Trace)(j:Nat):Prop:= ∃a w' c r b ops,runT S.P (crowd gs w sl) j=(.next (crowd a w' sl),ops)/\S.dV c a w' (t++ops) r b/\Mu.Lt (S.mu c a) (S.mu f gs)
def dO {Stop m g w}(h:S.Goes Stop m g w)(j:S.J w):Stop g w\/∃a g',m=a+1/\stepG S.P aG g w= .go g' w #[]/\S.Goes Stop a g' w:=by cases m with|zero=>exact aH (h w j)|succ m=>obtain h|⟨_,h⟩:=h;{grind};{let⟨g',w',es,e,⟨d,c⟩,b⟩:=goes_elim (h w j);grind}
section
variable {f:Nat->Span}{gs:zG}{w w':zW}{t:Trace}{rs ws:Nat->zP}{j:Nat}{g g':zH}{es:zE}{s:Span}{sl:Option (Nat×Nat)}
def Sp.dV.go_own (H:S.Good)(h:S.dV f gs w t rs ws)(q:gs[j]? =aA g)(p:stepG S.P (j==0) g w= .go g' w' es)(hlt:Span.Lt s (f j))(A:Go.Ren.Does (Sp.NF (S:=S) (ws j)) w w')(B:S.J w')(z:∀e∈es,EvS S (S.m0+S.n) j (rs j) (grown (ws j) w w') e) (hl:j=0\/S.Live f j\/∀k e,es[k]? =aA e->(MemAct.ofEvent e).touch? =aB\/((∃a wr,e=⟨.cell a,wr,aF⟩/\a.block=S.Wg)/\0<deafBehind (Deaf t j) (es.extract 0 k))) (r:w'.heap[S.Cr]? =w.heap[S.Cr]?) (u:w'.heap[S.Cd]? =w.heap[S.Cd]?) (b:∀i,i<S.n->j=S.m0+i->(8<=s.1↔8<=(f j).1)/\(5<=s.1↔5<=(f j).1)) (d:∀i,i<S.n->j=S.m0+i->s.1=8->(f j).1=8) (c:j=S.m0+S.n->(s.1=0↔(f j).1=0)) (m:j=0->s.1=3*S.U f+2) (o:S.VF (S.Rc f) (S.U f) (S.V f) rs (put ws j (grown (ws j) w w')) j s (deafBehind (Deaf t j) es) g' w') (l:∀y,(zAI (gs.map (Go.Conc.woken S.P g g' w')) j g')[S.m0+S.n]? =aA y->S.Mode (put f j s) y.status w') (hk:j=S.m0+S.n->S.ph f S.n=0->∀e∈es,(MemAct.ofEvent e).touch? =aB):S.Step f gs w sl t j:=by refine⟨_,w',put f j s,rs,_,_,runT_crowd_go q p,h.own H q A B z hl r u b d c m o l hk,?_⟩;have x:=(Ax.1 q).1;have v:=h.size;unfold Sp.mu;rw[(iG (S:=S) (f:=f) (j:=j) (s:=s) b).2.2];exact Mu.one (nZ bm hlt)
theorem aMQ (H:S.Good)(h:S.dV f gs w t rs ws)(l:gs[j]? =aA g)(o:S.J w')(m:j=S.m0+S.n->g'.status≠.blocked){y b}(d:gs[S.m0+S.n]? =aA y) (a:(zAI (gs.map (Go.Conc.woken S.P g g' w')) j g')[S.m0+S.n]? =aA b) (e:y.status≠.blocked):b.status≠.blocked:=by obtain⟨p,rfl⟩|⟨i,z,c,rfl⟩:=lF _ _ _ _ _ _ a;{exact ji};.rw[d]at c;obtain rfl:=Ay c;have k:=((h.JM _ y d).2.2.2 rfl);obtain x|x|x:=k.status H h.base.live;{rw[woken_running x];exact e};{exact ji};.rw[woken_rf (aI x.2)];exact e
def oR (H:S.Good)(h:S.dV f gs w t rs ws)(d:gs[j]? =aA g)(k:S.J w')(e:j=S.m0+S.n->g'.status≠.blocked)(hs:∀i,i<=S.n->S.ph (put f j s) i=S.ph f i)(b:w'.heap[S.Wg]? =w.heap[S.Wg]?): ∀y,(zAI (gs.map (Go.Conc.woken S.P g g' w')) j g')[S.m0+S.n]? =aA y->S.Mode (put f j s) y.status w':=by intro y c;have hlt:S.m0+S.n<gs.size:=by{grind};have a:=Ef hlt;exact(h.mode _ a).same hs b (by grind[aMQ])
def iW (hs:s.1=(f j).1):∀i,i<=S.n->S.ph (put f j s) i=S.ph f i:=λi _=>by by_cases e:S.m0+i=j;{simp only[Sp.ph,e,aX,hs]};.simp only[Sp.ph,bS _ _ e]
theorem wB (ws)(w):Go.Ren.Does ws w w:=Go.Ren.Does.refl ws w
theorem jM (ws)(j)(w):put ws j (grown (ws j) w w)=ws:=by grind[bS,dW,aX]
def Sp.dV.idle (H:S.Good)(h:S.dV f gs w t rs ws)(d:gs[j]? =aA g)(c:j≠0)(b:stepG S.P aG g w= .go g' w #[])(hs:s.1=(f j).1)(hlt:Span.Lt s (f j))(e:j=S.m0+S.n->g'.status≠.blocked) (a:S.VF (S.Rc f) (S.U f) (S.V f) rs ws j s (Deaf t j) g' w):S.Step f gs w sl t j:=by refine h.go_own H d (by rw[show(j==0)=aG by simp[c]];exact b) hlt (wB _ w) h.base.live j0 ji rfl rfl bm bm bm bm ?_ (oR H h d h.base.live e (iW hs) rfl) j0;rw[jM];exact a
theorem pG {p m}:Span.Lt (p,Tree.nat m) (p,Tree.nat (m+1)):= .right _ (⟨_,default,rfl,rfl⟩)
theorem nH {p q a b}(h:p<q):Span.Lt (p,a) (q,b):= .left _ _ h
end
end Go.Ga
namespace Go.Ga
open Go.Conc Go.Ren Go.Tr Go.Wg
open Go.ConcR (KK WgAt stA smA mk DC0)
open Go.ConcN (WgLive sumTo sumTo_congr sumTo_upd upd upd_same upd_ne le_sumTo)
variable {S:Sp}
theorem EH (ws:zP)(w:zW)(a:Addr)(v:zY)(h:a.block=S.Wg):Go.Ren.Does (Sp.NF (S:=S) ws) w (zAJ w a v):= ⟨λb _ c=>Go.RowKit.Below.heap_setCell w a v b λe=>c (aI bm),j1,j1,n9,n9⟩
def zFr (w:zW)(a)(v):(zAJ w a v).heap.size=w.heap.size:=j1
theorem zCo (ws)(w)(a)(v):grown ws w (zAJ w a v)=ws:=by funext b;apply propext;unfold grown;rw[zFr];exact ji
theorem pA (ws)(j)(w)(a)(v):put ws j (grown (ws j) w (zAJ w a v))=ws:=by grind[bS,zCo,aX]
theorem vZ (w:zW)(a)(v){b}(h:b≠a.block):(zAJ w a v).heap[b]? =w.heap[b]? :=Go.RowKit.Below.heap_setCell w a v b h
def eP {R:zP}{u V:Nat}{rs ws:Nat->zP}{i d:Nat}{f:Span}{g:zH}{w:zW}(a:0<S.m0)(hi:i<S.n)(h:S.WSit i (rs (S.m0+i)) (ws (S.m0+i)) f d g w):S.VF R u V rs ws (S.m0+i) f d g w:= ⟨bm,bm,ji,bm⟩
theorem fO (f)(i)(s):S.ph (put f (S.m0+i) s) i=s.1:=by simp[Sp.ph,aX]
theorem dJ (f){i k}(s)(h:k≠i):S.ph (put f (S.m0+i) s) k=S.ph f k:=by simp only[Sp.ph];rw[bS _ _ bm]
theorem aAu {f i s}(hi:i<S.n)(h:5<=S.ph f i)(b:s.1<5):S.V (put f (S.m0+i) s)+1=S.V f:=by have:=sumTo_upd (S.ph f) s.1 (λp=>if 5<=p then 1 else 0) hi;simp only[h,Cx]at this;rw[AF bm]at this;unfold Sp.V;rw[<-show sumTo S.n (λa=>if 5<=upd (S.ph f) i s.1 a then 1 else 0)=sumTo S.n (λa=>if 5<=S.ph (put f (S.m0+i) s) a then 1 else 0)from El λa _=>by grind[upd_ne,dJ,fO,upd_same]];exact bm
theorem RO {f i}(hi:i<S.n)(h:5<=S.ph f i):0<S.V f:=by have:=le_sumTo (f:=λi=>if 5<=S.ph f i then 1 else 0) hi;simp only[h,Cx]at this;exact this
def rr (f):S.V f<=S.n:=by have:=Go.ConcN.sumTo_le (f:=λi=>if 5<=S.ph f i then 1 else 0) (c:=1) (j:=S.n) ji;unfold Sp.V;exact bm
def Sp.CSit.less {V a rs ws f d g w}(h:S.CSit V rs ws f d g w)(j:a<V):S.CSit a rs ws (if f.1=8 then(13,f.2)else f) d g w:=by cases h with|busy h=>exact .busy h|FF h b=>exact .FF h bm|anch h=>exact .anch h|ld h=>exact .ld h|ri h b=>exact .FF h j|wm h=>exact .wm h|Mo h=>exact .Mo h|blk h e c=>exact .blk h e c|zero h=>exact .zero h|en h=>exact .en h|acq h=>exact .acq h|cl h=>exact .cl h|quit h=>exact .quit h
section
variable {f:Nat->Span}{gs:zG}{w:zW}{t:Trace}{rs ws:Nat->zP}{i:Nat}{g g':zH}{sl:Option (Nat×Nat)}
def Kk {sdo j rs ws}:∀e∈#[Go.ConcR.rd (stA S.Wg),Go.ConcR.wr (stA S.Wg)],EvS S sdo j rs ws e:=by intro e h;simp only[DI,Bb,Bq,Bm]at h;obtain rfl|rfl:=h;{exact V6};.exact V6
def Bd {d}:deafBehind d #[Go.ConcR.rd (stA S.Wg),Go.ConcR.wr (stA S.Wg)]=d:=X8
theorem Sp.dV.counts (H:S.Good)(h:S.dV f gs w t rs ws)(hi:i<S.n)(hj:gs[S.m0+i]? =aA g)(hph:S.ph f i=5)(F:Deaf t (S.m0+i)=1)(hD:S.D4 g w):S.Step f gs w sl t (S.m0+i):=by have D:=h.pos;have aIv:=h.pQ;have LR:=h.size;have hVp:0<S.V f:=RO hi bm;have hVl:=rr (S:=S) f;have G:S.m0+S.n<gs.size:=by{omega};have W:=Ef G;have u:=h.mode _ W;obtain⟨wt,M,N,R,E⟩:∃wt:Nat,wt<=1/\WgAt S.ty S.Wg w (S.V f*KK+wt) 0/\((wt=0/\8<=S.ph f S.n)\/(wt=1/\(S.ph f S.n=7\/S.ph f S.n=6)))/\S.kT f:=by{cases u<;>grind};obtain⟨v,hv⟩:∃v,S.V f=v+1:=by{simp_all};let⟨g',Q,z,p⟩:=hD.2 v wt M bm j1;obtain⟨s,hs4,C,hls⟩:∃s:Span,s.1<5/\S.WSit i (rs (S.m0+i)) (ws (S.m0+i)) s 1 g' (zAJ w (stA S.Wg) (.int aR (v*KK+wt)))/\((v=0/\wt=1/\s.1=3)\/(¬(v=0/\wt=1)/\s.1=0)):=by{by_cases hx:v=0/\wt=1;{let⟨m,L⟩:=z hx;exact⟨(3,.nat m),j0,.one L,bm⟩};{let⟨q,hq⟩:=p hx;exact⟨(0,.nat q),j0,.quit hq,bm⟩}};have O:WgAt S.ty S.Wg (zAJ w (stA S.Wg) (.int aR (v*KK+wt))) (v*KK+wt) 0:=N.setSt _;let f1:=put f (S.m0+i) s;let d:=put f1 (S.m0+S.n) (if(f (S.m0+S.n)).1=8 then(13,(f (S.m0+S.n)).2)else f (S.m0+S.n));have fi:S.ph d i=s.1:=by{show(put f1 (S.m0+S.n) _ (S.m0+i)).1=_;rw[bS _ _ bm];exact fO f i s};have fk:∀k,k<S.n->k≠i->S.ph d k=S.ph f k:=λk B r=>by{show(put f1 (S.m0+S.n) _ (S.m0+k)).1=_;rw[bS _ _ bm];exact dJ f s r};have fn:S.ph d S.n=if S.ph f S.n=8 then 13 else S.ph f S.n:=by{show(put f1 (S.m0+S.n) _ (S.m0+S.n)).1=_;rw[aX];unfold Sp.ph;grind};have Y:S.V d=v:=by{have e:S.V d=S.V f1:=El λk B=>by{show(if 5<=(put f1 (S.m0+S.n) _ (S.m0+k)).1 then 1 else 0)=_;rw[bS _ _ bm];rfl};grind[aAu]};have h85:∀k,k<S.n->(8<=S.ph d k↔8<=S.ph f k):=by{grind};have hU:S.U d=S.U f:=El ji;have Z:S.Rc d=S.Rc f:=by{funext k;apply propext;unfold Sp.Rc;grind};have T:S.Cr≠(stA S.Wg).block:=λe=>H.chans.2.1 e.symm;have X:S.Cd≠(stA S.Wg).block:=λe=>H.chans.2.2 e.symm;have A:=F;refine⟨_,_,d,rs,_,_,runT_crowd_go hj (by rw[show(S.m0+i==0)=aG from j3];exact Q),h.nS (f':=d) H hj (EH _ w _ _ rfl) ⟨_,_,O⟩ Kk (aI (aI λk e he=> ?_)) (vZ w _ _ T) (vZ w _ _ X) (BH h85) hU ?_ ?_ ?_ (λk x r K=> ?_) ?_ (λy hy=> ?_) bm,?_⟩;{refine aI ⟨?_,?_⟩;{have:=Kk (S:=S) (sdo:=0) (j:=0) (rs:=λ_=>False) (ws:=λ_=>False) e ji;have L:=Ih he;simp only[DI,Bb,Bq,Bm]at L;obtain rfl|rfl:=L;{exact⟨_,_,rfl,rfl⟩};.exact⟨_,_,rfl,rfl⟩};.have B:k<2:=ji;rw[A];obtain rfl|rfl:k=0\/k=1:=bm;{simp[deafBehind]};.simp[deafBehind,Go.ConcR.rd]};{grind[bS]};{exact ji};{exact ji};{rw[Z,hU,Y];by_cases e:k=S.m0+S.n;{subst e;refine⟨bm,bm,bm,λ_=> ?_⟩;have J:d (S.m0+S.n)=if(f (S.m0+S.n)).1=8 then(13,(f (S.m0+S.n)).2)else f (S.m0+S.n):=aX _ _ _;rw[J];exact(K.2.2.2 rfl).less bm};.have J:d k=f k:=by{grind[bS]};rw[J];exact⟨K.1,K.2.1,K.2.2.1,bm⟩};{have J:d (S.m0+i)=s:=by{grind[bS,aX]};rw[J,pA,F,Bd];exact eP D hi C};{have I:s.1=0->S.kT d:=λe0 k B l=>by{by_cases e:k=i;{subst e;unfold Sp.lK at l;omega};{exact E k B (by unfold Sp.lK at l⊢;exact ji)}};obtain⟨rfl,hc⟩|⟨rfl,hc⟩:=R;{have o:s.1=0:=bm;refine .a ji (I o) ?_;grind};.by_cases P:v=0;{subst P;have hs3:s.1=3:=bm;refine .c (by rw[fn];split<;>omega) bm i ⟨hi,λk B r l=>E k B (by unfold Sp.lK at l⊢;exact ji)⟩ bm ?_;exact j5};.have o:s.1=0:=bm;refine .b (by rw[fn];split<;>omega) bm (I o) ?_;exact ji};.unfold Sp.mu;exact .right _ (.left _ _ bm)
end
end Go.Ga
namespace Go.Ga
open Go.Conc Go.Ren Go.Tr Go.Wg
open Go.ConcR (KK WgAt stA smA DC0)
open Go.ConcN (WgLive sumTo sumTo_congr sumTo_upd upd upd_same upd_ne le_sumTo)
variable {S:Sp}
section
variable {f:Nat->Span}{gs:zG}{w:zW}{t:Trace}{rs ws:Nat->zP}{i:Nat}{g g':zH}{sl:Option (Nat×Nat)}
def Sp.dV.closer (h:S.dV f gs w t rs ws):∃y,gs[S.m0+S.n]? =aA y:=⟨_,Ef G9⟩
def DX (h:S.dV f gs w t rs ws)(hi:i<S.n)(hl:S.lK f i):(S.ph f S.n=7\/S.ph f S.n=6)/\S.V f=0/\S.kO f i/\(((S.ph f i=3\/S.ph f i=2)/\WgAt S.ty S.Wg w 1 0)\/(S.ph f i=1/\WgAt S.ty S.Wg w 0 0)):=by let⟨y,p⟩:=h.closer;cases h.mode y p with|a l j hw=>exact absurd hl (j i hi)|b l m j hw=>exact absurd hl (j i hi)|c l m k o hk hw=>have:i=k:=Dv λe=>o.2 i hi e hl;grind|c' l m k o hk hw=>have:i=k:=Dv λe=>o.2 i hi e hl;grind|d l m j hw q=>exact absurd hl (j i hi)|e l m j hw=>exact absurd hl (j i hi)
theorem eE (h:0<S.m0):(S.m0+i==0)=aG:=j3
def Sp.dV.said (H:S.Good)(h:S.dV f gs w t rs ws)(hi:i<S.n)(F:gs[S.m0+i]? =aA g){m s}(u:stepG S.P aG g w= .go g' w #[Go.ConcR.mk m])(A:m= .disable\/m= .releaseMerge (stA S.Wg))(hlt:Span.Lt s (f (S.m0+i))) (K:s.1<8/\S.ph f i<8) (r:5<=s.1/\5<=S.ph f i) (hs:S.WSit i (rs (S.m0+i)) (ws (S.m0+i)) s (deafBehind (Deaf t (S.m0+i)) #[Go.ConcR.mk m]) g' w):S.Step f gs w sl t (S.m0+i):=by have v:=h.pos;have D:S.ph f i=(f (S.m0+i)).1:=rfl;refine h.go_own H F (by rw[eE v];exact u) hlt (wB _ w) h.base.live (λe l=> ?_) (aI (aI λk e l=>aH ?_)) rfl rfl bm bm bm bm ?_ ?_ bm;{simp only[DI,Bb,Bq,Bm]at l;subst l;obtain rfl|rfl:=A;{exact aI ji};.exact aI (aI (aI (aI (aH ⟨_,aH rfl,rfl⟩))))};{have l:=Ih l;simp only[DI,Bb,Bq,Bm]at l;subst l;obtain rfl|rfl:=A<;>rfl};{rw[jM];exact eP v hi hs};.intro y I;let⟨z,C⟩:=h.closer;have G:S.ph (put f (S.m0+i) s) S.n=S.ph f S.n:=dJ f s bm;have B:∀k,k<S.n->(S.lK (put f (S.m0+i) s) k↔S.lK f k):=λk j=>by{by_cases e:k=i;{subst e;unfold Sp.lK;rw[fO];omega};{unfold Sp.lK;rw[dJ _ _ e]}};have J:S.V (put f (S.m0+i) s)=S.V f:=(iG bm).2.2;cases h.mode z C with|a p o hw=>exact .a bm (λk j x=>o k j ((B k j).1 x)) ji|b p q o hw=>exact .b bm bm (λk j x=>o k j ((B k j).1 x)) ji|c p q k E j hw=>exact absurd (RO hi r.2) bm|c' p q k E j hw=>exact absurd (RO hi r.2) bm|d p q o hw hs=>exact absurd (RO hi r.2) bm|e p q o hw=>exact absurd (RO hi r.2) bm
def Sp.dV.last (H:S.Good)(h:S.dV f gs w t rs ws)(hi:i<S.n)(z:gs[S.m0+i]? =aA g){s w' es}(p:stepG S.P aG g w= .go g' w' es)(o:Deaf t (S.m0+i)=1)(l:S.lK f i)(hlt:Span.Lt s (f (S.m0+i)))(F:s.1<5) (hw':w'=w\/∃a v,w'=zAJ w a v/\a.block=S.Wg) (C:S.J w') (r:(es= #[Go.ConcR.rd (stA S.Wg)]\/es= #[Go.ConcR.wr (stA S.Wg)])\/es=semEvents (smA S.Wg)) (hs:S.WSit i (rs (S.m0+i)) (ws (S.m0+i)) s 1 g' w') (j:∀y,(zAI (gs.map (Go.Conc.woken S.P g g' w')) (S.m0+i) g')[S.m0+S.n]? =aA y->S.Mode (put f (S.m0+i) s) y.status w'):S.Step f gs w sl t (S.m0+i):=by have u:=h.pos;have x:S.ph f i=(f (S.m0+i)).1:=rfl;unfold Sp.lK at l;have B:Go.Ren.Does (Sp.NF (S:=S) (ws (S.m0+i))) w w':=by{grind[EH,wB]};have A:put ws (S.m0+i) (grown (ws (S.m0+i)) w w')=ws:=by{grind[pA,jM]};have d:∀b,b≠S.Wg->w'.heap[b]? =w.heap[b]? :=by{grind[vZ]};have q:∀e∈es,(∃a wr,e=(⟨.cell a,wr,aF⟩:Event)/\a.block=S.Wg)\/e=Go.ConcR.mk .disable\/e=Go.ConcR.mk .enable:=λe c=>by{obtain(rfl|rfl)|rfl:=r;{simp only[DI,Bb,Bq,Bm]at c;subst c;exact aH ⟨_,_,rfl,rfl⟩};{simp only[DI,Bb,Bq,Bm]at c;subst c;exact aH ⟨_,_,rfl,rfl⟩};.simp only[semEvents,DI,Bb,Bq,Bm]at c;obtain rfl|rfl|rfl|rfl:=c;{exact aI (aH rfl)};{exact U2};{exact U2};.exact aI (aI rfl)};have m:deafBehind 1 es=1:=by{obtain(rfl|rfl)|rfl:=r;{simp[deafBehind,Go.ConcR.rd]};{simp[deafBehind,Go.ConcR.wr]};{simp[deafBehind,semEvents]}};refine h.go_own H z (by rw[eE u];exact p) hlt B C (λe c=> ?_) (aI (aI λk e c=> ?_)) (d _ λe=>H.chans.2.1 e.symm) (d _ λe=>H.chans.2.2 e.symm) bm bm bm bm ?_ j bm;{obtain⟨a,wr,rfl,E⟩|rfl|rfl:=q e c;{exact aI ji};{exact aI ji};.exact aI ji};{rw[o];obtain(rfl|rfl)|rfl:=r;{exact S9};{exact S9};.have D:k<4:=by{have:=(Ax.1 c).1;exact j5};obtain rfl|rfl|rfl|rfl:k=0\/k=1\/k=2\/k=3:=bm;{simp[semEvents]at c;subst c;exact aH rfl};{exact U4};{exact U4};.simp[semEvents]at c;subst c;exact aH rfl};.rw[A,o,m];exact eP u hi hs
def LM {s}(a:S.kO f i):S.kO (put f (S.m0+i) s) i:=⟨a.1,λk b h hl=>a.2 k b h (by unfold Sp.lK at hl⊢;rwa [dJ _ _ h]at hl)⟩
def aMD {s}(h:S.kO f i)(hs:s.1=0):S.kT (put f (S.m0+i) s):=λk a hl=>by by_cases e:k=i;{subst e;unfold Sp.lK at hl;rw[fO]at hl;exact bm};.exact(LM (s:=s) h).2 k a e hl
def Iq {s}(h:S.V f=0)(c:s.1<5)(hi:i<S.n)(a:S.ph f i<5):S.V (put f (S.m0+i) s)=0:=by rw[(iG λk b e=>⟨?_,?_⟩).2.2];{exact h};{have:S.ph f i=(f (S.m0+i)).1:=rfl;exact bm};.have:S.ph f i=(f (S.m0+i)).1:=rfl;exact bm
theorem Sp.dV.worker (H:S.Good)(h:S.dV f gs w t rs ws)(hi:i<S.n)(p:gs[S.m0+i]? =aA g)(M:g.status= .running)(Y:S.ph f i<8):S.Step f gs w sl t (S.m0+i):=by have B:=h.pos;have r:=(h.JM _ g p).2.2.1 i hi rfl;have L:S.ph f i=(f (S.m0+i)).1:=rfl;generalize o:f (S.m0+i)=s at r;generalize b:Deaf t (S.m0+i)=d at r;have J:=h.base.live;rw[o]at L;cases r with|busy hb=>omega|parked hb=>omega| @rm m _ _ u=>obtain⟨_,g',a,k,l⟩|⟨k,g',rfl,a,j⟩:=dO u J;{exact h.said (s:=(6,.nat k)) H hi p a (aI rfl) Q3 bm bm (by rw[b];exact .wC l)};{exact h.idle (s:=(7,.nat k)) H p bm a Q8 C6 bm (by rw[b];exact eP B hi (.rm j))}| @wC m _ _ u=>obtain⟨_,g',a,k,l⟩|⟨k,g',rfl,a,j⟩:=dO u J;{exact h.said (s:=(5,.nat k)) H hi p a (aH rfl) Q3 bm bm (by rw[b];exact .dn l)};{exact h.idle (s:=(6,.nat k)) H p bm a Q8 C6 bm (by rw[b];exact eP B hi (.wC j))}| @dn m _ _ u=>obtain D|⟨k,g',rfl,a,j⟩:=dO u J;{grind[counts]};{exact h.idle (s:=(5,.nat k)) H p bm a Q8 C6 bm (by rw[b];exact eP B hi (.dn j))}| @one m _ _ u=>obtain D|⟨k,g',rfl,a,j⟩:=dO u J;{have hl:S.lK f i:=Q7;obtain⟨N,E,C,⟨_,v⟩|⟨O,_⟩⟩:=DX h hi hl;{let⟨g',a,k,l⟩:=D.2 v;refine h.last H hi p a b hl Q3 j0 (aH rfl) J ji (.null l) λy G=> ?_;exact .c (by grind[dJ]) (Iq E j0 hi bm) i (LM C) (aI (fO f i _)) v};omega};{exact h.idle (s:=(3,.nat k)) H p bm a Q8 C6 bm (by rw[b];exact eP B hi (.one j))}| @null m _ _ u=>obtain D|⟨k,g',rfl,a,j⟩:=dO u J;{have hl:S.lK f i:=Q7;obtain⟨N,E,C,⟨_,v⟩|⟨O,_⟩⟩:=DX h hi hl;{let⟨g',a,k,l⟩:=D.2 v;refine h.last (s:=(1,.nat k)) H hi p a b hl Q3 j0 (aI ⟨_,_,rfl,rfl⟩) ⟨_,_,v.setSt 0⟩ ji (.rel l) λy G=> ?_;exact .c' (by grind[dJ]) (Iq E j0 hi bm) i (LM C) (fO f i _) (v.setSt 0)};omega};{exact h.idle (s:=(2,.nat k)) H p bm a Q8 C6 bm (by rw[b];exact eP B hi (.null j))}| @rel m _ _ u=>obtain D|⟨k,g',rfl,a,j⟩:=dO u J;{have hl:S.lK f i:=Q7;obtain⟨N,E,C,⟨O,_⟩|⟨_,v⟩⟩:=DX h hi hl;{omega};.obtain⟨g',a,q,F⟩:=D.2.2 v;refine h.last (s:=(0,.nat q)) H hi p a b hl Q3 j0 (aI ⟨_,_,rfl,rfl⟩) ⟨_,_,v.setSm 1⟩ (aI rfl) (.quit F) λy G=> ?_;refine .d (by grind[dJ]) (Iq E j0 hi bm) (aMD C rfl) (v.setSm 1) ?_;obtain⟨e,_⟩|⟨_,z,Q,rfl⟩:=lF _ _ _ _ _ _ G;{exact bm};.have A:=(h.JM _ z Q).2.2.2 rfl;have I:(mayWake S.P g&&g'.status != .blocked&&g'.status != .waiting)=aF:=by{rw[D.2.1];grind[Mx]};obtain x|x|x:=A.status H J;{rw[woken_running x,x];simp};{generalize T:f (S.m0+S.n)=fc at A x;generalize V:Deaf t (S.m0+S.n)=dc at A;cases A with| @blk W Z _ hh C R=>unfold Go.Conc.woken;rw[AE I];simp[Goroutine.again,C]|Mo hh=>rw[hh.run J λ_ _ x=>x.1]at x;grind|quit hh=>omega|_=>exact bm};.exact Y9};.exact h.idle (s:=(1,.nat k)) H p bm a Q8 C6 bm (by rw[b];exact eP B hi (.rel j))| @quit q _ _ _ F=>cases q with|zero=>rw[F.1]at M;cases M|succ q=>obtain⟨U,_⟩|⟨_,g',es,hm,a,K⟩:=F;{grind};{refine h.go_own (s:=(0,.nat q)) H p (by rw[eE B];exact a w) C6 (wB _ w) J (λe X=>aI ji) J5 rfl rfl ji bm bm bm ?_ (oR H h p J bm (iW Q8) rfl) bm;rw[jM,b];exact eP B hi (.quit K)}
end
def Sp.Mode.alike {f f' st Zw w w'}(h:S.Mode f st w)(z:S.ph f' S.n=S.ph f S.n)(hi:∀i,i<S.n->S.ph f' i=S.ph f i\/(5<=S.ph f' i/\5<=S.ph f i))(g:w'.heap[S.Wg]? =w.heap[S.Wg]?)(hs:st≠.blocked->Zw≠.blocked):S.Mode f' Zw w':=by have A:S.V f'=S.V f:=El ji;have v:∀i,i<S.n->(S.lK f' i↔S.lK f i):=λi h=>by{unfold Sp.lK;grind};have j:S.kT f->S.kT f':=λx i h y=>x i h ((v i h).1 y);have m:∀i,S.kO f i->S.kO f' i:=λi x=>⟨x.1,λk u r y=>x.2 k u r ((v k u).1 y)⟩;have p:∀st s,WgAt S.ty S.Wg w st s->WgAt S.ty S.Wg w' st s:=λ_ _ x=>g.trans x;cases h with|a l hl g=>exact .a bm (j hl) ji|b l o hl g=>exact .b bm bm (j hl) ji|c l o i hl h1 g=>exact .c bm bm i (m i hl) (by have:=hi i hl.1;exact bm) (p _ _ g)|c' l o i hl h1 g=>exact .c' bm bm i (m i hl) (by have:=hi i hl.1;exact bm) (p _ _ g)|d l o hl g q=>exact .d bm bm (j hl) (p _ _ g) (hs q)|e l o hl g=>exact .e bm bm (j hl) (p _ _ g)
theorem aAw {f i s}(hi:i<S.n)(h:8<=S.ph f i)(b:s.1<8):S.U (put f (S.m0+i) s)+1=S.U f:=by have:=sumTo_upd (S.ph f) s.1 (λp=>if 8<=p then 1 else 0) hi;simp only[h,Cx]at this;rw[AF bm]at this;unfold Sp.U;rw[<-show sumTo S.n (λa=>if 8<=upd (S.ph f) i s.1 a then 1 else 0)=sumTo S.n (λa=>if 8<=S.ph (put f (S.m0+i) s) a then 1 else 0)from El λa _=>by grind[upd_ne,fO,dJ,upd_same]];exact bm
theorem oC (w:zW)(c cap)(buf)(cl)(s r)(tm){b}(h:b≠c):(w.setChan c cap buf cl s r tm).heap[b]? =w.heap[b]? :=by simp only[World.setChan];exact ji
theorem oB (w:zW)(c cap)(buf)(cl)(s r)(tm):(w.setChan c cap buf cl s r tm).heap.size=w.heap.size:=by simp[World.setChan]
theorem setChan_at {w:zW}{c cap buf cl s r tm}(h:c<w.heap.size):(w.setChan c cap buf cl s r tm).heap[c]? =aA (.chan cap buf cl s r tm):=by simp only[World.setChan];exact ji
section
variable {f:Nat->Span}{gs:zG}{w:zW}{t:Trace}{rs ws:Nat->zP}{i:Nat}
def Sp.dV.meet (H:S.Good)(h:S.dV f gs w t rs ws)(hi:i<S.n)(hph:8<=S.ph f i)(E:Deaf t (S.m0+i)=0)(F:Deaf t 0=0){gm gw sh zr zd m k d tm} (K:S.Za (S.Rc f) (rs 0) (ws 0) gm sh zr zd w) (hgo:S.Goes S.D6 m gw w) (ub:w.heap[S.Cr]? =aA (.chan 0 #[] aG k k tm)) {v} (hv:S.Ok i v (ws (S.m0+i)) w) {x1 x2 x3 x4} (Q:x1.g=S.m0+i/\x1.act= .send S.Cr k) (O:x2.g=0/\x2.act= .recv S.Cr k 0) (I:x3.g=S.m0+i/\x3.act= .sendDone S.Cr k) (N:x4.g=0/\x4.act= .recvDone S.Cr k) {gs'} (W:gs'.size=gs.size) (hg0:gs'[0]? =aA (gm.finishComm S.P (S.cases zr zd) sh 0 v aF)) (Z:gs'[S.m0+i]? =aA gw) (B:∀k,k≠0->k≠S.m0+i->gs'[k]? =gs[k]?): ∃tr,S.dV (put (put f 0 (3*(S.U f-1)+2,tr)) (S.m0+i) (7,.nat m)) gs' ((w.at d).setChan S.Cr 0 #[] aG (k+1) (k+1) tm) (t++ #[x1,x2,x3,x4]) (put rs (S.m0+i) λ_=>False) (put (put ws 0 λb=>ws 0 b\/ws (S.m0+i) b) (S.m0+i) λ_=>False):=by have Y:=h.pos;let⟨tr,c⟩:=K.got w (cD.refl _ _ w) h.base.live i v (ws (S.m0+i)) hi (λx=>by have:=x.2;exact bm) hv (λb c=>⟨h.base.lt (aI c),λx=>by have:=h.base.NJ c x;exact bm,λx=>by have:=h.base.IU c x;exact bm⟩);refine⟨tr,?_⟩;generalize D:put (put f 0 (3*(S.U f-1)+2,tr)) (S.m0+i) (7,.nat m)=z;have e0:z 0=(3*(S.U f-1)+2,tr):=by{rw[<-D,bS _ _ bm,aX]};have ei:z (S.m0+i)=(7,.nat m):=by{rw[<-D,aX]};have ek:∀k,k≠0->k≠S.m0+i->z k=f k:=λk h0 C=>by{rw[<-D,bS _ _ C,bS _ _ h0]};have pi:S.ph z i=7:=by{unfold Sp.ph;rw[ei]};have R:∀k,k≠i->S.ph z k=S.ph f k:=λk C=>by{unfold Sp.ph;grind};have hU:S.U z+1=S.U f:=by{have e:S.U z=S.U (put f (S.m0+i) (7,.nat m)):=El (by grind[dJ,fO]);grind[aAw]};have hV:S.V z=S.V f:=El ji;have hRc:S.Rc z=add (S.Rc f) i:=by{funext a;apply propext;constructor;{rintro⟨x,y⟩;by_cases e:a=i;{exact aI e};.rw[R a e]at y;exact aH ⟨x,y⟩};.rintro(⟨x,y⟩|rfl);{by_cases e:a=i;{exact ji};.exact⟨x,ji⟩};.exact⟨hi,bm⟩};have j:=(Ax.1 ub).1;have heap:∀b,b≠S.Cr->((w.at d).setChan S.Cr 0 #[] aG (k+1) (k+1) tm).heap[b]? =w.heap[b]? :=λb c=>oC (w.at d) _ _ _ _ _ _ _ c;have o:((w.at d).setChan S.Cr 0 #[] aG (k+1) (k+1) tm).heap.size=w.heap.size:=oB (w.at d) _ _ _ _ _ _ _;have hJ:S.J ((w.at d).setChan S.Cr 0 #[] aG (k+1) (k+1) tm):=by{let⟨a,b,x⟩:=h.base.live;exact⟨a,b,(heap _ H.chans.2.1).trans x⟩};have nR:∀a,cD (rs a) (ws a) w ((w.at d).setChan S.Cr 0 #[] aG (k+1) (k+1) tm):=λa=> ⟨λb c=>heap b λe=>h.base.off c (aI (aI (aH e))),bm,rfl,rfl,rfl⟩;have hn:∀op∈#[x1,x2,x3,x4],op.act.touch? =aB:=by{intro op l;simp only[DI,Bb,Bq,Bm]at l;obtain rfl|rfl|rfl|rfl:=l;{rw[Q.2];rfl};{rw[O.2];rfl};{rw[I.2];rfl};{rw[N.2];rfl}};have u:∀a,Deaf (t++ #[x1,x2,x3,x4]) a=Deaf t a:=by{grind[Mw]};have r:∀a b,put rs (S.m0+i) (λ_=>False) a b->rs a b/\a≠S.m0+i:=λa b c=>by{by_cases e:a=S.m0+i;{grind[aX]};{rw[bS _ _ e]at c;grind}};have q:∀a b,put (put ws 0 λb=>ws 0 b\/ws (S.m0+i) b) (S.m0+i) (λ_=>False) a b->(ws a b\/(a=0/\ws (S.m0+i) b))/\a≠S.m0+i:=λa b c=>by{by_cases e:a=S.m0+i;{grind[aX]};.rw[bS _ _ e]at c;by_cases e0:a=0;{grind[aX]};.rw[bS _ _ e0]at c;exact ji};have A:∀a b,put (put ws 0 λb=>ws 0 b\/ws (S.m0+i) b) (S.m0+i) (λ_=>False) a b->∃M,ws M b:=by{grind};refine⟨Y,h.pQ,W.trans h.size,⟨λ{a b} c=> ?_,λ{a M b} x y=> ?_,λ{a M b} x y=> ?_,λ{a b} c=> ?_,λ{b} c=>by rw[o];exact h.base.pR c,hJ,?_,?_,λa G=>by rw[u];exact h.base.above a G⟩,⟨k+1,tm,setChan_at j⟩,?_,λa y s=> ?_,λy s=> ?_,ji,ji,ji,λhz=> ?_⟩;{rw[o];obtain c|c:=c;{exact h.base.lt (aH (r _ _ c).1)};.obtain⟨M,x⟩:=A _ _ c;exact h.base.lt (aI x)};{obtain⟨x,hx⟩:=q _ _ x;let⟨y,s⟩:=q _ _ y;obtain x|⟨x0,x⟩:=x<;>obtain y|⟨y0,y⟩:=y;{exact h.base.IU x y};{exact absurd (h.base.IU x y) hx};{exact absurd (h.base.IU y x) s};exact bm};{obtain⟨x,hx⟩:=q _ _ x;let⟨y,s⟩:=r _ _ y;obtain x|⟨x0,x⟩:=x;{exact h.base.NJ x y};.exact absurd (h.base.NJ x y).symm s};{obtain c|c:=c;{exact h.base.off (aH (r _ _ c).1)};.obtain⟨M,x⟩:=A _ _ c;exact h.base.off (aI x)};{refine h.base.ti.Vn hn (λa b c=>aH (r a b c).1) (λa b c=>(q a b c).1.elim aH λx=>aI (aH ⟨_,x.2,λp C=>by rw[x.1];exact LD Q O I.1 I.2 N E F C⟩)) (λa b c=>aH c) (λb c=>aH c) (λb c=>c) (λa G=> ?_);obtain⟨T,L,e1,e2⟩|e:=G;{by_cases e:T=i;{subst e;refine aI λp op tch l hg _=> ?_;have C:=knows_own l;rw[hg,e1]at C;exact LD Q O I.1 I.2 N E F C};.exact aH (aH ji)};.exact aH (aI e)};{rw[o];refine seen_app h.base.low λop l=> ?_;simp only[DI,Bb,Bq,Bm]at l;obtain rfl|rfl|rfl|rfl:=l;{rw[Q.2];exact j};{rw[O.2];exact j};{rw[I.2];exact j};.rw[N.2];exact j};{obtain⟨s0,r0,tm1,kh⟩:=h.cd;refine⟨s0,r0,tm1,?_⟩;rw[heap _ λe=>H.chans.1 e.symm,kh,R _ bm]};{rw[u];by_cases ea:a=0;{subst ea;rw[hg0]at s;obtain rfl:=Ay s;refine⟨λ_=>⟨F,?_⟩,bm,bm,bm⟩;rw[hRc,bS _ _ bm,bS _ _ bm,aX,e0];have:S.U f-1=S.U z:=bm;rw[this];exact .busy (c.rely ⟨λb c=>heap b λe=>c.elim (λx=>h.base.off (aH x) (aI (aI (aH e)))) λx=>x.elim (λx=>h.base.off (aI x) (aI (aI (aH e)))) λx=>h.base.off (aI x) (aI (aI (aH e))),bm,rfl,rfl,rfl⟩)};.by_cases ej:a=S.m0+i;{subst ej;rw[Z]at s;obtain rfl:=Ay s;rw[ei,E];exact eP Y hi (.rm (Sp.Goes.rely hgo hJ))};.rw[B a ea ej]at s;have X:=(h.JM a y s).rely (nR a) hJ;rw[ek a ea ej,hV];refine⟨bm,X.2.1,λT L e=> ?_,λe=> ?_⟩;{have:=X.2.2.1 T L e;grind[bS]};.have:=X.2.2.2 e;grind[bS]};{rw[B _ bm bm]at s;refine(h.mode y s).alike ji (λa G=> ?_) (heap _ H.chans.2.1) id;exact ji};.rw[R _ bm]at hz;let⟨ic,c1,c2,c3⟩:=h.Ou hz;have hlt:=lt_of_act? c1;refine⟨ic,by rw[act?_old hlt];exact c1,(heard_old hlt).2 c2,λp op a Y hg G=> ?_⟩;obtain⟨hil,ue⟩|⟨op',_,_,l,hox⟩:=dX G;{grind[Before.app,getElem?_append_old]};exact ji
def QF {a b c:Span}{i:Nat}(h:0<S.m0)(hi:i<S.n)(e:Span.Lt a (f 0))(d:Span.Lt b (f (S.m0+i))):VE (vec (S.m0+S.n+1) (put (put f 0 a) (S.m0+i) b)) (vec (S.m0+S.n+1) (put f 0 a))/\VE (vec (S.m0+S.n+1) (put f 0 a)) (vec (S.m0+S.n+1) f):=by grind[bS,nZ]
theorem FT (H:S.Good)(h:S.dV f gs w t rs ws){a y}(e:gs[a]? =aA y)(u:a=0->(f 0).1≠3*S.U f+1):offersAt y S.Cr aG=[]:=by have c:=h.JM a y e;have J:=h.base.live;have hlt:=(Ax.1 e).1;have g:=h.size;by_cases o:a=0;{subst o;obtain x|x:=(c.1 rfl).2.status H J;{exact r8};exact bm};.by_cases m:a<S.m0;{obtain⟨q,_,s⟩:=c.2.1 bm m;grind[offersAt_of_not_blocked,Mx]};.by_cases l:a=S.m0+S.n;{have d:=c.2.2.2 l;generalize f a=k at d;generalize Deaf t a=p at d;obtain x|x|x:=d.status H J;{exact r8};{cases d with|blk hh j r=>simp[offersAt,j]|Mo hh=>exact zFz Z2 _ _|_=>exact bm};exact r8};.have b:=c.2.2.1 (a-S.m0) bm bm;generalize f a=k at b;generalize Deaf t a=p at b;obtain x|x|x:=b.status J;{exact r8};{cases b with|parked hh=>grind[offersAt_parked_send']|_=>exact bm};exact r8
theorem qA (H:S.Good)(h:S.dV f gs w t rs ws){a y}(p:gs[a]? =aA y)(c):offersAt y c aF=[]\/∃i,i<S.n/\a=S.m0+i/\S.ph f i=8/\∃v g z m,S.Ok i v (ws a) w/\y=parked g #[scase S.Cr v z] .send/\S.Goes S.D6 m (Go.Conc.served g ij) w/\Deaf t a=0/\offersAt y c aF=if S.Cr=c then [0]else []:=by have e:=h.JM a y p;have J:=h.base.live;have hlt:=(Ax.1 p).1;have s:=h.size;by_cases E:a=0;{subst E;left;have l:=(e.1 rfl).2;generalize f 0=f0 at l;obtain x|x:=l.status H J;{exact r8};.cases l with|parked hh=>refine offersAt_parked_sends (λL b=> ?_) _;simp only[Sp.cases,DI,Bb,Bq,Bm]at b;obtain rfl|rfl:=b<;>rfl|busy hh=>omega|tries hh=>exact bm};.by_cases D:a<S.m0;{obtain⟨q,_,K⟩:=e.2.1 bm D;grind[Mx,offersAt_of_not_blocked]};.by_cases C:a=S.m0+S.n;{left;have j:=e.2.2.2 C;generalize f a=B at j;generalize Deaf t a=F at j;obtain x|x|x:=j.status H J;{exact r8};{cases j with|blk hh u I=>simp[offersAt,u]|Mo hh=>exact zFz Z2 _ _|_=>exact bm};exact r8};.have r:a=S.m0+(a-S.m0):=bm;have d:=e.2.2.1 (a-S.m0) bm r;have k:S.ph f (a-S.m0)=(f a).1:=by{unfold Sp.ph;rw[<-r]};generalize o:f a=B at d;rw[o]at k;generalize A:Deaf t a=F at d;obtain x|x|x:=d.status J;{grind[offersAt_of_not_blocked]};{cases d with|parked G hh=>grind[offersAt_parked_send]|_=>exact bm};exact r8
end
section
variable {f:Nat->Span}{gs:zG}{w:zW}{t:Trace}{rs ws:Nat->zP}{i:Nat}{g:zH}{sl:Option (Nat×Nat)}
def aAs (w:zW):w.at w.drawn=w:=rfl
theorem Sp.dV.wy (H:S.Good)(h:S.dV f gs w t rs ws)(hi:i<S.n)(u:S.ph f i=9){b z m}(k:S.Goes S.D6 m (Go.Conc.served b ij) w)(B:Deaf t (S.m0+i)=0)(A:(f 0).1≠3*S.U f+1){v}(r:S.Ok i v (ws (S.m0+i)) w): S.dV (put f (S.m0+i) (8,.leaf)) (zAI gs (S.m0+i) (parked b #[scase S.Cr v z] .send)) w t rs ws:=by have p:=h.pos;have o:S.ph f i=(f (S.m0+i)).1:=rfl;let⟨l,D,C⟩:=iG (S:=S) (f:=f) (j:=S.m0+i) (s:=(8,.leaf)) bm;have c:S.Live (put f (S.m0+i) (8,.leaf))=S.Live f:=by{grind[dJ,fO,BH]};have F:put f (S.m0+i) (8,.leaf) 0=f 0:=bS _ _ bm;have q:S.ph (put f (S.m0+i) (8,.leaf)) S.n=S.ph f S.n:=dJ _ _ bm;refine⟨p,h.pQ,zAD,by rw[c];exact h.base,h.cr,by rw[q];exact h.cd,λa y d=> ?_,λy d=> ?_,λe=> ?_,λe=> ?_,λe=> ?_,λe=> ?_⟩;{rw[l,D,C];by_cases e:a=S.m0+i;{subst e;have hlt:S.m0+i<gs.size:=ji;rw[Nh hlt]at d;obtain rfl:=Ay d;rw[aX,B];exact eP p hi (.parked r k)};.rw[Et (λx=>e x.symm)]at d;grind[JM,bS]};{rw[Et bm]at d;refine(h.mode y d).alike q (λa E=> ?_) rfl id;grind[dJ,fO]};{exact ji};{exact ji};{grind[tries]};grind[Ou]
theorem Sp.dV.VH (H:S.Good)(h:S.dV f gs w t rs ws)(hi:i<S.n)(L:gs[S.m0+i]? =aA g)(hr:g.status= .running)(h8:8<=S.ph f i):S.Step f gs w sl t (S.m0+i):=by have hp:=h.pos;have LR:=h.size;have o:=(h.JM _ g L).2.2.1 i hi rfl;have Z:S.ph f i=(f (S.m0+i)).1:=rfl;have aFr:S.Live f (S.m0+i):=aH ji;generalize hf:f (S.m0+i)=s at o;generalize Q:Deaf t (S.m0+i)=d at o;have J:=h.base.live;have TR:S.m0+i≠S.m0+S.n:=by{omega};rw[hf]at Z;cases o with| @busy tr _ _ C=>{cases tr with|node ch=>let⟨_,C⟩:=C;let⟨g',w',es,G,A,O,qk⟩:=C w (cD.refl _ _ w) J;have F:=A.keep _ (h.base.pR (aI (aH rfl))) λx=>h.base.off (aI x) (aI (aH rfl));have u:=A.keep _ (h.base.pR (aI bm)) λx=>h.base.off (aI x) (aI (aI (aH rfl)));have kh:=A.keep _ (h.base.pR (aI bm)) λx=>h.base.off (aI x) (aI (aI (aI rfl)));have J':S.J w':=by{let⟨a,b,x⟩:=J;exact⟨a,b,F.trans x⟩};have zi:deafBehind 0 es=0:=deafBehind_still (λe he=>by obtain⟨a,wr,s,rfl,_⟩|⟨r,s,rfl,_⟩|x|x|⟨q,x⟩:=O e he;all_goals grind) 0;refine h.go_own (s:=(9,ch w)) H L (by rw[eE hp];exact G) (by rw[hf];exact T0) ⟨λb C hn=>A.keep b C λx=>hn (aH x),A.size,A.tape,A.os,A.output⟩ J' (λe he=>aH (O e he)) ji u kh ji bm bm bm ?_ (oR H h L J' bm (iW (by rw[hf])) F) bm;rw[Q,zi];refine eP hp hi (.busy ?_);rw[aX];exact qk|leaf=>let⟨v,hv,_,l,z,G,m,hgo⟩:=C w (cD.refl _ _ w) J;let⟨k,tm,u⟩:=h.cr;have y:stepG S.P (S.m0+i==0) g w= .comm l #[scase S.Cr v z] aF .send w #[]:=by{grind[eE]};have R:0<gs.size:=bm;have N:=Ef R;let⟨hd0,hm⟩:=(h.JM 0 _ N).1 rfl;by_cases K:(f 0).1=3*S.U f+1;{obtain⟨B,W,D,T,I,M⟩:∃B W D T,S.Za (S.Rc f) (rs 0) (ws 0) B W D T w/\gs[0]? =aA (parked B (S.cases D T) W):=by{rw[N];generalize gs[0]=g0 at hm;generalize hf0:f 0=f0 at hm K;cases hm<;>grind};have Y:partners (zAI gs (S.m0+i) Go.Conc.ph) S.Cr aG=[(0,0)]:=by{rw[partners_one (stand_get bm M) λa x ha hx=> ?_];{rw[offersAt_parked_at (k:=0) (z:=D) (by simp[Sp.cases]) λa cc ha hc=> ?_];{rfl};.have:a=1:=by{have:=(Ax.1 hc).1;simp[Sp.cases]at this;exact bm};subst this;simp only[Sp.cases,JS,Mm,Ho,Cz]at hc;subst hc;simp only[rcase,ne_eq,Value.chan.injEq,Cz];exactλe=>H.chans.1 e.symm};grind[FT,getElem?_stand,offersAt_ph]};have p:=crowd_send_meets_sel (sl:=sl) L y u bm M (zj:=D) (by simp[Sp.cases]) Y;let⟨tr,hinv⟩:=h.meet (m:=m) (d:=w.drawn) H hi h8 Q hd0 I hgo u hv (gs':=zAI (zAI gs 0 (B.finishComm S.P (S.cases D T) W 0 v aF)) (S.m0+i) (l.finishComm S.P #[scase S.Cr v z] .send 0 ij aG)) (x1:={g:=S.m0+i,fn:=l.frame.fn,pos:=l.frame.place,act:= .send S.Cr k}) (x2:={g:=0,fn:=B.frame.fn,pos:=B.frame.place,act:= .recv S.Cr k 0}) (x3:={g:=S.m0+i,fn:=l.frame.fn,pos:=l.frame.place,act:= .sendDone S.Cr k}) (x4:={g:=0,fn:=B.frame.fn,pos:=B.frame.place,act:= .recvDone S.Cr k}) ⟨rfl,rfl⟩ ⟨rfl,rfl⟩ ⟨rfl,rfl⟩ ⟨rfl,rfl⟩ j0 (by grind[Nl,OE]) (by grind[OE,finishComm_send]) ji;refine⟨_,_,put (put f 0 (3*(S.U f-1)+2,tr)) (S.m0+i) (7,.nat m),put rs (S.m0+i) λ_=>False,put (put ws 0 λb=>ws 0 b\/ws (S.m0+i) b) (S.m0+i) λ_=>False,_,p,?_,?_⟩;{assumption};.have hU:0<S.U f:=by{have:=le_sumTo (f:=λi=>if 8<=S.ph f i then 1 else 0) hi;simp only[h8,Cx]at this;exact this};have hV:S.V (put (put f 0 (3*(S.U f-1)+2,tr)) (S.m0+i) (7,.nat m))=S.V f:=El λa ha=>by{by_cases e:a=i;{subst e;rw[fO,AE j0,AE bm]};{rw[dJ _ _ e];unfold Sp.ph;rw[bS _ _ bm]}};unfold Sp.mu;rw[hV];have e0:f 0=(3*S.U f+1,(f 0).2):=by{rw[<-K]};exact z8};.have hpn:partners (zAI gs (S.m0+i) Go.Conc.ph) S.Cr aG=[]:=by{grind[FT,offersAt_ph,getElem?_stand,partners_nil]};have p:=crowd_waits (sl:=sl) L y λcc uc=>by{simp only[DI,Bb,Bq,Bm]at uc;grind[ways_send_none]};refine⟨_,_,put f (S.m0+i) (8,.leaf),rs,ws,_,p,?_,?_⟩;{grind[ofEvents_eq,wy]};{unfold Sp.mu;rw[(iG (S:=S) (f:=f) (j:=S.m0+i) (s:=(8,.leaf)) λk hk e=>ji).2.2];grind[nZ,nH,Mu.one]}}|parked _ C=>exact absurd hr (by simp[Go.Conc.parked])|_=>exact bm
end
theorem oV {R:zP}{u V:Nat}{rs ws:Nat->zP}{d:Nat}{f:Span}{g:zH}{w:zW}(a:0<S.m0)(h:S.CSit V (rs (S.m0+S.n)) (ws (S.m0+S.n)) f d g w):S.VF R u V rs ws (S.m0+S.n) f d g w:= ⟨bm,bm,bm,λ_=>h⟩
section
variable {f:Nat->Span}{gs:zG}{w w':zW}{t:Trace}{rs ws:Nat->zP}{g g':zH}{es:zE}{s:Span}{sl:Option (Nat×Nat)}
def oL (f)(s):S.V (put f (S.m0+S.n) s)=S.V f:=(iG (S:=S) bm).2.2
def lR (f)(s):S.ph (put f (S.m0+S.n) s) S.n=s.1:=fO f S.n s
def lJ {f s}(h:S.kT f):S.kT (put f (S.m0+S.n) s):=λk a x=>h k a Q9
def ku {f s i}(h:S.kO f i):S.kO (put f (S.m0+S.n) s) i:=⟨h.1,λk b a x=>h.2 k b a Q9⟩
def Sp.dV.kC (H:S.Good)(h:S.dV f gs w t rs ws)(p:gs[S.m0+S.n]? =aA g)(i:stepG S.P aG g w= .go g' w' es)(u:S.J w')(d:S.CSit (S.V f) (rs (S.m0+S.n)) (ws (S.m0+S.n)) s (deafBehind (Deaf t (S.m0+S.n)) es) g' w')(k:S.Mode (put f (S.m0+S.n) s) g'.status w') (hlt:Span.Lt s (f (S.m0+S.n)):=by rw[Z];first|exact pG|exact nH (by omega)) (hw':w'=w\/∃a v,w'=zAJ w a v/\a.block=S.Wg:=by exact aH rfl) (hes:∀e∈es,(∃a wr,e=(⟨.cell a,wr,aF⟩:Event)/\a.block=S.Wg)\/e=Go.ConcR.mk .disable\/e=Go.ConcR.mk .enable\/e=Go.ConcR.mk (.acquire (stA S.Wg))\/e=Go.ConcR.mk (.write (smA S.Wg))\/e.mute=aF:=by simp) (hz:s.1=0↔S.ph f S.n=0:=by rw[M]<;>simp) (hk:S.ph f S.n=0->∀e∈es,e.mute=aF:=by intro e;rw[M]at e;simp at e):S.Step f gs w sl t (S.m0+S.n):=by have l:=h.pos;have o:=h.size;have r:Go.Ren.Does (Sp.NF (S:=S) (ws (S.m0+S.n))) w w':=by{grind[wB,EH]};have q:put ws (S.m0+S.n) (grown (ws (S.m0+S.n)) w w')=ws:=by{grind[pA,jM]};have c:∀b,b≠S.Wg->w'.heap[b]? =w.heap[b]? :=by{grind[vZ]};refine h.go_own H p (by rw[eE l];exact i) hlt r u (λe m=> ?_) (aI (aH (aI rfl))) (c _ λe=>H.chans.2.1 e.symm) (c _ λe=>H.chans.2.2 e.symm) bm bm (λ_=>hz) bm ?_ (λy z=> ?_) J5;{obtain⟨a,wr,rfl,B⟩|rfl|rfl|rfl|rfl|x:=hes e m;{exact aI ji};{exact aI ji};{exact aI ji};{exact aI (aI (aI (aI (aH ⟨_,aI rfl,rfl⟩))))};{exact aI (aI (aI (aI (aI (aH ⟨rfl,_,aI rfl,rfl⟩)))))};.exact aI ji};{rw[q];exact oV l d};exact ji
def Sp.dV.js (h:S.dV f gs w t rs ws)(a:gs[S.m0+S.n]? =aA g)(hs:s.1=S.ph f S.n)(b:g'.status≠.blocked):S.Mode (put f (S.m0+S.n) s) g'.status w:=(h.mode g a).same (iW (by rw[hs];rfl)) rfl λ_=>b
theorem Sp.dV.YR (h:S.dV f gs w t rs ws)(a:gs[S.m0+S.n]? =aA g)(b:8<=S.ph f S.n):S.kT f/\WgAt S.ty S.Wg w (S.V f*KK) 0:=by cases h.mode g a<;>grind
theorem Sp.dV.FV (h:S.dV f gs w t rs ws)(a:gs[S.m0+S.n]? =aA g)(b:S.ph f S.n<=5):S.V f=0/\S.kT f/\WgAt S.ty S.Wg w 0 0:=by cases h.mode g a<;>grind
def Kl {a}(h:a.block=S.Wg):∀e∈#[Go.ConcR.rd a],(∃a wr,e=(⟨.cell a,wr,aF⟩:Event)/\a.block=S.Wg)\/e=Go.ConcR.mk .disable\/e=Go.ConcR.mk .enable\/e=Go.ConcR.mk (.acquire (stA S.Wg))\/e=Go.ConcR.mk (.write (smA S.Wg))\/e.mute=aF:=by intro e b;simp only[DI,Bb,Bq,Bm]at b;subst b;exact aH ⟨_,_,rfl,h⟩
def IN {a d}:deafBehind d #[Go.ConcR.rd a]=d:=by simp[deafBehind,Go.ConcR.rd]
theorem Sp.dV.kq (H:S.Good)(h:S.dV f gs w t rs ws)(j:gs[S.m0+S.n]? =aA g)(r:Deaf t (S.m0+S.n)=1){m:Nat}(y:S.Goes S.CLd m g w)(hlt:∀i,m=i+1->Span.Lt (10,.nat i) (f (S.m0+S.n)))(D:10<=S.ph f S.n):S.Step f gs w sl t (S.m0+S.n):=by have J:=h.base.live;let⟨hl,l⟩:=h.YR j bm;have z:=rr (S:=S) f;have v:=h.pQ;have x:S.ph f S.n=(f (S.m0+S.n)).1:=rfl;have c:∀{p:Nat}{tr:Tree},p<10->Span.Lt (p,tr) (f (S.m0+S.n)):=by{grind[nH]};obtain A|⟨i,g',rfl,b,o⟩:=dO y J;{obtain⟨g',b,C,B⟩:=A.2 (S.V f) bm l;by_cases k:S.V f=0;{obtain⟨i,d⟩:=C k;refine h.kC H j b J (by rw[r,IN];exact .en d) (.e o5 F9 (lJ hl) ?_) (hlt:=c bm) (hes:=Kl rfl) (hz:=j3) (hk:=bm);exact ji};.obtain⟨i,d⟩:=B k;refine h.kC H j b J (by rw[r,IN];exact .ri d k) (.a o5 (lJ hl) o7) (hlt:=c bm) (hes:=Kl rfl) (hz:=j3) (hk:=bm)};.exact h.kC H j b J (by rw[r];exact .ld o) (.a o5 (lJ hl) o7) (hlt:=hlt i rfl) (hz:=j3) (hk:=bm)
theorem Sp.dV.waits (H:S.Good)(h:S.dV f gs w t rs ws)(u:gs[S.m0+S.n]? =aA g)(hr:g.status= .running):S.Step f gs w sl t (S.m0+S.n)\/(S.ph f S.n=2/\Deaf t (S.m0+S.n)=0/\S.CCl g w):=by have Y:=h.pos;have LR:=h.size;have G:=(h.JM _ g u).2.2.2 rfl;have M:S.ph f S.n=(f (S.m0+S.n)).1:=rfl;have J:=h.base.live;have hVl:=rr (S:=S) f;have T:=h.pQ;generalize Z:f (S.m0+S.n)=sp at G;generalize p:Deaf t (S.m0+S.n)=d at G;rw[Z]at M;cases G with| @busy tr _ _ N=>{left;let⟨hl,k⟩:=h.YR u bm;cases tr with|node ch=>let⟨_,N⟩:=N;let⟨g',w',es,j,K,U,qk⟩:=N w (cD.refl _ _ w) J;have Q:=K.keep _ (h.base.pR (aI (aH rfl))) λx=>h.base.off (aI x) (aI (aH rfl));have ub:=K.keep _ (h.base.pR (aI bm)) λx=>h.base.off (aI x) (aI (aI (aH rfl)));have kh:=K.keep _ (h.base.pR (aI bm)) λx=>h.base.off (aI x) (aI (aI (aI rfl)));have J':S.J w':=by{let⟨a,b,x⟩:=J;exact⟨a,b,Q.trans x⟩};have zi:deafBehind 0 es=0:=deafBehind_still (λe I=>by obtain⟨a,wr,s,rfl,_⟩|⟨r,s,rfl,_⟩|x|x|⟨q,x⟩:=U e I;all_goals grind) 0;have Ke:S.CSit (S.V f) (rs (S.m0+S.n)) (grown (ws (S.m0+S.n)) w w') (15,ch w) 0 g' w':= .busy qk;refine h.go_own (s:=(15,ch w)) H u (by rw[eE Y];exact j) (by rw[Z];exact T0) ⟨λb N hn=>K.keep b N λx=>hn (aH x),K.size,K.tape,K.os,K.output⟩ J' (λe I=>aH (U e I)) (aI (aH (aI rfl))) ub kh bm bm ji bm ?_ ?_ bm;{grind[oV,aX]};{refine oR H h u J' (λ_=> ?_) (iW (by rw[Z])) Q;obtain x|x|x:=Ke.status H J';all_goals grind}|leaf=>let⟨_,g',j,A,z⟩:=N w (cD.refl _ _ w) J;refine h.kC H u j J (by rw[p];exact .anch z) (.a o5 (lJ hl) F9) (hes:= ?_);exact ji}| @FF m v _ _ B l=>left;let⟨hl,k⟩:=h.YR u bm;obtain E|⟨A,g',rfl,j,o⟩:=dO B J;{let⟨g',j,A,z⟩:=(E.2 (S.V f) bm k).2 bm;exact h.kC H u j J (by rw[p,IN];exact .anch z) (.a o5 (lJ hl) F9) (hes:=Kl rfl)};{exact h.kC H u j J (by rw[p];exact .FF o l) (.a o5 (lJ hl) F9)}| @anch m _ _ B=>left;let⟨hl,k⟩:=h.YR u bm;obtain E|⟨A,g',rfl,j,o⟩:=dO B J;{let⟨_,A,z⟩:=H.anch _ _ J E;grind[nH,kq]};{exact h.kC H u j J (by rw[p];exact .anch o) (.a o5 (lJ hl) F9)}| @ld m _ _ B=>grind[pG,kq]| @ri m _ _ B l=>left;let⟨hl,k⟩:=h.YR u bm;obtain E|⟨A,g',rfl,j,o⟩:=dO B J;{obtain⟨g',j,A,z⟩:=(E.2 (S.V f) bm k).1 rfl;have F:=k.setSt (S.V f*KK+1);refine h.kC H u j ⟨_,_,F⟩ (by rw[p,Bd];exact .wm z) (.b (aH (by rw[lR])) (by rw[oL];exact bm) (lJ hl) (by rw[oL];exact F)) (hw':=aI ⟨_,_,rfl,rfl⟩) (hes:= ?_);intro e I;simp only[DI,Bb,Bq,Bm]at I;obtain rfl|rfl:=I;{exact U2};.exact U2};.exact h.kC H u j J (by rw[p];exact .ri o l) (.a o5 (lJ hl) F9)| @wm m _ _ B=>left;obtain E|⟨A,g',rfl,j,o⟩:=dO B J;{obtain⟨_,g',j,A,z⟩:=E;have N:=Sp.Goes.run z J λ_ _ x=>x.1;refine h.kC H u j J (by rw[p];exact .Mo z) ?_ (hes:= ?_);rotate_left;{exact ji};.have h6:S.ph (put f (S.m0+S.n) (6,.nat A)) S.n=7\/S.ph (put f (S.m0+S.n) (6,.nat A)) S.n=6:=aI (by rw[lR]);cases h.mode g u with|a C hl k=>omega|b C l hl k=>exact .b h6 o7 (lJ hl) F9|c C l i hl hi k=>exact .c h6 o7 i (ku hl) (by rw[dJ _ _ ji];exact hi) k|c' C l i hl hi k=>exact .c' h6 o7 i (ku hl) (by rw[dJ _ _ ji];exact hi) k|d C l hl k hs=>exact .d h6 o7 (lJ hl) k ji|e C l hl k=>exact bm};.exact h.kC H u j J (by rw[p];exact .wm o) (h.js u (by rw[M]) Z8)| @Mo m _ _ B=>left;obtain E|⟨A,g',rfl,j,o⟩:=dO B J;{obtain⟨R,ho,W,L⟩:=E;by_cases hs:∃st,WgAt S.ty S.Wg w st 0;{have j:=W hs;refine⟨_,_,f,rs,ws,_,runT_crowd_go u (by rw[eE Y];exact j),?_,?_⟩;{have hwk:∀y,Go.Conc.woken S.P g {g with status:= .blocked} w y=y:=λy=>by{unfold Go.Conc.woken;exact ji};have hgs:zAI (gs.map (Go.Conc.woken S.P g {g with status:= .blocked} w)) (S.m0+S.n) {g with status:= .blocked}=zAI gs (S.m0+S.n) {g with status:= .blocked}:=by{grind};rw[hgs];have I:t++Ed (S.m0+S.n) g.frame.fn g.frame.place #[]=t:=M8;rw[I];refine⟨Y,T,by simp[LR],h.base,h.cr,h.cd,λa y O=> ?_,λy O=> ?_,h.nop,h.shut,h.tries,h.Ou⟩;{by_cases e:a=S.m0+S.n;{subst e;rw[Nh bm]at O;obtain rfl:=Ay O;rw[Z,p];exact oV Y (.blk B ho R)};.rw[Et λx=>e x.symm]at O;exact h.JM a y O};.cases h.mode g u with|a C hl k=>omega|b C l hl k=>exact .b C l hl k|c C l i hl hi k=>exact .c C l i hl hi k|c' C l i hl hi k=>exact .c' C l i hl hi k|d C l hl k _=>let⟨st,X⟩:=hs;have:=(k.unique X).2;simp at this|e C l hl k=>exact bm};.unfold Sp.mu;refine Mu.bit ?_;unfold bit;exact ji};.cases h.mode g u with|a C hl k=>omega|b C l hl k=>grind|c C l i hl hi k=>grind|c' C l i hl hi k=>grind|d C l hl k _=>let⟨g',j,A,z⟩:=L k;have F:=k.setSm 0;refine h.kC (s:=(5,.nat A)) H u j ⟨_,_,F⟩ ?_ (.e o5 o7 (lJ hl) F) (hw':=aI ⟨_,_,rfl,rfl⟩) (hes:= ?_);rotate_left;{intro e X;simp only[semEvents,DI,Bb,Bq,Bm]at X;obtain rfl|rfl|rfl|rfl:=X;{exact aI (aH rfl)};{exact U2};{exact U2};.exact aI (aI (aH rfl))};.have:deafBehind 1 (semEvents (smA S.Wg))=1:=by{simp[deafBehind,semEvents]};rw[p,this];exact .zero z|e C l hl k=>exact bm};.exact h.kC H u j J (by rw[p];exact .Mo o) (h.js u (by rw[M]) Z8)|blk B ho hrr=>simp at hr| @zero m _ _ B=>left;let⟨l,hl,k⟩:=h.FV u bm;obtain E|⟨A,g',rfl,j,o⟩:=dO B J;{let⟨g',j,A,z⟩:=E.2 k;exact h.kC H u j J (by rw[p,IN];exact .en z) (.e o5 o7 (lJ hl) k) (hes:=Kl rfl)};{exact h.kC H u j J (by rw[p];exact .zero o) (.e o5 o7 (lJ hl) k)}| @en m _ _ B=>left;let⟨l,hl,k⟩:=h.FV u bm;obtain E|⟨A,g',rfl,j,o⟩:=dO B J;{obtain⟨_,g',j,A,z⟩:=E;refine h.kC (s:=(3,.nat A)) H u j J ?_ (.e o5 o7 (lJ hl) k) (hes:= ?_);rotate_left;{exact ji};.have:deafBehind 1 #[Go.ConcR.mk .enable]=0:=C7;rw[p,this];exact .acq z};.exact h.kC H u j J (by rw[p];exact .en o) (.e o5 o7 (lJ hl) k)| @acq m _ _ B=>left;let⟨l,hl,k⟩:=h.FV u bm;obtain E|⟨A,g',rfl,j,o⟩:=dO B J;{obtain⟨_,g',j,A,z⟩:=E;refine h.kC (s:=(2,.nat A)) H u j J ?_ (.e o5 o7 (lJ hl) k) (hes:= ?_);rotate_left;{exact ji};.have:deafBehind 0 #[Go.ConcR.mk (.acquire (stA S.Wg))]=0:=C7;rw[p,this];exact .cl z};.exact h.kC H u j J (by rw[p];exact .acq o) (.e o5 o7 (lJ hl) k)| @cl m _ _ B=>let⟨l,hl,k⟩:=h.FV u bm;obtain E|⟨A,g',rfl,j,o⟩:=dO B J;{grind};{exact aH (h.kC H u j J (by rw[p];exact .cl o) (.e o5 o7 (lJ hl) k))}| @quit q _ _ _ hq=>left;let⟨l,hl,k⟩:=h.FV u bm;cases q with|zero=>rw[hq.1]at hr;cases hr|succ q=>obtain⟨hf',_⟩|⟨_,g',es,hm,j,hq'⟩:=hq;{grind};{exact h.kC H u (j w) J (by rw[p];exact .quit hq') (.e o5 o7 (lJ hl) k) (hes:=ji) (hk:=λ_=>hm)}
end
section
variable {f:Nat->Span}{gs:zG}{w:zW}{t:Trace}{rs ws:Nat->zP}{g:zH}{sl:Option (Nat×Nat)}
theorem Py (ws:zP)(w:zW)(cap:Nat)(buf:zA)(cl:Bool)(s r:Nat)(tm:Bool):Go.Ren.Does (Sp.NF (S:=S) ws) w (w.setChan S.Cd cap buf cl s r tm):= ⟨λb _ h=>oC w _ _ _ _ _ _ _ λe=>h (aI (aI (aI e))),by rw[oB];exact bm,rfl,rfl,rfl⟩
theorem Sp.dV.closes (H:S.Good)(h:S.dV f gs w t rs ws)(hj:gs[S.m0+S.n]? =aA g)(hph:S.ph f S.n=2)(I:Deaf t (S.m0+S.n)=0)(hD:S.CCl g w):S.Step f gs w sl t (S.m0+S.n):=by have Z:=h.pos;have X:=h.size;let⟨hv,hl,hw⟩:=h.FV hj bm;let⟨k0,tm0,ub⟩:=h.cr;let⟨s0,r0,tm1,kh⟩:=h.cd;have L:w.heap[S.Cd]? =aA (.chan 0 #[] aG s0 r0 tm1):=by{simp_all};let⟨_,W,hD⟩:=hD;let⟨g',A,q,hq⟩:=hD _ _ _ _ L;have aFM:=h.base.pR (aI (aI (aI rfl)));generalize hw':w.setChan S.Cd 0 #[] aF s0 r0 tm1=p at A;have heap:∀b,b≠S.Cd->p.heap[b]? =w.heap[b]? :=by{grind[oC]};have hd:Go.Ren.Does (Sp.NF (S:=S) (ws (S.m0+S.n))) w p:=by{grind[Py]};have Y:p.heap.size=w.heap.size:=by{grind[oB]};have v:=heap _ H.chans.2.2;have aI0:=(heap _ H.chans.1).trans ub;have K:p.heap[S.Cd]? =aA (.chan 0 #[] aF s0 r0 tm1):=by{grind[setChan_at]};have J':S.J p:=by{let⟨a,b,x⟩:=h.base.live;exact⟨a,b,v.trans x⟩};have Rx:put ws (S.m0+S.n) (grown (ws (S.m0+S.n)) w p)=ws:=by{funext k;by_cases e:k=S.m0+S.n;{subst e;rw[aX];funext b;apply propext;unfold grown;grind};{rw[bS _ _ e]}};let s:Span:=if(f 0).1=3*S.U f+1 then(3*S.U f,.leaf)else f 0;let d:=put (put f (S.m0+S.n) (0,.nat q)) 0 s;have f0:d 0=s:=aX _ _ _;have fk:∀k,k≠0->k≠S.m0+S.n->d k=f k:=by{grind[bS]};have fc:d (S.m0+S.n)=(0,.nat q):=by{grind[bS,aX]};have pk:∀k,k<S.n->S.ph d k=S.ph f k:=λk G=>by{unfold Sp.ph;grind};have pn:S.ph d S.n=0:=by{unfold Sp.ph;rw[fc]};have hU:S.U d=S.U f:=El ji;have hV:S.V d=S.V f:=El ji;have hRc:S.Rc d=S.Rc f:=by{funext k;apply propext;unfold Sp.Rc;grind};have r:S.Live d=S.Live f:=BH ji;have h00:(d 0).1≠3*S.U f+1/\((d 0).1=3*S.U f->(f 0).1=3*S.U f+1\/(f 0).1=3*S.U f):=by{grind};have F:Span.Lt s (f 0)\/s=f 0:=by{show Span.Lt (if(f 0).1=3*S.U f+1 then((3*S.U f,.leaf):Span)else f 0) (f 0)\/_;by_cases e:(f 0).1=3*S.U f+1;{rw[AE e];grind[nH]};grind};have C:∀op∈Ed (S.m0+S.n) g.frame.fn g.frame.place (closeEvents S.Cd),op.g=S.m0+S.n:=by{grind[Conc.mem_ofEvents]};have o:deafBehind 0 (closeEvents S.Cd)=0:=by{simp[deafBehind,closeEvents]};refine⟨_,p,d,rs,ws,_,runT_crowd_go hj (by rw[eE Z];exact A),⟨Z,h.pQ,by simp[X],?_,ji,ji,λa y hy=> ?_,λy hy=> ?_,λe=> ?_,bm,λ_=>pn,λ_=> ?_⟩,?_⟩;{rw[r];have:=h.base.own (fn:=g.frame.fn) (pos:=g.frame.place) (j:=S.m0+S.n) (es:=closeEvents S.Cd) bm hd J' (λe he=> ?_) (aI (aH (aI rfl)));{exact ji};.simp only[closeEvents,DI,Bb,Bq,Bm]at he;obtain rfl|rfl:=he;{exact aI ji};.exact aI ji};{rw[hRc,hU,hV];obtain⟨rfl,rfl⟩|⟨E,z,Q,rfl⟩:=lF _ _ _ _ _ _ hy;{rw[Deaf_own,I,o,fc];exact oV Z (.quit hq)};.rw[Deaf_other t (λe=>E e.symm) _ C];have hs:=h.JM a z Q;have nR:=h.base.nR hd E;by_cases ea:a=0;{subst ea;have hm:=(hs.1 rfl);refine⟨λ_=>⟨hm.1,?_⟩,bm,bm,bm⟩;rw[f0];have m:=hm.2.rely nR;by_cases e:(f 0).1=3*S.U f+1;{have M:s=(3*S.U f,.leaf):=ji;rw[M];generalize f 0=ff at m e;cases m with|busy x=>simp at e| @parked gm sh zr N _ x=>have:Go.Conc.woken S.P g g' p (parked gm (S.cases zr N) sh)={parked gm (S.cases zr N) sh with status:= .running}:=by{have T:(mayWake S.P g&&g'.status != .blocked&&g'.status != .waiting)=aF:=by{grind[Mx]};unfold Go.Conc.woken;rw[AE T];exact again_some_closed (k:=1) (c:=S.Cd) (z:=N) rfl K};rw[this];exact .tries x|tries x=>simp at e};.have M:s=f 0:=ji;rw[M];obtain x|x:=m.status H J';{rw[woken_running x.1];exact m};exact bm};grind[VF.other]};{exact .e bm bm (λk G x=>hl k G (by unfold Sp.lK at x⊢;exact ji)) (v.trans hw)};{exact bm};{have e1:Ed (S.m0+S.n) g.frame.fn g.frame.place (closeEvents S.Cd)= #[{g:=S.m0+S.n,fn:=g.frame.fn,pos:=g.frame.place,act:= .access ⟨.obj S.Cd,aG,aF⟩}]++ #[{g:=S.m0+S.n,fn:=g.frame.fn,pos:=g.frame.place,act:= .close S.Cd}]:=by{rw[ofEvents_eq];simp[closeEvents,MemAct.ofEvent]};rw[e1,<-Array.append_assoc];generalize R:({g:=S.m0+S.n,fn:=g.frame.fn,pos:=g.frame.place,act:= .access ⟨.obj S.Cd,aG,aF⟩}:MemOp)=u;generalize l:({g:=S.m0+S.n,fn:=g.frame.fn,pos:=g.frame.place,act:= .close S.Cd}:MemOp)=O;have p1:(t++ #[u])[t.size]? =aA u:=by{simp};have p2:(t++ #[u]++ #[O])[t.size+1]? =aA O:=by{rw[Nd j0];simp};refine⟨t.size+1,by rw[act?_of p2,<-l],⟨S.m0+S.n,by rw[Trace.g?,p2,<-l];rfl,?_⟩,λi op a hi hg ha=> ?_⟩;{rw[deaf_old j0,deaf_succ p1,deaf_old (je _)];simp only[deafStep,<-R];exact I};.have hkn:∀i z,(t++ #[u])[i]? =aA z->z.g=S.m0+S.n->HappensBefore (t++ #[u]++ #[O]) i (t.size+1):=λi z Q hg=>by{have G:=knows_own Q;rw[hg]at G;exact G.hb_new j0 p2 (by rw[<-l])};obtain⟨hil,ue⟩|⟨op',hge,hx,D,B⟩:=dX ha;{rw[getElem?_append_old hil]at hi;exact aI (hkn i op hi hg)};{simp only[DI,Bb,Bq,Bm]at D;subst D;rw[<-l]at B;simp[MemAct.touch?]at B}};.unfold Sp.mu;rw[hV];have kg:Span.Lt (0,.nat q) (f (S.m0+S.n)):=by{have e0:f (S.m0+S.n)=((f (S.m0+S.n)).1,(f (S.m0+S.n)).2):=rfl;rw[e0];exact nH Y9};have v1:VE (vec (S.m0+S.n+1) (put f (S.m0+S.n) (0,.nat q))) (vec (S.m0+S.n+1) f):=nZ bm kg;obtain x|x:=F;{grind[nZ,bS,Mu.two]};.have:d=put f (S.m0+S.n) (0,.nat q):=by{grind[bS]};grind[Mu.one]
end
structure Sp.Zh (S:Sp)(gs:zG)(w:zW)(t:Trace):Prop where
 main:∃g rs ws,gs[0]? =aA g/\S.Fin rs ws g w
 size:gs.size=S.m0+S.n+1
 fl:∃q,Leavers S.P t gs q
 past:Past (λl=>∃b,blk l=aA b/\S.at' b) w.heap.size t
 nm:∀b,S.at' b->∀i a,touchAt t i=aA a->blk a.loc=aA b->a.kind≠.plain
 cr:∃c tm,w.heap[S.Cr]? =aA (.chan 0 #[] aG c c tm)
def zCz {P t gs}(h:∀k g,0<k->gs[k]? =aA g->∃q,QuitsD P q (Deaf t k) g)(a:∀j,gs.size<=j->Deaf t j=0):∃q,Leavers P t gs q:=by have b:∀k,∃q,0<k->∀g,gs[k]? =aA g->QuitsD P q (Deaf t k) g:=λk=>by{by_cases c:0<k;{cases d:gs[k]?<;>simp_all};simp_all};exact⟨λk=>Classical.choose (b k),⟨ji,a⟩⟩
section
variable {f:Nat->Span}{gs:zG}{w:zW}{t:Trace}{rs ws:Nat->zP}{g:zH}{sl:Option (Nat×Nat)}
def Sp.Ends (S:Sp)(gs:zG)(w:zW)(sl:Option (Nat×Nat))(t:Trace):Prop:= ∃a b ops,runT S.P (crowd gs w sl) 0=(.next (crowd a b sl),ops)/\S.Zh a b (t++ops)
def Sp.WSit.over {v rs ws f d g w}(h:S.WSit v rs ws f d g w)(a:f.1<5)(hl:¬(1<=f.1/\f.1<=3)):∃q,QuitsD S.P q d g:=L8
def Sp.CSit.over {V rs ws f d g w}(h:S.CSit V rs ws f d g w)(a:f.1=0):∃q,QuitsD S.P q d g:=L8
theorem UP {f}(h:S.V f=0){i}(hi:i<S.n):S.ph f i<5:=by grind[RO,Nat.lt_of_not_le]
theorem Sp.dV.oo (H:S.Good)(h:S.dV f gs w t rs ws){b sh z o}(k:S.Za (S.Rc f) (rs 0) (ws 0) b sh z o w)(r:Deaf t 0=0)(q:∀i,i<S.n->S.ph f i≠8)(v:S.ph f S.n≠0):
  S.dV (put f 0 (3*S.U f+1,.leaf)) (zAI gs 0 (parked b (S.cases z o) sh)) w t rs ws:=by
 have p:=h.pos;obtain⟨m,u,s⟩:=iG (S:=S) (j:=0) bm;have l:∀i,S.ph (put f 0 (3*S.U f+1,.leaf)) i=S.ph f i:=λi=>by unfold Sp.ph;rw[bS _ _ bm]
 have c:S.Live (put f 0 (3*S.U f+1,.leaf))=S.Live f:=BH ji;refine⟨p,h.pQ,zAD,by rw[c];exact h.base,h.cr,by rw[l];exact h.cd,λa y d=> ?_,λy d=> ?_,ji,λe=> ?_,λe=> ?_,λe=> ?_⟩
 .rw[m,u,s];by_cases e:a=0
  .subst e;have hlt:0<gs.size:=ji;rw[Nh hlt]at d;obtain rfl:=Ay d;rw[aX];exact⟨λ_=>⟨r,.parked k⟩,bm,bm,bm⟩
  .rw[Et (λx=>e x.symm)]at d;grind[JM,bS]
 .rw[Et bm]at d;exact(h.mode y d).same ji rfl id
 .exact ji
 .grind[aX]
 exact ji
theorem Sp.dV.Jj (H:S.Good)(h:S.dV f gs w t rs ws)(hg:gs[0]? =aA g){l sh zr M}(GQ:stepG S.P aF g w= .comm l (S.cases zr M) aF sh w #[])(E:S.Za (S.Rc f) (rs 0) (ws 0) l sh zr M w)(hd:Deaf t 0=0)
  (hf:(f 0).1=3*S.U f+2\/S.ph f S.n=0):S.Step f gs w sl t 0\/S.Ends gs w sl t:=by
 have hp:=h.pos;have LR:=h.size;have J:=h.base.live;have r:=GQ;let⟨k,tm,Z⟩:=h.cr;let⟨s0,r0,tm1,kh⟩:=h.cd;let⟨y,hy⟩:=h.closer;have hpd:partners (zAI gs 0 Go.Conc.ph) S.Cd aF=[]:=partners_nil λa x p=>by
  obtain⟨_,rfl⟩|⟨_,p⟩:=getElem?_stand _ _ _ _ p;{exact offersAt_ph _ _}
  .obtain e|⟨_,_,_,_,_,_,_,_,_,_,_,_,e⟩:=qA H h p S.Cd
   .exact e
   .rw[e,AF H.chans.1]
 by_cases hpk:∃i,i<S.n/\S.ph f i=8
 .left;let⟨i0,jz,h80⟩:=hpk;have G:S.ph f S.n≠0:=λe=>by
   have:=(h.FV hy bm).1;grind[UP]
  have Y:=hf.resolve_right G;have aDe:w.heap[S.Cd]? =aA (.chan 0 #[] aG s0 r0 tm1):=by grind
  have W:partners (zAI gs 0 Go.Conc.ph) S.Cr aF≠[]:=by
   have hlt:S.m0+i0<gs.size:=by omega
   have p:=Ef hlt;have Q:=(h.JM _ _ p).2.2.1 i0 jz rfl;have e8:(f (S.m0+i0)).1=8:=h80;have hm:(S.m0+i0,0)∈partners (zAI gs 0 Go.Conc.ph) S.Cr aF:=by
    refine mem_partners.2 ⟨_,stand_get bm p,?_⟩;generalize gs[S.m0+i0]=gx at Q;generalize f (S.m0+i0)=fx at Q e8;generalize Deaf t (S.m0+i0)=dx at Q;cases Q with
    |parked _ hh=>rw[offersAt_parked_send,AE rfl];simp
    |_=>simp at e8
   exact ji
  have ho:∀(a:Nat)(c':CommCase),a≠0->(S.cases zr M)[a]? =aA c'->NoWays w (zAI gs 0 Go.Conc.ph) c':=λa c' I hc=>by
   have:a=1:=by have:=(Ax.1 hc).1;simp[Sp.cases]at this;omega
   subst this;simp only[Sp.cases,JS,Mm,Ho,Cz]at hc;grind[ways_recv_none]
  have aDo:∀a b,(a,b)∈partners (zAI gs 0 Go.Conc.ph) S.Cr aF->b=0/\a≠0/\∃D F K C,gs[a]? =aA (parked D #[scase S.Cr F K] C):=λa b qn=>by let⟨x,p,L⟩:=mem_partners.1 qn;obtain⟨_,rfl⟩|⟨W,p⟩:=getElem?_stand _ _ _ _ p;{grind[offersAt_ph]};grind[qA]
  obtain⟨j,D,F,K,C,d,tz,hgj,o⟩:=pS hg r rfl ho Z W aDo;have aIe:offersAt (parked D #[scase S.Cr F K] C) S.Cr aF=[0]:=by{rw[offersAt_parked_send,AE rfl]};obtain e|⟨i,hi,rfl,h8,v,gw,z,m,hv,T,hgo,hdj,_⟩:=qA H h hgj S.Cr;{grind}
  .have A:aA (#[scase S.Cr F K],C)=aA (#[scase S.Cr v z],CommShape.send):=by have h0:=congrArg Goroutine.offers T;exact h0
   simp only[Cz,Prod.mk.injEq,scase,Array.mk.injEq,List.cons.injEq,CommCase.mk.injEq,true_and,and_true]at A;obtain⟨⟨rfl,rfl⟩,rfl⟩:=A;have X:D.finishComm S.P #[scase S.Cr F K] .send 0 ij aG=Go.Conc.served gw ij:=by rw[<-finishComm_parked S.P D _ #[scase S.Cr F K] .send .send,T,finishComm_parked,finishComm_send]
   rw[X]at o;obtain⟨tr,hinv⟩:=h.meet H hi bm hdj hd E hgo Z hv (gs':=zAI (zAI gs (S.m0+i) (Go.Conc.served gw ij)) 0 (l.finishComm S.P (S.cases zr M) sh 0 F aF))
    (x1:={g:=S.m0+i,fn:=D.frame.fn,pos:=D.frame.place,act:= .send S.Cr k}) (x2:={g:=0,fn:=l.frame.fn,pos:=l.frame.place,act:= .recv S.Cr k 0}) (x3:={g:=S.m0+i,fn:=D.frame.fn,pos:=D.frame.place,act:= .sendDone S.Cr k}) (x4:={g:=0,fn:=l.frame.fn,pos:=l.frame.place,act:= .recvDone S.Cr k})
    ⟨rfl,rfl⟩ ⟨rfl,rfl⟩ ⟨rfl,rfl⟩ ⟨rfl,rfl⟩ j0 ji (by grind[OE,Nl]) ji
   refine⟨_,_,put (put f 0 (3*(S.U f-1)+2,tr)) (S.m0+i) (7,.nat m),put rs (S.m0+i) λ_=>False,put (put ws 0 λb=>ws 0 b\/ws (S.m0+i) b) (S.m0+i) λ_=>False,_,o,?_,?_⟩;{assumption}
   .have hU:0<S.U f:=by
     have:=le_sumTo (f:=λi=>if 8<=S.ph f i then 1 else 0) hi;simp only[show 8<=S.ph f i from bm,Cx]at this;exact this
    have hV:S.V (put (put f 0 (3*(S.U f-1)+2,tr)) (S.m0+i) (7,.nat m))=S.V f:=El λa I=>by by_cases e:a=i;{subst e;rw[fO,AE j0,AE bm]};{rw[dJ _ _ e];unfold Sp.ph;rw[bS _ _ bm]}
    unfold Sp.mu;rw[hV];have e0:f 0=(3*S.U f+2,(f 0).2):=by{rw[<-Y]};have ei:f (S.m0+i)=(8,(f (S.m0+i)).2):=by{rw[<-h8];rfl};exact z8
 .have hnp:∀i,i<S.n->S.ph f i≠8:=by grind
  have hpr:partners (zAI gs 0 Go.Conc.ph) S.Cr aF=[]:=partners_nil λa x p=>by obtain⟨_,rfl⟩|⟨_,p⟩:=getElem?_stand _ _ _ _ p;{exact offersAt_ph _ _};grind[qA]
  by_cases G:S.ph f S.n=0
  .right;have aDf:w.heap[S.Cd]? =aA (.chan 0 #[] aF s0 r0 tm1):=ji;let⟨hv,hl,Q⟩:=h.FV hy bm;have o:=crowd_sel_recv_closed (P:=S.P) (sl:=sl) hg r (k:=1) (z:=M) (c:=S.Cd) rfl (λa c' I hc=> ?_) aDf hpd
   .refine⟨_,_,_,o,?_⟩;have hR:∀i,i<S.n->S.Rc f i:=λi hi=>⟨hi,by grind[UP]⟩;have e1:Ed 0 g.frame.fn g.frame.place #[]++ #[({g:=0,fn:=l.frame.fn,pos:=l.frame.place,act:= .recvClosed S.Cd}:MemOp)]= #[{g:=0,fn:=l.frame.fn,pos:=l.frame.place,act:= .recvClosed S.Cd}]:=M8;rw[e1];generalize p:({g:=0,fn:=l.frame.fn,pos:=l.frame.place,act:= .recvClosed S.Cd}:MemOp)=x;have O:x.g=0/\x.act= .recvClosed S.Cd:=ji;have B:∀a,Deaf (t++ #[x]) a=Deaf t a:=by grind[Mw]
    have R:TI (t++ #[x]) ⟨λ_ _=>False,λ_ _=>False,λ_ _=>False,S.at'⟩ λ_=>False:=by
     refine h.base.ti.Vn (λop u=> ?_) ji ji ji (λb L=>aH L) (λb L=>L) (λa I=>aI ?_);{simp only[DI,Bb,Bq,Bm]at u;subst u;rw[O.2];rfl}
     .obtain⟨i,hi,e,e8⟩|e:=I
      .grind[UP]
      grind[Ou,UH]
    refine⟨⟨_,_,_,ji,E.done hR w (cD.refl _ _ w) J⟩,by simp[LR],zCz (λa y' I N=> ?_) (λa I=> ?_),?_,λb L=>R.rn L,h.cr⟩
    .rw[B];rw[Et bm]at N;have hs:=h.JM a y' N;have hlt:a<gs.size:=ji;by_cases e1:a<S.m0;{let⟨q,_,hq⟩:=hs.2.1 I e1;grind}
     .by_cases e2:a=S.m0+S.n
      .exact(hs.2.2.2 e2).over (by rw[e2];exact G)
      .have ea:a=S.m0+(a-S.m0):=bm;have hpf:S.ph f (a-S.m0)=(f a).1:=by{unfold Sp.ph;rw[<-ea]};exact(hs.2.2.1 (a-S.m0) bm ea).over (by grind[UP]) (by rw[<-hpf];exact hl _ bm)
    .rw[B];exact h.base.above a ji
    .refine R.past ji (seen_app h.base.low λop u=> ?_);simp only[DI,Bb,Bq,Bm]at u;subst u;rw[O.2];exact h.base.pR (aI bm)
   .have:a=0:=by
     have:=(Ax.1 hc).1;simp[Sp.cases]at this;exact bm
    subst this;simp only[Sp.cases,JS,Ho,Cz]at hc;grind[ways_recv_none]
  .left;have Y:(f 0).1=3*S.U f+2:=bm;have aDe:w.heap[S.Cd]? =aA (.chan 0 #[] aG s0 r0 tm1):=by grind
   have o:=crowd_waits (P:=S.P) (sl:=sl) hg r λcc uc=>by simp only[Sp.cases,DI,Bb,Bq,Bm]at uc;grind[ways_recv_none]
   refine⟨_,_,put f 0 (3*S.U f+1,.leaf),rs,ws,_,o,?_,?_⟩;{grind[oo,ofEvents_eq]};{unfold Sp.mu;rw[(iG (S:=S) (f:=f) (j:=0) (s:=(3*S.U f+1,.leaf)) λk hk e=>bm).2.2];grind[Mu.one,nH,nZ]}
def Sp.dV.gh (H:S.Good)(h:S.dV f gs w t rs ws)(m:gs[0]? =aA g)(K:g.status= .running):S.Step f gs w sl t 0\/S.Ends gs w sl t:=by have N:=h.pos;have J:=h.base.live;let⟨F,E⟩:=(h.JM 0 g m).1 rfl;generalize p:f 0=f0 at E;cases E with| @busy tr _ _ j=>{cases tr with|leaf=>let⟨_,i,n,B,C,d,D⟩:=H.sel _ _ _ _ _ J (j w (cD.refl _ _ w) J);grind[Jj]|node ch=>left;let⟨_,j⟩:=j;let⟨O,I,M,d,c,l,A⟩:=j w (cD.refl _ _ w) J;have k:=c.keep _ (h.base.pR (aI (aH rfl))) λx=>h.base.off (aI x) (aI (aH rfl));have y:=c.keep _ (h.base.pR (aI bm)) λx=>h.base.off (aI x) (aI (aI (aH rfl)));have z:=c.keep _ (h.base.pR (aI bm)) λx=>h.base.off (aI x) (aI (aI (aI rfl)));have G:S.J I:=by{let⟨a,b,x⟩:=J;exact⟨a,b,k.trans x⟩};have v:deafBehind 0 M=0:=deafBehind_still (λe u=>by obtain⟨a,wr,s,rfl,_⟩|⟨r,s,rfl,_⟩|x|x|⟨q,x⟩:=l e u;all_goals grind) 0;refine h.go_own (s:=(3*S.U f+2,ch w)) H m d (by rw[p];exact T0) ⟨λb j L=>c.keep b j λx=>L (aH x),c.size,c.tape,c.os,c.output⟩ G (λe u=>aH (l e u)) (aH rfl) y z bm bm bm (λ_=>rfl) ?_ (oR H h m G bm (iW (by rw[p])) k) bm;refine⟨λ_=>⟨by rw[F,v],?_⟩,bm,bm,bm⟩;rw[aX];exact .busy A}|parked o=>simp[Go.Conc.parked]at K| @tries i n B C _ o=>have d:=o.again w (cD.refl _ _ w) J;have e:=stepG_tries (P:=S.P) (g:=i) (sh:=n) aF (S.cases B C) w;exact h.Jj H m (e.trans d) o F (aI (h.tries (by rw[p])))
theorem Sp.dV.elder (H:S.Good)(h:S.dV f gs w t rs ws){j}(o:0<j)(m:j<S.m0)(b:gs[j]? =aA g)(c:g.status= .running):S.Step f gs w sl t j:=by let⟨q,i,d⟩:=(h.JM j g b).2.1 o m;cases q with|zero=>rw[d.1]at c;cases c|succ q=>obtain⟨n,_⟩|⟨_,r,es,l,a,k⟩:=d;{grind};{refine h.go_own H b Y8 (by rw[i];exact pG) (wB _ w) h.base.live (λe p=>aI ji) J5 rfl rfl bm bm bm bm ?_ (oR H h b h.base.live bm (iW (by rw[i])) rfl) bm;rw[jM];exact⟨bm,ji,bm,bm⟩}
def Sp.dV.awake (H:S.Good)(h:S.dV f gs w t rs ws):∀g∈gs,Go.Conc.awake g:=by intro y c;have J:=h.base.live;have d:=h.size;obtain⟨a,i,rfl⟩:=Array.mem_iff_getElem.1 c;have b:=h.JM a _ (Ef i);by_cases l:a=0;{obtain x|x:=(b.1 l).2.status H J;{exact awake_of (aH x.1)};.exact Y5};.by_cases k:a<S.m0;{obtain⟨q,_,e⟩:=b.2.1 bm k;exact awake_of (e.status.elim aH ji)};.by_cases j:a=S.m0+S.n;{obtain x|x|x:=(b.2.2.2 j).status H J;{exact awake_of (aH x)};{exact Y5};.exact Y5};.obtain x|x|x:=(b.2.2.1 (a-S.m0) bm bm).status J;{exact awake_of (aH x.2)};{exact Y5};.exact Y5
def Sp.dV.runs (H:S.Good)(h:S.dV f gs w t rs ws):∃N l m s X,runNT S.P N (crowd gs w sl) t=(.next (crowd l m s),X)/\S.Zh l m X:=by
 generalize I:S.mu f gs=W;induction W using Mu.wf.induction generalizing f gs w t rs ws sl with
 |_ W Y=>
  let⟨j,g,d,s,hj,O,r⟩:=crowd_pick (P:=S.P) (w:=w) (sl:=sl) (h.awake H) (by
    have J:=h.base.live;have M:=h.size;have hp:=h.pos;have Z:∀a,a<gs.size->∃y,gs[a]? =aA y:=j1;let⟨y0,K⟩:=Z 0 bm;obtain x|⟨x,_⟩:=((h.JM 0 y0 K).1 rfl).2.status H J;{grind}
    .have Q:=h.nop x;have T:S.ph f S.n≠0:=λe=>h.shut e x;have q:∀i,i<S.n->S.ph f i≠0->∃y,gs[S.m0+i]? =aA y/\y.status= .running:=λi hi h0=>by
      let⟨y,C⟩:=Z (S.m0+i) bm;obtain z|z|z:=((h.JM _ y C).2.2.1 i hi rfl).status J;{grind};{exact absurd z.1 (Q i hi)};{exact absurd z.1 h0}
     let⟨y,C⟩:=h.closer;obtain z|z|z:=((h.JM _ y C).2.2.2 rfl).status H J;{grind}
     .have hz6:S.ph f S.n=6:=z.1;cases h.mode y C with
      |a A hl hw=>omega
      |b A D hl hw=>
       have:∃i,i<S.n/\5<=S.ph f i:=Dv λR=>by
        have:S.V f=0:=by
         unfold Sp.V;rw[El λi hi=>AF λh5=>R ⟨i,hi,h5⟩];have:∀n,sumTo n (λ_=>0)=0:=λn=>by
          induction n with
          |zero=>rfl
          |succ n Y=>exact j5
         exact this _
        exact bm
       exact ji
      |c A D i hl hi hw=>let⟨y',L,O⟩:=q i hl.1 bm;grind
      |c' A D i hl hi hw=>let⟨y',L,O⟩:=q i hl.1 bm;grind
      |d A D hl hw hs=>grind
      |e A D hl hw=>exact bm
     .exact absurd z.1 T)
  have h':=h.at d;have M:=h.size;have hlt:=(Ax.1 hj).1;have G:S.Step f gs (w.at d) s t j\/(j=0/\S.Ends gs (w.at d) s t):=by
   by_cases e0:j=0;{subst e0;exact(h'.gh H hj O).imp id ji}
   .by_cases e1:j<S.m0
    .grind[elder]
    .by_cases e2:j=S.m0+S.n
     .grind[waits,closes]
     .obtain⟨i,rfl⟩:∃i,j=S.m0+i:=⟨j-S.m0,bm⟩;grind[VH,worker]
  obtain⟨l,m,f',te,Se,ops,k,u,U⟩|⟨rfl,l,m,ops,k,v⟩:=G;{obtain⟨N,B,E,p,F,hN,hE⟩:=Y _ (I▸U) u rfl;exact⟨N+1,B,E,p,F,by simp only[runNT,r,k];exact hN,hE⟩};{exact⟨1,l,m,s,t++ops,by simp only[runNT,r,k],v⟩}
end
structure Sp.yG (S:Sp)(k:Nat)(f:Nat->Span)(gs:zG)(w:zW)(t:Trace)(rs ws:Nat->zP):Prop where
 pos:0<S.m0
 pQ:S.n<2147483647
 le:k<=S.n
 size:gs.size=S.m0+(S.n-k)
 base:S.Base (S.m0+(S.n-k)) w t rs ws 0 (λa=>∃i,i<S.n-k/\a=S.m0+i)
 cr:∃c tm,w.heap[S.Cr]? =aA (.chan 0 #[] aG c c tm)
 cd:∃s r tm,w.heap[S.Cd]? =aA (.chan 0 #[] aG s r tm)
 main:∃g,gs[0]? =aA g/\S.eC (S.Fk k) (f 0).2 (Deaf t 0) (rs 0) (ws 0) g w
 zero:(f 0).1=0
 old:∀a g,0<a->a<S.m0->gs[a]? =aA g->∃q,f a=(0,.nat q)/\QuitsD S.P q (Deaf t a) g
 wk:∀i g,i<S.n-k->gs[S.m0+i]? =aA g->S.WSit i (rs (S.m0+i)) (ws (S.m0+i)) (f (S.m0+i)) (Deaf t (S.m0+i)) g w/\8<=(f (S.m0+i)).1
def Sp.muF (S:Sp)(k:Nat)(f:Nat->Span):Mu:=(k+1,0,vec (S.m0+(S.n-k)) f,0)
def Sp.Cm (S:Sp)(k:Nat)(f:Nat->Span)(gs:zG)(w:zW)(sl:Option (Nat×Nat))(t:Trace)(j:Nat):Prop:= ∃b w' ops,runT S.P (crowd gs w sl) j=(.next (crowd b w' sl),ops)/\ ((∃d c r a,S.yG d c b w' (t++ops) r a/\Mu.Lt (S.muF d c) (S.muF k f))\/∃c r a,S.dV c b w' (t++ops) r a)
section
variable {k:Nat}{f:Nat->Span}{gs:zG}{w w':zW}{t:Trace}{rs ws:Nat->zP}{j:Nat}{g g':zH}{es:zE}{s:Span}{sl:Option (Nat×Nat)}
def Sp.yG.at (h:S.yG k f gs w t rs ws)(d):S.yG k f gs (w.at d) t rs ws:=by let⟨g,a,b⟩:=h.main;exact⟨h.pos,h.pQ,h.le,h.size,h.base.at d,h.cr,h.cd,⟨g,a,b.rely (SU _ _ w d)⟩,h.zero,h.old,λi g hi a=>⟨(h.wk i g hi a).1.rely (SU _ _ w d) h.base.live,(h.wk i g hi a).2⟩⟩
theorem Sp.yG.own (h:S.yG k f gs w t rs ws)(O:gs[j]? =aA g)(H:stepG S.P (j==0) g w= .go g' w' es)(hlt:Span.Lt s (f j))(p:Go.Ren.Does (λb=>ws j b\/(j=0/\b=S.Wg)) w w')(N:S.J w')(Y:∀e∈es,EvS S 0 j (rs j) (grown (ws j) w w') e) (hl:j=0\/(∃i,i<S.n-k/\j=S.m0+i)\/∀e∈es,(MemAct.ofEvent e).touch? =aB) (h0:j=0->s.1=0/\S.eC (S.Fk k) s.2 (deafBehind (Deaf t 0) es) (rs 0) (grown (ws 0) w w') g' w') (h1:0<j->j<S.m0->∃q,s=(0,.nat q)/\QuitsD S.P q (deafBehind (Deaf t j) es) g') (Z:∀i,i<S.n-k->j=S.m0+i->S.WSit i (rs j) (grown (ws j) w w') s (deafBehind (Deaf t j) es) g' w'/\8<=s.1):S.Cm k f gs w sl t j:=by have V:=h.pos;have G:=h.size;have X:=(Ax.1 O).1;have l:Go.Ren.Does (Sp.NF (ws j)) w w':=⟨λb r W=>p.keep b r λx=>W (x.imp id λy=>aH y.2),p.size,p.tape,p.os,p.output⟩;have m:∀op∈Ed j g.frame.fn g.frame.place es,op.g=j:=by{grind[Conc.mem_ofEvents]};have o:∀b,b=S.Cr\/b=S.Cd->b≠S.Wg->w'.heap[b]? =w.heap[b]? :=λb r d=>p.keep b (h.base.pR (r.elim (λe=>aI (aI (aH e))) λe=>aI (aI (aI e)))) λx=>x.elim (λy=>h.base.off (aI y) (r.elim (λe=>aI (aI (aH e))) λe=>aI (aI (aI e)))) λy=>d y.2;let⟨c,tm,D⟩:=h.cr;let⟨s0,r0,tm1,E⟩:=h.cd;have L:S.Cr≠S.Wg:=λe=>by{let⟨a,b,x⟩:=h.base.live;have u:w.heap[S.Wg]? =aA (Go.ConcR.wgBlock S.ty a b):=x;rw[<-e,D]at u;simp[Go.ConcR.wgBlock]at u};have M:S.Cd≠S.Wg:=λe=>by{let⟨a,b,x⟩:=h.base.live;have u:w.heap[S.Wg]? =aA (Go.ConcR.wgBlock S.ty a b):=x;rw[<-e,E]at u;simp[Go.ConcR.wgBlock]at u};have C:=(o _ (aH rfl) L).trans D;have Q:=(o _ (aI rfl) M).trans E;refine⟨_,w',_,runT_crowd_go O H,aH ⟨k,put f j s,rs,put ws j (grown (ws j) w w'),⟨V,h.pQ,h.le,H7,h.base.own bm l N Y (hl.imp id λx=>x.imp id ji),ji,ji,?_,?_,λa y K I v=> ?_,λi y hi v=> ?_⟩,Mu.one (nZ bm hlt)⟩⟩;{obtain⟨y,v,r⟩:=h.main;by_cases e:j=0;{grind[Deaf_own,aX]};.have B:y.status= .running:=by{cases A:(f 0).2 with|leaf=>{rw[A]at r;have:=r.2 w (cD.refl _ _ w);cases k with|zero=>exact this.1|succ k=>exact this.1}|node ch=>rw[A]at r;exact r.1};refine⟨y,?_,?_⟩;{rw[Et e,Hk,v,Fz,woken_running B]};.rw[bS _ _ (λx=>e x.symm),bS _ _ (λx=>e x.symm),Deaf_other t e _ m];refine r.rely ⟨λb U=> ?_,p.size,p.tape,p.os,p.output⟩;have nR:=h.base.nR l (λx=>e x.symm);obtain x|x|x:=U;{exact nR.cY b (aH x)};{exact nR.cY b (aI x)};.subst x;exact p.keep _ (h.base.pR (aI (aH rfl))) λy=>y.elim (λz=>h.base.off (aI z) (aI (aH rfl))) λz=>e z.1};{by_cases e:j=0;{subst e;rw[aX];exact bm};.rw[bS _ _ (λx=>e x.symm)];exact h.zero};{obtain⟨rfl,rfl⟩|⟨d,z,F,rfl⟩:=lF _ _ _ _ _ _ v;{rw[aX,Deaf_own];exact ji};.obtain⟨q,T,R⟩:=h.old a z K I F;rw[bS _ _ d,Deaf_other t (λe=>d e.symm) _ m,woken_quitsD R];exact ji};.obtain⟨e,rfl⟩|⟨d,z,F,rfl⟩:=lF _ _ _ _ _ _ v;{have:=Z i hi e.symm;grind[Deaf_own,aX]};.obtain⟨T,R⟩:=h.wk i z hi F;have e3:=T.rely (h.base.nR l d) N;rw[bS _ _ d,bS _ _ d,Deaf_other t (λe=>d e.symm) _ m,e3.woken N C];exact ji
theorem Sp.yG.VH (h:S.yG k f gs w t rs ws){i}(hi:i<S.n-k)(O:gs[S.m0+i]? =aA g)(hr:g.status= .running):S.Cm k f gs w sl t (S.m0+i):=by have Y:=h.pos;have L:=h.size;have J:=h.base.live;let⟨M,Z⟩:=h.wk i g hi O;generalize hf:f (S.m0+i)=sp at M Z;generalize G:Deaf t (S.m0+i)=d at M;cases M with| @busy tr _ _ u=>{cases tr with|node ch=>let⟨_,u⟩:=u;let⟨g',w',es,D,A,F,W⟩:=u w (cD.refl _ _ w) J;have K:=A.keep _ (h.base.pR (aI (aH rfl))) λx=>h.base.off (aI x) (aI (aH rfl));have J':S.J w':=by{let⟨a,b,x⟩:=J;exact⟨a,b,K.trans x⟩};have U:deafBehind 0 es=0:=deafBehind_still (λe T=>by obtain⟨a,wr,s,rfl,_⟩|⟨r,s,rfl,_⟩|x|x|⟨q,x⟩:=F e T;all_goals grind) 0;refine h.own (s:=(9,ch w)) O (by rw[eE Y];exact D) (by rw[hf];exact T0) ⟨λb u hn=>A.keep b u ji,A.size,A.tape,A.os,A.output⟩ J' (λe T=>aH (F e T)) ji bm bm (λl Q e=> ?_);have:l=i:=bm;subst this;rw[G,U];exact⟨.busy W,j0⟩|leaf=>let⟨v,hv,_,H,z,D,m,R⟩:=u w (cD.refl _ _ w) J;let⟨c,tm,ub⟩:=h.cr;have C:stepG S.P (S.m0+i==0) g w= .comm H #[scase S.Cr v z] aF .send w #[]:=by{grind[eE]};let⟨y,hy,p⟩:=h.main;have N:y.status= .running:=by{cases B:(f 0).2 with|leaf=>{rw[B]at p;have:=p.2 w (cD.refl _ _ w);cases k with|zero=>exact this.1|succ k=>exact this.1}|node ch=>rw[B]at p;exact p.1};have hpn:partners (zAI gs (S.m0+i) Go.Conc.ph) S.Cr aG=[]:=partners_nil λa x o=>by{obtain⟨_,rfl⟩|⟨_,o⟩:=getElem?_stand _ _ _ _ o;{exact offersAt_ph _ _};.have hlt:=(Ax.1 o).1;by_cases e0:a=0;{grind[offersAt_of_not_blocked,Mt]};.by_cases X:a<S.m0;{obtain⟨q,_,hq⟩:=h.old a x bm X o;grind[Mx,offersAt_of_not_blocked]};.obtain⟨l,rfl⟩:∃l,a=S.m0+l:=⟨a-S.m0,bm⟩;let⟨I,_⟩:=h.wk l x bm o;generalize f (S.m0+l)=fa at I;generalize Deaf t (S.m0+l)=da at I;obtain x|x|x:=I.status J;{exact r8};{cases I with|parked _ hh=>grind[offersAt_parked_send']|_=>exact bm};exact r8};have E:=crowd_waits (sl:=sl) O C λcc V=>by{simp only[DI,Bb,Bq,Bm]at V;grind[ways_send_none]};refine⟨_,_,_,E,aH ⟨k,put f (S.m0+i) (8,.leaf),rs,ws,?_,Mu.one (by grind[nH,nZ])⟩⟩;have X:t++Ed (S.m0+i) g.frame.fn g.frame.place #[]=t:=M8;rw[X];refine⟨Y,h.pQ,h.le,by simp[L],h.base,h.cr,h.cd,by grind[bS],by grind[bS,zero],λa x ud ha2 o=> ?_,λl x Q o=> ?_⟩;{grind[Nl,bS,old]};.by_cases e:l=i;{subst e;rw[Nh bm]at o;obtain rfl:=Ay o;rw[aX,G];exact⟨.parked hv R,j0⟩};grind[bS,wk,Nl]}|parked _ u=>exact absurd hr (by simp[Go.Conc.parked])|_=>simp at Z
theorem Sp.Base.fork {N sdo l Live}(h:S.Base N w t rs ws sdo Live)(K:0<N){n}(hh:∀b,n b->rs 0 b\/ws 0 b)(I:Deaf t 0=0){x y}(u:x.g=0/\x.act= .go N)(o:y.g=N/\y.act= .start)(hs:sdo=0)(v:l=0\/l=N): S.Base (N+1) w (t++ #[x,y]) (put (put rs 0 λb=>rs 0 b\/n b) N n) (put (put ws 0 λb=>ws 0 b/\¬n b) N λ_=>False) l (λa=>Live a\/a=N):=by have r:∀a b,put (put rs 0 λb=>rs 0 b\/n b) N n a b->(rs a b/\a≠N)\/((a=0\/a=N)/\n b):=λa b c=>by{by_cases e:a=N;{subst e;rw[aX]at c;grind};.rw[bS _ _ e]at c;by_cases C:a=0;{grind[aX]};.rw[bS _ _ C]at c;exact ji};have d:∀a b,put (put ws 0 λb=>ws 0 b/\¬n b) N (λ_=>False) a b->ws a b/\a≠N/\(a=0->¬n b):=λa b c=>by{by_cases e:a=N;{grind[aX]};.rw[bS _ _ e]at c;by_cases C:a=0;{grind[aX]};.rw[bS _ _ C]at c;exact ji};have G:∀op∈#[x,y],op.act.touch? =aB:=by{intro op m;simp only[DI,Bb,Bq,Bm]at m;obtain rfl|rfl:=m;{rw[u.2];rfl};{rw[o.2];rfl}};have B:∀a,Deaf (t++ #[x,y]) a=Deaf t a:=by{grind[Mw]};have A:∀i,Knows t 0 i->Knows (t++ #[x,y]) N i:=λi H=>Go.ConcN.fork_knows u o I (h.above N (je _)) H;refine⟨λ{a b} c=> ?_,λ{a F b} p q=>h.IU (d _ _ p).1 (d _ _ q).1,λ{a F b} p q=> ?_,λ{a b} c=> ?_,h.pR,h.live,?_,?_,by grind[above]⟩;{obtain c|c:=c;{obtain x|x:=r a b c;{exact h.lt (aH x.1)};.exact h.lt (hh b x.2)};.exact h.lt (aI (d a b c).1)};{obtain x|⟨x,y⟩:=r F b q;{exact h.NJ (d _ _ p).1 x.1};.have D:=d _ _ p;have:a=0:=by{obtain z|z:=hh b y;{exact h.NJ D.1 z};{exact h.IU D.1 z}};exact ji};{obtain c|c:=c;{obtain x|x:=r a b c;{exact h.off (aH x.1)};.exact h.off (hh b x.2)};.exact h.off (aI (d a b c).1)};{refine h.ti.Vn G (λa b c=> ?_) (λa b c=>aH (d a b c).1) (λa b c=> ?_) (λb c=>aH c) (λb c=>c) ji;{obtain p|⟨rfl|rfl,p⟩:=r a b c;{exact aH p.1};{exact(hh b p).elim aH λz=>aI (aH z)};.exact aI (aI (aH ⟨0,hh b p,A⟩))};.obtain⟨E,L⟩:=c;obtain J|J:=v;{exact aH ⟨E,bm⟩};.refine aI (aH ⟨0,⟨E,hs.symm⟩,?_⟩);exact ji};.refine seen_app h.low λop m=> ?_;simp only[DI,Bb,Bq,Bm]at m;obtain rfl|rfl:=m;{rw[u.2];trivial};.rw[o.2];trivial
end
section
variable {k:Nat}{f:Nat->Span}{gs:zG}{w:zW}{t:Trace}{rs ws:Nat->zP}{g:zH}{sl:Option (Nat×Nat)}
def sT (gs:zG)(x y){a z}(h:((zAI gs 0 x).push y)[a]? =aA z):(a=gs.size/\z=y)\/(a<gs.size/\((a=0/\z=x)\/(a≠0/\gs[a]? =aA z))):=ji
theorem Sp.yG.nk (h:S.yG k f gs w t rs ws)(K:gs[0]? =aA g):S.Cm k f gs w sl t 0:=by have M:=h.pos;have v:=h.size;have hle:=h.le;let⟨g0,I,p⟩:=h.main;rw[K]at I;obtain rfl:=Ay I;cases F:(f 0).2 with|node ch=>rw[F]at p;let⟨_,p⟩:=p;let⟨Q,w',es,o,C,hJ,O,qk⟩:=p w (cD.refl _ _ w);have N:f 0=(0,.node ch):=Prod.ext h.zero F;exact h.own (s:=(0,ch w)) K o (by rw[N];exact T0) ji hJ (λe he=>by have A:=(O e he);obtain A|A|A|A|⟨a,A,ha⟩:=A;{exact aH A};{exact aI (aH A)};{exact aI (aI (aH A))};{exact aI ji};.exact aI (by grind)) (aH rfl) (by grind) (by omega) (by omega)|leaf=>rw[F]at p;let⟨H,p⟩:=p;have p:=p w (cD.refl _ _ w);have T:∀(x y:MemOp),t++(((Ed 0 g.frame.fn g.frame.place #[]).push x).push y)=t++ #[x,y]:=λx y=>M8;cases k with|succ k=>let⟨_,Q,child,C,o,hh,⟨u,L⟩,r,R⟩:=p;have P:S.m0+(S.n-(k+1))+1=S.m0+(S.n-k):=bm;have hi:S.n-1-k=S.n-(k+1):=bm;refine⟨_,w,_,runT_crowd_spawn K o,aH ⟨k,put (put f 0 (0,r)) (S.m0+(S.n-(k+1))) (9,u),put (put rs 0 λb=>rs 0 b\/C b) (S.m0+(S.n-(k+1))) C,put (put ws 0 λb=>ws 0 b/\¬C b) (S.m0+(S.n-(k+1))) λ_=>False,?_,(.left _ _ bm)⟩⟩;rw[T,v];generalize Y:({g:=0,fn:=g.frame.fn,pos:=g.frame.place,act:= .go (S.m0+(S.n-(k+1)))}:MemOp)=x;generalize X:({g:=S.m0+(S.n-(k+1)),fn:=child.frame.fn,pos:=g.frame.place,act:= .start}:MemOp)=y;have E:x.g=0/\x.act= .go (S.m0+(S.n-(k+1))):=ji;have D:y.g=S.m0+(S.n-(k+1))/\y.act= .start:=ji;have l:∀a,Deaf (t++ #[x,y]) a=Deaf t a:=by{grind[Mw]};have c:=h.base.fork bm hh H E D rfl (aH rfl);have j:(λa=>(∃i,i<S.n-(k+1)/\a=S.m0+i)\/a=S.m0+(S.n-(k+1)))=λa=>∃i,i<S.n-k/\a=S.m0+i:=by{funext a;apply propext;constructor;{rintro(⟨i,hi,rfl⟩|rfl);all_goals grind};{rintro⟨i,hi,rfl⟩;grind}};rw[j,P]at c;refine⟨M,h.pQ,bm,ji,c,h.cr,h.cd,⟨Q,?_,?_⟩,?_,λa z ud J m=> ?_,λi z qi m=> ?_⟩;{grind};{grind[bS,aX]};{rw[bS _ _ bm,aX]};{obtain⟨e,_⟩|⟨_,⟨e,_⟩|⟨e,m⟩⟩:=sT _ _ _ m;{exact bm};{exact bm};grind[bS,old]};.obtain⟨e,rfl⟩|⟨hlt,⟨e,_⟩|⟨e,m⟩⟩:=sT _ _ _ m;{have ei:i=S.n-(k+1):=bm;subst ei;rw[aX,aX,aX,l,h.base.above _ (je _)];rw[hi]at L;exact⟨.busy L,j0⟩};{exact bm};grind[bS,wk]|zero=>let⟨_,Z,Q,child,C,o,hh,⟨u,L⟩,r,R⟩:=p;have P:S.m0+(S.n-0)=S.m0+S.n:=bm;have d:=h.base;rw[P]at d v;let q:=put (put f 0 (3*S.n+2,r)) (S.m0+S.n) (15,u);have f0:q 0=(3*S.n+2,r):=by{grind[bS,aX]};have fn:q (S.m0+S.n)=(15,u):=aX _ _ _;have fk:∀a,a≠0->a≠S.m0+S.n->q a=f a:=by{grind[bS]};have G:∀i,i<S.n->8<=S.ph q i:=λi hi=>by{unfold Sp.ph;rw[fk _ bm bm];exact(h.wk i _ bm (Ef (show S.m0+i<gs.size from bm))).2};have pn:S.ph q S.n=15:=by{unfold Sp.ph;rw[fn]};have B:∀n,sumTo n (λ_=>1)=n:=λn=>by{induction n with|zero=>rfl|succ n W=>rw[Go.ConcN.sumTo,W]};have hU:S.U q=S.n:=by{unfold Sp.U;rw[El λi hi=>AE (G i hi),B]};have hV:S.V q=S.n:=by{unfold Sp.V;rw[El λi hi=>AE ji,B]};have hR:S.Rc q=λ_=>False:=by{funext i;apply propext;exact⟨λx=>by have:=G i x.1;have:=x.2;exact bm,λx=>x.elim⟩};refine⟨_,w,_,runT_crowd_spawn K o,aI ⟨q,put (put rs 0 λb=>rs 0 b\/C b) (S.m0+S.n) C,put (put ws 0 λb=>ws 0 b/\¬C b) (S.m0+S.n) λ_=>False,?_⟩⟩;rw[T,v];generalize Y:({g:=0,fn:=g.frame.fn,pos:=g.frame.place,act:= .go (S.m0+S.n)}:MemOp)=x;generalize X:({g:=S.m0+S.n,fn:=child.frame.fn,pos:=g.frame.place,act:= .start}:MemOp)=y;have E:x.g=0/\x.act= .go (S.m0+S.n):=ji;have D:y.g=S.m0+S.n/\y.act= .start:=ji;have l:∀a,Deaf (t++ #[x,y]) a=Deaf t a:=by{grind[Mw]};have c:=d.fork bm hh H E D rfl (aI rfl);have j:(λa=>(∃i,i<S.n-0/\a=S.m0+i)\/a=S.m0+S.n)=S.Live q:=by{funext a;apply propext;unfold Sp.Live;exact or_congr ⟨ji,j1⟩ Iff.rfl};rw[j]at c;let⟨s0,r0,tm1,kh⟩:=h.cd;refine⟨M,h.pQ,by simp[v],c,h.cr,j1,λa z m=> ?_,λz m=> .a bm (λi hi hl=>by have:=G i hi;unfold Sp.lK at hl;exact bm) ji,ji,bm,ji,bm⟩;rw[hR,hU,hV,l];obtain⟨e,rfl⟩|⟨hlt,⟨rfl,rfl⟩|⟨e0,m⟩⟩:=sT _ _ _ m;{have ea:a=S.m0+S.n:=bm;subst ea;rw[fn,d.above _ (je _)];refine oV M ?_;rw[aX,aX];exact .busy L};{rw[f0];refine⟨λ_=>⟨H,?_⟩,bm,bm,bm⟩;rw[bS _ _ bm,aX,bS _ _ bm,aX];exact .busy R};{rw[fk a e0 bm];refine⟨bm,λ_ J=>h.old a z bm J m,λi hi e=> ?_,bm⟩;subst e;have:=(h.wk i z bm m).1;grind[bS]}
theorem Sp.yG.elder (h:S.yG k f gs w t rs ws){j}(p:0<j)(m:j<S.m0)(d:gs[j]? =aA g)(b:g.status= .running):S.Cm k f gs w sl t j:=by let⟨q,o,c⟩:=h.old j g p m d;cases q with|zero=>rw[c.1]at b;cases b|succ q=>obtain⟨n,_⟩|⟨_,s,es,l,a,i⟩:=c;{grind};{exact h.own d Y8 C6 (Go.Ren.Does.refl _ w) h.base.live (λe r=>aI ji) J5 bm ji bm}
def Sp.yG.runs (H:S.Good)(h:S.yG k f gs w t rs ws):∃N p z o L,runNT S.P N (crowd gs w sl) t=(.next (crowd p z o),L)/\S.Zh p z L:=by
 generalize C:S.muF k f=K;induction K using Mu.wf.induction generalizing k f gs w t rs ws sl with
 |_ K Q=>
  have R:=h.size;have J:=h.base.live;obtain⟨g0,W,T⟩:∃g,gs[0]? =aA g/\g.status= .running:=by
    let⟨y,D,e⟩:=h.main;refine⟨y,D,?_⟩;cases r:(f 0).2 with
    |leaf=>
     rw[r]at e;have:=e.2 w (cD.refl _ _ w);cases k with
     |zero=>exact this.1
     |succ k=>exact this.1
    |node ch=>rw[r]at e;exact e.1
  have F:∀g∈gs,Go.Conc.awake g:=by
   intro y D;obtain⟨a,X,rfl⟩:=Array.mem_iff_getElem.1 D;have M:=Ef X;by_cases Z:a=0;{grind[awake_of,Mt]}
   .by_cases O:a<S.m0
    .obtain⟨q,_,U⟩:=h.old a _ bm O M;exact awake_of (U.status.elim aH ji)
    .obtain⟨i,rfl⟩:∃i,a=S.m0+i:=⟨a-S.m0,bm⟩;obtain x|x|x:=(h.wk i _ bm M).1.status J
     .exact awake_of (aH x.2)
     .exact Y5
     .exact Y5
  let⟨j,g,d,o,V,hr,u⟩:=crowd_pick (P:=S.P) (w:=w) (sl:=sl) F ji;have h':=h.at d;have hlt:=(Ax.1 V).1;have B:S.Cm k f gs (w.at d) o t j:=by
   by_cases Z:j=0;{grind[nk]}
   .by_cases O:j<S.m0
    .grind[elder]
    .obtain⟨i,rfl⟩:∃i,j=S.m0+i:=⟨j-S.m0,bm⟩;grind[VH]
  obtain⟨p,z,ops,l,⟨k',Y,A,v,b,E⟩|⟨Y,A,v,b⟩⟩:=B;{obtain⟨N,c,m,s,n,G,I⟩:=Q _ (C▸E) b rfl;exact⟨N+1,c,m,s,n,by simp only[runNT,u,l];exact G,I⟩};{obtain⟨N,c,m,s,n,G,I⟩:=b.runs H;exact⟨N+1,c,m,s,n,by simp only[runNT,u,l];exact G,I⟩}
end
end Go.Ga
