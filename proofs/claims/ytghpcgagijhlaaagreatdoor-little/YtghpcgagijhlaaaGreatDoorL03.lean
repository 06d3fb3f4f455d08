import Derived.Conc.WgGenN3
import Derived.Conc.WgGenN2
import Derived.Conc.WgWords
import Derived.Conc.CrowdSel
import Derived.Conc.Token
import Derived.Below
import Derived.Test.YtghpcgagijhlaaaGreatDoorL02
set_option linter.all false
set_option maxRecDepth 100000
set_option maxHeartbeats 16000000
open Option renaming some->aA,none->aB
open Bool renaming true->aF,false->aG
open Or renaming inl->aH,inr->aI
open Go.IntKind renaming u32->aP,u64->aR
open Go renaming undef->aEn,offeredValue->aEr
open Go.MemOp renaming ofEvents->aEs
open Go.Question renaming extern->aEt,cut->aEu,forced->aEv
open Iff renaming rfl->aEw
open Option.some renaming injEq->aEx
namespace Go
abbrev zGp:=@Go.Conc.offersAt_of_not_blocked
abbrev zHd:=@Go.wpAny_take
end Go
namespace Go.Proofs
abbrev Tryz.link:Go.Conc.Lib.WgLink:={add:=181,done:=183,wait:=185,relMerge:=188,disable:=189,enable:=190,inBubble:=191,associate:=192,fatal:=193,uOr:=194,uAdd:=195,raceRead:=196,uLoad:=197,uStore:=198,disassociate:=199,semrelease:=200,acquire:=201,isAssociated:=202,uCas:=203,raceWrite:=204,semacquire:=205,orU64:=207,addU64:=208,loadU64:=209,storeU64:=210,casU64:=211,tWgP:=243,tUP:=191,tAssoc:=245,tWg:=240,tAU:=238,tU64:=122,tUint:=139,tU32:=135,tPU32:=249,tPAU:=258,tPU64:=260,tNoCopy:=234,tANoCopy:=235,tAlign64:=236}
def Tryz.Af:Go.Conc.Lib.WgLib Tryz.prog Tryz.link:={
 f_add:=Tryz.func181,
 f_done:=Tryz.func183,
 f_wait:=Tryz.func185,
 f_relMerge:=Tryz.func188,
 f_disable:=Tryz.func189,
 f_enable:=Tryz.func190,
 f_inBubble:=Tryz.func191,
 f_associate:=Tryz.func192,
 f_fatal:=Tryz.func193,
 f_uOr:=Tryz.func194,
 f_uAdd:=Tryz.func195,
 f_raceRead:=Tryz.func196,
 f_uLoad:=Tryz.func197,
 f_uStore:=Tryz.func198,
 f_disassociate:=Tryz.func199,
 f_semrelease:=Tryz.func200,
 f_acquire:=Tryz.func201,
 f_isAssociated:=Tryz.func202,
 f_uCas:=Tryz.func203,
 f_raceWrite:=Tryz.func204,
 f_semacquire:=Tryz.func205,
 f_orU64:=Tryz.func207,
 f_addU64:=Tryz.func208,
 f_loadU64:=Tryz.func209,
 f_storeU64:=Tryz.func210,
 f_casU64:=Tryz.func211,
 underlying_tWgP:=Tryz.underlying243,
 runUnderlying_tWgP:=Tryz.runUnderlying243,
 sizeOf_tWgP:=Tryz.sizeOf243,
 isAgg_tWgP:=Tryz.isAgg243,
 zeroValue_tWgP:=Tryz.zeroValue243,
 underlying_tUP:=Tryz.underlying191,
 runUnderlying_tUP:=Tryz.runUnderlying191,
 sizeOf_tUP:=Tryz.sizeOf191,
 isAgg_tUP:=Tryz.isAgg191,
 zeroValue_tUP:=Tryz.zeroValue191,
 underlying_tI32:=Tryz.underlying245,
 runUnderlying_tI32:=Tryz.runUnderlying245,
 sizeOf_tI32:=Tryz.sizeOf245,
 isAgg_tI32:=Tryz.isAgg245,
 zeroValue_tI32:=Tryz.zeroValue245,
 underlying_tWg:=Tryz.underlying240,
 runUnderlying_tWg:=Tryz.runUnderlying240,
 sizeOf_tWg:=Tryz.sizeOf240,
 isAgg_tWg:=Tryz.isAgg240,
 zeroValue_tWg:=Tryz.zeroValue240,
 underlying_tAU:=Tryz.underlying238,
 runUnderlying_tAU:=Tryz.runUnderlying238,
 sizeOf_tAU:=Tryz.sizeOf238,
 isAgg_tAU:=Tryz.isAgg238,
 zeroValue_tAU:=Tryz.zeroValue238,
 underlying_tU64:=Tryz.underlying122,
 runUnderlying_tU64:=Tryz.runUnderlying122,
 sizeOf_tU64:=Tryz.sizeOf122,
 isAgg_tU64:=Tryz.isAgg122,
 zeroValue_tU64:=Tryz.zeroValue122,
 underlying_tSh:=Tryz.underlying139,
 runUnderlying_tSh:=Tryz.runUnderlying139,
 sizeOf_tSh:=Tryz.sizeOf139,
 isAgg_tSh:=Tryz.isAgg139,
 zeroValue_tSh:=Tryz.zeroValue139,
 underlying_tU32:=Tryz.underlying135,
 runUnderlying_tU32:=Tryz.runUnderlying135,
 sizeOf_tU32:=Tryz.sizeOf135,
 isAgg_tU32:=Tryz.isAgg135,
 zeroValue_tU32:=Tryz.zeroValue135,
 underlying_tPU32:=Tryz.underlying249,
 runUnderlying_tPU32:=Tryz.runUnderlying249,
 sizeOf_tPU32:=Tryz.sizeOf249,
 isAgg_tPU32:=Tryz.isAgg249,
 zeroValue_tPU32:=Tryz.zeroValue249,
 underlying_tPAU:=Tryz.underlying258,
 runUnderlying_tPAU:=Tryz.runUnderlying258,
 sizeOf_tPAU:=Tryz.sizeOf258,
 isAgg_tPAU:=Tryz.isAgg258,
 zeroValue_tPAU:=Tryz.zeroValue258,
 underlying_tPU64:=Tryz.underlying260,
 runUnderlying_tPU64:=Tryz.runUnderlying260,
 sizeOf_tPU64:=Tryz.sizeOf260,
 isAgg_tPU64:=Tryz.isAgg260,
 zeroValue_tPU64:=Tryz.zeroValue260,
 underlying_t0:=Tryz.underlying0,
 runUnderlying_t0:=Tryz.runUnderlying0,
 sizeOf_t0:=Tryz.sizeOf0,
 isAgg_t0:=Tryz.isAgg0,
 zeroValue_t0:=Tryz.zeroValue0,
 underlying_t3:=Tryz.underlying3,
 runUnderlying_t3:=Tryz.runUnderlying3,
 sizeOf_t3:=Tryz.sizeOf3,
 isAgg_t3:=Tryz.isAgg3,
 zeroValue_t3:=Tryz.zeroValue3,
 underlying_t4:=Tryz.underlying4,
 runUnderlying_t4:=Tryz.runUnderlying4,
 sizeOf_t4:=Tryz.sizeOf4,
 isAgg_t4:=Tryz.isAgg4,
 zeroValue_t4:=Tryz.zeroValue4,
 underlying_t9:=Tryz.underlying9,
 runUnderlying_t9:=Tryz.runUnderlying9,
 sizeOf_t9:=Tryz.sizeOf9,
 isAgg_t9:=Tryz.isAgg9,
 zeroValue_t9:=Tryz.zeroValue9,
 underlying_t20:=Tryz.underlying20,
 runUnderlying_t20:=Tryz.runUnderlying20,
 sizeOf_t20:=Tryz.sizeOf20,
 isAgg_t20:=Tryz.isAgg20,
 zeroValue_t20:=Tryz.zeroValue20,
 underlying_t21:=Tryz.underlying21,
 runUnderlying_t21:=Tryz.runUnderlying21,
 sizeOf_t21:=Tryz.sizeOf21,
 isAgg_t21:=Tryz.isAgg21,
 zeroValue_t21:=Tryz.zeroValue21,
 room_tWg:=(by kernel_rfl),
 room_tU32:=(by kernel_rfl)}
end Go.Proofs
namespace Go.Ren
abbrev Span:=Nat×Tree
def Span.Lt:Span->Span->Prop:=Prod.Lex (·<·) Tree.Lt
def Span.wf:WellFounded Span.Lt:=(Prod.lex ⟨_,Nat.lt_wfRel.wf⟩ ⟨_,Tree.wf⟩).wf
inductive PO:List Span->List Span->Prop
 |head {a b:Span} (l:List Span) (h:Span.Lt a b):PO (a::l) (b::l)
 |tail (x:Span) {l l':List Span} (h:PO l l'):PO (x::l) (x::l')
def PO.Oy {b}(d:Acc Span.Lt b):∀{l},Acc PO l->Acc PO (b::l):=by
 induction d with
 |intro b _ a=>
  intro l hl;induction hl with
  |intro l hl i=>
   refine⟨_,λy c=> ?_⟩;cases c with
   |head _ h=>exact a _ h ⟨_,hl⟩
   |tail _ h=>exact i _ h
def PO.wf:WellFounded PO:=by
 constructor;intro l;induction l with
 |nil=>exact⟨_,λy h=>by cases h⟩
 |cons b l i=>exact PO.Oy (Span.wf.apply b) i
def vec:Nat->(Nat->Span)->List Span
 |0,_=>[]
 |n+1,f=>f 0::vec n λi=>f (i+1)
def put {α:Type}(f:Nat->α)(i:Nat)(x:α):Nat->α:=λj=>if j=i then x else f j
def aW {α}(f)(i)(x:α):put f i x i=x:=by simp[put]
def bH {α}(f){i j}(x:α)(h:j≠i):put f i x j=f j:=by simp[put,h]
def JV:∀{n:Nat}{f g:Nat->Span},(∀i,i<n->f i=g i)->vec n f=vec n g
 |0,_,_,_=>rfl
 |n+1,f,g,h=>by simp only[vec,h 0 (by omega)];rw[JV λi hi=>h (i+1) (by omega)]
def lF:∀{n:Nat}{f:Nat->Span}{i:Nat}{x:Span},i<n->Span.Lt x (f i)->PO (vec n (put f i x)) (vec n f)
 |n+1,f,0,x,_,h=>by simp only[vec,aW];rw[JV (g:=λi=>f (i+1)) λi _=>by rw[bH _ _ (by omega)]];exact .head _ h
 |n+1,f,i+1,x,hi,h=>by
  simp only[vec];rw[bH _ _ (by omega)];have e:(λj=>put f (i+1) x (j+1))=put (λj=>f (j+1)) i x:=by funext j;by_cases a:j=i<;>simp[put,a]
  rw[e];exact .tail _ (lF (by omega) h)
abbrev Mu:=Nat×Nat×List Span×Nat
def kx:List Span->List Span->Prop:=Relation.TransGen PO
def Mu.Lt:Mu->Mu->Prop:=Prod.Lex (·<·) (Prod.Lex (·<·) (Prod.Lex kx (·<·)))
def kx.wf:WellFounded kx:=PO.wf.transGen
def Mu.wf:WellFounded Mu.Lt:=
 (Prod.lex ⟨_,Nat.lt_wfRel.wf⟩ (Prod.lex ⟨_,Nat.lt_wfRel.wf⟩ (Prod.lex ⟨_,kx.wf⟩ ⟨_,Nat.lt_wfRel.wf⟩))).wf
def Mu.fork {a b c d e f l g}(h:a<b):Mu.Lt (a,c,l,d) (b,e,g,f):= .left _ _ h
def Mu.count {a c d e f l b}(h:c<e):Mu.Lt (a,c,l,d) (a,e,b,f):= .right _ (.left _ _ h)
def Mu.one {a c d f l b}(h:PO l b):Mu.Lt (a,c,l,d) (a,c,b,f):= .right _ (.right _ (.left _ _ (.single h)))
def Mu.two {a c d f l e b}(h:PO l e)(g:PO e b):Mu.Lt (a,c,l,d) (a,c,b,f):= .right _ (.right _ (.left _ _ (.trans (.single h) (.single g))))
def Mu.bit {a c d f l}(h:d<f):Mu.Lt (a,c,l,d) (a,c,l,f):= .right _ (.right _ (.right _ h))
end Go.Ren
namespace Go.Wg
open Go.Conc Go.RowKit Go.Conc.Lib Go.ConcR.Gen Go.ConcN Go.ConcN.Gen
open Go.ConcR (KK wgBlock WgAt stA smA rd wr mk Payload DC0)
variable {L:WgLink}
def gT (P:zZ)(b:Bool)(m:Mark)(K:zU)(g:zH)(w:zW):Prop:=
 g.status= .running/\∃a,stepG P b g w= .go a w #[mk m]/\K a w
def ug (P:zZ)(m:Bool)(ty:zD)(Wg:Nat)(K:Nat->zU)(g:zH)(w:zW):Prop:=
 g.status= .running/\∀v:Nat,v<2147483647->WgAt ty Wg w (v*KK) 0->
  ∃a,stepG P m g w= .go a (w.setCell (stA Wg) (.int aR ((v+1)*KK))) #[rd (stA Wg),wr (stA Wg)]/\K v a (w.setCell (stA Wg) (.int aR ((v+1)*KK)))
def On (P:zZ)(a:Bool)(R:zW->zW->Prop)(Stop:zU)(g:zH)(w:zW):Prop:=∃m,Goes P a R DC0 Stop m g w
def jb (P:zZ)(m:Bool)(ty:zD)(Wg:Nat)(K0:zU)(K1:Nat->zU)(g:zH)(w:zW):Prop:=
 g.status= .running/\∀v:Nat,v<2147483648->WgAt ty Wg w (v*KK) 0->∃a,stepG P m g w= .go a w #[rd (stA Wg)]/\(v=0->K0 a w)/\(v≠0->K1 v a w)
def Vu (P:zZ)(m:Bool)(ty:zD)(Wg b:Nat)(c K:zU)(g:zH)(w:zW):Prop:=
 g.status= .running/\∀v:Nat,v<2147483648->WgAt ty Wg w (v*KK) 0->
  (v=b->∃a,stepG P m g w= .go a (w.setCell (stA Wg) (.int aR (v*KK+1))) #[rd (stA Wg),wr (stA Wg)]/\c a (w.setCell (stA Wg) (.int aR (v*KK+1))))/\
  (v≠b->∃a,stepG P m g w= .go a w #[rd (stA Wg)]/\K a w)
def Vs (P:zZ)(m:Bool)(ty:zD)(Wg:Nat)(K:zU)(g:zH)(w:zW):Prop:=
 g.status= .running/\g.offers=aB/\((∃st,WgAt ty Wg w st 0)->stepG P m g w= .go {g with status:= .blocked} w #[])/\
  (WgAt ty Wg w 0 1->∃a,stepG P m g w= .go a (w.setCell (smA Wg) (.int aP 0)) (semEvents (smA Wg))/\K a (w.setCell (smA Wg) (.int aP 0)))
def Pn (P:zZ)(m:Bool)(ty:zD)(Wg:Nat)(K:zU)(g:zH)(w:zW):Prop:=
 g.status= .running/\(WgAt ty Wg w 0 0->∃a,stepG P m g w= .go a w #[rd (stA Wg)]/\K a w)
structure Cx (ty:zD)(Wg:Nat)(R:zW->zW->Prop)(F:zW->Prop):Prop where
 rely:∀{w w₁},(F w/\WgLive ty Wg w)->R w w₁->F w₁/\WgLive ty Wg w₁
 BO:∀{w x},F w->F (w.setCell (stA Wg) x)
 ba:∀{w x},F w->F (w.setCell (smA Wg) x)
def AtRel (P:zZ)(ty:zD)(Wg:Nat)(g:zH)(w:zW):Prop:=
 g.status= .running/\mayWake P g=aF/\(WgAt ty Wg w 0 0->∃a,stepG P aG g w= .go a (w.setCell (smA Wg) (.int aP 1)) (semEvents (smA Wg))/\∃q,QuitsD P q 1 a)
def Po (P:zZ)(ty:zD)(Wg:Nat)(R:zW->zW->Prop)(g:zH)(w:zW):Prop:=
 g.status= .running/\(WgAt ty Wg w 1 0->∃a,stepG P aG g w= .go a (w.setCell (stA Wg) (.int aR 0)) #[wr (stA Wg)]/\On P aG R (AtRel P ty Wg) a (w.setCell (stA Wg) (.int aR 0)))
def Vt (P:zZ)(ty:zD)(Wg:Nat)(R:zW->zW->Prop)(g:zH)(w:zW):Prop:=
 g.status= .running/\(WgAt ty Wg w 1 0->∃a,stepG P aG g w= .go a w #[rd (stA Wg)]/\On P aG R (Po P ty Wg R) a w)
def jc (P:zZ)(ty:zD)(Wg:Nat)(R:zW->zW->Prop)(g:zH)(w:zW):Prop:=
 g.status= .running/\∀v wt:Nat,wt<=1->v<2147483647->WgAt ty Wg w (((v:Nat)+1)*KK+wt) 0->
  ∃a,stepG P aG g w= .go a (w.setCell (stA Wg) (.int aR (v*KK+wt))) #[rd (stA Wg),wr (stA Wg)]/\
   (v=0/\wt=1->On P aG R (Vt P ty Wg R) a (w.setCell (stA Wg) (.int aR (v*KK+wt))))/\(¬(v=0/\wt=1)->∃q,QuitsD P q 1 a)
end Go.Wg
set_option linter.unusedSimpArgs false
namespace Go.Conc
section
variable {P:zZ}{gs:zG}{w w₁:zW}{sl:Option (Nat×Nat)}{i k:Nat}{g xJ:zH}{es:zE}{cases:Array CommCase}{shape:CommShape}{blocking:Bool}
 {c cap s r:Nat} {closed tm:Bool} {z:zY}
def oC (hi:gs[i]? =aA g)(h:stepG P (i==0) g w= .comm xJ cases blocking shape w₁ es)(J:cases[k]? =aA (rcase c z))
  (I:∀(m)(c':CommCase),m≠k->cases[m]? =aA c'->NoWays w₁ (gs.setIfInBounds i ph) c')
  (F:w₁.heap[c]? =aA (.chan cap #[] closed s r tm))
  (q:partners (gs.setIfInBounds i ph) c aF≠[])
  (t:∀j k,(j,k)∈partners (gs.setIfInBounds i ph) c aF->k=0/\j≠i/\∃o v zj f,gs[j]? =aA (parked o #[scase c v zj] f)):
  ∃(j:Nat)(o:zH)(v zj:zY)(f:CommShape)(d:Nat),j≠i/\gs[j]? =aA (parked o #[scase c v zj] f)/\
   runT P (crowd gs w sl) i=(.next (crowd ((gs.setIfInBounds j (o.finishComm P #[scase c v zj] f 0 aEn aG)).setIfInBounds i (xJ.finishComm P cases shape k v aF)) ((w₁.at d).setChan c cap #[] closed (s+1) (r+1) tm) sl),
    aEs i g.frame.fn g.frame.place es++ #[{g:=j,fn:=o.frame.fn,pos:=o.frame.place,act:= .send c s},{g:=i,fn:=xJ.frame.fn,pos:=xJ.frame.place,act:= .recv c r cap},
     {g:=j,fn:=o.frame.fn,pos:=o.frame.place,act:= .sendDone c s},{g:=i,fn:=xJ.frame.fn,pos:=xJ.frame.place,act:= .recvDone c r}]):=by
 generalize G:partners (gs.setIfInBounds i ph) c aF=e at q t;have hlen:=zCt.2 q;obtain⟨b,d,M,a⟩:∃b d,b<e.length/\(if(aEt "which waiting goroutine is the partner" e.length).forced=aF then(b=0/\d=w₁.drawn)else(b=(aEt "which waiting goroutine is the partner" e.length).cut (w₁.tape w₁.drawn (.extern "which waiting goroutine is the partner" e.length))/\d=w₁.drawn+1)):=by by_cases x:(aEt "which waiting goroutine is the partner" e.length).forced=aF;{exact⟨0,w₁.drawn,hlen,by rw[zAz x];exact⟨rfl,rfl⟩⟩};{refine⟨_,w₁.drawn+1,?_,by rw[zAv x];exact⟨rfl,rfl⟩⟩;simp only[aEu];rw[zAv (by omega)];exact zGj _ hlen}
 obtain⟨⟨j,L⟩,l⟩:∃p,e[b]? =aA p:=⟨e[b],zAi M⟩;obtain⟨rfl,B,o,v,zj,f,K⟩:=t j L (zDf l);refine⟨j,o,v,zj,f,d,B,K,?_⟩;rw[runT_crowd_comm hi h];have n:=stand_get B K;have E:=finishPartner_at P (gs.setIfInBounds i ph) n rfl 0 aEn;have D:(gs.setIfInBounds i ph).getD j default=parked o #[scase c v zj] f:=by rw[zAu,n];rfl
 have A:aEr (gs.setIfInBounds i ph) j 0=v:=by simp[aEr,n,parked,scase]
 have H:ways w₁ (gs.setIfInBounds i ph) (rcase c z)=e.map λ(h,k)=>Way.partner h k:=by
  simp only[ways,rcase,F,G];cases e with
  |nil=>exact absurd rfl q
  |cons p e=>simp
 have y:(e.map λ(h,k)=>Way.partner h k)≠[]:=by cases e with
  |nil=>exact absurd rfl q
  |cons p e=>simp
 have C:=getD_map_partner e b (j,0) l;unfold communicate;simp only[ready_one J (by rw[H];exact y) I,H];rw[zAv]
 .by_cases x:(aEt "which waiting goroutine is the partner" e.length).forced=aF
  .rw[zAz x]at a;obtain⟨rfl,rfl⟩:=a;have u:e.length=1:=by{simpa [aEv]using x};have N:=(zBa.1 l).2;simp[choose,Sem.run,aEv,bind,Sem.bind,pure,u,C,l,N,n,A,rcase,F,World.setChan,crowd,E,D,set_stand2,finishComm_parked,scase,parked,World.at,-World.drew_eq];rfl
  .rw[zAv x]at a;obtain⟨rfl,rfl⟩:=a;have u:¬e.length=1:=by{simpa [aEv]using x};simp[choose,Sem.run,aEv,bind,Sem.bind,pure,u,C,l,n,A,rcase,F,World.setChan,crowd,E,D,set_stand2,finishComm_parked,scase,parked,World.at,-World.drew_eq];rfl
 .rw[Bool.not_eq_true];exact any_ill (made_of_one J (made_recv z F) I)
end
end Go.Conc
namespace Go.Ga
open Go.Conc Go.Ren Go.Tr Go.Wg
open Go.ConcR (KK WgAt stA smA mk DC0)
open Go.ConcN (WgLive)
structure Sp where
 P:zZ
 ty:zD
 Wg:Nat
 Cr:Nat
 Cd:Nat
 n:Nat
 m0:Nat
 Ok:Nat->zY->(zP)->zW->Prop
 XS:∀{i v rs ws w w₁},Ok i v ws w->cA rs ws w w₁->Ok i v ws w₁
 M:(zP)->(zP)->(zP)->zU
 Fin:(zP)->(zP)->zU
 pP:zU
 rP:zP
variable(S:Sp)
abbrev Sp.J (w:zW):Prop:=WgLive S.ty S.Wg w
abbrev Sp.R (_ w₁:zW):Prop:=WgLive S.ty S.Wg w₁
abbrev Sp.On (Stop:zU):zU:=Go.Wg.On S.P aG S.R Stop
abbrev Sp.Goes (Stop:zU)(m:Nat):zU:=Go.Conc.Goes S.P aG S.R DC0 Stop m
def Sp.D4:zU:=jc S.P S.ty S.Wg S.R
def Sp.D5:zU:=gT S.P aG .disable (S.On S.D4)
def Sp.D6:zU:=gT S.P aG (.releaseMerge (stA S.Wg)) (S.On S.D5)
def Sp.D3:zU:=Vt S.P S.ty S.Wg S.R
def Sp.D2:zU:=Po S.P S.ty S.Wg S.R
def Sp.D1:zU:=AtRel S.P S.ty S.Wg
def Sp.AtSend (v:zY)(_ _:zP)(g:zH)(w:zW):Prop:=
 g.status= .running/\∃a z,stepG S.P aG g w= .comm a #[scase S.Cr v z] aF .send w #[]/\S.On S.D6 (Go.Conc.served a aEn) w
def Sp.CR (i:Nat)(rs ws:zP)(g:zH)(w:zW):Prop:=∃v,S.Ok i v ws w/\S.AtSend v rs ws g w
inductive Sp.WSit (v:Nat)(rs ws:zP):Span->Nat->zU
 |busy {tr g w} (h:cK S.P aG S.J (S.CR v) tr rs ws g w):Sp.WSit v rs ws (9,tr) 0 g w
 |parked {m g z x w} (hv:S.Ok v x ws w) (h:S.Goes S.D6 m (Go.Conc.served g aEn) w):Sp.WSit v rs ws (8,.leaf) 0 (parked g #[scase S.Cr x z] .send) w
 |rm {m g w} (h:S.Goes S.D6 m g w):Sp.WSit v rs ws (7,.nat m) 0 g w
 |zM {m g w} (h:S.Goes S.D5 m g w):Sp.WSit v rs ws (6,.nat m) 0 g w
 |dn {m g w} (h:S.Goes S.D4 m g w):Sp.WSit v rs ws (5,.nat m) 1 g w
 |one {m g w} (h:S.Goes S.D3 m g w):Sp.WSit v rs ws (3,.nat m) 1 g w
 |null {m g w} (h:S.Goes S.D2 m g w):Sp.WSit v rs ws (2,.nat m) 1 g w
 |rel {m g w} (h:S.Goes S.D1 m g w):Sp.WSit v rs ws (1,.nat m) 1 g w
 |quit {q d g w} (h:QuitsD S.P q d g):Sp.WSit v rs ws (0,.nat q) d g w
def Sp.iz (g:zH)(w:zW):Prop:=
 g.status= .running/\mayWake S.P g=aF/\∀cap s r t,w.heap[S.Cd]? =aA (.chan cap #[] aG s r t)->
  ∃a,stepG S.P aG g w= .go a (w.setChan S.Cd cap #[] aF s r t) (closeEvents S.Cd)/\∃q,QuitsD S.P q 0 a
def Sp.ja:zU:=gT S.P aG (.acquire (stA S.Wg)) (S.On S.iz)
def Sp.ud:zU:=gT S.P aG .enable (S.On S.ja)
def Sp.Vr:zU:=Pn S.P aG S.ty S.Wg (S.On S.ud)
def Sp.Zl:zU:=Vs S.P aG S.ty S.Wg (S.On S.Vr)
def Sp.zt:zU:=gT S.P aG (.write (smA S.Wg)) (S.On S.Zl)
def Sp.Zn (v:Nat):zU:=Vu S.P aG S.ty S.Wg v (S.On S.zt) (S.On S.pP)
def Sp.lh:zU:=jb S.P aG S.ty S.Wg (S.On S.ud) λv=>S.On (S.Zn v)
def Sp.Zm:zU:=gT S.P aG .disable (S.On S.pP)
inductive Sp.CSit (V:Nat)(rs ws:zP):Span->Nat->zU
 |busy {tr g w} (h:cK S.P aG S.J (λ_ _=>S.Zm) tr rs ws g w):Sp.CSit V rs ws (15,tr) 0 g w
 |AT {m v g w} (h:S.Goes (S.Zn v) m g w) (hv:V<v):Sp.CSit V rs ws (13,.nat m) 1 g w
 |anch {m g w} (h:S.Goes S.pP m g w):Sp.CSit V rs ws (12,.nat m) 1 g w
 |ld {m g w} (h:S.Goes S.lh m g w):Sp.CSit V rs ws (10,.nat m) 1 g w
 |Yu {m g w} (h:S.Goes (S.Zn V) m g w) (hv:V≠0):Sp.CSit V rs ws (8,.nat m) 1 g w
 |wm {m g w} (h:S.Goes S.zt m g w):Sp.CSit V rs ws (7,.nat m) 1 g w
 |Ef {m g w} (h:S.Goes S.Zl m g w):Sp.CSit V rs ws (6,.nat m) 1 g w
 |blk {m g w} (h:S.Goes S.Zl m g w) (ho:g.offers=aB) (hr:g.status= .running):Sp.CSit V rs ws (6,.nat m) 1 {g with status:= .blocked} w
 |zero {m g w} (h:S.Goes S.Vr m g w):Sp.CSit V rs ws (5,.nat m) 1 g w
 |en {m g w} (h:S.Goes S.ud m g w):Sp.CSit V rs ws (4,.nat m) 1 g w
 |acq {m g w} (h:S.Goes S.ja m g w):Sp.CSit V rs ws (3,.nat m) 0 g w
 |cl {m g w} (h:S.Goes S.iz m g w):Sp.CSit V rs ws (2,.nat m) 0 g w
 |quit {q d g w} (h:QuitsD S.P q d g):Sp.CSit V rs ws (0,.nat q) d g w
def Sp.cases (z a:zY):Array CommCase:= #[rcase S.Cr z,rcase S.Cd a]
def add (R:zP)(i:Nat):zP:=λk=>R k\/k=i
structure Sp.Pb (R rs ws:zP)(xJ:zH)(sh:CommShape)(zr zd:zY)(w:zW):Prop where
 again:∀w₁,cA rs ws w w₁->S.J w₁->stepG S.P aF {xJ with status:= .running} w₁= .comm xJ (S.cases zr zd) aF sh w₁ #[]
 got:∀w₁,cA rs ws w w₁->S.J w₁->∀i v h,i<S.n->¬R i->S.Ok i v h w₁->(∀b,h b->b<w₁.heap.size/\¬rs b/\¬ws b)->∃tr,cK S.P aF S.J (S.M (add R i)) tr rs (λb=>ws b\/h b) (xJ.finishComm S.P (S.cases zr zd) sh 0 v aF) w₁
 done:(∀i,i<S.n->R i)->∀w₁,cA rs ws w w₁->S.J w₁->S.Fin rs ws (xJ.finishComm S.P (S.cases zr zd) sh 1 zd aG) w₁
def iv (S:Sp)(rs ws:zP)(e:Event):Prop:=
 VP rs ws e\/(∃a wr,e=⟨.cell a,wr,aF⟩/\a.block=S.Wg)\/e=mk .disable\/e=mk .enable\/∃a,e=mk (.read a)/\a.block=S.Wg
def Sp.dK (St:(zP)->(zP)->zU):Tree->Nat->(zP)->(zP)->zU
 | .leaf,d,rs,ws,g,w=>d=0/\∀a,cA rs (λb=>ws b\/b=S.Wg) w a->St rs ws g a
 | .node ch,d,rs,ws,g,w=>g.status= .running/\∀a,cA rs (λb=>ws b\/b=S.Wg) w a->∃h c f,stepG S.P aF g a= .go h c f/\Go.Ren.Does (λb=>ws b\/b=S.Wg) a c/\S.J c/\(∀e∈f,iv S rs (grown ws a c) e)/\Sp.dK St (ch a) (deafBehind d f) rs (grown ws a c) h c
def Sp.Fk:Nat->(zP)->(zP)->zU
 |0=>λrs a g w=>g.status= .running/\WgAt S.ty S.Wg w (S.n*KK) 0/\∃c child h,stepG S.P aF g w= .spawn c child w #[]/\(∀b,h b->rs b\/a b)/\
   (∃tr,cK S.P aG S.J (λ_ _=>S.Zm) tr h (λ_=>False) child w)/\∃tr,cK S.P aF S.J (S.M λ_=>False) tr (λb=>rs b\/h b) (λb=>a b/\¬h b) c w
 |k+1=>λrs a g w=>g.status= .running/\∃c child h,stepG S.P aF g w= .spawn c child w #[]/\(∀b,h b->rs b\/a b)/\
   (∃tr,cK S.P aG S.J (S.CR (S.n-1-k)) tr h (λ_=>False) child w)/\∃tr,S.dK (Sp.Fk k) tr 0 (λb=>rs b\/h b) (λb=>a b/\¬h b) c w
inductive Sp.IB (R rs ws:zP)(u:Nat):Span->zU
 |busy {tr g w} (h:cK S.P aF S.J (S.M R) tr rs ws g w):Sp.IB R rs ws u (3*u+2,tr) g w
 |parked {g sh zr zd w} (h:S.Pb R rs ws g sh zr zd w):Sp.IB R rs ws u (3*u+1,.leaf) (parked g (S.cases zr zd) sh) w
 |tries {g sh zr zd w} (h:S.Pb R rs ws g sh zr zd w):Sp.IB R rs ws u (3*u,.leaf) {parked g (S.cases zr zd) sh with status:= .running} w
variable {S}
def Sp.Goes.rely {Stop:zU}{m:Nat}{g:zH}{w w₁:zW}(h:S.Goes Stop m g w)(j:S.J w₁):S.Goes Stop m g w₁:=
 Go.Conc.Goes.rely (λ_ _ _ _ x=>x) h j
def Sp.WSit.rely {v rs ws f d g w w₁}(h:S.WSit v rs ws f d g w)(r:cA rs ws w w₁)(j:S.J w₁):S.WSit v rs ws f d g w₁:=by
 cases h with
 |busy h=>exact .busy (h.rely r)
 |parked a h=>exact .parked (S.XS a r) (Sp.Goes.rely h j)
 |rm h=>exact .rm (Sp.Goes.rely h j)
 |zM h=>exact .zM (Sp.Goes.rely h j)
 |dn h=>exact .dn (Sp.Goes.rely h j)
 |one h=>exact .one (Sp.Goes.rely h j)
 |null h=>exact .null (Sp.Goes.rely h j)
 |rel h=>exact .rel (Sp.Goes.rely h j)
 |quit h=>exact .quit h
def Sp.CSit.rely {V rs ws f d g w w₁}(h:S.CSit V rs ws f d g w)(r:cA rs ws w w₁)(j:S.J w₁):S.CSit V rs ws f d g w₁:=by
 cases h with
 |busy h=>exact .busy (h.rely r)
 |AT h a=>exact .AT (Sp.Goes.rely h j) a
 |anch h=>exact .anch (Sp.Goes.rely h j)
 |ld h=>exact .ld (Sp.Goes.rely h j)
 |Yu h a=>exact .Yu (Sp.Goes.rely h j) a
 |wm h=>exact .wm (Sp.Goes.rely h j)
 |Ef h=>exact .Ef (Sp.Goes.rely h j)
 |blk h c b=>exact .blk (Sp.Goes.rely h j) c b
 |zero h=>exact .zero (Sp.Goes.rely h j)
 |en h=>exact .en (Sp.Goes.rely h j)
 |acq h=>exact .acq (Sp.Goes.rely h j)
 |cl h=>exact .cl (Sp.Goes.rely h j)
 |quit h=>exact .quit h
def Sp.Pb.rely {R rs ws:zP}{g:zH}{sh:CommShape}{z c:zY}{w w₁:zW}(h:S.Pb R rs ws g sh z c w)(r:cA rs ws w w₁):S.Pb R rs ws g sh z c w₁:=
 ⟨λa b j=>h.again a (r.trans b) j,λa b j=>h.got a (r.trans b) j,λd a b j=>h.done d a (r.trans b) j⟩
def Sp.IB.rely {R rs ws u f g w w₁}(h:S.IB R rs ws u f g w)(r:cA rs ws w w₁):S.IB R rs ws u f g w₁:=by
 cases h with
 |busy h=>exact .busy (h.rely r)
 |parked h=>exact .parked (h.rely r)
 |tries h=>exact .tries (h.rely r)
def Sp.dK.rely {St tr d rs ws g w w₁}(h:S.dK St tr d rs ws g w)(r:cA rs (λb=>ws b\/b=S.Wg) w w₁):S.dK St tr d rs ws g w₁:=by
 cases tr with
 |leaf=>exact⟨h.1,λa c=>h.2 a (r.trans c)⟩
 |node ch=>exact⟨h.1,λa c=>h.2 a (r.trans c)⟩
end Go.Ga
namespace Go.Ga
open Go.Conc Go.Ren Go.Tr Go.Wg
open Go.ConcR (KK WgAt stA smA mk DC0)
open Go.ConcN (WgLive)
variable(S:Sp)
def Sp.at' (b:Nat):Prop:=S.rP b\/b=S.Wg\/b=S.Cr\/b=S.Cd
def Sp.pm (rs ws:Nat->zP)(sdo:Nat):Pm:=⟨rs,ws,λj b=>b=S.Wg/\j=sdo,S.at'⟩
structure Sp.Base (N:Nat)(w:zW)(t:Trace)(rs ws:Nat->zP)(sdo:Nat)(Live:zP):Prop where
 lt:∀{j b},rs j b\/ws j b->b<w.heap.size
 CU:∀{j k b},ws j b->ws k b->j=k
 IJ:∀{j k b},ws j b->rs k b->j=k
 off:∀{j b},rs j b\/ws j b->¬S.at' b
 oA:∀{b},S.at' b->b<w.heap.size
 live:S.J w
 ti:TI t (S.pm rs ws sdo) Live
 low:∀op∈t,op.act.low w.heap.size
 above:∀j,N<=j->Deaf t j=0
def EvS (sdo j:Nat)(rs ws:zP)(e:Event):Prop:=
 VP rs ws e\/(∃a wr,e=⟨.cell a,wr,aF⟩/\a.block=S.Wg)\/e=mk .disable\/e=mk .enable\/(∃a,(e=mk (.releaseMerge a)\/e=mk (.acquire a))/\a.block=S.Wg)\/
  (j=sdo/\∃a,(e=mk (.read a)\/e=mk (.write a))/\a.block=S.Wg)\/(∃wr,e=⟨.obj S.Cd,wr,aF⟩)\/e.mute=aF
variable {S}
def Sp.Base.ok {N:Nat}{w:zW}{t:Trace}{rs ws:Nat->zP}{sdo:Nat}{Live:zP}(h:S.Base N w t rs ws sdo Live):(S.pm rs ws sdo).Ok where
 Xb:=h.CU
 Xc:=h.IJ
 Oo:=λa x=>h.off (aH x) a
 ZV:=λa x=>h.off (aI x) a
 bn:=λa b=>a.2.trans b.2.symm
 XA:=λa=>aI (aH a.1)
def Bg {B}{x:MemAct}{a}(h:x.low B)(c:x.touch? =aA a){b}(d:blk a.loc=aA b):b<B:=by
 cases x with
 |access e=>simp only[MemAct.touch?,aEx]at c;subst c;simp only[MemAct.low]at h;cases hl:e.loc<;>rw[hl]at d h<;>simp_all [blk,Loc.low]
 |mark m=>
  cases m<;>simp only[MemAct.touch?,aEx,reduceCtorEq]at c;all_goals
   subst c
   simp only[blk,aEx]at d
   subst d
   exact h
 |_=>simp[MemAct.touch?]at c
def Sp.Base.fresh {N w t rs ws sdo Live}(h:S.Base N w t rs ws sdo Live){b}(f:w.heap.size<=b):∀i a,touchAt t i=aA a->blk a.loc≠aA b:=by intro i a hi e;obtain⟨op,d,c⟩:=touch_of hi;have:=Bg (h.low op (zBj d)) c e;omega
def Ou {sdo j rs ws e}(h:EvS S sdo j (rs j) (ws j) e):∀x,(MemAct.ofEvent e).touch? =aA x->Vv (S.pm rs ws sdo) j x:=by
 intro x c b d;obtain((⟨a,wr,s,rfl,h⟩|⟨r,s,rfl,h⟩|h|h|⟨f,h⟩))|⟨a,wr,rfl,h⟩|rfl|rfl|⟨a,rfl|rfl,h⟩|⟨rfl,a,rfl|rfl,h⟩|⟨wr,rfl⟩|h:=h
 .have:MemAct.ofEvent ⟨.cell a,wr,s⟩= .access ⟨.cell a,wr,s⟩:=rfl;rw[this]at c;simp only[MemAct.touch?,aEx]at c;subst c;simp only[blk,aEx]at d;subst d;obtain h|⟨h1,g⟩:=h
  .exact aI (aH ⟨by cases s<;>simp,h⟩)
  .exact aH ⟨by cases s<;>simp,h1,aH g⟩
 .have:MemAct.ofEvent ⟨.obj r,aG,s⟩= .access ⟨.obj r,aG,s⟩:=rfl;rw[this]at c;simp only[MemAct.touch?,aEx]at c;subst c;simp only[blk,aEx]at d;subst d;exact aH ⟨by cases s<;>simp,rfl,h.elim aI aH⟩
 .obtain⟨loc,wr,s⟩:=e;simp only at h;subst h;simp[MemAct.ofEvent,MemAct.touch?]at c
 .obtain⟨loc,wr,s⟩:=e;simp only at h;subst h;simp only[MemAct.ofEvent,MemAct.touch?,aEx]at c;subst c;simp[blk]at d
 .obtain⟨loc,wr,s⟩:=e;simp only at h;subst h;simp[MemAct.ofEvent,MemAct.touch?]at c
 .have:MemAct.ofEvent ⟨.cell a,wr,aF⟩= .access ⟨.cell a,wr,aF⟩:=rfl;rw[this]at c;simp only[MemAct.touch?,aEx]at c;subst c;simp only[blk,aEx]at d;subst d;exact aI (aI (aH ⟨rfl,aI (aH h)⟩))
 .simp[mk,MemAct.ofEvent,MemAct.touch?]at c
 .simp[mk,MemAct.ofEvent,MemAct.touch?]at c
 .simp[mk,MemAct.ofEvent,MemAct.touch?]at c
 .simp[mk,MemAct.ofEvent,MemAct.touch?]at c
 .simp only[mk,MemAct.ofEvent,MemAct.touch?,aEx]at c;subst c;simp only[blk,aEx]at d;subst d;exact aI (aI (aI ⟨rfl,h,rfl⟩))
 .simp only[mk,MemAct.ofEvent,MemAct.touch?,aEx]at c;subst c;simp only[blk,aEx]at d;subst d;exact aI (aI (aI ⟨rfl,h,rfl⟩))
 .cases wr with
  |true=>simp[MemAct.ofEvent,MemAct.touch?]at c
  |false=>simp only[MemAct.ofEvent,MemAct.touch?,aEx]at c;subst c;simp only[blk,aEx]at d;subst d;exact aI (aI (aH ⟨rfl,aI (aI (aI rfl))⟩))
 .rw[touch_mute h]at c;cases c
def Xr {sdo j B rs ws e}(h:EvS S sdo j rs ws e)(c:∀b,rs b\/ws b->b<B)(g:S.Wg<B)(d:S.Cd<B):(MemAct.ofEvent e).low B:=by
 obtain((⟨a,wr,s,rfl,h⟩|⟨r,s,rfl,h⟩|h|h|⟨f,h⟩))|⟨a,wr,rfl,h⟩|rfl|rfl|⟨a,rfl|rfl,h⟩|⟨rfl,a,rfl|rfl,h⟩|⟨wr,rfl⟩|h:=h
 .have:MemAct.ofEvent ⟨.cell a,wr,s⟩= .access ⟨.cell a,wr,s⟩:=rfl;rw[this];exact c _ (h.elim aI λx=>aH x.2)
 .have:MemAct.ofEvent ⟨.obj r,aG,s⟩= .access ⟨.obj r,aG,s⟩:=rfl;rw[this];exact c _ (h.elim aI aH)
 .obtain⟨loc,wr,s⟩:=e;simp only at h;subst h;trivial
 .obtain⟨loc,wr,s⟩:=e;simp only at h;subst h;trivial
 .obtain⟨loc,wr,s⟩:=e;simp only at h;subst h;trivial
 .have:MemAct.ofEvent ⟨.cell a,wr,aF⟩= .access ⟨.cell a,wr,aF⟩:=rfl;rw[this];show a.block<B;omega
 .trivial
 .trivial
 .show a.block<B;omega
 .show a.block<B;omega
 .show a.block<B;omega
 .show a.block<B;omega
 .cases wr<;>exact d
 .exact low_mute h B
def Sp.ID (ws:zP):zP:=λb=>ws b\/b=S.Wg\/b=S.Cr\/b=S.Cd
section
variable {N:Nat}{w w':zW}{t:Trace}{rs ws:Nat->zP}{sdo j:Nat}{Live:zP}{fn:zN}{pos:String}{es:zE}
def Sp.Base.lM (h:S.Base N w t rs ws sdo Live)(d:Go.Ren.Does (Sp.ID (S:=S) (ws j)) w w'){k}(f:k≠j):cA (rs k) (ws k) w w':=by
 refine⟨λb c=>d.keep b (h.lt c) λa=> ?_,d.size,d.tape,d.os,d.output⟩;have e:=h.off c;obtain a|a|a|a:=a
 .obtain c|c:=c
  .exact f (h.IJ a c).symm
  .exact f (h.CU a c).symm
 .exact e (aI (aH a))
 .exact e (aI (aI (aH a)))
 .exact e (aI (aI (aI a)))
def Sp.Base.own (h:S.Base N w t rs ws sdo Live)(D:j<N)(r:Go.Ren.Does (Sp.ID (S:=S) (ws j)) w w')(I:S.J w')(F:∀e∈es,EvS S sdo j (rs j) (grown (ws j) w w') e)
  (hl:j=0\/Live j\/∀k e,es[k]? =aA e->(MemAct.ofEvent e).touch? =aB\/((∃a wr,e=⟨.cell a,wr,aF⟩/\a.block=S.Wg)/\0<deafBehind (Deaf t j) (es.extract 0 k))):
  S.Base N w' (t++aEs j fn pos es) rs (put ws j (grown (ws j) w w')) sdo Live:=by
 have f:∀k b,put ws j (grown (ws j) w w') k b->ws k b\/(k=j/\w.heap.size<=b/\b<w'.heap.size):=λk b c=>by by_cases e:k=j;{subst e;rw[aW]at c;exact c.imp id λx=>⟨rfl,x⟩};{rw[bH _ _ e]at c;exact aH c}
 have v:∀k b,ws k b->put ws j (grown (ws j) w w') k b:=λk b c=>by by_cases e:k=j;{subst e;rw[aW];exact aH c};{rw[bH _ _ e];exact c}
 have o:∀op∈aEs j fn pos es,op.g=j:=λop d=>by obtain⟨e,_,rfl⟩:=Go.Conc.mem_ofEvents d;rfl
 have base:S.Base N w' t rs (put ws j (grown (ws j) w w')) sdo Live:=by
  refine⟨λ{k b} c=> ?_,λ{k z b} c n=> ?_,λ{k z b} c n=> ?_,λ{k b} c=> ?_,λ{b} c=>zAd (h.oA c) r.size,I,?_,λop d=>MemAct.low_mono r.size (h.low op d),h.above⟩
  .obtain c|c:=c
   .exact zAd (h.lt (aH c)) r.size
   .obtain x|x:=f k b c
    .exact zAd (h.lt (aI x)) r.size
    .exact x.2.2
  .obtain x|x:=f k b c<;>obtain y|y:=f z b n
   .exact h.CU x y
   .have:=h.lt (aI x);omega
   .have:=h.lt (aI y);omega
   .exact x.1.trans y.1.symm
  .obtain x|x:=f k b c
   .exact h.IJ x n
   .have:=h.lt (aH n);omega
  .obtain c|c:=c
   .exact h.off (aH c)
   .obtain x|x:=f k b c
    .exact h.off (aI x)
    .intro m;have:=h.oA m;omega
  .refine h.ti.to (λk b c=>aH (aH c)) (λk b c=> ?_) (λk b c=>aH (aH c)) (λb c=>aH c) (λb c=>c) (λk p=>p);obtain x|x:=f k b c
   .exact aH x
   .exact aI (h.fresh x.2.1)
 have q:∀e∈es,EvS S sdo j (rs j) (put ws j (grown (ws j) w w') j) e:=λe m=>by rw[aW];exact F e m
 refine⟨base.lt,base.CU,base.IJ,base.off,base.oA,base.live,?_,?_,λk p=> ?_⟩
 .refine base.ti.own base.ok o ?_ (λop d x m=> ?_)
  .obtain hl|hl|hl:=hl
   .exact aH hl
   .exact aI (aH hl)
   .refine aI (aI λi op hi d x m L=> ?_);have p:(aEs j fn pos es)[i-t.size]? =aA op:=by
     rw[Array.getElem?_append]at d;simpa [zEy.2 hi]using d
    rw[ofEvents_eq,zCg]at p;obtain⟨e,l,rfl⟩:=zBp.1 p;have C:=(zAa.1 l).1;obtain B|⟨⟨a,wr,rfl,H⟩,G⟩:=hl _ e l;{simp only at m;rw[B]at m;cases m}
    .have:MemAct.ofEvent ⟨.cell a,wr,aF⟩= .access ⟨.cell a,wr,aF⟩:=rfl;simp only[this,MemAct.touch?,aEx]at m;subst m;refine⟨⟨a.block,rfl,aI (aH H),rfl⟩,λE=> ?_⟩;obtain⟨g,A,u⟩:=E;have s:g=j:=by
      simp only[Trace.g?,d,zBi,aEx]at A;exact A.symm
     subst s;have K:=deaf_inside t g fn pos es (i-t.size) (by omega);rw[show t.size+(i-t.size)=i by omega,u]at K;omega
  .obtain⟨e,l,rfl⟩:=Go.Conc.mem_ofEvents d;exact Ou (q e l) x m
 .refine seen_app base.low λop d=> ?_;obtain⟨e,l,rfl⟩:=Go.Conc.mem_ofEvents d;exact Xr (q e l) (λb c=>base.lt c) (base.oA (aI (aH rfl))) (base.oA (aI (aI (aI rfl))))
 .rw[Deaf_other t (by omega) _ o];exact base.above k p
end
end Go.Ga
namespace Go.Ga
open Go.Conc Go.Ren Go.Tr Go.Wg
open Go.ConcR (KK WgAt stA smA mk DC0)
open Go.ConcN (WgLive sumTo sumTo_congr)
variable(S:Sp)
def Sp.ph (f:Nat->Span)(i:Nat):Nat:=(f (S.m0+i)).1
def Sp.V (f:Nat->Span):Nat:=sumTo S.n λi=>if 5<=S.ph f i then 1 else 0
def Sp.U (f:Nat->Span):Nat:=sumTo S.n λi=>if 8<=S.ph f i then 1 else 0
def Sp.Rc (f:Nat->Span):zP:=λi=>i<S.n/\S.ph f i<=7
def Sp.jZ (f:Nat->Span)(i:Nat):Prop:=1<=S.ph f i/\S.ph f i<=3
def Sp.jL (f:Nat->Span):Prop:=∀i,i<S.n->¬S.jZ f i
def Sp.jI (f:Nat->Span)(i:Nat):Prop:=i<S.n/\∀k,k<S.n->k≠i->¬S.jZ f k
inductive Sp.Mode (f:Nat->Span)(st:GoStatus)(w:zW):Prop
 |a (hc:8<=S.ph f S.n) (hl:S.jL f) (hw:WgAt S.ty S.Wg w (S.V f*KK) 0)
 |b (hc:S.ph f S.n=7\/S.ph f S.n=6) (hv:0<S.V f) (hl:S.jL f) (hw:WgAt S.ty S.Wg w (S.V f*KK+1) 0)
 |c (hc:S.ph f S.n=7\/S.ph f S.n=6) (hv:S.V f=0) (i:Nat) (hl:S.jI f i) (hi:S.ph f i=3\/S.ph f i=2) (hw:WgAt S.ty S.Wg w 1 0)
 |c' (hc:S.ph f S.n=7\/S.ph f S.n=6) (hv:S.V f=0) (i:Nat) (hl:S.jI f i) (hi:S.ph f i=1) (hw:WgAt S.ty S.Wg w 0 0)
 |d (hc:S.ph f S.n=7\/S.ph f S.n=6) (hv:S.V f=0) (hl:S.jL f) (hw:WgAt S.ty S.Wg w 0 1) (hs:st≠.blocked)
 |e (hc:S.ph f S.n<=5) (hv:S.V f=0) (hl:S.jL f) (hw:WgAt S.ty S.Wg w 0 0)
def Sp.VJ (R:zP)(u V:Nat)(rs ws:Nat->zP)(k:Nat)(f:Span)(d:Nat)(g:zH)(w:zW):Prop:=
 (k=0->d=0/\S.IB R (rs k) (ws k) u f g w)/\(0<k->k<S.m0->∃q,f=(0,.nat q)/\QuitsD S.P q d g)/\
  (∀i,i<S.n->k=S.m0+i->S.WSit i (rs k) (ws k) f d g w)/\(k=S.m0+S.n->S.CSit V (rs k) (ws k) f d g w)
def Sp.Live (f:Nat->Span):zP:=λk=>(∃i,i<S.n/\k=S.m0+i/\8<=S.ph f i)\/k=S.m0+S.n
structure Sp.dE (f:Nat->Span)(gs:zG)(w:zW)(t:Trace)(rs ws:Nat->zP):Prop where
 pos:0<S.m0
 nR:S.n<2147483647
 size:gs.size=S.m0+S.n+1
 base:S.Base (S.m0+S.n+1) w t rs ws (S.m0+S.n) (S.Live f)
 cr:∃k tm,w.heap[S.Cr]? =aA (.chan 0 #[] aG k k tm)
 cd:∃s r tm,w.heap[S.Cd]? =aA (.chan 0 #[] (decide (S.ph f S.n=0)) s r tm)
 DO:∀k g,gs[k]? =aA g->S.VJ (S.Rc f) (S.U f) (S.V f) rs ws k (f k) (Deaf t k) g w
 mode:∀g,gs[S.m0+S.n]? =aA g->S.Mode f g.status w
 js:(f 0).1=3*S.U f+1->∀i,i<S.n->S.ph f i≠8
 shut:S.ph f S.n=0->(f 0).1≠3*S.U f+1
 tries:(f 0).1=3*S.U f->S.ph f S.n=0
 Fz:S.ph f S.n=0->∃ic,t.act? ic=aA (.close S.Cd)/\t.heard ic/\∀i op a,t[i]? =aA op->op.g=S.m0+S.n->touchAt t i=aA a->Before t i ic
def bit (a:zG)(k:Nat):Nat:=match a[k]? with
 |some g=>if g.status= .blocked then 0 else 1
 |none=>0
def Sp.mu (f:Nat->Span)(g:zG):Mu:=(0,S.V f,vec (S.m0+S.n+1) f,bit g (S.m0+S.n))
variable {S}
def gL {f j s}(h:∀i,i<S.n->j=S.m0+i->(8<=s.1↔8<=(f j).1)/\(5<=s.1↔5<=(f j).1)):
  S.Rc (put f j s)=S.Rc f/\S.U (put f j s)=S.U f/\S.V (put f j s)=S.V f:=by
 have k:∀i,i<S.n->(8<=S.ph (put f j s) i↔8<=S.ph f i)/\(5<=S.ph (put f j s) i↔5<=S.ph f i):=λi hi=>by by_cases e:S.m0+i=j;{subst e;simp only[Sp.ph,aW];exact h i hi rfl};{simp only[Sp.ph,bH _ _ e,true_and]}
 refine⟨?_,?_,?_⟩
 .funext i;apply propext;constructor
  .rintro⟨hi,a⟩;have:=(k i hi).1;exact⟨hi,by omega⟩
  .rintro⟨hi,a⟩;have:=(k i hi).1;exact⟨hi,by omega⟩
 .exact zHa λi hi=>by simp only[(k i hi).1]
 .exact zHa λi hi=>by simp only[(k i hi).2]
def Sp.VJ.rely {R:zP}{u V:Nat}{rs ws:Nat->zP}{k:Nat}{f:Span}{d:Nat}{g:zH}{w w₁:zW}(h:S.VJ R u V rs ws k f d g w)(r:cA (rs k) (ws k) w w₁)(j:S.J w₁):S.VJ R u V rs ws k f d g w₁:=
 ⟨λe=>⟨(h.1 e).1,(h.1 e).2.rely r⟩,h.2.1,λi hi e=>(h.2.2.1 i hi e).rely r j,λe=>(h.2.2.2 e).rely r j⟩
def Sp.Goes.run {Stop:zU}{m:Nat}{g:zH}{w:zW}(h:S.Goes Stop m g w)(j:S.J w)(hs:∀g w,Stop g w->g.status= .running):g.status= .running:=
 Go.Conc.Goes.running hs w j h
def UX {main St tr rs ws g w}(h:cK S.P main S.J St tr rs ws g w)(j:S.J w)(hs:∀rs ws g w,St rs ws g w->g.status= .running):g.status= .running:=by
 cases tr with
 |leaf=>exact hs _ _ _ _ (h w (cA.refl _ _ w) j)
 |node ch=>exact h.1
def Sp.WSit.status {v rs ws f d g w}(h:S.WSit v rs ws f d g w)(j:S.J w):(f.1≠8/\g.status= .running)\/(f.1=8/\g.status= .blocked)\/(f.1=0/\g.status= .finished):=by
 cases h with
 |busy h=>exact aH ⟨by simp,UX h j λ_ _ _ _ ⟨_,_,x⟩=>x.1⟩
 |parked _ h=>exact aI (aH ⟨rfl,rfl⟩)
 |rm h=>exact aH ⟨by simp,h.run j λ_ _ x=>x.1⟩
 |zM h=>exact aH ⟨by simp,h.run j λ_ _ x=>x.1⟩
 |dn h=>exact aH ⟨by simp,h.run j λ_ _ x=>x.1⟩
 |one h=>exact aH ⟨by simp,h.run j λ_ _ x=>x.1⟩
 |null h=>exact aH ⟨by simp,h.run j λ_ _ x=>x.1⟩
 |rel h=>exact aH ⟨by simp,h.run j λ_ _ x=>x.1⟩
 |quit h=>exact h.status.elim (λx=>aH ⟨by simp,x⟩) λx=>aI (aI ⟨rfl,x⟩)
def Sp.WSit.woken {v rs ws f d g x b w k s r tm}(h:S.WSit v rs ws f d g w)(j:S.J w)(c:w.heap[S.Cr]? =aA (.chan k #[] aG s r tm)):Go.Conc.woken S.P x b w g=g:=by
 obtain a|a|a:=h.status j
 .exact woken_running a.2
 .cases h with
  |parked h=>exact woken_send_open x b c
  |quit h=>exact woken_quitsD h
  |_=>exact absurd a.1 (by simp)
 .cases h with
  |quit h=>exact woken_quitsD h
  |_=>exact absurd a.1 (by simp)
end Go.Ga
namespace Go.Ga
open Go.Conc Go.Ren Go.Tr Go.Wg
open Go.ConcR (KK WgAt stA smA mk DC0)
open Go.ConcN (WgLive sumTo sumTo_congr)
variable {S:Sp}
structure Sp.Good (S:Sp):Prop where
 anch:∀g w,S.J w->S.pP g w->g.status= .running/\S.On S.lh g w
 bk:∀R rs ws g w,S.J w->S.M R rs ws g w->g.status= .running/\∃xJ sh zr zd,stepG S.P aF g w= .comm xJ (S.cases zr zd) aF sh w #[]/\S.Pb R rs ws xJ sh zr zd w
 chans:S.Cr≠S.Cd/\S.Wg≠S.Cr/\S.Wg≠S.Cd
def Sp.CSit.status {V rs ws f d g w}(H:S.Good)(h:S.CSit V rs ws f d g w)(j:S.J w):g.status= .running\/(f.1=6/\g.status= .blocked)\/(f.1=0/\g.status= .finished):=by
 cases h with
 |busy h=>exact aH (UX h j λ_ _ _ _ x=>x.1)
 |AT h a=>exact aH (h.run j λ_ _ x=>x.1)
 | @anch m g w h=>
  cases m with
  |zero=>exact aH (H.anch _ _ j (h w j)).1
  |succ m=>exact h.elim (λx=>aH (H.anch _ _ j (x w j)).1) λx=>aH x.1
 |ld h=>exact aH (h.run j λ_ _ x=>x.1)
 |Yu h a=>exact aH (h.run j λ_ _ x=>x.1)
 |wm h=>exact aH (h.run j λ_ _ x=>x.1)
 |Ef h=>exact aH (h.run j λ_ _ x=>x.1)
 |blk h c b=>exact aI (aH ⟨rfl,rfl⟩)
 |zero h=>exact aH (h.run j λ_ _ x=>x.1)
 |en h=>exact aH (h.run j λ_ _ x=>x.1)
 |acq h=>exact aH (h.run j λ_ _ x=>x.1)
 |cl h=>exact aH (h.run j λ_ _ x=>x.1)
 |quit h=>exact h.status.elim aH λx=>aI (aI ⟨rfl,x⟩)
def Sp.CSit.woken {V rs ws f d g x i w}(H:S.Good)(h:S.CSit V rs ws f d g w)(j:S.J w):S.CSit V rs ws f d (Go.Conc.woken S.P x i w g) w:=by
 obtain a|a|a:=h.status H j
 .rw[woken_running a];exact h
 .cases h with
  | @blk m g w h c b=>
   unfold Go.Conc.woken;split
   .have e:({g with status:= .blocked}:zH).again w=g:=by
     obtain⟨fr,cs,st,off,x⟩:=g;simp only at c b;subst c;subst b;simp[Goroutine.again]
    rw[e];exact .Ef h
   .exact .blk h c b
  |quit h=>rw[woken_quitsD h];exact .quit h
  |Ef h=>rw[h.run j λ_ _ x=>x.1]at a;exact absurd a.2 (by simp)
  |_=>exact absurd a.1 (by simp)
 .cases h with
  |quit h=>rw[woken_quitsD h];exact .quit h
  |_=>exact absurd a.1 (by simp)
def Sp.IB.status {R rs ws u f g w}(H:S.Good)(h:S.IB R rs ws u f g w)(j:S.J w):(g.status= .running/\(f.1=3*u+2\/f.1=3*u))\/(f.1=3*u+1/\g.status= .blocked):=by
 cases h with
 | @busy tr g w h=>
  cases tr with
  |leaf=>exact aH ⟨(H.bk _ _ _ _ _ j (h w (cA.refl _ _ w) j)).1,aH rfl⟩
  |node ch=>exact aH ⟨h.1,aH rfl⟩
 |parked h=>exact aI ⟨rfl,rfl⟩
 |tries h=>exact aH ⟨rfl,aI rfl⟩
def Sp.IB.woken {R rs ws u f g x e w s r s' r' c c' tm tm'}(H:S.Good)(h:S.IB R rs ws u f g w)(j:S.J w)(k:w.heap[S.Cr]? =aA (.chan c #[] aG s r tm))(i:f.1=3*u+1->w.heap[S.Cd]? =aA (.chan c' #[] aG s' r' tm')):
  Go.Conc.woken S.P x e w g=g:=by
 obtain a|a:=h.status H j
 .exact woken_running a.1
 .have d:=i a.1;cases h with
  |parked h=>refine woken_of_again (again_all_open λl b=> ?_);simp only[Sp.cases,zAs,zAg,zAr,zCd]at b;obtain rfl|rfl:=b;{exact⟨_,_,_,_,_,_,_,rfl,k⟩};{exact⟨_,_,_,_,_,_,_,rfl,d⟩}
  |busy h=>exact absurd a.1 (by simp)
  |tries h=>exact absurd a.1 (by simp)
def Sp.VJ.other {R u V rs ws k f d g x n w w₁ s r s' r' c c' tm tm'}(H:S.Good)(h:S.VJ R u V rs ws k f d g w)(b:cA (rs k) (ws k) w w₁)(j:S.J w₁)
  (l:w₁.heap[S.Cr]? =aA (.chan c #[] aG s r tm)) (o:k=0->f.1=3*u+1->w₁.heap[S.Cd]? =aA (.chan c' #[] aG s' r' tm')):S.VJ R u V rs ws k f d (Go.Conc.woken S.P x n w₁ g) w₁:=by
 have a:=h.rely b j;refine⟨λe=>⟨(a.1 e).1,?_⟩,λy v=> ?_,λi hi e=> ?_,λe=>(a.2.2.2 e).woken H j⟩
 .rw[(a.1 e).2.woken H j l (o e)];exact(a.1 e).2
 .obtain⟨q,p,m⟩:=a.2.1 y v;rw[woken_quitsD m];exact⟨q,p,m⟩
 .rw[(a.2.2.1 i hi e).woken j l];exact a.2.2.1 i hi e
def Sp.Mode.same {f f' st Qd w w'}(h:S.Mode f st w)(p:∀i,i<=S.n->S.ph f' i=S.ph f i)(l:w'.heap[S.Wg]? =w.heap[S.Wg]?)(hs:st≠.blocked->Qd≠.blocked):S.Mode f' Qd w':=by
 have C:S.V f'=S.V f:=zHa λi hi=>by rw[p i (by omega)]
 have E:=p S.n (zAb _);have D:∀i,i<S.n->(S.jZ f' i↔S.jZ f i):=λi hi=>by unfold Sp.jZ;rw[p i (by omega)]
 have m:S.jL f->S.jL f':=λx i hi y=>x i hi ((D i hi).1 y);have r:∀i,S.jI f i->S.jI f' i:=λi x=>⟨x.1,λk B z y=>x.2 k B z ((D k B).1 y)⟩;have o:∀st A,WgAt S.ty S.Wg w st A->WgAt S.ty S.Wg w' st A:=λ_ _ x=>l.trans x;cases h with
 |a q hl l=>exact .a (by omega) (m hl) (by rw[C];exact o _ _ l)
 |b q u hl l=>exact .b (by omega) (by omega) (m hl) (by rw[C];exact o _ _ l)
 |c q u i hl hi l=>exact .c (by omega) (by omega) i (r i hl) (by rw[p i (by have:=hl.1;omega)];exact hi) (o _ _ l)
 |c' q u i hl hi l=>exact .c' (by omega) (by omega) i (r i hl) (by rw[p i (by have:=hl.1;omega)];exact hi) (o _ _ l)
 |d q u hl l v=>exact .d (by omega) (by omega) (m hl) (o _ _ l) (hs v)
 |e q u hl l=>exact .e (by omega) (by omega) (m hl) (o _ _ l)
def iC (gs:zG)(a:zH->zH)(j k)(x g)(h:((gs.map a).setIfInBounds j x)[k]? =aA g):(k=j/\g=x)\/(k≠j/\∃y,gs[k]? =aA y/\g=a y):=by
 by_cases e:j=k
 .subst e;by_cases hl:j<gs.size
  .rw[zAo (by simpa using hl)]at h;exact aH ⟨rfl,(zAk h).symm⟩
  .rw[zBq (by simp;omega)]at h;cases h
 .rw[zAe e,zCg]at h;obtain⟨y,b,rfl⟩:=zBp.1 h;exact aI ⟨λx=>e x.symm,y,b,rfl⟩
section
variable {f:Nat->Span}{gs:zG}{w w':zW}{t:Trace}{rs ws:Nat->zP}{j:Nat}{g g':zH}{es:zE}{fn:zN}{pos:String}{s:Span}
def Sp.dE.lP {f'}(H:S.Good)(h:S.dE f gs w t rs ws)(hj:gs[j]? =aA g)(hd:Go.Ren.Does (Sp.ID (S:=S) (ws j)) w w')(hJ:S.J w')(he:∀e∈es,EvS S (S.m0+S.n) j (rs j) (grown (ws j) w w') e)
  (hl:j=0\/S.Live f j\/∀k e,es[k]? =aA e->(MemAct.ofEvent e).touch? =aB\/((∃a wr,e=⟨.cell a,wr,aF⟩/\a.block=S.Wg)/\0<deafBehind (Deaf t j) (es.extract 0 k)))
  (G:w'.heap[S.Cr]? =w.heap[S.Cr]?) (I:w'.heap[S.Cd]? =w.heap[S.Cd]?)
  (v:S.Live f'=S.Live f) (K:S.U f'=S.U f) (c:(f' 0).1=(f 0).1\/(f' 0).1=3*S.U f+2) (b:S.ph f' S.n=0↔S.ph f S.n=0) (h8:∀i,i<S.n->S.ph f' i=8->S.ph f i=8)
  (F:∀k x,k≠j->S.VJ (S.Rc f) (S.U f) (S.V f) rs ws k (f k) (Deaf t k) x w->S.VJ (S.Rc f') (S.U f') (S.V f') rs ws k (f' k) (Deaf t k) x w)
  (C:S.VJ (S.Rc f') (S.U f') (S.V f') rs (put ws j (grown (ws j) w w')) j (f' j) (deafBehind (Deaf t j) es) g' w')
  (u:∀y,((gs.map (Go.Conc.woken S.P g g' w')).setIfInBounds j g')[S.m0+S.n]? =aA y->S.Mode f' y.status w')
  (hk:j=S.m0+S.n->S.ph f S.n=0->∀e∈es,(MemAct.ofEvent e).touch? =aB):
  S.dE f' ((gs.map (Go.Conc.woken S.P g g' w')).setIfInBounds j g') w' (t++aEs j fn pos es) rs (put ws j (grown (ws j) w w')):=by
 have hjs:j<gs.size:=(zAa.1 hj).1;have Y:=h.pos;have L:=h.size;have o:∀op∈aEs j fn pos es,op.g=j:=λop l=>by obtain⟨e,_,rfl⟩:=Go.Conc.mem_ofEvents l;rfl
 obtain⟨B,A,p⟩:=h.cr;obtain⟨s0,r0,tm1,q⟩:=h.cd;refine⟨h.pos,h.nR,by simp[L],?_,⟨B,A,G.trans p⟩,⟨s0,r0,tm1,?_⟩,λk y hy=> ?_,u,λD i hi=> ?_,λd=> ?_,λd=> ?_,λd=> ?_⟩
 .rw[v];exact h.base.own (by omega) hd hJ he hl
 .rw[I,q];simp only[b]
 .obtain⟨rfl,rfl⟩|⟨m,z,d,rfl⟩:=iC _ _ _ _ _ _ hy
  .rw[Deaf_own];exact C
  .rw[Deaf_other t (λe=>m e.symm) _ o];have X:=F k z m (h.DO k z d);have e1:put ws j (grown (ws j) w w') k=ws k:=bH _ _ m;have M:S.VJ (S.Rc f') (S.U f') (S.V f') rs (put ws j (grown (ws j) w w')) k (f' k) (Deaf t k) z w:=by
    unfold Sp.VJ at X⊢;rw[e1];exact X
   refine M.other (s:=B) (r:=B) (tm:=A) (s':=s0) (r':=r0) (tm':=tm1) (c':=0) H ?_ hJ (G.trans p) (λB D=> ?_);{rw[e1];exact h.base.lM hd m}
   .subst B;rw[K]at D;have N:(f 0).1=3*S.U f+1:=by
     obtain c|c:=c;{omega};{omega}
    have:S.ph f S.n≠0:=λe=>h.shut e N;rw[I,q];simp[this]
 .rw[K]at D;obtain c|c:=c
  .rw[c]at D;exactλe=>h.js D i hi (h8 i hi e)
  .omega
 .rw[K];obtain c|c:=c
  .rw[c];exact h.shut (b.1 d)
  .omega
 .rw[K]at d;obtain c|c:=c
  .rw[c]at d;exact b.2 (h.tries d)
  .omega
 .obtain⟨ic,h1,h2,h3⟩:=h.Fz (b.1 d);have bT:=lt_of_act? h1;refine⟨ic,by rw[act?_old bT];exact h1,(heard_old bT).2 h2,λi op a hi Z ha=> ?_⟩;obtain⟨Q,T⟩|⟨mz,_,W,l,E⟩:=dM ha
  .rw[getElem?_append_old Q]at hi;exact(h3 i op a hi Z T).app _
  .rw[hi]at W;obtain rfl:=zAk W;have O:j=S.m0+S.n:=(o op l).symm.trans Z;obtain⟨e,R,rfl⟩:=Go.Conc.mem_ofEvents l;rw[hk O (b.1 d) e R]at E;cases E
def xD {f'}(h:∀i,i<S.n->(8<=S.ph f' i↔8<=S.ph f i)):S.Live f'=S.Live f:=by funext k;apply propext;exact or_congr ⟨λ⟨i,hi,a,e⟩=>⟨i,hi,a,(h i hi).1 e⟩,λ⟨i,hi,a,e⟩=>⟨i,hi,a,(h i hi).2 e⟩⟩ aEw
def Sp.dE.own (H:S.Good)(h:S.dE f gs w t rs ws)(E:gs[j]? =aA g)(G:Go.Ren.Does (Sp.ID (S:=S) (ws j)) w w')(I:S.J w')(F:∀e∈es,EvS S (S.m0+S.n) j (rs j) (grown (ws j) w w') e)
  (hl:j=0\/S.Live f j\/∀k e,es[k]? =aA e->(MemAct.ofEvent e).touch? =aB\/((∃a wr,e=⟨.cell a,wr,aF⟩/\a.block=S.Wg)/\0<deafBehind (Deaf t j) (es.extract 0 k)))
  (u:w'.heap[S.Cr]? =w.heap[S.Cr]?) (v:w'.heap[S.Cd]? =w.heap[S.Cd]?)
  (b:∀i,i<S.n->j=S.m0+i->(8<=s.1↔8<=(f j).1)/\(5<=s.1↔5<=(f j).1)) (l:∀i,i<S.n->j=S.m0+i->s.1=8->(f j).1=8)
  (c:j=S.m0+S.n->(s.1=0↔(f j).1=0)) (p:j=0->s.1=3*S.U f+2)
  (q:S.VJ (S.Rc f) (S.U f) (S.V f) rs (put ws j (grown (ws j) w w')) j s (deafBehind (Deaf t j) es) g' w')
  (o:∀y,((gs.map (Go.Conc.woken S.P g g' w')).setIfInBounds j g')[S.m0+S.n]? =aA y->S.Mode (put f j s) y.status w')
  (D:j=S.m0+S.n->S.ph f S.n=0->∀e∈es,(MemAct.ofEvent e).touch? =aB):
  S.dE (put f j s) ((gs.map (Go.Conc.woken S.P g g' w')).setIfInBounds j g') w' (t++aEs j fn pos es) rs (put ws j (grown (ws j) w w')):=by
 obtain⟨r,z,B⟩:=gL (S:=S) (f:=f) (j:=j) (s:=s) b;have d:∀i,S.m0+i≠j->S.ph (put f j s) i=S.ph f i:=λi m=>by simp only[Sp.ph,bH _ _ m]
 refine h.lP H E G I F hl u v (xD λi hi=> ?_) z ?_ ?_ (λi hi A=> ?_) (λk x m C=> ?_) ?_ o D
 .by_cases e:S.m0+i=j
  .subst e;have:=(b i hi rfl).1;simpa only[Sp.ph,aW]using this
  .rw[d _ e]
 .by_cases e:j=0
  .subst e;rw[aW];exact aI (p rfl)
  .rw[bH _ _ (λx=>e x.symm)];exact aH rfl
 .by_cases e:S.m0+S.n=j
  .subst e;simp only[Sp.ph,aW];exact c rfl
  .rw[d _ e]
 .by_cases e:S.m0+i=j
  .subst e;simp only[Sp.ph,aW]at A;exact l i hi rfl A
  .rwa [d _ e]at A
 .rw[r,z,B,bH _ _ m];exact C
 .rw[r,z,B,aW];exact q
end
end Go.Ga
namespace Go.Ga
open Go.Conc Go.Ren Go.Tr Go.Wg
open Go.ConcR (KK WgAt stA smA mk DC0)
open Go.ConcN (WgLive sumTo sumTo_congr)
variable {S:Sp}
def NC (rs ws)(w)(d):cA rs ws w (w.at d):=⟨λ_ _=>rfl,zAb _,rfl,rfl,rfl⟩
def Sp.Base.at {N:Nat}{w:zW}{t:Trace}{rs ws:Nat->zP}{sdo:Nat}{Live:zP}(h:S.Base N w t rs ws sdo Live)(d:Nat):S.Base N (w.at d) t rs ws sdo Live:=
 ⟨h.lt,h.CU,h.IJ,h.off,h.oA,h.live,h.ti,h.low,h.above⟩
def Sp.dE.at {f:Nat->Span}{gs:zG}{w:zW}{t:Trace}{rs ws:Nat->zP}(h:S.dE f gs w t rs ws)(d:Nat):S.dE f gs (w.at d) t rs ws:=
 ⟨h.pos,h.nR,h.size,h.base.at d,h.cr,h.cd,λk g a=>(h.DO k g a).rely (NC _ _ w d) h.base.live,λg a=>(h.mode g a).same (λ_ _=>rfl) rfl id,h.js,h.shut,h.tries,h.Fz⟩
def Sp.Step (S:Sp)(f:Nat->Span)(gs:zG)(w:zW)(sl:Option (Nat×Nat))(t:Trace)(j:Nat):Prop:=
 ∃a w' c r b ops,runT S.P (crowd gs w sl) j=(.next (crowd a w' sl),ops)/\S.dE c a w' (t++ops) r b/\Mu.Lt (S.mu c a) (S.mu f gs)
def dB {Stop m g w}(h:S.Goes Stop m g w)(j:S.J w):Stop g w\/∃a g',m=a+1/\stepG S.P aG g w= .go g' w #[]/\S.Goes Stop a g' w:=by
 cases m with
 |zero=>exact aH (h w j)
 |succ m=>obtain h|⟨_,h⟩:=h;{exact aH (h w j)};{obtain⟨g',w',es,e,⟨d,c⟩,b⟩:=goes_elim (h w j);subst d;subst c;exact aI ⟨m,g',rfl,e,b⟩}
section
variable {f:Nat->Span}{gs:zG}{w w':zW}{t:Trace}{rs ws:Nat->zP}{j:Nat}{g g':zH}{es:zE}{s:Span}{sl:Option (Nat×Nat)}
def Sp.dE.go_own (H:S.Good)(h:S.dE f gs w t rs ws)(q:gs[j]? =aA g)(p:stepG S.P (j==0) g w= .go g' w' es)(bT:Span.Lt s (f j))(B:Go.Ren.Does (Sp.ID (S:=S) (ws j)) w w')(C:S.J w')(A:∀e∈es,EvS S (S.m0+S.n) j (rs j) (grown (ws j) w w') e)
  (hl:j=0\/S.Live f j\/∀k e,es[k]? =aA e->(MemAct.ofEvent e).touch? =aB\/((∃a wr,e=⟨.cell a,wr,aF⟩/\a.block=S.Wg)/\0<deafBehind (Deaf t j) (es.extract 0 k)))
  (r:w'.heap[S.Cr]? =w.heap[S.Cr]?) (u:w'.heap[S.Cd]? =w.heap[S.Cd]?)
  (b:∀i,i<S.n->j=S.m0+i->(8<=s.1↔8<=(f j).1)/\(5<=s.1↔5<=(f j).1)) (d:∀i,i<S.n->j=S.m0+i->s.1=8->(f j).1=8)
  (c:j=S.m0+S.n->(s.1=0↔(f j).1=0)) (m:j=0->s.1=3*S.U f+2)
  (o:S.VJ (S.Rc f) (S.U f) (S.V f) rs (put ws j (grown (ws j) w w')) j s (deafBehind (Deaf t j) es) g' w')
  (l:∀y,((gs.map (Go.Conc.woken S.P g g' w')).setIfInBounds j g')[S.m0+S.n]? =aA y->S.Mode (put f j s) y.status w')
  (x:j=S.m0+S.n->S.ph f S.n=0->∀e∈es,(MemAct.ofEvent e).touch? =aB):S.Step f gs w sl t j:=by
 refine⟨_,w',put f j s,rs,_,_,runT_crowd_go q p,h.own H q B C A hl r u b d c m o l x,?_⟩;have z:=(zAa.1 q).1;have v:=h.size;unfold Sp.mu;rw[(gL (S:=S) (f:=f) (j:=j) (s:=s) b).2.2];exact Mu.one (lF (by omega) bT)
def JI (H:S.Good)(h:S.dE f gs w t rs ws)(o:gs[j]? =aA g)(p:S.J w')(k:j=S.m0+S.n->g'.status≠.blocked){y c}(e:gs[S.m0+S.n]? =aA y)
  (a:((gs.map (Go.Conc.woken S.P g g' w')).setIfInBounds j g')[S.m0+S.n]? =aA c) (b:y.status≠.blocked):c.status≠.blocked:=by
 obtain⟨m,rfl⟩|⟨i,z,d,rfl⟩:=iC _ _ _ _ _ _ a
 .exact k m.symm
 .rw[e]at d;obtain rfl:=zAk d;have l:=((h.DO _ y e).2.2.2 rfl);obtain x|x|x:=l.status H h.base.live
  .rw[woken_running x];exact b
  .exact absurd x.2 b
  .rw[woken_rf (aI x.2)];exact b
def mZ (H:S.Good)(h:S.dE f gs w t rs ws)(d:gs[j]? =aA g)(k:S.J w')(e:j=S.m0+S.n->g'.status≠.blocked)(hs:∀i,i<=S.n->S.ph (put f j s) i=S.ph f i)(c:w'.heap[S.Wg]? =w.heap[S.Wg]?):
  ∀y,((gs.map (Go.Conc.woken S.P g g' w')).setIfInBounds j g')[S.m0+S.n]? =aA y->S.Mode (put f j s) y.status w':=by
 intro y b;have bT:S.m0+S.n<gs.size:=by have:=h.size;omega
 have a:=zAj bT;exact(h.mode _ a).same hs c λx=>JI H h d k e a b x
def hY (hs:s.1=(f j).1):∀i,i<=S.n->S.ph (put f j s) i=S.ph f i:=λi _=>by
 by_cases e:S.m0+i=j
 .simp only[Sp.ph,e,aW,hs]
 .simp only[Sp.ph,bH _ _ e]
def tO (ws)(w):Go.Ren.Does ws w w:=Go.Ren.Does.refl ws w
def iK (ws)(j)(w):put ws j (grown (ws j) w w)=ws:=by
 funext k;by_cases e:k=j
 .subst e;rw[aW,dL]
 .rw[bH _ _ e]
def Sp.dE.idle (H:S.Good)(h:S.dE f gs w t rs ws)(d:gs[j]? =aA g)(b:j≠0)(c:stepG S.P aG g w= .go g' w #[])(hs:s.1=(f j).1)(bT:Span.Lt s (f j))(k:j=S.m0+S.n->g'.status≠.blocked)
  (a:S.VJ (S.Rc f) (S.U f) (S.V f) rs ws j s (Deaf t j) g' w):S.Step f gs w sl t j:=by
 refine h.go_own H d (by rw[show(j==0)=aG by simp[b]];exact c) bT (tO _ w) h.base.live (by simp) (aI (aI (by simp))) rfl rfl (λi hi e=>by rw[hs];exact⟨aEw,aEw⟩) (λi hi e x=>hs▸x) (λ_=>by rw[hs]) (λe=>absurd e b) ?_ (mZ H h d h.base.live k (hY hs) rfl) (by simp);rw[iK];exact a
def fI {p m}:Span.Lt (p,Tree.nat m) (p,Tree.nat (m+1)):= .right _ (Tree.fI m)
def gW {p q a b}(h:p<q):Span.Lt (p,a) (q,b):= .left _ _ h
end
end Go.Ga
namespace Go.Ga
open Go.Conc Go.Ren Go.Tr Go.Wg
open Go.ConcR (KK WgAt stA smA mk DC0)
open Go.ConcN (WgLive sumTo sumTo_congr sumTo_upd upd upd_same upd_ne le_sumTo)
variable {S:Sp}
def zK (ws:zP)(w:zW)(a:Addr)(v:zY)(h:a.block=S.Wg):Go.Ren.Does (Sp.ID (S:=S) ws) w (w.setCell a v):=
 ⟨λb _ c=>Go.RowKit.Below.heap_setCell w a v b λe=>c (aI (aH (e.trans h))),by simp[World.setCell],by simp[World.setCell],by simp[World.setCell],by simp[World.setCell]⟩
def Dp (w:zW)(a)(v):(w.setCell a v).heap.size=w.heap.size:=by simp[World.setCell]
def YW (ws)(w)(a)(v):grown ws w (w.setCell a v)=ws:=by funext b;apply propext;unfold grown;rw[Dp];exact⟨λx=>x.elim id λy=>by omega,aH⟩
def nL (ws)(j)(w)(a)(v):put ws j (grown (ws j) w (w.setCell a v))=ws:=by
 funext k;by_cases e:k=j
 .subst e;rw[aW,YW]
 .rw[bH _ _ e]
def tL (w:zW)(a)(v){b}(h:b≠a.block):(w.setCell a v).heap[b]? =w.heap[b]? :=Go.RowKit.Below.heap_setCell w a v b h
def eE {R:zP}{u V:Nat}{rs ws:Nat->zP}{i d:Nat}{f:Span}{g:zH}{w:zW}(a:0<S.m0)(hi:i<S.n)(h:S.WSit i (rs (S.m0+i)) (ws (S.m0+i)) f d g w):S.VJ R u V rs ws (S.m0+i) f d g w:=
 ⟨λe=>by omega,λ_ e=>by omega,λk b e=>by
  have:k=i:=by omega
  subst this;exact h,λe=>by omega⟩
def eW (f)(i)(s):S.ph (put f (S.m0+i) s) i=s.1:=by simp[Sp.ph,aW]
def cX (f){i k}(s)(h:k≠i):S.ph (put f (S.m0+i) s) k=S.ph f k:=by simp only[Sp.ph];rw[bH _ _ (by omega)]
def ik {f i s}(hi:i<S.n)(h:5<=S.ph f i)(b:s.1<5):S.V (put f (S.m0+i) s)+1=S.V f:=by
 have:=sumTo_upd (S.ph f) s.1 (λp=>if 5<=p then 1 else 0) hi;simp only[h,zCs]at this;rw[zAv (by omega)]at this;unfold Sp.V;rw[<-show sumTo S.n (λa=>if 5<=upd (S.ph f) i s.1 a then 1 else 0)=sumTo S.n (λa=>if 5<=S.ph (put f (S.m0+i) s) a then 1 else 0)from zHa λa _=>by
  by_cases e:a=i;{subst e;rw[upd_same,eW]}
  .rw[upd_ne _ _ e,cX _ _ e]]
 omega
def MI {f i}(hi:i<S.n)(h:5<=S.ph f i):0<S.V f:=by have:=le_sumTo (f:=λi=>if 5<=S.ph f i then 1 else 0) hi;simp only[h,zCs]at this;exact this
def Za (f):S.V f<=S.n:=by
 have:=Go.ConcN.sumTo_le (f:=λi=>if 5<=S.ph f i then 1 else 0) (c:=1) (j:=S.n) λi _=>by split<;>omega
 unfold Sp.V;omega
def Sp.CSit.less {V a rs ws f d g w}(h:S.CSit V rs ws f d g w)(j:a<V):S.CSit a rs ws (if f.1=8 then(13,f.2)else f) d g w:=by
 cases h with
 |busy h=>exact .busy h
 |AT h b=>exact .AT h (by omega)
 |anch h=>exact .anch h
 |ld h=>exact .ld h
 |Yu h b=>exact .AT h j
 |wm h=>exact .wm h
 |Ef h=>exact .Ef h
 |blk h e c=>exact .blk h e c
 |zero h=>exact .zero h
 |en h=>exact .en h
 |acq h=>exact .acq h
 |cl h=>exact .cl h
 |quit h=>exact .quit h
section
variable {f:Nat->Span}{gs:zG}{w:zW}{t:Trace}{rs ws:Nat->zP}{i:Nat}{g g':zH}{sl:Option (Nat×Nat)}
def Bu {sdo j rs ws}:∀e∈#[Go.ConcR.rd (stA S.Wg),Go.ConcR.wr (stA S.Wg)],EvS S sdo j rs ws e:=by
 intro e h;simp only[zAs,zAg,zAr,zCd]at h;obtain rfl|rfl:=h
 .exact aI (aH ⟨_,_,rfl,rfl⟩)
 .exact aI (aH ⟨_,_,rfl,rfl⟩)
def UK {d}:deafBehind d #[Go.ConcR.rd (stA S.Wg),Go.ConcR.wr (stA S.Wg)]=d:=by simp[deafBehind,Go.ConcR.rd,Go.ConcR.wr]
def Sp.dE.counts (H:S.Good)(h:S.dE f gs w t rs ws)(hi:i<S.n)(hj:gs[S.m0+i]? =aA g)(jz:S.ph f i=5)(O:Deaf t (S.m0+i)=1)(hD:S.D4 g w):S.Step f gs w sl t (S.m0+i):=by
 have M:=h.pos;have aBb:=h.nR;have FQ:=h.size;have hVp:0<S.V f:=MI hi (by omega);have hVl:=Za (S:=S) f;have P:S.m0+S.n<gs.size:=by omega
 have ft:=zAj P;have E:=h.mode _ ft;obtain⟨wt,X,B,hcw,N⟩:∃wt:Nat,wt<=1/\WgAt S.ty S.Wg w (S.V f*KK+wt) 0/\((wt=0/\8<=S.ph f S.n)\/(wt=1/\(S.ph f S.n=7\/S.ph f S.n=6)))/\S.jL f:=by
  cases E with
  |a z hl hw=>exact⟨0,by omega,by simpa using hw,aH ⟨rfl,z⟩,hl⟩
  |b z J hl hw=>exact⟨1,by omega,by simpa using hw,aI ⟨rfl,z⟩,hl⟩
  |c z J _ _ _ _=>omega
  |c' z J _ _ _ _=>omega
  |d z J _ _ _=>omega
  |e z J _ _=>omega
 obtain⟨v,J⟩:∃v,S.V f=v+1:=⟨S.V f-1,by omega⟩;obtain⟨g',Z,F,D⟩:=hD.2 v wt X (by omega) (by rw[J]at B;simpa using B);obtain⟨s,ov,L,hls⟩:∃s:Span,s.1<5/\S.WSit i (rs (S.m0+i)) (ws (S.m0+i)) s 1 g' (w.setCell (stA S.Wg) (.int aR (v*KK+wt)))/\((v=0/\wt=1/\s.1=3)\/(¬(v=0/\wt=1)/\s.1=0)):=by by_cases K:v=0/\wt=1;{obtain⟨m,W⟩:=F K;exact⟨(3,.nat m),by simp,.one W,aH ⟨K.1,K.2,rfl⟩⟩};{obtain⟨q,hq⟩:=D K;exact⟨(0,.nat q),by simp,.quit hq,aI ⟨K,rfl⟩⟩}
 have u:WgAt S.ty S.Wg (w.setCell (stA S.Wg) (.int aR (v*KK+wt))) (v*KK+wt) 0:=B.setSt _;let f1:=put f (S.m0+i) s
 let l:=put f1 (S.m0+S.n) (if(f (S.m0+S.n)).1=8 then(13,(f (S.m0+S.n)).2)else f (S.m0+S.n))
 have fi:S.ph l i=s.1:=by show(put f1 (S.m0+S.n) _ (S.m0+i)).1=_;rw[bH _ _ (by omega)];exact eW f i s
 have fk:∀k,k<S.n->k≠i->S.ph l k=S.ph f k:=λk o r=>by show(put f1 (S.m0+S.n) _ (S.m0+k)).1=_;rw[bH _ _ (by omega)];exact cX f s r
 have fn:S.ph l S.n=if S.ph f S.n=8 then 13 else S.ph f S.n:=by show(put f1 (S.m0+S.n) _ (S.m0+S.n)).1=_;rw[aW];unfold Sp.ph;split<;>rfl
 have I:S.V l=v:=by
  have e:S.V l=S.V f1:=zHa λk o=>by show(if 5<=(put f1 (S.m0+S.n) _ (S.m0+k)).1 then 1 else 0)=_;rw[bH _ _ (by omega)];rfl
  have h2:S.V f1+1=S.V f:=ik (S:=S) (f:=f) (s:=s) hi (by omega) ov;omega
 have A:∀k,k<S.n->(8<=S.ph l k↔8<=S.ph f k):=λk o=>by by_cases e:k=i;{subst e;omega};{rw[fk k o e]}
 have hU:S.U l=S.U f:=zHa λk o=>by simp only[A k o]
 have ga:S.Rc l=S.Rc f:=by funext k;apply propext;unfold Sp.Rc;exact⟨λx=>⟨x.1,by have:=A k x.1;have:=x.2;omega⟩,λx=>⟨x.1,by have:=A k x.1;have:=x.2;omega⟩⟩
 have Tj:S.Cr≠(stA S.Wg).block:=λe=>H.chans.2.1 e.symm;have Tk:S.Cd≠(stA S.Wg).block:=λe=>H.chans.2.2 e.symm;have G:=O;refine⟨_,_,l,rs,_,_,runT_crowd_go hj (by rw[show(S.m0+i==0)=aG by simp;omega];exact Z),h.lP (f':=l) H hj (zK _ w _ _ rfl) ⟨_,_,u⟩ Bu (aI (aI λk e he=> ?_)) (tL w _ _ Tj) (tL w _ _ Tk) (xD A) hU ?_ ?_ ?_ (λk x r T=> ?_) ?_ (λy hy=> ?_) (λe=>by omega),?_⟩
 .refine aI ⟨?_,?_⟩
  .have:=Bu (S:=S) (sdo:=0) (j:=0) (rs:=λ_=>False) (ws:=λ_=>False) e (zBj he);have W:=zBj he;simp only[zAs,zAg,zAr,zCd]at W;obtain rfl|rfl:=W
   .exact⟨_,_,rfl,rfl⟩
   .exact⟨_,_,rfl,rfl⟩
  .have o:k<2:=by{simpa using(zAa.1 he).1};rw[G];obtain rfl|rfl:k=0\/k=1:=by{omega};{simp[deafBehind]}
   .simp[deafBehind,Go.ConcR.rd]
 .left;show(put f1 (S.m0+S.n) _ 0).1=_;rw[bH _ _ (by omega)];show(put f (S.m0+i) s 0).1=_;rw[bH _ _ (by omega)]
 .rw[fn];split<;>omega
 .intro k o e8;by_cases e:k=i
  .subst e;omega
  .rwa [fk k o e]at e8
 .rw[ga,hU,I];by_cases e:k=S.m0+S.n
  .subst e;refine⟨λe=>by omega,λ_ e=>by omega,λa ha e=>by omega,λ_=> ?_⟩;have R:l (S.m0+S.n)=if(f (S.m0+S.n)).1=8 then(13,(f (S.m0+S.n)).2)else f (S.m0+S.n):=aW _ _ _
   rw[R];exact(T.2.2.2 rfl).less (by omega)
  .have R:l k=f k:=by
    show put f1 (S.m0+S.n) _ k=_;rw[bH _ _ e];show put f (S.m0+i) s k=_;rw[bH _ _ r]
   rw[R];exact⟨T.1,T.2.1,T.2.2.1,λe2=>absurd e2 e⟩
 .have R:l (S.m0+i)=s:=by
   show put f1 (S.m0+S.n) _ (S.m0+i)=_;rw[bH _ _ (by omega)];exact aW _ _ _
  rw[R,nL,O,UK];exact eE M hi L
 .have Q:s.1=0->S.jL l:=λe0 k o p=>by
   by_cases e:k=i;{subst e;unfold Sp.jZ at p;omega};{exact N k o (by unfold Sp.jZ at p⊢;rwa [fk k o e]at p)}
  obtain⟨rfl,z⟩|⟨rfl,z⟩:=hcw;{have C:s.1=0:=by{omega};refine .a (by rw[fn];split<;>omega) (Q C) ?_;rw[I];simpa using u}
  .by_cases Y:v=0
   .subst Y;have hs3:s.1=3:=by{omega};refine .c (by rw[fn];split<;>omega) (by omega) i ⟨hi,λk o r p=>N k o (by unfold Sp.jZ at p⊢;rwa [fk k o r]at p)⟩ (by omega) ?_;simpa using u
   .have C:s.1=0:=by{omega};refine .b (by rw[fn];split<;>omega) (by omega) (Q C) ?_;rw[I];simpa using u
 .unfold Sp.mu;exact Mu.count (by omega)
end
end Go.Ga
namespace Go.Ga
open Go.Conc Go.Ren Go.Tr Go.Wg
open Go.ConcR (KK WgAt stA smA DC0)
open Go.ConcN (WgLive sumTo sumTo_congr sumTo_upd upd upd_same upd_ne le_sumTo)
variable {S:Sp}
section
variable {f:Nat->Span}{gs:zG}{w:zW}{t:Trace}{rs ws:Nat->zP}{i:Nat}{g g':zH}{sl:Option (Nat×Nat)}
def Sp.dE.closer (h:S.dE f gs w t rs ws):∃y,gs[S.m0+S.n]? =aA y:=⟨_,zAj (by have:=h.size;omega)⟩
def yS (h:S.dE f gs w t rs ws)(hi:i<S.n)(hl:S.jZ f i):(S.ph f S.n=7\/S.ph f S.n=6)/\S.V f=0/\S.jI f i/\(((S.ph f i=3\/S.ph f i=2)/\WgAt S.ty S.Wg w 1 0)\/(S.ph f i=1/\WgAt S.ty S.Wg w 0 0)):=by
 obtain⟨y,p⟩:=h.closer;cases h.mode y p with
 |a l j hw=>exact absurd hl (j i hi)
 |b l m j hw=>exact absurd hl (j i hi)
 |c l m k o hk hw=>have:i=k:=zBm λe=>o.2 i hi e hl;subst this;exact⟨l,m,o,aH ⟨hk,hw⟩⟩
 |c' l m k o hk hw=>have:i=k:=zBm λe=>o.2 i hi e hl;subst this;exact⟨l,m,o,aI ⟨hk,hw⟩⟩
 |d l m j hw q=>exact absurd hl (j i hi)
 |e l m j hw=>exact absurd hl (j i hi)
def dQ (h:0<S.m0):(S.m0+i==0)=aG:=by simp;omega
def Sp.dE.said (H:S.Good)(h:S.dE f gs w t rs ws)(hi:i<S.n)(G:gs[S.m0+i]? =aA g){m s}(u:stepG S.P aG g w= .go g' w #[Go.ConcR.mk m])(A:m= .disable\/m= .releaseMerge (stA S.Wg))(bT:Span.Lt s (f (S.m0+i)))
  (K:s.1<8/\S.ph f i<8) (r:5<=s.1/\5<=S.ph f i) (hs:S.WSit i (rs (S.m0+i)) (ws (S.m0+i)) s (deafBehind (Deaf t (S.m0+i)) #[Go.ConcR.mk m]) g' w):S.Step f gs w sl t (S.m0+i):=by
 have v:=h.pos;have E:S.ph f i=(f (S.m0+i)).1:=rfl;refine h.go_own H G (by rw[dQ v];exact u) bT (tO _ w) h.base.live (λe l=> ?_) (aI (aI λk e l=>aH ?_)) rfl rfl (λk j e=>⟨by omega,by omega⟩) (λk j e x=>by omega) (λe=>by omega) (λe=>by omega) ?_ ?_ (λe=>by omega)
 .simp only[zAs,zAg,zAr,zCd]at l;subst l;obtain rfl|rfl:=A
  .exact aI (aI (aH rfl))
  .exact aI (aI (aI (aI (aH ⟨_,aH rfl,rfl⟩))))
 .have l:=zBj l;simp only[zAs,zAg,zAr,zCd]at l;subst l;obtain rfl|rfl:=A<;>rfl
 .rw[iK];exact eE v hi hs
 .intro y J;obtain⟨z,D⟩:=h.closer;have I:S.ph (put f (S.m0+i) s) S.n=S.ph f S.n:=cX f s (by omega);have C:∀k,k<S.n->(S.jZ (put f (S.m0+i) s) k↔S.jZ f k):=λk j=>by
   by_cases e:k=i;{subst e;unfold Sp.jZ;rw[eW];omega};{unfold Sp.jZ;rw[cX _ _ e]}
  have B:S.V (put f (S.m0+i) s)=S.V f:=(gL λk j e=>⟨by omega,by omega⟩).2.2;cases h.mode z D with
  |a p o hw=>exact .a (by omega) (λk j x=>o k j ((C k j).1 x)) (by rw[B];exact hw)
  |b p q o hw=>exact .b (by omega) (by omega) (λk j x=>o k j ((C k j).1 x)) (by rw[B];exact hw)
  |c p q k F j hw=>exact absurd (MI hi r.2) (by omega)
  |c' p q k F j hw=>exact absurd (MI hi r.2) (by omega)
  |d p q o hw hs=>exact absurd (MI hi r.2) (by omega)
  |e p q o hw=>exact absurd (MI hi r.2) (by omega)
def Sp.dE.last (H:S.Good)(h:S.dE f gs w t rs ws)(hi:i<S.n)(D:gs[S.m0+i]? =aA g){s w' es}(r:stepG S.P aG g w= .go g' w' es)(q:Deaf t (S.m0+i)=1)(m:S.jZ f i)(bT:Span.Lt s (f (S.m0+i)))(K:s.1<5)
  (j:w'=w\/∃a v,w'=w.setCell a v/\a.block=S.Wg) (I:S.J w') (z:(es= #[Go.ConcR.rd (stA S.Wg)]\/es= #[Go.ConcR.wr (stA S.Wg)])\/es=semEvents (smA S.Wg)) (hs:S.WSit i (rs (S.m0+i)) (ws (S.m0+i)) s 1 g' w')
  (l:∀y,((gs.map (Go.Conc.woken S.P g g' w')).setIfInBounds (S.m0+i) g')[S.m0+S.n]? =aA y->S.Mode (put f (S.m0+i) s) y.status w'):S.Step f gs w sl t (S.m0+i):=by
 have A:=h.pos;have C:S.ph f i=(f (S.m0+i)).1:=rfl;unfold Sp.jZ at m;have F:Go.Ren.Does (Sp.ID (S:=S) (ws (S.m0+i))) w w':=by obtain rfl|⟨a,v,rfl,p⟩:=j;{exact tO _ _};{exact zK _ w a v p}
 have E:put ws (S.m0+i) (grown (ws (S.m0+i)) w w')=ws:=by obtain rfl|⟨a,v,rfl,p⟩:=j;{exact iK _ _ _};{exact nL _ _ _ _ _}
 have d:∀b,b≠S.Wg->w'.heap[b]? =w.heap[b]? :=λb G=>by obtain rfl|⟨a,v,rfl,p⟩:=j;{rfl};{exact tL w a v (by rw[p];exact G)}
 have u:∀e∈es,(∃a wr,e=(⟨.cell a,wr,aF⟩:Event)/\a.block=S.Wg)\/e=Go.ConcR.mk .disable\/e=Go.ConcR.mk .enable:=λe c=>by
  obtain(rfl|rfl)|rfl:=z;{simp only[zAs,zAg,zAr,zCd]at c;subst c;exact aH ⟨_,_,rfl,rfl⟩};{simp only[zAs,zAg,zAr,zCd]at c;subst c;exact aH ⟨_,_,rfl,rfl⟩}
  .simp only[semEvents,zAs,zAg,zAr,zCd]at c;obtain rfl|rfl|rfl|rfl:=c
   .exact aI (aH rfl)
   .exact aH ⟨_,_,rfl,rfl⟩
   .exact aH ⟨_,_,rfl,rfl⟩
   .exact aI (aI rfl)
 have o:deafBehind 1 es=1:=by obtain(rfl|rfl)|rfl:=z;{simp[deafBehind,Go.ConcR.rd]};{simp[deafBehind,Go.ConcR.wr]};{simp[deafBehind,semEvents]}
 refine h.go_own H D (by rw[dQ A];exact r) bT F I (λe c=> ?_) (aI (aI λk e c=> ?_)) (d _ λe=>H.chans.2.1 e.symm) (d _ λe=>H.chans.2.2 e.symm) (λk B e=>⟨by omega,by omega⟩) (λk B e x=>by omega) (λe=>by omega) (λe=>by omega) ?_ l (λe=>by omega)
 .obtain⟨a,wr,rfl,p⟩|rfl|rfl:=u e c
  .exact aI (aH ⟨_,_,rfl,p⟩)
  .exact aI (aI (aH rfl))
  .exact aI (aI (aI (aH rfl)))
 .rw[q];obtain(rfl|rfl)|rfl:=z
  .obtain rfl:k=0:=by{have:=(zAa.1 c).1;simpa using this};simp only[zEh,zCu,aEx]at c;subst c;exact aI ⟨⟨_,_,rfl,rfl⟩,by simp[deafBehind]⟩
  .obtain rfl:k=0:=by{have:=(zAa.1 c).1;simpa using this};simp only[zEh,zCu,aEx]at c;subst c;exact aI ⟨⟨_,_,rfl,rfl⟩,by simp[deafBehind]⟩
  .have B:k<4:=by{have:=(zAa.1 c).1;simpa [semEvents]using this};obtain rfl|rfl|rfl|rfl:k=0\/k=1\/k=2\/k=3:=by{omega};{simp[semEvents]at c;subst c;exact aH rfl}
   .simp[semEvents]at c;subst c;exact aI ⟨⟨_,_,rfl,rfl⟩,by simp[semEvents,deafBehind]⟩
   .simp[semEvents]at c;subst c;exact aI ⟨⟨_,_,rfl,rfl⟩,by simp[semEvents,deafBehind]⟩
   .simp[semEvents]at c;subst c;exact aH rfl
 .rw[E,q,o];exact eE A hi hs
def FI {s}(a:S.jI f i):S.jI (put f (S.m0+i) s) i:=⟨a.1,λk b h hl=>a.2 k b h (by unfold Sp.jZ at hl⊢;rwa [cX _ _ h]at hl)⟩
def XX {s}(h:S.jI f i)(hs:s.1=0):S.jL (put f (S.m0+i) s):=λk a hl=>by
 by_cases e:k=i
 .subst e;unfold Sp.jZ at hl;rw[eW]at hl;omega
 .exact(FI (s:=s) h).2 k a e hl
def Aa {s}(h:S.V f=0)(c:s.1<5)(hi:i<S.n)(a:S.ph f i<5):S.V (put f (S.m0+i) s)=0:=by
 rw[(gL λk b e=>⟨?_,?_⟩).2.2]
 .exact h
 .have:S.ph f i=(f (S.m0+i)).1:=rfl;omega
 .have:S.ph f i=(f (S.m0+i)).1:=rfl;omega
def Sp.dE.worker (H:S.Good)(h:S.dE f gs w t rs ws)(hi:i<S.n)(v:gs[S.m0+i]? =aA g)(L:g.status= .running)(h8:S.ph f i<8):S.Step f gs w sl t (S.m0+i):=by
 have E:=h.pos;have A:=(h.DO _ g v).2.2.1 i hi rfl;have j:S.ph f i=(f (S.m0+i)).1:=rfl;generalize o:f (S.m0+i)=s at A;generalize b:Deaf t (S.m0+i)=d at A;have J:=h.base.live;have p:S.m0+i≠S.m0+S.n:=by omega
 rw[o]at j;cases A with
 |busy hb=>exact absurd h8 (by rw[j];simp)
 |parked hb=>exact absurd L (by simp[Go.Conc.parked])
 | @rm m _ _ B=>obtain⟨_,g',a,r,u⟩|⟨r,g',rfl,a,l⟩:=dB B J;{exact h.said (s:=(6,.nat r)) H hi v a (aI rfl) (by rw[o];exact gW (by omega)) ⟨by simp,by omega⟩ ⟨by simp,by rw[j];simp⟩ (by rw[b];exact .zM u)};{exact h.idle (s:=(7,.nat r)) H v (by omega) a (by rw[o]) (by rw[o];exact fI) (λe=>absurd e p) (by rw[b];exact eE E hi (.rm l))}
 | @zM m _ _ B=>obtain⟨_,g',a,r,u⟩|⟨r,g',rfl,a,l⟩:=dB B J;{exact h.said (s:=(5,.nat r)) H hi v a (aH rfl) (by rw[o];exact gW (by omega)) ⟨by simp,by omega⟩ ⟨by simp,by rw[j];simp⟩ (by rw[b];exact .dn u)};{exact h.idle (s:=(6,.nat r)) H v (by omega) a (by rw[o]) (by rw[o];exact fI) (λe=>absurd e p) (by rw[b];exact eE E hi (.zM l))}
 | @dn m _ _ B=>obtain F|⟨r,g',rfl,a,l⟩:=dB B J;{exact h.counts H hi v j b F};{exact h.idle (s:=(5,.nat r)) H v (by omega) a (by rw[o]) (by rw[o];exact fI) (λe=>absurd e p) (by rw[b];exact eE E hi (.dn l))}
 | @one m _ _ B=>obtain F|⟨r,g',rfl,a,l⟩:=dB B J;{have hl:S.jZ f i:=by{unfold Sp.jZ;rw[j];simp};obtain⟨N,K,I,⟨_,C⟩|⟨G,_⟩⟩:=yS h hi hl;{obtain⟨g',a,r,u⟩:=F.2 C;refine h.last H hi v a b hl (by rw[o];exact gW (by omega)) (by simp) (aH rfl) J (aH (aH rfl)) (.null u) λy O=> ?_;exact .c (by rw[cX _ _ (by omega)];exact N) (Aa K (by simp) hi (by omega)) i (FI I) (aI (eW f i _)) C};{rw[j]at G;simp at G}};{exact h.idle (s:=(3,.nat r)) H v (by omega) a (by rw[o]) (by rw[o];exact fI) (λe=>absurd e p) (by rw[b];exact eE E hi (.one l))}
 | @null m _ _ B=>obtain F|⟨r,g',rfl,a,l⟩:=dB B J;{have hl:S.jZ f i:=by{unfold Sp.jZ;rw[j];simp};obtain⟨N,K,I,⟨_,C⟩|⟨G,_⟩⟩:=yS h hi hl;{obtain⟨g',a,r,u⟩:=F.2 C;refine h.last (s:=(1,.nat r)) H hi v a b hl (by rw[o];exact gW (by omega)) (by simp) (aI ⟨_,_,rfl,rfl⟩) ⟨_,_,C.setSt 0⟩ (aH (aI rfl)) (.rel u) λy O=> ?_;exact .c' (by rw[cX _ _ (by omega)];exact N) (Aa K (by simp) hi (by omega)) i (FI I) (eW f i _) (C.setSt 0)};{rw[j]at G;simp at G}};{exact h.idle (s:=(2,.nat r)) H v (by omega) a (by rw[o]) (by rw[o];exact fI) (λe=>absurd e p) (by rw[b];exact eE E hi (.null l))}
 | @rel m _ _ B=>
  obtain F|⟨r,g',rfl,a,l⟩:=dB B J
  .have hl:S.jZ f i:=by{unfold Sp.jZ;rw[j];simp};obtain⟨N,K,I,⟨G,_⟩|⟨_,C⟩⟩:=yS h hi hl;{rw[j]at G;simp at G}
   .obtain⟨g',a,q,M⟩:=F.2.2 C;refine h.last (s:=(0,.nat q)) H hi v a b hl (by rw[o];exact gW (by omega)) (by simp) (aI ⟨_,_,rfl,rfl⟩) ⟨_,_,C.setSm 1⟩ (aI rfl) (.quit M) λy O=> ?_;refine .d (by rw[cX _ _ (by omega)];exact N) (Aa K (by simp) hi (by omega)) (XX I rfl) (C.setSm 1) ?_;obtain⟨e,_⟩|⟨_,z,W,rfl⟩:=iC _ _ _ _ _ _ O
    .omega
    .have D:=(h.DO _ z W).2.2.2 rfl;have Q:(mayWake S.P g&&g'.status != .blocked&&g'.status != .waiting)=aF:=by
      rw[F.2.1];obtain e|e:=M.status<;>rw[e]<;>rfl
     obtain x|x|x:=D.status H J;{rw[woken_running x,x];simp}
     .generalize Z:f (S.m0+S.n)=fc at D x;generalize hdc:Deaf t (S.m0+S.n)=dc at D;cases D with
      | @blk mm gg _ T I X=>unfold Go.Conc.woken;rw[zAz Q];simp[Goroutine.again,I]
      |Ef T=>rw[T.run J λ_ _ x=>x.1]at x;exact absurd x.2 (by simp)
      |quit T=>exact absurd x.1 (by simp)
      |_=>exact absurd x.1 (by simp)
     .have:S.ph f S.n=(f (S.m0+S.n)).1:=rfl;omega
  .exact h.idle (s:=(1,.nat r)) H v (by omega) a (by rw[o]) (by rw[o];exact fI) (λe=>absurd e p) (by rw[b];exact eE E hi (.rel l))
 | @quit q _ _ _ M=>
  cases q with
  |zero=>rw[M.1]at L;cases L
  |succ q=>obtain⟨U,_⟩|⟨_,g',es,hm,a,R⟩:=M;{rw[U]at L;cases L};{refine h.go_own (s:=(0,.nat q)) H v (by rw[dQ E];exact a w) (by rw[o];exact fI) (tO _ w) J (λe V=>aI (aI (aI (aI (aI (aI (aI (hm e V)))))))) (aI (aI λk e V=>aH (touch_mute (hm e (zBj V))))) rfl rfl (λk Y e=>by rw[o];exact⟨aEw,aEw⟩) (λk Y e x=>by simp at x) (λe=>absurd e p) (λe=>by omega) ?_ (mZ H h v J (λe=>absurd e p) (hY (by rw[o])) rfl) (λe=>absurd e p);rw[iK,b];exact eE E hi (.quit R)}
end
end Go.Ga
namespace Go.Ga
open Go.Conc Go.Ren Go.Tr Go.Wg
open Go.ConcR (KK WgAt stA smA DC0)
open Go.ConcN (WgLive sumTo sumTo_congr sumTo_upd upd upd_same upd_ne le_sumTo)
variable {S:Sp}
def Sp.Mode.alike {f f' st Qd w w'}(h:S.Mode f st w)(A:S.ph f' S.n=S.ph f S.n)(hi:∀i,i<S.n->S.ph f' i=S.ph f i\/(5<=S.ph f' i/\5<=S.ph f i))(g:w'.heap[S.Wg]? =w.heap[S.Wg]?)(hs:st≠.blocked->Qd≠.blocked):S.Mode f' Qd w':=by
 have v:S.V f'=S.V f:=zHa λi h=>by obtain e|e:=hi i h;{rw[e]};{rw[zAz e.1,zAz e.2]}
 have z:∀i,i<S.n->(S.jZ f' i↔S.jZ f i):=λi h=>by unfold Sp.jZ;obtain e|e:=hi i h;{rw[e]};{omega}
 have j:S.jL f->S.jL f':=λx i h y=>x i h ((z i h).1 y);have o:∀i,S.jI f i->S.jI f' i:=λi x=>⟨x.1,λk u r y=>x.2 k u r ((z k u).1 y)⟩;have l:∀st s,WgAt S.ty S.Wg w st s->WgAt S.ty S.Wg w' st s:=λ_ _ x=>g.trans x;cases h with
 |a m hl g=>exact .a (by omega) (j hl) (by rw[v];exact l _ _ g)
 |b m p hl g=>exact .b (by omega) (by omega) (j hl) (by rw[v];exact l _ _ g)
 |c m p i hl h1 g=>exact .c (by omega) (by omega) i (o i hl) (by have:=hi i hl.1;omega) (l _ _ g)
 |c' m p i hl h1 g=>exact .c' (by omega) (by omega) i (o i hl) (by have:=hi i hl.1;omega) (l _ _ g)
 |d m p hl g q=>exact .d (by omega) (by omega) (j hl) (l _ _ g) (hs q)
 |e m p hl g=>exact .e (by omega) (by omega) (j hl) (l _ _ g)
def iq {f i s}(hi:i<S.n)(h:8<=S.ph f i)(b:s.1<8):S.U (put f (S.m0+i) s)+1=S.U f:=by
 have:=sumTo_upd (S.ph f) s.1 (λp=>if 8<=p then 1 else 0) hi;simp only[h,zCs]at this;rw[zAv (by omega)]at this;unfold Sp.U;rw[<-show sumTo S.n (λa=>if 8<=upd (S.ph f) i s.1 a then 1 else 0)=sumTo S.n (λa=>if 8<=S.ph (put f (S.m0+i) s) a then 1 else 0)from zHa λa _=>by
  by_cases e:a=i;{subst e;rw[upd_same,eW]}
  .rw[upd_ne _ _ e,cX _ _ e]]
 omega
def mI (w:zW)(c cap)(buf)(cl)(s r)(tm){b}(h:b≠c):(w.setChan c cap buf cl s r tm).heap[b]? =w.heap[b]? :=by simp only[World.setChan];rw[zAe λe=>h e.symm]
def mH (w:zW)(c cap)(buf)(cl)(s r)(tm):(w.setChan c cap buf cl s r tm).heap.size=w.heap.size:=by simp[World.setChan]
def setChan_at {w:zW}{c cap buf cl s r tm}(h:c<w.heap.size):(w.setChan c cap buf cl s r tm).heap[c]? =aA (.chan cap buf cl s r tm):=by simp only[World.setChan];rw[zAo h]
section
variable {f:Nat->Span}{gs:zG}{w:zW}{t:Trace}{rs ws:Nat->zP}{i:Nat}
def Sp.dE.meet (H:S.Good)(h:S.dE f gs w t rs ws)(hi:i<S.n)(jz:8<=S.ph f i)(I:Deaf t (S.m0+i)=0)(K:Deaf t 0=0){gm gw sh zr zd m k d tm}
  (Q:S.Pb (S.Rc f) (rs 0) (ws 0) gm sh zr zd w) (hgo:S.Goes S.D6 m gw w) (Tj:w.heap[S.Cr]? =aA (.chan 0 #[] aG k k tm)) {v} (hv:S.Ok i v (ws (S.m0+i)) w)
  {x1 x2 x3 x4} (Y:x1.g=S.m0+i/\x1.act= .send S.Cr k) (X:x2.g=0/\x2.act= .recv S.Cr k 0) (L:x3.g=S.m0+i/\x3.act= .sendDone S.Cr k) (W:x4.g=0/\x4.act= .recvDone S.Cr k)
  {gs'} (FQ:gs'.size=gs.size) (Ya:gs'[0]? =aA (gm.finishComm S.P (S.cases zr zd) sh 0 v aF)) (kn:gs'[S.m0+i]? =aA gw) (C:∀k,k≠0->k≠S.m0+i->gs'[k]? =gs[k]?):
  ∃tr,S.dE (put (put f 0 (3*(S.U f-1)+2,tr)) (S.m0+i) (7,.nat m)) gs' ((w.at d).setChan S.Cr 0 #[] aG (k+1) (k+1) tm) (t++ #[x1,x2,x3,x4]) (put rs (S.m0+i) λ_=>False) (put (put ws 0 λb=>ws 0 b\/ws (S.m0+i) b) (S.m0+i) λ_=>False):=by
 have R:=h.pos;obtain⟨tr,c⟩:=Q.got w (cA.refl _ _ w) h.base.live i v (ws (S.m0+i)) hi (λx=>by have:=x.2;omega) hv (λb c=>⟨h.base.lt (aI c),λx=>by have:=h.base.IJ c x;omega,λx=>by have:=h.base.CU c x;omega⟩);refine⟨tr,?_⟩;generalize G:put (put f 0 (3*(S.U f-1)+2,tr)) (S.m0+i) (7,.nat m)=z;have N:z 0=(3*(S.U f-1)+2,tr):=by rw[<-G,bH _ _ (by omega),aW]
 have ei:z (S.m0+i)=(7,.nat m):=by rw[<-G,aW]
 have ek:∀k,k≠0->k≠S.m0+i->z k=f k:=λk h0 E=>by rw[<-G,bH _ _ E,bH _ _ h0]
 have pi:S.ph z i=7:=by unfold Sp.ph;rw[ei]
 have A:∀k,k≠i->S.ph z k=S.ph f k:=λk E=>by unfold Sp.ph;rw[ek _ (by omega) (by omega)]
 have hU:S.U z+1=S.U f:=by
  have e:S.U z=S.U (put f (S.m0+i) (7,.nat m)):=zHa λa D=>by by_cases e:a=i;{subst e;rw[pi,eW]};{rw[A a e,cX _ _ e]}
  rw[e];exact iq hi jz (by simp)
 have hV:S.V z=S.V f:=zHa λa D=>by by_cases e:a=i;{subst e;rw[pi,zAz (by omega),zAz (by omega)]};{rw[A a e]}
 have ga:S.Rc z=add (S.Rc f) i:=by
  funext a;apply propext;constructor
  .rintro⟨x,y⟩;by_cases e:a=i
   .exact aI e
   .rw[A a e]at y;exact aH ⟨x,y⟩
  .rintro(⟨x,y⟩|rfl)
   .by_cases e:a=i
    .subst e;omega
    .exact⟨x,by rw[A a e];exact y⟩
   .exact⟨hi,by omega⟩
 have o:=(zAa.1 Tj).1;have heap:∀b,b≠S.Cr->((w.at d).setChan S.Cr 0 #[] aG (k+1) (k+1) tm).heap[b]? =w.heap[b]? :=λb c=>mI (w.at d) _ _ _ _ _ _ _ c;have l:((w.at d).setChan S.Cr 0 #[] aG (k+1) (k+1) tm).heap.size=w.heap.size:=mH (w.at d) _ _ _ _ _ _ _;have hJ:S.J ((w.at d).setChan S.Cr 0 #[] aG (k+1) (k+1) tm):=by obtain⟨a,b,x⟩:=h.base.live;exact⟨a,b,(heap _ H.chans.2.1).trans x⟩
 have lM:∀a,cA (rs a) (ws a) w ((w.at d).setChan S.Cr 0 #[] aG (k+1) (k+1) tm):=λa=>
  ⟨λb c=>heap b λe=>h.base.off c (aI (aI (aH e))),by rw[l];exact zAb _,rfl,rfl,rfl⟩
 have hn:∀op∈#[x1,x2,x3,x4],op.act.touch? =aB:=by intro op j;simp only[zAs,zAg,zAr,zCd]at j;obtain rfl|rfl|rfl|rfl:=j;{rw[Y.2];rfl};{rw[X.2];rfl};{rw[L.2];rfl};{rw[W.2];rfl}
 have u:∀a,Deaf (t++ #[x1,x2,x3,x4]) a=Deaf t a:=λa=>Go.ConcN.Deaf_still t a _ λop j=>by simp only[zAs,zAg,zAr,zCd]at j;obtain rfl|rfl|rfl|rfl:=j;{rw[Y.2];simp};{rw[X.2];simp};{rw[L.2];simp};{rw[W.2];simp}
 have r:∀a b,put rs (S.m0+i) (λ_=>False) a b->rs a b/\a≠S.m0+i:=λa b c=>by by_cases e:a=S.m0+i;{subst e;rw[aW]at c;exact c.elim};{rw[bH _ _ e]at c;exact⟨c,e⟩}
 have q:∀a b,put (put ws 0 λb=>ws 0 b\/ws (S.m0+i) b) (S.m0+i) (λ_=>False) a b->(ws a b\/(a=0/\ws (S.m0+i) b))/\a≠S.m0+i:=λa b c=>by
  by_cases e:a=S.m0+i;{subst e;rw[aW]at c;exact c.elim}
  .rw[bH _ _ e]at c;by_cases N:a=0
   .subst N;rw[aW]at c;exact⟨c.imp id λx=>⟨rfl,x⟩,e⟩
   .rw[bH _ _ N]at c;exact⟨aH c,e⟩
 have B:∀a b,put (put ws 0 λb=>ws 0 b\/ws (S.m0+i) b) (S.m0+i) (λ_=>False) a b->∃Z,ws Z b:=λa b c=>(q a b c).1.elim (λx=>⟨_,x⟩) λx=>⟨_,x.2⟩;refine⟨R,h.nR,FQ.trans h.size,⟨λ{a b} c=> ?_,λ{a Z b} x y=> ?_,λ{a Z b} x y=> ?_,λ{a b} c=> ?_,λ{b} c=>by rw[l];exact h.base.oA c,hJ,?_,?_,λa D=>by rw[u];exact h.base.above a D⟩,⟨k+1,tm,setChan_at o⟩,?_,λa y s=> ?_,λy s=> ?_,λe=>by rw[N]at e;simp at e;omega,λ_ e=>by rw[N]at e;simp at e;omega,λe=>by rw[N]at e;simp at e;omega,λhz=> ?_⟩
 .rw[l];obtain c|c:=c
  .exact h.base.lt (aH (r _ _ c).1)
  .obtain⟨Z,x⟩:=B _ _ c;exact h.base.lt (aI x)
 .obtain⟨x,hx⟩:=q _ _ x;obtain⟨y,s⟩:=q _ _ y;obtain x|⟨x0,x⟩:=x<;>obtain y|⟨y0,y⟩:=y
  .exact h.base.CU x y
  .exact absurd (h.base.CU x y) hx
  .exact absurd (h.base.CU y x) s
  .rw[x0,y0]
 .obtain⟨x,hx⟩:=q _ _ x;obtain⟨y,s⟩:=r _ _ y;obtain x|⟨x0,x⟩:=x
  .exact h.base.IJ x y
  .exact absurd (h.base.IJ x y).symm s
 .obtain c|c:=c
  .exact h.base.off (aH (r _ _ c).1)
  .obtain⟨Z,x⟩:=B _ _ c;exact h.base.off (aI x)
 .refine h.base.ti.Mb hn (λa b c=>aH (r a b c).1) (λa b c=>(q a b c).1.elim aH λx=>aI (aH ⟨_,x.2,λp E=>by rw[x.1];exact FC Y X L.1 L.2 W I K E⟩)) (λa b c=>aH c) (λb c=>aH c) (λb c=>c) (λa D=> ?_);obtain⟨i',F,e1,e2⟩|e:=D
  .by_cases e:i'=i
   .subst e;refine aI λp op uo j hg _=> ?_;have E:=knows_own j;rw[hg,e1]at E;exact FC Y X L.1 L.2 W I K E
   .exact aH (aH ⟨i',F,e1,by rw[A _ e];exact e2⟩)
  .exact aH (aI e)
 .rw[l];refine seen_app h.base.low λop j=> ?_;simp only[zAs,zAg,zAr,zCd]at j;obtain rfl|rfl|rfl|rfl:=j
  .rw[Y.2];exact o
  .rw[X.2];exact o
  .rw[L.2];exact o
  .rw[W.2];exact o
 .obtain⟨s0,r0,tm1,Tk⟩:=h.cd;refine⟨s0,r0,tm1,?_⟩;rw[heap _ λe=>H.chans.1 e.symm,Tk,A _ (by omega)]
 .rw[u];by_cases O:a=0
  .subst O;rw[Ya]at s;obtain rfl:=zAk s;refine⟨λ_=>⟨K,?_⟩,λe=>by omega,λ_ _ e=>by omega,λe=>by omega⟩;rw[ga,bH _ _ (by omega),bH _ _ (by omega),aW,N];have:S.U f-1=S.U z:=by{omega};rw[this];exact .busy (c.rely ⟨λb c=>heap b λe=>c.elim (λx=>h.base.off (aH x) (aI (aI (aH e)))) λx=>x.elim (λx=>h.base.off (aI x) (aI (aI (aH e)))) λx=>h.base.off (aI x) (aI (aI (aH e))),by rw[l];exact zAb _,rfl,rfl,rfl⟩)
  .by_cases M:a=S.m0+i
   .subst M;rw[kn]at s;obtain rfl:=zAk s;rw[ei,I];exact eE R hi (.rm (Sp.Goes.rely hgo hJ))
   .rw[C a O M]at s;have hs:=(h.DO a y s).rely (lM a) hJ;rw[ek a O M,hV];refine⟨λe=>absurd e O,hs.2.1,λi' F e=> ?_,λe=> ?_⟩
    .have:=hs.2.2.1 i' F e;rw[bH _ _ M,bH _ _ M,bH _ _ O];exact this
    .have:=hs.2.2.2 e;rw[bH _ _ M,bH _ _ M,bH _ _ O];exact this
 .rw[C _ (by omega) (by omega)]at s;refine(h.mode y s).alike (A _ (by omega)) (λa D=> ?_) (heap _ H.chans.2.1) id;by_cases e:a=i
  .subst e;exact aI ⟨by omega,by omega⟩
  .exact aH (A a e)
 .rw[A _ (by omega)]at hz;obtain⟨ic,c1,c2,c3⟩:=h.Fz hz;have bT:=lt_of_act? c1;refine⟨ic,by rw[act?_old bT];exact c1,(heard_old bT).2 c2,λp op a R hg D=> ?_⟩;obtain⟨qf,ah⟩|⟨mz,_,_,j,T⟩:=dM D
  .rw[getElem?_append_old qf]at R;exact(c3 p op a R hg ah).app _
  .rw[hn mz j]at T;cases T
def LB {a b c:Span}{i:Nat}(e:0<S.m0)(hi:i<S.n)(d:Span.Lt a (f 0))(h:Span.Lt b (f (S.m0+i))):PO (vec (S.m0+S.n+1) (put (put f 0 a) (S.m0+i) b)) (vec (S.m0+S.n+1) (put f 0 a))/\PO (vec (S.m0+S.n+1) (put f 0 a)) (vec (S.m0+S.n+1) f):=
 ⟨lF (by omega) (by rw[bH _ _ (by omega)];exact h),lF (by omega) d⟩
def BD (H:S.Good)(h:S.dE f gs w t rs ws){a y}(g:gs[a]? =aA y)(m:a=0->(f 0).1≠3*S.U f+1):offersAt y S.Cr aG=[]:=by
 have c:=h.DO a y g;have J:=h.base.live;have bT:=(zAa.1 g).1;have j:=h.size;by_cases s:a=0
 .subst s;obtain x|x:=(c.1 rfl).2.status H J
  .exact zGp (by rw[x.1];simp) _ _
  .exact absurd x.1 (m rfl)
 .by_cases r:a<S.m0
  .obtain⟨q,_,k⟩:=c.2.1 (by omega) r;exact zGp (by obtain x|x:=k.status<;>rw[x]<;>simp) _ _
  .by_cases p:a=S.m0+S.n
   .have d:=c.2.2.2 p;generalize f a=o at d;generalize Deaf t a=u at d;obtain x|x|x:=d.status H J
    .exact zGp (by rw[x];simp) _ _
    .cases d with
     |blk e l v=>simp[offersAt,l]
     |Ef e=>exact zGp (by rw[e.run J λ_ _ x=>x.1];simp) _ _
     |_=>exact absurd x.1 (by simp)
    .exact zGp (by rw[x.2];simp) _ _
   .have b:=c.2.2.1 (a-S.m0) (by omega) (by omega);generalize f a=o at b;generalize Deaf t a=u at b;obtain x|x|x:=b.status J
    .exact zGp (by rw[x.2];simp) _ _
    .cases b with
     |parked e=>exact offersAt_parked_send' _ _ _ _ _ _
     |_=>exact absurd x.1 (by simp)
    .exact zGp (by rw[x.2];simp) _ _
def oL (H:S.Good)(h:S.dE f gs w t rs ws){a y}(s:gs[a]? =aA y)(c):offersAt y c aF=[]\/∃i,i<S.n/\a=S.m0+i/\S.ph f i=8/\∃v g z m,S.Ok i v (ws a) w/\y=parked g #[scase S.Cr v z] .send/\S.Goes S.D6 m (Go.Conc.served g aEn) w/\Deaf t a=0/\offersAt y c aF=if S.Cr=c then [0]else []:=by
 have k:=h.DO a y s;have J:=h.base.live;have bT:=(zAa.1 s).1;have A:=h.size;by_cases I:a=0
 .subst I;left;have o:=(k.1 rfl).2;generalize f 0=f0 at o;obtain x|x:=o.status H J
  .exact zGp (by rw[x.1];simp) _ _
  .cases o with
   |parked b=>refine offersAt_parked_sends (λM e=> ?_) _;simp only[Sp.cases,zAs,zAg,zAr,zCd]at e;obtain rfl|rfl:=e<;>rfl
   |busy b=>exact absurd x.1 (by simp)
   |tries b=>exact absurd x.1 (by simp)
 .by_cases G:a<S.m0
  .obtain⟨q,_,B⟩:=k.2.1 (by omega) G;exact aH (zGp (by obtain x|x:=B.status<;>rw[x]<;>simp) _ _)
  .by_cases F:a=S.m0+S.n
   .left;have l:=k.2.2.2 F;generalize f a=E at l;generalize Deaf t a=K at l;obtain x|x|x:=l.status H J
    .exact zGp (by rw[x];simp) _ _
    .cases l with
     |blk b C L=>simp[offersAt,C]
     |Ef b=>exact zGp (by rw[b.run J λ_ _ x=>x.1];simp) _ _
     |_=>exact absurd x.1 (by simp)
    .exact zGp (by rw[x.2];simp) _ _
   .have r:a=S.m0+(a-S.m0):=by{omega};have j:=k.2.2.1 (a-S.m0) (by omega) r;have d:S.ph f (a-S.m0)=(f a).1:=by{unfold Sp.ph;rw[<-r]};generalize p:f a=E at j;rw[p]at d;generalize D:Deaf t a=K at j;obtain x|x|x:=j.status J;{exact aH (zGp (by rw[x.2];simp) _ _)}
    .cases j with
     |parked u b=>exact aI ⟨a-S.m0,by omega,r,d,_,_,_,_,u,rfl,b,rfl,offersAt_parked_send _ _ _ _ _ _⟩
     |_=>exact absurd x.1 (by simp)
    .exact aH (zGp (by rw[x.2];simp) _ _)
end
end Go.Ga
namespace Go.Ga
open Go.Conc Go.Ren Go.Tr Go.Wg
open Go.ConcR (KK WgAt stA smA DC0)
open Go.ConcN (WgLive sumTo sumTo_congr sumTo_upd upd upd_same upd_ne le_sumTo)
variable {S:Sp}
section
variable {f:Nat->Span}{gs:zG}{w:zW}{t:Trace}{rs ws:Nat->zP}{i:Nat}{g:zH}{sl:Option (Nat×Nat)}
def Oq (w:zW):w.at w.drawn=w:=rfl
def Sp.dE.cw (H:S.Good)(h:S.dE f gs w t rs ws)(hi:i<S.n)(D:S.ph f i=9){b z m}(q:S.Goes S.D6 m (Go.Conc.served b aEn) w)(F:Deaf t (S.m0+i)=0)(p:(f 0).1≠3*S.U f+1){v}(C:S.Ok i v (ws (S.m0+i)) w):
  S.dE (put f (S.m0+i) (8,.leaf)) (gs.setIfInBounds (S.m0+i) (parked b #[scase S.Cr v z] .send)) w t rs ws:=by
 have B:=h.pos;have A:S.ph f i=(f (S.m0+i)).1:=rfl;obtain⟨r,o,G⟩:=gL (S:=S) (f:=f) (j:=S.m0+i) (s:=(8,.leaf)) λk E e=>⟨by simp;omega,by simp;omega⟩;have d:S.Live (put f (S.m0+i) (8,.leaf))=S.Live f:=xD λk E=>by by_cases e:k=i;{subst e;rw[eW];simp;omega};{rw[cX _ _ e]}
 have u:put f (S.m0+i) (8,.leaf) 0=f 0:=bH _ _ (by omega);have l:S.ph (put f (S.m0+i) (8,.leaf)) S.n=S.ph f S.n:=cX _ _ (by omega);refine⟨B,h.nR,by simp[h.size],by rw[d];exact h.base,h.cr,by rw[l];exact h.cd,λa y c=> ?_,λy c=> ?_,λe=> ?_,λe=> ?_,λe=> ?_,λe=> ?_⟩
 .rw[r,o,G];by_cases e:a=S.m0+i
  .subst e;have bT:S.m0+i<gs.size:=by{have:=h.size;omega};rw[zAo bT]at c;obtain rfl:=zAk c;rw[aW,F];exact eE B hi (.parked C q)
  .rw[zAe (λx=>e x.symm)]at c;rw[bH _ _ e];exact h.DO a y c
 .rw[zAe (by omega)]at c;refine(h.mode y c).alike l (λa I=> ?_) rfl id;by_cases e:a=i
  .subst e;rw[eW];exact aI ⟨by simp,by omega⟩
  .exact aH (cX _ _ e)
 .rw[o,u]at e;exact absurd e p
 .rw[l]at e;rw[o,u];exact h.shut e
 .rw[o,u]at e;rw[l];exact h.tries e
 .rw[l]at e;exact h.Fz e
def Sp.dE.PS (H:S.Good)(h:S.dE f gs w t rs ws)(hi:i<S.n)(W:gs[S.m0+i]? =aA g)(hr:g.status= .running)(h8:8<=S.ph f i):S.Step f gs w sl t (S.m0+i):=by
 have hp:=h.pos;have FQ:=h.size;have p:=(h.DO _ g W).2.2.1 i hi rfl;have G:S.ph f i=(f (S.m0+i)).1:=rfl;have K:S.Live f (S.m0+i):=aH ⟨i,hi,rfl,h8⟩;generalize L:f (S.m0+i)=s at p;generalize M:Deaf t (S.m0+i)=d at p;have J:=h.base.live;have I:S.m0+i≠S.m0+S.n:=by omega
 rw[L]at G;cases p with
 | @busy tr _ _ N=>
  cases tr with
  |node ch=>
   obtain⟨_,N⟩:=N;obtain⟨g',w',es,F,B,Mp,rf⟩:=N w (cA.refl _ _ w) J;have R:=B.keep _ (h.base.oA (aI (aH rfl))) λx=>h.base.off (aI x) (aI (aH rfl));have y:=B.keep _ (h.base.oA (aI (aI (aH rfl)))) λx=>h.base.off (aI x) (aI (aI (aH rfl)));have Tk:=B.keep _ (h.base.oA (aI (aI (aI rfl)))) λx=>h.base.off (aI x) (aI (aI (aI rfl)));have J':S.J w':=by obtain⟨a,b,x⟩:=J;exact⟨a,b,R.trans x⟩
   have qs:deafBehind 0 es=0:=deafBehind_still (λe he=>by
    obtain⟨a,wr,s,rfl,_⟩|⟨r,s,rfl,_⟩|x|x|⟨q,x⟩:=Mp e he;{simp};{simp};{rw[x];simp};{rw[x];simp}
    .rw[x];simp) 0
   refine h.go_own (s:=(9,ch w)) H W (by rw[dQ hp];exact F) (by rw[L];exact .right _ ⟨_,_,rfl,rfl⟩) ⟨λb N hn=>B.keep b N λx=>hn (aH x),B.size,B.tape,B.os,B.output⟩ J' (λe he=>aH (Mp e he)) (aI (aH K)) y Tk (λk hk e=>by rw[L];exact⟨aEw,aEw⟩) (λk hk e x=>by simp at x) (λe=>absurd e I) (λe=>by omega) ?_ (mZ H h W J' (λe=>absurd e I) (hY (by rw[L])) R) (λe=>absurd e I);rw[M,qs];refine eE hp hi (.busy ?_);rw[aW];exact rf
  |leaf=>
   obtain⟨v,hv,_,l,z,F,m,Y⟩:=N w (cA.refl _ _ w) J;obtain⟨k,tm,y⟩:=h.cr;have A:stepG S.P (S.m0+i==0) g w= .comm l #[scase S.Cr v z] aF .send w #[]:=by{rw[dQ hp];exact F};have C:0<gs.size:=by{omega};have Ya:=zAj C;obtain⟨hd0,hm⟩:=(h.DO 0 _ Ya).1 rfl;by_cases o:(f 0).1=3*S.U f+1
   .obtain⟨D,sh,O,zd,T,Z⟩:∃D sh O zd,S.Pb (S.Rc f) (rs 0) (ws 0) D sh O zd w/\gs[0]? =aA (parked D (S.cases O zd) sh):=by
     rw[Ya];generalize gs[0]=g0 at hm;generalize xg:f 0=f0 at hm o;cases hm with
     |busy x=>simp at o
     |parked x=>exact⟨_,_,_,_,x,rfl⟩
     |tries x=>simp at o
    have jy:partners (gs.setIfInBounds (S.m0+i) Go.Conc.ph) S.Cr aG=[(0,0)]:=by
     rw[partners_one (stand_get (by omega) Z) λa x ha E=> ?_]
     .rw[offersAt_parked_at (k:=0) (z:=O) (by simp[Sp.cases]) λa cc ha hc=> ?_]
      .rfl
      .have:a=1:=by
        have:=(zAa.1 hc).1;simp[Sp.cases]at this;omega
       subst this;simp only[Sp.cases,zEh,List.getElem?_cons_succ,zCu,aEx]at hc;subst hc;simp only[rcase,ne_eq,Value.chan.injEq,aEx];exactλe=>H.chans.1 e.symm
     .obtain⟨_,rfl⟩|⟨_,E⟩:=getElem?_stand _ _ _ _ E
      .exact offersAt_ph _ _
      .exact BD H h E λe=>absurd e ha
    have u:=crowd_send_meets_sel (sl:=sl) W A y (by omega) Z (zj:=O) (by simp[Sp.cases]) jy;obtain⟨tr,X⟩:=h.meet (m:=m) (d:=w.drawn) H hi h8 M hd0 T Y y hv (gs':=(gs.setIfInBounds 0 (D.finishComm S.P (S.cases O zd) sh 0 v aF)).setIfInBounds (S.m0+i) (l.finishComm S.P #[scase S.Cr v z] .send 0 aEn aG))
     (x1:={g:=S.m0+i,fn:=l.frame.fn,pos:=l.frame.place,act:= .send S.Cr k}) (x2:={g:=0,fn:=D.frame.fn,pos:=D.frame.place,act:= .recv S.Cr k 0}) (x3:={g:=S.m0+i,fn:=l.frame.fn,pos:=l.frame.place,act:= .sendDone S.Cr k}) (x4:={g:=0,fn:=D.frame.fn,pos:=D.frame.place,act:= .recvDone S.Cr k})
     ⟨rfl,rfl⟩ ⟨rfl,rfl⟩ ⟨rfl,rfl⟩ ⟨rfl,rfl⟩ (by simp) (by rw[zAe (by omega),zAo C]) (by rw[zAo (by simp;omega),finishComm_send]) λa h0 ha=>by rw[zAe λe=>ha e.symm,zAe λe=>h0 e.symm]
    refine⟨_,_,put (put f 0 (3*(S.U f-1)+2,tr)) (S.m0+i) (7,.nat m),put rs (S.m0+i) λ_=>False,put (put ws 0 λb=>ws 0 b\/ws (S.m0+i) b) (S.m0+i) λ_=>False,_,u,?_,?_⟩;{simpa [ofEvents_eq,Oq]using X}
    .have hU:0<S.U f:=by
      have:=le_sumTo (f:=λi=>if 8<=S.ph f i then 1 else 0) hi;simp only[h8,zCs]at this;exact this
     have hV:S.V (put (put f 0 (3*(S.U f-1)+2,tr)) (S.m0+i) (7,.nat m))=S.V f:=zHa λa ha=>by by_cases e:a=i;{subst e;rw[eW,zAz (by simp),zAz (by omega)]};{rw[cX _ _ e];unfold Sp.ph;rw[bH _ _ (by omega)]}
     unfold Sp.mu;rw[hV];have e0:f 0=(3*S.U f+1,(f 0).2):=by{rw[<-o]};obtain⟨v1,v2⟩:=LB (S:=S) (f:=f) (c:=(0,.leaf)) (a:=(3*(S.U f-1)+2,tr)) (b:=(7,.nat m)) hp hi (by rw[e0];exact gW (by omega)) (by rw[L];exact gW (by omega));exact Mu.two v1 v2
   .have hpn:partners (gs.setIfInBounds (S.m0+i) Go.Conc.ph) S.Cr aG=[]:=partners_nil λa x E=>by
     obtain⟨_,rfl⟩|⟨_,E⟩:=getElem?_stand _ _ _ _ E;{exact offersAt_ph _ _};{exact BD H h E λe=>o}
    have u:=crowd_waits (sl:=sl) W A λcc fu=>by simp only[zAs,zAg,zAr,zCd]at fu;subst fu;exact ways_send_none y (by simp) hpn
    refine⟨_,_,put f (S.m0+i) (8,.leaf),rs,ws,_,u,?_,?_⟩;{simpa [ofEvents_eq]using h.cw (z:=z) H hi G Y M o hv};{unfold Sp.mu;rw[(gL (S:=S) (f:=f) (j:=S.m0+i) (s:=(8,.leaf)) λk hk e=>by rw[L];simp).2.2];exact Mu.one (lF (by omega) (by rw[L];exact gW (by omega)))}
 |parked _ N=>exact absurd hr (by simp[Go.Conc.parked])
 |_=>exact absurd h8 (by rw[G];simp)
end
end Go.Ga
namespace Go.Ga
open Go.Conc Go.Ren Go.Tr Go.Wg
open Go.ConcR (KK WgAt stA smA DC0)
open Go.ConcN (WgLive sumTo sumTo_congr sumTo_upd upd upd_same upd_ne le_sumTo)
variable {S:Sp}
def nE {R:zP}{u V:Nat}{rs ws:Nat->zP}{d:Nat}{f:Span}{g:zH}{w:zW}(a:0<S.m0)(h:S.CSit V (rs (S.m0+S.n)) (ws (S.m0+S.n)) f d g w):S.VJ R u V rs ws (S.m0+S.n) f d g w:=
 ⟨λe=>by omega,λ_ e=>by omega,λk b e=>by omega,λ_=>h⟩
section
variable {f:Nat->Span}{gs:zG}{w w':zW}{t:Trace}{rs ws:Nat->zP}{g g':zH}{es:zE}{s:Span}{sl:Option (Nat×Nat)}
def mP (f)(s):S.V (put f (S.m0+S.n) s)=S.V f:=(gL (S:=S) λk h e=>by omega).2.2
def kH (f)(s):S.ph (put f (S.m0+S.n) s) S.n=s.1:=eW f S.n s
def jU {f s}(h:S.jL f):S.jL (put f (S.m0+S.n) s):=λk a x=>h k a (by unfold Sp.jZ at x⊢;rwa [cX _ _ (by omega)]at x)
def Vp {f s i}(h:S.jI f i):S.jI (put f (S.m0+S.n) s) i:=⟨h.1,λk b a x=>h.2 k b a (by unfold Sp.jZ at x⊢;rwa [cX _ _ (by omega)]at x)⟩
def Sp.dE.iZ (H:S.Good)(h:S.dE f gs w t rs ws)(C:gs[S.m0+S.n]? =aA g)(m:stepG S.P aG g w= .go g' w' es)(bT:Span.Lt s (f (S.m0+S.n)))(d:w'=w\/∃a v,w'=w.setCell a v/\a.block=S.Wg)(I:S.J w')
  (q:∀e∈es,(∃a wr,e=(⟨.cell a,wr,aF⟩:Event)/\a.block=S.Wg)\/e=Go.ConcR.mk .disable\/e=Go.ConcR.mk .enable\/e=Go.ConcR.mk (.acquire (stA S.Wg))\/e=Go.ConcR.mk (.write (smA S.Wg))\/e.mute=aF)
  (u:s.1=0↔S.ph f S.n=0) (p:S.ph f S.n=0->∀e∈es,e.mute=aF)
  (l:S.CSit (S.V f) (rs (S.m0+S.n)) (ws (S.m0+S.n)) s (deafBehind (Deaf t (S.m0+S.n)) es) g' w')
  (i:S.Mode (put f (S.m0+S.n) s) g'.status w'):S.Step f gs w sl t (S.m0+S.n):=by
 have r:=h.pos;have B:=h.size;have F:Go.Ren.Does (Sp.ID (S:=S) (ws (S.m0+S.n))) w w':=by obtain rfl|⟨a,v,rfl,j⟩:=d;{exact tO _ _};{exact zK _ w a v j}
 have D:put ws (S.m0+S.n) (grown (ws (S.m0+S.n)) w w')=ws:=by obtain rfl|⟨a,v,rfl,j⟩:=d;{exact iK _ _ _};{exact nL _ _ _ _ _}
 have c:∀b,b≠S.Wg->w'.heap[b]? =w.heap[b]? :=λb G=>by obtain rfl|⟨a,v,rfl,j⟩:=d;{rfl};{exact tL w a v (by rw[j];exact G)}
 refine h.go_own H C (by rw[dQ r];exact m) bT F I (λe A=> ?_) (aI (aH (aI rfl))) (c _ λe=>H.chans.2.1 e.symm) (c _ λe=>H.chans.2.2 e.symm) (λk p e=>by omega) (λk p e x=>by omega) (λ_=>u) (λe=>by omega) ?_ (λy z=> ?_) (λ_ K e E=>touch_mute (p K e E))
 .obtain⟨a,wr,rfl,j⟩|rfl|rfl|rfl|rfl|x:=q e A
  .exact aI (aH ⟨_,_,rfl,j⟩)
  .exact aI (aI (aH rfl))
  .exact aI (aI (aI (aH rfl)))
  .exact aI (aI (aI (aI (aH ⟨_,aI rfl,rfl⟩))))
  .exact aI (aI (aI (aI (aI (aH ⟨rfl,_,aI rfl,rfl⟩)))))
  .exact aI (aI (aI (aI (aI (aI (aI x))))))
 .rw[D];exact nE r l
 .obtain⟨_,rfl⟩|⟨o,_⟩:=iC _ _ _ _ _ _ z
  .exact i
  .exact absurd rfl o
def Sp.dE.Uy (h:S.dE f gs w t rs ws)(a:gs[S.m0+S.n]? =aA g)(hs:s.1=S.ph f S.n)(b:g'.status≠.blocked):S.Mode (put f (S.m0+S.n) s) g'.status w:=
 (h.mode g a).same (hY (by rw[hs];rfl)) rfl λ_=>b
def Sp.dE.SS (h:S.dE f gs w t rs ws)(l:gs[S.m0+S.n]? =aA g)(j:8<=S.ph f S.n):S.jL f/\WgAt S.ty S.Wg w (S.V f*KK) 0:=by
 cases h.mode g l with
 |a j hl hw=>exact⟨hl,hw⟩
 |b j k hl hw=>omega
 |c j k i hl hi hw=>omega
 |c' j k i hl hi hw=>omega
 |d j k hl hw m=>omega
 |e j k hl hw=>omega
def Sp.dE.BF (h:S.dE f gs w t rs ws)(l:gs[S.m0+S.n]? =aA g)(j:S.ph f S.n<=5):S.V f=0/\S.jL f/\WgAt S.ty S.Wg w 0 0:=by
 cases h.mode g l with
 |a j hl hw=>omega
 |b j k hl hw=>omega
 |c j k i hl hi hw=>omega
 |c' j k i hl hi hw=>omega
 |d j k hl hw m=>omega
 |e j k hl hw=>exact⟨k,hl,hw⟩
def Bw {a}(h:a.block=S.Wg):∀e∈#[Go.ConcR.rd a],(∃a wr,e=(⟨.cell a,wr,aF⟩:Event)/\a.block=S.Wg)\/e=Go.ConcR.mk .disable\/e=Go.ConcR.mk .enable\/e=Go.ConcR.mk (.acquire (stA S.Wg))\/e=Go.ConcR.mk (.write (smA S.Wg))\/e.mute=aF:=by intro e b;simp only[zAs,zAg,zAr,zCd]at b;subst b;exact aH ⟨_,_,rfl,h⟩
def CO {a d}:deafBehind d #[Go.ConcR.rd a]=d:=by simp[deafBehind,Go.ConcR.rd]
def Sp.dE.Vl (H:S.Good)(h:S.dE f gs w t rs ws)(l:gs[S.m0+S.n]? =aA g)(q:Deaf t (S.m0+S.n)=1){m}(v:S.Goes S.lh m g w)(bT:∀c,m=c+1->Span.Lt (10,.nat c) (f (S.m0+S.n)))(C:10<=S.ph f S.n):S.Step f gs w sl t (S.m0+S.n):=by
 have J:=h.base.live;obtain⟨hl,j⟩:=h.SS l (by omega);have x:=Za (S:=S) f;have r:=h.nR;have u:S.ph f S.n=(f (S.m0+S.n)).1:=rfl;have d:∀{p:Nat}{tr:Tree},p<10->Span.Lt (p,tr) (f (S.m0+S.n)):=λ{p tr} B=>by have e:f (S.m0+S.n)=((f (S.m0+S.n)).1,(f (S.m0+S.n)).2):=rfl;rw[e];exact gW (by omega)
 obtain y|⟨c,g',rfl,b,o⟩:=dB v J
 .obtain⟨g',b,A,z⟩:=y.2 (S.V f) (by omega) j;by_cases k:S.V f=0
  .obtain⟨c,i⟩:=A k;refine h.iZ (s:=(4,.nat c)) H l b (d (by omega)) (aH rfl) J (Bw rfl) (by simp;omega) (λe=>by omega) (by rw[q,CO];exact .en i) (.e (by rw[kH];simp) (by rw[mP];exact k) (jU hl) ?_);rw[k]at j;simpa using j
  .obtain⟨c,i⟩:=z k;refine h.iZ (s:=(8,.nat c)) H l b (d (by omega)) (aH rfl) J (Bw rfl) (by simp;omega) (λe=>by omega) (by rw[q,CO];exact .Yu i k) (.a (by rw[kH];simp) (jU hl) (by rw[mP];exact j))
 .exact h.iZ H l b (bT c rfl) (aH rfl) J (by simp) (by simp;omega) (λe=>by omega) (by rw[q];exact .ld o) (.a (by rw[kH];simp) (jU hl) (by rw[mP];exact j))
def Sp.dE.waits (H:S.Good)(h:S.dE f gs w t rs ws)(z:gs[S.m0+S.n]? =aA g)(W:g.status= .running):S.Step f gs w sl t (S.m0+S.n)\/(S.ph f S.n=2/\Deaf t (S.m0+S.n)=0/\S.iz g w):=by
 have X:=h.pos;have FQ:=h.size;have L:=(h.DO _ g z).2.2.2 rfl;have j:S.ph f S.n=(f (S.m0+S.n)).1:=rfl;have J:=h.base.live;have hVl:=Za (S:=S) f;have Y:=h.nR;generalize E:f (S.m0+S.n)=sp at L;generalize p:Deaf t (S.m0+S.n)=d at L;rw[E]at j;cases L with
 | @busy tr _ _ Q=>
  left;obtain⟨hl,o⟩:=h.SS z (by rw[j];simp);cases tr with
  |node ch=>
   obtain⟨_,Q⟩:=Q;obtain⟨g',w',es,l,O,Z,rf⟩:=Q w (cA.refl _ _ w) J;have U:=O.keep _ (h.base.oA (aI (aH rfl))) λx=>h.base.off (aI x) (aI (aH rfl));have Tj:=O.keep _ (h.base.oA (aI (aI (aH rfl)))) λx=>h.base.off (aI x) (aI (aI (aH rfl)));have Tk:=O.keep _ (h.base.oA (aI (aI (aI rfl)))) λx=>h.base.off (aI x) (aI (aI (aI rfl)));have J':S.J w':=by obtain⟨a,b,x⟩:=J;exact⟨a,b,U.trans x⟩
   have qs:deafBehind 0 es=0:=deafBehind_still (λe F=>by
    obtain⟨a,wr,s,rfl,_⟩|⟨r,s,rfl,_⟩|x|x|⟨q,x⟩:=Z e F;{simp};{simp};{rw[x];simp};{rw[x];simp}
    .rw[x];simp) 0
   have Qk:S.CSit (S.V f) (rs (S.m0+S.n)) (grown (ws (S.m0+S.n)) w w') (15,ch w) 0 g' w':= .busy rf;refine h.go_own (s:=(15,ch w)) H z (by rw[dQ X];exact l) (by rw[E];exact .right _ ⟨_,_,rfl,rfl⟩) ⟨λb Q hn=>O.keep b Q λx=>hn (aH x),O.size,O.tape,O.os,O.output⟩ J' (λe F=>aH (Z e F)) (aI (aH (aI rfl))) Tj Tk (λk hk e=>by omega) (λk hk e x=>by omega) (λ_=>by rw[E]) (λe=>by omega) ?_ ?_ (λ_ e=>by rw[j]at e;simp at e);{rw[p,qs];refine nE X ?_;rw[aW];exact Qk}
   .refine mZ H h z J' (λ_=> ?_) (hY (by rw[E])) U;obtain x|x|x:=Qk.status H J'
    .rw[x];simp
    .simp at x
    .simp at x
  |leaf=>obtain⟨_,g',l,C,B⟩:=Q w (cA.refl _ _ w) J;refine h.iZ (s:=(12,.nat C)) H z l (by rw[E];exact gW (by omega)) (aH rfl) J ?_ (by rw[j];simp) (λe=>by rw[j]at e;simp at e) (by rw[p];exact .anch B) (.a (by rw[kH];simp) (jU hl) (by rw[mP];exact o));intro e F;simp only[zAs,zAg,zAr,zCd]at F;exact aI (aH F)
 | @AT m v _ _ G u=>left;obtain⟨hl,o⟩:=h.SS z (by rw[j];simp);obtain I|⟨C,g',rfl,l,A⟩:=dB G J;{obtain⟨g',l,C,B⟩:=(I.2 (S.V f) (by omega) o).2 (by omega);exact h.iZ (s:=(12,.nat C)) H z l (by rw[E];exact gW (by omega)) (aH rfl) J (Bw rfl) (by rw[j];simp) (λe=>by rw[j]at e;simp at e) (by rw[p,CO];exact .anch B) (.a (by rw[kH];simp) (jU hl) (by rw[mP];exact o))};{exact h.iZ H z l (by rw[E];exact fI) (aH rfl) J (by simp) (by rw[j]) (λe=>by rw[j]at e;simp at e) (by rw[p];exact .AT A u) (.a (by rw[kH];simp) (jU hl) (by rw[mP];exact o))}
 | @anch m _ _ G=>left;obtain⟨hl,o⟩:=h.SS z (by rw[j];simp);obtain I|⟨C,g',rfl,l,A⟩:=dB G J;{obtain⟨_,C,B⟩:=H.anch _ _ J I;exact h.Vl H z p B (λm'' _=>by rw[E];exact gW (by omega)) (by rw[j];simp)};{exact h.iZ (s:=(12,.nat C)) H z l (by rw[E];exact fI) (aH rfl) J (by simp) (by rw[j]) (λe=>by rw[j]at e;simp at e) (by rw[p];exact .anch A) (.a (by rw[kH];simp) (jU hl) (by rw[mP];exact o))}
 | @ld m _ _ G=>left;exact h.Vl H z p G (λm'' e=>by rw[E,e];exact fI) (by rw[j];simp)
 | @Yu m _ _ G u=>
  left;obtain⟨hl,o⟩:=h.SS z (by rw[j];simp);obtain I|⟨C,g',rfl,l,A⟩:=dB G J
  .obtain⟨g',l,C,B⟩:=(I.2 (S.V f) (by omega) o).1 rfl;have K:=o.setSt (S.V f*KK+1);refine h.iZ (s:=(7,.nat C)) H z l (by rw[E];exact gW (by omega)) (aI ⟨_,_,rfl,rfl⟩) ⟨_,_,K⟩ ?_ (by rw[j];simp) (λe=>by rw[j]at e;simp at e) (by rw[p,UK];exact .wm B) (.b (aH (by rw[kH])) (by rw[mP];omega) (jU hl) (by rw[mP];exact K));intro e F;simp only[zAs,zAg,zAr,zCd]at F;obtain rfl|rfl:=F
   .exact aH ⟨_,_,rfl,rfl⟩
   .exact aH ⟨_,_,rfl,rfl⟩
  .exact h.iZ (s:=(8,.nat C)) H z l (by rw[E];exact fI) (aH rfl) J (by simp) (by rw[j]) (λe=>by rw[j]at e;simp at e) (by rw[p];exact .Yu A u) (.a (by rw[kH];simp) (jU hl) (by rw[mP];exact o))
 | @wm m _ _ G=>
  left;obtain I|⟨C,g',rfl,l,A⟩:=dB G J
  .obtain⟨_,g',l,C,B⟩:=I;have Q:=Sp.Goes.run B J λ_ _ x=>x.1;refine h.iZ (s:=(6,.nat C)) H z l (by rw[E];exact gW (by omega)) (aH rfl) J ?_ (by rw[j];simp) (λe=>by rw[j]at e;simp at e) (by rw[p];exact .Ef B) ?_
   .intro e F;simp only[zAs,zAg,zAr,zCd]at F;exact aI (aI (aI (aI (aH F))))
   .have h6:S.ph (put f (S.m0+S.n) (6,.nat C)) S.n=7\/S.ph (put f (S.m0+S.n) (6,.nat C)) S.n=6:=aI (by rw[kH]);cases h.mode g z with
    |a D hl o=>rw[j]at D;simp at D
    |b D u hl o=>exact .b h6 (by rw[mP];exact u) (jU hl) (by rw[mP];exact o)
    |c D u i hl hi o=>exact .c h6 (by rw[mP];exact u) i (Vp hl) (by rw[cX _ _ (by have:=hl.1;omega)];exact hi) o
    |c' D u i hl hi o=>exact .c' h6 (by rw[mP];exact u) i (Vp hl) (by rw[cX _ _ (by have:=hl.1;omega)];exact hi) o
    |d D u hl o M=>exact .d h6 (by rw[mP];exact u) (jU hl) o (by rw[Q];simp)
    |e D u hl o=>rw[j]at D;simp at D
  .exact h.iZ (s:=(7,.nat C)) H z l (by rw[E];exact fI) (aH rfl) J (by simp) (by rw[j]) (λe=>by rw[j]at e;simp at e) (by rw[p];exact .wm A) (h.Uy z (by rw[j]) (by rw[A.run J λ_ _ x=>x.1];simp))
 | @Ef m _ _ G=>
  left;obtain I|⟨C,g',rfl,l,A⟩:=dB G J
  .obtain⟨N,ho,hblk,R⟩:=I;by_cases M:∃st,WgAt S.ty S.Wg w st 0
   .have l:=hblk M;refine⟨_,_,f,rs,ws,_,runT_crowd_go z (by rw[dQ X];exact l),?_,?_⟩
    .have ny:∀y,Go.Conc.woken S.P g {g with status:= .blocked} w y=y:=λy=>by
      unfold Go.Conc.woken;rw[zAv];simp
     have hgs:(gs.map (Go.Conc.woken S.P g {g with status:= .blocked} w)).setIfInBounds (S.m0+S.n) {g with status:= .blocked}=gs.setIfInBounds (S.m0+S.n) {g with status:= .blocked}:=by
      congr 1;apply zBz;intro a;rw[zCg];cases gs[a]? with
      |none=>rfl
      |some y=>rw[zBi,ny y]
     rw[hgs];have F:t++aEs (S.m0+S.n) g.frame.fn g.frame.place #[]=t:=by{simp[ofEvents_eq]};rw[F];refine⟨X,Y,by simp[FQ],h.base,h.cr,h.cd,λa y T=> ?_,λy T=> ?_,h.js,h.shut,h.tries,h.Fz⟩
     .by_cases e:a=S.m0+S.n
      .subst e;rw[zAo (by omega)]at T;obtain rfl:=zAk T;rw[E,p];exact nE X (.blk G ho N)
      .rw[zAe λx=>e x.symm]at T;exact h.DO a y T
     .cases h.mode g z with
      |a D hl o=>exact .a D hl o
      |b D u hl o=>exact .b D u hl o
      |c D u i hl hi o=>exact .c D u i hl hi o
      |c' D u i hl hi o=>exact .c' D u i hl hi o
      |d D u hl o _=>obtain⟨st,hx⟩:=M;have:=(o.unique hx).2;simp at this
      |e D u hl o=>exact .e D u hl o
    .unfold Sp.mu;refine Mu.bit ?_;unfold bit;rw[zAo (by simp;omega),z];simp[N]
   .cases h.mode g z with
    |a D hl o=>exact absurd ⟨_,o⟩ M
    |b D u hl o=>exact absurd ⟨_,o⟩ M
    |c D u i hl hi o=>exact absurd ⟨_,o⟩ M
    |c' D u i hl hi o=>exact absurd ⟨_,o⟩ M
    |d D u hl o _=>
     obtain⟨g',l,C,B⟩:=R o;have K:=o.setSm 0;refine h.iZ (s:=(5,.nat C)) H z l (by rw[E];exact gW (by omega)) (aI ⟨_,_,rfl,rfl⟩) ⟨_,_,K⟩ ?_ (by rw[j];simp) (λe=>by rw[j]at e;simp at e) ?_ (.e (by rw[kH];simp) (by rw[mP];exact u) (jU hl) K)
     .intro e hx;simp only[semEvents,zAs,zAg,zAr,zCd]at hx;obtain rfl|rfl|rfl|rfl:=hx
      .exact aI (aH rfl)
      .exact aH ⟨_,_,rfl,rfl⟩
      .exact aH ⟨_,_,rfl,rfl⟩
      .exact aI (aI (aH rfl))
     .have:deafBehind 1 (semEvents (smA S.Wg))=1:=by{simp[deafBehind,semEvents]};rw[p,this];exact .zero B
    |e D u hl o=>exact absurd ⟨_,o⟩ M
  .exact h.iZ (s:=(6,.nat C)) H z l (by rw[E];exact fI) (aH rfl) J (by simp) (by rw[j]) (λe=>by rw[j]at e;simp at e) (by rw[p];exact .Ef A) (h.Uy z (by rw[j]) (by rw[A.run J λ_ _ x=>x.1];simp))
 |blk G ho vr=>simp at W
 | @zero m _ _ G=>left;obtain⟨u,hl,o⟩:=h.BF z (by rw[j];simp);obtain I|⟨C,g',rfl,l,A⟩:=dB G J;{obtain⟨g',l,C,B⟩:=I.2 o;exact h.iZ (s:=(4,.nat C)) H z l (by rw[E];exact gW (by omega)) (aH rfl) J (Bw rfl) (by rw[j];simp) (λe=>by rw[j]at e;simp at e) (by rw[p,CO];exact .en B) (.e (by rw[kH];simp) (by rw[mP];exact u) (jU hl) o)};{exact h.iZ (s:=(5,.nat C)) H z l (by rw[E];exact fI) (aH rfl) J (by simp) (by rw[j]) (λe=>by rw[j]at e;simp at e) (by rw[p];exact .zero A) (.e (by rw[kH];simp) (by rw[mP];exact u) (jU hl) o)}
 | @en m _ _ G=>
  left;obtain⟨u,hl,o⟩:=h.BF z (by rw[j];simp);obtain I|⟨C,g',rfl,l,A⟩:=dB G J
  .obtain⟨_,g',l,C,B⟩:=I;refine h.iZ (s:=(3,.nat C)) H z l (by rw[E];exact gW (by omega)) (aH rfl) J ?_ (by rw[j];simp) (λe=>by rw[j]at e;simp at e) ?_ (.e (by rw[kH];simp) (by rw[mP];exact u) (jU hl) o)
   .intro e F;simp only[zAs,zAg,zAr,zCd]at F;exact aI (aI (aH F))
   .have:deafBehind 1 #[Go.ConcR.mk .enable]=0:=by{simp[deafBehind,Go.ConcR.mk]};rw[p,this];exact .acq B
  .exact h.iZ (s:=(4,.nat C)) H z l (by rw[E];exact fI) (aH rfl) J (by simp) (by rw[j]) (λe=>by rw[j]at e;simp at e) (by rw[p];exact .en A) (.e (by rw[kH];simp) (by rw[mP];exact u) (jU hl) o)
 | @acq m _ _ G=>
  left;obtain⟨u,hl,o⟩:=h.BF z (by rw[j];simp);obtain I|⟨C,g',rfl,l,A⟩:=dB G J
  .obtain⟨_,g',l,C,B⟩:=I;refine h.iZ (s:=(2,.nat C)) H z l (by rw[E];exact gW (by omega)) (aH rfl) J ?_ (by rw[j];simp) (λe=>by rw[j]at e;simp at e) ?_ (.e (by rw[kH];simp) (by rw[mP];exact u) (jU hl) o)
   .intro e F;simp only[zAs,zAg,zAr,zCd]at F;exact aI (aI (aI (aH F)))
   .have:deafBehind 0 #[Go.ConcR.mk (.acquire (stA S.Wg))]=0:=by{simp[deafBehind,Go.ConcR.mk]};rw[p,this];exact .cl B
  .exact h.iZ (s:=(3,.nat C)) H z l (by rw[E];exact fI) (aH rfl) J (by simp) (by rw[j]) (λe=>by rw[j]at e;simp at e) (by rw[p];exact .acq A) (.e (by rw[kH];simp) (by rw[mP];exact u) (jU hl) o)
 | @cl m _ _ G=>obtain⟨u,hl,o⟩:=h.BF z (by rw[j];simp);obtain I|⟨C,g',rfl,l,A⟩:=dB G J;{exact aI ⟨j,rfl,I⟩};{exact aH (h.iZ (s:=(2,.nat C)) H z l (by rw[E];exact fI) (aH rfl) J (by simp) (by rw[j]) (λe=>by rw[j]at e;simp at e) (by rw[p];exact .cl A) (.e (by rw[kH];simp) (by rw[mP];exact u) (jU hl) o))}
 | @quit q _ _ _ hq=>
  left;obtain⟨u,hl,o⟩:=h.BF z (by rw[j];simp);cases q with
  |zero=>rw[hq.1]at W;cases W
  |succ q=>obtain⟨hf',_⟩|⟨_,g',es,hm,l,vx⟩:=hq;{rw[hf']at W;cases W};{exact h.iZ (s:=(0,.nat q)) H z (l w) (by rw[E];exact fI) (aH rfl) J (λe F=>aI (aI (aI (aI (aI (hm e F)))))) (by rw[j]) (λ_=>hm) (by rw[p];exact .quit vx) (.e (by rw[kH];simp) (by rw[mP];exact u) (jU hl) o)}
end
end Go.Ga
namespace Go.Ga
open Go.Conc Go.Ren Go.Tr Go.Wg
open Go.ConcR (KK WgAt stA smA DC0)
open Go.ConcN (WgLive sumTo sumTo_congr sumTo_upd upd upd_same upd_ne le_sumTo)
variable {S:Sp}
section
variable {f:Nat->Span}{gs:zG}{w:zW}{t:Trace}{rs ws:Nat->zP}{g:zH}{sl:Option (Nat×Nat)}
def Gz (ws:zP)(w:zW)(cap:Nat)(buf:zA)(cl:Bool)(s r:Nat)(tm:Bool):Go.Ren.Does (Sp.ID (S:=S) ws) w (w.setChan S.Cd cap buf cl s r tm):=
 ⟨λb _ h=>mI w _ _ _ _ _ _ _ λe=>h (aI (aI (aI e))),by rw[mH];exact zAb _,rfl,rfl,rfl⟩
def Sp.dE.closes (H:S.Good)(h:S.dE f gs w t rs ws)(hj:gs[S.m0+S.n]? =aA g)(jz:S.ph f S.n=2)(R:Deaf t (S.m0+S.n)=0)(hD:S.iz g w):S.Step f gs w sl t (S.m0+S.n):=by
 have hp:=h.pos;have FQ:=h.size;obtain⟨hv,hl,hw⟩:=h.BF hj (by omega);obtain⟨k0,zy,Tj⟩:=h.cr;obtain⟨s0,r0,tm1,Tk⟩:=h.cd;have T:w.heap[S.Cd]? =aA (.chan 0 #[] aG s0 r0 tm1):=by rw[Tk];simp[jz]
 obtain⟨_,C,hD⟩:=hD;obtain⟨g',M,q,hq⟩:=hD _ _ _ _ T;have F:=h.base.oA (aI (aI (aI rfl)));generalize o:w.setChan S.Cd 0 #[] aF s0 r0 tm1=v at M;have heap:∀b,b≠S.Cd->v.heap[b]? =w.heap[b]? :=λb hb=>by rw[<-o];exact mI w _ _ _ _ _ _ _ hb
 have hd:Go.Ren.Does (Sp.ID (S:=S) (ws (S.m0+S.n))) w v:=by rw[<-o];exact Gz _ w _ _ _ _ _ _
 have D:v.heap.size=w.heap.size:=by rw[<-o];exact mH w _ _ _ _ _ _ _
 have L:=heap _ H.chans.2.2;have A:=(heap _ H.chans.1).trans Tj;have B:v.heap[S.Cd]? =aA (.chan 0 #[] aF s0 r0 tm1):=by rw[<-o];exact setChan_at F
 have J':S.J v:=by obtain⟨a,b,x⟩:=h.base.live;exact⟨a,b,L.trans x⟩
 have hgr:put ws (S.m0+S.n) (grown (ws (S.m0+S.n)) w v)=ws:=by funext k;by_cases e:k=S.m0+S.n;{subst e;rw[aW];funext b;apply propext;unfold grown;rw[D];exact⟨λx=>x.elim id λy=>by omega,aH⟩};{rw[bH _ _ e]}
 let s:Span:=if(f 0).1=3*S.U f+1 then(3*S.U f,.leaf)else f 0
 let l:=put (put f (S.m0+S.n) (0,.nat q)) 0 s
 have f0:l 0=s:=aW _ _ _;have fk:∀k,k≠0->k≠S.m0+S.n->l k=f k:=λk h0 d=>by show put (put f _ _) 0 _ k=_;rw[bH _ _ h0,bH _ _ d]
 have fc:l (S.m0+S.n)=(0,.nat q):=by show put (put f _ _) 0 _ _=_;rw[bH _ _ (by omega),aW]
 have I:∀k,k<S.n->S.ph l k=S.ph f k:=λk d=>by unfold Sp.ph;rw[fk _ (by omega) (by omega)]
 have pn:S.ph l S.n=0:=by unfold Sp.ph;rw[fc]
 have hU:S.U l=S.U f:=zHa λk d=>by rw[I k d]
 have hV:S.V l=S.V f:=zHa λk d=>by rw[I k d]
 have ga:S.Rc l=S.Rc f:=by funext k;apply propext;unfold Sp.Rc;exact⟨λx=>⟨x.1,by rw[<-I k x.1];exact x.2⟩,λx=>⟨x.1,by rw[I k x.1];exact x.2⟩⟩
 have G:S.Live l=S.Live f:=xD λk d=>by rw[I k d]
 have W:(l 0).1≠3*S.U f+1/\((l 0).1=3*S.U f->(f 0).1=3*S.U f+1\/(f 0).1=3*S.U f):=by rw[f0];show(if(f 0).1=3*S.U f+1 then((3*S.U f,.leaf):Span)else f 0).1≠_/\_;by_cases e:(f 0).1=3*S.U f+1;{rw[zAz e];exact⟨by simp,λ_=>aH e⟩};{rw[zAv e];exact⟨e,λx=>aI (by simpa [s,e]using x)⟩}
 have Q:Span.Lt s (f 0)\/s=f 0:=by show Span.Lt (if(f 0).1=3*S.U f+1 then((3*S.U f,.leaf):Span)else f 0) (f 0)\/_;by_cases e:(f 0).1=3*S.U f+1;{rw[zAz e];have e0:f 0=(3*S.U f+1,(f 0).2):=by{rw[<-e]};left;rw[e0];exact gW (by omega)};{right;simp[s,e]}
 have O:∀op∈aEs (S.m0+S.n) g.frame.fn g.frame.place (closeEvents S.Cd),op.g=S.m0+S.n:=λop p=>by obtain⟨e,_,rfl⟩:=Go.Conc.mem_ofEvents p;rfl
 have u:deafBehind 0 (closeEvents S.Cd)=0:=by simp[deafBehind,closeEvents]
 refine⟨_,v,l,rs,ws,_,runT_crowd_go hj (by rw[dQ hp];exact M),⟨hp,h.nR,by simp[FQ],?_,⟨k0,zy,A⟩,⟨s0,r0,tm1,by rw[B,pn];simp⟩,λa y hy=> ?_,λy hy=> ?_,λe=> ?_,λ_=>by rw[hU];exact W.1,λ_=>pn,λ_=> ?_⟩,?_⟩
 .rw[G];have:=h.base.own (fn:=g.frame.fn) (pos:=g.frame.place) (j:=S.m0+S.n) (es:=closeEvents S.Cd) (by omega) hd J' (λe he=> ?_) (aI (aH (aI rfl)))
  .rw[hgr]at this;exact this
  .simp only[closeEvents,zAs,zAg,zAr,zCd]at he;obtain rfl|rfl:=he
   .exact aI (aI (aI (aI (aI (aI (aH ⟨_,rfl⟩))))))
   .exact aI (aI (aI (aI (aI (aI (aH ⟨_,rfl⟩))))))
 .rw[ga,hU,hV];obtain⟨rfl,rfl⟩|⟨E,z,hz,rfl⟩:=iC _ _ _ _ _ _ hy
  .rw[Deaf_own,R,u,fc];exact nE hp (.quit hq)
  .rw[Deaf_other t (λe=>E e.symm) _ O];have hs:=h.DO a z hz;have lM:=h.base.lM hd E;by_cases ea:a=0
   .subst ea;have hm:=(hs.1 rfl);refine⟨λ_=>⟨hm.1,?_⟩,λe=>by omega,λ_ _ e=>by omega,λe=>by omega⟩;rw[f0];have r:=hm.2.rely lM;by_cases e:(f 0).1=3*S.U f+1
    .have X:s=(3*S.U f,.leaf):=by{simp[s,e]};rw[X];generalize f 0=ff at r e;cases r with
     |busy x=>simp at e
     | @parked gm sh zr Y _ x=>
      have:Go.Conc.woken S.P g g' v (parked gm (S.cases zr Y) sh)={parked gm (S.cases zr Y) sh with status:= .running}:=by
       have ny:(mayWake S.P g&&g'.status != .blocked&&g'.status != .waiting)=aF:=by rw[C];obtain e|e:=hq.status<;>rw[e]<;>rfl
       unfold Go.Conc.woken;rw[zAz ny];exact again_some_closed (k:=1) (c:=S.Cd) (z:=Y) rfl B
      rw[this];exact .tries x
     |tries x=>simp at e
    .have X:s=f 0:=by{simp[s,e]};rw[X];obtain x|x:=r.status H J';{rw[woken_running x.1];exact r};{exact absurd x.1 e}
   .rw[fk a ea E];exact hs.other (c':=0) (s':=0) (r':=0) (tm':=aF) H lM J' A λe=>absurd e ea
 .exact .e (by omega) (by omega) (λk d x=>hl k d (by unfold Sp.jZ at x⊢;rwa [I k d]at x)) (L.trans hw)
 .rw[hU]at e;exact absurd e W.1
 .have e1:aEs (S.m0+S.n) g.frame.fn g.frame.place (closeEvents S.Cd)= #[{g:=S.m0+S.n,fn:=g.frame.fn,pos:=g.frame.place,act:= .access ⟨.obj S.Cd,aG,aF⟩}]++ #[{g:=S.m0+S.n,fn:=g.frame.fn,pos:=g.frame.place,act:= .close S.Cd}]:=by
   rw[ofEvents_eq];simp[closeEvents,MemAct.ofEvent]
  rw[e1,<-zEk];generalize hx1:({g:=S.m0+S.n,fn:=g.frame.fn,pos:=g.frame.place,act:= .access ⟨.obj S.Cd,aG,aF⟩}:MemOp)=K;generalize m:({g:=S.m0+S.n,fn:=g.frame.fn,pos:=g.frame.place,act:= .close S.Cd}:MemOp)=Z;have p1:(t++ #[K])[t.size]? =aA K:=by simp
  have p2:(t++ #[K]++ #[Z])[t.size+1]? =aA Z:=by rw[zCc (by simp)];simp
  refine⟨t.size+1,by rw[act?_of p2,<-m],⟨S.m0+S.n,by rw[Trace.g?,p2,<-m];rfl,?_⟩,λi op a hi hg ha=> ?_⟩;{rw[deaf_old (by simp),deaf_succ p1,deaf_old (zAb _)];simp only[deafStep,<-hx1];exact R}
  .have qb:∀i z,(t++ #[K])[i]? =aA z->z.g=S.m0+S.n->HappensBefore (t++ #[K]++ #[Z]) i (t.size+1):=λi z hz hg=>by
    have d:=knows_own hz;rw[hg]at d;exact d.hb_new (by simp) p2 (by rw[<-m])
   obtain⟨qf,ah⟩|⟨mz,xd,hx,p,N⟩:=dM ha;{rw[getElem?_append_old qf]at hi;exact aI (qb i op hi hg)};{simp only[zAs,zAg,zAr,zCd]at p;subst p;rw[<-m]at N;simp[MemAct.touch?]at N}
 .unfold Sp.mu;rw[hV];have ft:Span.Lt (0,.nat q) (f (S.m0+S.n)):=by
   have e0:f (S.m0+S.n)=((f (S.m0+S.n)).1,(f (S.m0+S.n)).2):=rfl;rw[e0];exact gW (by have:S.ph f S.n=(f (S.m0+S.n)).1:=rfl;omega)
  have v1:PO (vec (S.m0+S.n+1) (put f (S.m0+S.n) (0,.nat q))) (vec (S.m0+S.n+1) f):=lF (by omega) ft;obtain x|x:=Q;{exact Mu.two (lF (by omega) (by rw[bH _ _ (by omega)];exact x)) v1}
  .have:l=put f (S.m0+S.n) (0,.nat q):=by
    funext k;by_cases e:k=0;{subst e;rw[f0,x,bH _ _ (by omega)]};{show put (put f _ _) 0 _ k=_;rw[bH _ _ e]}
   rw[this];exact Mu.one v1
end
end Go.Ga
namespace Go.Ga
open Go.Conc Go.Ren Go.Tr Go.Wg
open Go.ConcR (KK WgAt stA smA DC0)
open Go.ConcN (WgLive sumTo sumTo_congr sumTo_upd upd upd_same upd_ne le_sumTo)
variable {S:Sp}
structure Sp.Ph (S:Sp)(gs:zG)(w:zW)(t:Trace):Prop where
 main:∃g rs ws,gs[0]? =aA g/\S.Fin rs ws g w
 size:gs.size=S.m0+S.n+1
 Ta:∃q,Leavers S.P t gs q
 past:Past (λl=>∃b,blk l=aA b/\S.at' b) w.heap.size t
 Wy:∀b,S.at' b->∀i a,touchAt t i=aA a->blk a.loc=aA b->a.kind≠.plain
 cr:∃c tm,w.heap[S.Cr]? =aA (.chan 0 #[] aG c c tm)
def YF {P t gs}(h:∀k g,0<k->gs[k]? =aA g->∃q,QuitsD P q (Deaf t k) g)(i:∀j,gs.size<=j->Deaf t j=0):∃q,Leavers P t gs q:=by
 have c:∀k,∃q,0<k->∀g,gs[k]? =aA g->QuitsD P q (Deaf t k) g:=λk=>by
  by_cases a:0<k
  .cases b:gs[k]? with
   |none=>exact⟨0,λ_ g e=>by cases e⟩
   |some g=>obtain⟨q,d⟩:=h k g a b;exact⟨q,λ_ l e=>by cases e;exact d⟩
  .exact⟨0,λe=>absurd e a⟩
 exact⟨λk=>Classical.choose (c k),⟨λk g a b=>zAw (c k) a g b,i⟩⟩
section
variable {f:Nat->Span}{gs:zG}{w:zW}{t:Trace}{rs ws:Nat->zP}{g:zH}{sl:Option (Nat×Nat)}
def Sp.Ends (S:Sp)(gs:zG)(w:zW)(sl:Option (Nat×Nat))(t:Trace):Prop:=
 ∃a b ops,runT S.P (crowd gs w sl) 0=(.next (crowd a b sl),ops)/\S.Ph a b (t++ops)
def Sp.WSit.over {v rs ws f d g w}(h:S.WSit v rs ws f d g w)(a:f.1<5)(hl:¬(1<=f.1/\f.1<=3)):∃q,QuitsD S.P q d g:=by
 cases h with
 |quit h=>exact⟨_,h⟩
 |one h=>exact absurd ⟨by simp,by simp⟩ hl
 |null h=>exact absurd ⟨by simp,by simp⟩ hl
 |rel h=>exact absurd ⟨by simp,by simp⟩ hl
 |_=>simp at a
def Sp.CSit.over {V rs ws f d g w}(h:S.CSit V rs ws f d g w)(a:f.1=0):∃q,QuitsD S.P q d g:=by
 cases h with
 |quit h=>exact⟨_,h⟩
 |_=>simp at a
def OU {f}(h:S.V f=0){i}(hi:i<S.n):S.ph f i<5:=zFr λa=>by have:=MI (S:=S) hi a;omega
def Sp.dE.Xh (H:S.Good)(h:S.dE f gs w t rs ws){c sh z q}(m:S.Pb (S.Rc f) (rs 0) (ws 0) c sh z q w)(A:Deaf t 0=0)(o:∀i,i<S.n->S.ph f i≠8)(r:S.ph f S.n≠0):
  S.dE (put f 0 (3*S.U f+1,.leaf)) (gs.setIfInBounds 0 (parked c (S.cases z q) sh)) w t rs ws:=by
 have u:=h.pos;obtain⟨p,s,B⟩:=gL (S:=S) (j:=0) λk v e=>by omega
 have b:∀i,S.ph (put f 0 (3*S.U f+1,.leaf)) i=S.ph f i:=λi=>by unfold Sp.ph;rw[bH _ _ (by omega)]
 have l:S.Live (put f 0 (3*S.U f+1,.leaf))=S.Live f:=xD λk v=>by rw[b]
 refine⟨u,h.nR,by simp[h.size],by rw[l];exact h.base,h.cr,by rw[b];exact h.cd,λa y d=> ?_,λy d=> ?_,λ_ i hi=>by rw[b];exact o i hi,λe=> ?_,λe=> ?_,λe=> ?_⟩
 .rw[p,s,B];by_cases e:a=0
  .subst e;have bT:0<gs.size:=by{have:=h.size;omega};rw[zAo bT]at d;obtain rfl:=zAk d;rw[aW];exact⟨λ_=>⟨A,.parked m⟩,λe=>by omega,λ_ _ e=>by omega,λe=>by omega⟩
  .rw[zAe (λx=>e x.symm)]at d;rw[bH _ _ e];exact h.DO a y d
 .rw[zAe (by omega)]at d;exact(h.mode y d).same (λi _=>b i) rfl id
 .rw[b]at e;exact absurd e r
 .rw[s,aW]at e;simp at e
 .rw[b]at e;exact absurd e r
def Sp.dE.Ax (H:S.Good)(h:S.dE f gs w t rs ws)(hg:gs[0]? =aA g){l sh zr zd}(Ir:stepG S.P aF g w= .comm l (S.cases zr zd) aF sh w #[])(E:S.Pb (S.Rc f) (rs 0) (ws 0) l sh zr zd w)(hd:Deaf t 0=0)
  (hf:(f 0).1=3*S.U f+2\/S.ph f S.n=0):S.Step f gs w sl t 0\/S.Ends gs w sl t:=by
 have hp:=h.pos;have FQ:=h.size;have J:=h.base.live;have D:=Ir;obtain⟨k,tm,N⟩:=h.cr;obtain⟨s0,r0,tm1,Y⟩:=h.cd;obtain⟨y,hy⟩:=h.closer;have T:partners (gs.setIfInBounds 0 Go.Conc.ph) S.Cd aF=[]:=partners_nil λa x A=>by
  obtain⟨_,rfl⟩|⟨_,A⟩:=getElem?_stand _ _ _ _ A;{exact offersAt_ph _ _}
  .obtain e|⟨_,_,_,_,_,_,_,_,_,_,_,_,e⟩:=oL H h A S.Cd
   .exact e
   .rw[e,zAv H.chans.1]
 by_cases vz:∃i,i<S.n/\S.ph f i=8
 .left;obtain⟨i0,Mo,h80⟩:=vz;have u:S.ph f S.n≠0:=λe=>by
   have:=(h.BF hy (by omega)).1;have:=OU this Mo;omega
  have X:=hf.resolve_right u;have G:w.heap[S.Cd]? =aA (.chan 0 #[] aG s0 r0 tm1):=by rw[Y];simp[u]
  have W:partners (gs.setIfInBounds 0 Go.Conc.ph) S.Cr aF≠[]:=by
   have bT:S.m0+i0<gs.size:=by omega
   have A:=zAj bT;have hw:=(h.DO _ _ A).2.2.1 i0 Mo rfl;have e8:(f (S.m0+i0)).1=8:=h80;have hm:(S.m0+i0,0)∈partners (gs.setIfInBounds 0 Go.Conc.ph) S.Cr aF:=by
    refine mem_partners.2 ⟨_,stand_get (by omega) A,?_⟩;generalize gs[S.m0+i0]=gx at hw;generalize f (S.m0+i0)=fx at hw e8;generalize Deaf t (S.m0+i0)=dx at hw;cases hw with
    |parked _ hh=>rw[offersAt_parked_send,zAz rfl];simp
    |_=>simp at e8
   intro e;rw[e]at hm;cases hm
  have ho:∀(a:Nat)(c':CommCase),a≠0->(S.cases zr zd)[a]? =aA c'->NoWays w (gs.setIfInBounds 0 Go.Conc.ph) c':=λa c' I Z=>by
   have:a=1:=by have:=(zAa.1 Z).1;simp[Sp.cases]at this;omega
   subst this;simp only[Sp.cases,zEh,List.getElem?_cons_succ,zCu,aEx]at Z;subst Z;exact ways_recv_none G T
  have Tl:∀a b,(a,b)∈partners (gs.setIfInBounds 0 Go.Conc.ph) S.Cr aF->b=0/\a≠0/\∃K O zj L,gs[a]? =aA (parked K #[scase S.Cr O zj] L):=λa b ag=>by
   obtain⟨x,A,C⟩:=mem_partners.1 ag;obtain⟨_,rfl⟩|⟨W,A⟩:=getElem?_stand _ _ _ _ A;{rw[offersAt_ph]at C;cases C}
   .obtain e|⟨_,_,_,_,_,_,_,_,_,rfl,_,_,e⟩:=oL H h A S.Cr
    .rw[e]at C;cases C
    .rw[e,zAz rfl]at C;exact⟨by simpa using C,W,_,_,_,_,A⟩
  obtain⟨j,K,O,zj,L,d,Vd,hgj,r⟩:=oC hg D rfl ho N W Tl;have pd:offersAt (parked K #[scase S.Cr O zj] L) S.Cr aF=[0]:=by{rw[offersAt_parked_send,zAz rfl]};obtain e|⟨i,hi,rfl,h8,v,gw,z,m,hv,R,hgo,hdj,_⟩:=oL H h hgj S.Cr;{rw[pd]at e;cases e}
  .have hfr:K.frame=gw.frame:=by{have h0:=congrArg Goroutine.frame R;exact h0};have F:aA (#[scase S.Cr O zj],L)=aA (#[scase S.Cr v z],CommShape.send):=by have h0:=congrArg Goroutine.offers R;exact h0
   simp only[aEx,Prod.mk.injEq,scase,Array.mk.injEq,List.cons.injEq,CommCase.mk.injEq,true_and,and_true]at F;obtain⟨⟨rfl,rfl⟩,rfl⟩:=F;have Yb:K.finishComm S.P #[scase S.Cr O zj] .send 0 aEn aG=Go.Conc.served gw aEn:=by rw[<-finishComm_parked S.P K _ #[scase S.Cr O zj] .send .send,R,finishComm_parked,finishComm_send]
   rw[Yb]at r;obtain⟨tr,hinv⟩:=h.meet H hi (by omega) hdj hd E hgo N hv (gs':=(gs.setIfInBounds (S.m0+i) (Go.Conc.served gw aEn)).setIfInBounds 0 (l.finishComm S.P (S.cases zr zd) sh 0 O aF))
    (x1:={g:=S.m0+i,fn:=K.frame.fn,pos:=K.frame.place,act:= .send S.Cr k}) (x2:={g:=0,fn:=l.frame.fn,pos:=l.frame.place,act:= .recv S.Cr k 0}) (x3:={g:=S.m0+i,fn:=K.frame.fn,pos:=K.frame.place,act:= .sendDone S.Cr k}) (x4:={g:=0,fn:=l.frame.fn,pos:=l.frame.place,act:= .recvDone S.Cr k})
    ⟨rfl,rfl⟩ ⟨rfl,rfl⟩ ⟨rfl,rfl⟩ ⟨rfl,rfl⟩ (by simp) (by rw[zAo (by simp;omega)]) (by rw[zAe (by omega),zAo (by omega)]) λa h0 I=>by rw[zAe λe=>h0 e.symm,zAe λe=>I e.symm]
   refine⟨_,_,put (put f 0 (3*(S.U f-1)+2,tr)) (S.m0+i) (7,.nat m),put rs (S.m0+i) λ_=>False,put (put ws 0 λb=>ws 0 b\/ws (S.m0+i) b) (S.m0+i) λ_=>False,_,r,?_,?_⟩;{simpa [ofEvents_eq]using hinv}
   .have hU:0<S.U f:=by
     have:=le_sumTo (f:=λi=>if 8<=S.ph f i then 1 else 0) hi;simp only[show 8<=S.ph f i by omega,zCs]at this;exact this
    have hV:S.V (put (put f 0 (3*(S.U f-1)+2,tr)) (S.m0+i) (7,.nat m))=S.V f:=zHa λa I=>by by_cases e:a=i;{subst e;rw[eW,zAz (by simp),zAz (by omega)]};{rw[cX _ _ e];unfold Sp.ph;rw[bH _ _ (by omega)]}
    unfold Sp.mu;rw[hV];have e0:f 0=(3*S.U f+2,(f 0).2):=by{rw[<-X]};have ei:f (S.m0+i)=(8,(f (S.m0+i)).2):=by{rw[<-h8];rfl};obtain⟨v1,v2⟩:=LB (S:=S) (f:=f) (c:=(0,.leaf)) (a:=(3*(S.U f-1)+2,tr)) (b:=(7,.nat m)) hp hi (by rw[e0];exact gW (by omega)) (by rw[ei];exact gW (by omega));exact Mu.two v1 v2
 .have we:∀i,i<S.n->S.ph f i≠8:=λi hi e=>vz ⟨i,hi,e⟩;have vy:partners (gs.setIfInBounds 0 Go.Conc.ph) S.Cr aF=[]:=partners_nil λa x A=>by
   obtain⟨_,rfl⟩|⟨_,A⟩:=getElem?_stand _ _ _ _ A;{exact offersAt_ph _ _}
   .obtain e|⟨i,hi,_,e8,_⟩:=oL H h A S.Cr
    .exact e
    .exact absurd e8 (we i hi)
  by_cases u:S.ph f S.n=0
  .right;have qu:w.heap[S.Cd]? =aA (.chan 0 #[] aF s0 r0 tm1):=by{rw[Y];simp[u]};obtain⟨hv,hl,hw⟩:=h.BF hy (by omega);have r:=crowd_sel_recv_closed (P:=S.P) (sl:=sl) hg D (k:=1) (z:=zd) (c:=S.Cd) rfl (λa c' I Z=> ?_) qu T
   .refine⟨_,_,_,r,?_⟩;have hR:∀i,i<S.n->S.Rc f i:=λi hi=>⟨hi,by have:=OU (S:=S) hv hi;omega⟩;have e1:aEs 0 g.frame.fn g.frame.place #[]++ #[({g:=0,fn:=l.frame.fn,pos:=l.frame.place,act:= .recvClosed S.Cd}:MemOp)]= #[{g:=0,fn:=l.frame.fn,pos:=l.frame.place,act:= .recvClosed S.Cd}]:=by{simp[ofEvents_eq]};rw[e1];generalize A:({g:=0,fn:=l.frame.fn,pos:=l.frame.place,act:= .recvClosed S.Cd}:MemOp)=x;have M:x.g=0/\x.act= .recvClosed S.Cd:=by rw[<-A];exact⟨rfl,rfl⟩
    have B:∀a,Deaf (t++ #[x]) a=Deaf t a:=λa=>Go.ConcN.Deaf_still t a _ λop o=>by simp only[zAs,zAg,zAr,zCd]at o;subst o;rw[M.2];simp
    have ee:TI (t++ #[x]) ⟨λ_ _=>False,λ_ _=>False,λ_ _=>False,S.at'⟩ λ_=>False:=by
     refine h.base.ti.Mb (λop o=> ?_) (λ_ _ e=>e.elim) (λ_ _ e=>e.elim) (λ_ _ e=>e.elim) (λb C=>aH C) (λb C=>C) (λa I=>aI ?_);{simp only[zAs,zAg,zAr,zCd]at o;subst o;rw[M.2];rfl}
     .obtain⟨i,hi,e,e8⟩|e:=I
      .have:=OU (S:=S) hv hi;omega
      .obtain⟨ic,c1,c2,c3⟩:=h.Fz u;intro p op uo o hga ht;exact OK M c1 c2 hd (c3 p op uo o (hga.trans e) ht)
    refine⟨⟨_,_,_,by rw[zAo (by omega)];rfl,E.done hR w (cA.refl _ _ w) J⟩,by simp[FQ],YF (λa y' I Q=> ?_) (λa I=> ?_),?_,λb C=>ee.Yx C,h.cr⟩
    .rw[B];rw[zAe (by omega)]at Q;have hs:=h.DO a y' Q;have bT:a<gs.size:=(zAa.1 Q).1;by_cases e1:a<S.m0
     .obtain⟨q,_,hq⟩:=hs.2.1 I e1;exact⟨q,hq⟩
     .by_cases e2:a=S.m0+S.n
      .exact(hs.2.2.2 e2).over (by rw[e2];exact u)
      .have ea:a=S.m0+(a-S.m0):=by{omega};have wb:S.ph f (a-S.m0)=(f a).1:=by{unfold Sp.ph;rw[<-ea]};exact(hs.2.2.1 (a-S.m0) (by omega) ea).over (by rw[<-wb];exact OU hv (by omega)) (by rw[<-wb];exact hl _ (by omega))
    .rw[B];exact h.base.above a (by simp at I;omega)
    .refine ee.past (by rw[B];exact hd) (seen_app h.base.low λop o=> ?_);simp only[zAs,zAg,zAr,zCd]at o;subst o;rw[M.2];exact h.base.oA (aI (aI (aI rfl)))
   .have:a=0:=by
     have:=(zAa.1 Z).1;simp[Sp.cases]at this;omega
    subst this;simp only[Sp.cases,zEh,zCu,aEx]at Z;subst Z;exact ways_recv_none N vy
  .left;have X:(f 0).1=3*S.U f+2:=hf.resolve_right u;have G:w.heap[S.Cd]? =aA (.chan 0 #[] aG s0 r0 tm1):=by rw[Y];simp[u]
   have r:=crowd_waits (P:=S.P) (sl:=sl) hg D λcc fu=>by simp only[Sp.cases,zAs,zAg,zAr,zCd]at fu;obtain rfl|rfl:=fu;{exact ways_recv_none N vy};{exact ways_recv_none G T}
   refine⟨_,_,put f 0 (3*S.U f+1,.leaf),rs,ws,_,r,?_,?_⟩;{simpa [ofEvents_eq]using h.Xh H E hd we u};{unfold Sp.mu;rw[(gL (S:=S) (f:=f) (j:=0) (s:=(3*S.U f+1,.leaf)) λk hk e=>by omega).2.2];have e0:f 0=(3*S.U f+2,(f 0).2):=by{rw[<-X]};exact Mu.one (lF (by omega) (by rw[e0];exact gW (by omega)))}
def Sp.dE.To (H:S.Good)(h:S.dE f gs w t rs ws)(n:gs[0]? =aA g)(L:g.status= .running):S.Step f gs w sl t 0\/S.Ends gs w sl t:=by
 have Q:=h.pos;have J:=h.base.live;obtain⟨A,G⟩:=(h.DO 0 g n).1 rfl;generalize p:f 0=f0 at G;cases G with
 | @busy tr _ _ j=>
  cases tr with
  |leaf=>obtain⟨_,i,u,E,F,d,m⟩:=H.bk _ _ _ _ _ J (j w (cA.refl _ _ w) J);exact h.Ax H n d m A (aH (by rw[p]))
  |node ch=>
   left;obtain⟨_,j⟩:=j;obtain⟨R,K,O,d,c,o,D⟩:=j w (cA.refl _ _ w) J;have l:=c.keep _ (h.base.oA (aI (aH rfl))) λx=>h.base.off (aI x) (aI (aH rfl));have B:=c.keep _ (h.base.oA (aI (aI (aH rfl)))) λx=>h.base.off (aI x) (aI (aI (aH rfl)));have C:=c.keep _ (h.base.oA (aI (aI (aI rfl)))) λx=>h.base.off (aI x) (aI (aI (aI rfl)));have I:S.J K:=by obtain⟨a,b,x⟩:=J;exact⟨a,b,l.trans x⟩
   have z:deafBehind 0 O=0:=deafBehind_still (λe y=>by
    obtain⟨a,wr,s,rfl,_⟩|⟨r,s,rfl,_⟩|x|x|⟨q,x⟩:=o e y;{simp};{simp};{rw[x];simp};{rw[x];simp}
    .rw[x];simp) 0
   refine h.go_own (s:=(3*S.U f+2,ch w)) H n d (by rw[p];exact .right _ ⟨_,_,rfl,rfl⟩) ⟨λb j M=>c.keep b j λx=>M (aH x),c.size,c.tape,c.os,c.output⟩ I (λe y=>aH (o e y)) (aH rfl) B C (λk N e=>by omega) (λk N e x=>by omega) (λe=>by omega) (λ_=>rfl) ?_ (mZ H h n I (λe=>by omega) (hY (by rw[p])) l) (λe=>by omega);refine⟨λ_=>⟨by rw[A,z],?_⟩,λe=>by omega,λ_ _ e=>by omega,λe=>by omega⟩;rw[aW];exact .busy D
 |parked v=>simp[Go.Conc.parked]at L
 | @tries i u E F _ v=>have d:=v.again w (cA.refl _ _ w) J;have e:=stepG_tries (P:=S.P) (g:=i) (sh:=u) aF (S.cases E F) w;exact h.Ax H n (e.trans d) v A (aI (h.tries (by rw[p])))
def Sp.dE.elder (H:S.Good)(h:S.dE f gs w t rs ws){j}(s:0<j)(p:j<S.m0)(i:gs[j]? =aA g)(b:g.status= .running):S.Step f gs w sl t j:=by
 obtain⟨q,o,n⟩:=(h.DO j g i).2.1 s p;cases q with
 |zero=>rw[n.1]at b;cases b
 |succ q=>obtain⟨l,_⟩|⟨_,u,es,a,c,d⟩:=n;{rw[l]at b;cases b};{refine h.go_own H i (by rw[show(j==0)=aG by simp;omega];exact c w) (by rw[o];exact fI) (tO _ w) h.base.live (λe m=>aI (aI (aI (aI (aI (aI (aI (a e m)))))))) (aI (aI λk e m=>aH (touch_mute (a e (zBj m))))) rfl rfl (λk r e=>by omega) (λk r e x=>by omega) (λe=>by omega) (λe=>by omega) ?_ (mZ H h i h.base.live (λe=>by omega) (hY (by rw[o])) rfl) (λe=>by omega);rw[iK];exact⟨λe=>by omega,λ_ _=>⟨q,rfl,d⟩,λ_ _ e=>by omega,λe=>by omega⟩}
def Sp.dE.Re (H:S.Good)(h:S.dE f gs w t rs ws):∃(i:Nat)(g:zH),gs[i]? =aA g/\g.status= .running:=by
 have J:=h.base.live;have I:=h.size;have N:=h.pos;have C:∀a,a<gs.size->∃y,gs[a]? =aA y:=λa L=>⟨_,zAj L⟩;obtain⟨B,o⟩:=C 0 (by omega);obtain x|⟨x,_⟩:=((h.DO 0 B o).1 rfl).2.status H J
 .exact⟨0,B,o,x.1⟩
 .have u:=h.js x;have A:S.ph f S.n≠0:=λe=>h.shut e x;have k:∀i,i<S.n->S.ph f i≠0->∃y,gs[S.m0+i]? =aA y/\y.status= .running:=λi hi M=>by
   obtain⟨y,l⟩:=C (S.m0+i) (by omega);obtain z|z|z:=((h.DO _ y l).2.2.1 i hi rfl).status J;{exact⟨y,l,z.2⟩};{exact absurd z.1 (u i hi)};{exact absurd z.1 M}
  obtain⟨y,l⟩:=h.closer;obtain z|z|z:=((h.DO _ y l).2.2.2 rfl).status H J;{exact⟨_,y,l,z⟩}
  .have G:S.ph f S.n=6:=z.1;cases h.mode y l with
   |a q hl hw=>omega
   |b q r hl hw=>
    have:∃i,i<S.n/\5<=S.ph f i:=zBm λv=>by
     have:S.V f=0:=by
      unfold Sp.V;rw[zHa λi hi=>zAv λD=>v ⟨i,hi,D⟩];have:∀n,sumTo n (λ_=>0)=0:=λn=>by
       induction n with
       |zero=>rfl
       |succ n F=>rw[Go.ConcN.sumTo,F]
      exact this _
     omega
    obtain⟨i,hi,D⟩:=this;obtain⟨m,j,p⟩:=k i hi (by omega);exact⟨_,m,j,p⟩
   |c q r i hl hi hw=>obtain⟨m,j,p⟩:=k i hl.1 (by omega);exact⟨_,m,j,p⟩
   |c' q r i hl hi hw=>obtain⟨m,j,p⟩:=k i hl.1 (by omega);exact⟨_,m,j,p⟩
   |d q r hl hw K=>exact absurd z.2 K
   |e q r hl hw=>omega
  .exact absurd z.1 A
def Sp.dE.awake (H:S.Good)(h:S.dE f gs w t rs ws):∀g∈gs,Go.Conc.awake g:=by
 intro y c;have J:=h.base.live;have d:=h.size;obtain⟨a,i,rfl⟩:=Array.mem_iff_getElem.1 c;have b:=h.DO a _ (zAj i);by_cases l:a=0
 .obtain x|x:=(b.1 l).2.status H J
  .exact awake_of (aH x.1)
  .exact awake_of (aI (aH x.2))
 .by_cases k:a<S.m0
  .obtain⟨q,_,e⟩:=b.2.1 (by omega) k;exact awake_of (e.status.elim aH λx=>aI (aI x))
  .by_cases j:a=S.m0+S.n
   .obtain x|x|x:=(b.2.2.2 j).status H J
    .exact awake_of (aH x)
    .exact awake_of (aI (aH x.2))
    .exact awake_of (aI (aI x.2))
   .obtain x|x|x:=(b.2.2.1 (a-S.m0) (by omega) (by omega)).status J
    .exact awake_of (aH x.2)
    .exact awake_of (aI (aH x.2))
    .exact awake_of (aI (aI x.2))
def Sp.dE.runs (H:S.Good)(h:S.dE f gs w t rs ws):∃N b k s C,runNT S.P N (crowd gs w sl) t=(.next (crowd b k s),C)/\S.Ph b k C:=by
 generalize z:S.mu f gs=B;induction B using Mu.wf.induction generalizing f gs w t rs ws sl with
 |_ B J=>
  obtain⟨j,g,d,s,c,o,m⟩:=crowd_pick (P:=S.P) (w:=w) (sl:=sl) (h.awake H) (h.Re H);have e:=h.at d;have K:=h.size;have bT:=(zAa.1 c).1;have y:S.Step f gs (w.at d) s t j\/(j=0/\S.Ends gs (w.at d) s t):=by
   by_cases T:j=0;{subst T;exact(e.To H c o).imp id λx=>⟨rfl,x⟩}
   .by_cases R:j<S.m0
    .exact aH (e.elder H (by omega) R c o)
    .by_cases Q:j=S.m0+S.n
     .subst Q;obtain x|⟨F,E,D⟩:=e.waits H c o
      .exact aH x
      .exact aH (e.closes H c F E D)
     .obtain⟨i,rfl⟩:∃i,j=S.m0+i:=⟨j-S.m0,by omega⟩;by_cases O:8<=S.ph f i
      .exact aH (e.PS H (by omega) c o O)
      .exact aH (e.worker H (by omega) c o (by omega))
  obtain⟨b,k,U,I,G,ops,a,p,A⟩|⟨rfl,b,k,ops,a,q⟩:=y;{obtain⟨N,r,u,l,v,L,M⟩:=J _ (z▸A) p rfl;exact⟨N+1,r,u,l,v,by simp only[runNT,m,a];exact L,M⟩};{exact⟨1,b,k,s,t++ops,by simp only[runNT,m,a],q⟩}
end
end Go.Ga
namespace Go.Ga
open Go.Conc Go.Ren Go.Tr Go.Wg
open Go.ConcR (KK WgAt stA smA DC0)
open Go.ConcN (WgLive sumTo sumTo_congr sumTo_upd upd upd_same upd_ne le_sumTo)
variable {S:Sp}
structure Sp.tE (S:Sp)(k:Nat)(f:Nat->Span)(gs:zG)(w:zW)(t:Trace)(rs ws:Nat->zP):Prop where
 pos:0<S.m0
 nR:S.n<2147483647
 le:k<=S.n
 size:gs.size=S.m0+(S.n-k)
 base:S.Base (S.m0+(S.n-k)) w t rs ws 0 (λa=>∃i,i<S.n-k/\a=S.m0+i)
 cr:∃c tm,w.heap[S.Cr]? =aA (.chan 0 #[] aG c c tm)
 cd:∃s r tm,w.heap[S.Cd]? =aA (.chan 0 #[] aG s r tm)
 main:∃g,gs[0]? =aA g/\S.dK (S.Fk k) (f 0).2 (Deaf t 0) (rs 0) (ws 0) g w
 zero:(f 0).1=0
 old:∀a g,0<a->a<S.m0->gs[a]? =aA g->∃q,f a=(0,.nat q)/\QuitsD S.P q (Deaf t a) g
 wk:∀i g,i<S.n-k->gs[S.m0+i]? =aA g->S.WSit i (rs (S.m0+i)) (ws (S.m0+i)) (f (S.m0+i)) (Deaf t (S.m0+i)) g w/\8<=(f (S.m0+i)).1
def Sp.nb (S:Sp)(k:Nat)(f:Nat->Span):Mu:=(k+1,0,vec (S.m0+(S.n-k)) f,0)
def Sp.VI (S:Sp)(k:Nat)(f:Nat->Span)(gs:zG)(w:zW)(sl:Option (Nat×Nat))(t:Trace)(j:Nat):Prop:=
 ∃b w' ops,runT S.P (crowd gs w sl) j=(.next (crowd b w' sl),ops)/\
  ((∃d c r a,S.tE d c b w' (t++ops) r a/\Mu.Lt (S.nb d c) (S.nb k f))\/∃c r a,S.dE c b w' (t++ops) r a)
section
variable {k:Nat}{f:Nat->Span}{gs:zG}{w w':zW}{t:Trace}{rs ws:Nat->zP}{j:Nat}{g g':zH}{es:zE}{s:Span}{sl:Option (Nat×Nat)}
def Sp.tE.at (h:S.tE k f gs w t rs ws)(d):S.tE k f gs (w.at d) t rs ws:=by obtain⟨g,a,b⟩:=h.main;exact⟨h.pos,h.nR,h.le,h.size,h.base.at d,h.cr,h.cd,⟨g,a,b.rely (NC _ _ w d)⟩,h.zero,h.old,λi g hi a=>⟨(h.wk i g hi a).1.rely (NC _ _ w d) h.base.live,(h.wk i g hi a).2⟩⟩
def Sp.tE.own (h:S.tE k f gs w t rs ws)(W:gs[j]? =aA g)(M:stepG S.P (j==0) g w= .go g' w' es)(bT:Span.Lt s (f j))(p:Go.Ren.Does (λb=>ws j b\/(j=0/\b=S.Wg)) w w')(U:S.J w')(Q:∀e∈es,EvS S 0 j (rs j) (grown (ws j) w w') e)
  (hl:j=0\/(∃i,i<S.n-k/\j=S.m0+i)\/∀e∈es,(MemAct.ofEvent e).touch? =aB)
  (X:j=0->s.1=0/\S.dK (S.Fk k) s.2 (deafBehind (Deaf t 0) es) (rs 0) (grown (ws 0) w w') g' w')
  (h1:0<j->j<S.m0->∃q,s=(0,.nat q)/\QuitsD S.P q (deafBehind (Deaf t j) es) g')
  (h2:∀i,i<S.n-k->j=S.m0+i->S.WSit i (rs j) (grown (ws j) w w') s (deafBehind (Deaf t j) es) g' w'/\8<=s.1):S.VI k f gs w sl t j:=by
 have hp:=h.pos;have L:=h.size;have O:=(zAa.1 W).1;have l:Go.Ren.Does (Sp.ID (ws j)) w w':=⟨λb r hn=>p.keep b r λx=>hn (x.imp id λy=>aH y.2),p.size,p.tape,p.os,p.output⟩;have m:∀op∈aEs j g.frame.fn g.frame.place es,op.g=j:=λop N=>by obtain⟨e,_,rfl⟩:=Go.Conc.mem_ofEvents N;rfl
 have o:∀b,b=S.Cr\/b=S.Cd->b≠S.Wg->w'.heap[b]? =w.heap[b]? :=λb r d=>p.keep b (h.base.oA (r.elim (λe=>aI (aI (aH e))) λe=>aI (aI (aI e)))) λx=>x.elim (λy=>h.base.off (aI y) (r.elim (λe=>aI (aI (aH e))) λe=>aI (aI (aI e)))) λy=>d y.2;obtain⟨c,Z,D⟩:=h.cr;obtain⟨s0,r0,tm1,F⟩:=h.cd;have R:S.Cr≠S.Wg:=λe=>by obtain⟨a,b,x⟩:=h.base.live;have v:w.heap[S.Wg]? =aA (Go.ConcR.wgBlock S.ty a b):=x;rw[<-e,D]at v;simp[Go.ConcR.wgBlock]at v
 have T:S.Cd≠S.Wg:=λe=>by obtain⟨a,b,x⟩:=h.base.live;have v:w.heap[S.Wg]? =aA (Go.ConcR.wgBlock S.ty a b):=x;rw[<-e,F]at v;simp[Go.ConcR.wgBlock]at v
 have u:=(o _ (aH rfl) R).trans D;have E:=(o _ (aI rfl) T).trans F;refine⟨_,w',_,runT_crowd_go W M,aH ⟨k,put f j s,rs,put ws j (grown (ws j) w w'),⟨hp,h.nR,h.le,by simp[L],h.base.own (by omega) l U Q (hl.imp id λx=>x.imp id λy=>λa e Q=>aH (y e (zBj Q))),⟨c,Z,u⟩,⟨s0,r0,tm1,E⟩,?_,?_,λa y H G A=> ?_,λi y hi A=> ?_⟩,Mu.one (lF (by omega) bT)⟩⟩
 .obtain⟨y,A,r⟩:=h.main;by_cases e:j=0
  .subst e;refine⟨g',by rw[zAo (by simpa using O)],?_⟩;rw[aW,aW,Deaf_own];exact(X rfl).2
  .have C:y.status= .running:=by
    cases B:(f 0).2 with
    |leaf=>
     rw[B]at r;have:=r.2 w (cA.refl _ _ w);cases k with
     |zero=>exact this.1
     |succ k=>exact this.1
    |node ch=>rw[B]at r;exact r.1
   refine⟨y,?_,?_⟩;{rw[zAe e,zCg,A,zBi,woken_running C]}
   .rw[bH _ _ (λx=>e x.symm),bH _ _ (λx=>e x.symm),Deaf_other t e _ m];refine r.rely ⟨λb hx=> ?_,p.size,p.tape,p.os,p.output⟩;have lM:=h.base.lM l (λx=>e x.symm);obtain x|x|x:=hx
    .exact lM.cM b (aH x)
    .exact lM.cM b (aI x)
    .subst x;exact p.keep _ (h.base.oA (aI (aH rfl))) λy=>y.elim (λz=>h.base.off (aI z) (aI (aH rfl))) λz=>e z.1
 .by_cases e:j=0
  .subst e;rw[aW];exact(X rfl).1
  .rw[bH _ _ (λx=>e x.symm)];exact h.zero
 .obtain⟨rfl,rfl⟩|⟨d,z,K,rfl⟩:=iC _ _ _ _ _ _ A
  .rw[aW,Deaf_own];exact h1 H G
  .obtain⟨q,V,I⟩:=h.old a z H G K;rw[bH _ _ d,Deaf_other t (λe=>d e.symm) _ m,woken_quitsD I];exact⟨q,V,I⟩
 .obtain⟨e,rfl⟩|⟨d,z,K,rfl⟩:=iC _ _ _ _ _ _ A
  .have:=h2 i hi e.symm;subst e;rw[aW,aW,Deaf_own];exact this
  .obtain⟨V,I⟩:=h.wk i z hi K;have Y:=V.rely (h.base.lM l d) U;rw[bH _ _ d,bH _ _ d,Deaf_other t (λe=>d e.symm) _ m,Y.woken U u];exact⟨Y,I⟩
def Ty {rs ws e}(h:iv S rs ws e):EvS S 0 0 rs ws e:=by
 obtain h|h|h|h|⟨a,h,b⟩:=h
 .exact aH h
 .exact aI (aH h)
 .exact aI (aI (aH h))
 .exact aI (aI (aI (aH h)))
 .exact aI (aI (aI (aI (aI (aH ⟨rfl,a,aH h,b⟩)))))
def Sp.tE.PS (h:S.tE k f gs w t rs ws){i}(hi:i<S.n-k)(U:gs[S.m0+i]? =aA g)(hr:g.status= .running):S.VI k f gs w sl t (S.m0+i):=by
 have T:=h.pos;have O:=h.size;have J:=h.base.live;obtain⟨Q,h8⟩:=h.wk i g hi U;generalize hf:f (S.m0+i)=sp at Q h8;generalize I:Deaf t (S.m0+i)=d at Q;cases Q with
 | @busy tr _ _ B=>
  cases tr with
  |node ch=>
   obtain⟨_,B⟩:=B;obtain⟨g',w',es,u,C,H,Z⟩:=B w (cA.refl _ _ w) J;have N:=C.keep _ (h.base.oA (aI (aH rfl))) λx=>h.base.off (aI x) (aI (aH rfl));have J':S.J w':=by obtain⟨a,b,x⟩:=J;exact⟨a,b,N.trans x⟩
   have X:deafBehind 0 es=0:=deafBehind_still (λe W=>by
    obtain⟨a,wr,s,rfl,_⟩|⟨r,s,rfl,_⟩|x|x|⟨q,x⟩:=H e W;{simp};{simp};{rw[x];simp};{rw[x];simp}
    .rw[x];simp) 0
   refine h.own (s:=(9,ch w)) U (by rw[dQ T];exact u) (by rw[hf];exact .right _ ⟨_,_,rfl,rfl⟩) ⟨λb B hn=>C.keep b B λx=>hn (aH x),C.size,C.tape,C.os,C.output⟩ J' (λe W=>aH (H e W)) (aI (aH ⟨i,hi,rfl⟩)) (λe=>by omega) (λ_ e=>by omega) (λp G e=> ?_);have:p=i:=by{omega};subst this;rw[I,X];exact⟨.busy Z,by simp⟩
  |leaf=>
   obtain⟨v,hv,_,L,z,u,m,V⟩:=B w (cA.refl _ _ w) J;obtain⟨c,tm,Y⟩:=h.cr;have E:stepG S.P (S.m0+i==0) g w= .comm L #[scase S.Cr v z] aF .send w #[]:=by rw[dQ T];exact u
   obtain⟨y,hy,o⟩:=h.main;have A:y.status= .running:=by
    cases D:(f 0).2 with
    |leaf=>
     rw[D]at o;have:=o.2 w (cA.refl _ _ w);cases k with
     |zero=>exact this.1
     |succ k=>exact this.1
    |node ch=>rw[D]at o;exact o.1
   have R:partners (gs.setIfInBounds (S.m0+i) Go.Conc.ph) S.Cr aG=[]:=partners_nil λa x l=>by
    obtain⟨_,rfl⟩|⟨_,l⟩:=getElem?_stand _ _ _ _ l;{exact offersAt_ph _ _}
    .have bT:=(zAa.1 l).1;by_cases e0:a=0
     .subst e0;rw[hy]at l;obtain rfl:=zAk l;exact zGp (by rw[A];simp) _ _
     .by_cases e1:a<S.m0
      .obtain⟨q,_,hq⟩:=h.old a x (by omega) e1 l;exact zGp (by obtain x|x:=hq.status<;>rw[x]<;>simp) _ _
      .obtain⟨p,rfl⟩:∃p,a=S.m0+p:=⟨a-S.m0,by omega⟩;obtain⟨M,_⟩:=h.wk p x (by omega) l;generalize f (S.m0+p)=fa at M;generalize Deaf t (S.m0+p)=da at M;obtain x|x|x:=M.status J
       .exact zGp (by rw[x.2];simp) _ _
       .cases M with
        |parked _ hh=>exact offersAt_parked_send' _ _ _ _ _ _
        |_=>exact absurd x.1 (by simp)
       .exact zGp (by rw[x.2];simp) _ _
   have F:=crowd_waits (sl:=sl) U E λcc K=>by simp only[zAs,zAg,zAr,zCd]at K;subst K;exact ways_send_none Y (by simp) R
   refine⟨_,_,_,F,aH ⟨k,put f (S.m0+i) (8,.leaf),rs,ws,?_,Mu.one (lF (by omega) (by rw[hf];exact gW (by omega)))⟩⟩;have e1:t++aEs (S.m0+i) g.frame.fn g.frame.place #[]=t:=by{simp[ofEvents_eq]};rw[e1];refine⟨T,h.nR,h.le,by simp[O],h.base,h.cr,h.cd,⟨y,by rw[zAe (by omega)];exact hy,by rw[bH _ _ (by omega)];exact o⟩,by rw[bH _ _ (by omega)];exact h.zero,λa x Tm ha2 l=> ?_,λp x G l=> ?_⟩;{rw[zAe (by omega)]at l;rw[bH _ _ (by omega)];exact h.old a x Tm ha2 l}
   .by_cases e:p=i
    .subst e;rw[zAo (by omega)]at l;obtain rfl:=zAk l;rw[aW,I];exact⟨.parked hv V,by simp⟩
    .rw[zAe (by omega)]at l;rw[bH _ _ (by omega)];exact h.wk p x G l
 |parked _ B=>exact absurd hr (by simp[Go.Conc.parked])
 |_=>simp at h8
def Sp.Base.fork {N sdo m Live}(h:S.Base N w t rs ws sdo Live)(M:0<N){n}(hh:∀b,n b->rs 0 b\/ws 0 b)(L:Deaf t 0=0){x y}(B:x.g=0/\x.act= .go N)(A:y.g=N/\y.act= .start)(hs:sdo=0)(C:m=0\/m=N):
  S.Base (N+1) w (t++ #[x,y]) (put (put rs 0 λb=>rs 0 b\/n b) N n) (put (put ws 0 λb=>ws 0 b/\¬n b) N λ_=>False) m (λa=>Live a\/a=N):=by
 have r:∀a b,put (put rs 0 λb=>rs 0 b\/n b) N n a b->(rs a b/\a≠N)\/((a=0\/a=N)/\n b):=λa b c=>by
  by_cases e:a=N;{subst e;rw[aW]at c;exact aI ⟨aI rfl,c⟩}
  .rw[bH _ _ e]at c;by_cases u:a=0
   .subst u;rw[aW]at c;exact c.imp (λx=>⟨x,e⟩) λx=>⟨aH rfl,x⟩
   .rw[bH _ _ u]at c;exact aH ⟨c,e⟩
 have d:∀a b,put (put ws 0 λb=>ws 0 b/\¬n b) N (λ_=>False) a b->ws a b/\a≠N/\(a=0->¬n b):=λa b c=>by
  by_cases e:a=N;{subst e;rw[aW]at c;exact c.elim}
  .rw[bH _ _ e]at c;by_cases u:a=0
   .subst u;rw[aW]at c;exact⟨c.1,e,λ_=>c.2⟩
   .rw[bH _ _ u]at c;exact⟨c,e,λx=>absurd x u⟩
 have J:∀op∈#[x,y],op.act.touch? =aB:=by intro op l;simp only[zAs,zAg,zAr,zCd]at l;obtain rfl|rfl:=l;{rw[B.2];rfl};{rw[A.2];rfl}
 have o:∀a,Deaf (t++ #[x,y]) a=Deaf t a:=λa=>Go.ConcN.Deaf_still t a _ λop l=>by simp only[zAs,zAg,zAr,zCd]at l;obtain rfl|rfl:=l;{rw[B.2];simp};{rw[A.2];simp}
 have v:∀i,Knows t 0 i->Knows (t++ #[x,y]) N i:=λi K=>Go.ConcN.fork_knows B A L (h.above N (zAb _)) K;refine⟨λ{a b} c=> ?_,λ{a I b} p q=>h.CU (d _ _ p).1 (d _ _ q).1,λ{a I b} p q=> ?_,λ{a b} c=> ?_,h.oA,h.live,?_,?_,λa F=>by rw[o];exact h.above a (by omega)⟩
 .obtain c|c:=c
  .obtain x|x:=r a b c
   .exact h.lt (aH x.1)
   .exact h.lt (hh b x.2)
  .exact h.lt (aI (d a b c).1)
 .obtain x|⟨x,y⟩:=r I b q
  .exact h.IJ (d _ _ p).1 x.1
  .have D:=d _ _ p;have:a=0:=by
    obtain z|z:=hh b y;{exact h.IJ D.1 z};{exact h.CU D.1 z}
   exact absurd y (D.2.2 this)
 .obtain c|c:=c
  .obtain x|x:=r a b c
   .exact h.off (aH x.1)
   .exact h.off (hh b x.2)
  .exact h.off (aI (d a b c).1)
 .refine h.ti.Mb J (λa b c=> ?_) (λa b c=>aH (d a b c).1) (λa b c=> ?_) (λb c=>aH c) (λb c=>c) (λa F=>aH (aH F))
  .obtain p|⟨rfl|rfl,p⟩:=r a b c
   .exact aH p.1
   .exact(hh b p).elim aH λz=>aI (aH z)
   .exact aI (aI (aH ⟨0,hh b p,v⟩))
  .obtain⟨H,G⟩:=c;obtain E|E:=C
   .exact aH ⟨H,by rw[G,E,hs]⟩
   .refine aI (aH ⟨0,⟨H,hs.symm⟩,?_⟩);rw[G,E];exact v
 .refine seen_app h.low λop l=> ?_;simp only[zAs,zAg,zAr,zCd]at l;obtain rfl|rfl:=l
  .rw[B.2];trivial
  .rw[A.2];trivial
end
end Go.Ga
namespace Go.Ga
open Go.Conc Go.Ren Go.Tr Go.Wg
open Go.ConcR (KK WgAt stA smA DC0)
open Go.ConcN (WgLive sumTo sumTo_congr sumTo_upd upd upd_same upd_ne le_sumTo)
variable {S:Sp}
section
variable {k:Nat}{f:Nat->Span}{gs:zG}{w:zW}{t:Trace}{rs ws:Nat->zP}{g:zH}{sl:Option (Nat×Nat)}
def qQ (gs:zG)(x y){a z}(h:((gs.setIfInBounds 0 x).push y)[a]? =aA z):(a=gs.size/\z=y)\/(a<gs.size/\((a=0/\z=x)\/(a≠0/\gs[a]? =aA z))):=by
 rw[zBk]at h;simp only[zDa]at h;split at h
 .rename_i e;exact aH ⟨e,(zAk h).symm⟩
 .right;have bT:=(zAa.1 h).1;simp only[zDa]at bT;refine⟨bT,?_⟩;by_cases b:a=0
  .subst b;rw[zAo bT]at h;exact aH ⟨rfl,(zAk h).symm⟩
  .rw[zAe λe=>b e.symm]at h;exact aI ⟨b,h⟩
def Sp.tE.Wx (h:S.tE k f gs w t rs ws)(L:gs[0]? =aA g):S.VI k f gs w sl t 0:=by
 have Q:=h.pos;have u:=h.size;have hle:=h.le;have J:=h.base.live;obtain⟨g0,K,p⟩:=h.main;rw[L]at K;obtain rfl:=zAk K;cases H:(f 0).2 with
 |node ch=>rw[H]at p;obtain⟨_,p⟩:=p;obtain⟨g',w',es,v,o,hJ,X,Z⟩:=p w (cA.refl _ _ w);have W:f 0=(0,.node ch):=Prod.ext h.zero H;exact h.own (s:=(0,ch w)) L v (by rw[W];exact .right _ ⟨_,_,rfl,rfl⟩) ⟨λb p hn=>o.keep b p λx=>hn (x.imp id λy=>⟨rfl,y⟩),o.size,o.tape,o.os,o.output⟩ hJ (λe he=>Ty (X e he)) (aH rfl) (λ_=>⟨rfl,Z⟩) (λe=>by omega) (λi _ e=>by omega)
 |leaf=>
  rw[H]at p;obtain⟨F,p⟩:=p;have p:=p w (cA.refl _ _ w);have e1:∀(x y:MemOp),t++(((aEs 0 g.frame.fn g.frame.place #[]).push x).push y)=t++ #[x,y]:=λx y=>by{simp[ofEvents_eq]};cases k with
  |succ k=>
   obtain⟨_,g',child,o,v,T,⟨E,M⟩,D,R⟩:=p;have hN:S.m0+(S.n-(k+1))+1=S.m0+(S.n-k):=by{omega};have hi:S.n-1-k=S.n-(k+1):=by{omega};refine⟨_,w,_,runT_crowd_spawn L v,aH ⟨k,put (put f 0 (0,D)) (S.m0+(S.n-(k+1))) (9,E),put (put rs 0 λb=>rs 0 b\/o b) (S.m0+(S.n-(k+1))) o,put (put ws 0 λb=>ws 0 b/\¬o b) (S.m0+(S.n-(k+1))) λ_=>False,?_,Mu.fork (by omega)⟩⟩;rw[e1,u];generalize O:({g:=0,fn:=g.frame.fn,pos:=g.frame.place,act:= .go (S.m0+(S.n-(k+1)))}:MemOp)=x;generalize N:({g:=S.m0+(S.n-(k+1)),fn:=child.frame.fn,pos:=g.frame.place,act:= .start}:MemOp)=y;have r:x.g=0/\x.act= .go (S.m0+(S.n-(k+1))):=by{rw[<-O];exact⟨rfl,rfl⟩};have q:y.g=S.m0+(S.n-(k+1))/\y.act= .start:=by rw[<-N];exact⟨rfl,rfl⟩
   have c:∀a,Deaf (t++ #[x,y]) a=Deaf t a:=λa=>Go.ConcN.Deaf_still t a _ λop B=>by simp only[zAs,zAg,zAr,zCd]at B;obtain rfl|rfl:=B;{rw[r.2];simp};{rw[q.2];simp}
   have d:=h.base.fork (by omega) T F r q rfl (aH rfl);have l:(λa=>(∃i,i<S.n-(k+1)/\a=S.m0+i)\/a=S.m0+(S.n-(k+1)))=λa=>∃i,i<S.n-k/\a=S.m0+i:=by
    funext a;apply propext;constructor
    .rintro(⟨i,hi,rfl⟩|rfl)
     .exact⟨i,by omega,rfl⟩
     .exact⟨_,by omega,rfl⟩
    .rintro⟨i,hi,rfl⟩;by_cases e:i=S.n-(k+1)
     .exact aI (by rw[e])
     .exact aH ⟨i,by omega,rfl⟩
   rw[l,hN]at d;refine⟨Q,h.nR,by omega,by simp[u];omega,d,h.cr,h.cd,⟨g',?_,?_⟩,?_,λa z Tm I m=> ?_,λi z fb m=> ?_⟩;{rw[zBk];simp only[zDa];rw[zAv (by omega),zAo (by omega)]};{rw[bH _ _ (by omega),aW,bH _ _ (by omega),aW,bH _ _ (by omega),aW,c,F];exact R};{rw[bH _ _ (by omega),aW]}
   .obtain⟨e,_⟩|⟨_,⟨e,_⟩|⟨e,m⟩⟩:=qQ _ _ _ m
    .omega
    .omega
    .rw[bH _ _ (by omega),bH _ _ (by omega),c];exact h.old a z Tm I m
   .obtain⟨e,rfl⟩|⟨bT,⟨e,_⟩|⟨e,m⟩⟩:=qQ _ _ _ m
    .have ei:i=S.n-(k+1):=by{omega};subst ei;rw[aW,aW,aW,c,h.base.above _ (zAb _)];rw[hi]at M;exact⟨.busy M,by simp⟩
    .omega
    .have:=h.wk i z (by omega) m;rw[bH _ _ (by omega),bH _ _ (by omega),bH _ _ (by omega),bH _ _ (by omega),bH _ _ (by omega),bH _ _ (by omega),c];exact this
  |zero=>
   obtain⟨_,P,g',child,o,v,T,⟨E,M⟩,D,R⟩:=p;have hN:S.m0+(S.n-0)=S.m0+S.n:=by{omega};have j:=h.base;rw[hN]at j u;let C:=put (put f 0 (3*S.n+2,D)) (S.m0+S.n) (15,E)
   have f0:C 0=(3*S.n+2,D):=by show put (put f _ _) _ _ _=_;rw[bH _ _ (by omega),aW]
   have fn:C (S.m0+S.n)=(15,E):=aW _ _ _;have fk:∀a,a≠0->a≠S.m0+S.n->C a=f a:=λa h0 h1=>by show put (put f _ _) _ _ _=_;rw[bH _ _ h1,bH _ _ h0]
   have A:∀i,i<S.n->8<=S.ph C i:=λi hi=>by unfold Sp.ph;rw[fk _ (by omega) (by omega)];exact(h.wk i _ (by omega) (zAj (show S.m0+i<gs.size by omega))).2
   have pn:S.ph C S.n=15:=by unfold Sp.ph;rw[fn]
   have G:∀n,sumTo n (λ_=>1)=n:=λn=>by
    induction n with
    |zero=>rfl
    |succ n ih=>rw[Go.ConcN.sumTo,ih]
   have hU:S.U C=S.n:=by unfold Sp.U;rw[zHa λi hi=>zAz (A i hi),G]
   have hV:S.V C=S.n:=by unfold Sp.V;rw[zHa λi hi=>zAz (by have:=A i hi;omega),G]
   have hR:S.Rc C=λ_=>False:=by funext i;apply propext;exact⟨λx=>by have:=A i x.1;have:=x.2;omega,λx=>x.elim⟩
   refine⟨_,w,_,runT_crowd_spawn L v,aI ⟨C,put (put rs 0 λb=>rs 0 b\/o b) (S.m0+S.n) o,put (put ws 0 λb=>ws 0 b/\¬o b) (S.m0+S.n) λ_=>False,?_⟩⟩;rw[e1,u];generalize O:({g:=0,fn:=g.frame.fn,pos:=g.frame.place,act:= .go (S.m0+S.n)}:MemOp)=x;generalize N:({g:=S.m0+S.n,fn:=child.frame.fn,pos:=g.frame.place,act:= .start}:MemOp)=y;have r:x.g=0/\x.act= .go (S.m0+S.n):=by{rw[<-O];exact⟨rfl,rfl⟩};have q:y.g=S.m0+S.n/\y.act= .start:=by rw[<-N];exact⟨rfl,rfl⟩
   have c:∀a,Deaf (t++ #[x,y]) a=Deaf t a:=λa=>Go.ConcN.Deaf_still t a _ λop B=>by simp only[zAs,zAg,zAr,zCd]at B;obtain rfl|rfl:=B;{rw[r.2];simp};{rw[q.2];simp}
   have d:=j.fork (by omega) T F r q rfl (aI rfl);have l:(λa=>(∃i,i<S.n-0/\a=S.m0+i)\/a=S.m0+S.n)=S.Live C:=by funext a;apply propext;unfold Sp.Live;exact or_congr ⟨λ⟨i,hi,e⟩=>⟨i,hi,e,A i hi⟩,λ⟨i,hi,e,_⟩=>⟨i,hi,e⟩⟩ aEw
   rw[l]at d;obtain⟨s0,r0,tm1,Y⟩:=h.cd;refine⟨Q,h.nR,by simp[u],d,h.cr,⟨s0,r0,tm1,by rw[Y,pn];rfl⟩,λa z m=> ?_,λz m=> .a (by omega) (λi hi hl=>by have:=A i hi;unfold Sp.jZ at hl;omega) (by rw[hV];exact P),λe=>by rw[f0,hU]at e;simp at e,λe=>by omega,λe=>by rw[f0,hU]at e;simp at e,λe=>by omega⟩;rw[hR,hU,hV,c];obtain⟨e,rfl⟩|⟨bT,⟨rfl,rfl⟩|⟨e0,m⟩⟩:=qQ _ _ _ m;{have ea:a=S.m0+S.n:=by{omega};subst ea;rw[fn,j.above _ (zAb _)];refine nE Q ?_;rw[aW,aW];exact .busy M};{rw[f0];refine⟨λ_=>⟨F,?_⟩,λe=>by omega,λ_ _ e=>by omega,λe=>by omega⟩;rw[bH _ _ (by omega),aW,bH _ _ (by omega),aW];exact .busy R};{rw[fk a e0 (by omega)];refine⟨λe=>absurd e e0,λ_ I=>h.old a z (by omega) I m,λi hi e=> ?_,λe=>by omega⟩;subst e;have:=(h.wk i z (by omega) m).1;rw[bH _ _ (by omega),bH _ _ (by omega),bH _ _ (by omega),bH _ _ (by omega)];exact this}
def Sp.tE.elder (h:S.tE k f gs w t rs ws){j}(s:0<j)(p:j<S.m0)(o:gs[j]? =aA g)(b:g.status= .running):S.VI k f gs w sl t j:=by
 obtain⟨q,r,n⟩:=h.old j g s p o;cases q with
 |zero=>rw[n.1]at b;cases b
 |succ q=>obtain⟨l,_⟩|⟨_,u,es,a,c,d⟩:=n;{rw[l]at b;cases b};{exact h.own o (by rw[show(j==0)=aG by simp;omega];exact c w) (by rw[r];exact fI) (Go.Ren.Does.refl _ w) h.base.live (λe m=>aI (aI (aI (aI (aI (aI (aI (a e m)))))))) (aI (aI λe m=>touch_mute (a e m))) (λe=>by omega) (λ_ _=>⟨q,rfl,d⟩) (λi _ e=>by omega)}
def Sp.tE.Lv (h:S.tE k f gs w t rs ws):∃g,gs[0]? =aA g/\g.status= .running:=by
 obtain⟨y,c,a⟩:=h.main;refine⟨y,c,?_⟩;cases b:(f 0).2 with
 |leaf=>
  rw[b]at a;have:=a.2 w (cA.refl _ _ w);cases k with
  |zero=>exact this.1
  |succ k=>exact this.1
 |node ch=>rw[b]at a;exact a.1
def Sp.tE.runs (H:S.Good)(h:S.tE k f gs w t rs ws):∃N o B n R,runNT S.P N (crowd gs w sl) t=(.next (crowd o B n),R)/\S.Ph o B R:=by
 generalize E:S.nb k f=Q;induction Q using Mu.wf.induction generalizing k f gs w t rs ws sl with
 |_ Q U=>
  have W:=h.size;have J:=h.base.live;obtain⟨g0,u,r⟩:=h.Lv;have G:∀g∈gs,Go.Conc.awake g:=by
   intro y V;obtain⟨a,Y,rfl⟩:=Array.mem_iff_getElem.1 V;have v:=zAj Y;by_cases O:a=0;{subst O;rw[u]at v;rw[<-zAk v];exact awake_of (aH r)}
   .by_cases M:a<S.m0
    .obtain⟨q,_,X⟩:=h.old a _ (by omega) M v;exact awake_of (X.status.elim aH λx=>aI (aI x))
    .obtain⟨i,rfl⟩:∃i,a=S.m0+i:=⟨a-S.m0,by omega⟩;obtain x|x|x:=(h.wk i _ (by omega) v).1.status J
     .exact awake_of (aH x.2)
     .exact awake_of (aI (aH x.2))
     .exact awake_of (aI (aI x.2))
  obtain⟨j,g,d,n,z,T,p⟩:=crowd_pick (P:=S.P) (w:=w) (sl:=sl) G ⟨0,g0,u,r⟩;have L:=h.at d;have bT:=(zAa.1 z).1;have D:S.VI k f gs (w.at d) n t j:=by
   by_cases O:j=0;{subst O;exact L.Wx z}
   .by_cases M:j<S.m0
    .exact L.elder (by omega) M z T
    .obtain⟨i,rfl⟩:∃i,j=S.m0+i:=⟨j-S.m0,by omega⟩;exact L.PS (by omega) z T
  obtain⟨o,B,ops,e,⟨k',Z,C,A,b,F⟩|⟨Z,C,A,b⟩⟩:=D;{obtain⟨N,c,l,s,m,I,K⟩:=U _ (E▸F) b rfl;exact⟨N+1,c,l,s,m,by simp only[runNT,p,e];exact I,K⟩};{obtain⟨N,c,l,s,m,I,K⟩:=b.runs H;exact⟨N+1,c,l,s,m,by simp only[runNT,p,e];exact I,K⟩}
end
end Go.Ga
