import Derived.Conc.WgGenN2
import Derived.Conc.WgGenN3
import Derived.Conc.WgWords
import Derived.Conc.CrowdSel
import Derived.Conc.Token
import Derived.Test.YtghpcgagijhlaaaGreatDoorP09
set_option linter.all false
set_option maxRecDepth 100000
set_option maxHeartbeats 16000000
open Option renaming some->aA,none->aB
open Bool renaming true->aE,false->aF
open Or renaming inl->aG,inr->aH
open Go.Item renaming inRegion->aM
open Go.IntKind renaming u32->aO,u64->aQ
open Go.MemOp renaming ofEvents->aCL
open Go.Question renaming extern->aCM,cut->aCN,forced->aCO
open Option.some renaming injEq->aCP
namespace Go
abbrev zGt:=@Go.Conc.offersAt_of_not_blocked
abbrev zHk:=@Go.wpAny_take
end Go
namespace Go.Ren
open Go.Conc (G)
section
variable {P:zZ}{Al:zF}{F:Kp}{π:Rn}{fs:Array Func}{fr fr':zC}{own own' cs:zL}{v w:zW}{mn mn':Bool}
def NL (k:Shape P fs)(g:F.rG=aB)(p:cB P Al F π v w)(z:(match fr'.todo with| .call _ aE _ _::_=>CallKind.wrapped|_=> .normal)= .normal)(A:fr'.mode= .run){s s':Sem Next}(hs:bR P Al F (oT Al) π s s'):
  (∃i u c,s.runT P v #[]=(.halt i u,c)/\Fatal i)\/∃r w1 D,stepG.apply ⟨P.toTables,fs⟩ aE fr' own' aB s' w= .go r w1 D/\jT ⟨P.toTables,fs⟩ Al fr' own' r:=by
 obtain h|t:=hs.blind k g v w #[] #[] p
 .exact aG h
 obtain(⟨i,u,c,e,l⟩|⟨⟨n,q,_⟩,_⟩)|⟨E,v1,w1,c,d,_,_,_,⟨a,b,_,e,m⟩|⟨x,H,_,e,_⟩⟩:=hs.runT v w #[] #[] p
 .exact aG ⟨i,u,c,e,l⟩
 .rw[g]at q;cases q
 .right;unfold stepG.apply;simp only[zDf];rw[t,e];cases m with
  |value h=>have:=iV fr';exact⟨_,_,_,rfl,.same (this _).1 (this _).2.1 (this _).2.2⟩
  |skip=>have:=iV fr';exact⟨_,_,_,rfl,.same (this _).1 (this _).2.1 (this _).2.2⟩
  | @enter f l xs j C y=>
   have B:∀o:CallKind,o= .normal->jT ⟨P.toTables,fs⟩ Al fr' own' (G (Frame.enter ⟨P.toTables,fs⟩ f j o) (fr'::own')):=by rintro _ rfl;exact .enter l _ A (by rw[C.size];exact y)
   exact⟨_,_,_,rfl,B _ z⟩
 .right;unfold stepG.apply;simp only[zDf];rw[t,e];have:=wO fr';exact⟨_,_,_,rfl,.same (this _).1 (this _).2.1 (this _).2.2⟩
def QR (B:cJ P Al F)(O:Shape P fs)(C:F.rG=aB)(R:cB P Al F π v w)(T:cW P Al F π fr fr')(S:fr.mode= .run)(hq:pX P F fr:=by first|assumption|exact uP (λ_ h=>h))(hs:lF Al fr:=by first|assumption|exact kB (by assumption)):
  (∃o u z,stepG P mn (G fr cs) v= .ended o u z)\/∃J w1 z,stepG ⟨P.toTables,fs⟩ mn' (G fr' own') w= .go J w1 z/\jT ⟨P.toTables,fs⟩ Al fr' own' J:=by
 have N:=R.ok
 have E:=λx hx=>T.eval N x hx
 obtain⟨fn,tmps,todo,defers,mode,kind,round⟩:=fr
 obtain⟨q,s,r,n,L,g,oD⟩:=fr'
 obtain⟨Z,h2,Y,X,W,h6,V,U,h9,I,H⟩:=T
 dsimp only at Z h2 Y X W h6 V U h9 I H S
 subst Z;subst X;subst U;subst I;subst H;subst S
 cases V
 show(∃o u z,stepG.exec P mn aE ⟨q,tmps,r,defers,.run,g,aB⟩ cs aB v= .ended o u z)\/∃J w1 z,stepG.exec ⟨P.toTables,fs⟩ mn' aE ⟨q,s,r,n,.run,g,aB⟩ own' aB w= .go J w1 z/\jT ⟨P.toTables,fs⟩ Al ⟨q,s,r,n,.run,g,aB⟩ own' J
 cases r with
 |nil=>exact aH ⟨_,_,_,rfl,.same rfl rfl rfl⟩
 |cons i k=>
  have K:iZ P Al F i:=W i zAz;cases i with
  |code c=>
   cases c with
   |cond c a b=>
    have Q:=E c K.1;unfold stepG.exec;dsimp only;generalize Frame.eval _ c=x at Q⊢;generalize Frame.eval _ c=x' at Q⊢;cases Q with
    |bool t=>exact aH ⟨_,_,_,rfl,.same rfl rfl rfl⟩
    |_=>exact aG ⟨_,_,_,rfl⟩
   |exit id=>
    unfold stepG.exec;dsimp only;cases he:exitTo id k with
    |none=>exact aG ⟨_,_,_,rfl⟩
    |some k'=>exact aH ⟨_,_,_,rfl,.same rfl rfl rfl⟩
   |goto l=>
    unfold stepG.exec;dsimp only;cases he:gotoIn l k with
    |none=>exact aG ⟨_,_,_,rfl⟩
    |some k'=>exact aH ⟨_,_,_,rfl,.same rfl rfl rfl⟩
   |rangeFunc f p a b=>exact K.elim
   |refuse me=>exact aG ⟨_,_,_,rfl⟩
   |region id ops draw=>
    cases draw with
    |false=>exact aH ⟨_,_,_,rfl,.same rfl rfl rfl⟩
    |true=>exact aH ⟨_,_,_,rfl,.same rfl rfl rfl⟩
   |_=>exact aH ⟨_,_,_,rfl,.same rfl rfl rfl⟩
  |inBlock id=>exact aH ⟨_,_,_,rfl,.same rfl rfl rfl⟩
  |inScope b=>exact aH ⟨_,_,_,rfl,.same rfl rfl rfl⟩
  |inLoop b=>exact aH ⟨_,_,_,rfl,.same rfl rfl rfl⟩
  |inRegion ops l=>
   cases l with
   |nil=>exact aH ⟨_,_,_,rfl,.same rfl rfl rfl⟩
   |cons j rest=>
    have e1:∀(p:zZ)(u:zW)(c:zL)(t:zA)(d:List Deferred)(m:Bool),stepG.exec p m aE ⟨q,t,aM ops (j::rest)::k,d,.run,g,aB⟩ c aB u=
      if(((ops[j]?).map (Region.wanted · (yielded ops t))).getD aF)=aE then stepG.oper p aE ⟨q,t,aM ops (j::rest)::k,d,.run,g,aB⟩ c aB u
      else .go (G (Frame.finish ⟨q,t,aM ops (j::rest)::k,d,.run,g,aB⟩ undef) c) u:=λp u c t d m=>rfl
    rw[e1,e1]
    have ey:yielded ops s=yielded ops tmps:=funext (mG Y ops)
    rw[ey]
    split
    .rename_i M;cases y:ops[j]? with
     |none=>left;simp[stepG.oper,Frame.oper?,y]
     |some o=>
      have e2:∀(p:zZ)(u:zW)(c:zL)(t:zA)(d:List Deferred),stepG.oper p aE ⟨q,t,aM ops (j::rest)::k,d,.run,g,aB⟩ c aB u=
        stepG.apply p aE ⟨q,t,aM ops (j::rest)::k,d,.run,g,aB⟩ c aB (execOp (Frame.eval ⟨q,t,aM ops (j::rest)::k,d,.run,g,aB⟩) o) u:=λp u c t d=>by
       unfold stepG.oper
       simp only[Frame.oper?,y]
      rw[e2,e2]
      have A:=K o (zBc y)
      obtain⟨hl,u,Zo,e,D⟩|h:=NL (fs:=fs) (fr':=⟨q,s,aM ops (j::rest)::k,n,.run,g,aB⟩) (own':=own') O C R rfl rfl (sV B.met A (hq rfl _ _ _ _ _ rfl y) (hs rfl _ _ _ _ _ rfl y (by simpa [y]using M)) A.nd E)
      .exact aG (mW e D)
      .exact aH h
    .exact aH ⟨_,_,_,rfl,.same rfl rfl rfl⟩
  |_=>exact K.elim
end
abbrev Span:=Nat×Tree
def Span.Lt:Span->Span->Prop:=Prod.Lex (·<·) Tree.Lt
def Span.wf:WellFounded Span.Lt:=(Prod.lex ⟨_,Nat.lt_wfRel.wf⟩ ⟨_,Tree.wf⟩).wf
inductive QD:List Span->List Span->Prop
 |head {a b:Span} (l:List Span) (h:Span.Lt a b):QD (a::l) (b::l)
 |tail (x:Span) {l l':List Span} (h:QD l l'):QD (x::l) (x::l')
def QD.Nb {b:Span}(e:Acc Span.Lt b):∀{l:List Span},Acc QD l->Acc QD (b::l):=by
 induction e with
 |intro b _ a=>
  intro l c;induction c with
  |intro l c i=>
   refine⟨_,λy d=> ?_⟩;cases d with
   |head _ h=>exact a _ h ⟨_,c⟩
   |tail _ h=>exact i _ h
def QD.wf:WellFounded QD:=by
 constructor;intro l;induction l with
 |nil=>exact⟨_,λy h=>by cases h⟩
 |cons b l i=>exact QD.Nb (Span.wf.apply b) i
def vec:Nat->(Nat->Span)->List Span
 |0,_=>[]
 |n+1,f=>f 0::vec n λi=>f (i+1)
def put {α:Type}(f:Nat->α)(i:Nat)(x:α):Nat->α:=λj=>if j=i then x else f j
def aZ {α:Type}(f:Nat->α)(i:Nat)(x:α):put f i x i=x:=by simp[put]
def bJ {α:Type}(f:Nat->α){i j:Nat}(x:α)(h:j≠i):put f i x j=f j:=by simp[put,h]
def LB:∀{n:Nat}{f g:Nat->Span},(∀i,i<n->f i=g i)->vec n f=vec n g
 |0,_,_,_=>rfl
 |n+1,f,g,h=>by simp only[vec,h 0 (by omega)];rw[LB λi a=>h (i+1) (by omega)]
def lX:∀{n:Nat}{f:Nat->Span}{i:Nat}{x:Span},i<n->Span.Lt x (f i)->QD (vec n (put f i x)) (vec n f)
 |n+1,f,0,x,_,h=>by simp only[vec,aZ];rw[LB (g:=λi=>f (i+1)) λi _=>by rw[bJ _ _ (by omega)]];exact .head _ h
 |n+1,f,i+1,x,b,h=>by
  simp only[vec];rw[bJ _ _ (by omega)];have e:(λj=>put f (i+1) x (j+1))=put (λj=>f (j+1)) i x:=by funext j;by_cases a:j=i<;>simp[put,a]
  rw[e]
  exact .tail _ (lX (n:=n) (f:=λj=>f (j+1)) (by omega) h)
abbrev Mu:=Nat×Nat×List Span×Nat
def cw:List Span->List Span->Prop:=Relation.TransGen QD
def Mu.Lt:Mu->Mu->Prop:=Prod.Lex (·<·) (Prod.Lex (·<·) (Prod.Lex cw (·<·)))
def cw.wf:WellFounded cw:=QD.wf.transGen
def Mu.wf:WellFounded Mu.Lt:=
 (Prod.lex ⟨_,Nat.lt_wfRel.wf⟩ (Prod.lex ⟨_,Nat.lt_wfRel.wf⟩ (Prod.lex ⟨_,cw.wf⟩ ⟨_,Nat.lt_wfRel.wf⟩))).wf
def Mu.fork {a b c d e f:Nat}{l g:List Span}(h:a<b):Mu.Lt (a,c,l,d) (b,e,g,f):= .left _ _ h
def Mu.count {a c d e f:Nat}{l b:List Span}(h:c<e):Mu.Lt (a,c,l,d) (a,e,b,f):= .right _ (.left _ _ h)
def Mu.one {a c d f:Nat}{l b:List Span}(h:QD l b):Mu.Lt (a,c,l,d) (a,c,b,f):= .right _ (.right _ (.left _ _ (.single h)))
def Mu.two {a c d f:Nat}{l e b:List Span}(h:QD l e)(g:QD e b):Mu.Lt (a,c,l,d) (a,c,b,f):= .right _ (.right _ (.left _ _ (.trans (.single h) (.single g))))
def Mu.bit {a c d f:Nat}{l:List Span}(h:d<f):Mu.Lt (a,c,l,d) (a,c,l,f):= .right _ (.right _ (.right _ h))
end Go.Ren
namespace Go.Wg
open Go.Conc Go.RowKit Go.Conc.Lib Go.ConcR.Gen Go.ConcN Go.ConcN.Gen
open Go.ConcR (KK wgBlock WgAt stA smA rd wr mk Payload DC0)
variable {L:WgLink}
def iE (P:zZ)(mn:Bool)(m:Mark)(K:zU)(g:zH)(w:zW):Prop:=
 g.status= .running/\∃a,stepG P mn g w= .go a w #[mk m]/\K a w
def lr (P:zZ)(mn:Bool)(ty:zD)(Wg:Nat)(K:Nat->zU)(g:zH)(w:zW):Prop:=
 g.status= .running/\∀v:Nat,v<2147483647->WgAt ty Wg w (v*KK) 0->
  ∃a,stepG P mn g w= .go a (w.setCell (stA Wg) (.int aQ ((v+1)*KK))) #[rd (stA Wg),wr (stA Wg)]/\K v a (w.setCell (stA Wg) (.int aQ ((v+1)*KK)))
def On (P:zZ)(mn:Bool)(R:zW->zW->Prop)(Stop:zU)(g:zH)(w:zW):Prop:=∃m,Goes P mn R DC0 Stop m g w
def ar (P:zZ)(mn:Bool)(ty:zD)(Wg:Nat)(K0:zU)(K1:Nat->zU)(g:zH)(w:zW):Prop:=
 g.status= .running/\∀v:Nat,v<2147483648->WgAt ty Wg w (v*KK) 0->∃a,stepG P mn g w= .go a w #[rd (stA Wg)]/\(v=0->K0 a w)/\(v≠0->K1 v a w)
def Sr (P:zZ)(mn:Bool)(ty:zD)(Wg vs:Nat)(b K:zU)(g:zH)(w:zW):Prop:=
 g.status= .running/\∀v:Nat,v<2147483648->WgAt ty Wg w (v*KK) 0->
  (v=vs->∃a,stepG P mn g w= .go a (w.setCell (stA Wg) (.int aQ (v*KK+1))) #[rd (stA Wg),wr (stA Wg)]/\b a (w.setCell (stA Wg) (.int aQ (v*KK+1))))/\
  (v≠vs->∃a,stepG P mn g w= .go a w #[rd (stA Wg)]/\K a w)
def Sn (P:zZ)(mn:Bool)(ty:zD)(Wg:Nat)(K:zU)(g:zH)(w:zW):Prop:=
 g.status= .running/\g.offers=aB/\((∃st,WgAt ty Wg w st 0)->stepG P mn g w= .go {g with status:= .blocked} w #[])/\
  (WgAt ty Wg w 0 1->∃a,stepG P mn g w= .go a (w.setCell (smA Wg) (.int aO 0)) (semEvents (smA Wg))/\K a (w.setCell (smA Wg) (.int aO 0)))
def No (P:zZ)(mn:Bool)(ty:zD)(Wg:Nat)(K:zU)(g:zH)(w:zW):Prop:=
 g.status= .running/\(WgAt ty Wg w 0 0->∃a,stepG P mn g w= .go a w #[rd (stA Wg)]/\K a w)
structure Cn (ty:zD)(Wg:Nat)(R:zW->zW->Prop)(F:zW->Prop):Prop where
 rely:∀{w w₁},(F w/\WgLive ty Wg w)->R w w₁->F w₁/\WgLive ty Wg w₁
 NM:∀{w x},F w->F (w.setCell (stA Wg) x)
 Xf:∀{w x},F w->F (w.setCell (smA Wg) x)
def AtRel (P:zZ)(ty:zD)(Wg:Nat)(g:zH)(w:zW):Prop:=
 g.status= .running/\mayWake P g=aE/\(WgAt ty Wg w 0 0->∃a,stepG P aF g w= .go a (w.setCell (smA Wg) (.int aO 1)) (semEvents (smA Wg))/\∃q,QuitsD P q 1 a)
def Np (P:zZ)(ty:zD)(Wg:Nat)(R:zW->zW->Prop)(g:zH)(w:zW):Prop:=
 g.status= .running/\(WgAt ty Wg w 1 0->∃a,stepG P aF g w= .go a (w.setCell (stA Wg) (.int aQ 0)) #[wr (stA Wg)]/\On P aF R (AtRel P ty Wg) a (w.setCell (stA Wg) (.int aQ 0)))
def Sq (P:zZ)(ty:zD)(Wg:Nat)(R:zW->zW->Prop)(g:zH)(w:zW):Prop:=
 g.status= .running/\(WgAt ty Wg w 1 0->∃a,stepG P aF g w= .go a w #[rd (stA Wg)]/\On P aF R (Np P ty Wg R) a w)
def au (P:zZ)(ty:zD)(Wg:Nat)(R:zW->zW->Prop)(g:zH)(w:zW):Prop:=
 g.status= .running/\∀v wt:Nat,wt<=1->v<2147483647->WgAt ty Wg w (((v:Nat)+1)*KK+wt) 0->
  ∃a,stepG P aF g w= .go a (w.setCell (stA Wg) (.int aQ (v*KK+wt))) #[rd (stA Wg),wr (stA Wg)]/\
   (v=0/\wt=1->On P aF R (Sq P ty Wg R) a (w.setCell (stA Wg) (.int aQ (v*KK+wt))))/\(¬(v=0/\wt=1)->∃q,QuitsD P q 1 a)
end Go.Wg
set_option linter.unusedSimpArgs false
namespace Go.Conc
section
variable {P:zZ}{gs:zG}{w w₁:zW}{sl:Option (Nat×Nat)}{i k:Nat}{g yR:zH}{es:zE}{cases:Array CommCase}{shape:CommShape}{blocking:Bool}
 {c cap s r:Nat} {closed tm:Bool} {z:zY}
def oX (N:gs[i]? =aA g)(h:stepG P (i==0) g w= .comm yR cases blocking shape w₁ es)(K:cases[k]? =aA (rcase c z))
  (J:∀(m:Nat)(c':CommCase),m≠k->cases[m]? =aA c'->NoWays w₁ (gs.setIfInBounds i ph) c')
  (G:w₁.heap[c]? =aA (.chan cap #[] closed s r tm))
  (t:partners (gs.setIfInBounds i ph) c aE≠[])
  (u:∀j k,(j,k)∈partners (gs.setIfInBounds i ph) c aE->k=0/\j≠i/\∃q v zj f,gs[j]? =aA (parked q #[scase c v zj] f)):
  ∃(j:Nat)(q:zH)(v zj:zY)(f:CommShape)(d:Nat),j≠i/\gs[j]? =aA (parked q #[scase c v zj] f)/\
   runT P (crowd gs w sl) i=(.next (crowd ((gs.setIfInBounds j (q.finishComm P #[scase c v zj] f 0 undef aF)).setIfInBounds i (yR.finishComm P cases shape k v aE)) ((w₁.at d).setChan c cap #[] closed (s+1) (r+1) tm) sl),
    aCL i g.frame.fn g.frame.place es++ #[{g:=j,fn:=q.frame.fn,pos:=q.frame.place,act:= .send c s},{g:=i,fn:=yR.frame.fn,pos:=yR.frame.place,act:= .recv c r cap},
     {g:=j,fn:=q.frame.fn,pos:=q.frame.place,act:= .sendDone c s},{g:=i,fn:=yR.frame.fn,pos:=yR.frame.place,act:= .recvDone c r}]):=by
 generalize H:partners (gs.setIfInBounds i ph) c aE=a at t u
 have l:0<a.length:=List.length_pos_iff.2 t
 obtain⟨b,d,O,e⟩:∃b d,b<a.length/\(if(aCM "which waiting goroutine is the partner" a.length).forced=aE then(b=0/\d=w₁.drawn)else(b=(aCM "which waiting goroutine is the partner" a.length).cut (w₁.tape w₁.drawn (.extern "which waiting goroutine is the partner" a.length))/\d=w₁.drawn+1)):=by
  by_cases y:(aCM "which waiting goroutine is the partner" a.length).forced=aE
  .exact⟨0,w₁.drawn,l,by rw[zAk y];exact⟨rfl,rfl⟩⟩
  .refine⟨_,w₁.drawn+1,?_,by rw[zAh y];exact⟨rfl,rfl⟩⟩;simp only[aCN];rw[zAh (by omega)];exact zFu _ l
 obtain⟨⟨j,M⟩,n⟩:∃p,a[b]? =aA p:=⟨a[b],zAf O⟩
 obtain⟨rfl,C,q,v,zj,f,L⟩:=u j M (zCq n)
 refine⟨j,q,v,zj,f,d,C,L,?_⟩
 rw[runT_crowd_comm N h]
 have o:=stand_get (i:=i) C L
 have F:=finishPartner_at P (gs.setIfInBounds i ph) o (cs:= #[scase c v zj]) (sh:=f) rfl 0 undef
 have E:(gs.setIfInBounds i ph).getD j default=parked q #[scase c v zj] f:=by rw[zBi,o];rfl
 have B:offeredValue (gs.setIfInBounds i ph) j 0=v:=by simp[offeredValue,o,parked,scase]
 have I:ways w₁ (gs.setIfInBounds i ph) (rcase c z)=a.map λ(h,k)=>Way.partner h k:=by
  simp only[ways,rcase,G,H];cases a with
  |nil=>exact absurd rfl t
  |cons p a=>simp
 have A:(a.map λ(h,k)=>Way.partner h k)≠[]:=by cases a with
  |nil=>exact absurd rfl t
  |cons p a=>simp
 have D:=getD_map_partner a b (j,0) n
 unfold communicate
 simp only[ready_one K (by rw[I];exact A) J,I]
 rw[zAh]
 .by_cases y:(aCM "which waiting goroutine is the partner" a.length).forced=aE
  .rw[zAk y]at e;obtain⟨rfl,rfl⟩:=e;have x:a.length=1:=by simpa [aCO]using y
   have Q:a[0]'l=(j,0):=(zAi.1 n).2;simp[choose,Sem.run,aCO,bind,Sem.bind,pure,x,D,n,Q,o,B,rcase,G,World.setChan,crowd,F,E,set_stand2,finishComm_parked,scase,parked,World.at,-World.drew_eq];rfl
  .rw[zAh y]at e;obtain⟨rfl,rfl⟩:=e;have x:¬a.length=1:=by simpa [aCO]using y
   simp[choose,Sem.run,aCO,bind,Sem.bind,pure,x,D,n,o,B,rcase,G,World.setChan,crowd,F,E,set_stand2,finishComm_parked,scase,parked,World.at,-World.drew_eq];rfl
 .rw[Bool.not_eq_true];exact any_ill (made_of_one K (made_recv z G) J)
end
end Go.Conc
namespace Go.Ga
open Go.Conc Go.Ren Go.Tr Go.Wg
open Go.ConcR (KK WgAt stA smA mk DC0)
open Go.ConcN (WgLive)
structure Sp where
 P:zZ
 ty:zD
 Wg:Nat
 Cr:Nat
 Cd:Nat
 n:Nat
 m0:Nat
 val:Nat->zY
 M:(zP)->(zP)->(zP)->zU
 Fin:(zP)->(zP)->zU
 lH:zU
 mX:zP
variable(S:Sp)
abbrev Sp.J (w:zW):Prop:=WgLive S.ty S.Wg w
abbrev Sp.R (_ w₁:zW):Prop:=WgLive S.ty S.Wg w₁
abbrev Sp.On (Stop:zU):zU:=Go.Wg.On S.P aF S.R Stop
abbrev Sp.Goes (Stop:zU)(m:Nat):zU:=Go.Conc.Goes S.P aF S.R DC0 Stop m
def Sp.D4:zU:=au S.P S.ty S.Wg S.R
def Sp.D5:zU:=iE S.P aF .disable (S.On S.D4)
def Sp.D6:zU:=iE S.P aF (.releaseMerge (stA S.Wg)) (S.On S.D5)
def Sp.D3:zU:=Sq S.P S.ty S.Wg S.R
def Sp.D2:zU:=Np S.P S.ty S.Wg S.R
def Sp.D1:zU:=AtRel S.P S.ty S.Wg
def Sp.AtSend (v:zY)(_ _:zP)(g:zH)(w:zW):Prop:=
 g.status= .running/\∃a z,stepG S.P aF g w= .comm a #[scase S.Cr v z] aE .send w #[]/\S.On S.D6 (Go.Conc.served a undef) w
inductive Sp.WSit (v:zY)(rs ws:zP):Span->Nat->zU
 |busy {tr g w} (h:cX S.P aF S.J (S.AtSend v) tr rs ws g w):Sp.WSit v rs ws (9,tr) 0 g w
 |parked {m g z w} (h:S.Goes S.D6 m (Go.Conc.served g undef) w):Sp.WSit v rs ws (8,.leaf) 0 (parked g #[scase S.Cr v z] .send) w
 |rm {m g w} (h:S.Goes S.D6 m g w):Sp.WSit v rs ws (7,.nat m) 0 g w
 |ED {m g w} (h:S.Goes S.D5 m g w):Sp.WSit v rs ws (6,.nat m) 0 g w
 |dn {m g w} (h:S.Goes S.D4 m g w):Sp.WSit v rs ws (5,.nat m) 1 g w
 |one {m g w} (h:S.Goes S.D3 m g w):Sp.WSit v rs ws (3,.nat m) 1 g w
 |null {m g w} (h:S.Goes S.D2 m g w):Sp.WSit v rs ws (2,.nat m) 1 g w
 |rel {m g w} (h:S.Goes S.D1 m g w):Sp.WSit v rs ws (1,.nat m) 1 g w
 |quit {q d g w} (h:QuitsD S.P q d g):Sp.WSit v rs ws (0,.nat q) d g w
def Sp.ao (g:zH)(w:zW):Prop:=
 g.status= .running/\mayWake S.P g=aE/\∀cap s r t,w.heap[S.Cd]? =aA (.chan cap #[] aF s r t)->
  ∃a,stepG S.P aF g w= .go a (w.setChan S.Cd cap #[] aE s r t) (closeEvents S.Cd)/\∃q,QuitsD S.P q 0 a
def Sp.aq:zU:=iE S.P aF (.acquire (stA S.Wg)) (S.On S.ao)
def Sp.ll:zU:=iE S.P aF .enable (S.On S.aq)
def Sp.Sm:zU:=No S.P aF S.ty S.Wg (S.On S.ll)
def Sp.Vv:zU:=Sn S.P aF S.ty S.Wg (S.On S.Sm)
def Sp.sr:zU:=iE S.P aF (.write (smA S.Wg)) (S.On S.Vv)
def Sp.Vx (v:Nat):zU:=Sr S.P aF S.ty S.Wg v (S.On S.sr) (S.On S.lH)
def Sp.de:zU:=ar S.P aF S.ty S.Wg (S.On S.ll) λv=>S.On (S.Vx v)
def Sp.Vw:zU:=iE S.P aF .disable (S.On S.lH)
inductive Sp.CSit (V:Nat)(rs ws:zP):Span->Nat->zU
 |busy {tr g w} (h:cX S.P aF S.J (λ_ _=>S.Vw) tr rs ws g w):Sp.CSit V rs ws (15,tr) 0 g w
 |CQ {m v g w} (h:S.Goes (S.Vx v) m g w) (hv:V<v):Sp.CSit V rs ws (13,.nat m) 1 g w
 |anch {m g w} (h:S.Goes S.lH m g w):Sp.CSit V rs ws (12,.nat m) 1 g w
 |ld {m g w} (h:S.Goes S.de m g w):Sp.CSit V rs ws (10,.nat m) 1 g w
 |Vh {m g w} (h:S.Goes (S.Vx V) m g w) (hv:V≠0):Sp.CSit V rs ws (8,.nat m) 1 g w
 |wm {m g w} (h:S.Goes S.sr m g w):Sp.CSit V rs ws (7,.nat m) 1 g w
 |Eb {m g w} (h:S.Goes S.Vv m g w):Sp.CSit V rs ws (6,.nat m) 1 g w
 |blk {m g w} (h:S.Goes S.Vv m g w) (ho:g.offers=aB) (hr:g.status= .running):Sp.CSit V rs ws (6,.nat m) 1 {g with status:= .blocked} w
 |zero {m g w} (h:S.Goes S.Sm m g w):Sp.CSit V rs ws (5,.nat m) 1 g w
 |en {m g w} (h:S.Goes S.ll m g w):Sp.CSit V rs ws (4,.nat m) 1 g w
 |acq {m g w} (h:S.Goes S.aq m g w):Sp.CSit V rs ws (3,.nat m) 0 g w
 |cl {m g w} (h:S.Goes S.ao m g w):Sp.CSit V rs ws (2,.nat m) 0 g w
 |quit {q d g w} (h:QuitsD S.P q d g):Sp.CSit V rs ws (0,.nat q) d g w
def Sp.cases (z a:zY):Array CommCase:= #[rcase S.Cr z,rcase S.Cd a]
def add (R:zP)(i:Nat):zP:=λk=>R k\/k=i
structure Sp.Nd (R rs ws:zP)(yR:zH)(sh:CommShape)(zr zd:zY)(w:zW):Prop where
 again:∀w₁,cQ rs ws w w₁->S.J w₁->stepG S.P aE {yR with status:= .running} w₁= .comm yR (S.cases zr zd) aE sh w₁ #[]
 got:∀i,i<S.n->¬R i->∃tr,cX S.P aE S.J (S.M (add R i)) tr rs ws (yR.finishComm S.P (S.cases zr zd) sh 0 (S.val i) aE) w
 done:(∀i,i<S.n->R i)->∀w₁,cQ rs ws w w₁->S.J w₁->S.Fin rs ws (yR.finishComm S.P (S.cases zr zd) sh 1 zd aF) w₁
def ak (S:Sp)(rs ws:zP)(e:Event):Prop:=
 VU rs ws e\/(∃a wr,e=⟨.cell a,wr,aE⟩/\a.block=S.Wg)\/e=mk .disable\/e=mk .enable\/∃a,e=mk (.read a)/\a.block=S.Wg
def Sp.dX (St:(zP)->(zP)->zU):Tree->Nat->(zP)->(zP)->zU
 | .leaf,d,rs,ws,g,w=>d=0/\∀a,cQ rs (λb=>ws b\/b=S.Wg) w a->St rs ws g a
 | .node ch,d,rs,ws,g,w=>g.status= .running/\∀a,cQ rs (λb=>ws b\/b=S.Wg) w a->∃h c f,stepG S.P aE g a= .go h c f/\Go.Ren.Does (λb=>ws b\/b=S.Wg) a c/\S.J c/\(∀e∈f,ak S rs (grown ws a c) e)/\Sp.dX St (ch a) (deafBehind d f) rs (grown ws a c) h c
def Sp.Fk:Nat->(zP)->(zP)->zU
 |0=>λrs a g w=>g.status= .running/\WgAt S.ty S.Wg w (S.n*KK) 0/\∃c child h,stepG S.P aE g w= .spawn c child w #[]/\(∀b,h b->rs b\/a b)/\
   (∃t,cX S.P aF S.J (λ_ _=>S.Vw) t h (λ_=>False) child w)/\∃t,cX S.P aE S.J (S.M λ_=>False) t (λb=>rs b\/h b) (λb=>a b/\¬h b) c w
 |k+1=>λrs a g w=>g.status= .running/\∃c child h,stepG S.P aE g w= .spawn c child w #[]/\(∀b,h b->rs b\/a b)/\
   (∃t,cX S.P aF S.J (S.AtSend (S.val (S.n-1-k))) t h (λ_=>False) child w)/\∃t,S.dX (Sp.Fk k) t 0 (λb=>rs b\/h b) (λb=>a b/\¬h b) c w
inductive Sp.JO (R rs ws:zP)(u:Nat):Span->zU
 |busy {tr g w} (h:cX S.P aE S.J (S.M R) tr rs ws g w):Sp.JO R rs ws u (3*u+2,tr) g w
 |parked {g sh zr zd w} (h:S.Nd R rs ws g sh zr zd w):Sp.JO R rs ws u (3*u+1,.leaf) (parked g (S.cases zr zd) sh) w
 |tries {g sh zr zd w} (h:S.Nd R rs ws g sh zr zd w):Sp.JO R rs ws u (3*u,.leaf) {parked g (S.cases zr zd) sh with status:= .running} w
variable {S}
def Sp.Goes.rely {Stop:zU}{m:Nat}{g:zH}{w w₁:zW}(h:S.Goes Stop m g w)(j:S.J w₁):S.Goes Stop m g w₁:=
 Go.Conc.Goes.rely (λ_ _ _ _ x=>x) h j
def Sp.WSit.rely {v:zY}{rs ws:zP}{f:Span}{d:Nat}{g:zH}{w w₁:zW}(h:S.WSit v rs ws f d g w)(r:cQ rs ws w w₁)(j:S.J w₁):S.WSit v rs ws f d g w₁:=by
 cases h with
 |busy h=>exact .busy (h.rely r)
 |parked h=>exact .parked (Sp.Goes.rely h j)
 |rm h=>exact .rm (Sp.Goes.rely h j)
 |ED h=>exact .ED (Sp.Goes.rely h j)
 |dn h=>exact .dn (Sp.Goes.rely h j)
 |one h=>exact .one (Sp.Goes.rely h j)
 |null h=>exact .null (Sp.Goes.rely h j)
 |rel h=>exact .rel (Sp.Goes.rely h j)
 |quit h=>exact .quit h
def Sp.CSit.rely {V:Nat}{rs ws:zP}{f:Span}{d:Nat}{g:zH}{w w₁:zW}(h:S.CSit V rs ws f d g w)(r:cQ rs ws w w₁)(j:S.J w₁):S.CSit V rs ws f d g w₁:=by
 cases h with
 |busy h=>exact .busy (h.rely r)
 |CQ h a=>exact .CQ (Sp.Goes.rely h j) a
 |anch h=>exact .anch (Sp.Goes.rely h j)
 |ld h=>exact .ld (Sp.Goes.rely h j)
 |Vh h a=>exact .Vh (Sp.Goes.rely h j) a
 |wm h=>exact .wm (Sp.Goes.rely h j)
 |Eb h=>exact .Eb (Sp.Goes.rely h j)
 |blk h c b=>exact .blk (Sp.Goes.rely h j) c b
 |zero h=>exact .zero (Sp.Goes.rely h j)
 |en h=>exact .en (Sp.Goes.rely h j)
 |acq h=>exact .acq (Sp.Goes.rely h j)
 |cl h=>exact .cl (Sp.Goes.rely h j)
 |quit h=>exact .quit h
def Sp.Nd.rely {R rs ws:zP}{g:zH}{sh:CommShape}{z c:zY}{w w₁:zW}(h:S.Nd R rs ws g sh z c w)(r:cQ rs ws w w₁):S.Nd R rs ws g sh z c w₁:=
 ⟨λa b j=>h.again a (r.trans b) j,λi e d=>let⟨t,x⟩:=h.got i e d;⟨t,x.rely r⟩,λf a b j=>h.done f a (r.trans b) j⟩
def Sp.JO.rely {R rs ws:zP}{u:Nat}{f:Span}{g:zH}{w w₁:zW}(h:S.JO R rs ws u f g w)(r:cQ rs ws w w₁):S.JO R rs ws u f g w₁:=by
 cases h with
 |busy h=>exact .busy (h.rely r)
 |parked h=>exact .parked (h.rely r)
 |tries h=>exact .tries (h.rely r)
def Sp.dX.rely {St:(zP)->(zP)->zU}{t:Tree}{d:Nat}{rs ws:zP}{g:zH}{w w₁:zW}(h:S.dX St t d rs ws g w)(r:cQ rs (λb=>ws b\/b=S.Wg) w w₁):S.dX St t d rs ws g w₁:=by
 cases t with
 |leaf=>exact⟨h.1,λa c=>h.2 a (r.trans c)⟩
 |node ch=>exact⟨h.1,λa c=>h.2 a (r.trans c)⟩
end Go.Ga
namespace Go.Ga
open Go.Conc Go.Ren Go.Tr Go.Wg
open Go.ConcR (KK WgAt stA smA mk DC0)
open Go.ConcN (WgLive)
variable(S:Sp)
def Sp.at' (b:Nat):Prop:=S.mX b\/b=S.Wg\/b=S.Cr\/b=S.Cd
def Sp.pm (rs ws:Nat->zP)(sdo:Nat):Pm:=⟨rs,ws,λj b=>b=S.Wg/\j=sdo,S.at'⟩
structure Sp.Base (N:Nat)(w:zW)(t:Trace)(rs ws:Nat->zP)(sdo:Nat)(Live:zP):Prop where
 lt:∀{j b},rs j b\/ws j b->b<w.heap.size
 QE:∀{j k b},ws j b->ws k b->j=k
 QF:∀{j k b},ws j b->rs k b->j=k
 off:∀{j b},rs j b\/ws j b->¬S.at' b
 oV:∀{b},S.at' b->b<w.heap.size
 live:S.J w
 ti:TI t (S.pm rs ws sdo) Live
 low:∀op∈t,op.act.low w.heap.size
 above:∀j,N<=j->Deaf t j=0
def EvS (sdo j:Nat)(rs ws:zP)(e:Event):Prop:=
 VU rs ws e\/(∃a wr,e=⟨.cell a,wr,aE⟩/\a.block=S.Wg)\/e=mk .disable\/e=mk .enable\/(∃a,(e=mk (.releaseMerge a)\/e=mk (.acquire a))/\a.block=S.Wg)\/
  (j=sdo/\∃a,(e=mk (.read a)\/e=mk (.write a))/\a.block=S.Wg)\/(∃wr,e=⟨.obj S.Cd,wr,aE⟩)\/e.mute=aE
variable {S}
def Sp.Base.ok {N:Nat}{w:zW}{t:Trace}{rs ws:Nat->zP}{sdo:Nat}{Live:zP}(h:S.Base N w t rs ws sdo Live):(S.pm rs ws sdo).Ok where
 Tz:=h.QE
 Ua:=h.QF
 Mw:=λa x=>h.off (aG x) a
 ZT:=λa x=>h.off (aH x) a
 Xm:=λa b=>a.2.trans b.2.symm
 WX:=λa=>aH (aG a.1)
def Bb {B:Nat}{x:MemAct}{a:Touch}(h:x.low B)(c:x.touch? =aA a){b:Nat}(d:blk a.loc=aA b):b<B:=by
 cases x with
 |access e=>simp only[MemAct.touch?,aCP]at c;subst c;simp only[MemAct.low]at h;cases f:e.loc<;>rw[f]at d h<;>simp_all [blk,Loc.low]
 |mark m=>
  cases m<;>simp only[MemAct.touch?,aCP,reduceCtorEq]at c;all_goals
   subst c
   simp only[blk,aCP]at d
   subst d
   exact h
 |_=>simp[MemAct.touch?]at c
def Sp.Base.fresh {N:Nat}{w:zW}{t:Trace}{rs ws:Nat->zP}{sdo:Nat}{Live:zP}(h:S.Base N w t rs ws sdo Live){b:Nat}(g:w.heap.size<=b):∀i a,touchAt t i=aA a->blk a.loc≠aA b:=by intro i a f e;obtain⟨op,d,c⟩:=touch_of f;have:=Bb (h.low op (zBc d)) c e;omega
def My {sdo j:Nat}{rs ws:Nat->zP}{e:Event}(h:EvS S sdo j (rs j) (ws j) e):∀x,(MemAct.ofEvent e).touch? =aA x->Ss (S.pm rs ws sdo) j x:=by
 intro x c b d;obtain((⟨a,wr,s,rfl,h⟩|⟨r,s,rfl,h⟩|h|h|⟨f,h⟩))|⟨a,wr,rfl,h⟩|rfl|rfl|⟨a,rfl|rfl,h⟩|⟨rfl,a,rfl|rfl,h⟩|⟨wr,rfl⟩|h:=h
 .have:MemAct.ofEvent ⟨.cell a,wr,s⟩= .access ⟨.cell a,wr,s⟩:=rfl;rw[this]at c;simp only[MemAct.touch?,aCP]at c;subst c;simp only[blk,aCP]at d;subst d;obtain h|⟨i,g⟩:=h
  .exact aH (aG ⟨by cases s<;>simp,h⟩)
  .exact aG ⟨by cases s<;>simp,i,aG g⟩
 .have:MemAct.ofEvent ⟨.obj r,aF,s⟩= .access ⟨.obj r,aF,s⟩:=rfl;rw[this]at c;simp only[MemAct.touch?,aCP]at c;subst c;simp only[blk,aCP]at d;subst d;exact aG ⟨by cases s<;>simp,rfl,h.elim aH aG⟩
 .obtain⟨loc,wr,s⟩:=e;simp only at h;subst h;simp[MemAct.ofEvent,MemAct.touch?]at c
 .obtain⟨loc,wr,s⟩:=e;simp only at h;subst h;simp only[MemAct.ofEvent,MemAct.touch?,aCP]at c;subst c;simp[blk]at d
 .obtain⟨loc,wr,s⟩:=e;simp only at h;subst h;simp[MemAct.ofEvent,MemAct.touch?]at c
 .have:MemAct.ofEvent ⟨.cell a,wr,aE⟩= .access ⟨.cell a,wr,aE⟩:=rfl;rw[this]at c;simp only[MemAct.touch?,aCP]at c;subst c;simp only[blk,aCP]at d;subst d;exact aH (aH (aG ⟨rfl,aH (aG h)⟩))
 .simp[mk,MemAct.ofEvent,MemAct.touch?]at c
 .simp[mk,MemAct.ofEvent,MemAct.touch?]at c
 .simp[mk,MemAct.ofEvent,MemAct.touch?]at c
 .simp[mk,MemAct.ofEvent,MemAct.touch?]at c
 .simp only[mk,MemAct.ofEvent,MemAct.touch?,aCP]at c;subst c;simp only[blk,aCP]at d;subst d;exact aH (aH (aH ⟨rfl,h,rfl⟩))
 .simp only[mk,MemAct.ofEvent,MemAct.touch?,aCP]at c;subst c;simp only[blk,aCP]at d;subst d;exact aH (aH (aH ⟨rfl,h,rfl⟩))
 .cases wr with
  |true=>simp[MemAct.ofEvent,MemAct.touch?]at c
  |false=>simp only[MemAct.ofEvent,MemAct.touch?,aCP]at c;subst c;simp only[blk,aCP]at d;subst d;exact aH (aH (aG ⟨rfl,aH (aH (aH rfl))⟩))
 .rw[touch_mute h]at c;cases c
def Um {sdo j B:Nat}{rs ws:zP}{e:Event}(h:EvS S sdo j rs ws e)(c:∀b,rs b\/ws b->b<B)(g:S.Wg<B)(d:S.Cd<B):(MemAct.ofEvent e).low B:=by
 obtain((⟨a,wr,s,rfl,h⟩|⟨r,s,rfl,h⟩|h|h|⟨f,h⟩))|⟨a,wr,rfl,h⟩|rfl|rfl|⟨a,rfl|rfl,h⟩|⟨rfl,a,rfl|rfl,h⟩|⟨wr,rfl⟩|h:=h
 .have:MemAct.ofEvent ⟨.cell a,wr,s⟩= .access ⟨.cell a,wr,s⟩:=rfl;rw[this];exact c _ (h.elim aH λx=>aG x.2)
 .have:MemAct.ofEvent ⟨.obj r,aF,s⟩= .access ⟨.obj r,aF,s⟩:=rfl;rw[this];exact c _ (h.elim aH aG)
 .obtain⟨loc,wr,s⟩:=e;simp only at h;subst h;trivial
 .obtain⟨loc,wr,s⟩:=e;simp only at h;subst h;trivial
 .obtain⟨loc,wr,s⟩:=e;simp only at h;subst h;trivial
 .have:MemAct.ofEvent ⟨.cell a,wr,aE⟩= .access ⟨.cell a,wr,aE⟩:=rfl;rw[this];show a.block<B
  omega
 .trivial
 .trivial
 .show a.block<B
  omega
 .show a.block<B
  omega
 .show a.block<B
  omega
 .show a.block<B
  omega
 .cases wr<;>exact d
 .exact low_mute h B
def Sp.JQ (ws:zP):zP:=λb=>ws b\/b=S.Wg\/b=S.Cr\/b=S.Cd
section
variable {N:Nat}{w w':zW}{t:Trace}{rs ws:Nat->zP}{sdo j:Nat}{Live:zP}{fn:zN}{pos:String}{es:zE}
def Sp.Base.lK (h:S.Base N w t rs ws sdo Live)(d:Go.Ren.Does (Sp.JQ (S:=S) (ws j)) w w'){k:Nat}(f:k≠j):cQ (rs k) (ws k) w w':=by
 refine⟨λb c=>d.keep b (h.lt c) λa=> ?_,d.size,d.tape,d.os,d.output⟩;have e:=h.off c;obtain a|a|a|a:=a
 .obtain c|c:=c
  .exact f (h.QF a c).symm
  .exact f (h.QE a c).symm
 .exact e (aH (aG a))
 .exact e (aH (aH (aG a)))
 .exact e (aH (aH (aH a)))
def Sp.Base.own (h:S.Base N w t rs ws sdo Live)(E:j<N)(s:Go.Ren.Does (Sp.JQ (S:=S) (ws j)) w w')(L:S.J w')(H:∀e∈es,EvS S sdo j (rs j) (grown (ws j) w w') e)
  (p:j=0\/Live j\/∀k e,es[k]? =aA e->(MemAct.ofEvent e).touch? =aB\/((∃a wr,e=⟨.cell a,wr,aE⟩/\a.block=S.Wg)/\0<deafBehind (Deaf t j) (es.extract 0 k))):
  S.Base N w' (t++aCL j fn pos es) rs (put ws j (grown (ws j) w w')) sdo Live:=by
 have f:∀k b,put ws j (grown (ws j) w w') k b->ws k b\/(k=j/\w.heap.size<=b/\b<w'.heap.size):=λk b c=>by
  by_cases e:k=j
  .subst e;rw[aZ]at c;exact c.imp id λx=>⟨rfl,x⟩
  .rw[bJ _ _ e]at c;exact aG c
 have z:∀k b,ws k b->put ws j (grown (ws j) w w') k b:=λk b c=>by
  by_cases e:k=j
  .subst e;rw[aZ];exact aG c
  .rw[bJ _ _ e];exact c
 have o:∀op∈aCL j fn pos es,op.g=j:=λop d=>by obtain⟨e,_,rfl⟩:=Go.Conc.mem_ofEvents d;rfl
 have base:S.Base N w' t rs (put ws j (grown (ws j) w w')) sdo Live:=by
  refine⟨λ{k b} c=> ?_,λ{k A b} c n=> ?_,λ{k A b} c n=> ?_,λ{k b} c=> ?_,λ{b} c=>zAc (h.oV c) s.size,L,?_,λop d=>MemAct.low_mono s.size (h.low op d),h.above⟩
  .obtain c|c:=c
   .exact zAc (h.lt (aG c)) s.size
   .obtain x|x:=f k b c
    .exact zAc (h.lt (aH x)) s.size
    .exact x.2.2
  .obtain x|x:=f k b c<;>obtain y|y:=f A b n
   .exact h.QE x y
   .have:=h.lt (aH x);omega
   .have:=h.lt (aH y);omega
   .exact x.1.trans y.1.symm
  .obtain x|x:=f k b c
   .exact h.QF x n
   .have:=h.lt (aG n);omega
  .obtain c|c:=c
   .exact h.off (aG c)
   .obtain x|x:=f k b c
    .exact h.off (aH x)
    .intro m;have:=h.oV m;omega
  .refine h.ti.to (λk b c=>aG (aG c)) (λk b c=> ?_) (λk b c=>aG (aG c)) (λb c=>aG c) (λb c=>c) (λk q=>q);obtain x|x:=f k b c
   .exact aG x
   .exact aH (h.fresh x.2.1)
 have r:∀e∈es,EvS S sdo j (rs j) (put ws j (grown (ws j) w w') j) e:=λe m=>by rw[aZ];exact H e m
 refine⟨base.lt,base.QE,base.QF,base.off,base.oV,base.live,?_,?_,λk q=> ?_⟩
 .refine base.ti.own base.ok o ?_ (λop d x m=> ?_)
  .obtain p|p|p:=p
   .exact aG p
   .exact aH (aG p)
   .refine aH (aH λi op F d x m O=> ?_);have q:(aCL j fn pos es)[i-t.size]? =aA op:=by
     rw[Array.getElem?_append]at d;simpa [zFz.2 F]using d
    rw[ofEvents_eq,zCt]at q;obtain⟨e,l,rfl⟩:=zBx.1 q;have D:i-t.size<es.size:=(zAb.1 l).1;obtain C|⟨⟨a,wr,rfl,K⟩,I⟩:=p _ e l
    .simp only at m;rw[C]at m;cases m
    .have:MemAct.ofEvent ⟨.cell a,wr,aE⟩= .access ⟨.cell a,wr,aE⟩:=rfl;simp only[this,MemAct.touch?,aCP]at m;subst m;refine⟨⟨a.block,rfl,aH (aG K),rfl⟩,λG=> ?_⟩;obtain⟨g,B,v⟩:=G;have u:g=j:=by
      simp only[Trace.g?,d,zAx,aCP]at B;exact B.symm
     subst u;have M:=deaf_inside t g fn pos es (i-t.size) (by omega);rw[show t.size+(i-t.size)=i by omega,v]at M;omega
  .obtain⟨e,l,rfl⟩:=Go.Conc.mem_ofEvents d;exact My (r e l) x m
 .refine seen_app base.low λop d=> ?_;obtain⟨e,l,rfl⟩:=Go.Conc.mem_ofEvents d;exact Um (r e l) (λb c=>base.lt c) (base.oV (aH (aG rfl))) (base.oV (aH (aH (aH rfl))))
 .rw[Deaf_other t (by omega) _ o];exact base.above k q
end
end Go.Ga
