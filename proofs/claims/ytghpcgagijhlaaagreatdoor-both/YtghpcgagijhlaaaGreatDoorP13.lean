import Derived.Test.YtghpcgagijhlaaaGreatDoorP12
set_option linter.all false
set_option maxRecDepth 100000
set_option maxHeartbeats 16000000
open Option renaming some->aA
open Bool renaming true->aE,false->aF
open Or renaming inl->aG,inr->aH
open Go.MemOp renaming ofEvents->aCL
open Option.some renaming injEq->aCP
namespace Go.Ga
open Go.Conc Go.Ren Go.Tr Go.Wg
open Go.ConcR (KK WgAt stA smA DC0)
open Go.ConcN (WgLive sumTo sumTo_congr sumTo_upd upd upd_same upd_ne le_sumTo)
variable {S:Sp}
def nY {R:zP}{u V:Nat}{rs ws:Nat->zP}{d:Nat}{f:Span}{g:zH}{w:zW}(a:0<S.m0)(h:S.CSit V (rs (S.m0+S.n)) (ws (S.m0+S.n)) f d g w):S.VN R u V rs ws (S.m0+S.n) f d g w:=
 ⟨λe=>by omega,λ_ e=>by omega,λk b e=>by omega,λ_=>h⟩
section
variable {f:Nat->Span}{gs:zG}{w w':zW}{t:Trace}{rs ws:Nat->zP}{g g':zH}{es:zE}{s:Span}{sl:Option (Nat×Nat)}
def nO (f:Nat->Span)(s:Span):S.V (put f (S.m0+S.n) s)=S.V f:=(gY (S:=S) λk h e=>by omega).2.2
def kY (f:Nat->Span)(s:Span):S.ph (put f (S.m0+S.n) s) S.n=s.1:=fL f S.n s
def kN {f:Nat->Span}{s:Span}(h:S.kI f):S.kI (put f (S.m0+S.n) s):=λk a x=>h k a (by unfold Sp.kO at x⊢;rwa [dL _ _ (by omega)]at x)
def Sl {f:Nat->Span}{s:Span}{i:Nat}(h:S.kD f i):S.kD (put f (S.m0+S.n) s) i:=⟨h.1,λk b a x=>h.2 k b a (by unfold Sp.kO at x⊢;rwa [dL _ _ (by omega)]at x)⟩
def Sp.dQ.jS (H:S.Good)(h:S.dQ f gs w t rs ws)(C:gs[S.m0+S.n]? =aA g)(m:stepG S.P aF g w= .go g' w' es)(bU:Span.Lt s (f (S.m0+S.n)))(d:w'=w\/∃a v,w'=w.setCell a v/\a.block=S.Wg)(I:S.J w')
  (q:∀e∈es,(∃a wr,e=(⟨.cell a,wr,aE⟩:Event)/\a.block=S.Wg)\/e=Go.ConcR.mk .disable\/e=Go.ConcR.mk .enable\/e=Go.ConcR.mk (.acquire (stA S.Wg))\/e=Go.ConcR.mk (.write (smA S.Wg))\/e.mute=aE)
  (u:s.1=0↔S.ph f S.n=0) (p:S.ph f S.n=0->∀e∈es,e.mute=aE)
  (l:S.CSit (S.V f) (rs (S.m0+S.n)) (ws (S.m0+S.n)) s (deafBehind (Deaf t (S.m0+S.n)) es) g' w')
  (i:S.Mode (put f (S.m0+S.n) s) g'.status w'):S.Step f gs w sl t (S.m0+S.n):=by
 have r:=h.pos
 have B:=h.size
 have F:Go.Ren.Does (Sp.JQ (S:=S) (ws (S.m0+S.n))) w w':=by
  obtain rfl|⟨a,v,rfl,j⟩:=d
  .exact uS _ _
  .exact BV _ w a v j
 have D:put ws (S.m0+S.n) (grown (ws (S.m0+S.n)) w w')=ws:=by
  obtain rfl|⟨a,v,rfl,j⟩:=d
  .exact jE _ _ _
  .exact oE _ _ _ _ _
 have c:∀b,b≠S.Wg->w'.heap[b]? =w.heap[b]? :=λb G=>by
  obtain rfl|⟨a,v,rfl,j⟩:=d
  .rfl
  .exact uM w a v (by rw[j];exact G)
 refine h.go_own (s:=s) H C (by rw[eH r];exact m) bU F I (λe A=> ?_) (aH (aG (aH rfl))) (c _ λe=>H.chans.2.1 e.symm) (c _ λe=>H.chans.2.2 e.symm) (λk p e=>by omega) (λk p e x=>by omega) (λ_=>u) (λe=>by omega) ?_ (λy z=> ?_) (λ_ K e E=>touch_mute (p K e E))
 .obtain⟨a,wr,rfl,j⟩|rfl|rfl|rfl|rfl|x:=q e A
  .exact aH (aG ⟨_,_,rfl,j⟩)
  .exact aH (aH (aG rfl))
  .exact aH (aH (aH (aG rfl)))
  .exact aH (aH (aH (aH (aG ⟨_,aH rfl,rfl⟩))))
  .exact aH (aH (aH (aH (aH (aG ⟨rfl,_,aH rfl,rfl⟩)))))
  .exact aH (aH (aH (aH (aH (aH (aH x))))))
 .rw[D];exact nY r l
 .obtain⟨_,rfl⟩|⟨o,_⟩:=iT _ _ _ _ _ _ z
  .exact i
  .exact absurd rfl o
def Sp.dQ.Rx (h:S.dQ f gs w t rs ws)(a:gs[S.m0+S.n]? =aA g)(hs:s.1=S.ph f S.n)(b:g'.status≠.blocked):S.Mode (put f (S.m0+S.n) s) g'.status w:=
 (h.mode g a).same (iQ (by rw[hs];rfl)) rfl λ_=>b
def Sp.dQ.TH (h:S.dQ f gs w t rs ws)(m:gs[S.m0+S.n]? =aA g)(k:8<=S.ph f S.n):S.kI f/\WgAt S.ty S.Wg w (S.V f*KK) 0:=by
 cases h.mode g m with
 |a k j hw=>exact⟨j,hw⟩
 |b k l j hw=>omega
 |c k l i j o hw=>omega
 |c' k l i j o hw=>omega
 |d k l j hw p=>omega
 |e k l j hw=>omega
def Sp.dQ.DJ (h:S.dQ f gs w t rs ws)(m:gs[S.m0+S.n]? =aA g)(k:S.ph f S.n<=5):S.V f=0/\S.kI f/\WgAt S.ty S.Wg w 0 0:=by
 cases h.mode g m with
 |a k j hw=>omega
 |b k l j hw=>omega
 |c k l i j o hw=>omega
 |c' k l i j o hw=>omega
 |d k l j hw p=>omega
 |e k l j hw=>exact⟨l,j,hw⟩
def Bp {a:Addr}(h:a.block=S.Wg):∀e∈#[Go.ConcR.rd a],(∃a wr,e=(⟨.cell a,wr,aE⟩:Event)/\a.block=S.Wg)\/e=Go.ConcR.mk .disable\/e=Go.ConcR.mk .enable\/e=Go.ConcR.mk (.acquire (stA S.Wg))\/e=Go.ConcR.mk (.write (smA S.Wg))\/e.mute=aE:=by intro e b;simp only[zAp,zAg,zAt,zCp]at b;subst b;exact aG ⟨_,_,rfl,h⟩
def ES {a:Addr}{d:Nat}:deafBehind d #[Go.ConcR.rd a]=d:=by simp[deafBehind,Go.ConcR.rd]
def Sp.dQ.Si (H:S.Good)(h:S.dQ f gs w t rs ws)(l:gs[S.m0+S.n]? =aA g)(r:Deaf t (S.m0+S.n)=1){m:Nat}(y:S.Goes S.de m g w)(bU:∀b,m=b+1->Span.Lt (10,.nat b) (f (S.m0+S.n)))(E:10<=S.ph f S.n):S.Step f gs w sl t (S.m0+S.n):=by
 have J:=h.base.live;obtain⟨o,j⟩:=h.TH l (by omega);have z:=Vm (S:=S) f;have v:=h.rG;have x:S.ph f S.n=(f (S.m0+S.n)).1:=rfl;have d:∀{p:Nat}{u:Tree},p<10->Span.Lt (p,u) (f (S.m0+S.n)):=λ{p u} D=>by have e:f (S.m0+S.n)=((f (S.m0+S.n)).1,(f (S.m0+S.n)).2):=rfl;rw[e];exact iF (by omega)
 obtain A|⟨b,g',rfl,c,q⟩:=dP y J
 .obtain⟨g',c,C,B⟩:=A.2 (S.V f) (by omega) j;by_cases k:S.V f=0
  .obtain⟨b,i⟩:=C k;refine h.jS (s:=(4,.nat b)) H l c (d (by omega)) (aG rfl) J (Bp rfl) (by simp;omega) (λe=>by omega) (by rw[r,ES];exact .en i) (.e (by rw[kY];simp) (by rw[nO];exact k) (kN o) ?_);rw[k]at j;simpa using j
  .obtain⟨b,i⟩:=B k;refine h.jS (s:=(8,.nat b)) H l c (d (by omega)) (aG rfl) J (Bp rfl) (by simp;omega) (λe=>by omega) (by rw[r,ES];exact .Vh i k) (.a (by rw[kY];simp) (kN o) (by rw[nO];exact j))
 .exact h.jS (s:=(10,.nat b)) H l c (bU b rfl) (aG rfl) J (by simp) (by simp;omega) (λe=>by omega) (by rw[r];exact .ld q) (.a (by rw[kY];simp) (kN o) (by rw[nO];exact j))
def Sp.dQ.waits (H:S.Good)(h:S.dQ f gs w t rs ws)(A:gs[S.m0+S.n]? =aA g)(Y:g.status= .running):S.Step f gs w sl t (S.m0+S.n)\/(S.ph f S.n=2/\Deaf t (S.m0+S.n)=0/\S.ao g w):=by
 have Z:=h.pos;have VS:=h.size;have M:=(h.FP _ g A).2.2.2 rfl;have j:S.ph f S.n=(f (S.m0+S.n)).1:=rfl;have J:=h.base.live;have ze:=Vm (S:=S) f;have Yv:=h.rG;generalize F:f (S.m0+S.n)=sp at M;generalize u:Deaf t (S.m0+S.n)=d at M;rw[F]at j;cases M with
 | @busy tr _ _ T=>
  left;obtain⟨p,o⟩:=h.TH A (by rw[j];simp);cases tr with
  |node ch=>
   obtain⟨_,T⟩:=T;obtain⟨g',w',es,l,R,Hj,Us⟩:=T w (cQ.refl _ _ w) J;have X:w'.heap[S.Wg]? =w.heap[S.Wg]? :=R.keep _ (h.base.oV (aH (aG rfl))) λx=>h.base.off (aH x) (aH (aG rfl));have Hl:w'.heap[S.Cr]? =w.heap[S.Cr]? :=R.keep _ (h.base.oV (aH (aH (aG rfl)))) λx=>h.base.off (aH x) (aH (aH (aG rfl)));have Kv:w'.heap[S.Cd]? =w.heap[S.Cd]? :=R.keep _ (h.base.oV (aH (aH (aH rfl)))) λx=>h.base.off (aH x) (aH (aH (aH rfl)));have J':S.J w':=by obtain⟨a,b,x⟩:=J;exact⟨a,b,X.trans x⟩
   have jd:deafBehind 0 es=0:=deafBehind_still (λe G=>by
    obtain⟨a,wr,s,rfl,_⟩|⟨r,s,rfl,_⟩|x|x|⟨q,x⟩:=Hj e G
    .simp
    .simp
    .rw[x];simp
    .rw[x];simp
    .rw[x];simp) 0
   have VT:S.CSit (S.V f) (rs (S.m0+S.n)) (grown (ws (S.m0+S.n)) w w') (15,ch w) 0 g' w':= .busy Us
   refine h.go_own (s:=(15,ch w)) H A (by rw[eH Z];exact l) (by rw[F];exact .right _ ⟨_,_,rfl,rfl⟩) ⟨λb T hn=>R.keep b T λx=>hn (aG x),R.size,R.tape,R.os,R.output⟩ J' (λe G=>aG (Hj e G)) (aH (aG (aH rfl))) Hl Kv (λk hk e=>by omega) (λk hk e x=>by omega) (λ_=>by rw[F]) (λe=>by omega) ?_ ?_ (λ_ e=>by rw[j]at e;simp at e)
   .rw[u,jd];refine nY Z ?_;rw[aZ];exact VT
   .refine nS H h A J' (λ_=> ?_) (iQ (by rw[F])) X;obtain x|x|x:=VT.status H J'
    .rw[x];simp
    .simp at x
    .simp at x
  |leaf=>obtain⟨_,g',l,D,C⟩:=T w (cQ.refl _ _ w) J;refine h.jS (s:=(12,.nat D)) H A l (by rw[F];exact iF (by omega)) (aG rfl) J ?_ (by rw[j];simp) (λe=>by rw[j]at e;simp at e) (by rw[u];exact .anch C) (.a (by rw[kY];simp) (kN p) (by rw[nO];exact o));intro e G;simp only[zAp,zAg,zAt,zCp]at G;exact aH (aG G)
 | @CQ m v _ _ I z=>
  left;obtain⟨p,o⟩:=h.TH A (by rw[j];simp);obtain K|⟨D,g',rfl,l,B⟩:=dP I J
  .obtain⟨g',l,D,C⟩:=(K.2 (S.V f) (by omega) o).2 (by omega);exact h.jS (s:=(12,.nat D)) H A l (by rw[F];exact iF (by omega)) (aG rfl) J (Bp rfl) (by rw[j];simp) (λe=>by rw[j]at e;simp at e) (by rw[u,ES];exact .anch C) (.a (by rw[kY];simp) (kN p) (by rw[nO];exact o))
  .exact h.jS (s:=(13,.nat D)) H A l (by rw[F];exact fR) (aG rfl) J (by simp) (by rw[j]) (λe=>by rw[j]at e;simp at e) (by rw[u];exact .CQ B z) (.a (by rw[kY];simp) (kN p) (by rw[nO];exact o))
 | @anch m _ _ I=>
  left;obtain⟨p,o⟩:=h.TH A (by rw[j];simp);obtain K|⟨D,g',rfl,l,B⟩:=dP I J
  .obtain⟨_,D,C⟩:=H.anch _ _ J K;exact h.Si H A u C (λtq _=>by rw[F];exact iF (by omega)) (by rw[j];simp)
  .exact h.jS (s:=(12,.nat D)) H A l (by rw[F];exact fR) (aG rfl) J (by simp) (by rw[j]) (λe=>by rw[j]at e;simp at e) (by rw[u];exact .anch B) (.a (by rw[kY];simp) (kN p) (by rw[nO];exact o))
 | @ld m _ _ I=>left;exact h.Si H A u I (λtq e=>by rw[F,e];exact fR) (by rw[j];simp)
 | @Vh m _ _ I z=>
  left;obtain⟨p,o⟩:=h.TH A (by rw[j];simp);obtain K|⟨D,g',rfl,l,B⟩:=dP I J
  .obtain⟨g',l,D,C⟩:=(K.2 (S.V f) (by omega) o).1 rfl;have L:=o.setSt (S.V f*KK+1);refine h.jS (s:=(7,.nat D)) H A l (by rw[F];exact iF (by omega)) (aH ⟨_,_,rfl,rfl⟩) ⟨_,_,L⟩ ?_ (by rw[j];simp) (λe=>by rw[j]at e;simp at e) (by rw[u,UN];exact .wm C) (.b (aG (by rw[kY])) (by rw[nO];omega) (kN p) (by rw[nO];exact L));intro e G;simp only[zAp,zAg,zAt,zCp]at G;obtain rfl|rfl:=G
   .exact aG ⟨_,_,rfl,rfl⟩
   .exact aG ⟨_,_,rfl,rfl⟩
  .exact h.jS (s:=(8,.nat D)) H A l (by rw[F];exact fR) (aG rfl) J (by simp) (by rw[j]) (λe=>by rw[j]at e;simp at e) (by rw[u];exact .Vh B z) (.a (by rw[kY];simp) (kN p) (by rw[nO];exact o))
 | @wm m _ _ I=>
  left;obtain K|⟨D,g',rfl,l,B⟩:=dP I J
  .obtain⟨_,g',l,D,C⟩:=K;have T:g'.status= .running:=Sp.Goes.run C J λ_ _ x=>x.1;refine h.jS (s:=(6,.nat D)) H A l (by rw[F];exact iF (by omega)) (aG rfl) J ?_ (by rw[j];simp) (λe=>by rw[j]at e;simp at e) (by rw[u];exact .Eb C) ?_
   .intro e G;simp only[zAp,zAg,zAt,zCp]at G;exact aH (aH (aH (aH (aG G))))
   .have h6:S.ph (put f (S.m0+S.n) (6,.nat D)) S.n=7\/S.ph (put f (S.m0+S.n) (6,.nat D)) S.n=6:=aH (by rw[kY]);cases h.mode g A with
    |a E p o=>rw[j]at E;simp at E
    |b E z p o=>exact .b h6 (by rw[nO];exact z) (kN p) (by rw[nO];exact o)
    |c E z i p N o=>exact .c h6 (by rw[nO];exact z) i (Sl p) (by rw[dL _ _ (by have:=p.1;omega)];exact N) o
    |c' E z i p N o=>exact .c' h6 (by rw[nO];exact z) i (Sl p) (by rw[dL _ _ (by have:=p.1;omega)];exact N) o
    |d E z p o O=>exact .d h6 (by rw[nO];exact z) (kN p) o (by rw[T];simp)
    |e E z p o=>rw[j]at E;simp at E
  .exact h.jS (s:=(7,.nat D)) H A l (by rw[F];exact fR) (aG rfl) J (by simp) (by rw[j]) (λe=>by rw[j]at e;simp at e) (by rw[u];exact .wm B) (h.Rx A (by rw[j]) (by rw[B.run J λ_ _ x=>x.1];simp))
 | @Eb m _ _ I=>
  left;obtain K|⟨D,g',rfl,l,B⟩:=dP I J
  .obtain⟨Q,ho,jm,U⟩:=K;by_cases O:∃st,WgAt S.ty S.Wg w st 0
   .have l:=jm O;refine⟨_,_,f,rs,ws,_,runT_crowd_go A (by rw[eH Z];exact l),?_,?_⟩
    .have fu:∀y,Go.Conc.woken S.P g {g with status:= .blocked} w y=y:=λy=>by
      unfold Go.Conc.woken;rw[zAh];simp
     have xo:(gs.map (Go.Conc.woken S.P g {g with status:= .blocked} w)).setIfInBounds (S.m0+S.n) {g with status:= .blocked}=gs.setIfInBounds (S.m0+S.n) {g with status:= .blocked}:=by
      congr 1;apply zCd;intro a;rw[zCt];cases gs[a]? with
      |none=>rfl
      |some y=>rw[zAx,fu y]
     rw[xo]
     have G:t++aCL (S.m0+S.n) g.frame.fn g.frame.place #[]=t:=by simp[ofEvents_eq]
     rw[G]
     refine⟨Z,Yv,by simp[VS],h.base,h.cr,h.cd,λa y W=> ?_,λy W=> ?_,h.bc,h.shut,h.tries,h.Fg⟩
     .by_cases e:a=S.m0+S.n
      .subst e;rw[zAo (by omega)]at W;obtain rfl:=zAm W;rw[F,u];exact nY Z (.blk I ho Q)
      .rw[zAd λx=>e x.symm]at W;exact h.FP a y W
     .cases h.mode g A with
      |a E p o=>exact .a E p o
      |b E z p o=>exact .b E z p o
      |c E z i p N o=>exact .c E z i p N o
      |c' E z i p N o=>exact .c' E z i p N o
      |d E z p o _=>obtain⟨st,hx⟩:=O;have:=(o.unique hx).2;simp at this
      |e E z p o=>exact .e E z p o
    .unfold Sp.mu;refine Mu.bit ?_;unfold bit;rw[zAo (by simp;omega),A];simp[Q]
   .cases h.mode g A with
    |a E p o=>exact absurd ⟨_,o⟩ O
    |b E z p o=>exact absurd ⟨_,o⟩ O
    |c E z i p N o=>exact absurd ⟨_,o⟩ O
    |c' E z i p N o=>exact absurd ⟨_,o⟩ O
    |d E z p o _=>
     obtain⟨g',l,D,C⟩:=U o;have L:=o.setSm 0;refine h.jS (s:=(5,.nat D)) H A l (by rw[F];exact iF (by omega)) (aH ⟨_,_,rfl,rfl⟩) ⟨_,_,L⟩ ?_ (by rw[j];simp) (λe=>by rw[j]at e;simp at e) ?_ (.e (by rw[kY];simp) (by rw[nO];exact z) (kN p) L)
     .intro e hx;simp only[semEvents,zAp,zAg,zAt,zCp]at hx;obtain rfl|rfl|rfl|rfl:=hx
      .exact aH (aG rfl)
      .exact aG ⟨_,_,rfl,rfl⟩
      .exact aG ⟨_,_,rfl,rfl⟩
      .exact aH (aH (aG rfl))
     .have:deafBehind 1 (semEvents (smA S.Wg))=1:=by simp[deafBehind,semEvents]
      rw[u,this];exact .zero C
    |e E z p o=>exact absurd ⟨_,o⟩ O
  .exact h.jS (s:=(6,.nat D)) H A l (by rw[F];exact fR) (aG rfl) J (by simp) (by rw[j]) (λe=>by rw[j]at e;simp at e) (by rw[u];exact .Eb B) (h.Rx A (by rw[j]) (by rw[B.run J λ_ _ x=>x.1];simp))
 |blk I ho hrr=>simp at Y
 | @zero m _ _ I=>
  left;obtain⟨z,p,o⟩:=h.DJ A (by rw[j];simp);obtain K|⟨D,g',rfl,l,B⟩:=dP I J
  .obtain⟨g',l,D,C⟩:=K.2 o;exact h.jS (s:=(4,.nat D)) H A l (by rw[F];exact iF (by omega)) (aG rfl) J (Bp rfl) (by rw[j];simp) (λe=>by rw[j]at e;simp at e) (by rw[u,ES];exact .en C) (.e (by rw[kY];simp) (by rw[nO];exact z) (kN p) o)
  .exact h.jS (s:=(5,.nat D)) H A l (by rw[F];exact fR) (aG rfl) J (by simp) (by rw[j]) (λe=>by rw[j]at e;simp at e) (by rw[u];exact .zero B) (.e (by rw[kY];simp) (by rw[nO];exact z) (kN p) o)
 | @en m _ _ I=>
  left;obtain⟨z,p,o⟩:=h.DJ A (by rw[j];simp);obtain K|⟨D,g',rfl,l,B⟩:=dP I J
  .obtain⟨_,g',l,D,C⟩:=K;refine h.jS (s:=(3,.nat D)) H A l (by rw[F];exact iF (by omega)) (aG rfl) J ?_ (by rw[j];simp) (λe=>by rw[j]at e;simp at e) ?_ (.e (by rw[kY];simp) (by rw[nO];exact z) (kN p) o)
   .intro e G;simp only[zAp,zAg,zAt,zCp]at G;exact aH (aH (aG G))
   .have:deafBehind 1 #[Go.ConcR.mk .enable]=0:=by simp[deafBehind,Go.ConcR.mk]
    rw[u,this];exact .acq C
  .exact h.jS (s:=(4,.nat D)) H A l (by rw[F];exact fR) (aG rfl) J (by simp) (by rw[j]) (λe=>by rw[j]at e;simp at e) (by rw[u];exact .en B) (.e (by rw[kY];simp) (by rw[nO];exact z) (kN p) o)
 | @acq m _ _ I=>
  left;obtain⟨z,p,o⟩:=h.DJ A (by rw[j];simp);obtain K|⟨D,g',rfl,l,B⟩:=dP I J
  .obtain⟨_,g',l,D,C⟩:=K;refine h.jS (s:=(2,.nat D)) H A l (by rw[F];exact iF (by omega)) (aG rfl) J ?_ (by rw[j];simp) (λe=>by rw[j]at e;simp at e) ?_ (.e (by rw[kY];simp) (by rw[nO];exact z) (kN p) o)
   .intro e G;simp only[zAp,zAg,zAt,zCp]at G;exact aH (aH (aH (aG G)))
   .have:deafBehind 0 #[Go.ConcR.mk (.acquire (stA S.Wg))]=0:=by simp[deafBehind,Go.ConcR.mk]
    rw[u,this];exact .cl C
  .exact h.jS (s:=(3,.nat D)) H A l (by rw[F];exact fR) (aG rfl) J (by simp) (by rw[j]) (λe=>by rw[j]at e;simp at e) (by rw[u];exact .acq B) (.e (by rw[kY];simp) (by rw[nO];exact z) (kN p) o)
 | @cl m _ _ I=>
  obtain⟨z,p,o⟩:=h.DJ A (by rw[j];simp);obtain K|⟨D,g',rfl,l,B⟩:=dP I J
  .exact aH ⟨j,rfl,K⟩
  .exact aG (h.jS (s:=(2,.nat D)) H A l (by rw[F];exact fR) (aG rfl) J (by simp) (by rw[j]) (λe=>by rw[j]at e;simp at e) (by rw[u];exact .cl B) (.e (by rw[kY];simp) (by rw[nO];exact z) (kN p) o))
 | @quit q _ _ _ hq=>
  left;obtain⟨z,p,o⟩:=h.DJ A (by rw[j];simp);cases q with
  |zero=>rw[hq.1]at Y;cases Y
  |succ q=>
   obtain⟨yc,_⟩|⟨_,g',es,hm,l,vk⟩:=hq
   .rw[yc]at Y;cases Y
   .exact h.jS (s:=(0,.nat q)) H A (l w) (by rw[F];exact fR) (aG rfl) J (λe G=>aH (aH (aH (aH (aH (hm e G)))))) (by rw[j]) (λ_=>hm) (by rw[u];exact .quit vk) (.e (by rw[kY];simp) (by rw[nO];exact z) (kN p) o)
end
end Go.Ga
namespace Go.Ga
open Go.Conc Go.Ren Go.Tr Go.Wg
open Go.ConcR (KK WgAt stA smA DC0)
open Go.ConcN (WgLive sumTo sumTo_congr sumTo_upd upd upd_same upd_ne le_sumTo)
variable {S:Sp}
section
variable {f:Nat->Span}{gs:zG}{w:zW}{t:Trace}{rs ws:Nat->zP}{g:zH}{sl:Option (Nat×Nat)}
def Gb (ws:zP)(w:zW)(cap:Nat)(buf:zA)(cl:Bool)(s r:Nat)(tm:Bool):Go.Ren.Does (Sp.JQ (S:=S) ws) w (w.setChan S.Cd cap buf cl s r tm):=
 ⟨λb _ h=>nG w _ _ _ _ _ _ _ λe=>h (aH (aH (aH e))),by rw[nF];exact zAa _,rfl,rfl,rfl⟩
def Sp.dQ.closes (H:S.Good)(h:S.dQ f gs w t rs ws)(hj:gs[S.m0+S.n]? =aA g)(bf:S.ph f S.n=2)(T:Deaf t (S.m0+S.n)=0)(hD:S.ao g w):S.Step f gs w sl t (S.m0+S.n):=by
 have hp:=h.pos;have VS:=h.size;obtain⟨hv,hl,hw⟩:=h.DJ hj (by omega);obtain⟨k0,L,Hl⟩:=h.cr;obtain⟨s0,r0,tm1,Kv⟩:=h.cd;have W:w.heap[S.Cd]? =aA (.chan 0 #[] aF s0 r0 tm1):=by rw[Kv];simp[bf]
 obtain⟨_,C,hD⟩:=hD
 obtain⟨g',N,q,hq⟩:=hD _ _ _ _ W
 have F:S.Cd<w.heap.size:=h.base.oV (aH (aH (aH rfl)))
 generalize p:w.setChan S.Cd 0 #[] aE s0 r0 tm1=m at N
 have heap:∀b,b≠S.Cd->m.heap[b]? =w.heap[b]? :=λb hb=>by rw[<-p];exact nG w _ _ _ _ _ _ _ hb
 have hd:Go.Ren.Does (Sp.JQ (S:=S) (ws (S.m0+S.n))) w m:=by rw[<-p];exact Gb _ w _ _ _ _ _ _
 have D:m.heap.size=w.heap.size:=by rw[<-p];exact nF w _ _ _ _ _ _ _
 have M:m.heap[S.Wg]? =w.heap[S.Wg]? :=heap _ H.chans.2.2
 have A:m.heap[S.Cr]? =aA (.chan 0 #[] aF k0 k0 L):=(heap _ H.chans.1).trans Hl
 have B:m.heap[S.Cd]? =aA (.chan 0 #[] aE s0 r0 tm1):=by rw[<-p];exact setChan_at F
 have J':S.J m:=by obtain⟨a,b,x⟩:=h.base.live;exact⟨a,b,M.trans x⟩
 have xp:put ws (S.m0+S.n) (grown (ws (S.m0+S.n)) w m)=ws:=by
  funext k;by_cases e:k=S.m0+S.n
  .subst e;rw[aZ];funext b;apply propext;unfold grown;rw[D];exact⟨λx=>x.elim id λy=>by omega,aG⟩
  .rw[bJ _ _ e]
 let s:Span:=if(f 0).1=3*S.U f+1 then(3*S.U f,.leaf)else f 0
 let l:=put (put f (S.m0+S.n) (0,.nat q)) 0 s
 have f0:l 0=s:=aZ _ _ _
 have fk:∀k,k≠0->k≠S.m0+S.n->l k=f k:=λk h0 d=>by
  show put (put f _ _) 0 _ k=_
  rw[bJ _ _ h0,bJ _ _ d]
 have fc:l (S.m0+S.n)=(0,.nat q):=by
  show put (put f _ _) 0 _ _=_
  rw[bJ _ _ (by omega),aZ]
 have I:∀k,k<S.n->S.ph l k=S.ph f k:=λk d=>by unfold Sp.ph;rw[fk _ (by omega) (by omega)]
 have pn:S.ph l S.n=0:=by unfold Sp.ph;rw[fc]
 have hU:S.U l=S.U f:=zHg λk d=>by rw[I k d]
 have hV:S.V l=S.V f:=zHg λk d=>by rw[I k d]
 have Zg:S.Rc l=S.Rc f:=by funext k;apply propext;unfold Sp.Rc;exact⟨λx=>⟨x.1,by rw[<-I k x.1];exact x.2⟩,λx=>⟨x.1,by rw[I k x.1];exact x.2⟩⟩
 have G:S.Live l=S.Live f:=yM λk d=>by rw[I k d]
 have X:(l 0).1≠3*S.U f+1/\((l 0).1=3*S.U f->(f 0).1=3*S.U f+1\/(f 0).1=3*S.U f):=by
  rw[f0];show(if(f 0).1=3*S.U f+1 then((3*S.U f,.leaf):Span)else f 0).1≠_/\_
  by_cases e:(f 0).1=3*S.U f+1
  .rw[zAk e];exact⟨by simp,λ_=>aG e⟩
  .rw[zAh e];exact⟨e,λx=>aH (by simpa [s,e]using x)⟩
 have R:Span.Lt s (f 0)\/s=f 0:=by
  show Span.Lt (if(f 0).1=3*S.U f+1 then((3*S.U f,.leaf):Span)else f 0) (f 0)\/_
  by_cases e:(f 0).1=3*S.U f+1
  .rw[zAk e];have e0:f 0=(3*S.U f+1,(f 0).2):=by rw[<-e]
   left;rw[e0];exact iF (by omega)
  .right;simp[s,e]
 have Q:∀op∈aCL (S.m0+S.n) g.frame.fn g.frame.place (closeEvents S.Cd),op.g=S.m0+S.n:=λop r=>by obtain⟨e,_,rfl⟩:=Go.Conc.mem_ofEvents r;rfl
 have v:deafBehind 0 (closeEvents S.Cd)=0:=by simp[deafBehind,closeEvents]
 refine⟨_,m,l,rs,ws,_,runT_crowd_go hj (by rw[eH hp];exact N),⟨hp,h.rG,by simp[VS],?_,⟨k0,L,A⟩,⟨s0,r0,tm1,by rw[B,pn];simp⟩,λa y hy=> ?_,λy hy=> ?_,λe=> ?_,λ_=>by rw[hU];exact X.1,λ_=>pn,λ_=> ?_⟩,?_⟩
 .rw[G];have:=h.base.own (fn:=g.frame.fn) (pos:=g.frame.place) (j:=S.m0+S.n) (es:=closeEvents S.Cd) (by omega) hd J' (λe he=> ?_) (aH (aG (aH rfl)))
  .rw[xp]at this;exact this
  .simp only[closeEvents,zAp,zAg,zAt,zCp]at he;obtain rfl|rfl:=he
   .exact aH (aH (aH (aH (aH (aH (aG ⟨_,rfl⟩))))))
   .exact aH (aH (aH (aH (aH (aH (aG ⟨_,rfl⟩))))))
 .rw[Zg,hU,hV];obtain⟨rfl,rfl⟩|⟨E,z,hz,rfl⟩:=iT _ _ _ _ _ _ hy
  .rw[Deaf_own,T,v,fc];exact nY hp (.quit hq)
  .rw[Deaf_other t (λe=>E e.symm) _ Q];have hs:=h.FP a z hz;have lK:=h.base.lK hd E;by_cases ea:a=0
   .subst ea;have hm:=(hs.1 rfl);refine⟨λ_=>⟨hm.1,?_⟩,λe=>by omega,λ_ _ e=>by omega,λe=>by omega⟩;rw[f0];have u:=hm.2.rely lK;by_cases e:(f 0).1=3*S.U f+1
    .have Y:s=(3*S.U f,.leaf):=by simp[s,e]
     rw[Y];generalize f 0=ff at u e;cases u with
     |busy x=>simp at e
     | @parked gm sh zr Z _ x=>
      have:Go.Conc.woken S.P g g' m (parked gm (S.cases zr Z) sh)={parked gm (S.cases zr Z) sh with status:= .running}:=by
       have fu:(mayWake S.P g&&g'.status != .blocked&&g'.status != .waiting)=aE:=by rw[C];obtain e|e:=hq.status<;>rw[e]<;>rfl
       unfold Go.Conc.woken
       rw[zAk fu]
       exact again_some_closed (k:=1) (c:=S.Cd) (z:=Z) rfl B
      rw[this]
      exact .tries x
     |tries x=>simp at e
    .have Y:s=f 0:=by simp[s,e]
     rw[Y];obtain x|x:=u.status H J'
     .rw[woken_running x.1];exact u
     .exact absurd x.1 e
   .rw[fk a ea E];exact hs.other (c':=0) (s':=0) (r':=0) (tm':=aE) H lK J' A λe=>absurd e ea
 .exact .e (by omega) (by omega) (λk d x=>hl k d (by unfold Sp.kO at x⊢;rwa [I k d]at x)) (M.trans hw)
 .rw[hU]at e;exact absurd e X.1
 .have e1:aCL (S.m0+S.n) g.frame.fn g.frame.place (closeEvents S.Cd)= #[{g:=S.m0+S.n,fn:=g.frame.fn,pos:=g.frame.place,act:= .access ⟨.obj S.Cd,aF,aE⟩}]++ #[{g:=S.m0+S.n,fn:=g.frame.fn,pos:=g.frame.place,act:= .close S.Cd}]:=by
   rw[ofEvents_eq];simp[closeEvents,MemAct.ofEvent]
  rw[e1,<-zEx];generalize Wj:({g:=S.m0+S.n,fn:=g.frame.fn,pos:=g.frame.place,act:= .access ⟨.obj S.Cd,aF,aE⟩}:MemOp)=K;generalize o:({g:=S.m0+S.n,fn:=g.frame.fn,pos:=g.frame.place,act:= .close S.Cd}:MemOp)=x2;have p1:(t++ #[K])[t.size]? =aA K:=by simp
  have p2:(t++ #[K]++ #[x2])[t.size+1]? =aA x2:=by rw[zCu (by simp)];simp
  refine⟨t.size+1,by rw[act?_of p2,<-o],⟨S.m0+S.n,by rw[Trace.g?,p2,<-o];rfl,?_⟩,λi op a hi hg ha=> ?_⟩
  .rw[deaf_old (by simp),deaf_succ p1,deaf_old (zAa _)];simp only[deafStep,<-Wj];exact T
  .have il:∀i z,(t++ #[K])[i]? =aA z->z.g=S.m0+S.n->HappensBefore (t++ #[K]++ #[x2]) i (t.size+1):=λi z hz hg=>by
    have d:=knows_own hz;rw[hg]at d;exact d.hb_new (by simp) p2 (by rw[<-o])
   obtain⟨Qr,pq⟩|⟨fe,ou,hx,r,O⟩:=eA ha
   .rw[getElem?_append_old Qr]at hi;exact aH (il i op hi hg)
   .simp only[zAp,zAg,zAt,zCp]at r;subst r;rw[<-o]at O;simp[MemAct.touch?]at O
 .unfold Sp.mu;rw[hV];have Ku:Span.Lt (0,.nat q) (f (S.m0+S.n)):=by
   have e0:f (S.m0+S.n)=((f (S.m0+S.n)).1,(f (S.m0+S.n)).2):=rfl;rw[e0];exact iF (by have:S.ph f S.n=(f (S.m0+S.n)).1:=rfl;omega)
  have v1:QD (vec (S.m0+S.n+1) (put f (S.m0+S.n) (0,.nat q))) (vec (S.m0+S.n+1) f):=lX (by omega) Ku;obtain x|x:=R
  .exact Mu.two (lX (by omega) (by rw[bJ _ _ (by omega)];exact x)) v1
  .have:l=put f (S.m0+S.n) (0,.nat q):=by
    funext k;by_cases e:k=0
    .subst e;rw[f0,x,bJ _ _ (by omega)]
    .show put (put f _ _) 0 _ k=_
     rw[bJ _ _ e]
   rw[this];exact Mu.one v1
end
end Go.Ga
namespace Go.Ga
open Go.Conc Go.Ren Go.Tr Go.Wg
open Go.ConcR (KK WgAt stA smA DC0)
open Go.ConcN (WgLive sumTo sumTo_congr sumTo_upd upd upd_same upd_ne le_sumTo)
variable {S:Sp}
structure Sp.Nk (S:Sp)(gs:zG)(w:zW)(t:Trace):Prop where
 main:∃g rs ws,gs[0]? =aA g/\S.Fin rs ws g w
 size:gs.size=S.m0+S.n+1
 Qi:∃q,Leavers S.P t gs q
 past:Past (λl=>∃b,blk l=aA b/\S.at' b) w.heap.size t
 Tx:∀b,S.at' b->∀i a,touchAt t i=aA a->blk a.loc=aA b->a.kind≠.plain
 cr:∃c tm,w.heap[S.Cr]? =aA (.chan 0 #[] aF c c tm)
def YE {P:zZ}{t:Trace}{gs:zG}(h:∀k g,0<k->gs[k]? =aA g->∃q,QuitsD P q (Deaf t k) g)(i:∀j,gs.size<=j->Deaf t j=0):∃q,Leavers P t gs q:=by
 have c:∀k,∃q,0<k->∀g,gs[k]? =aA g->QuitsD P q (Deaf t k) g:=λk=>by
  by_cases a:0<k
  .cases b:gs[k]? with
   |none=>exact⟨0,λ_ g e=>by cases e⟩
   |some g=>obtain⟨q,d⟩:=h k g a b;exact⟨q,λ_ l e=>by cases e;exact d⟩
  .exact⟨0,λe=>absurd e a⟩
 exact⟨λk=>Classical.choose (c k),⟨λk g a b=>zAr (c k) a g b,i⟩⟩
section
variable {f:Nat->Span}{gs:zG}{w:zW}{t:Trace}{rs ws:Nat->zP}{g:zH}{sl:Option (Nat×Nat)}
def Sp.Ends (S:Sp)(gs:zG)(w:zW)(sl:Option (Nat×Nat))(t:Trace):Prop:=
 ∃a b ops,runT S.P (crowd gs w sl) 0=(.next (crowd a b sl),ops)/\S.Nk a b (t++ops)
def Sp.WSit.over {v:zY}{rs ws:zP}{f:Span}{d:Nat}{g:zH}{w:zW}(h:S.WSit v rs ws f d g w)(b:f.1<5)(a:¬(1<=f.1/\f.1<=3)):∃q,QuitsD S.P q d g:=by
 cases h with
 |quit h=>exact⟨_,h⟩
 |one h=>exact absurd ⟨by simp,by simp⟩ a
 |null h=>exact absurd ⟨by simp,by simp⟩ a
 |rel h=>exact absurd ⟨by simp,by simp⟩ a
 |_=>simp at b
def Sp.CSit.over {V:Nat}{rs ws:zP}{f:Span}{d:Nat}{g:zH}{w:zW}(h:S.CSit V rs ws f d g w)(a:f.1=0):∃q,QuitsD S.P q d g:=by
 cases h with
 |quit h=>exact⟨_,h⟩
 |_=>simp at a
def PO {f:Nat->Span}(h:S.V f=0){i:Nat}(a:i<S.n):S.ph f i<5:=Nat.lt_of_not_le λb=>by have:=NB (S:=S) a b;omega
def Sp.dQ.Uh (H:S.Good)(h:S.dQ f gs w t rs ws){c:zH}{sh:CommShape}{z q:zY}(m:S.Nd (S.Rc f) (rs 0) (ws 0) c sh z q w)(C:Deaf t 0=0)(o:∀i,i<S.n->S.ph f i≠8)(r:S.ph f S.n≠0):
  S.dQ (put f 0 (3*S.U f+1,.leaf)) (gs.setIfInBounds 0 (parked c (S.cases z q) sh)) w t rs ws:=by
 have v:=h.pos
 obtain⟨p,u,D⟩:=gY (S:=S) (f:=f) (j:=0) (s:=(3*S.U f+1,.leaf)) λk A e=>by omega
 have b:∀i,S.ph (put f 0 (3*S.U f+1,.leaf)) i=S.ph f i:=λi=>by unfold Sp.ph;rw[bJ _ _ (by omega)]
 have l:S.Live (put f 0 (3*S.U f+1,.leaf))=S.Live f:=yM λk A=>by rw[b]
 refine⟨v,h.rG,by simp[h.size],by rw[l];exact h.base,h.cr,by rw[b];exact h.cd,λa y d=> ?_,λy d=> ?_,λ_ i B=>by rw[b];exact o i B,λe=> ?_,λe=> ?_,λe=> ?_⟩
 .rw[p,u,D];by_cases e:a=0
  .subst e;have bU:0<gs.size:=by have:=h.size;omega
   rw[zAo bU]at d;obtain rfl:=zAm d;rw[aZ];exact⟨λ_=>⟨C,.parked m⟩,λe=>by omega,λ_ _ e=>by omega,λe=>by omega⟩
  .rw[zAd (λx=>e x.symm)]at d;rw[bJ _ _ e];exact h.FP a y d
 .rw[zAd (by omega)]at d;exact(h.mode y d).same (λi _=>b i) rfl id
 .rw[b]at e;exact absurd e r
 .rw[u,aZ]at e;simp at e
 .rw[b]at e;exact absurd e r
def Sp.dQ.As (H:S.Good)(h:S.dQ f gs w t rs ws)(hg:gs[0]? =aA g){l:zH}{sh:CommShape}{Z zd:zY}(Qo:stepG S.P aE g w= .comm l (S.cases Z zd) aE sh w #[])(E:S.Nd (S.Rc f) (rs 0) (ws 0) l sh Z zd w)(hd:Deaf t 0=0)
  (hf:(f 0).1=3*S.U f+2\/S.ph f S.n=0):S.Step f gs w sl t 0\/S.Ends gs w sl t:=by
 have hp:=h.pos
 have VS:=h.size
 have J:=h.base.live
 have D:stepG S.P (0==0) g w= .comm l (S.cases Z zd) aE sh w #[]:=Qo
 obtain⟨k,tm,N⟩:=h.cr
 obtain⟨s0,r0,tm1,X⟩:=h.cd
 obtain⟨y,hy⟩:=h.closer
 have R:partners (gs.setIfInBounds 0 Go.Conc.ph) S.Cd aE=[]:=partners_nil λa x v=>by
  obtain⟨_,rfl⟩|⟨_,v⟩:=getElem?_stand _ _ _ _ v
  .exact offersAt_ph _ _
  .obtain e|⟨_,_,_,_,_,_,_,_,_,_,e⟩:=pE H h v S.Cd
   .exact e
   .rw[e,zAh H.chans.1]
 by_cases nb:∃i,i<S.n/\S.ph f i=8
 .left;obtain⟨i0,Qt,h80⟩:=nb;have u:S.ph f S.n≠0:=λe=>by
   have:=(h.DJ hy (by omega)).1;have:=PO (S:=S) this Qt;omega
  have W:(f 0).1=3*S.U f+2:=hf.resolve_right u;have G:w.heap[S.Cd]? =aA (.chan 0 #[] aF s0 r0 tm1):=by rw[X];simp[u]
  have T:partners (gs.setIfInBounds 0 Go.Conc.ph) S.Cr aE≠[]:=by
   have bU:S.m0+i0<gs.size:=by omega
   have v:gs[S.m0+i0]? =aA gs[S.m0+i0]:=zAs bU
   have hw:=(h.FP _ _ v).2.2.1 i0 Qt rfl
   have e8:(f (S.m0+i0)).1=8:=h80
   have hm:(S.m0+i0,0)∈partners (gs.setIfInBounds 0 Go.Conc.ph) S.Cr aE:=by
    refine mem_partners.2 ⟨_,stand_get (by omega) v,?_⟩;generalize gs[S.m0+i0]=gx at hw;generalize f (S.m0+i0)=fx at hw e8;generalize Deaf t (S.m0+i0)=dx at hw;cases hw with
    |parked hh=>rw[offersAt_parked_send,zAk rfl];simp
    |_=>simp at e8
   intro e
   rw[e]at hm
   cases hm
  have ho:∀(a:Nat)(c':CommCase),a≠0->(S.cases Z zd)[a]? =aA c'->NoWays w (gs.setIfInBounds 0 Go.Conc.ph) c':=λa c' I Y=>by
   have:a=1:=by have:=(zAb.1 Y).1;simp[Sp.cases]at this;omega
   subst this
   simp only[Sp.cases,zDj,List.getElem?_cons_succ,zDc,aCP]at Y
   subst Y
   exact ways_recv_none G R
  have Qu:∀a b,(a,b)∈partners (gs.setIfInBounds 0 Go.Conc.ph) S.Cr aE->b=0/\a≠0/\∃K vj zj L,gs[a]? =aA (parked K #[scase S.Cr vj zj] L):=λa b Wr=>by
   obtain⟨x,v,C⟩:=mem_partners.1 Wr;obtain⟨_,rfl⟩|⟨T,v⟩:=getElem?_stand _ _ _ _ v
   .rw[offersAt_ph]at C;cases C
   .obtain e|⟨_,_,_,_,_,_,_,rfl,_,_,e⟩:=pE H h v S.Cr
    .rw[e]at C;cases C
    .rw[e,zAk rfl]at C;exact⟨by simpa using C,T,_,_,_,_,v⟩
  obtain⟨j,K,vj,zj,L,d,xe,xq,r⟩:=oX (P:=S.P) (sl:=sl) hg D (k:=0) (z:=Z) rfl ho N T Qu
  have gq:offersAt (parked K #[scase S.Cr vj zj] L) S.Cr aE=[0]:=by rw[offersAt_parked_send,zAk rfl]
  obtain e|⟨i,B,rfl,h8,gw,z,m,Q,hgo,yd,_⟩:=pE H h xq S.Cr
  .rw[gq]at e;cases e
  .have hfr:K.frame=gw.frame:=by have h0:=congrArg Goroutine.frame Q;exact h0
   have F:aA (#[scase S.Cr vj zj],L)=aA (#[scase S.Cr (S.val i) z],CommShape.send):=by have h0:=congrArg Goroutine.offers Q;exact h0
   simp only[aCP,Prod.mk.injEq,scase,Array.mk.injEq,List.cons.injEq,CommCase.mk.injEq,true_and,and_true]at F
   obtain⟨⟨rfl,rfl⟩,rfl⟩:=F
   have Uq:K.finishComm S.P #[scase S.Cr (S.val i) zj] .send 0 undef aF=Go.Conc.served gw undef:=by rw[<-finishComm_parked S.P K _ #[scase S.Cr (S.val i) zj] .send .send,Q,finishComm_parked,finishComm_send]
   rw[Uq]at r
   obtain⟨tr,hinv⟩:=h.meet (m:=m) (d:=d) H B (by omega) yd hd E hgo N (gs':=(gs.setIfInBounds (S.m0+i) (Go.Conc.served gw undef)).setIfInBounds 0 (l.finishComm S.P (S.cases Z zd) sh 0 (S.val i) aE))
    (x1:={g:=S.m0+i,fn:=K.frame.fn,pos:=K.frame.place,act:= .send S.Cr k}) (x2:={g:=0,fn:=l.frame.fn,pos:=l.frame.place,act:= .recv S.Cr k 0}) (x3:={g:=S.m0+i,fn:=K.frame.fn,pos:=K.frame.place,act:= .sendDone S.Cr k}) (x4:={g:=0,fn:=l.frame.fn,pos:=l.frame.place,act:= .recvDone S.Cr k})
    ⟨rfl,rfl⟩ ⟨rfl,rfl⟩ ⟨rfl,rfl⟩ ⟨rfl,rfl⟩ (by simp) (by rw[zAo (by simp;omega)]) (by rw[zAd (by omega),zAo (by omega)]) λa h0 I=>by rw[zAd λe=>h0 e.symm,zAd λe=>I e.symm]
   refine⟨_,_,put (put f 0 (3*(S.U f-1)+2,tr)) (S.m0+i) (7,.nat m),put rs (S.m0+i) λ_=>False,put ws (S.m0+i) λ_=>False,_,r,?_,?_⟩
   .simpa [ofEvents_eq]using hinv
   .have hU:0<S.U f:=by
     have:=le_sumTo (f:=λi=>if 8<=S.ph f i then 1 else 0) B;simp only[show 8<=S.ph f i by omega,zDf]at this;exact this
    have hV:S.V (put (put f 0 (3*(S.U f-1)+2,tr)) (S.m0+i) (7,.nat m))=S.V f:=zHg λa I=>by
     by_cases e:a=i
     .subst e;rw[fL,zAk (by simp),zAk (by omega)]
     .rw[dL _ _ e];unfold Sp.ph;rw[bJ _ _ (by omega)]
    unfold Sp.mu
    rw[hV]
    have e0:f 0=(3*S.U f+2,(f 0).2):=by rw[<-W]
    have ei:f (S.m0+i)=(8,(f (S.m0+i)).2):=by rw[<-h8];rfl
    obtain⟨v1,v2⟩:=ME (S:=S) (f:=f) (c:=(0,.leaf)) (a:=(3*(S.U f-1)+2,tr)) (b:=(7,.nat m)) hp B (by rw[e0];exact iF (by omega)) (by rw[ei];exact iF (by omega))
    exact Mu.two v1 v2
 .have nh:∀i,i<S.n->S.ph f i≠8:=λi B e=>nb ⟨i,B,e⟩;have na:partners (gs.setIfInBounds 0 Go.Conc.ph) S.Cr aE=[]:=partners_nil λa x v=>by
   obtain⟨_,rfl⟩|⟨_,v⟩:=getElem?_stand _ _ _ _ v
   .exact offersAt_ph _ _
   .obtain e|⟨i,B,_,e8,_⟩:=pE H h v S.Cr
    .exact e
    .exact absurd e8 (nh i B)
  by_cases u:S.ph f S.n=0
  .right;have jf:w.heap[S.Cd]? =aA (.chan 0 #[] aE s0 r0 tm1):=by rw[X];simp[u]
   obtain⟨hv,hl,hw⟩:=h.DJ hy (by omega);have r:=crowd_sel_recv_closed (P:=S.P) (sl:=sl) hg D (k:=1) (z:=zd) (c:=S.Cd) rfl (λa c' I Y=> ?_) jf R
   .refine⟨_,_,_,r,?_⟩;have hR:∀i,i<S.n->S.Rc f i:=λi B=>⟨B,by have:=PO (S:=S) hv B;omega⟩;have e1:aCL 0 g.frame.fn g.frame.place #[]++ #[({g:=0,fn:=l.frame.fn,pos:=l.frame.place,act:= .recvClosed S.Cd}:MemOp)]= #[{g:=0,fn:=l.frame.fn,pos:=l.frame.place,act:= .recvClosed S.Cd}]:=by simp[ofEvents_eq]
    rw[e1];generalize v:({g:=0,fn:=l.frame.fn,pos:=l.frame.place,act:= .recvClosed S.Cd}:MemOp)=x;have M:x.g=0/\x.act= .recvClosed S.Cd:=by rw[<-v];exact⟨rfl,rfl⟩
    have A:∀a,Deaf (t++ #[x]) a=Deaf t a:=λa=>Go.ConcN.Deaf_still t a _ λop o=>by simp only[zAp,zAg,zAt,zCp]at o;subst o;rw[M.2];simp
    have Sa:TI (t++ #[x]) ⟨λ_ _=>False,λ_ _=>False,λ_ _=>False,S.at'⟩ λ_=>False:=by
     refine h.base.ti.Ke (λop o=> ?_) (λ_ _ e=>e.elim) (λ_ _ e=>e.elim) (λ_ _ e=>e.elim) (λb C=>aG C) (λb C=>C) (λa I=>aH ?_)
     .simp only[zAp,zAg,zAt,zCp]at o;subst o;rw[M.2];rfl
     .obtain⟨i,B,e,e8⟩|e:=I
      .have:=PO (S:=S) hv B;omega
      .obtain⟨ic,c1,c2,c3⟩:=h.Fg u;intro p op mg o xr ht;exact PH M c1 c2 hd (c3 p op mg o (xr.trans e) ht)
    refine⟨⟨_,_,_,by rw[zAo (by omega)];rfl,E.done hR w (cQ.refl _ _ w) J⟩,by simp[VS],YE (λa y' I O=> ?_) (λa I=> ?_),?_,λb C=>Sa.Vk C,h.cr⟩
    .rw[A];rw[zAd (by omega)]at O;have hs:=h.FP a y' O;have bU:a<gs.size:=(zAb.1 O).1;by_cases e1:a<S.m0
     .obtain⟨q,_,hq⟩:=hs.2.1 I e1;exact⟨q,hq⟩
     .by_cases e2:a=S.m0+S.n
      .exact(hs.2.2.2 e2).over (by rw[e2];exact u)
      .have ea:a=S.m0+(a-S.m0):=by omega
       have nc:S.ph f (a-S.m0)=(f a).1:=by unfold Sp.ph;rw[<-ea]
       exact(hs.2.2.1 (a-S.m0) (by omega) ea).over (by rw[<-nc];exact PO hv (by omega)) (by rw[<-nc];exact hl _ (by omega))
    .rw[A];exact h.base.above a (by simp at I;omega)
    .refine Sa.past (by rw[A];exact hd) (seen_app h.base.low λop o=> ?_);simp only[zAp,zAg,zAt,zCp]at o;subst o;rw[M.2];exact h.base.oV (aH (aH (aH rfl)))
   .have:a=0:=by
     have:=(zAb.1 Y).1;simp[Sp.cases]at this;omega
    subst this;simp only[Sp.cases,zDj,zDc,aCP]at Y;subst Y;exact ways_recv_none N na
  .left;have W:(f 0).1=3*S.U f+2:=hf.resolve_right u;have G:w.heap[S.Cd]? =aA (.chan 0 #[] aF s0 r0 tm1):=by rw[X];simp[u]
   have r:=crowd_waits (P:=S.P) (sl:=sl) hg D λcc Wp=>by
    simp only[Sp.cases,zAp,zAg,zAt,zCp]at Wp;obtain rfl|rfl:=Wp
    .exact ways_recv_none N na
    .exact ways_recv_none G R
   refine⟨_,_,put f 0 (3*S.U f+1,.leaf),rs,ws,_,r,?_,?_⟩
   .simpa [ofEvents_eq]using h.Uh H E hd nh u
   .unfold Sp.mu;rw[(gY (S:=S) (f:=f) (j:=0) (s:=(3*S.U f+1,.leaf)) λk hk e=>by omega).2.2];have e0:f 0=(3*S.U f+2,(f 0).2):=by rw[<-W]
    exact Mu.one (lX (by omega) (by rw[e0];exact iF (by omega)))
def Sp.dQ.Qv (H:S.Good)(h:S.dQ f gs w t rs ws)(n:gs[0]? =aA g)(M:g.status= .running):S.Step f gs w sl t 0\/S.Ends gs w sl t:=by
 have R:=h.pos;have J:=h.base.live;obtain⟨B,I⟩:=(h.FP 0 g n).1 rfl;generalize u:f 0=f0 at I;cases I with
 | @busy L _ _ j=>
  cases L with
  |leaf=>obtain⟨_,i,v,F,G,d,m⟩:=H.Xk _ _ _ _ _ J (j w (cQ.refl _ _ w) J);exact h.As H n d m B (aG (by rw[u]))
  |node ch=>
   left;obtain⟨_,j⟩:=j;obtain⟨T,p,Q,d,c,o,E⟩:=j w (cQ.refl _ _ w) J;have l:p.heap[S.Wg]? =w.heap[S.Wg]? :=c.keep _ (h.base.oV (aH (aG rfl))) λx=>h.base.off (aH x) (aH (aG rfl));have C:p.heap[S.Cr]? =w.heap[S.Cr]? :=c.keep _ (h.base.oV (aH (aH (aG rfl)))) λx=>h.base.off (aH x) (aH (aH (aG rfl)));have D:p.heap[S.Cd]? =w.heap[S.Cd]? :=c.keep _ (h.base.oV (aH (aH (aH rfl)))) λx=>h.base.off (aH x) (aH (aH (aH rfl)));have K:S.J p:=by obtain⟨a,b,x⟩:=J;exact⟨a,b,l.trans x⟩
   have A:deafBehind 0 Q=0:=deafBehind_still (λe z=>by
    obtain⟨a,wr,s,rfl,_⟩|⟨r,s,rfl,_⟩|x|x|⟨q,x⟩:=o e z
    .simp
    .simp
    .rw[x];simp
    .rw[x];simp
    .rw[x];simp) 0
   refine h.go_own (s:=(3*S.U f+2,ch w)) H n d (by rw[u];exact .right _ ⟨_,_,rfl,rfl⟩) ⟨λb j N=>c.keep b j λx=>N (aG x),c.size,c.tape,c.os,c.output⟩ K (λe z=>aG (o e z)) (aG rfl) C D (λk O e=>by omega) (λk O e x=>by omega) (λe=>by omega) (λ_=>rfl) ?_ (nS H h n K (λe=>by omega) (iQ (by rw[u])) l) (λe=>by omega)
   refine⟨λ_=>⟨by rw[B,A],?_⟩,λe=>by omega,λ_ _ e=>by omega,λe=>by omega⟩
   rw[aZ]
   exact .busy E
 |parked y=>simp[Go.Conc.parked]at M
 | @tries i v F G _ y=>have d:=y.again w (cQ.refl _ _ w) J;have e:=stepG_tries (P:=S.P) (g:=i) (sh:=v) aE (S.cases F G) w;exact h.As H n (e.trans d) y B (aH (h.tries (by rw[u])))
def Sp.dQ.elder (H:S.Good)(h:S.dQ f gs w t rs ws){j:Nat}(u:0<j)(p:j<S.m0)(i:gs[j]? =aA g)(b:g.status= .running):S.Step f gs w sl t j:=by
 obtain⟨q,o,n⟩:=(h.FP j g i).2.1 u p;cases q with
 |zero=>rw[n.1]at b;cases b
 |succ q=>
  obtain⟨l,_⟩|⟨_,v,es,a,c,d⟩:=n
  .rw[l]at b;cases b
  .refine h.go_own (s:=(0,.nat q)) H i (by rw[show(j==0)=aF by simp;omega];exact c w) (by rw[o];exact fR) (uS _ w) h.base.live (λe m=>aH (aH (aH (aH (aH (aH (aH (a e m)))))))) (aH (aH λk e m=>aG (touch_mute (a e (zBc m))))) rfl rfl (λk r e=>by omega) (λk r e x=>by omega) (λe=>by omega) (λe=>by omega) ?_ (nS H h i h.base.live (λe=>by omega) (iQ (by rw[o])) rfl) (λe=>by omega);rw[jE];exact⟨λe=>by omega,λ_ _=>⟨q,rfl,d⟩,λ_ _ e=>by omega,λe=>by omega⟩
def Sp.dQ.Pa (H:S.Good)(h:S.dQ f gs w t rs ws):∃(i:Nat)(g:zH),gs[i]? =aA g/\g.status= .running:=by
 have J:=h.base.live;have L:=h.size;have P:=h.pos;have E:∀a,a<gs.size->∃y,gs[a]? =aA y:=λa N=>⟨_,zAs N⟩;obtain⟨D,q⟩:=E 0 (by omega);obtain x|⟨x,_⟩:=((h.FP 0 D q).1 rfl).2.status H J
 .exact⟨0,D,q,x.1⟩
 .have A:=h.bc x;have C:S.ph f S.n≠0:=λe=>h.shut e x;have l:∀i,i<S.n->S.ph f i≠0->∃y,gs[S.m0+i]? =aA y/\y.status= .running:=λi k O=>by
   obtain⟨y,o⟩:=E (S.m0+i) (by omega);obtain z|z|z:=((h.FP _ y o).2.2.1 i k rfl).status J
   .exact⟨y,o,z.2⟩
   .exact absurd z.1 (A i k)
   .exact absurd z.1 O
  obtain⟨y,o⟩:=h.closer;obtain z|z|z:=((h.FP _ y o).2.2.2 rfl).status H J
  .exact⟨_,y,o,z⟩
  .have K:S.ph f S.n=6:=z.1;cases h.mode y o with
   |a u m hw=>omega
   |b u v m hw=>
    have:∃i,i<S.n/\5<=S.ph f i:=zCj λB=>by
     have:S.V f=0:=by
      unfold Sp.V;rw[zHg (g:=λ_=>0) λi k=>zAh λF=>B ⟨i,k,F⟩];have:∀n,sumTo n (λ_=>0)=0:=λn=>by
       induction n with
       |zero=>rfl
       |succ n I=>rw[Go.ConcN.sumTo,I]
      exact this _
     omega
    obtain⟨i,k,F⟩:=this
    obtain⟨p,j,r⟩:=l i k (by omega)
    exact⟨_,p,j,r⟩
   |c u v i m k hw=>obtain⟨p,j,r⟩:=l i m.1 (by omega);exact⟨_,p,j,r⟩
   |c' u v i m k hw=>obtain⟨p,j,r⟩:=l i m.1 (by omega);exact⟨_,p,j,r⟩
   |d u v m hw M=>exact absurd z.2 M
   |e u v m hw=>omega
  .exact absurd z.1 C
def Sp.dQ.awake (H:S.Good)(h:S.dQ f gs w t rs ws):∀g∈gs,Go.Conc.awake g:=by
 intro y c;have J:=h.base.live;have d:=h.size;obtain⟨a,i,rfl⟩:=Array.mem_iff_getElem.1 c;have b:=h.FP a _ (zAs i);by_cases l:a=0
 .obtain x|x:=(b.1 l).2.status H J
  .exact awake_of (aG x.1)
  .exact awake_of (aH (aG x.2))
 .by_cases k:a<S.m0
  .obtain⟨q,_,e⟩:=b.2.1 (by omega) k;exact awake_of (e.status.elim aG λx=>aH (aH x))
  .by_cases j:a=S.m0+S.n
   .obtain x|x|x:=(b.2.2.2 j).status H J
    .exact awake_of (aG x)
    .exact awake_of (aH (aG x.2))
    .exact awake_of (aH (aH x.2))
   .obtain x|x|x:=(b.2.2.1 (a-S.m0) (by omega) (by omega)).status J
    .exact awake_of (aG x.2)
    .exact awake_of (aH (aG x.2))
    .exact awake_of (aH (aH x.2))
def Sp.dQ.runs (H:S.Good)(h:S.dQ f gs w t rs ws):∃N b k s C,runNT S.P N (crowd gs w sl) t=(.next (crowd b k s),C)/\S.Nk b k C:=by
 generalize z:S.mu f gs=B;induction B using Mu.wf.induction generalizing f gs w t rs ws sl with
 |_ B J=>
  obtain⟨j,g,d,s,c,o,m⟩:=crowd_pick (P:=S.P) (w:=w) (sl:=sl) (h.awake H) (h.Pa H);have e:=h.at d;have K:=h.size;have bU:j<gs.size:=(zAb.1 c).1;have y:S.Step f gs (w.at d) s t j\/(j=0/\S.Ends gs (w.at d) s t):=by
   by_cases T:j=0
   .subst T;exact(e.Qv H c o).imp id λx=>⟨rfl,x⟩
   .by_cases R:j<S.m0
    .exact aG (e.elder H (by omega) R c o)
    .by_cases Q:j=S.m0+S.n
     .subst Q;obtain x|⟨F,E,D⟩:=e.waits (sl:=s) H c o
      .exact aG x
      .exact aG (e.closes H c F E D)
     .obtain⟨i,rfl⟩:∃i,j=S.m0+i:=⟨j-S.m0,by omega⟩;by_cases O:8<=S.ph f i
      .exact aG (e.QH H (by omega) c o O)
      .exact aG (e.worker H (by omega) c o (by omega))
  obtain⟨b,k,U,I,G,ops,a,p,A⟩|⟨rfl,b,k,ops,a,q⟩:=y
  .obtain⟨N,r,u,l,v,L,M⟩:=J _ (z▸A) (sl:=s) p rfl;exact⟨N+1,r,u,l,v,by simp only[runNT,m,a];exact L,M⟩
  .exact⟨1,b,k,s,t++ops,by simp only[runNT,m,a],q⟩
end
end Go.Ga
