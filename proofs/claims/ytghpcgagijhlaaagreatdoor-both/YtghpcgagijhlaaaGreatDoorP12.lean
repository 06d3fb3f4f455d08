import Derived.Test.YtghpcgagijhlaaaGreatDoorP11
set_option linter.all false
set_option maxRecDepth 100000
set_option maxHeartbeats 16000000
open Option renaming some->aA,none->aB
open Bool renaming true->aE,false->aF
open Or renaming inl->aG,inr->aH
open Option.some renaming injEq->aCP
namespace Go.Ga
open Go.Conc Go.Ren Go.Tr Go.Wg
open Go.ConcR (KK WgAt stA smA DC0)
open Go.ConcN (WgLive sumTo sumTo_congr sumTo_upd upd upd_same upd_ne le_sumTo)
variable {S:Sp}
section
variable {f:Nat->Span}{gs:zG}{w:zW}{t:Trace}{rs ws:Nat->zP}{i:Nat}{g g':zH}{sl:Option (Nat×Nat)}
def Sp.dQ.closer (h:S.dQ f gs w t rs ws):∃y,gs[S.m0+S.n]? =aA y:=⟨_,zAs (by have:=h.size;omega)⟩
def BK (h:S.dQ f gs w t rs ws)(p:i<S.n)(o:S.kO f i):(S.ph f S.n=7\/S.ph f S.n=6)/\S.V f=0/\S.kD f i/\(((S.ph f i=3\/S.ph f i=2)/\WgAt S.ty S.Wg w 1 0)\/(S.ph f i=1/\WgAt S.ty S.Wg w 0 0)):=by
 obtain⟨y,s⟩:=h.closer;cases h.mode y s with
 |a l j hw=>exact absurd o (j i p)
 |b l m j hw=>exact absurd o (j i p)
 |c l m k q r hw=>have:i=k:=zCj λe=>q.2 i p e o;subst this;exact⟨l,m,q,aG ⟨r,hw⟩⟩
 |c' l m k q r hw=>have:i=k:=zCj λe=>q.2 i p e o;subst this;exact⟨l,m,q,aH ⟨r,hw⟩⟩
 |d l m j hw u=>exact absurd o (j i p)
 |e l m j hw=>exact absurd o (j i p)
def eH (h:0<S.m0):(S.m0+i==0)=aF:=by simp;omega
def Sp.dQ.said (H:S.Good)(h:S.dQ f gs w t rs ws)(p:i<S.n)(I:gs[S.m0+i]? =aA g){m:Mark}{s:Span}(v:stepG S.P aF g w= .go g' w #[Go.ConcR.mk m])(B:m= .disable\/m= .releaseMerge (stA S.Wg))(bU:Span.Lt s (f (S.m0+i)))
  (L:s.1<8/\S.ph f i<8) (u:5<=s.1/\5<=S.ph f i) (hs:S.WSit (S.val i) (rs (S.m0+i)) (ws (S.m0+i)) s (deafBehind (Deaf t (S.m0+i)) #[Go.ConcR.mk m]) g' w):S.Step f gs w sl t (S.m0+i):=by
 have A:=h.pos
 have F:S.ph f i=(f (S.m0+i)).1:=rfl
 refine h.go_own (s:=s) H I (by rw[eH A];exact v) bU (uS _ w) h.base.live (λe l=> ?_) (aH (aH λk e l=>aG ?_)) rfl rfl (λk j e=>⟨by omega,by omega⟩) (λk j e x=>by omega) (λe=>by omega) (λe=>by omega) ?_ ?_ (λe=>by omega)
 .simp only[zAp,zAg,zAt,zCp]at l;subst l;obtain rfl|rfl:=B
  .exact aH (aH (aG rfl))
  .exact aH (aH (aH (aH (aG ⟨_,aG rfl,rfl⟩))))
 .have l:=zBc l;simp only[zAp,zAg,zAt,zCp]at l;subst l;obtain rfl|rfl:=B<;>rfl
 .rw[jE];exact eW A p hs
 .intro y K;obtain⟨z,E⟩:=h.closer;have J:S.ph (put f (S.m0+i) s) S.n=S.ph f S.n:=dL f s (by omega);have D:∀k,k<S.n->(S.kO (put f (S.m0+i) s) k↔S.kO f k):=λk j=>by
   by_cases e:k=i
   .subst e;unfold Sp.kO;rw[fL];omega
   .unfold Sp.kO;rw[dL _ _ e]
  have C:S.V (put f (S.m0+i) s)=S.V f:=(gY (S:=S) λk j e=>⟨by omega,by omega⟩).2.2;cases h.mode z E with
  |a q o hw=>exact .a (by omega) (λk j x=>o k j ((D k j).1 x)) (by rw[C];exact hw)
  |b q r o hw=>exact .b (by omega) (by omega) (λk j x=>o k j ((D k j).1 x)) (by rw[C];exact hw)
  |c q r k G j hw=>exact absurd (NB (S:=S) p u.2) (by omega)
  |c' q r k G j hw=>exact absurd (NB (S:=S) p u.2) (by omega)
  |d q r o hw hs=>exact absurd (NB (S:=S) p u.2) (by omega)
  |e q r o hw=>exact absurd (NB (S:=S) p u.2) (by omega)
def Sp.dQ.last (H:S.Good)(h:S.dQ f gs w t rs ws)(E:i<S.n)(D:gs[S.m0+i]? =aA g){s:Span}{w':zW}{es:zE}(r:stepG S.P aF g w= .go g' w' es)(q:Deaf t (S.m0+i)=1)(m:S.kO f i)(bU:Span.Lt s (f (S.m0+i)))(L:s.1<5)
  (j:w'=w\/∃a v,w'=w.setCell a v/\a.block=S.Wg) (K:S.J w') (z:(es= #[Go.ConcR.rd (stA S.Wg)]\/es= #[Go.ConcR.wr (stA S.Wg)])\/es=semEvents (smA S.Wg)) (hs:S.WSit (S.val i) (rs (S.m0+i)) (ws (S.m0+i)) s 1 g' w')
  (l:∀y,((gs.map (Go.Conc.woken S.P g g' w')).setIfInBounds (S.m0+i) g')[S.m0+S.n]? =aA y->S.Mode (put f (S.m0+i) s) y.status w'):S.Step f gs w sl t (S.m0+i):=by
 have A:=h.pos
 have C:S.ph f i=(f (S.m0+i)).1:=rfl
 unfold Sp.kO at m
 have G:Go.Ren.Does (Sp.JQ (S:=S) (ws (S.m0+i))) w w':=by
  obtain rfl|⟨a,v,rfl,p⟩:=j
  .exact uS _ _
  .exact BV _ w a v p
 have F:put ws (S.m0+i) (grown (ws (S.m0+i)) w w')=ws:=by
  obtain rfl|⟨a,v,rfl,p⟩:=j
  .exact jE _ _ _
  .exact oE _ _ _ _ _
 have d:∀b,b≠S.Wg->w'.heap[b]? =w.heap[b]? :=λb I=>by
  obtain rfl|⟨a,v,rfl,p⟩:=j
  .rfl
  .exact uM w a v (by rw[p];exact I)
 have u:∀e∈es,(∃a wr,e=(⟨.cell a,wr,aE⟩:Event)/\a.block=S.Wg)\/e=Go.ConcR.mk .disable\/e=Go.ConcR.mk .enable:=λe c=>by
  obtain(rfl|rfl)|rfl:=z
  .simp only[zAp,zAg,zAt,zCp]at c;subst c;exact aG ⟨_,_,rfl,rfl⟩
  .simp only[zAp,zAg,zAt,zCp]at c;subst c;exact aG ⟨_,_,rfl,rfl⟩
  .simp only[semEvents,zAp,zAg,zAt,zCp]at c;obtain rfl|rfl|rfl|rfl:=c
   .exact aH (aG rfl)
   .exact aG ⟨_,_,rfl,rfl⟩
   .exact aG ⟨_,_,rfl,rfl⟩
   .exact aH (aH rfl)
 have o:deafBehind 1 es=1:=by
  obtain(rfl|rfl)|rfl:=z
  .simp[deafBehind,Go.ConcR.rd]
  .simp[deafBehind,Go.ConcR.wr]
  .simp[deafBehind,semEvents]
 refine h.go_own (s:=s) H D (by rw[eH A];exact r) bU G K (λe c=> ?_) (aH (aH λk e c=> ?_)) (d _ λe=>H.chans.2.1 e.symm) (d _ λe=>H.chans.2.2 e.symm) (λk B e=>⟨by omega,by omega⟩) (λk B e x=>by omega) (λe=>by omega) (λe=>by omega) ?_ l (λe=>by omega)
 .obtain⟨a,wr,rfl,p⟩|rfl|rfl:=u e c
  .exact aH (aG ⟨_,_,rfl,p⟩)
  .exact aH (aH (aG rfl))
  .exact aH (aH (aH (aG rfl)))
 .rw[q];obtain(rfl|rfl)|rfl:=z
  .obtain rfl:k=0:=by have:=(zAb.1 c).1;simpa using this
   simp only[zDj,zDc,aCP]at c;subst c;exact aH ⟨⟨_,_,rfl,rfl⟩,by simp[deafBehind]⟩
  .obtain rfl:k=0:=by have:=(zAb.1 c).1;simpa using this
   simp only[zDj,zDc,aCP]at c;subst c;exact aH ⟨⟨_,_,rfl,rfl⟩,by simp[deafBehind]⟩
  .have B:k<4:=by have:=(zAb.1 c).1;simpa [semEvents]using this
   obtain rfl|rfl|rfl|rfl:k=0\/k=1\/k=2\/k=3:=by omega
   .simp[semEvents]at c;subst c;exact aG rfl
   .simp[semEvents]at c;subst c;exact aH ⟨⟨_,_,rfl,rfl⟩,by simp[semEvents,deafBehind]⟩
   .simp[semEvents]at c;subst c;exact aH ⟨⟨_,_,rfl,rfl⟩,by simp[semEvents,deafBehind]⟩
   .simp[semEvents]at c;subst c;exact aG rfl
 .rw[F,q,o];exact eW A E hs
def IC {s:Span}(a:S.kD f i):S.kD (put f (S.m0+i) s) i:=⟨a.1,λk c h b=>a.2 k c h (by unfold Sp.kO at b⊢;rwa [dL _ _ h]at b)⟩
def XR {s:Span}(a:S.kD f i)(hs:s.1=0):S.kI (put f (S.m0+i) s):=λk b h=>by
 by_cases e:k=i
 .subst e;unfold Sp.kO at h;rw[fL]at h;omega
 .exact(IC (s:=s) a).2 k b e h
def ZW {s:Span}(h:S.V f=0)(d:s.1<5)(c:i<S.n)(a:S.ph f i<5):S.V (put f (S.m0+i) s)=0:=by
 rw[(gY (S:=S) λk b e=>⟨?_,?_⟩).2.2]
 .exact h
 .have:S.ph f i=(f (S.m0+i)).1:=rfl;omega
 .have:S.ph f i=(f (S.m0+i)).1:=rfl;omega
def Sp.dQ.worker (H:S.Good)(h:S.dQ f gs w t rs ws)(p:i<S.n)(A:gs[S.m0+i]? =aA g)(N:g.status= .running)(h8:S.ph f i<8):S.Step f gs w sl t (S.m0+i):=by
 have F:=h.pos;have B:=(h.FP _ g A).2.2.1 i p rfl;have j:S.ph f i=(f (S.m0+i)).1:=rfl;generalize o:f (S.m0+i)=s at B;generalize b:Deaf t (S.m0+i)=d at B;have J:=h.base.live;have u:S.m0+i≠S.m0+S.n:=by omega
 rw[o]at j
 cases B with
 |busy hb=>exact absurd h8 (by rw[j];simp)
 |parked hb=>exact absurd N (by simp[Go.Conc.parked])
 | @rm m _ _ C=>
  obtain⟨_,g',a,r,v⟩|⟨r,g',rfl,a,l⟩:=dP C J
  .exact h.said (s:=(6,.nat r)) H p A a (aH rfl) (by rw[o];exact iF (by omega)) ⟨by simp,by omega⟩ ⟨by simp,by rw[j];simp⟩ (by rw[b];exact .ED v)
  .exact h.idle (s:=(7,.nat r)) H A (by omega) a (by rw[o]) (by rw[o];exact fR) (λe=>absurd e u) (by rw[b];exact eW F p (.rm l))
 | @ED m _ _ C=>
  obtain⟨_,g',a,r,v⟩|⟨r,g',rfl,a,l⟩:=dP C J
  .exact h.said (s:=(5,.nat r)) H p A a (aG rfl) (by rw[o];exact iF (by omega)) ⟨by simp,by omega⟩ ⟨by simp,by rw[j];simp⟩ (by rw[b];exact .dn v)
  .exact h.idle (s:=(6,.nat r)) H A (by omega) a (by rw[o]) (by rw[o];exact fR) (λe=>absurd e u) (by rw[b];exact eW F p (.ED l))
 | @dn m _ _ C=>
  obtain I|⟨r,g',rfl,a,l⟩:=dP C J
  .exact h.counts H p A j b I
  .exact h.idle (s:=(5,.nat r)) H A (by omega) a (by rw[o]) (by rw[o];exact fR) (λe=>absurd e u) (by rw[b];exact eW F p (.dn l))
 | @one m _ _ C=>
  obtain I|⟨r,g',rfl,a,l⟩:=dP C J
  .have G:S.kO f i:=by unfold Sp.kO;rw[j];simp
   obtain⟨Q,M,L,⟨_,D⟩|⟨K,_⟩⟩:=BK h p G
   .obtain⟨g',a,r,v⟩:=I.2 D;refine h.last (s:=(2,.nat r)) H p A a b G (by rw[o];exact iF (by omega)) (by simp) (aG rfl) J (aG (aG rfl)) (.null v) λy R=> ?_;exact .c (by rw[dL _ _ (by omega)];exact Q) (ZW M (by simp) p (by omega)) i (IC L) (aH (fL f i _)) D
   .rw[j]at K;simp at K
  .exact h.idle (s:=(3,.nat r)) H A (by omega) a (by rw[o]) (by rw[o];exact fR) (λe=>absurd e u) (by rw[b];exact eW F p (.one l))
 | @null m _ _ C=>
  obtain I|⟨r,g',rfl,a,l⟩:=dP C J
  .have G:S.kO f i:=by unfold Sp.kO;rw[j];simp
   obtain⟨Q,M,L,⟨_,D⟩|⟨K,_⟩⟩:=BK h p G
   .obtain⟨g',a,r,v⟩:=I.2 D;refine h.last (s:=(1,.nat r)) H p A a b G (by rw[o];exact iF (by omega)) (by simp) (aH ⟨_,_,rfl,rfl⟩) ⟨_,_,D.setSt 0⟩ (aG (aH rfl)) (.rel v) λy R=> ?_;exact .c' (by rw[dL _ _ (by omega)];exact Q) (ZW M (by simp) p (by omega)) i (IC L) (fL f i _) (D.setSt 0)
   .rw[j]at K;simp at K
  .exact h.idle (s:=(2,.nat r)) H A (by omega) a (by rw[o]) (by rw[o];exact fR) (λe=>absurd e u) (by rw[b];exact eW F p (.null l))
 | @rel m _ _ C=>
  obtain I|⟨r,g',rfl,a,l⟩:=dP C J
  .have G:S.kO f i:=by unfold Sp.kO;rw[j];simp
   obtain⟨Q,M,L,⟨K,_⟩|⟨_,D⟩⟩:=BK h p G
   .rw[j]at K;simp at K
   .obtain⟨g',a,q,O⟩:=I.2.2 D;refine h.last (s:=(0,.nat q)) H p A a b G (by rw[o];exact iF (by omega)) (by simp) (aH ⟨_,_,rfl,rfl⟩) ⟨_,_,D.setSm 1⟩ (aH rfl) (.quit O) λy R=> ?_;refine .d (by rw[dL _ _ (by omega)];exact Q) (ZW M (by simp) p (by omega)) (XR L rfl) (D.setSm 1) ?_;obtain⟨e,_⟩|⟨_,z,Y,rfl⟩:=iT _ _ _ _ _ _ R
    .omega
    .have E:=(h.FP _ z Y).2.2.2 rfl;have T:(mayWake S.P g&&g'.status != .blocked&&g'.status != .waiting)=aE:=by
      rw[I.2.1];obtain e|e:=O.status<;>rw[e]<;>rfl
     obtain x|x|x:=E.status H J
     .rw[woken_running x,x];simp
     .generalize hfc:f (S.m0+S.n)=fc at E x;generalize hdc:Deaf t (S.m0+S.n)=dc at E;cases E with
      | @blk mm gg _ V L Z=>unfold Go.Conc.woken;rw[zAk T];simp[Goroutine.again,L]
      |Eb V=>rw[V.run J λ_ _ x=>x.1]at x;exact absurd x.2 (by simp)
      |quit V=>exact absurd x.1 (by simp)
      |_=>exact absurd x.1 (by simp)
     .have:S.ph f S.n=(f (S.m0+S.n)).1:=rfl;omega
  .exact h.idle (s:=(1,.nat r)) H A (by omega) a (by rw[o]) (by rw[o];exact fR) (λe=>absurd e u) (by rw[b];exact eW F p (.rel l))
 | @quit q _ _ _ O=>
  cases q with
  |zero=>rw[O.1]at N;cases N
  |succ q=>
   obtain⟨W,_⟩|⟨_,g',es,hm,a,U⟩:=O
   .rw[W]at N;cases N
   .refine h.go_own (s:=(0,.nat q)) H A (by rw[eH F];exact a w) (by rw[o];exact fR) (uS _ w) J (λe X=>aH (aH (aH (aH (aH (aH (aH (hm e X)))))))) (aH (aH λk e X=>aG (touch_mute (hm e (zBc X))))) rfl rfl (λk hk e=>by rw[o];exact⟨Iff.rfl,Iff.rfl⟩) (λk hk e x=>by simp at x) (λe=>absurd e u) (λe=>by omega) ?_ (nS H h A J (λe=>absurd e u) (iQ (by rw[o])) rfl) (λe=>absurd e u);rw[jE,b];exact eW F p (.quit U)
end
end Go.Ga
namespace Go.Ga
open Go.Conc Go.Ren Go.Tr Go.Wg
open Go.ConcR (KK WgAt stA smA DC0)
open Go.ConcN (WgLive sumTo sumTo_congr sumTo_upd upd upd_same upd_ne le_sumTo)
variable {S:Sp}
def Sp.Mode.alike {f f':Nat->Span}{st s:GoStatus}{w w':zW}(h:S.Mode f st w)(E:S.ph f' S.n=S.ph f S.n)(r:∀i,i<S.n->S.ph f' i=S.ph f i\/(5<=S.ph f' i/\5<=S.ph f i))(g:w'.heap[S.Wg]? =w.heap[S.Wg]?)(hs:st≠.blocked->s≠.blocked):S.Mode f' s w':=by
 have B:S.V f'=S.V f:=zHg λi h=>by
  obtain e|e:=r i h
  .rw[e]
  .rw[zAk e.1,zAk e.2]
 have C:∀i,i<S.n->(S.kO f' i↔S.kO f i):=λi h=>by
  unfold Sp.kO;obtain e|e:=r i h
  .rw[e]
  .omega
 have l:S.kI f->S.kI f':=λx i h y=>x i h ((C i h).1 y)
 have p:∀i,S.kD f i->S.kD f' i:=λi x=>⟨x.1,λk A v y=>x.2 k A v ((C k A).1 y)⟩
 have m:∀st z,WgAt S.ty S.Wg w st z->WgAt S.ty S.Wg w' st z:=λ_ _ x=>g.trans x
 cases h with
 |a o j g=>exact .a (by omega) (l j) (by rw[B];exact m _ _ g)
 |b o q j g=>exact .b (by omega) (by omega) (l j) (by rw[B];exact m _ _ g)
 |c o q i j D g=>exact .c (by omega) (by omega) i (p i j) (by have:=r i j.1;omega) (m _ _ g)
 |c' o q i j D g=>exact .c' (by omega) (by omega) i (p i j) (by have:=r i j.1;omega) (m _ _ g)
 |d o q j g u=>exact .d (by omega) (by omega) (l j) (m _ _ g) (hs u)
 |e o q j g=>exact .e (by omega) (by omega) (l j) (m _ _ g)
def ag {f:Nat->Span}{i:Nat}{s:Span}(h:i<S.n)(b:8<=S.ph f i)(c:s.1<8):S.U (put f (S.m0+i) s)+1=S.U f:=by
 have:=sumTo_upd (S.ph f) s.1 (λp=>if 8<=p then 1 else 0) h;simp only[b,zDf]at this;rw[zAh (by omega)]at this;unfold Sp.U;rw[<-show sumTo S.n (λa=>if 8<=upd (S.ph f) i s.1 a then 1 else 0)=sumTo S.n (λa=>if 8<=S.ph (put f (S.m0+i) s) a then 1 else 0)from zHg λa _=>by
  by_cases e:a=i
  .subst e;rw[upd_same,fL]
  .rw[upd_ne _ _ e,dL _ _ e]]
 omega
def nG (w:zW)(c cap:Nat)(buf:zA)(cl:Bool)(s r:Nat)(tm:Bool){b:Nat}(h:b≠c):(w.setChan c cap buf cl s r tm).heap[b]? =w.heap[b]? :=by simp only[World.setChan];rw[zAd λe=>h e.symm]
def nF (w:zW)(c cap:Nat)(buf:zA)(cl:Bool)(s r:Nat)(tm:Bool):(w.setChan c cap buf cl s r tm).heap.size=w.heap.size:=by simp[World.setChan]
def setChan_at {w:zW}{c cap:Nat}{buf:zA}{cl:Bool}{s r:Nat}{tm:Bool}(h:c<w.heap.size):(w.setChan c cap buf cl s r tm).heap[c]? =aA (.chan cap buf cl s r tm):=by simp only[World.setChan];rw[zAo h]
section
variable {f:Nat->Span}{gs:zG}{w:zW}{t:Trace}{rs ws:Nat->zP}{i:Nat}
def Sp.dQ.meet (H:S.Good)(h:S.dQ f gs w t rs ws)(R:i<S.n)(bf:8<=S.ph f i)(M:Deaf t (S.m0+i)=0)(N:Deaf t 0=0){gm gw:zH}{sh:CommShape}{zr zd:zY}{m k d:Nat}{tm:Bool}
  (G:S.Nd (S.Rc f) (rs 0) (ws 0) gm sh zr zd w) (hgo:S.Goes S.D6 m gw w) (Hl:w.heap[S.Cr]? =aA (.chan 0 #[] aF k k tm))
  {x1 x2 x3 x4:MemOp} (X:x1.g=S.m0+i/\x1.act= .send S.Cr k) (W:x2.g=0/\x2.act= .recv S.Cr k 0) (O:x3.g=S.m0+i/\x3.act= .sendDone S.Cr k) (T:x4.g=0/\x4.act= .recvDone S.Cr k)
  {gs':zG} (VS:gs'.size=gs.size) (Wo:gs'[0]? =aA (gm.finishComm S.P (S.cases zr zd) sh 0 (S.val i) aE)) (xn:gs'[S.m0+i]? =aA gw) (A:∀k,k≠0->k≠S.m0+i->gs'[k]? =gs[k]?):
  ∃F,S.dQ (put (put f 0 (3*(S.U f-1)+2,F)) (S.m0+i) (7,.nat m)) gs' ((w.at d).setChan S.Cr 0 #[] aF (k+1) (k+1) tm) (t++ #[x1,x2,x3,x4]) (put rs (S.m0+i) λ_=>False) (put ws (S.m0+i) λ_=>False):=by
 have I:=h.pos
 obtain⟨F,c⟩:=G.got i R (λx=>by have:=x.2;omega)
 refine⟨F,?_⟩
 generalize D:put (put f 0 (3*(S.U f-1)+2,F)) (S.m0+i) (7,.nat m)=u
 have Z:u 0=(3*(S.U f-1)+2,F):=by rw[<-D,bJ _ _ (by omega),aZ]
 have ei:u (S.m0+i)=(7,.nat m):=by rw[<-D,aZ]
 have ek:∀k,k≠0->k≠S.m0+i->u k=f k:=λk h0 L=>by rw[<-D,bJ _ _ L,bJ _ _ h0]
 have pi:S.ph u i=7:=by unfold Sp.ph;rw[ei]
 have v:∀k,k≠i->S.ph u k=S.ph f k:=λk L=>by unfold Sp.ph;rw[ek _ (by omega) (by omega)]
 have hU:S.U u+1=S.U f:=by
  have e:S.U u=S.U (put f (S.m0+i) (7,.nat m)):=zHg λa B=>by
   by_cases e:a=i
   .subst e;rw[pi,fL]
   .rw[v a e,dL _ _ e]
  rw[e]
  exact ag R bf (by simp)
 have hV:S.V u=S.V f:=zHg λa B=>by
  by_cases e:a=i
  .subst e;rw[pi,zAk (by omega),zAk (by omega)]
  .rw[v a e]
 have Zg:S.Rc u=add (S.Rc f) i:=by
  funext a;apply propext;unfold Sp.Rc add;constructor
  .rintro⟨x,y⟩;by_cases e:a=i
   .exact aH e
   .rw[v a e]at y;exact aG ⟨x,y⟩
  .rintro(⟨x,y⟩|rfl)
   .by_cases e:a=i
    .subst e;omega
    .exact⟨x,by rw[v a e];exact y⟩
   .exact⟨R,by omega⟩
 have l:S.Cr<w.heap.size:=(zAb.1 Hl).1
 have heap:∀b,b≠S.Cr->((w.at d).setChan S.Cr 0 #[] aF (k+1) (k+1) tm).heap[b]? =w.heap[b]? :=λb c=>nG (w.at d) _ _ _ _ _ _ _ c
 have q:((w.at d).setChan S.Cr 0 #[] aF (k+1) (k+1) tm).heap.size=w.heap.size:=nF (w.at d) _ _ _ _ _ _ _
 have hJ:S.J ((w.at d).setChan S.Cr 0 #[] aF (k+1) (k+1) tm):=by obtain⟨a,b,x⟩:=h.base.live;exact⟨a,b,(heap _ H.chans.2.1).trans x⟩
 have lK:∀a,cQ (rs a) (ws a) w ((w.at d).setChan S.Cr 0 #[] aF (k+1) (k+1) tm):=λa=>
  ⟨λb c=>heap b λe=>h.base.off c (aH (aH (aG e))),by rw[q];exact zAa _,rfl,rfl,rfl⟩
 have hn:∀op∈#[x1,x2,x3,x4],op.act.touch? =aB:=by
  intro op j;simp only[zAp,zAg,zAt,zCp]at j;obtain rfl|rfl|rfl|rfl:=j
  .rw[X.2];rfl
  .rw[W.2];rfl
  .rw[O.2];rfl
  .rw[T.2];rfl
 have s:∀a,Deaf (t++ #[x1,x2,x3,x4]) a=Deaf t a:=λa=>Go.ConcN.Deaf_still t a _ λop j=>by
  simp only[zAp,zAg,zAt,zCp]at j;obtain rfl|rfl|rfl|rfl:=j
  .rw[X.2];simp
  .rw[W.2];simp
  .rw[O.2];simp
  .rw[T.2];simp
 have r:∀a b,put rs (S.m0+i) (λ_=>False) a b->rs a b/\a≠S.m0+i:=λa b c=>by
  by_cases e:a=S.m0+i
  .subst e;rw[aZ]at c;exact c.elim
  .rw[bJ _ _ e]at c;exact⟨c,e⟩
 have o:∀a b,put ws (S.m0+i) (λ_=>False) a b->ws a b/\a≠S.m0+i:=λa b c=>by
  by_cases e:a=S.m0+i
  .subst e;rw[aZ]at c;exact c.elim
  .rw[bJ _ _ e]at c;exact⟨c,e⟩
 refine⟨I,h.rG,VS.trans h.size,⟨λ{a b} c=> ?_,λ{a a' b} x y=>h.base.QE (o _ _ x).1 (o _ _ y).1,λ{a a' b} x y=>h.base.QF (o _ _ x).1 (r _ _ y).1,λ{a b} c=> ?_,λ{b} c=>by rw[q];exact h.base.oV c,hJ,?_,?_,λa B=>by rw[s];exact h.base.above a B⟩,⟨k+1,tm,setChan_at (w:=w.at d) l⟩,?_,λa y z=> ?_,λy z=> ?_,λe=>by rw[Z]at e;simp at e;omega,λ_ e=>by rw[Z]at e;simp at e;omega,λe=>by rw[Z]at e;simp at e;omega,λhz=> ?_⟩
 .rw[q];exact h.base.lt (c.imp (λx=>(r _ _ x).1) λx=>(o _ _ x).1)
 .exact h.base.off (c.imp (λx=>(r _ _ x).1) λx=>(o _ _ x).1)
 .refine h.base.ti.Ke hn (λa b c=>aG (r a b c).1) (λa b c=>aG (o a b c).1) (λa b c=>aG c) (λb c=>aG c) (λb c=>c) (λa B=> ?_);obtain⟨Q,C,e1,e2⟩|e:=B
  .by_cases e:Q=i
   .subst e;refine aH λp op mg j hg _=> ?_;have L:=knows_own j;rw[hg,e1]at L;exact XX X W O.1 O.2 T M N L
   .exact aG (aG ⟨Q,C,e1,by rw[v _ e];exact e2⟩)
  .exact aG (aH e)
 .rw[q];refine seen_app h.base.low λop j=> ?_;simp only[zAp,zAg,zAt,zCp]at j;obtain rfl|rfl|rfl|rfl:=j
  .rw[X.2];exact l
  .rw[W.2];exact l
  .rw[O.2];exact l
  .rw[T.2];exact l
 .obtain⟨s0,r0,tm1,Kv⟩:=h.cd;refine⟨s0,r0,tm1,?_⟩;rw[heap _ λe=>H.chans.1 e.symm,Kv,v _ (by omega)]
 .rw[s];by_cases Y:a=0
  .subst Y;rw[Wo]at z;obtain rfl:=zAm z;refine⟨λ_=>⟨N,?_⟩,λe=>by omega,λ_ _ e=>by omega,λe=>by omega⟩;rw[Zg,bJ _ _ (by omega),bJ _ _ (by omega),Z];have:S.U f-1=S.U u:=by omega
   rw[this];exact .busy (c.rely (lK 0))
  .by_cases E:a=S.m0+i
   .subst E;rw[xn]at z;obtain rfl:=zAm z;rw[ei,M];exact eW I R (.rm (Sp.Goes.rely hgo hJ))
   .rw[A a Y E]at z;have hs:=(h.FP a y z).rely (lK a) hJ;rw[ek a Y E,hV];refine⟨λe=>absurd e Y,hs.2.1,λQ C e=> ?_,λe=> ?_⟩
    .have:=hs.2.2.1 Q C e;rw[bJ _ _ E,bJ _ _ E];exact this
    .have:=hs.2.2.2 e;rw[bJ _ _ E,bJ _ _ E];exact this
 .rw[A _ (by omega) (by omega)]at z;refine(h.mode y z).alike (v _ (by omega)) (λa B=> ?_) (heap _ H.chans.2.1) id;by_cases e:a=i
  .subst e;exact aH ⟨by omega,by omega⟩
  .exact aG (v a e)
 .rw[v _ (by omega)]at hz;obtain⟨ic,c1,c2,c3⟩:=h.Fg hz;have bU:=lt_of_act? c1;refine⟨ic,by rw[act?_old bU];exact c1,(heard_old bU).2 c2,λp op a I hg B=> ?_⟩;obtain⟨Qr,pq⟩|⟨fe,_,_,j,K⟩:=eA B
  .rw[getElem?_append_old Qr]at I;exact(c3 p op a I hg pq).app _
  .rw[hn fe j]at K;cases K
def ME {a b c:Span}{i:Nat}(e:0<S.m0)(g:i<S.n)(d:Span.Lt a (f 0))(h:Span.Lt b (f (S.m0+i))):QD (vec (S.m0+S.n+1) (put (put f 0 a) (S.m0+i) b)) (vec (S.m0+S.n+1) (put f 0 a))/\QD (vec (S.m0+S.n+1) (put f 0 a)) (vec (S.m0+S.n+1) f):=
 ⟨lX (by omega) (by rw[bJ _ _ (by omega)];exact h),lX (by omega) d⟩
def DF (H:S.Good)(h:S.dQ f gs w t rs ws){a:Nat}{y:zH}(g:gs[a]? =aA y)(m:a=0->(f 0).1≠3*S.U f+1):offersAt y S.Cr aF=[]:=by
 have c:=h.FP a y g;have J:=h.base.live;have bU:a<gs.size:=(zAb.1 g).1;have j:=h.size;by_cases s:a=0
 .subst s;obtain x|x:=(c.1 rfl).2.status H J
  .exact zGt (by rw[x.1];simp) _ _
  .exact absurd x.1 (m rfl)
 .by_cases r:a<S.m0
  .obtain⟨q,_,k⟩:=c.2.1 (by omega) r;exact zGt (by obtain x|x:=k.status<;>rw[x]<;>simp) _ _
  .by_cases p:a=S.m0+S.n
   .have d:=c.2.2.2 p;generalize f a=o at d;generalize Deaf t a=u at d;obtain x|x|x:=d.status H J
    .exact zGt (by rw[x];simp) _ _
    .cases d with
     |blk e l v=>simp[offersAt,l]
     |Eb e=>exact zGt (by rw[e.run J λ_ _ x=>x.1];simp) _ _
     |_=>exact absurd x.1 (by simp)
    .exact zGt (by rw[x.2];simp) _ _
   .have b:=c.2.2.1 (a-S.m0) (by omega) (by omega);generalize f a=o at b;generalize Deaf t a=u at b;obtain x|x|x:=b.status J
    .exact zGt (by rw[x.2];simp) _ _
    .cases b with
     |parked e=>exact offersAt_parked_send' _ _ _ _ _ _
     |_=>exact absurd x.1 (by simp)
    .exact zGt (by rw[x.2];simp) _ _
def pE (H:S.Good)(h:S.dQ f gs w t rs ws){a:Nat}{y:zH}(s:gs[a]? =aA y)(c:Nat):offersAt y c aE=[]\/∃i,i<S.n/\a=S.m0+i/\S.ph f i=8/\∃g z m,y=parked g #[scase S.Cr (S.val i) z] .send/\S.Goes S.D6 m (Go.Conc.served g undef) w/\Deaf t a=0/\offersAt y c aE=if S.Cr=c then [0]else []:=by
 have k:=h.FP a y s;have J:=h.base.live;have bU:a<gs.size:=(zAb.1 s).1;have u:=h.size;by_cases F:a=0
 .subst F;left;have o:=(k.1 rfl).2;generalize f 0=f0 at o;obtain x|x:=o.status H J
  .exact zGt (by rw[x.1];simp) _ _
  .cases o with
   |parked b=>refine offersAt_parked_sends (λK e=> ?_) _;simp only[Sp.cases,zAp,zAg,zAt,zCp]at e;obtain rfl|rfl:=e<;>rfl
   |busy b=>exact absurd x.1 (by simp)
   |tries b=>exact absurd x.1 (by simp)
 .by_cases E:a<S.m0
  .obtain⟨q,_,v⟩:=k.2.1 (by omega) E;exact aG (zGt (by obtain x|x:=v.status<;>rw[x]<;>simp) _ _)
  .by_cases D:a=S.m0+S.n
   .left;have l:=k.2.2.2 D;generalize f a=C at l;generalize Deaf t a=G at l;obtain x|x|x:=l.status H J
    .exact zGt (by rw[x];simp) _ _
    .cases l with
     |blk b A I=>simp[offersAt,A]
     |Eb b=>exact zGt (by rw[b.run J λ_ _ x=>x.1];simp) _ _
     |_=>exact absurd x.1 (by simp)
    .exact zGt (by rw[x.2];simp) _ _
   .have r:a=S.m0+(a-S.m0):=by omega
    have j:=k.2.2.1 (a-S.m0) (by omega) r;have d:S.ph f (a-S.m0)=(f a).1:=by unfold Sp.ph;rw[<-r]
    generalize p:f a=C at j
    rw[p]at d
    generalize B:Deaf t a=G at j
    obtain x|x|x:=j.status J
    .exact aG (zGt (by rw[x.2];simp) _ _)
    .cases j with
     |parked b=>exact aH ⟨a-S.m0,by omega,r,d,_,_,_,rfl,b,rfl,offersAt_parked_send _ _ _ _ _ _⟩
     |_=>exact absurd x.1 (by simp)
    .exact aG (zGt (by rw[x.2];simp) _ _)
end
end Go.Ga
namespace Go.Ga
open Go.Conc Go.Ren Go.Tr Go.Wg
open Go.ConcR (KK WgAt stA smA DC0)
open Go.ConcN (WgLive sumTo sumTo_congr sumTo_upd upd upd_same upd_ne le_sumTo)
variable {S:Sp}
section
variable {f:Nat->Span}{gs:zG}{w:zW}{t:Trace}{rs ws:Nat->zP}{i:Nat}{g:zH}{sl:Option (Nat×Nat)}
def Mx (w:zW):w.at w.drawn=w:=rfl
def Sp.dQ.Xv (H:S.Good)(h:S.dQ f gs w t rs ws)(D:i<S.n)(B:S.ph f i=9){b:zH}{z:zY}{m:Nat}(q:S.Goes S.D6 m (Go.Conc.served b undef) w)(E:Deaf t (S.m0+i)=0)(p:(f 0).1≠3*S.U f+1):
  S.dQ (put f (S.m0+i) (8,.leaf)) (gs.setIfInBounds (S.m0+i) (parked b #[scase S.Cr (S.val i) z] .send)) w t rs ws:=by
 have A:=h.pos
 have v:S.ph f i=(f (S.m0+i)).1:=rfl
 obtain⟨r,o,F⟩:=gY (S:=S) (f:=f) (j:=S.m0+i) (s:=(8,.leaf)) λk C e=>⟨by simp;omega,by simp;omega⟩
 have d:S.Live (put f (S.m0+i) (8,.leaf))=S.Live f:=yM λk C=>by
  by_cases e:k=i
  .subst e;rw[fL];simp;omega
  .rw[dL _ _ e]
 have u:put f (S.m0+i) (8,.leaf) 0=f 0:=bJ _ _ (by omega)
 have l:S.ph (put f (S.m0+i) (8,.leaf)) S.n=S.ph f S.n:=dL _ _ (by omega)
 refine⟨A,h.rG,by simp[h.size],by rw[d];exact h.base,h.cr,by rw[l];exact h.cd,λa y c=> ?_,λy c=> ?_,λe=> ?_,λe=> ?_,λe=> ?_,λe=> ?_⟩
 .rw[r,o,F];by_cases e:a=S.m0+i
  .subst e;have bU:S.m0+i<gs.size:=by have:=h.size;omega
   rw[zAo bU]at c;obtain rfl:=zAm c;rw[aZ,E];exact eW A D (.parked q)
  .rw[zAd (λx=>e x.symm)]at c;rw[bJ _ _ e];exact h.FP a y c
 .rw[zAd (by omega)]at c;refine(h.mode y c).alike l (λa G=> ?_) rfl id;by_cases e:a=i
  .subst e;rw[fL];exact aH ⟨by simp,by omega⟩
  .exact aG (dL _ _ e)
 .rw[o,u]at e;exact absurd e p
 .rw[l]at e;rw[o,u];exact h.shut e
 .rw[o,u]at e;rw[l];exact h.tries e
 .rw[l]at e;exact h.Fg e
def Sp.dQ.QH (H:S.Good)(h:S.dQ f gs w t rs ws)(L:i<S.n)(Z:gs[S.m0+i]? =aA g)(hr:g.status= .running)(h8:8<=S.ph f i):S.Step f gs w sl t (S.m0+i):=by
 have hp:=h.pos;have VS:=h.size;have p:=(h.FP _ g Z).2.2.1 i L rfl;have G:S.ph f i=(f (S.m0+i)).1:=rfl;have K:S.Live f (S.m0+i):=aG ⟨i,L,rfl,h8⟩;generalize M:f (S.m0+i)=s at p;generalize N:Deaf t (S.m0+i)=d at p;have J:=h.base.live;have I:S.m0+i≠S.m0+S.n:=by omega
 rw[M]at G
 cases p with
 | @busy R _ _ O=>
  cases R with
  |node ch=>
   obtain⟨_,O⟩:=O;obtain⟨g',w',es,F,B,Hj,Us⟩:=O w (cQ.refl _ _ w) J;have X:w'.heap[S.Wg]? =w.heap[S.Wg]? :=B.keep _ (h.base.oV (aH (aG rfl))) λx=>h.base.off (aH x) (aH (aG rfl));have v:w'.heap[S.Cr]? =w.heap[S.Cr]? :=B.keep _ (h.base.oV (aH (aH (aG rfl)))) λx=>h.base.off (aH x) (aH (aH (aG rfl)));have Kv:w'.heap[S.Cd]? =w.heap[S.Cd]? :=B.keep _ (h.base.oV (aH (aH (aH rfl)))) λx=>h.base.off (aH x) (aH (aH (aH rfl)));have J':S.J w':=by obtain⟨a,b,x⟩:=J;exact⟨a,b,X.trans x⟩
   have jd:deafBehind 0 es=0:=deafBehind_still (λe he=>by
    obtain⟨a,wr,s,rfl,_⟩|⟨r,s,rfl,_⟩|x|x|⟨q,x⟩:=Hj e he
    .simp
    .simp
    .rw[x];simp
    .rw[x];simp
    .rw[x];simp) 0
   refine h.go_own (s:=(9,ch w)) H Z (by rw[eH hp];exact F) (by rw[M];exact .right _ ⟨_,_,rfl,rfl⟩) ⟨λb O hn=>B.keep b O λx=>hn (aG x),B.size,B.tape,B.os,B.output⟩ J' (λe he=>aG (Hj e he)) (aH (aG K)) v Kv (λk hk e=>by rw[M];exact⟨Iff.rfl,Iff.rfl⟩) (λk hk e x=>by simp at x) (λe=>absurd e I) (λe=>by omega) ?_ (nS H h Z J' (λe=>absurd e I) (iQ (by rw[M])) X) (λe=>absurd e I)
   rw[N,jd]
   refine eW hp L (.busy ?_)
   rw[aZ]
   exact Us
  |leaf=>
   obtain⟨_,l,z,F,m,hgo⟩:=O w (cQ.refl _ _ w) J;obtain⟨k,tm,v⟩:=h.cr;have A:stepG S.P (S.m0+i==0) g w= .comm l #[scase S.Cr (S.val i) z] aE .send w #[]:=by rw[eH hp];exact F
   have C:0<gs.size:=by omega
   have Wo:gs[0]? =aA gs[0]:=zAs C
   obtain⟨yh,hm⟩:=(h.FP 0 _ Wo).1 rfl
   by_cases o:(f 0).1=3*S.U f+1
   .obtain⟨y,W,D,Q,Y,oo⟩:∃y W D Q,S.Nd (S.Rc f) (rs 0) (ws 0) y W D Q w/\gs[0]? =aA (parked y (S.cases D Q) W):=by
     rw[Wo];generalize gs[0]=g0 at hm;generalize oy:f 0=f0 at hm o;cases hm with
     |busy x=>simp at o
     |parked x=>exact⟨_,_,_,_,x,rfl⟩
     |tries x=>simp at o
    have vl:partners (gs.setIfInBounds (S.m0+i) Go.Conc.ph) S.Cr aF=[(0,0)]:=by
     rw[partners_one (j:=0) (g:=parked y (S.cases D Q) W) (stand_get (by omega) oo) λa x ha E=> ?_]
     .rw[offersAt_parked_at (k:=0) (z:=D) (by simp[Sp.cases]) λa cc ha hc=> ?_]
      .rfl
      .have:a=1:=by
        have:=(zAb.1 hc).1;simp[Sp.cases]at this;omega
       subst this;simp only[Sp.cases,zDj,List.getElem?_cons_succ,zDc,aCP]at hc;subst hc;simp only[rcase,ne_eq,Value.chan.injEq,aCP];exactλe=>H.chans.1 e.symm
     .obtain⟨_,rfl⟩|⟨_,E⟩:=getElem?_stand _ _ _ _ E
      .exact offersAt_ph _ _
      .exact DF H h E λe=>absurd e ha
    have u:=crowd_send_meets_sel (sl:=sl) Z A v (by omega) oo (k:=0) (zj:=D) (by simp[Sp.cases]) vl
    obtain⟨R,hinv⟩:=h.meet (m:=m) (d:=w.drawn) H L h8 N yh Y hgo v (gs':=(gs.setIfInBounds 0 (y.finishComm S.P (S.cases D Q) W 0 (S.val i) aE)).setIfInBounds (S.m0+i) (l.finishComm S.P #[scase S.Cr (S.val i) z] .send 0 undef aF))
     (x1:={g:=S.m0+i,fn:=l.frame.fn,pos:=l.frame.place,act:= .send S.Cr k}) (x2:={g:=0,fn:=y.frame.fn,pos:=y.frame.place,act:= .recv S.Cr k 0}) (x3:={g:=S.m0+i,fn:=l.frame.fn,pos:=l.frame.place,act:= .sendDone S.Cr k}) (x4:={g:=0,fn:=y.frame.fn,pos:=y.frame.place,act:= .recvDone S.Cr k})
     ⟨rfl,rfl⟩ ⟨rfl,rfl⟩ ⟨rfl,rfl⟩ ⟨rfl,rfl⟩ (by simp) (by rw[zAd (by omega),zAo C]) (by rw[zAo (by simp;omega),finishComm_send]) λa h0 ha=>by rw[zAd λe=>ha e.symm,zAd λe=>h0 e.symm]
    refine⟨_,_,put (put f 0 (3*(S.U f-1)+2,R)) (S.m0+i) (7,.nat m),put rs (S.m0+i) λ_=>False,put ws (S.m0+i) λ_=>False,_,u,?_,?_⟩
    .simpa [ofEvents_eq,Mx]using hinv
    .have hU:0<S.U f:=by
      have:=le_sumTo (f:=λi=>if 8<=S.ph f i then 1 else 0) L;simp only[h8,zDf]at this;exact this
     have hV:S.V (put (put f 0 (3*(S.U f-1)+2,R)) (S.m0+i) (7,.nat m))=S.V f:=zHg λa ha=>by
      by_cases e:a=i
      .subst e;rw[fL,zAk (by simp),zAk (by omega)]
      .rw[dL _ _ e];unfold Sp.ph;rw[bJ _ _ (by omega)]
     unfold Sp.mu
     rw[hV]
     have e0:f 0=(3*S.U f+1,(f 0).2):=by rw[<-o]
     obtain⟨v1,v2⟩:=ME (S:=S) (f:=f) (c:=(0,.leaf)) (a:=(3*(S.U f-1)+2,R)) (b:=(7,.nat m)) hp L (by rw[e0];exact iF (by omega)) (by rw[M];exact iF (by omega))
     exact Mu.two v1 v2
   .have vn:partners (gs.setIfInBounds (S.m0+i) Go.Conc.ph) S.Cr aF=[]:=partners_nil λa x E=>by
     obtain⟨_,rfl⟩|⟨_,E⟩:=getElem?_stand _ _ _ _ E
     .exact offersAt_ph _ _
     .exact DF H h E λe=>o
    have u:=crowd_waits (sl:=sl) Z A λcc Wp=>by simp only[zAp,zAg,zAt,zCp]at Wp;subst Wp;exact ways_send_none v (by simp) vn
    refine⟨_,_,put f (S.m0+i) (8,.leaf),rs,ws,_,u,?_,?_⟩
    .simpa [ofEvents_eq]using h.Xv (z:=z) H L G hgo N o
    .unfold Sp.mu;rw[(gY (S:=S) (f:=f) (j:=S.m0+i) (s:=(8,.leaf)) λk hk e=>by rw[M];simp).2.2];exact Mu.one (lX (by omega) (by rw[M];exact iF (by omega)))
 |parked O=>exact absurd hr (by simp[Go.Conc.parked])
 |_=>exact absurd h8 (by rw[G];simp)
end
end Go.Ga
